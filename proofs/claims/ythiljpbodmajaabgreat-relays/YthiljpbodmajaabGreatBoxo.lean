/-
  CONTRACTS: package natbox: fromBox, outward.
-/
import Derived.Test.YthiljpbodmajaabGreatBoxw
namespace Go.Proofs.YthiljpbodmajaabGreat
open Go.RowKit Plain
set_option linter.unusedVariables false

/-- an answer as a value -/
def rpv (e d : Int) (s : ByteArray) : Value := .agg #[.int .i64 e, .int .i64 d, .string s]
theorem cell3 {w : World} {g : Nat} {t : TypeId} {fr : Nat × Nat} {v0 v1 v2 : Value} (h : w.heap[g]? = some (.cells #[v0, v1, v2] t fr)) : w.cell? ⟨g, 0, none⟩ = some v0 ∧ w.cell? ⟨g, 1, none⟩ = some v1 ∧ w.cell? ⟨g, 2, none⟩ = some v2 :=
  ⟨cell_of_row w g 0 _ t fr h, cell_of_row w g 1 _ t fr h, cell_of_row w g 2 _ t fr h⟩
set_option maxHeartbeats 4000000 in
theorem fromBox_yes {w : World} (b : Nat) (s s1 : ByteArray) (oa p sa sp da pp id x : Int) (hb : b < w.heap.size) (cP : Ret 77 #[.string s] (.int .i64 p)) (cS : RetB 136 #[.string s] (.agg #[.int .i64 sa, .int .i64 sp])) (cD : RetB 118 #[.string s] (.agg #[.int .i64 da, .int .i64 pp]))
    (cI : ∀ wx, Below w.heap.size w wx → Calls Tryz.prog 138 #[.pointer (some ⟨b, 0, none⟩), .int .i64 p] wx fun e w' => e = .returned (.int .i64 id) ∧ w' = wx)
    (R : World → World → Prop)
    (cU : ∀ wx, Below w.heap.size w wx → Calls Tryz.prog 137 #[.pointer (some ⟨b, 12, none⟩), .int .i64 p, .agg #[.int .i64 sa, .int .i64 sp], .agg #[.int .i64 da, .int .i64 pp], .int .i64 id] wx fun e w' => e = .returned (.tuple #[.int .i64 x, .int .i64 0]) ∧ R wx w')
    (hR : ∀ wx w', R wx w' → w'.cell? ⟨b, 1, none⟩ = some (.int .i64 oa))
    (cW : RetB 121 #[.string s, .agg #[.int .i64 oa, .int .i64 x]] (.string s1)) (Q : World → Prop)
    (hQ : ∀ wx w1 w2, Below w.heap.size w wx → R wx w1 → Below w1.heap.size w1 w2 → Q w2) :
    Calls Tryz.prog 89 #[.pointer (some ⟨b, 0, none⟩), .string s] w fun e w' => e = .returned (.tuple #[.string s1, .int .i64 0]) ∧ Q w' := by
  have CI : Hid _ := cI
  have CU : Hid _ := cU
  have HR : Hid _ := hR
  have HQ : Hid _ := hQ
  clear cI cU hR hQ
  go_enter Tryz.func89, Tryz.ntmps89
  go_wp2_with fail
  refine Calls.mono (cP.at _) ?_; rintro e w' ⟨rfl, hw⟩; replace hw := hw.symm; subst hw
  go_wp2_with fail
  refine Calls.mono (cS.at _) ?_; rintro e w2 ⟨rfl, hb2⟩
  have HW2 : Hid (Below w.heap.size w w2) := hb2
  have hz2 : w.heap.size ≤ w2.heap.size := hb2.size
  clear hb2
  go_wp2_with fail
  refine Calls.mono (cD.at _) ?_; rintro e w3 ⟨rfl, hb3⟩
  have E3 := (hb3.block w2.heap.size (by simp)).trans (alloc1 w2 _)
  have HW3 : Hid (Below w2.heap.size w2 w3) := ((Below.refl w2.heap.size w2).alloc (Nat.le_refl _) _).trans (hb3.mono (by simp))
  have hz3 : w2.heap.size < w3.heap.size := by have := hb3.size; simp at this; omega
  obtain ⟨c0, c1⟩ := cell2 E3
  clear hb3 E3
  have HW : Hid (∀ wx, Below w3.heap.size w3 wx → Below w.heap.size w wx) := fun wx hx => (HW2.out.trans (HW3.out.mono (by omega))).trans (hx.mono (by omega))
  go_wp2
  go_region_with (first
    | (go_at_call 138; refine Calls.mono (CI.out _ (HW.out _ (((Below.refl _ _).alloc (Nat.le_refl _) _).drew))) ?_; rintro e w' ⟨rfl, hw⟩; replace hw := hw.symm; subst hw)
    | (go_at_call 137; refine Calls.mono (CU.out _ (HW.out _ (((Below.refl _ _).alloc (Nat.le_refl _) _).drew))) ?_; rintro e w4 ⟨rfl, hr4⟩))
  all_goals
    have hbx := HW.out _ (((Below.refl w3.heap.size w3).alloc (Nat.le_refl _) (.cells #[.int .i64 da, .int .i64 pp] 113)).drew)
    have H4 : Hid _ := And.intro hr4 hbx
    have ho4 := HR.out _ _ hr4
    clear hr4 hbx
    go_wp2_with fail
    refine Calls.mono (cW.at _) ?_; rintro e w5 ⟨rfl, hb5⟩
    go_wp2
    go_ret2
    exact ⟨rfl, HQ.out _ _ _ H4.out.2 H4.out.1 hb5⟩
set_option maxHeartbeats 4000000 in
theorem fromBox_no {w : World} (b : Nat) (s : ByteArray) (p sa sp da pp id x er : Int) (hb : b < w.heap.size) (cP : Ret 77 #[.string s] (.int .i64 p)) (cS : RetB 136 #[.string s] (.agg #[.int .i64 sa, .int .i64 sp])) (cD : RetB 118 #[.string s] (.agg #[.int .i64 da, .int .i64 pp]))
    (cI : ∀ wx, Below w.heap.size w wx → Calls Tryz.prog 138 #[.pointer (some ⟨b, 0, none⟩), .int .i64 p] wx fun e w' => e = .returned (.int .i64 id) ∧ w' = wx)
    (R : World → World → Prop)
    (cU : ∀ wx, Below w.heap.size w wx → Calls Tryz.prog 137 #[.pointer (some ⟨b, 12, none⟩), .int .i64 p, .agg #[.int .i64 sa, .int .i64 sp], .agg #[.int .i64 da, .int .i64 pp], .int .i64 id] wx fun e w' => e = .returned (.tuple #[.int .i64 x, .int .i64 er]) ∧ R wx w')
    (hR : ∀ wx w', R wx w' → True) (he : (er != 0) = true) (Q : World → Prop)
    (hQ : ∀ wx w1 w2, Below w.heap.size w wx → R wx w1 → Below w1.heap.size w1 w2 → Q w2) :
    Calls Tryz.prog 89 #[.pointer (some ⟨b, 0, none⟩), .string s] w fun e w' => e = .returned (.tuple #[.string ⟨#[]⟩, .int .i64 er]) ∧ Q w' := by
  have CI : Hid _ := cI
  have CU : Hid _ := cU
  have HR : Hid _ := hR
  have HQ : Hid _ := hQ
  clear cI cU hR hQ
  go_enter Tryz.func89, Tryz.ntmps89
  go_wp2_with fail
  refine Calls.mono (cP.at _) ?_; rintro e w' ⟨rfl, hw⟩; replace hw := hw.symm; subst hw
  go_wp2_with fail
  refine Calls.mono (cS.at _) ?_; rintro e w2 ⟨rfl, hb2⟩
  have HW2 : Hid (Below w.heap.size w w2) := hb2
  have hz2 : w.heap.size ≤ w2.heap.size := hb2.size
  clear hb2
  go_wp2_with fail
  refine Calls.mono (cD.at _) ?_; rintro e w3 ⟨rfl, hb3⟩
  have E3 := (hb3.block w2.heap.size (by simp)).trans (alloc1 w2 _)
  have HW3 : Hid (Below w2.heap.size w2 w3) := ((Below.refl w2.heap.size w2).alloc (Nat.le_refl _) _).trans (hb3.mono (by simp))
  have hz3 : w2.heap.size < w3.heap.size := by have := hb3.size; simp at this; omega
  obtain ⟨c0, c1⟩ := cell2 E3
  clear hb3 E3
  have HW : Hid (∀ wx, Below w3.heap.size w3 wx → Below w.heap.size w wx) := fun wx hx => (HW2.out.trans (HW3.out.mono (by omega))).trans (hx.mono (by omega))
  go_wp2
  go_region_with (first
    | (go_at_call 138; refine Calls.mono (CI.out _ (HW.out _ (((Below.refl _ _).alloc (Nat.le_refl _) _).drew))) ?_; rintro e w' ⟨rfl, hw⟩; replace hw := hw.symm; subst hw)
    | (go_at_call 137; refine Calls.mono (CU.out _ (HW.out _ (((Below.refl _ _).alloc (Nat.le_refl _) _).drew))) ?_; rintro e w4 ⟨rfl, hr4⟩))
  all_goals
    have hbx := HW.out _ (((Below.refl w3.heap.size w3).alloc (Nat.le_refl _) (.cells #[.int .i64 da, .int .i64 pp] 113)).drew)
    have H4 : Hid _ := And.intro hr4 hbx
    have ho4 := HR.out _ _ hr4
    clear hr4 hbx
    go_wp2
    go_ret2
    exact ⟨rfl, HQ.out _ _ _ H4.out.2 H4.out.1 (Below.refl _ _)⟩
set_option maxHeartbeats 4000000 in
theorem outward_yes {w : World} (b : Nat) (s s1 s2 : ByteArray) (om : Int) (hb : b < w.heap.size) (h6 : w.cell? ⟨b, 6, none⟩ = some (.int .i64 om)) (cM : Ret 84 #[.string s, .int .i64 om] (.int .i64 0))
    (R : World → World → Prop)
    (cB : ∀ wx, Below w.heap.size w wx → Calls Tryz.prog 89 #[.pointer (some ⟨b, 0, none⟩), .string s] wx fun e w' => e = .returned (.tuple #[.string s1, .int .i64 0]) ∧ R wx w')
    (hR : ∀ wx w', R wx w' → wx.heap.size ≤ w'.heap.size ∧ (∀ k, w.heap.size ≤ k → k < wx.heap.size → w'.heap[k]? = wx.heap[k]?))
    (cT : RetB 87 #[.string s1] (.string s2)) (Q : World → Prop)
    (hQ : ∀ wx w1 w2, Below w.heap.size w wx → w.heap.size < wx.heap.size → R wx w1 → Below w1.heap.size w1 w2 → ∀ u0 u1 u2, Q (((w2.setCell ⟨w.heap.size, 0, none⟩ u0).setCell ⟨w.heap.size, 1, none⟩ u1).setCell ⟨w.heap.size, 2, none⟩ u2)) :
    Calls Tryz.prog 53 #[.pointer (some ⟨b, 0, none⟩), .string s] w fun e w' => e = .returned (rpv 0 1 s2) ∧ Q w' := by
  have CB : Hid _ := cB
  have HR : Hid _ := hR
  have HQ : Hid _ := hQ
  clear cB hR hQ
  go_enter Tryz.func53, Tryz.ntmps53
  go_wp2_with fail
  refine Calls.mono (cM.at _) ?_; rintro e w' ⟨rfl, hw⟩; replace hw := hw.symm; subst hw
  go_wp2_with fail
  refine Calls.mono (CB.out _ ((Below.refl _ _).alloc (Nat.le_refl _) _)) ?_; rintro e w1 ⟨rfl, hr⟩
  obtain ⟨hz1, hk1⟩ := HR.out _ _ hr
  have B1 := (hk1 w.heap.size (Nat.le_refl _) (by simp)).trans (alloc1 w _)
  have hzz : w.heap.size < w1.heap.size := by simp at hz1; omega
  have H1 : Hid _ := hr
  have HB1 : Hid _ := B1
  clear hk1 hr hz1 B1
  go_wp2_with fail
  refine Calls.mono (cT.at _) ?_; rintro e w2 ⟨rfl, hb2⟩
  have B2 := (hb2.block w.heap.size hzz).trans HB1.out
  obtain ⟨d0, d1, d2⟩ := cell3 B2
  have f0 := nofrz B2
  have H2 : Hid _ := hb2
  clear hb2 B2
  go_wp2
  exact bodyPost_ret (v := rpv 0 1 s2) (by simp [results, Tryz.results53, go_sem, rpv, d0, d1, d2]) rfl ⟨rfl, HQ.out _ _ _ ((Below.refl _ _).alloc (Nat.le_refl _) _) (by simp) H1.out H2.out _ _ _⟩
set_option maxHeartbeats 4000000 in
theorem outward_bad {w : World} (b : Nat) (s s2 : ByteArray) (om k d2 : Int) (hb : b < w.heap.size) (h6 : w.cell? ⟨b, 6, none⟩ = some (.int .i64 om)) (hk : (k != 0) = true) (cM : Ret 84 #[.string s, .int .i64 om] (.int .i64 k))
    (R : World → World → Prop)
    (cR : ∀ wx, Below w.heap.size w wx → Calls Tryz.prog 85 #[.pointer (some ⟨b, 0, none⟩), .int .i64 k, .int .i64 0, .string s, .int .i64 om] wx fun e w' => e = .returned (rpv k d2 s2) ∧ R wx w')
    (hR : ∀ wx w', R wx w' → wx.heap.size ≤ w'.heap.size ∧ (∀ k, w.heap.size ≤ k → k < wx.heap.size → w'.heap[k]? = wx.heap[k]?)) (Q : World → Prop)
    (hQ : ∀ wx w1, Below w.heap.size w wx → w.heap.size < wx.heap.size → R wx w1 → ∀ u0 u1 u2, Q (((w1.setCell ⟨w.heap.size, 0, none⟩ u0).setCell ⟨w.heap.size, 1, none⟩ u1).setCell ⟨w.heap.size, 2, none⟩ u2)) :
    Calls Tryz.prog 53 #[.pointer (some ⟨b, 0, none⟩), .string s] w fun e w' => e = .returned (rpv k d2 s2) ∧ Q w' := by
  unfold rpv at cR
  have CR : Hid _ := cR
  have HR : Hid _ := hR
  have HQ : Hid _ := hQ
  clear cR hR hQ
  go_enter Tryz.func53, Tryz.ntmps53
  go_wp2_with fail
  refine Calls.mono (cM.at _) ?_; rintro e w' ⟨rfl, hw⟩; replace hw := hw.symm; subst hw
  have HX : Hid _ := (Below.refl w.heap.size w).alloc (Nat.le_refl _) (.cells #[.int .i64 0, .int .i64 0, .string ⟨#[]⟩] 42)
  have BX : Hid _ := alloc1 w (.cells #[.int .i64 0, .int .i64 0, .string ⟨#[]⟩] 42)
  have hzX : w.heap.size < (w.alloc (.cells #[.int .i64 0, .int .i64 0, .string ⟨#[]⟩] 42)).heap.size := by simp
  go_wp2_with fail
  refine Calls.mono (CR.out _ HX.out) ?_; rintro e w5 ⟨rfl, hr5⟩
  obtain ⟨hz5, hk5⟩ := HR.out _ _ hr5
  have B5 := (hk5 w.heap.size (Nat.le_refl _) hzX).trans BX.out
  obtain ⟨d0, d1, d2'⟩ := cell3 B5
  have f0 := nofrz B5
  have H5 : Hid _ := hr5
  clear B5 hk5 hr5
  go_wp2
  exact bodyPost_ret (v := rpv k d2 s2) (by simp [results, Tryz.results53, go_sem, rpv, d0, d1, d2']) rfl ⟨rfl, HQ.out _ _ HX.out hzX H5.out _ _ _⟩
set_option maxHeartbeats 4000000 in
theorem outward_no {w : World} (b : Nat) (s s2 : ByteArray) (om k d2 : Int) (hb : b < w.heap.size) (h6 : w.cell? ⟨b, 6, none⟩ = some (.int .i64 om)) (hk : (k != 0) = true) (cM : Ret 84 #[.string s, .int .i64 om] (.int .i64 0))
    (s1 : ByteArray) (cB : ∀ wx, Below w.heap.size w wx → Calls Tryz.prog 89 #[.pointer (some ⟨b, 0, none⟩), .string s] wx fun e w' => e = .returned (.tuple #[.string s1, .int .i64 k]) ∧ Below wx.heap.size wx w')
    (R : World → World → Prop)
    (cR : ∀ wx, Below w.heap.size w wx → Calls Tryz.prog 85 #[.pointer (some ⟨b, 0, none⟩), .int .i64 k, .int .i64 0, .string s, .int .i64 om] wx fun e w' => e = .returned (rpv k d2 s2) ∧ R wx w')
    (hR : ∀ wx w', R wx w' → wx.heap.size ≤ w'.heap.size ∧ (∀ k, w.heap.size ≤ k → k < wx.heap.size → w'.heap[k]? = wx.heap[k]?)) (Q : World → Prop)
    (hQ : ∀ wx w1, Below w.heap.size w wx → w.heap.size < wx.heap.size → R wx w1 → ∀ u0 u1 u2, Q (((w1.setCell ⟨w.heap.size, 0, none⟩ u0).setCell ⟨w.heap.size, 1, none⟩ u1).setCell ⟨w.heap.size, 2, none⟩ u2)) :
    Calls Tryz.prog 53 #[.pointer (some ⟨b, 0, none⟩), .string s] w fun e w' => e = .returned (rpv k d2 s2) ∧ Q w' := by
  unfold rpv at cR
  have CR : Hid _ := cR
  have HR : Hid _ := hR
  have HQ : Hid _ := hQ
  clear cR hR hQ
  have CB : Hid _ := cB
  clear cB
  go_enter Tryz.func53, Tryz.ntmps53
  go_wp2_with fail
  refine Calls.mono (cM.at _) ?_; rintro e w' ⟨rfl, hw⟩; replace hw := hw.symm; subst hw
  go_wp2_with fail
  refine Calls.mono (CB.out _ ((Below.refl _ _).alloc (Nat.le_refl _) _)) ?_; rintro e w1 ⟨rfl, hr⟩
  have HX : Hid (Below w.heap.size w w1) := ((Below.refl w.heap.size w).alloc (Nat.le_refl _) _).trans (hr.mono (by simp))
  have BX : Hid _ := (hr.block w.heap.size (by simp)).trans (alloc1 w _)
  have hzX : w.heap.size < w1.heap.size := by have := hr.size; simp at this; omega
  have h6' : w1.cell? ⟨b, 6, none⟩ = some (.int .i64 om) := (HX.out.cell (p := ⟨b, 6, none⟩) hb).trans h6
  have hbX : b < w1.heap.size := by omega
  clear hr
  go_wp2_with fail
  refine Calls.mono (CR.out _ HX.out) ?_; rintro e w5 ⟨rfl, hr5⟩
  obtain ⟨hz5, hk5⟩ := HR.out _ _ hr5
  have B5 := (hk5 w.heap.size (Nat.le_refl _) hzX).trans BX.out
  obtain ⟨d0, d1, d2'⟩ := cell3 B5
  have f0 := nofrz B5
  have H5 : Hid _ := hr5
  clear B5 hk5 hr5
  go_wp2
  exact bodyPost_ret (v := rpv k d2 s2) (by simp [results, Tryz.results53, go_sem, rpv, d0, d1, d2']) rfl ⟨rfl, HQ.out _ _ HX.out hzX H5.out _ _ _⟩
end Go.Proofs.YthiljpbodmajaabGreat
