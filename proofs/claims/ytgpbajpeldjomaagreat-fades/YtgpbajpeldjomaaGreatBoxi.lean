/-
  CONTRACTS: package natbox: inward.
-/
import Derived.Test.YtgpbajpeldjomaaGreatBoxo
namespace Go.Proofs.YtgpbajpeldjomaaGreat
open Go.RowKit Plain
set_option linter.unusedVariables false

theorem inward_er (b : Nat) (s : ByteArray) (w : World) (cE : Ret 82 #[.string s] (.bool true)) :
    Calls Tryz.prog 49 #[.pointer (some ⟨b, 0, none⟩), .string s] w fun e w' => e = .returned (rpv 8 0 ⟨#[]⟩) ∧ Below w.heap.size w w' := by
  go_enter Tryz.func49, Tryz.ntmps49
  go_wp2_with fail
  refine Calls.mono (cE.at _) ?_; rintro e w' ⟨rfl, rfl⟩
  go_wp2
  exact bodyPost_ret (v := rpv 8 0 ⟨#[]⟩) (by simp [results, Tryz.results49, go_sem, rpv]) rfl ⟨rfl, (Below.refl _ _).alloc (Nat.le_refl _) _⟩
set_option maxHeartbeats 4000000 in
theorem inward_go {w : World} (b : Nat) (s s1 s2 : ByteArray) (im p da dp ea ep : Int) (found : Bool) (hb : b < w.heap.size) (h5 : w.cell? ⟨b, 5, none⟩ = some (.int .i64 im)) (cE : Ret 82 #[.string s] (.bool false))
    (cD : RetB 83 #[.string s] (.agg #[.int .i64 da, .int .i64 dp])) (cP : Ret 85 #[.string s] (.int .i64 p))
    (cT : ∀ wx, Below w.heap.size w wx → Calls Tryz.prog 84 #[.pointer (some ⟨b, 12, none⟩), .int .i64 p, .int .i64 dp] wx fun e w' => e = .returned (.tuple #[.agg #[.int .i64 ea, .int .i64 ep], .bool found]) ∧ Below wx.heap.size wx w')
    (cM : found = true → Ret 86 #[.string s, .int .i64 im] (.int .i64 0))
    (hX : found = true → RetB 88 #[.string s, .agg #[.int .i64 ea, .int .i64 ep]] (.string s1) ∧ RetB 89 #[.string s1] (.string s2)) :
    Calls Tryz.prog 49 #[.pointer (some ⟨b, 0, none⟩), .string s] w fun e w' => e = .returned (if found then rpv 0 0 s2 else rpv 8 0 ⟨#[]⟩) ∧ Below w.heap.size w w' := by
  have CT : Hid _ := cT
  have CM : Hid _ := cM
  have HX : Hid _ := hX
  clear cT cM hX
  go_enter Tryz.func49, Tryz.ntmps49
  go_wp2_with fail
  refine Calls.mono (cE.at _) ?_; rintro e w' ⟨rfl, hw⟩; replace hw := hw.symm; subst hw
  go_wp2_with fail
  refine Calls.mono (cD.at _) ?_; rintro e w1 ⟨rfl, hb1⟩
  have B1 : Hid _ := (hb1.block w.heap.size (by simp)).trans (alloc1 w _)
  have HW1 : Hid (Below w.heap.size w w1) := ((Below.refl w.heap.size w).alloc (Nat.le_refl _) _).trans (hb1.mono (by simp))
  have hz1 : w.heap.size < w1.heap.size := by have := hb1.size; simp at this; omega
  clear hb1
  have E1 := alloc1 w1 (.cells #[.int .i64 da, .int .i64 dp] 124)
  have HW : Hid (∀ wx, Below w1.heap.size w1 wx → Below w.heap.size w wx) := fun wx hx => HW1.out.trans (hx.mono (by omega))
  clear E1
  go_wp2
  have hne : ¬ w.heap.size = w1.heap.size + 1 := by omega
  have hnb : ¬ b = w1.heap.size + 1 := by omega
  go_region_with (first
    | (go_at_call 85; refine Calls.mono (cP.at _) ?_; rintro e w' ⟨rfl, hw⟩; replace hw := hw.symm; subst hw)
    | (go_at_call 84
       refine Calls.mono (CT.out _ (HW.out _ (((Below.refl _ _).alloc (Nat.le_refl _) _).drew))) ?_
       rintro e w4 ⟨rfl, hr4⟩
       have hbx : Below w1.heap.size w1 w4 := (((Below.refl w1.heap.size w1).alloc (Nat.le_refl _) _).drew).trans (hr4.mono (by simp))
       have H4 : Hid (Below w1.heap.size w1 w4) := hbx
       clear hr4 hbx)
    | (go_at_call 84
       refine Calls.mono (CT.out _ (HW.out _ ((((Below.refl _ _).alloc (Nat.le_refl _) _).alloc (by simp) _).drew))) ?_
       rintro e w4 ⟨rfl, hr4⟩
       have E4 := (hr4.block (w1.heap.size + 1) (by simp)).trans (alloc2 w1 _ _).2
       obtain ⟨x0, x1⟩ := cell2 E4
       have fx := nofrz E4
       have hbx : Below w1.heap.size w1 w4 := ((((Below.refl w1.heap.size w1).alloc (Nat.le_refl _) _).alloc (by simp) _).drew).trans (hr4.mono (by simp; omega))
       have H4 : Hid (Below w1.heap.size w1 w4) := hbx
       have hx4 : w1.heap.size + 1 < w4.heap.size := by have := hr4.size; simp at this; omega
       clear hr4 hbx E4))
  all_goals
    have B4 := (H4.out.block w.heap.size hz1).trans B1.out
    have h5' : w4.cell? ⟨b, 5, none⟩ = some (.int .i64 im) := ((HW.out _ H4.out).cell (p := ⟨b, 5, none⟩) hb).trans h5
    obtain ⟨d0, d1, d2⟩ := cell3 B4
    have f0 := nofrz B4
    have hzz : w.heap.size < w4.heap.size := by have := H4.out.size; omega
    have hzb : b < w4.heap.size := by omega
    have hzw : w1.heap.size ≤ w4.heap.size := H4.out.size
    have HH4 : Hid (Below w.heap.size w w4) := HW.out _ H4.out
    have HB4 : Hid _ := B4
    clear B4
    cases found
    · go_wp2
      refine bodyPost_ret (v := rpv 8 0 ⟨#[]⟩) (by simp [results, Tryz.results49, go_sem, rpv, d0, d1, d2, hzz]) rfl ⟨rfl, ?_⟩
      repeat (first | refine Below.setCell ?_ (by simp <;> omega) _ | refine Below.alloc ?_ (by first | omega | (simp <;> omega)) _)
      exact HH4.out
    · have hm := CM.out rfl
      have HXt := HX.out rfl
      obtain ⟨cW, cS⟩ := HXt
      clear HX
      go_wp2_with fail
      refine Calls.mono (hm.at _) ?_; rintro e w' ⟨rfl, hw⟩; replace hw := hw.symm; subst hw
      go_wp2_with fail
      refine Calls.mono (cW.at _) ?_; rintro e w5 ⟨rfl, hb5⟩
      go_wp2_with fail
      refine Calls.mono (cS.at _) ?_; rintro e w6 ⟨rfl, hb6⟩
      have hz5 : w.heap.size < w5.heap.size := by have := hb5.size; simp at this; omega
      have BB : w6.heap[w.heap.size]? = w4.heap[w.heap.size]? := by
        rw [hb6.block _ hz5, hb5.block _ (by simp; omega)]
        first
        | exact Below.heap_alloc _ _ _ hzz
        | rw [Below.heap_setCell _ _ _ _ (by simp; omega), Below.heap_setCell _ _ _ _ (by simp; omega)]
      have B6 := BB.trans HB4.out
      obtain ⟨d0', d1', d2'⟩ := cell3 B6
      have f0' := nofrz B6
      have H6 : Hid (Below w.heap.size w w6) := by
        refine Below.trans ?_ ((hb5.trans (hb6.mono hb5.size)).mono (by simp; omega))
        repeat (first | refine Below.setCell ?_ (by simp <;> omega) _ | refine Below.alloc ?_ (by first | omega | (simp <;> omega)) _)
        exact HH4.out
      clear hb5 hb6 BB B6 d0 d1 d2 f0
      go_wp2
      refine bodyPost_ret (v := rpv 0 0 s2) (by simp [results, Tryz.results49, go_sem, rpv, d0', d1', d2']) rfl ⟨rfl, ?_⟩
      repeat refine Below.setCell ?_ (by simp <;> omega) _
      exact H6.out
end Go.Proofs.YtgpbajpeldjomaaGreat
