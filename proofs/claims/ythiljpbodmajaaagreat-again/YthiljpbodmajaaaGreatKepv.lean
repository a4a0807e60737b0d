/-
  CONTRACTS: natbox.Mapping, Live; natboxkeep.passes, holds.
-/
import Derived.Test.YthiljpbodmajaaaGreatBoxa
import Derived.Test.YthiljpbodmajaaaGreatTabf
import Derived.Test.YthiljpbodmajaaaGreatKepg
namespace Go.Proofs.YthiljpbodmajaaaGreat
open Go.RowKit Plain
set_option linter.unusedVariables false

theorem cell6 {w : World} {g : Nat} {t : TypeId} {fr : Nat × Nat} {v0 v1 v2 v3 v4 v5 : Value} (h : w.heap[g]? = some (.cells #[v0, v1, v2, v3, v4, v5] t fr)) : w.cell? ⟨g, 0, none⟩ = some v0 ∧ w.cell? ⟨g, 1, none⟩ = some v1 ∧ w.cell? ⟨g, 2, none⟩ = some v2 ∧ w.cell? ⟨g, 3, none⟩ = some v3 ∧ w.cell? ⟨g, 4, none⟩ = some v4 ∧ w.cell? ⟨g, 5, none⟩ = some v5 :=
  ⟨cell_of_row w g 0 _ t fr h, cell_of_row w g 1 _ t fr h, cell_of_row w g 2 _ t fr h, cell_of_row w g 3 _ t fr h, cell_of_row w g 4 _ t fr h, cell_of_row w g 5 _ t fr h⟩
theorem mapping_core {w : World} (b : Nat) (i m0 m1 m2 m3 m4 m5 er : Int) (cA : ∀ wx, Below w.heap.size w wx → Calls Tryz.prog 63 #[.pointer (some ⟨b, 12, none⟩), .int .i64 i] wx fun e w' => e = .returned (.tuple #[.agg #[.int .i64 m0, .int .i64 m1, .int .i64 m2, .int .i64 m3, .int .i64 m4, .int .i64 m5], .int .i64 er]) ∧ Below wx.heap.size wx w') :
    Calls Tryz.prog 32 #[.pointer (some ⟨b, 0, none⟩), .int .i64 i] w fun e w' => e = .returned (.tuple #[.agg #[.int .i64 m0, .int .i64 m1, .int .i64 m2, .int .i64 m3, .int .i64 m4, .int .i64 m5], .int .i64 er]) ∧ Below w.heap.size w w' := by
  have CA : Hid _ := cA
  clear cA
  go_enter Tryz.func32, Tryz.ntmps32
  go_wp2_with fail
  refine Calls.mono (CA.out _ ((Below.refl _ _).alloc (Nat.le_refl _) _)) ?_; rintro e w1 ⟨rfl, hb1⟩
  have B0 := (hb1.block w.heap.size (by simp)).trans (alloc1 w _)
  obtain ⟨d0, d1, d2, d3, d4, d5⟩ := cell6 B0
  have f0 := nofrz B0
  have HB : Hid (Below w.heap.size w w1) := ((Below.refl _ _).alloc (Nat.le_refl _) _).trans (hb1.mono (by simp))
  clear B0 hb1
  go_wp2
  refine bodyPost_ret (v := .tuple #[.agg #[.int .i64 m0, .int .i64 m1, .int .i64 m2, .int .i64 m3, .int .i64 m4, .int .i64 m5], .int .i64 er]) (by simp [results, Tryz.results32, go_sem, d0, d1, d2, d3, d4, d5]) rfl ⟨rfl, ?_⟩
  repeat refine Below.setCell ?_ (by simp <;> omega) _
  exact HB.out
theorem mapping_at {w : World} {base b k : Nat} {c : Cf} {tk ti : Int} {v : Value} {ms : List Mp} {m : Mp} (T : Bat w base b c tk ti v ms) (hz : ms.length ≤ 64) (hm : ms[k]? = some m) :
    Calls Tryz.prog 32 #[.pointer (some ⟨b, 0, none⟩), .int .i64 k] w fun e w' => e = .returned (.tuple #[.agg #[.int .i64 m.pr, .int .i64 m.ea, .int .i64 m.ep, .int .i64 m.ex, .int .i64 m.le, .int .i64 m.kn], .int .i64 0]) ∧ Below w.heap.size w w' :=
  mapping_core b k _ _ _ _ _ _ 0 (fun wx hb => at_yes b 12 base k m v ms wx (T.below hb).cell (T.below hb).row hz hm)
theorem live_any {w : World} {base b : Nat} {c : Cf} {tk ti : Int} {v : Value} {ms : List Mp} (T : Bat w base b c tk ti v ms) (hz : ms.length ≤ 64) :
    Calls Tryz.prog 17 #[.pointer (some ⟨b, 0, none⟩)] w fun e w' => e = .returned (.int .i64 ms.length) ∧ w' = w := by
  have cL := tabLive_any b 12 base v ms w T.cell T.row hz
  have CL : Hid _ := cL
  clear cL T
  generalize ms.length = n at CL
  go_enter Tryz.func17, Tryz.ntmps17
  go_wp2_with fail
  refine Calls.mono CL.out ?_; rintro e w' ⟨rfl, rfl⟩
  go_wp2
  go_ret
  exact ⟨rfl, rfl⟩
/-- the frame comes out as it must -/
theorem passes_yes {w : World} (b : Nat) (d tq : Int) (s want : ByteArray) (Q : World → Prop) (cF : Calls Tryz.prog 25 #[.pointer (some ⟨b, 0, none⟩), .int .i64 d, .string s] w fun e w' => e = .returned (rpv 0 tq want) ∧ Q w') :
    Calls Tryz.prog 22 #[.pointer (some ⟨b, 0, none⟩), .int .i64 d, .string s, .int .i64 tq, .string want] w fun e w' => e = .returned (.bool true) ∧ ∃ w1, Q w1 ∧ Below w1.heap.size w1 w' := by
  have CF : Hid _ := cF
  clear cF
  unfold rpv at CF
  go_enter Tryz.func22, Tryz.ntmps22
  go_wp2_with fail
  refine Calls.mono CF.out ?_; rintro e w1 ⟨rfl, hq⟩
  have HQ : Hid _ := hq
  clear hq
  go_wp2
  go_ret
  exact ⟨by simp, w1, HQ.out, (Below.refl _ _).alloc (Nat.le_refl _) _⟩
/-- the mapping is there -/
theorem holds_yes {w : World} (b : Nat) (i le kn ex : Int) (d : Dg) (cM : ∀ wx, Below w.heap.size w wx → Calls Tryz.prog 32 #[.pointer (some ⟨b, 0, none⟩), .int .i64 i] wx fun e w' => e = .returned (.tuple #[.agg #[.int .i64 d.pr, .int .i64 d.sa, .int .i64 d.sp, .int .i64 ex, .int .i64 le, .int .i64 kn], .int .i64 0]) ∧ Below wx.heap.size wx w') :
    Calls Tryz.prog 15 #[.pointer (some ⟨b, 0, none⟩), .int .i64 i, .agg (dgl d), .int .i64 ex, .int .i64 le, .int .i64 kn] w fun e w' => e = .returned (.bool true) ∧ Below w.heap.size w w' := by
  have CM : Hid _ := cM
  clear cM
  have q0 := Dok.at (d := d) (w := w) 0 (u := (.int .i64 d.pr)) rfl
  have q3 := Dok.at (d := d) (w := w) 3 (u := (.int .i64 d.sa)) rfl
  have q4 := Dok.at (d := d) (w := w) 4 (u := (.int .i64 d.sp)) rfl
  have ds : Hid (Dok d w (w.alloc (.cells (dgl d) 33))) := Dok.start d w
  unfold dgl at ds ⊢
  go_enter Tryz.func15, Tryz.ntmps15
  go_wp2_with fail
  refine Calls.mono (CM.out _ (ds.out.below)) ?_; rintro e w1 ⟨rfl, hb1⟩
  have hk := ds.out.next hb1
  have c0 := q0 w1 hk
  have c3 := q3 w1 hk
  have c4 := q4 w1 hk
  have hz : w.heap.size < w1.heap.size := by have := hb1.size; simp at this; omega
  have HK : Hid _ := hk
  clear hb1 hk q0 q3 q4
  go_wp2
  go_ret
  exact ⟨by simp, (Dok.below HK.out).alloc (by omega) _⟩
end Go.Proofs.YthiljpbodmajaaaGreat
