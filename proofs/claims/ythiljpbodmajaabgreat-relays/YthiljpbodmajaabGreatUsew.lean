/-
  CONTRACTS: package mappings: Use.
-/
import Derived.Test.YthiljpbodmajaabGreatOpnt
namespace Go.Proofs.YthiljpbodmajaabGreat
open Go.RowKit Plain
set_option linter.unusedVariables false

theorem findEndpoint_tb {w : World} {base b o : Nat} {ty : TypeId} {cur : Array Value} {v : Value} {ms : List Mp} (T : Tb w base b o ty cur v ms) (hz : ms.length ≤ 64) (p a q : Int) :
    Calls Tryz.prog 183 #[.pointer (some ⟨b, o, none⟩), .int .i64 p, .agg #[.int .i64 a, .int .i64 q]] w fun e w' => e = .returned (.int .i64 (fidx (·.of p a q) ms)) ∧ Below w.heap.size w w' :=
  findEndpoint_any b o base p a q v ms w T.cell T.row hz
/-- a new endpoint: as open says -/
theorem use_open {w : World} {b o : Nat} (p a q pa pp i x er : Int) (Q : World → Prop) (hb : b < w.heap.size)
    (cF : ∀ wx, Below w.heap.size w wx → Calls Tryz.prog 183 #[.pointer (some ⟨b, o, none⟩), .int .i64 p, .agg #[.int .i64 a, .int .i64 q]] wx fun e w' => e = .returned (.int .i64 (-1)) ∧ Below wx.heap.size wx w')
    (cO : ∀ wx, Below w.heap.size w wx → Calls Tryz.prog 184 #[.pointer (some ⟨b, o, none⟩), .int .i64 p, .agg #[.int .i64 a, .int .i64 q], .agg #[.int .i64 pa, .int .i64 pp], .int .i64 i] wx fun e w' => e = .returned (.tuple #[.int .i64 x, .int .i64 er]) ∧ Q w') :
    Calls Tryz.prog 137 #[.pointer (some ⟨b, o, none⟩), .int .i64 p, .agg #[.int .i64 a, .int .i64 q], .agg #[.int .i64 pa, .int .i64 pp], .int .i64 i] w
      fun e w' => e = .returned (.tuple #[.int .i64 x, .int .i64 er]) ∧ Q w' := by
  have CF : Hid _ := cF
  have CO : Hid _ := cO
  clear cF cO
  go_enter Tryz.func137, Tryz.ntmps137
  go_wp2_with fail
  refine Calls.mono (CF.out _ (((Below.refl _ _).alloc (Nat.le_refl _) _).alloc (by simp) _)) ?_; rintro e w1 ⟨rfl, hb1⟩
  obtain ⟨hc1, hf1⟩ := bcell hb1
  have hz1 : w.heap.size + 1 < w1.heap.size := by have := hb1.size; simp at this; omega
  have hz0 : w.heap.size < w1.heap.size := by omega
  go_wp2_with fail
  refine Calls.mono (CO.out _ ((((Below.refl _ _).alloc (Nat.le_refl _) _).alloc (by simp) _).trans (hb1.mono (by simp; omega)))) ?_; rintro e w2 ⟨rfl, hq⟩
  go_wp2
  go_ret2
  exact ⟨rfl, hq⟩
set_option maxHeartbeats 2000000 in
theorem use_full {w : World} {base b o k : Nat} {ty : TypeId} {cur : Array Value} {v : Value} {ms : List Mp} {m : Mp} (T : Tb w base b o ty cur v ms) (hz : ms.length ≤ 64) (p a q pa pp i : Int)
    (hk : fidx (·.of p a q) ms = (k : Int)) (hm : ms[k]? = some m) (ht : m.takes pa pp = false) :
    Calls Tryz.prog 137 #[.pointer (some ⟨b, o, none⟩), .int .i64 p, .agg #[.int .i64 a, .int .i64 q], .agg #[.int .i64 pa, .int .i64 pp], .int .i64 i] w
      fun e w' => e = .returned (.tuple #[.int .i64 0, .int .i64 11]) ∧ Below w.heap.size w w' := by
  have CF : Hid (∀ wx, Below w.heap.size w wx → Calls Tryz.prog 183 #[.pointer (some ⟨b, o, none⟩), .int .i64 p, .agg #[.int .i64 a, .int .i64 q]] wx fun e w' => e = .returned (.int .i64 (k : Int)) ∧ Below wx.heap.size wx w') :=
    fun wx hbx => by have := findEndpoint_tb (T.below hbx) hz p a q; rw [hk] at this; exact this
  have cT : RetB 185 #[mpv m, .agg #[.int .i64 pa, .int .i64 pp]] (.bool false) := fun w => by have := takes_any m pa pp w; rw [ht] at this; exact this
  have hb : b < w.heap.size := T.lt
  have hL := T.cell
  have hkl : k < ms.length := (List.getElem?_eq_some_iff.1 hm).1
  rcases T.row.cases with ⟨rfl, rfl⟩ | ⟨g, n, cap, rfl, hr⟩
  · simp at hkl
  have hg : g < w.heap.size := hr.lt
  have hkn : k < n := by have := hr.len; omega
  have hcs := hr.cells k m hm
  unfold mpv at cT
  have HT : Hid _ := T
  have HR : Hid _ := hr
  have HM : Hid _ := hm
  clear T hr hm hk ht hkl
  go_enter Tryz.func137, Tryz.ntmps137
  go_wp2_with fail
  refine Calls.mono (CF.out _ (((Below.refl _ _).alloc (Nat.le_refl _) _).alloc (by simp) _)) ?_; rintro e w1 ⟨rfl, hb1⟩
  have B1 := (hb1.block (w.heap.size + 1) (by simp)).trans (alloc2 w _ _).2
  obtain ⟨d0, d1⟩ := cell2 B1
  have hbw := (((Below.refl w.heap.size w).alloc (Nat.le_refl _) _).alloc (by simp) _).trans (hb1.mono (by simp; omega))
  have hL1 : w1.cell? ⟨b, o + 3, none⟩ = some (.slice (some ⟨g, 0, none⟩) n cap) := (hbw.cell (p := ⟨b, o + 3, none⟩) hb).trans hL
  have hcs1 : w1.rangeAt g (k * 14) (mpl m) := fun j u hu => (hbw.cell (p := ⟨g, k * 14 + j, none⟩) hg).trans (HR.out.range k m HM.out j u hu)
  have c0 : w1.cell? ⟨g, k * 14, none⟩ = _ := hcs1 0 _ rfl
  have c1 : w1.cell? ⟨g, k * 14 + 1, none⟩ = _ := hcs1 1 _ rfl
  have c2 : w1.cell? ⟨g, k * 14 + 2, none⟩ = _ := hcs1 2 _ rfl
  have c3 : w1.cell? ⟨g, k * 14 + 3, none⟩ = _ := hcs1 3 _ rfl
  have c4 : w1.cell? ⟨g, k * 14 + 4, none⟩ = _ := hcs1 4 _ rfl
  have c5 : w1.cell? ⟨g, k * 14 + 5, none⟩ = _ := hcs1 5 _ rfl
  have c6 : w1.cell? ⟨g, k * 14 + 6, none⟩ = _ := hcs1 6 _ rfl
  have c7 : w1.cell? ⟨g, k * 14 + 7, none⟩ = _ := hcs1 7 _ rfl
  have c8 : w1.cell? ⟨g, k * 14 + 8, none⟩ = _ := hcs1 8 _ rfl
  have c9 : w1.cell? ⟨g, k * 14 + 9, none⟩ = _ := hcs1 9 _ rfl
  have c10 : w1.cell? ⟨g, k * 14 + 10, none⟩ = _ := hcs1 10 _ rfl
  have c11 : w1.cell? ⟨g, k * 14 + 11, none⟩ = _ := hcs1 11 _ rfl
  have c12 : w1.cell? ⟨g, k * 14 + 12, none⟩ = _ := hcs1 12 _ rfl
  have c13 : w1.cell? ⟨g, k * 14 + 13, none⟩ = _ := hcs1 13 _ rfl
  have hz1 : w.heap.size + 1 < w1.heap.size := by have := hb1.size; simp at this; omega
  have hb' : b < w1.heap.size := by omega
  have HB : Hid _ := hbw
  clear hb1 hbw hcs hcs1 B1
  go_wp2_with fail
  refine Calls.mono (cT.at _) ?_; rintro e w2 ⟨rfl, hb2⟩
  go_wp2
  go_ret2
  exact ⟨rfl, (HB.out.alloc (by omega) _).trans (hb2.mono (by simp; omega))⟩
end Go.Proofs.YthiljpbodmajaabGreat
