/-
  CONTRACTS: package mappings: Use, of an endpoint that has a mapping.
-/
import Derived.Test.YthiljpbodmajaabGreatUsew
import Derived.Test.YthiljpbodmajaabGreatAgeb
import Derived.Deep.RegionHeld
namespace Go.Proofs.YthiljpbodmajaabGreat
open Go.RowKit Plain
set_option linter.unusedVariables false

def Ust (b pb mb : Nat) (B P M : Obj) (w' : World) : Prop := w'.heap[b]? = some B ∧ w'.heap[pb]? = some P ∧ w'.heap[mb]? = some M
theorem Ust.st {b pb mb : Nat} {B P M : Obj} {w1 : World} (h : Ust b pb mb B P M w1) {a : Addr} (h1 : b ≠ a.block) (h2 : pb ≠ a.block) (h3 : mb ≠ a.block) (u : Value) : Ust b pb mb B P M (w1.setCell a u) :=
  ⟨(Below.heap_setCell w1 _ _ _ h1).trans h.1, (Below.heap_setCell w1 _ _ _ h2).trans h.2.1, (Below.heap_setCell w1 _ _ _ h3).trans h.2.2⟩
theorem Ust.chain14 {b pb mb G o : Nat} {B P M : Obj} {w1 : World} {ua ub uc ud ue uf ug uh ui uj uk ul um un : Value} (h : Ust b pb mb B P M w1) (h1 : b ≠ G) (h2 : pb ≠ G) (h3 : mb ≠ G) : Ust b pb mb B P M ((((((((((((((w1.setCell ⟨G, o, none⟩ ua).setCell ⟨G, o + 1, none⟩ ub).setCell ⟨G, o + 2, none⟩ uc).setCell ⟨G, o + 3, none⟩ ud).setCell ⟨G, o + 4, none⟩ ue).setCell ⟨G, o + 5, none⟩ uf).setCell ⟨G, o + 6, none⟩ ug).setCell ⟨G, o + 7, none⟩ uh).setCell ⟨G, o + 8, none⟩ ui).setCell ⟨G, o + 9, none⟩ uj).setCell ⟨G, o + 10, none⟩ uk).setCell ⟨G, o + 11, none⟩ ul).setCell ⟨G, o + 12, none⟩ um).setCell ⟨G, o + 13, none⟩ un) :=
  (Ust.st (Ust.st (Ust.st (Ust.st (Ust.st (Ust.st (Ust.st (Ust.st (Ust.st (Ust.st (Ust.st (Ust.st (Ust.st (Ust.st h (a := ⟨G, o, none⟩) h1 h2 h3 _) (a := ⟨G, o + 1, none⟩) h1 h2 h3 _) (a := ⟨G, o + 2, none⟩) h1 h2 h3 _) (a := ⟨G, o + 3, none⟩) h1 h2 h3 _) (a := ⟨G, o + 4, none⟩) h1 h2 h3 _) (a := ⟨G, o + 5, none⟩) h1 h2 h3 _) (a := ⟨G, o + 6, none⟩) h1 h2 h3 _) (a := ⟨G, o + 7, none⟩) h1 h2 h3 _) (a := ⟨G, o + 8, none⟩) h1 h2 h3 _) (a := ⟨G, o + 9, none⟩) h1 h2 h3 _) (a := ⟨G, o + 10, none⟩) h1 h2 h3 _) (a := ⟨G, o + 11, none⟩) h1 h2 h3 _) (a := ⟨G, o + 12, none⟩) h1 h2 h3 _) (a := ⟨G, o + 13, none⟩) h1 h2 h3 _)
theorem Ust.next {b pb mb : Nat} {B P M : Obj} {w1 w2 : World} (h : Ust b pb mb B P M w1) (k : Below w1.heap.size w1 w2) : Ust b pb mb B P M w2 :=
  ⟨(k.block _ (Array.getElem?_eq_some_iff.1 h.1).1).trans h.1, (k.block _ (Array.getElem?_eq_some_iff.1 h.2.1).1).trans h.2.1, (k.block _ (Array.getElem?_eq_some_iff.1 h.2.2).1).trans h.2.2⟩
set_option maxHeartbeats 8000000 in
theorem use_known {w : World} {base b o k : Nat} {ty : TypeId} {cur : Array Value} {v : Value} {ms : List Mp} {m : Mp} (T : Tb w base b o ty cur v ms) (hz : ms.length ≤ 64) (p a q pa pp i : Int)
    (hk : fidx (·.of p a q) ms = (k : Int)) (hm : ms[k]? = some m) (ht : m.takes pa pp = true) (k0 : 0 ≤ m.kn) (k4 : m.kn ≤ 4) :
    Calls Tryz.prog 137 #[.pointer (some ⟨b, o, none⟩), .int .i64 p, .agg #[.int .i64 a, .int .i64 q], .agg #[.int .i64 pa, .int .i64 pp], .int .i64 i] w
      fun e w' => e = .returned (.tuple #[.int .i64 m.ex, .int .i64 0]) ∧ ∃ v', Left w w' base b o ty cur v v' (ms.set k (m.used pa pp i)) := by
  have CF : Hid (∀ wx, Below w.heap.size w wx → Calls Tryz.prog 183 #[.pointer (some ⟨b, o, none⟩), .int .i64 p, .agg #[.int .i64 a, .int .i64 q]] wx fun e w' => e = .returned (.int .i64 (k : Int)) ∧ Below wx.heap.size wx w') :=
    fun wx hbx => by have := findEndpoint_tb (T.below hbx) hz p a q; rw [hk] at this; exact this
  have cT : RetB 185 #[mpv m, .agg #[.int .i64 pa, .int .i64 pp]] (.bool true) := fun w => by have := takes_any m pa pp w; rw [ht] at this; exact this
  have hb : b < w.heap.size := T.lt
  have hL := T.cell
  have hkl : k < ms.length := (List.getElem?_eq_some_iff.1 hm).1
  rcases T.row.cases with ⟨rfl, rfl⟩ | ⟨g, n, cap, rfl, hr⟩
  · simp at hkl
  have hg : g < w.heap.size := hr.lt
  have hkn : k < n := by have := hr.len; omega
  have hcs := hr.cells k m hm
  have cU : RetB 186 #[mpv m, .agg #[.int .i64 pa, .int .i64 pp], .int .i64 i] (mpv (m.used pa pp i)) := fun w => used_any m pa pp i w k0 k4
  unfold mpv at cT cU
  generalize hM : m.used pa pp i = M at cU ⊢
  clear hM
  have HL0 : Hid _ := T
  have HT : Hid _ := T
  have HR : Hid _ := hr
  have HM : Hid _ := hm
  clear T hr hm hk ht hkl
  go_enter Tryz.func137, Tryz.ntmps137
  go_wp2_with fail
  refine Calls.mono (CF.out _ (((Below.refl _ _).alloc (Nat.le_refl _) _).alloc (by simp) _)) ?_; rintro e w1 ⟨rfl, hb1⟩
  have B1 := (hb1.block (w.heap.size + 1) (by simp)).trans (alloc2 w _ _).2
  have HP1 : Hid _ := B1
  obtain ⟨d0, d1⟩ := cell2 B1
  have hbw := (((Below.refl w.heap.size w).alloc (Nat.le_refl _) _).alloc (by simp) _).trans (hb1.mono (by simp; omega))
  have hL1 : w1.cell? ⟨b, o + 3, none⟩ = some (.slice (some ⟨g, 0, none⟩) n cap) := (hbw.cell (p := ⟨b, o + 3, none⟩) hb).trans hL
  have hcs1 : w1.rangeAt g (k * 14) (mpl m) := fun j u hu => (hbw.cell (p := ⟨g, k * 14 + j, none⟩) hg).trans (HR.out.range k m HM.out j u hu)
  have c0 : w1.cell? ⟨g, k * 14, none⟩ = _ := hcs1 0 _ rfl
  have c1 : w1.cell? ⟨g, k * 14 + 1, none⟩ = _ := hcs1 1 _ rfl
  have c2 : w1.cell? ⟨g, k * 14 + 2, none⟩ = _ := hcs1 2 _ rfl
  have c3 : w1.cell? ⟨g, k * 14 + 3, none⟩ = _ := hcs1 3 _ rfl
  have c4 : w1.cell? ⟨g, k * 14 + 4, none⟩ = _ := hcs1 4 _ rfl
  have c5 : w1.cell? ⟨g, k * 14 + 5, none⟩ = _ := hcs1 5 _ rfl
  have c6 : w1.cell? ⟨g, k * 14 + 6, none⟩ = _ := hcs1 6 _ rfl
  have c7 : w1.cell? ⟨g, k * 14 + 7, none⟩ = _ := hcs1 7 _ rfl
  have c8 : w1.cell? ⟨g, k * 14 + 8, none⟩ = _ := hcs1 8 _ rfl
  have c9 : w1.cell? ⟨g, k * 14 + 9, none⟩ = _ := hcs1 9 _ rfl
  have c10 : w1.cell? ⟨g, k * 14 + 10, none⟩ = _ := hcs1 10 _ rfl
  have c11 : w1.cell? ⟨g, k * 14 + 11, none⟩ = _ := hcs1 11 _ rfl
  have c12 : w1.cell? ⟨g, k * 14 + 12, none⟩ = _ := hcs1 12 _ rfl
  have c13 : w1.cell? ⟨g, k * 14 + 13, none⟩ = _ := hcs1 13 _ rfl
  have hz1 : w.heap.size + 1 < w1.heap.size := by have := hb1.size; simp at this; omega
  have hb' : b < w1.heap.size := by omega
  have HB : Hid _ := hbw
  clear hb1 hbw hcs hcs1 B1
  have hg1 : g < w1.heap.size := by omega
  go_wp2_with fail
  refine Calls.mono (cT.at _) ?_; rintro e w2 ⟨rfl, hb2⟩
  have HB2 : Hid (Below w1.heap.size w1 w2) := ((Below.refl w1.heap.size w1).alloc (Nat.le_refl _) _).trans (hb2.mono (by simp))
  have M2 : w2.heap[w1.heap.size]? = some (.cells #[.int .i64 m.pr, .int .i64 m.ea, .int .i64 m.ep, .int .i64 m.ex, .int .i64 m.le, .int .i64 m.q0, .int .i64 m.r0, .int .i64 m.q1, .int .i64 m.r1, .int .i64 m.q2, .int .i64 m.r2, .int .i64 m.q3, .int .i64 m.r3, .int .i64 m.kn] 116 (0, 0)) := (hb2.block _ (by simp)).trans (alloc1 w1 _)
  have P2 : w2.heap[w.heap.size + 1]? = some (.cells #[.int .i64 pa, .int .i64 pp] 113 (0, 0)) := (HB2.out.block _ hz1).trans HP1.out
  have B2 : w2.heap[b]? = some (.cells cur ty (0, 0)) := (HB2.out.block _ hb').trans ((HB.out.block _ hb).trans HT.out.blk)
  have ss : Hid (Ust b (w.heap.size + 1) w1.heap.size (.cells cur ty (0, 0)) (.cells #[.int .i64 pa, .int .i64 pp] 113 (0, 0)) (.cells #[.int .i64 m.pr, .int .i64 m.ea, .int .i64 m.ep, .int .i64 m.ex, .int .i64 m.le, .int .i64 m.q0, .int .i64 m.r0, .int .i64 m.q1, .int .i64 m.r1, .int .i64 m.q2, .int .i64 m.r2, .int .i64 m.q3, .int .i64 m.r3, .int .i64 m.kn] 116 (0, 0)) w2.drew) := ⟨B2, P2, M2⟩
  have hgb : b ≠ g := fun e => HT.out.ne (by simp [Value.ownBlock, e])
  have hgp : w.heap.size + 1 ≠ g := by omega
  have hgm : w1.heap.size ≠ g := by omega
  have hat3 : Hid _ := HT.out.at3
  have yL : ∀ wz, Ust b (w.heap.size + 1) w1.heap.size (.cells cur ty (0, 0)) (.cells #[.int .i64 pa, .int .i64 pp] 113 (0, 0)) (.cells #[.int .i64 m.pr, .int .i64 m.ea, .int .i64 m.ep, .int .i64 m.ex, .int .i64 m.le, .int .i64 m.q0, .int .i64 m.r0, .int .i64 m.q1, .int .i64 m.r1, .int .i64 m.q2, .int .i64 m.r2, .int .i64 m.q3, .int .i64 m.r3, .int .i64 m.kn] 116 (0, 0)) wz → wz.cell? ⟨b, o + 3, none⟩ = some (.slice (some ⟨g, 0, none⟩) n cap) := fun wz hz => (cell_of_row _ _ (o + 3) _ _ _ hz.1).trans hat3.out
  have y0 : ∀ wz, Ust b (w.heap.size + 1) w1.heap.size (.cells cur ty (0, 0)) (.cells #[.int .i64 pa, .int .i64 pp] 113 (0, 0)) (.cells #[.int .i64 m.pr, .int .i64 m.ea, .int .i64 m.ep, .int .i64 m.ex, .int .i64 m.le, .int .i64 m.q0, .int .i64 m.r0, .int .i64 m.q1, .int .i64 m.r1, .int .i64 m.q2, .int .i64 m.r2, .int .i64 m.q3, .int .i64 m.r3, .int .i64 m.kn] 116 (0, 0)) wz → wz.cell? ⟨w1.heap.size, 0, none⟩ = some (.int .i64 m.pr) := fun wz hz => cell_of_row _ _ 0 _ _ _ hz.2.2
  have y1 : ∀ wz, Ust b (w.heap.size + 1) w1.heap.size (.cells cur ty (0, 0)) (.cells #[.int .i64 pa, .int .i64 pp] 113 (0, 0)) (.cells #[.int .i64 m.pr, .int .i64 m.ea, .int .i64 m.ep, .int .i64 m.ex, .int .i64 m.le, .int .i64 m.q0, .int .i64 m.r0, .int .i64 m.q1, .int .i64 m.r1, .int .i64 m.q2, .int .i64 m.r2, .int .i64 m.q3, .int .i64 m.r3, .int .i64 m.kn] 116 (0, 0)) wz → wz.cell? ⟨w1.heap.size, 1, none⟩ = some (.int .i64 m.ea) := fun wz hz => cell_of_row _ _ 1 _ _ _ hz.2.2
  have y2 : ∀ wz, Ust b (w.heap.size + 1) w1.heap.size (.cells cur ty (0, 0)) (.cells #[.int .i64 pa, .int .i64 pp] 113 (0, 0)) (.cells #[.int .i64 m.pr, .int .i64 m.ea, .int .i64 m.ep, .int .i64 m.ex, .int .i64 m.le, .int .i64 m.q0, .int .i64 m.r0, .int .i64 m.q1, .int .i64 m.r1, .int .i64 m.q2, .int .i64 m.r2, .int .i64 m.q3, .int .i64 m.r3, .int .i64 m.kn] 116 (0, 0)) wz → wz.cell? ⟨w1.heap.size, 2, none⟩ = some (.int .i64 m.ep) := fun wz hz => cell_of_row _ _ 2 _ _ _ hz.2.2
  have y3 : ∀ wz, Ust b (w.heap.size + 1) w1.heap.size (.cells cur ty (0, 0)) (.cells #[.int .i64 pa, .int .i64 pp] 113 (0, 0)) (.cells #[.int .i64 m.pr, .int .i64 m.ea, .int .i64 m.ep, .int .i64 m.ex, .int .i64 m.le, .int .i64 m.q0, .int .i64 m.r0, .int .i64 m.q1, .int .i64 m.r1, .int .i64 m.q2, .int .i64 m.r2, .int .i64 m.q3, .int .i64 m.r3, .int .i64 m.kn] 116 (0, 0)) wz → wz.cell? ⟨w1.heap.size, 3, none⟩ = some (.int .i64 m.ex) := fun wz hz => cell_of_row _ _ 3 _ _ _ hz.2.2
  have y4 : ∀ wz, Ust b (w.heap.size + 1) w1.heap.size (.cells cur ty (0, 0)) (.cells #[.int .i64 pa, .int .i64 pp] 113 (0, 0)) (.cells #[.int .i64 m.pr, .int .i64 m.ea, .int .i64 m.ep, .int .i64 m.ex, .int .i64 m.le, .int .i64 m.q0, .int .i64 m.r0, .int .i64 m.q1, .int .i64 m.r1, .int .i64 m.q2, .int .i64 m.r2, .int .i64 m.q3, .int .i64 m.r3, .int .i64 m.kn] 116 (0, 0)) wz → wz.cell? ⟨w1.heap.size, 4, none⟩ = some (.int .i64 m.le) := fun wz hz => cell_of_row _ _ 4 _ _ _ hz.2.2
  have y5 : ∀ wz, Ust b (w.heap.size + 1) w1.heap.size (.cells cur ty (0, 0)) (.cells #[.int .i64 pa, .int .i64 pp] 113 (0, 0)) (.cells #[.int .i64 m.pr, .int .i64 m.ea, .int .i64 m.ep, .int .i64 m.ex, .int .i64 m.le, .int .i64 m.q0, .int .i64 m.r0, .int .i64 m.q1, .int .i64 m.r1, .int .i64 m.q2, .int .i64 m.r2, .int .i64 m.q3, .int .i64 m.r3, .int .i64 m.kn] 116 (0, 0)) wz → wz.cell? ⟨w1.heap.size, 5, none⟩ = some (.int .i64 m.q0) := fun wz hz => cell_of_row _ _ 5 _ _ _ hz.2.2
  have y6 : ∀ wz, Ust b (w.heap.size + 1) w1.heap.size (.cells cur ty (0, 0)) (.cells #[.int .i64 pa, .int .i64 pp] 113 (0, 0)) (.cells #[.int .i64 m.pr, .int .i64 m.ea, .int .i64 m.ep, .int .i64 m.ex, .int .i64 m.le, .int .i64 m.q0, .int .i64 m.r0, .int .i64 m.q1, .int .i64 m.r1, .int .i64 m.q2, .int .i64 m.r2, .int .i64 m.q3, .int .i64 m.r3, .int .i64 m.kn] 116 (0, 0)) wz → wz.cell? ⟨w1.heap.size, 6, none⟩ = some (.int .i64 m.r0) := fun wz hz => cell_of_row _ _ 6 _ _ _ hz.2.2
  have y7 : ∀ wz, Ust b (w.heap.size + 1) w1.heap.size (.cells cur ty (0, 0)) (.cells #[.int .i64 pa, .int .i64 pp] 113 (0, 0)) (.cells #[.int .i64 m.pr, .int .i64 m.ea, .int .i64 m.ep, .int .i64 m.ex, .int .i64 m.le, .int .i64 m.q0, .int .i64 m.r0, .int .i64 m.q1, .int .i64 m.r1, .int .i64 m.q2, .int .i64 m.r2, .int .i64 m.q3, .int .i64 m.r3, .int .i64 m.kn] 116 (0, 0)) wz → wz.cell? ⟨w1.heap.size, 7, none⟩ = some (.int .i64 m.q1) := fun wz hz => cell_of_row _ _ 7 _ _ _ hz.2.2
  have y8 : ∀ wz, Ust b (w.heap.size + 1) w1.heap.size (.cells cur ty (0, 0)) (.cells #[.int .i64 pa, .int .i64 pp] 113 (0, 0)) (.cells #[.int .i64 m.pr, .int .i64 m.ea, .int .i64 m.ep, .int .i64 m.ex, .int .i64 m.le, .int .i64 m.q0, .int .i64 m.r0, .int .i64 m.q1, .int .i64 m.r1, .int .i64 m.q2, .int .i64 m.r2, .int .i64 m.q3, .int .i64 m.r3, .int .i64 m.kn] 116 (0, 0)) wz → wz.cell? ⟨w1.heap.size, 8, none⟩ = some (.int .i64 m.r1) := fun wz hz => cell_of_row _ _ 8 _ _ _ hz.2.2
  have y9 : ∀ wz, Ust b (w.heap.size + 1) w1.heap.size (.cells cur ty (0, 0)) (.cells #[.int .i64 pa, .int .i64 pp] 113 (0, 0)) (.cells #[.int .i64 m.pr, .int .i64 m.ea, .int .i64 m.ep, .int .i64 m.ex, .int .i64 m.le, .int .i64 m.q0, .int .i64 m.r0, .int .i64 m.q1, .int .i64 m.r1, .int .i64 m.q2, .int .i64 m.r2, .int .i64 m.q3, .int .i64 m.r3, .int .i64 m.kn] 116 (0, 0)) wz → wz.cell? ⟨w1.heap.size, 9, none⟩ = some (.int .i64 m.q2) := fun wz hz => cell_of_row _ _ 9 _ _ _ hz.2.2
  have y10 : ∀ wz, Ust b (w.heap.size + 1) w1.heap.size (.cells cur ty (0, 0)) (.cells #[.int .i64 pa, .int .i64 pp] 113 (0, 0)) (.cells #[.int .i64 m.pr, .int .i64 m.ea, .int .i64 m.ep, .int .i64 m.ex, .int .i64 m.le, .int .i64 m.q0, .int .i64 m.r0, .int .i64 m.q1, .int .i64 m.r1, .int .i64 m.q2, .int .i64 m.r2, .int .i64 m.q3, .int .i64 m.r3, .int .i64 m.kn] 116 (0, 0)) wz → wz.cell? ⟨w1.heap.size, 10, none⟩ = some (.int .i64 m.r2) := fun wz hz => cell_of_row _ _ 10 _ _ _ hz.2.2
  have y11 : ∀ wz, Ust b (w.heap.size + 1) w1.heap.size (.cells cur ty (0, 0)) (.cells #[.int .i64 pa, .int .i64 pp] 113 (0, 0)) (.cells #[.int .i64 m.pr, .int .i64 m.ea, .int .i64 m.ep, .int .i64 m.ex, .int .i64 m.le, .int .i64 m.q0, .int .i64 m.r0, .int .i64 m.q1, .int .i64 m.r1, .int .i64 m.q2, .int .i64 m.r2, .int .i64 m.q3, .int .i64 m.r3, .int .i64 m.kn] 116 (0, 0)) wz → wz.cell? ⟨w1.heap.size, 11, none⟩ = some (.int .i64 m.q3) := fun wz hz => cell_of_row _ _ 11 _ _ _ hz.2.2
  have y12 : ∀ wz, Ust b (w.heap.size + 1) w1.heap.size (.cells cur ty (0, 0)) (.cells #[.int .i64 pa, .int .i64 pp] 113 (0, 0)) (.cells #[.int .i64 m.pr, .int .i64 m.ea, .int .i64 m.ep, .int .i64 m.ex, .int .i64 m.le, .int .i64 m.q0, .int .i64 m.r0, .int .i64 m.q1, .int .i64 m.r1, .int .i64 m.q2, .int .i64 m.r2, .int .i64 m.q3, .int .i64 m.r3, .int .i64 m.kn] 116 (0, 0)) wz → wz.cell? ⟨w1.heap.size, 12, none⟩ = some (.int .i64 m.r3) := fun wz hz => cell_of_row _ _ 12 _ _ _ hz.2.2
  have y13 : ∀ wz, Ust b (w.heap.size + 1) w1.heap.size (.cells cur ty (0, 0)) (.cells #[.int .i64 pa, .int .i64 pp] 113 (0, 0)) (.cells #[.int .i64 m.pr, .int .i64 m.ea, .int .i64 m.ep, .int .i64 m.ex, .int .i64 m.le, .int .i64 m.q0, .int .i64 m.r0, .int .i64 m.q1, .int .i64 m.r1, .int .i64 m.q2, .int .i64 m.r2, .int .i64 m.q3, .int .i64 m.r3, .int .i64 m.kn] 116 (0, 0)) wz → wz.cell? ⟨w1.heap.size, 13, none⟩ = some (.int .i64 m.kn) := fun wz hz => cell_of_row _ _ 13 _ _ _ hz.2.2
  have yp0 : ∀ wz, Ust b (w.heap.size + 1) w1.heap.size (.cells cur ty (0, 0)) (.cells #[.int .i64 pa, .int .i64 pp] 113 (0, 0)) (.cells #[.int .i64 m.pr, .int .i64 m.ea, .int .i64 m.ep, .int .i64 m.ex, .int .i64 m.le, .int .i64 m.q0, .int .i64 m.r0, .int .i64 m.q1, .int .i64 m.r1, .int .i64 m.q2, .int .i64 m.r2, .int .i64 m.q3, .int .i64 m.r3, .int .i64 m.kn] 116 (0, 0)) wz → wz.cell? ⟨w.heap.size + 1, 0, none⟩ = some (.int .i64 pa) := fun wz hz => cell_of_row _ _ 0 _ _ _ hz.2.1
  have yp1 : ∀ wz, Ust b (w.heap.size + 1) w1.heap.size (.cells cur ty (0, 0)) (.cells #[.int .i64 pa, .int .i64 pp] 113 (0, 0)) (.cells #[.int .i64 m.pr, .int .i64 m.ea, .int .i64 m.ep, .int .i64 m.ex, .int .i64 m.le, .int .i64 m.q0, .int .i64 m.r0, .int .i64 m.q1, .int .i64 m.r1, .int .i64 m.q2, .int .i64 m.r2, .int .i64 m.q3, .int .i64 m.r3, .int .i64 m.kn] 116 (0, 0)) wz → wz.cell? ⟨w.heap.size + 1, 1, none⟩ = some (.int .i64 pp) := fun wz hz => cell_of_row _ _ 1 _ _ _ hz.2.1
  have HBW : Hid (∀ wz, Below w2.drew.heap.size w2.drew wz → Below w.heap.size w wz) := fun wz hz => (HB.out.trans (HB2.out.mono HB.out.size)).drew.trans (hz.mono (Nat.le_trans HB.out.size HB2.out.size))
  have es : Hid (∀ W : World, ((((((((((((((W.setCell ⟨g, k * 14, none⟩ (.int .i64 M.pr)).setCell ⟨g, k * 14 + 1, none⟩ (.int .i64 M.ea)).setCell ⟨g, k * 14 + 2, none⟩ (.int .i64 M.ep)).setCell ⟨g, k * 14 + 3, none⟩ (.int .i64 M.ex)).setCell ⟨g, k * 14 + 4, none⟩ (.int .i64 M.le)).setCell ⟨g, k * 14 + 5, none⟩ (.int .i64 M.q0)).setCell ⟨g, k * 14 + 6, none⟩ (.int .i64 M.r0)).setCell ⟨g, k * 14 + 7, none⟩ (.int .i64 M.q1)).setCell ⟨g, k * 14 + 8, none⟩ (.int .i64 M.r1)).setCell ⟨g, k * 14 + 9, none⟩ (.int .i64 M.q2)).setCell ⟨g, k * 14 + 10, none⟩ (.int .i64 M.r2)).setCell ⟨g, k * 14 + 11, none⟩ (.int .i64 M.q3)).setCell ⟨g, k * 14 + 12, none⟩ (.int .i64 M.r3)).setCell ⟨g, k * 14 + 13, none⟩ (.int .i64 M.kn)) = W.setCells g (k * 14) (mpl M)) := fun W => rfl
  have HM2 : Hid _ := M2
  clear hb2 M2 B2 P2 c0 c1 c2 c3 c4 c5 c6 c7 c8 c9 c10 c11 c12 c13 hL1 d0 d1
  go_wp2
  go_region_held (fun w' => Ust b (w.heap.size + 1) w1.heap.size (.cells cur ty (0, 0)) (.cells #[.int .i64 pa, .int .i64 pp] 113 (0, 0)) (.cells #[.int .i64 m.pr, .int .i64 m.ea, .int .i64 m.ep, .int .i64 m.ex, .int .i64 m.le, .int .i64 m.q0, .int .i64 m.r0, .int .i64 m.q1, .int .i64 m.r1, .int .i64 m.q2, .int .i64 m.r2, .int .i64 m.q3, .int .i64 m.r3, .int .i64 m.kn] 116 (0, 0)) w') (first | (with_reducible assumption) | (with_reducible exact ss.out) | (with_reducible exact Ust.chain14 (by with_reducible assumption) hgb hgp hgm)) (first
    | (go_at_call 186; refine Calls.mono (cU.at _) ?_; rintro e w3 ⟨rfl, hb3⟩; have hk3 := Ust.next ss.out hb3; have L3 : Hid (Left w w3 base b o ty cur (.slice (some ⟨g, 0, none⟩) n cap) (.slice (some ⟨g, 0, none⟩) n cap) ms) := Tb.left HT.out (HBW.out _ hb3); have HK3 : Hid _ := hk3; obtain ⟨hr3, _, hf3, _⟩ := left_own L3.out k m HM.out; obtain ⟨x0, x1, x2, x3, x4, x5, x6, x7, x8, x9, x10, x11, x12, x13⟩ := hr3.cells k m HM.out; clear hr3))
  rw [es.out]
  generalize hw4 : w3.setCells g (k * 14) (mpl M) = w4
  have L4 : Hid (Left w w4 base b o ty cur (.slice (some ⟨g, 0, none⟩) n cap) (.slice (some ⟨g, 0, none⟩) n cap) (ms.set k M)) := by rw [← hw4]; exact L3.out.setrow k hkn M
  have M4 : w4.heap[w1.heap.size]? = some (.cells #[.int .i64 m.pr, .int .i64 m.ea, .int .i64 m.ep, .int .i64 m.ex, .int .i64 m.le, .int .i64 m.q0, .int .i64 m.r0, .int .i64 m.q1, .int .i64 m.r1, .int .i64 m.q2, .int .i64 m.r2, .int .i64 m.q3, .int .i64 m.r3, .int .i64 m.kn] 116 (0, 0)) := by rw [← hw4, heap_setCells_other g (mpl M) (k * 14) w3 w1.heap.size hgm]; exact HK3.out.2.2
  clear hw4 es yL y0 y1 y2 y3 y4 y5 y6 y7 y8 y9 y10 y11 y12 y13 yp0 yp1 x0 x1 x2 x3 x4 x5 x6 x7 x8 x9 x10 x11 x12 x13 hk3 hf3 ss
  obtain ⟨y0, y1, y2, y3, y4, y5, y6, y7, y8, y9, y10, y11, y12, y13⟩ := cell14 M4
  clear M4
  go_wp2
  go_ret2
  exact ⟨rfl, _, L4.out⟩
end Go.Proofs.YthiljpbodmajaabGreat
namespace Go.Proofs.YthiljpbodmajaabGreat
open Go.RowKit Plain
set_option linter.unusedVariables false

theorem fidx_at {f : Mp → Bool} {ms : List Mp} {m : Mp} (hm : ms[ms.findIdx f]? = some m) : fidx f ms = (ms.findIdx f : Int) := by
  unfold fidx; rw [if_pos (List.getElem?_eq_some_iff.1 hm).1]
theorem fidx_out {f : Mp → Bool} {ms : List Mp} (hm : ms[ms.findIdx f]? = none) : fidx f ms = -1 := by
  unfold fidx; rw [if_neg (by have := List.getElem?_eq_none_iff.1 hm; omega)]
/-- a mapping's numbers -/
structure Mok (m : Mp) : Prop where
  k0 : 0 ≤ m.kn
  k4 : m.kn ≤ 4
  x1 : 1 ≤ m.ex
  x2 : m.ex ≤ 65535
  a0 : 0 ≤ m.ea
  a1 : m.ea < 4294967296
  p0 : 0 ≤ m.ep
  p1 : m.ep < 65536
  l0 : 1 ≤ m.le
  l1 : m.le ≤ 100000
/-- a table's numbers -/
structure Tok (c : Cf) (ms : List Mp) : Prop where
  len : (ms.length : Int) ≤ c.cp
  all : ∀ m ∈ ms, Mok m
theorem Tok.at {c : Cf} {ms : List Mp} (h : Tok c ms) {k : Nat} {m : Mp} (hm : ms[k]? = some m) : Mok m := h.all m (List.mem_of_getElem? hm)
theorem tok_nil (c : Cf) (h : 0 ≤ c.cp) : Tok c [] := ⟨by simpa using h, by simp⟩
theorem ins_len (m : Mp) : ∀ ms, (ins m ms).length = ms.length + 1
  | [] => rfl
  | x :: xs => by
    unfold ins
    split
    · rfl
    · simp [ins_len m xs]
theorem ins_mem {m y : Mp} : ∀ {ms : List Mp}, y ∈ ins m ms → y = m ∨ y ∈ ms
  | [], h => by simp [ins] at h; exact .inl h
  | x :: xs, h => by
    unfold ins at h
    split at h
    · rcases List.mem_cons.1 h with e | e
      · exact .inl e
      · exact .inr e
    · rcases List.mem_cons.1 h with e | e
      · exact .inr (by rw [e]; exact List.mem_cons_self)
      · rcases ins_mem e with q | q
        · exact .inl q
        · exact .inr (List.mem_cons_of_mem _ q)
theorem used_ok {m : Mp} (M : Mok m) (a p i : Int) (i0 : 1 ≤ i) (i1 : i ≤ 100000) : Mok (m.used a p i) := by
  have := M.k0; have := M.k4
  unfold Mp.used
  split
  · split
    · exact ⟨(by decide : (0 : Int) ≤ 1), (by decide : (1 : Int) ≤ 4), M.x1, M.x2, M.a0, M.a1, M.p0, M.p1, i0, i1⟩
    · split
      · exact ⟨(by decide : (0 : Int) ≤ 2), (by decide : (2 : Int) ≤ 4), M.x1, M.x2, M.a0, M.a1, M.p0, M.p1, i0, i1⟩
      · split
        · exact ⟨(by decide : (0 : Int) ≤ 3), (by decide : (3 : Int) ≤ 4), M.x1, M.x2, M.a0, M.a1, M.p0, M.p1, i0, i1⟩
        · exact ⟨(by decide : (0 : Int) ≤ 4), (by decide : (4 : Int) ≤ 4), M.x1, M.x2, M.a0, M.a1, M.p0, M.p1, i0, i1⟩
  · exact ⟨M.k0, M.k4, M.x1, M.x2, M.a0, M.a1, M.p0, M.p1, i0, i1⟩
theorem new_used (p a q x pa pp i : Int) : (Mp.new p a q x).used pa pp i = ⟨p, a, q, x, i, pa, pp, 0, 0, 0, 0, 0, 0, 1⟩ := by
  simp [Mp.used, Mp.new, Mp.knows]
theorem chs_bd (c : Cf) (ms : List Mp) (p own : Int) : c.lo ≤ chs c ms p own := by
  unfold chs
  split
  · rename_i h; exact h.1
  · exact (gap_bd p ms c.lo).1
/-- what Use leaves of a table -/
theorem use_tok {c : Cf} {ms ms' : List Mp} {p a q pa pp i x : Int} (K : Tok c ms) (l1 : 1 ≤ c.lo) (h2 : c.hi ≤ 65535) (a0 : 0 ≤ a) (a1 : a < 4294967296) (q0 : 0 ≤ q) (q1 : q < 65536) (i0 : 1 ≤ i) (i1 : i ≤ 100000) (h : use c ms p a q pa pp i = some (x, ms')) : Tok c ms' ∧ 1 ≤ x ∧ x ≤ 65535 := by
  unfold use at h
  simp only at h
  split at h
  · rename_i m hm
    have M := K.at hm
    split at h
    · simp only [Option.some.injEq, Prod.mk.injEq] at h
      obtain ⟨rfl, rfl⟩ := h
      refine ⟨⟨by rw [List.length_set]; exact K.len, fun y hy => ?_⟩, M.x1, M.x2⟩
      rcases List.mem_or_eq_of_mem_set hy with e | e
      · exact K.all y e
      · rw [e]; exact used_ok M _ _ _ i0 i1
    · cases h
  · split at h
    · cases h
    · rename_i hn hc
      simp only [Option.some.injEq, Prod.mk.injEq] at h
      obtain ⟨rfl, rfl⟩ := h
      have hb := chs_bd c ms p q
      refine ⟨⟨by rw [ins_len]; omega, fun y hy => ?_⟩, by omega, by omega⟩
      rcases ins_mem hy with e | e
      · rw [e, new_used]
        exact ⟨(by decide : (0 : Int) ≤ 1), (by decide : (1 : Int) ≤ 4), by show 1 ≤ chs c ms p q; omega, by show chs c ms p q ≤ 65535; omega, a0, a1, q0, q1, i0, i1⟩
      · exact K.all y e
theorem use_none {w : World} {base b o : Nat} {ty : TypeId} {cur : Array Value} {v : Value} {ms : List Mp} {c : Cf} (T : Tb w base b o ty cur v ms) (N : Nums cur o c) (K : Tok c ms) (l0 : 0 ≤ c.lo) (l1 : c.lo ≤ 65535) (c2 : c.cp ≤ 64) (p a q pa pp i : Int) (h : use c ms p a q pa pp i = none) :
    Calls Tryz.prog 137 #[.pointer (some ⟨b, o, none⟩), .int .i64 p, .agg #[.int .i64 a, .int .i64 q], .agg #[.int .i64 pa, .int .i64 pp], .int .i64 i] w
      fun e w' => e = .returned (.tuple #[.int .i64 0, .int .i64 11]) ∧ Below w.heap.size w w' := by
  have hz : ms.length ≤ 64 := by have := K.len; omega
  unfold use at h
  simp only at h
  split at h
  · rename_i m hm
    split at h
    · cases h
    · rename_i ht
      rw [Bool.not_eq_true] at ht
      exact use_full T hz p a q pa pp i (fidx_at hm) hm ht
  · rename_i hn
    split at h
    · rename_i hc
      refine use_open p a q pa pp i 0 11 _ T.lt (fun wx hx => ?_) (fun wx hx => ?_)
      · have := findEndpoint_tb (T.below hx) hz p a q
        rw [fidx_out hn] at this
        exact this
      · exact (open_no (T.below hx) N l0 l1 hz p a q pa pp i hc).mono fun e w' g => ⟨g.1, hx.trans (g.2.mono hx.size)⟩
    · cases h
theorem use_some {w : World} {base b o : Nat} {ty : TypeId} {cur : Array Value} {v : Value} {ms ms' : List Mp} {c : Cf} (T : Tb w base b o ty cur v ms) (N : Nums cur o c) (K : Tok c ms) (l0 : 0 ≤ c.lo) (l1 : c.lo ≤ 65535) (c2 : c.cp ≤ 64) (p a q pa pp i x : Int) (h : use c ms p a q pa pp i = some (x, ms')) :
    Calls Tryz.prog 137 #[.pointer (some ⟨b, o, none⟩), .int .i64 p, .agg #[.int .i64 a, .int .i64 q], .agg #[.int .i64 pa, .int .i64 pp], .int .i64 i] w
      fun e w' => e = .returned (.tuple #[.int .i64 x, .int .i64 0]) ∧ ∃ v', Left w w' base b o ty cur v v' ms' := by
  have hz : ms.length ≤ 64 := by have := K.len; omega
  unfold use at h
  simp only at h
  split at h
  · rename_i m hm
    have M := K.at hm
    split at h
    · rename_i ht
      simp only [Option.some.injEq, Prod.mk.injEq] at h
      obtain ⟨rfl, rfl⟩ := h
      exact use_known T hz p a q pa pp i (fidx_at hm) hm ht M.k0 M.k4
    · cases h
  · rename_i hn
    split at h
    · cases h
    · rename_i hc
      simp only [Option.some.injEq, Prod.mk.injEq] at h
      obtain ⟨rfl, rfl⟩ := h
      have h1 : (ms.length : Int) < c.cp := by omega
      refine use_open p a q pa pp i _ 0 _ T.lt (fun wx hx => ?_) (fun wx hx => ?_)
      · have := findEndpoint_tb (T.below hx) hz p a q
        rw [fidx_out hn] at this
        exact this
      · have Ty := T.below hx
        exact (open_yes Ty N l0 l1 hz p a q pa pp i h1 (by omega) (fun wz Tz => insert_any b o base _ _ _ v ms wz Tz (by omega))).mono fun e w' g => ⟨g.1, g.2.imp fun v' hl => Left.pre T hx hl⟩
end Go.Proofs.YthiljpbodmajaabGreat
