/-
  CONTRACTS: package mappings: Age.
-/
import Derived.Test.YtgpbajpeldjomaaGreatInsa
namespace Go.Proofs.YtgpbajpeldjomaaGreat
open Go.RowKit Plain
set_option linter.unusedVariables false

theorem set_same {a : Array Value} {i : Nat} {v : Value} (h : a[i]? = some v) : a.setIfInBounds i v = a := by
  apply Array.ext_getElem?
  intro j
  by_cases e : i = j
  · subst e
    have hi : i < a.size := (Array.getElem?_eq_some_iff.1 h).1
    rw [h]; simp [hi]
  · rw [Array.getElem?_setIfInBounds_ne e]
theorem Tb.left {w w' : World} {base b o : Nat} {ty : TypeId} {cur : Array Value} {v : Value} {ms : List Mp} (T : Tb w base b o ty cur v ms) (hb : Below w.heap.size w w') : Left w w' base b o ty cur v v ms :=
  ⟨by rw [set_same T.at3]; exact T.below hb, fun k hk => .inl hk.symm, Chg.of_below hb⟩
theorem Left.resl {w w1 : World} {base b o g n cap : Nat} {ty : TypeId} {cur : Array Value} {v : Value} {L : List Mp} (h : Left w w1 base b o ty cur v (.slice (some ⟨g, 0, none⟩) n cap) L) (k : Nat) (hk : k ≤ n) :
    Left w (w1.setCell ⟨b, o + 3, none⟩ (.slice (some ⟨g, 0, none⟩) k cap)) base b o ty cur v (.slice (some ⟨g, 0, none⟩) k cap) (L.take k) := by
  have hne : g ≠ b := fun e => h.tb.ne (by simp [Value.ownBlock, e])
  have hs : o + 3 < cur.size := by have := (Array.getElem?_eq_some_iff.1 h.tb.at3).1; simpa using this
  refine ⟨⟨?_, by simp [hs], ((h.tb.row.rowin.take k hk).kept (Below.heap_setCell w1 _ _ _ hne)).row, h.tb.ne, by simpa [World.setCell] using h.tb.bs⟩, h.own, ?_⟩
  · have := heap_setCell_same (o := o + 3) (.slice (some ⟨g, 0, none⟩) k cap) h.tb.blk
    rw [this]; simp
  · exact ⟨h.chg.os, h.chg.tape, h.chg.output, by simpa [World.setCell] using h.chg.size, fun j hj h1 h2 => (Below.heap_setCell w1 _ _ _ h1).trans (h.chg.block j hj h1 h2)⟩
theorem age_nil {w : World} {base b o : Nat} {ty : TypeId} {cur : Array Value} (T : Tb w base b o ty cur (.slice none 0 0) []) (n : Int) :
    Calls Tryz.prog 46 #[.pointer (some ⟨b, o, none⟩), .int .i64 n] w fun e w' => e = .returned (.tuple #[]) ∧ ∃ v', Left w w' base b o ty cur (.slice none 0 0) v' [] := by
  have hL := T.cell
  have hb := T.lt
  have hf := T.frz (o + 3)
  have HT : Hid _ := T
  have hs : Hid (o + 3 < cur.size) := (Array.getElem?_eq_some_iff.1 T.at3).1
  clear T
  go_enter Tryz.func46, Tryz.ntmps46
  go_wp2
  go_loopw [4, 12] (fun k i wr => k = .int .i64 0 ∧ i = .int .i64 0 ∧ wr = w) (fun _ _ _ => 0)
  case atStart => exact ⟨rfl, rfl, rfl⟩
  case round =>
    obtain ⟨rfl, rfl, rfl⟩ := hrel
    go_wp2
    go_end0
    refine ⟨rfl, .slice none 0 0, ⟨⟨?_, by simp [hs.out], Row.nil _ _, HT.out.ne, by simpa [World.setCell] using HT.out.bs⟩, fun k hk => .inl hk.symm, ⟨rfl, rfl, rfl, by simp [World.setCell], fun k hk h1 h2 => Below.heap_setCell _ _ _ _ h1⟩⟩⟩
    exact heap_setCell_same _ HT.out.blk
set_option maxHeartbeats 8000000 in
theorem age_in {w : World} {base b o g N cap : Nat} {ty : TypeId} {cur : Array Value} {ms : List Mp} (T : Tb w base b o ty cur (.slice (some ⟨g, 0, none⟩) N cap) ms) (hz : N ≤ 64) (n : Int) (n0 : 0 ≤ n) (n1 : n ≤ 100000) (hle : ∀ m ∈ ms, -1000000 ≤ m.le ∧ m.le ≤ 1000000) :
    Calls Tryz.prog 46 #[.pointer (some ⟨b, o, none⟩), .int .i64 n] w fun e w' => e = .returned (.tuple #[]) ∧ ∃ v', Left w w' base b o ty cur (.slice (some ⟨g, 0, none⟩) N cap) v' (aged n ms) := by
  have hL := T.cell
  have hb := T.lt
  have HL : Hid (Left w w base b o ty cur (.slice (some ⟨g, 0, none⟩) N cap) (.slice (some ⟨g, 0, none⟩) N cap) ms) := T.left (Below.refl _ _)
  have HN : Hid (ms.length = N) := T.row.rowin.len
  have HC : Hid (N ≤ cap) := T.row.rowin.le
  have HM : Hid _ := hle
  clear T hle
  go_enter Tryz.func46, Tryz.ntmps46
  go_wp2
  go_loopw [4, 12] (fun kv iv wr => ∃ (k i : Nat) (L : List Mp), kv = .int .i64 (k : Int) ∧ iv = .int .i64 (i : Int) ∧ k ≤ i ∧ i ≤ N ∧ Hid (Left w wr base b o ty cur (.slice (some ⟨g, 0, none⟩) N cap) (.slice (some ⟨g, 0, none⟩) N cap) L) ∧ Hid (L.length = N ∧ L.take k = aged n (ms.take i) ∧ ∀ j, i ≤ j → L[j]? = ms[j]?)) (fun _ iv _ => N - (intOf iv).toNat)
  case atStart => exact ⟨0, 0, ms, rfl, rfl, Nat.le_refl _, by omega, HL, ⟨HN.out, by simp [aged], fun _ _ => rfl⟩⟩
  case round =>
    obtain ⟨k, i, L, rfl, rfl, hki, hi, hl, hp⟩ := hrel
    have hLr : wr.cell? ⟨b, o + 3, none⟩ = some (.slice (some ⟨g, 0, none⟩) N cap) := hl.out.tb.cell
    have hbl : b < wr.heap.size := hl.out.tb.lt
    have hfr : wr.frozen? ⟨b, o + 3, none⟩ = false := hl.out.tb.frz (o + 3)
    by_cases hlt : i < N
    · obtain ⟨m, hm⟩ : ∃ m, ms[i]? = some m := ⟨ms[i]'(by have := HN.out; omega), by simp [show i < ms.length by have := HN.out; omega]⟩
      have hLm : L[i]? = some m := (hp.out.2.2 i (Nat.le_refl _)).trans hm
      have hml := HM.out m (List.mem_of_getElem? hm)
      obtain ⟨y, hy⟩ : ∃ y, L[k]? = some y := ⟨L[k]'(by have := hp.out.1; omega), by simp [show k < L.length by have := hp.out.1; omega]⟩
      obtain ⟨hr, _, hfg, _⟩ := left_own hl.out i m hLm
      obtain ⟨c0, c1, c2, c3, c4, c5, c6, c7, c8, c9, c10, c11, c12, c13⟩ := hr.cells i m hLm
      obtain ⟨d0, d1, d2, d3, d4, d5, d6, d7, d8, d9, d10, d11, d12, d13⟩ := hr.cells k y hy
      have hgl : g < wr.heap.size := hr.lt
      have hkN : k < N := by omega
      have HX : Hid _ := hm
      clear hr hm hLm hy
      by_cases hc : n < m.le
      · have hc' : Hid (n < m.le) := hc
        have es : Hid (∀ W : World, ((((((((((((((W.setCell ⟨g, k * 14, none⟩ (.int .i64 m.pr)).setCell ⟨g, k * 14 + 1, none⟩ (.int .i64 m.ea)).setCell ⟨g, k * 14 + 2, none⟩ (.int .i64 m.ep)).setCell ⟨g, k * 14 + 3, none⟩ (.int .i64 m.ex)).setCell ⟨g, k * 14 + 4, none⟩ (.int .i64 (m.le - n))).setCell ⟨g, k * 14 + 5, none⟩ (.int .i64 m.q0)).setCell ⟨g, k * 14 + 6, none⟩ (.int .i64 m.r0)).setCell ⟨g, k * 14 + 7, none⟩ (.int .i64 m.q1)).setCell ⟨g, k * 14 + 8, none⟩ (.int .i64 m.r1)).setCell ⟨g, k * 14 + 9, none⟩ (.int .i64 m.q2)).setCell ⟨g, k * 14 + 10, none⟩ (.int .i64 m.r2)).setCell ⟨g, k * 14 + 11, none⟩ (.int .i64 m.q3)).setCell ⟨g, k * 14 + 12, none⟩ (.int .i64 m.r3)).setCell ⟨g, k * 14 + 13, none⟩ (.int .i64 m.kn)) = W.setCells g (k * 14) (mpl { m with le := m.le - n })) := fun W => rfl
        have L2 : Hid (Left w ((wr.setCells g (k * 14) (mpl { m with le := m.le - n })).alloc (.cells #[.int .i64 m.pr, .int .i64 m.ea, .int .i64 m.ep, .int .i64 m.ex, .int .i64 (m.le - n), .int .i64 m.q0, .int .i64 m.r0, .int .i64 m.q1, .int .i64 m.r1, .int .i64 m.q2, .int .i64 m.r2, .int .i64 m.q3, .int .i64 m.r3, .int .i64 m.kn] 127)).drew base b o ty cur (.slice (some ⟨g, 0, none⟩) N cap) (.slice (some ⟨g, 0, none⟩) N cap) (L.set k { m with le := m.le - n })) :=
          left_drew ((hl.out.setrow k hkN { m with le := m.le - n }).grow hb (Below.alloc (Below.refl _ _) (Nat.le_refl _) (.cells #[.int .i64 m.pr, .int .i64 m.ea, .int .i64 m.ep, .int .i64 m.ex, .int .i64 (m.le - n), .int .i64 m.q0, .int .i64 m.r0, .int .i64 m.q1, .int .i64 m.r1, .int .i64 m.q2, .int .i64 m.r2, .int .i64 m.q3, .int .i64 m.r3, .int .i64 m.kn] 127)))
        go_wp2
        go_region
        rw [es.out]
        generalize hw3 : ((wr.setCells g (k * 14) (mpl { m with le := m.le - n })).alloc (.cells #[.int .i64 m.pr, .int .i64 m.ea, .int .i64 m.ep, .int .i64 m.ex, .int .i64 (m.le - n), .int .i64 m.q0, .int .i64 m.r0, .int .i64 m.q1, .int .i64 m.r1, .int .i64 m.q2, .int .i64 m.r2, .int .i64 m.q3, .int .i64 m.r3, .int .i64 m.kn] 127)).drew = w3
        have L3 : Hid (Left w w3 base b o ty cur (.slice (some ⟨g, 0, none⟩) N cap) (.slice (some ⟨g, 0, none⟩) N cap) (L.set k { m with le := m.le - n })) := by
          rw [← hw3]; exact L2.out
        clear hw3 es c0 c1 c2 c3 c4 c5 c6 c7 c8 c9 c10 c11 c12 c13 d0 d1 d2 d3 d4 d5 d6 d7 d8 d9 d10 d11 d12 d13
        go_wp2
        refine ⟨⟨k + 1, i + 1, L.set k { m with le := m.le - n }, by go_num, by go_num, by omega, by omega, L3, ⟨by simpa using hp.out.1, ?_, fun j hj => ?_⟩⟩, by simp [intOf]; omega⟩
        · rw [take_set_snoc L k _ (by have := hp.out.1; omega), hp.out.2.1, aged_snoc n ms i m HX.out, if_pos hc'.out]
        · rw [List.getElem?_set_ne (by omega)]; exact hp.out.2.2 j (by omega)
      · have hc' : decide (n < m.le) = false := by simpa using hc
        have hc2 : Hid _ := hc
        clear hc
        have L2 : Hid (Left w (wr.alloc (.cells #[.int .i64 m.pr, .int .i64 m.ea, .int .i64 m.ep, .int .i64 m.ex, .int .i64 m.le, .int .i64 m.q0, .int .i64 m.r0, .int .i64 m.q1, .int .i64 m.r1, .int .i64 m.q2, .int .i64 m.r2, .int .i64 m.q3, .int .i64 m.r3, .int .i64 m.kn] 127)) base b o ty cur (.slice (some ⟨g, 0, none⟩) N cap) (.slice (some ⟨g, 0, none⟩) N cap) L) := hl.out.grow hb (Below.alloc (Below.refl wr.heap.size wr) (Nat.le_refl _) (.cells #[.int .i64 m.pr, .int .i64 m.ea, .int .i64 m.ep, .int .i64 m.ex, .int .i64 m.le, .int .i64 m.q0, .int .i64 m.r0, .int .i64 m.q1, .int .i64 m.r1, .int .i64 m.q2, .int .i64 m.r2, .int .i64 m.q3, .int .i64 m.r3, .int .i64 m.kn] 127))
        go_wp2
        refine ⟨⟨k, i + 1, L, rfl, by go_num, by omega, by omega, L2, ⟨hp.out.1, ?_, fun j hj => hp.out.2.2 j (by omega)⟩⟩, by simp [intOf]; omega⟩
        rw [hp.out.2.1, aged_snoc n ms i m HX.out, if_neg hc2.out, List.append_nil]
    · have hiN : i = N := by omega
      subst hiN
      clear hlt
      have hc3 : (k : Int) ≤ cap := by have := HC.out; omega
      go_wp2
      go_end0
      refine ⟨rfl, .slice (some ⟨g, 0, none⟩) k cap, ?_⟩
      have e : aged n ms = L.take k := by rw [hp.out.2.1, ← HN.out, List.take_length]
      rw [e]
      exact hl.out.resl k hki
theorem age_any {w : World} {base b o : Nat} {ty : TypeId} {cur : Array Value} {v : Value} {ms : List Mp} (T : Tb w base b o ty cur v ms) (hz : ms.length ≤ 64) (n : Int) (n0 : 0 ≤ n) (n1 : n ≤ 100000) (hle : ∀ m ∈ ms, -1000000 ≤ m.le ∧ m.le ≤ 1000000) :
    Calls Tryz.prog 46 #[.pointer (some ⟨b, o, none⟩), .int .i64 n] w fun e w' => e = .returned (.tuple #[]) ∧ ∃ v', Left w w' base b o ty cur v v' (aged n ms) := by
  rcases T.row.cases with ⟨rfl, rfl⟩ | ⟨g, N, cap, rfl, hr⟩
  · exact age_nil T n
  · exact age_in T (by have := hr.len; omega) n n0 n1 hle
end Go.Proofs.YtgpbajpeldjomaaGreat
