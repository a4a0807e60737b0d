/-
  CONTRACTS: package mappings: Sender, External.
-/
import Derived.Test.YthiljpbodmajaabGreatUsew
namespace Go.Proofs.YthiljpbodmajaabGreat
open Go.RowKit Plain
set_option linter.unusedVariables false

section
variable {w : World} {base b o : Nat} {ty : TypeId} {cur : Array Value} {v : Value} {ms : List Mp}
theorem findExternal_tb (T : Tb w base b o ty cur v ms) (hz : ms.length ≤ 64) (p x : Int) :
    Calls Tryz.prog 177 #[.pointer (some ⟨b, o, none⟩), .int .i64 p, .int .i64 x] w fun e w' => e = .returned (.int .i64 (fidx (·.has p x) ms)) ∧ w' = w :=
  findExternal_any b o base p x v ms w T.cell T.row hz
theorem sender_no (T : Tb w base b o ty cur v ms) (hz : ms.length ≤ 64) (p x pa pp : Int) (h : fidx (·.has p x) ms = -1) :
    Calls Tryz.prog 172 #[.pointer (some ⟨b, o, none⟩), .int .i64 p, .int .i64 x, .agg #[.int .i64 pa, .int .i64 pp]] w
      fun e w' => e = .returned (.tuple #[.agg #[.int .i64 0, .int .i64 0], .bool false]) ∧ Below w.heap.size w w' := by
  have CF : Hid (∀ wx, Below w.heap.size w wx → Calls Tryz.prog 177 #[.pointer (some ⟨b, o, none⟩), .int .i64 p, .int .i64 x] wx fun e w' => e = .returned (.int .i64 (-1)) ∧ w' = wx) :=
    fun wx hbx => by have := findExternal_tb (T.below hbx) hz p x; rw [h] at this; exact this
  clear T h
  go_enter Tryz.func172, Tryz.ntmps172
  go_wp2_with fail
  refine Calls.mono (CF.out _ (((Below.refl _ _).alloc (Nat.le_refl _) _).alloc (by simp) _)) ?_; rintro e w' ⟨rfl, hw⟩; replace hw := hw.symm; subst hw
  go_wp2
  go_region
  all_goals
    go_wp2
    exact bodyPost_ret (v := .tuple #[.agg #[.int .i64 0, .int .i64 0], .bool false]) (by simp [results, Tryz.results172, go_sem]) rfl ⟨rfl, below_drewN (((Below.refl _ _).alloc (Nat.le_refl _) _).alloc (by simp) _) 1⟩
set_option maxHeartbeats 2000000 in
theorem sender_at (T : Tb w base b o ty cur v ms) (hz : ms.length ≤ 64) (k : Nat) (m : Mp) (p x pa pp : Int) (hk : fidx (·.has p x) ms = (k : Int)) (hm : ms[k]? = some m) (q : Bool) (hq : m.knows pa pp = q) :
    Calls Tryz.prog 172 #[.pointer (some ⟨b, o, none⟩), .int .i64 p, .int .i64 x, .agg #[.int .i64 pa, .int .i64 pp]] w
      fun e w' => e = .returned (.tuple (if q then #[.agg #[.int .i64 m.ea, .int .i64 m.ep], .bool true] else #[.agg #[.int .i64 0, .int .i64 0], .bool false])) ∧ Below w.heap.size w w' := by
  have CF : Hid (∀ wx, Below w.heap.size w wx → Calls Tryz.prog 177 #[.pointer (some ⟨b, o, none⟩), .int .i64 p, .int .i64 x] wx fun e w' => e = .returned (.int .i64 (k : Int)) ∧ w' = wx) :=
    fun wx hbx => by have := findExternal_tb (T.below hbx) hz p x; rw [hk] at this; exact this
  have cT : RetB 216 #[mpv m, .agg #[.int .i64 pa, .int .i64 pp]] (.bool q) := fun w => by have := knows_any m pa pp w; rw [hq] at this; exact this
  have hb : b < w.heap.size := T.lt
  have hL := T.cell
  have hkl : k < ms.length := (List.getElem?_eq_some_iff.1 hm).1
  rcases T.row.cases with ⟨rfl, rfl⟩ | ⟨g, n, cap, rfl, hr⟩
  · simp at hkl
  have hg : g < w.heap.size := hr.lt
  have hkn : k < n := by have := hr.len; omega
  unfold mpv at cT
  have HT : Hid _ := T
  have HR : Hid _ := hr
  have HM : Hid _ := hm
  clear T hr hm hk hkl hq
  go_enter Tryz.func172, Tryz.ntmps172
  go_wp2_with fail
  have hbw : Below w.heap.size w ((w.alloc (.cells #[.int .i64 pa, .int .i64 pp] 113)).alloc (.cells #[.int .i64 0, .int .i64 0] 113)) := ((Below.refl w.heap.size w).alloc (Nat.le_refl _) _).alloc (by simp) _
  refine Calls.mono (CF.out _ hbw) ?_; rintro e w' ⟨rfl, hw⟩; replace hw := hw.symm; subst hw
  have A2 := alloc2 w (.cells #[.int .i64 pa, .int .i64 pp] 113) (.cells #[.int .i64 0, .int .i64 0] 113)
  generalize hW : (w.alloc (.cells #[.int .i64 pa, .int .i64 pp] 113)).alloc (.cells #[.int .i64 0, .int .i64 0] 113) = w1 at *
  have hz1 : w.heap.size + 1 < w1.heap.size := by rw [← hW]; simp
  clear hW
  obtain ⟨d0, d1⟩ := cell2 A2.1
  obtain ⟨r0, r1⟩ := cell2 A2.2
  have fr := nofrz A2.2
  have HA2 : Hid _ := A2.2
  have hL1 : w1.cell? ⟨b, o + 3, none⟩ = some (.slice (some ⟨g, 0, none⟩) n cap) := (hbw.cell (p := ⟨b, o + 3, none⟩) hb).trans hL
  have hcs1 : w1.rangeAt g (k * 14) (mpl m) := fun j u hu => (hbw.cell (p := ⟨g, k * 14 + j, none⟩) hg).trans (HR.out.range k m HM.out j u hu)
  have c0 : w1.cell? ⟨g, k * 14, none⟩ = _ := hcs1 0 _ rfl
  have c1 : w1.cell? ⟨g, k * 14 + 1, none⟩ = _ := hcs1 1 _ rfl
  have c2 : w1.cell? ⟨g, k * 14 + 2, none⟩ = _ := hcs1 2 _ rfl
  have c3 : w1.cell? ⟨g, k * 14 + 3, none⟩ = _ := hcs1 3 _ rfl
  have c4 : w1.cell? ⟨g, k * 14 + 4, none⟩ = _ := hcs1 4 _ rfl
  have c5 : w1.cell? ⟨g, k * 14 + 5, none⟩ = _ := hcs1 5 _ rfl
  have c6 : w1.cell? ⟨g, k * 14 + 6, none⟩ = _ := hcs1 6 _ rfl
  have c7 : w1.cell? ⟨g, k * 14 + 7, none⟩ = _ := hcs1 7 _ rfl
  have c8 : w1.cell? ⟨g, k * 14 + 8, none⟩ = _ := hcs1 8 _ rfl
  have c9 : w1.cell? ⟨g, k * 14 + 9, none⟩ = _ := hcs1 9 _ rfl
  have c10 : w1.cell? ⟨g, k * 14 + 10, none⟩ = _ := hcs1 10 _ rfl
  have c11 : w1.cell? ⟨g, k * 14 + 11, none⟩ = _ := hcs1 11 _ rfl
  have c12 : w1.cell? ⟨g, k * 14 + 12, none⟩ = _ := hcs1 12 _ rfl
  have c13 : w1.cell? ⟨g, k * 14 + 13, none⟩ = _ := hcs1 13 _ rfl
  have hb' : b < w1.heap.size := by omega
  have hg' : g < w1.heap.size := by omega
  have HB : Hid _ := hbw
  clear hbw hcs1 A2
  cases q
  · go_wp2
    go_region_with (go_at_call 216; refine Calls.mono (cT.at _) ?_; rintro e w2 ⟨rfl, hb2⟩; have HB2 : Hid (Below w1.heap.size w1 w2) := ((Below.refl _ w1).drew).trans (hb2.mono (Nat.le_refl _)); have A3 := (HB2.out.block _ hz1).trans HA2.out; obtain ⟨y0, y1⟩ := cell2 A3; have fy := nofrz A3; have hz2 : w.heap.size + 1 < w2.heap.size := (by have := HB2.out.size; omega); have hL2 := (HB2.out.cell (p := ⟨b, o + 3, none⟩) hb').trans hL1; have e1 := (HB2.out.cell (p := ⟨g, k * 14 + 1, none⟩) hg').trans c1; have e2 := (HB2.out.cell (p := ⟨g, k * 14 + 2, none⟩) hg').trans c2; have HZ : Hid (Below w.heap.size w w2) := HB.out.trans (HB2.out.mono (by omega)); clear hb2 A3)
    all_goals
      go_wp2
      refine bodyPost_ret (v := .tuple #[.agg #[.int .i64 0, .int .i64 0], .bool false]) (by simp [results, Tryz.results172, go_sem, y0, y1]) rfl ⟨rfl, ?_⟩
      repeat (first | refine Below.setCell ?_ (by simp <;> omega) _ | refine Below.drew ?_)
      exact HZ.out
  · go_wp2
    go_region_with (go_at_call 216; refine Calls.mono (cT.at _) ?_; rintro e w2 ⟨rfl, hb2⟩; have HB2 : Hid (Below w1.heap.size w1 w2) := ((Below.refl _ w1).drew).trans (hb2.mono (Nat.le_refl _)); have A3 := (HB2.out.block _ hz1).trans HA2.out; obtain ⟨y0, y1⟩ := cell2 A3; have fy := nofrz A3; have hz2 : w.heap.size + 1 < w2.heap.size := (by have := HB2.out.size; omega); have hL2 := (HB2.out.cell (p := ⟨b, o + 3, none⟩) hb').trans hL1; have e1 := (HB2.out.cell (p := ⟨g, k * 14 + 1, none⟩) hg').trans c1; have e2 := (HB2.out.cell (p := ⟨g, k * 14 + 2, none⟩) hg').trans c2; have HZ : Hid (Below w.heap.size w w2) := HB.out.trans (HB2.out.mono (by omega)); clear hb2 A3)
    all_goals
      go_wp2
      try go_region
      all_goals
        go_wp2
        refine bodyPost_ret (v := .tuple #[.agg #[.int .i64 m.ea, .int .i64 m.ep], .bool true]) (by simp [results, Tryz.results172, go_sem, y0, y1]) rfl ⟨rfl, ?_⟩
        repeat (first | refine Below.setCell ?_ (by simp <;> omega) _ | refine Below.drew ?_)
        exact HZ.out
theorem external_no (T : Tb w base b o ty cur v ms) (hz : ms.length ≤ 64) (p a q : Int) (h : fidx (·.of p a q) ms = -1) :
    Calls Tryz.prog 176 #[.pointer (some ⟨b, o, none⟩), .int .i64 p, .agg #[.int .i64 a, .int .i64 q]] w
      fun e w' => e = .returned (.tuple #[.int .i64 0, .bool false]) ∧ Below w.heap.size w w' := by
  have CF : Hid (∀ wx, Below w.heap.size w wx → Calls Tryz.prog 183 #[.pointer (some ⟨b, o, none⟩), .int .i64 p, .agg #[.int .i64 a, .int .i64 q]] wx fun e w' => e = .returned (.int .i64 (-1)) ∧ Below wx.heap.size wx w') :=
    fun wx hbx => by have := findEndpoint_tb (T.below hbx) hz p a q; rw [h] at this; exact this
  clear T h
  go_enter Tryz.func176, Tryz.ntmps176
  go_wp2_with fail
  refine Calls.mono (CF.out _ ((Below.refl _ _).alloc (Nat.le_refl _) _)) ?_; rintro e w1 ⟨rfl, hb1⟩
  go_wp2
  go_ret2
  exact ⟨rfl, ((Below.refl w.heap.size w).alloc (Nat.le_refl _) _).trans (hb1.mono (by simp))⟩
theorem external_yes (T : Tb w base b o ty cur v ms) (hz : ms.length ≤ 64) (k : Nat) (m : Mp) (p a q : Int) (hk : fidx (·.of p a q) ms = (k : Int)) (hm : ms[k]? = some m) :
    Calls Tryz.prog 176 #[.pointer (some ⟨b, o, none⟩), .int .i64 p, .agg #[.int .i64 a, .int .i64 q]] w
      fun e w' => e = .returned (.tuple #[.int .i64 m.ex, .bool true]) ∧ Below w.heap.size w w' := by
  have CF : Hid (∀ wx, Below w.heap.size w wx → Calls Tryz.prog 183 #[.pointer (some ⟨b, o, none⟩), .int .i64 p, .agg #[.int .i64 a, .int .i64 q]] wx fun e w' => e = .returned (.int .i64 (k : Int)) ∧ Below wx.heap.size wx w') :=
    fun wx hbx => by have := findEndpoint_tb (T.below hbx) hz p a q; rw [hk] at this; exact this
  have hb : b < w.heap.size := T.lt
  have hL := T.cell
  have hkl : k < ms.length := (List.getElem?_eq_some_iff.1 hm).1
  rcases T.row.cases with ⟨rfl, rfl⟩ | ⟨g, n, cap, rfl, hr⟩
  · simp at hkl
  have hg : g < w.heap.size := hr.lt
  have hkn : k < n := by have := hr.len; omega
  have c3 : w.cell? ⟨g, k * 14 + 3, none⟩ = some (.int .i64 m.ex) := hr.range k m hm 3 _ rfl
  have HT : Hid _ := T
  have HR : Hid _ := hr
  have HM : Hid _ := hm
  clear T hr hm hk hkl
  go_enter Tryz.func176, Tryz.ntmps176
  go_wp2_with fail
  refine Calls.mono (CF.out _ ((Below.refl _ _).alloc (Nat.le_refl _) _)) ?_; rintro e w1 ⟨rfl, hb1⟩
  have HW : Hid (Below w.heap.size w w1) := ((Below.refl w.heap.size w).alloc (Nat.le_refl _) _).trans (hb1.mono (by simp))
  have hL1 := (HW.out.cell (p := ⟨b, o + 3, none⟩) hb).trans hL
  have e3 := (HW.out.cell (p := ⟨g, k * 14 + 3, none⟩) hg).trans c3
  have hb' : b < w1.heap.size := by have := HW.out.size; omega
  have hg' : g < w1.heap.size := by have := HW.out.size; omega
  clear hb1
  go_wp2
  go_ret2
  exact ⟨rfl, HW.out⟩
end
end Go.Proofs.YthiljpbodmajaabGreat
