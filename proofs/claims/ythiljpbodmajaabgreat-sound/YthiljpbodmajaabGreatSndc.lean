/-
  CONTRACTS: natboxkeep.sound.
-/
import Derived.Test.YthiljpbodmajaabGreatKepv
import Derived.Test.YthiljpbodmajaabGreatFrme
namespace Go.Proofs.YthiljpbodmajaabGreat
open Go.RowKit Plain
set_option linter.unusedVariables false

/-- what sound asks: side d, Check's ch, the answer er, sd, fr, the numbers of mappings ahead of it and behind it -/
def Sq (d ch er sd n1 n2 : Int) (fr : ByteArray) : Prop :=
  ((d != 0) = true ∧ (d != 1) = true ∧ er = 2 ∧ sd = 0 ∧ fr = ⟨#[]⟩ ∧ n2 = n1) ∨
  ((d = 0 ∨ d = 1) ∧ (ch != 0) = true ∧ er = ch ∧ sd = 0 ∧ fr = ⟨#[]⟩ ∧ n2 = n1) ∨
  ((d = 0 ∨ d = 1) ∧ ch = 0 ∧ (er != 0) = true ∧ sd = 0 ∧ fr = ⟨#[]⟩ ∧ n2 = n1) ∨
  ((d = 0 ∨ d = 1) ∧ ch = 0 ∧ (er = 9 ∨ er = 10 ∨ er = 11) ∧ sd = d ∧ fr.toList.isEmpty = false ∧ n2 = n1) ∨
  (d = 1 ∧ ch = 0 ∧ er = 0 ∧ sd = 0 ∧ fr.toList.isEmpty = false ∧ n2 = n1) ∨
  (d = 0 ∧ ch = 0 ∧ er = 0 ∧ fr.toList.isEmpty = false ∧ (n2 = n1 ∨ n2 = n1 + 1))
section
variable {w : World} {base b : Nat} {g : Cf} {tk ti tk' : Int} {v : Value} {ms ms' : List Mp}
set_option maxHeartbeats 16000000 in
theorem sound_core (T : Bat w base b g tk ti v ms) (hz : ms.length ≤ 64) (hz' : ms'.length ≤ 64) (d tt er sd ch n1 n2 : Int) (s fr : ByteArray) (hn1 : (ms.length : Int) = n1) (hn2 : (ms'.length : Int) = n2) (hcp : n2 ≤ g.cp) (hcp2 : g.cp ≤ 64)
    (cC : RetB 35 #[.string s] (.int .i64 ch)) (cF : ∀ wx, Bat wx base b g tk ti v ms → Calls Tryz.prog 18 #[.pointer (some ⟨b, 0, none⟩), .int .i64 d, .string s] wx fun e w' => e = .returned (rpv er sd fr) ∧ ∃ v', BL wx w' base b g v v' tk' ti ms')
    (cD : fr.toList.isEmpty = false → RetB 35 #[.string fr] (.int .i64 0)) (hq : Sq d ch er sd n1 n2 fr) :
    Calls Tryz.prog 34 #[.pointer (some ⟨b, 0, none⟩), .agg (cfl g), .agg #[.int .i64 d, .int .i64 tt, .string s]] w fun e w' => e = .returned (.bool true) ∧ ∃ v', BL w w' base b g v v' tk' ti ms' := by
  have cL : ∀ wx, Below w.heap.size w wx → Calls Tryz.prog 19 #[.pointer (some ⟨b, 0, none⟩)] wx fun e w' => e = .returned (.int .i64 n1) ∧ w' = wx := fun wx hb => by
    have := live_any (T.below hb) hz; rw [hn1] at this; exact this
  have cL2 : ∀ wx v', Bat wx base b g tk' ti v' ms' → Calls Tryz.prog 19 #[.pointer (some ⟨b, 0, none⟩)] wx fun e w' => e = .returned (.int .i64 n2) ∧ w' = wx := fun wx v' hb => by
    have := live_any hb hz'; rw [hn2] at this; exact this
  have CL : Hid _ := cL
  have CL2 : Hid _ := cL2
  have CF : Hid _ := cF
  have HT : Hid _ := T
  have HD : Hid _ := cD
  have h1 : 0 ≤ n1 ∧ n1 ≤ 64 := by omega
  have h2 : 0 ≤ n2 ∧ n2 ≤ 64 := by omega
  clear cL cL2 cF T cD hn1 hn2 hz hz'
  have k0 : decide (g.cp < n2) = false := by simpa using hcp
  unfold cfl
  obtain ⟨CDx, hcd⟩ : ∃ q : Prop, q ↔ (fr.toList.isEmpty = false → RetB 35 #[.string fr] (.int .i64 0)) := ⟨_, Iff.rfl⟩
  have HQ : Hid _ := hq
  clear hq hcd CDx
  go_enter Tryz.func34, Tryz.ntmps34
  go_wp2_with fail
  have B0 : Hid (Below w.heap.size w ((w.alloc (.cells #[.int .i64 g.ia, .int .i64 g.oa, .int .i64 g.lo, .int .i64 g.hi, .int .i64 g.cp, .int .i64 g.im, .int .i64 g.om, .int .i64 g.iu, .int .i64 g.it, .int .i64 g.iq, .int .i64 g.bu, .int .i64 g.ra] 23)).alloc (.cells #[.int .i64 d, .int .i64 tt, .string s] 70))) := ((Below.refl w.heap.size w).alloc (Nat.le_refl _) _).alloc (by simp) _
  have A0 : Hid (_ ∧ _) := alloc2 w (.cells #[.int .i64 g.ia, .int .i64 g.oa, .int .i64 g.lo, .int .i64 g.hi, .int .i64 g.cp, .int .i64 g.im, .int .i64 g.om, .int .i64 g.iu, .int .i64 g.it, .int .i64 g.iq, .int .i64 g.bu, .int .i64 g.ra] 23) (.cells #[.int .i64 d, .int .i64 tt, .string s] 70)
  have hz0 : w.heap.size + 1 < ((w.alloc (.cells #[.int .i64 g.ia, .int .i64 g.oa, .int .i64 g.lo, .int .i64 g.hi, .int .i64 g.cp, .int .i64 g.im, .int .i64 g.om, .int .i64 g.iu, .int .i64 g.it, .int .i64 g.iq, .int .i64 g.bu, .int .i64 g.ra] 23)).alloc (.cells #[.int .i64 d, .int .i64 tt, .string s] 70)).heap.size := by simp
  generalize (w.alloc (.cells #[.int .i64 g.ia, .int .i64 g.oa, .int .i64 g.lo, .int .i64 g.hi, .int .i64 g.cp, .int .i64 g.im, .int .i64 g.om, .int .i64 g.iu, .int .i64 g.it, .int .i64 g.iq, .int .i64 g.bu, .int .i64 g.ra] 23)).alloc (.cells #[.int .i64 d, .int .i64 tt, .string s] 70) = w0 at B0 A0 hz0 ⊢
  obtain ⟨s0, s1, s2⟩ := cell3 A0.out.2
  refine Calls.mono (CL.out _ B0.out) ?_; rintro e w' ⟨rfl, hw⟩; replace hw := hw.symm; subst hw
  go_wp2_with fail
  refine Calls.mono (cC.at _) ?_; rintro e w1 ⟨rfl, hb1⟩
  have B1 : Hid (Below w.heap.size w w1) := B0.out.trans (hb1.mono B0.out.size)
  have G1 : Hid _ := (hb1.block w.heap.size (by omega)).trans A0.out.1
  have S1 := (hb1.block (w.heap.size + 1) hz0).trans A0.out.2
  have hz1 : w.heap.size + 1 < w1.heap.size := Nat.lt_of_lt_of_le hz0 hb1.size
  clear s0 s1 s2 hb1 A0 B0 hz0
  obtain ⟨s0, s1, s2⟩ := cell3 S1
  have HS1 : Hid _ := S1
  clear S1
  have CF1 : Hid _ := CF.out w1 (HT.out.below B1.out)
  unfold rpv at CF1
  clear CF
  go_wp2_with fail
  refine Calls.mono CF1.out ?_; rintro e w2 ⟨rfl, v', hL⟩
  have G2 := (BL.keeps HT.out hL w.heap.size (Nat.le_refl _) (by omega)).trans G1.out
  have S2 := (BL.keeps HT.out hL (w.heap.size + 1) (by omega) hz1).trans HS1.out
  have hz2 : w.heap.size + 1 < w2.heap.size := Nat.lt_of_lt_of_le hz1 hL.chg.size
  have HL : Hid (∀ o, BL w (w2.alloc o) base b g v v' tk' ti ms') := fun o => (BL.pre B1.out hL).grow ((Below.refl _ _).alloc (Nat.le_refl _) o)
  have G3 : ∀ o, (w2.alloc o).heap[w.heap.size]? = _ := fun o => (Below.heap_alloc w2 o _ (by omega)).trans G2
  have S3 : ∀ o, (w2.alloc o).heap[w.heap.size + 1]? = _ := fun o => (Below.heap_alloc w2 o _ hz2).trans S2
  have R3 : ∀ o, (w2.alloc o).heap[w2.heap.size]? = some o := fun o => alloc1 w2 o
  have HG3 : Hid _ := G3
  have HS3 : Hid _ := S3
  have HR3 : Hid _ := R3
  clear s0 s1 s2 G2 S2 G3 S3 R3 hL CF1 G1 HS1 hz1 B1
  go_wp2_with fail
  have G4 := HG3.out (.cells #[.int .i64 er, .int .i64 sd, .string fr] 42)
  have S4 := HS3.out (.cells #[.int .i64 er, .int .i64 sd, .string fr] 42)
  have R4 := HR3.out (.cells #[.int .i64 er, .int .i64 sd, .string fr] 42)
  have L4 : Hid _ := HL.out (.cells #[.int .i64 er, .int .i64 sd, .string fr] 42)
  clear HG3 HS3 HR3 HL
  generalize w2.alloc (.cells #[.int .i64 er, .int .i64 sd, .string fr] 42) = w4 at G4 S4 R4 L4 ⊢
  refine Calls.mono (CL2.out _ _ L4.out.bat) ?_; rintro e w' ⟨rfl, hw⟩; replace hw := hw.symm; subst hw
  obtain ⟨s0, s1, s2⟩ := cell3 S4
  obtain ⟨r0, r1, r2⟩ := cell3 R4
  have g4 := cell_of_row _ _ 4 _ _ _ G4
  simp at g4
  clear G4 S4 R4 CL CL2 HT
  rcases HQ.out with ⟨d0, d1, rfl, rfl, rfl, rfl⟩ | ⟨hd, hc, rfl, rfl, rfl, rfl⟩ | ⟨hd, rfl, he, rfl, rfl, rfl⟩ | ⟨hd, rfl, he, rfl, hf, rfl⟩ | ⟨rfl, rfl, rfl, rfl, hf, rfl⟩ | ⟨rfl, rfl, rfl, hf, hn⟩
  · clear HQ HD
    go_wp2
    go_ret
    exact ⟨by simp, v', L4.out⟩
  · clear HQ HD
    rcases hd with rfl | rfl
    all_goals
      go_wp2
      go_ret
      exact ⟨by simp, v', L4.out⟩
  · clear HQ HD
    rcases hd with rfl | rfl
    all_goals
      go_wp2
      go_ret
      exact ⟨by simp, v', L4.out⟩
  · have c5 := HD.out hf
    clear HQ HD
    rcases hd with rfl | rfl
    all_goals rcases he with rfl | rfl | rfl
    all_goals
      go_wp2_with fail
      refine Calls.mono (c5.at _) ?_; rintro e w5 ⟨rfl, hb5⟩
      go_wp2
      go_ret
      exact ⟨by simp, v', L4.out.grow hb5⟩
  · have c5 := HD.out hf
    clear HQ HD
    go_wp2_with fail
    refine Calls.mono (c5.at _) ?_; rintro e w5 ⟨rfl, hb5⟩
    go_wp2
    go_ret
    exact ⟨by simp, v', L4.out.grow hb5⟩
  · have c5 := HD.out hf
    clear HQ HD
    rcases hn with rfl | rfl
    all_goals
      go_wp2_with fail
      refine Calls.mono (c5.at _) ?_; rintro e w5 ⟨rfl, hb5⟩
      go_wp2
      go_ret
      exact ⟨by simp, v', L4.out.grow hb5⟩
end
end Go.Proofs.YthiljpbodmajaabGreat
