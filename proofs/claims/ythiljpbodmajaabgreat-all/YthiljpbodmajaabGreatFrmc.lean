/-
  CONTRACTS: package frames, the small functions.
-/
import Derived.Test.YthiljpbodmajaabGreatSumw
import Derived.Test.YthiljpbodmajaabGreatPlain
import Derived.Test.YthiljpbodmajaabGreatCfgw
namespace Go.Proofs.YthiljpbodmajaabGreat
open Go.RowKit Plain

theorem long_any (s : ByteArray) (i : Int) (w : World) (hs : s.size ≤ maxLen) (h0 : 0 ≤ i) (h1 : i < 65536) :
    Calls Tryz.prog 135 #[.string s, .int .i64 i] w fun e w' => e = .returned (.int .i64 (lg s i)) ∧ w' = w := by
  obtain ⟨b11, b12⟩ := wd_bd s i
  obtain ⟨b21, b22⟩ := wd_bd s (i + 2)
  have ho := or16 (wd s i) (wd s (i + 2)) (by omega) (by omega) (by omega) (by omega)
  go_enter Tryz.func135, Tryz.ntmps135
  go_wp2_with fail
  refine (word_any s i _ hs (by omega) (by omega)).mono ?_; rintro e w' ⟨rfl, rfl⟩
  go_wp2_with fail
  refine (word_any s (i + 2) _ hs (by omega) (by omega)).mono ?_; rintro e w' ⟨rfl, rfl⟩
  go_wp2
  go_ret
  exact ⟨rfl, rfl⟩
theorem version_any (s : ByteArray) (w : World) (hs : s.size ≤ maxLen) :
    Calls Tryz.prog 213 #[.string s] w fun e w' => e = .returned (.int .i64 (ver s)) ∧ w' = w := by
  obtain ⟨b1, b2⟩ := bt_bd s 0
  go_enter Tryz.func213, Tryz.ntmps213
  go_wp2_with fail
  refine (byte_any s 0 _ hs).mono ?_; rintro e w' ⟨rfl, rfl⟩
  go_wp2
  go_ret
  exact ⟨rfl, rfl⟩
theorem headerLength_any (s : ByteArray) (w : World) (hs : s.size ≤ maxLen) :
    Calls Tryz.prog 115 #[.string s] w fun e w' => e = .returned (.int .i64 (hdv s)) ∧ w' = w := by
  obtain ⟨b1, b2⟩ := bt_bd s 0
  have ha := and15 (bt s 0) (by omega) (by omega)
  go_enter Tryz.func115, Tryz.ntmps115
  go_wp2_with fail
  refine (byte_any s 0 _ hs).mono ?_; rintro e w' ⟨rfl, rfl⟩
  go_wp2
  go_ret
  exact ⟨rfl, rfl⟩
theorem totalLength_any (s : ByteArray) (w : World) (hs : s.size ≤ maxLen) :
    Calls Tryz.prog 127 #[.string s] w fun e w' => e = .returned (.int .i64 (wd s 2)) ∧ w' = w := by
  go_enter Tryz.func127, Tryz.ntmps127
  go_wp2_with fail
  refine (word_any s 2 _ hs (by omega) (by omega)).mono ?_; rintro e w' ⟨rfl, rfl⟩
  go_wp2
  go_ret
  exact ⟨rfl, rfl⟩
theorem protocol_any (s : ByteArray) (w : World) (hs : s.size ≤ maxLen) :
    Calls Tryz.prog 77 #[.string s] w fun e w' => e = .returned (.int .i64 (bt s 9)) ∧ w' = w := by
  go_enter Tryz.func77, Tryz.ntmps77
  go_wp2_with fail
  refine (byte_any s 9 _ hs).mono ?_; rintro e w' ⟨rfl, rfl⟩
  go_wp2
  go_ret
  exact ⟨rfl, rfl⟩
theorem source_any (s : ByteArray) (w : World) (hs : s.size ≤ maxLen) :
    Calls Tryz.prog 111 #[.string s] w fun e w' => e = .returned (.int .i64 (lg s 12)) ∧ w' = w := by
  go_enter Tryz.func111, Tryz.ntmps111
  go_wp2_with fail
  refine (long_any s 12 _ hs (by omega) (by omega)).mono ?_; rintro e w' ⟨rfl, rfl⟩
  go_wp2
  go_ret
  exact ⟨rfl, rfl⟩
theorem destination_any (s : ByteArray) (w : World) (hs : s.size ≤ maxLen) :
    Calls Tryz.prog 88 #[.string s] w fun e w' => e = .returned (.int .i64 (lg s 16)) ∧ w' = w := by
  go_enter Tryz.func88, Tryz.ntmps88
  go_wp2_with fail
  refine (long_any s 16 _ hs (by omega) (by omega)).mono ?_; rintro e w' ⟨rfl, rfl⟩
  go_wp2
  go_ret
  exact ⟨rfl, rfl⟩
theorem icmpType_any (s : ByteArray) (w : World) (hs : s.size ≤ maxLen) :
    Calls Tryz.prog 79 #[.string s] w fun e w' => e = .returned (.int .i64 (bt s (hdv s))) ∧ w' = w := by
  go_enter Tryz.func79, Tryz.ntmps79
  go_wp2_with fail
  refine (headerLength_any s _ hs).mono ?_; rintro e w' ⟨rfl, rfl⟩
  go_wp2_with fail
  refine (byte_any s _ _ hs).mono ?_; rintro e w' ⟨rfl, rfl⟩
  go_wp2
  go_ret
  exact ⟨rfl, rfl⟩
theorem size_le {s : ByteArray} (h : s.size ≤ 65535) : s.size ≤ maxLen := by unfold maxLen; omega
theorem body_fits (s : ByteArray) (w : World) (h : Fits s) :
    Calls Tryz.prog 164 #[.string s] w fun e w' => e = .returned (.string (bdy s)) ∧ w' = w := by
  have hs := size_le h.n64
  have h1 := h.h20
  have h2 := h.ht
  have h3 := h.tn
  go_enter Tryz.func164, Tryz.ntmps164
  go_wp2_with fail
  refine (headerLength_any s _ hs).mono ?_; rintro e w' ⟨rfl, rfl⟩
  go_wp2_with fail
  refine (totalLength_any s _ hs).mono ?_; rintro e w' ⟨rfl, rfl⟩
  go_wp2_with fail
  refine (octPart_in s _ _ _ (by omega) (by omega) (by omega)).mono ?_; rintro e w' ⟨rfl, rfl⟩
  go_wp2
  go_ret
  exact ⟨rfl, rfl⟩

set_option maxHeartbeats 1000000 in
theorem headerFits_any (s : ByteArray) (w : World) (hs : s.size ≤ maxLen) :
    Calls Tryz.prog 161 #[.string s] w fun e w' => e = .returned (.bool (fitsB s)) ∧ w' = w := by
  have hs' := hs
  unfold maxLen at hs'
  have key : (s.size < 20 ∧ fitsB s = false) ∨ (20 ≤ s.size ∧ 65535 < s.size ∧ fitsB s = false) ∨ (20 ≤ s.size ∧ s.size ≤ 65535 ∧ (ver s != 4) = true ∧ fitsB s = false) ∨
      (20 ≤ s.size ∧ s.size ≤ 65535 ∧ (ver s != 4) = false ∧ hdv s < 20 ∧ fitsB s = false) ∨ (20 ≤ s.size ∧ s.size ≤ 65535 ∧ (ver s != 4) = false ∧ 20 ≤ hdv s ∧ wd s 2 < hdv s ∧ fitsB s = false) ∨
      (20 ≤ s.size ∧ s.size ≤ 65535 ∧ (ver s != 4) = false ∧ 20 ≤ hdv s ∧ hdv s ≤ wd s 2 ∧ fitsB s = decide (wd s 2 ≤ (s.size : Int))) := by
    by_cases c1 : s.size < 20
    · exact .inl ⟨c1, by simp [fitsB]; omega⟩
    · by_cases c2 : 65535 < s.size
      · exact .inr (.inl ⟨by omega, c2, by simp [fitsB]; omega⟩)
      · by_cases c3 : ver s = 4
        · by_cases c4 : hdv s < 20
          · exact .inr (.inr (.inr (.inl ⟨by omega, by omega, by simp [c3], c4, by simp [fitsB]; omega⟩)))
          · by_cases c5 : wd s 2 < hdv s
            · exact .inr (.inr (.inr (.inr (.inl ⟨by omega, by omega, by simp [c3], by omega, c5, by simp [fitsB]; omega⟩))))
            · refine .inr (.inr (.inr (.inr (.inr ⟨by omega, by omega, by simp [c3], by omega, by omega, ?_⟩))))
              unfold fitsB
              rw [decide_eq_decide]
              omega
        · exact .inr (.inr (.inl ⟨by omega, by omega, by simp [c3], by simp [fitsB]; omega⟩))
  rcases key with ⟨c1, hf⟩ | ⟨c1, c2, hf⟩ | ⟨c1, c2, c3, hf⟩ | ⟨c1, c2, c3, c4, hf⟩ | ⟨c1, c2, c3, c4, c5, hf⟩ | ⟨c1, c2, c3, c4, c5, hf⟩
  all_goals
    have HF : Hid _ := hf
    clear hf
    go_enter Tryz.func161, Tryz.ntmps161
    go_wp2_with (first
      | (go_at_call 213; refine (version_any s _ hs).mono ?_; rintro e w' ⟨rfl, rfl⟩)
      | (go_at_call 115; refine (headerLength_any s _ hs).mono ?_; rintro e w' ⟨rfl, rfl⟩)
      | (go_at_call 127; refine (totalLength_any s _ hs).mono ?_; rintro e w' ⟨rfl, rfl⟩))
    go_ret
    exact ⟨ret_bool HF.out.symm, rfl⟩
end Go.Proofs.YthiljpbodmajaabGreat
namespace Go.Proofs.YthiljpbodmajaabGreat
open Go.RowKit Plain

theorem headerSum_fits (s : ByteArray) (w : World) (h : Fits s) :
    Calls Tryz.prog 163 #[.string s] w fun e w' => e = .returned (.int .i64 (hsv s)) ∧ Below w.heap.size w w' := by
  have hs := size_le h.n64
  have h1 := h.h20
  have h2 := h.ht
  have h3 := h.tn
  have h4 := h.n64
  have hz := prt_size s 0 (hdv s)
  have HZ : Hid _ := hz
  clear hz
  go_enter Tryz.func163, Tryz.ntmps163
  go_wp2_with fail
  refine (headerLength_any s _ hs).mono ?_; rintro e w' ⟨rfl, rfl⟩
  go_wp2_with fail
  refine (octPart_in s _ _ _ (by omega) (by omega) (by omega)).mono ?_; rintro e w' ⟨rfl, rfl⟩
  go_wp2_with fail
  refine (blanked_in _ _ _ (by omega) (by rw [HZ.out]; omega) (by rw [HZ.out]; omega)).mono ?_; rintro e w1 ⟨rfl, hb⟩
  go_wp2
  go_ret
  exact ⟨rfl, hb⟩

theorem ahead_fits (s : ByteArray) (p l : Int) (w : World) (h : Fits s) (p0 : 0 ≤ p) (p1 : p < 65536) (l0 : 0 ≤ l) (l1 : l < 65536) :
    Calls Tryz.prog 215 #[.string s, .int .i64 p, .int .i64 l] w fun e w' => e = .returned (.string (ahd s p l)) ∧ Below w.heap.size w w' := by
  have hn := h.n20
  have hz := prt_le s 12 20
  have hm := h.n64
  have hp := w2_size p
  have hl := w2_size l
  go_enter Tryz.func215, Tryz.ntmps215
  go_wp2_with fail
  refine (octPart_in s _ _ _ (by omega) (by omega) (by omega)).mono ?_; rintro e w' ⟨rfl, rfl⟩
  go_wp2_with fail
  refine (fromWord_any p _ p0 p1).mono ?_; rintro e w1 ⟨rfl, hb1⟩
  go_wp2_with fail
  refine (fromWord_any l _ l0 l1).mono ?_; rintro e w2 ⟨rfl, hb2⟩
  go_wp2
  go_ret
  exact ⟨rfl, hb1.trans (hb2.mono hb1.size)⟩

theorem icmpSum_fits (s : ByteArray) (w : World) (h : Fits s) (h8 : 8 ≤ (bdy s).size) :
    Calls Tryz.prog 167 #[.string s] w fun e w' => e = .returned (.int .i64 (sumv (blk (bdy s) 2))) ∧ Below w.heap.size w w' := by
  have hz := bdy_size h
  have h1 := h.tn
  have h2 := h.n64
  have h3 := h.h20
  have HZ : Hid _ := hz
  clear hz
  go_enter Tryz.func167, Tryz.ntmps167
  go_wp2_with fail
  refine (body_fits s _ h).mono ?_; rintro e w' ⟨rfl, rfl⟩
  go_wp2_with fail
  refine (blanked_in _ _ _ (by omega) (by omega) (by have := HZ.out; omega)).mono ?_; rintro e w1 ⟨rfl, hb⟩
  go_wp2
  go_ret
  exact ⟨rfl, hb⟩

theorem tcpSum_fits (s : ByteArray) (w : World) (h : Fits s) (h8 : 20 ≤ (bdy s).size) :
    Calls Tryz.prog 166 #[.string s] w fun e w' => e = .returned (.int .i64 (cks s (bdy s) 6 16)) ∧ Below w.heap.size w w' := by
  have hz := bdy_size h
  have h1 := h.tn
  have h2 := h.n64
  have h3 := h.h20
  have hb65 : (bdy s).size ≤ 65515 := by omega
  have ha := ahd_size h.n20 6 (bdy s).size
  have hk := cks_eq (s := s) (c := bdy s) 6 16 h.n20 (by omega) (by omega) hb65
  have HK : Hid _ := hk
  clear hz hk
  go_enter Tryz.func166, Tryz.ntmps166
  go_wp2_with fail
  refine (body_fits s _ h).mono ?_; rintro e w' ⟨rfl, rfl⟩
  go_wp2_with fail
  refine (ahead_fits s _ _ _ h (by omega) (by omega) (by omega) (by omega)).mono ?_; rintro e w1 ⟨rfl, hb1⟩
  go_wp2_with fail
  refine (blanked_in _ _ _ (by omega) (by rw [ByteArray.size_append]; omega) (by rw [ByteArray.size_append]; omega)).mono ?_; rintro e w2 ⟨rfl, hb2⟩
  go_wp2
  go_ret
  exact ⟨ret_int HK.out, hb1.trans (hb2.mono hb1.size)⟩

set_option maxHeartbeats 1000000 in
theorem udpSum_fits (s : ByteArray) (w : World) (h : Fits s) (h8 : 8 ≤ wd (bdy s) 4) (hl : wd (bdy s) 4 ≤ ((bdy s).size : Int)) :
    Calls Tryz.prog 165 #[.string s] w fun e w' => e = .returned (.int .i64 (udpv s (prt (bdy s) 0 (wd (bdy s) 4)))) ∧ Below w.heap.size w w' := by
  have hz := bdy_size h
  have h1 := h.tn
  have h2 := h.n64
  have h3 := h.h20
  have hb65 : (bdy s).size ≤ 65515 := by omega
  have hs := size_le (show (bdy s).size ≤ 65535 by omega)
  have hc : ((prt (bdy s) 0 (wd (bdy s) 4)).size : Int) = wd (bdy s) 4 := by rw [prt_size]; omega
  have ha := ahd_size h.n20 17 (wd (bdy s) 4)
  have hk := cks_eq (s := s) (c := prt (bdy s) 0 (wd (bdy s) 4)) 17 6 h.n20 (by omega) (by omega) (by omega)
  rw [hc] at hk
  have hu : udpv s (prt (bdy s) 0 (wd (bdy s) 4)) = if cks s (prt (bdy s) 0 (wd (bdy s) 4)) 17 6 = 0 then 65535 else cks s (prt (bdy s) 0 (wd (bdy s) 4)) 17 6 := rfl
  obtain ⟨q1, q2⟩ := wd_bd (bdy s) 4
  have HC : Hid _ := hc
  generalize hcc : prt (bdy s) 0 (wd (bdy s) 4) = c at *
  generalize hv : cks s c 17 6 = v at *
  have HU : Hid _ := hu
  have HK : Hid _ := hk
  have HCC : Hid _ := hcc
  clear hz hk hu hc hcc hv
  go_enter Tryz.func165, Tryz.ntmps165
  go_wp2_with fail
  refine (body_fits s _ h).mono ?_; rintro e w' ⟨rfl, rfl⟩
  go_wp2_with fail
  refine (word_any _ _ _ hs (by omega) (by omega)).mono ?_; rintro e w' ⟨rfl, rfl⟩
  go_wp2_with fail
  refine (body_fits s _ h).mono ?_; rintro e w' ⟨rfl, rfl⟩
  go_wp2_with fail
  refine (octPart_in _ _ _ _ (by omega) (by omega) (by omega)).mono ?_; rintro e w' ⟨rfl, rfl⟩
  rw [HCC.out]
  go_wp2_with fail
  refine (ahead_fits s _ _ _ h (by omega) (by omega) (by omega) (by omega)).mono ?_; rintro e w1 ⟨rfl, hb1⟩
  have hcs : c.size ≤ 65515 := by have := HC.out; omega
  go_wp2_with fail
  refine (blanked_in _ _ _ (by omega) (by rw [ByteArray.size_append]; have := HC.out; omega) (by rw [ByteArray.size_append]; have := HC.out; omega)).mono ?_; rintro e w2 ⟨rfl, hb2⟩
  rw [show (18 : Int) = 12 + 6 by rfl, HK.out]
  by_cases h0 : v = 0
  · subst h0
    go_wp2
    go_ret
    exact ⟨ret_int (by rw [HU.out]; rfl), hb1.trans (hb2.mono hb1.size)⟩
  · have hn : (v == 0) = false := by simpa using h0
    go_wp2
    go_ret
    exact ⟨ret_int (by rw [HU.out, if_neg h0]), hb1.trans (hb2.mono hb1.size)⟩

theorem isRequest_any (t : Int) (w : World) :
    Calls Tryz.prog 170 #[.int .i64 t] w fun e w' => e = .returned (.bool (reqB t)) ∧ w' = w := by
  cases h : t == 8
  · go_enter Tryz.func170, Tryz.ntmps170
    go_wp2
    go_ret
    exact ⟨by simp [reqB, h], rfl⟩
  · go_enter Tryz.func170, Tryz.ntmps170
    go_wp2
    go_ret
    exact ⟨by simp [reqB, h], rfl⟩
theorem isReply_any (t : Int) (w : World) :
    Calls Tryz.prog 171 #[.int .i64 t] w fun e w' => e = .returned (.bool (repB t)) ∧ w' = w := by
  cases h : t == 0
  · go_enter Tryz.func171, Tryz.ntmps171
    go_wp2
    go_ret
    exact ⟨by simp [repB, h], rfl⟩
  · go_enter Tryz.func171, Tryz.ntmps171
    go_wp2
    go_ret
    exact ⟨by simp [repB, h], rfl⟩
theorem isError_any (t : Int) (w : World) :
    Calls Tryz.prog 78 #[.int .i64 t] w fun e w' => e = .returned (.bool (errB t)) ∧ w' = w := by
  cases h : t == 3
  · cases h1 : t == 11
    · go_enter Tryz.func78, Tryz.ntmps78
      go_wp2
      go_ret
      exact ⟨by simp [errB, h, h1], rfl⟩
    · go_enter Tryz.func78, Tryz.ntmps78
      go_wp2
      go_ret
      exact ⟨by simp [errB, h, h1], rfl⟩
  · go_enter Tryz.func78, Tryz.ntmps78
    go_wp2
    go_ret
    exact ⟨by simp [errB, h], rfl⟩

set_option maxHeartbeats 1000000 in
theorem checkHeader_any (s : ByteArray) (w : World) (hs : s.size ≤ maxLen) :
    Calls Tryz.prog 105 #[.string s] w fun e w' => e = .returned (.int .i64 (hdrv s)) ∧ Below w.heap.size w w' := by
  cases hf : fitsB s
  · go_enter Tryz.func105, Tryz.ntmps105
    go_wp2_with fail
    refine (headerFits_any s _ hs).mono ?_; rintro e w' ⟨rfl, rfl⟩
    go_wp2
    go_ret
    exact ⟨ret_int (by simp [hdrv, hf]), Below.refl _ _⟩
  · have F := fits_of hf
    obtain ⟨b1, b2⟩ := wd_bd s 6
    have ha := and16383 (wd s 6) (by omega) (by omega)
    cases h1 : (wd s 10 != hsv s)
    · have hp : partB s = (wd s 6 % 16384 != 0) := rfl
      cases h2 : (wd s 6 % 16384 != 0)
      · cases h3 : usB (lg s 12)
        · have hr : hdrv s = 6 := by simp [hdrv, hf, h1, hp, h2, h3]
          have HR : Hid _ := hr
          clear hr hp
          go_enter Tryz.func105, Tryz.ntmps105
          go_wp2_with fail
          refine (headerFits_any s _ hs).mono ?_; rintro e w' ⟨rfl, rfl⟩
          go_wp2_with fail
          refine (word_any s _ _ hs (by omega) (by omega)).mono ?_; rintro e w' ⟨rfl, rfl⟩
          go_wp2_with fail
          refine (headerSum_fits s _ F).mono ?_; rintro e w1 ⟨rfl, hb1⟩
          go_wp2_with fail
          refine (word_any s _ _ hs (by omega) (by omega)).mono ?_; rintro e w' ⟨rfl, rfl⟩
          go_wp2_with fail
          refine (source_any s _ hs).mono ?_; rintro e w' ⟨rfl, rfl⟩
          go_wp2_with fail
          refine (usable_any _ _).mono ?_; rintro e w' ⟨rfl, rfl⟩
          go_wp2
          go_ret
          exact ⟨ret_int HR.out.symm, hb1⟩
        · have hr : hdrv s = if usB (lg s 16) then 0 else 6 := by simp [hdrv, hf, h1, hp, h2, h3]
          have HR : Hid _ := hr
          clear hr hp
          cases h4 : usB (lg s 16)
          all_goals
            go_enter Tryz.func105, Tryz.ntmps105
            go_wp2_with fail
            refine (headerFits_any s _ hs).mono ?_; rintro e w' ⟨rfl, rfl⟩
            go_wp2_with fail
            refine (word_any s _ _ hs (by omega) (by omega)).mono ?_; rintro e w' ⟨rfl, rfl⟩
            go_wp2_with fail
            refine (headerSum_fits s _ F).mono ?_; rintro e w1 ⟨rfl, hb1⟩
            go_wp2_with fail
            refine (word_any s _ _ hs (by omega) (by omega)).mono ?_; rintro e w' ⟨rfl, rfl⟩
            go_wp2_with fail
            refine (source_any s _ hs).mono ?_; rintro e w' ⟨rfl, rfl⟩
            go_wp2_with fail
            refine (usable_any _ _).mono ?_; rintro e w' ⟨rfl, rfl⟩
            go_wp2_with fail
            refine (destination_any s _ hs).mono ?_; rintro e w' ⟨rfl, rfl⟩
            go_wp2_with fail
            refine (usable_any _ _).mono ?_; rintro e w' ⟨rfl, rfl⟩
            go_wp2
            go_ret
            exact ⟨ret_int (by rw [HR.out, h4]; rfl), hb1⟩
      · have hr : hdrv s = 5 := by simp [hdrv, hf, h1, hp, h2]
        have HR : Hid _ := hr
        clear hr hp
        go_enter Tryz.func105, Tryz.ntmps105
        go_wp2_with fail
        refine (headerFits_any s _ hs).mono ?_; rintro e w' ⟨rfl, rfl⟩
        go_wp2_with fail
        refine (word_any s _ _ hs (by omega) (by omega)).mono ?_; rintro e w' ⟨rfl, rfl⟩
        go_wp2_with fail
        refine (headerSum_fits s _ F).mono ?_; rintro e w1 ⟨rfl, hb1⟩
        go_wp2_with fail
        refine (word_any s _ _ hs (by omega) (by omega)).mono ?_; rintro e w' ⟨rfl, rfl⟩
        go_wp2
        go_ret
        exact ⟨ret_int HR.out.symm, hb1⟩
    · have hr : hdrv s = 4 := by simp [hdrv, hf, h1]
      have HR : Hid _ := hr
      clear hr
      go_enter Tryz.func105, Tryz.ntmps105
      go_wp2_with fail
      refine (headerFits_any s _ hs).mono ?_; rintro e w' ⟨rfl, rfl⟩
      go_wp2_with fail
      refine (word_any s _ _ hs (by omega) (by omega)).mono ?_; rintro e w' ⟨rfl, rfl⟩
      go_wp2_with fail
      refine (headerSum_fits s _ F).mono ?_; rintro e w1 ⟨rfl, hb1⟩
      go_wp2
      go_ret
      exact ⟨ret_int HR.out.symm, hb1⟩
end Go.Proofs.YthiljpbodmajaabGreat
