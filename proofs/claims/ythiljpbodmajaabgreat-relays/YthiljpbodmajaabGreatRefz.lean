/-
  CONTRACTS: package natboxref: outward, walked.
-/
import Derived.Test.YthiljpbodmajaabGreatVrdz
import Derived.Deep.DeepCutAuto
namespace Go.Proofs.YthiljpbodmajaabGreat
open Go.RowKit Plain
set_option linter.unusedVariables false

def RoutH (b : Nat) (s : ByteArray) (p da sa sp dp fp now oa im om : Int) (w : World) (V : List Value) : Prop :=
    (∃ hv : Int, (da == oa) = true ∧ hv < 0 ∧ (∀ wx, Below w.heap.size w wx → Calls Tryz.prog 203 #[.pointer (some ⟨b, 0, none⟩), .int .i64 p, .int .i64 dp] wx fun e w' => e = .returned (.int .i64 hv) ∧ Below wx.heap.size wx w') ∧ V = [.int .i64 8, .int .i64 0, .string ⟨#[]⟩, .int .i64 2, .bool false, .int .i64 0, .int .i64 0, .int .i64 0, .int .i64 0, .int .i64 0, .int .i64 0, .int .i64 0, .bool false]) ∨
    ((da == oa) = false ∧ ∃ (e : Int) (a0 a1 : Int) (a2 : ByteArray) (a3 : Int) (a4 : Bool) (a5 a6 a7 a8 a9 a10 a11 : Int) (a12 : Bool), Ret 200 #[.pointer (some ⟨b, 0, none⟩), .string s, .int .i64 om] (.int .i64 e) ∧ (e != 0) = true ∧ (∀ wx, Below w.heap.size w wx → Calls Tryz.prog 205 #[.pointer (some ⟨b, 0, none⟩), .int .i64 0, .string s, .int .i64 e, .int .i64 om, .int .i64 1] wx fun r w' => r = .returned (.agg #[.int .i64 a0, .int .i64 a1, .string a2, .int .i64 a3, .bool a4, .int .i64 a5, .int .i64 a6, .int .i64 a7, .int .i64 a8, .int .i64 a9, .int .i64 a10, .int .i64 a11, .bool a12]) ∧ Below wx.heap.size wx w') ∧ V = [.int .i64 a0, .int .i64 a1, .string a2, .int .i64 a3, .bool a4, .int .i64 a5, .int .i64 a6, .int .i64 a7, .int .i64 a8, .int .i64 a9, .int .i64 a10, .int .i64 a11, .bool a12]) ∨
    ((da == oa) = false ∧ ∃ (a0 a1 : Int) (a2 : ByteArray) (a3 : Int) (a4 : Bool) (a5 a6 a7 a8 a9 a10 a11 : Int) (a12 : Bool), Ret 200 #[.pointer (some ⟨b, 0, none⟩), .string s, .int .i64 om] (.int .i64 0) ∧ (∀ wx, Below w.heap.size w wx → Calls Tryz.prog 209 #[.pointer (some ⟨b, 0, none⟩), .agg #[.int .i64 p, .int .i64 sa, .int .i64 sp, .int .i64 0, .int .i64 da, .int .i64 fp, .int .i64 now]] wx fun e w' => e = .returned (.int .i64 0) ∧ Below wx.heap.size wx w') ∧ (∀ wx, Below w.heap.size w wx → Calls Tryz.prog 205 #[.pointer (some ⟨b, 0, none⟩), .int .i64 0, .string s, .int .i64 11, .int .i64 0, .int .i64 1] wx fun r w' => r = .returned (.agg #[.int .i64 a0, .int .i64 a1, .string a2, .int .i64 a3, .bool a4, .int .i64 a5, .int .i64 a6, .int .i64 a7, .int .i64 a8, .int .i64 a9, .int .i64 a10, .int .i64 a11, .bool a12]) ∧ Below wx.heap.size wx w') ∧ V = [.int .i64 a0, .int .i64 a1, .string a2, .int .i64 a3, .bool a4, .int .i64 a5, .int .i64 a6, .int .i64 a7, .int .i64 a8, .int .i64 a9, .int .i64 a10, .int .i64 a11, .bool a12]) ∨
    ((da == oa) = false ∧ ∃ (x : Int) (G Z : ByteArray), Ret 200 #[.pointer (some ⟨b, 0, none⟩), .string s, .int .i64 om] (.int .i64 0) ∧ (∀ wx, Below w.heap.size w wx → Calls Tryz.prog 209 #[.pointer (some ⟨b, 0, none⟩), .agg #[.int .i64 p, .int .i64 sa, .int .i64 sp, .int .i64 0, .int .i64 da, .int .i64 fp, .int .i64 now]] wx fun e w' => e = .returned (.int .i64 x) ∧ Below wx.heap.size wx w') ∧ (x == 0) = false ∧ RetB 210 #[.string s, .int .i64 oa, .int .i64 x] (.string G) ∧ RetB 202 #[.string G] (.string Z) ∧ V = [.int .i64 0, .int .i64 1, .string Z, .int .i64 0, .bool true, .int .i64 p, .int .i64 sa, .int .i64 sp, .int .i64 x, .int .i64 da, .int .i64 fp, .int .i64 now, .bool false]) ∨
    (∃ (i g n cap : Nat) (ad po : Int) (D : ByteArray), (da == oa) = true ∧ i < n ∧ n ≤ cap ∧ cap ≤ 9223372036854775807 ∧ (∀ wx, Below w.heap.size w wx → wx.cell? ⟨b, 13, none⟩ = some (.slice (some ⟨g, 0, none⟩) n cap) ∧ wx.cell? ⟨g, i * 7 + 1, none⟩ = some (.int .i64 ad) ∧ wx.cell? ⟨g, i * 7 + 2, none⟩ = some (.int .i64 po)) ∧ RetB 206 #[.string s, .int .i64 ad, .int .i64 po] (.string D) ∧ (∀ wx, Below w.heap.size w wx → Calls Tryz.prog 203 #[.pointer (some ⟨b, 0, none⟩), .int .i64 p, .int .i64 dp] wx fun e w' => e = .returned (.int .i64 (i : Int)) ∧ Below wx.heap.size wx w') ∧ ∃ (e : Int) (a0 a1 : Int) (a2 : ByteArray) (a3 : Int) (a4 : Bool) (a5 a6 a7 a8 a9 a10 a11 : Int) (a12 : Bool), Ret 200 #[.pointer (some ⟨b, 0, none⟩), .string s, .int .i64 im] (.int .i64 e) ∧ (e != 0) = true ∧ (∀ wx, Below w.heap.size w wx → Calls Tryz.prog 205 #[.pointer (some ⟨b, 0, none⟩), .int .i64 0, .string s, .int .i64 e, .int .i64 im, .int .i64 2] wx fun r w' => r = .returned (.agg #[.int .i64 a0, .int .i64 a1, .string a2, .int .i64 a3, .bool a4, .int .i64 a5, .int .i64 a6, .int .i64 a7, .int .i64 a8, .int .i64 a9, .int .i64 a10, .int .i64 a11, .bool a12]) ∧ Below wx.heap.size wx w') ∧ V = [.int .i64 a0, .int .i64 a1, .string a2, .int .i64 a3, .bool a4, .int .i64 a5, .int .i64 a6, .int .i64 a7, .int .i64 a8, .int .i64 a9, .int .i64 a10, .int .i64 a11, .bool a12]) ∨
    (∃ (i g n cap : Nat) (ad po : Int) (D : ByteArray), (da == oa) = true ∧ i < n ∧ n ≤ cap ∧ cap ≤ 9223372036854775807 ∧ (∀ wx, Below w.heap.size w wx → wx.cell? ⟨b, 13, none⟩ = some (.slice (some ⟨g, 0, none⟩) n cap) ∧ wx.cell? ⟨g, i * 7 + 1, none⟩ = some (.int .i64 ad) ∧ wx.cell? ⟨g, i * 7 + 2, none⟩ = some (.int .i64 po)) ∧ RetB 206 #[.string s, .int .i64 ad, .int .i64 po] (.string D) ∧ (∀ wx, Below w.heap.size w wx → Calls Tryz.prog 203 #[.pointer (some ⟨b, 0, none⟩), .int .i64 p, .int .i64 dp] wx fun e w' => e = .returned (.int .i64 (i : Int)) ∧ Below wx.heap.size wx w') ∧ ∃ (a0 a1 : Int) (a2 : ByteArray) (a3 : Int) (a4 : Bool) (a5 a6 a7 a8 a9 a10 a11 : Int) (a12 : Bool), Ret 200 #[.pointer (some ⟨b, 0, none⟩), .string s, .int .i64 im] (.int .i64 0) ∧ (∀ wx, Below w.heap.size w wx → Calls Tryz.prog 209 #[.pointer (some ⟨b, 0, none⟩), .agg #[.int .i64 p, .int .i64 sa, .int .i64 sp, .int .i64 0, .int .i64 da, .int .i64 fp, .int .i64 now]] wx fun e w' => e = .returned (.int .i64 0) ∧ Below wx.heap.size wx w') ∧ (∀ wx, Below w.heap.size w wx → Calls Tryz.prog 205 #[.pointer (some ⟨b, 0, none⟩), .int .i64 0, .string s, .int .i64 11, .int .i64 0, .int .i64 2] wx fun r w' => r = .returned (.agg #[.int .i64 a0, .int .i64 a1, .string a2, .int .i64 a3, .bool a4, .int .i64 a5, .int .i64 a6, .int .i64 a7, .int .i64 a8, .int .i64 a9, .int .i64 a10, .int .i64 a11, .bool a12]) ∧ Below wx.heap.size wx w') ∧ V = [.int .i64 a0, .int .i64 a1, .string a2, .int .i64 a3, .bool a4, .int .i64 a5, .int .i64 a6, .int .i64 a7, .int .i64 a8, .int .i64 a9, .int .i64 a10, .int .i64 a11, .bool a12]) ∨
    (∃ (i g n cap : Nat) (ad po : Int) (D : ByteArray), (da == oa) = true ∧ i < n ∧ n ≤ cap ∧ cap ≤ 9223372036854775807 ∧ (∀ wx, Below w.heap.size w wx → wx.cell? ⟨b, 13, none⟩ = some (.slice (some ⟨g, 0, none⟩) n cap) ∧ wx.cell? ⟨g, i * 7 + 1, none⟩ = some (.int .i64 ad) ∧ wx.cell? ⟨g, i * 7 + 2, none⟩ = some (.int .i64 po)) ∧ RetB 206 #[.string s, .int .i64 ad, .int .i64 po] (.string D) ∧ (∀ wx, Below w.heap.size w wx → Calls Tryz.prog 203 #[.pointer (some ⟨b, 0, none⟩), .int .i64 p, .int .i64 dp] wx fun e w' => e = .returned (.int .i64 (i : Int)) ∧ Below wx.heap.size wx w') ∧ ∃ (x : Int) (G Z : ByteArray), Ret 200 #[.pointer (some ⟨b, 0, none⟩), .string s, .int .i64 im] (.int .i64 0) ∧ (∀ wx, Below w.heap.size w wx → Calls Tryz.prog 209 #[.pointer (some ⟨b, 0, none⟩), .agg #[.int .i64 p, .int .i64 sa, .int .i64 sp, .int .i64 0, .int .i64 da, .int .i64 fp, .int .i64 now]] wx fun e w' => e = .returned (.int .i64 x) ∧ Below wx.heap.size wx w') ∧ (x == 0) = false ∧ RetB 210 #[.string D, .int .i64 oa, .int .i64 x] (.string G) ∧ RetB 202 #[.string G] (.string Z) ∧ V = [.int .i64 0, .int .i64 0, .string Z, .int .i64 2, .bool true, .int .i64 p, .int .i64 sa, .int .i64 sp, .int .i64 x, .int .i64 da, .int .i64 fp, .int .i64 now, .bool false])
set_option maxHeartbeats 4000000 in
set_option maxRecDepth 2000 in
theorem rout_any (b : Nat) (s : ByteArray) (p da sa sp dp fp now oa im om : Int) (w : World) (c9 : Ret 141 #[.string s, .int .i64 9, .int .i64 1] (.int .i64 p)) (c16 : Ret 141 #[.string s, .int .i64 16, .int .i64 4] (.int .i64 da)) (c12 : Ret 141 #[.string s, .int .i64 12, .int .i64 4] (.int .i64 sa)) (cs : Ret 207 #[.string s] (.int .i64 sp)) (cd : Ret 204 #[.string s] (.int .i64 dp)) (cf : Ret 208 #[.int .i64 p, .int .i64 dp] (.int .i64 fp))
    (cb : ∀ wx, Below w.heap.size w wx → wx.cell? ⟨b, 1, none⟩ = some (.int .i64 oa) ∧ wx.cell? ⟨b, 5, none⟩ = some (.int .i64 im) ∧ wx.cell? ⟨b, 6, none⟩ = some (.int .i64 om) ∧ wx.cell? ⟨b, 12, none⟩ = some (.int .i64 now)) (V : List Value) (hH : RoutH b s p da sa sp dp fp now oa im om w V) :
    Calls Tryz.prog 153 #[.pointer (some ⟨b, 0, none⟩), .string s] w fun r w' => r = .returned (.agg V.toArray) ∧ Below w.heap.size w w' := by
  have CB : Hid _ := cb
  have H : Hid _ := hH
  clear cb hH
  go_enter Tryz.func153, Tryz.ntmps153
  go_upto_region 1 with fail
  have S_v0 : Hid (St [(w.heap.size, #[.int .i64 0, .int .i64 0, .string ⟨#[]⟩, .int .i64 0, .bool false, .int .i64 0, .int .i64 0, .int .i64 0, .int .i64 0, .int .i64 0, .int .i64 0, .int .i64 0, .bool false], 136)] w (w.alloc (.cells #[.int .i64 0, .int .i64 0, .string ⟨#[]⟩, .int .i64 0, .bool false, .int .i64 0, .int .i64 0, .int .i64 0, .int .i64 0, .int .i64 0, .int .i64 0, .int .i64 0, .bool false] 136))) := St.alloc (St.start w) #[.int .i64 0, .int .i64 0, .string ⟨#[]⟩, .int .i64 0, .bool false, .int .i64 0, .int .i64 0, .int .i64 0, .int .i64 0, .int .i64 0, .int .i64 0, .int .i64 0, .bool false] 136 (w.heap.size) rfl
  generalize (w.alloc (.cells #[.int .i64 0, .int .i64 0, .string ⟨#[]⟩, .int .i64 0, .bool false, .int .i64 0, .int .i64 0, .int .i64 0, .int .i64 0, .int .i64 0, .int .i64 0, .int .i64 0, .bool false] 136)) = v0 at S_v0 ⊢
  have hz_v0 : w.heap.size < v0.heap.size := St.lt S_v0.out (x := (w.heap.size, #[.int .i64 0, .int .i64 0, .string ⟨#[]⟩, .int .i64 0, .bool false, .int .i64 0, .int .i64 0, .int .i64 0, .int .i64 0, .int .i64 0, .int .i64 0, .int .i64 0, .bool false], 136)) (by simp)
  go_wp2_with fail
  refine Calls.mono (c9.at _) ?_; rintro e w' ⟨rfl, hw⟩; replace hw := hw.symm; subst hw
  go_wp2_with fail
  refine Calls.mono (c16.at _) ?_; rintro e w' ⟨rfl, hw⟩; replace hw := hw.symm; subst hw
  go_upto_region 3 with fail
  try go_frame
  have q12 := (CB.out _ (St.below S_v0.out)).2.2.2
  go_cut [7] (fun pv wx => pv = .pointer (some ⟨v0.heap.size, 0, none⟩) ∧ St [(w.heap.size, #[.int .i64 0, .int .i64 0, .string ⟨#[]⟩, .int .i64 0, .bool false, .int .i64 0, .int .i64 0, .int .i64 0, .int .i64 0, .int .i64 0, .int .i64 0, .int .i64 0, .bool false], 136), (v0.heap.size, #[.int .i64 p, .int .i64 sa, .int .i64 sp, .int .i64 0, .int .i64 da, .int .i64 fp, .int .i64 now], 134)] w wx)
  case first =>
    have ne12 := World.new_ne _ _ q12
    clear H CB
    go_region_held (fun w' => w'.cell? ⟨b, 12, none⟩ = some (.int .i64 now)) (go_keep) (first | (go_at_call 141; refine Calls.mono (c12.at _) ?_; rintro e w' ⟨rfl, hw⟩; replace hw := hw.symm; subst hw) | (go_at_call 207; refine Calls.mono (cs.at _) ?_; rintro e w' ⟨rfl, hw⟩; replace hw := hw.symm; subst hw) | (go_at_call 204; refine Calls.mono (cd.at _) ?_; rintro e w' ⟨rfl, hw⟩; replace hw := hw.symm; subst hw) | (go_at_call 208; refine Calls.mono (cf.at _) ?_; rintro e w' ⟨rfl, hw⟩; replace hw := hw.symm; subst hw))
    all_goals
      go_wp2_with fail
      go_meet
      exact ⟨rfl, St.alloc (St.drew S_v0.out) #[.int .i64 p, .int .i64 sa, .int .i64 sp, .int .i64 0, .int .i64 da, .int .i64 fp, .int .i64 now] 134 (v0.heap.size) rfl⟩
  case rest =>
    obtain ⟨rfl, hcut⟩ := hcut
    obtain ⟨w1, hw1⟩ : ∃ w1 : World, w1 = wc := ⟨_, rfl⟩
    subst hw1
    clear q12 c9 c16 c12 cs cf
    have S_w1 : Hid (St [(w.heap.size, #[.int .i64 0, .int .i64 0, .string ⟨#[]⟩, .int .i64 0, .bool false, .int .i64 0, .int .i64 0, .int .i64 0, .int .i64 0, .int .i64 0, .int .i64 0, .int .i64 0, .bool false], 136), (v0.heap.size, #[.int .i64 p, .int .i64 sa, .int .i64 sp, .int .i64 0, .int .i64 da, .int .i64 fp, .int .i64 now], 134)] w w1) := hcut
    clear S_v0
    have hz_w1 : v0.heap.size < w1.heap.size := St.lt S_w1.out (x := (v0.heap.size, #[.int .i64 p, .int .i64 sa, .int .i64 sp, .int .i64 0, .int .i64 da, .int .i64 fp, .int .i64 now], 134)) (by simp)
    clear hcut
    obtain ⟨q1, q5, q6, q12⟩ := CB.out _ (St.below S_w1.out)
    clear q12
    rcases H.out with h | h | h | h | h | h | h
    ·
      clear H
      obtain ⟨hv, hd, h0, ch, rfl⟩ := h
      have CH : Hid _ := ch
      clear ch
      have CR : Hid (∀ w, Calls Tryz.prog 148 #[.int .i64 8, .int .i64 2] w fun e' w' => e' = .returned (.agg #[.int .i64 8, .int .i64 0, .string ⟨#[]⟩, .int .i64 2, .bool false, .int .i64 0, .int .i64 0, .int .i64 0, .int .i64 0, .int .i64 0, .int .i64 0, .int .i64 0, .bool false]) ∧ Below w.heap.size w w') := fun w => refused_any 8 2 w
      go_wp2_with fail
      refine Calls.mono (cd.at _) ?_; rintro e w' ⟨rfl, hw⟩; replace hw := hw.symm; subst hw
      go_wp2_with fail
      refine Calls.mono (CH.out _ (St.below S_w1.out)) ?_; rintro e w2 ⟨rfl, hb2⟩
      have S_w2 : Hid (St [(w.heap.size, #[.int .i64 0, .int .i64 0, .string ⟨#[]⟩, .int .i64 0, .bool false, .int .i64 0, .int .i64 0, .int .i64 0, .int .i64 0, .int .i64 0, .int .i64 0, .int .i64 0, .bool false], 136), (v0.heap.size, #[.int .i64 p, .int .i64 sa, .int .i64 sp, .int .i64 0, .int .i64 da, .int .i64 fp, .int .i64 now], 134)] w w2) := St.next S_w1.out hb2
      clear S_w1 hb2
      have hz_w2 : v0.heap.size < w2.heap.size := St.lt S_w2.out (x := (v0.heap.size, #[.int .i64 p, .int .i64 sa, .int .i64 sp, .int .i64 0, .int .i64 da, .int .i64 fp, .int .i64 now], 134)) (by simp)
      clear CH cd
      go_wp2_with fail
      refine Calls.mono (CR.out _) ?_; rintro e w3 ⟨rfl, hb3⟩
      have S_w3 : Hid (St [(w.heap.size, #[.int .i64 0, .int .i64 0, .string ⟨#[]⟩, .int .i64 0, .bool false, .int .i64 0, .int .i64 0, .int .i64 0, .int .i64 0, .int .i64 0, .int .i64 0, .int .i64 0, .bool false], 136), (v0.heap.size, #[.int .i64 p, .int .i64 sa, .int .i64 sp, .int .i64 0, .int .i64 da, .int .i64 fp, .int .i64 now], 134)] w w3) := St.next S_w2.out hb3
      clear S_w2 hb3
      have hz_w3 : v0.heap.size < w3.heap.size := St.lt S_w3.out (x := (v0.heap.size, #[.int .i64 p, .int .i64 sa, .int .i64 sp, .int .i64 0, .int .i64 da, .int .i64 fp, .int .i64 now], 134)) (by simp)
      rename_i KK hKK
      refine hKK _ _ ?_
      clear hKK
      clear KK
      refine lay_vd [.int .i64 8, .int .i64 0, .string ⟨#[]⟩, .int .i64 2, .bool false, .int .i64 0, .int .i64 0, .int .i64 0, .int .i64 0, .int .i64 0, .int .i64 0, .int .i64 0, .bool false] rfl (w.heap.size) (St.get S_w3.out 0 rfl) rfl rfl rfl (by simp [Value.oneCell']) rfl rfl ?_
      have HW : Hid ((w3.setCells (w.heap.size) 0 [.int .i64 8, .int .i64 0, .string ⟨#[]⟩, .int .i64 2, .bool false, .int .i64 0, .int .i64 0, .int .i64 0, .int .i64 0, .int .i64 0, .int .i64 0, .int .i64 0, .bool false]).heap[w.heap.size]? = some (.cells #[.int .i64 8, .int .i64 0, .string ⟨#[]⟩, .int .i64 2, .bool false, .int .i64 0, .int .i64 0, .int .i64 0, .int .i64 0, .int .i64 0, .int .i64 0, .int .i64 0, .bool false] 136 (0, 0))) := heap_setCells_all _ (St.get S_w3.out 0 rfl) rfl
      have HB : Hid (Below w.heap.size w (w3.setCells (w.heap.size) 0 [.int .i64 8, .int .i64 0, .string ⟨#[]⟩, .int .i64 2, .bool false, .int .i64 0, .int .i64 0, .int .i64 0, .int .i64 0, .int .i64 0, .int .i64 0, .int .i64 0, .bool false])) := (St.below S_w3.out).trans ((setCells_below (w.heap.size) _ 0 _).mono (Nat.le_refl _))
      generalize w3.setCells (w.heap.size) 0 [.int .i64 8, .int .i64 0, .string ⟨#[]⟩, .int .i64 2, .bool false, .int .i64 0, .int .i64 0, .int .i64 0, .int .i64 0, .int .i64 0, .int .i64 0, .int .i64 0, .bool false] = W at HW HB ⊢
      clear S_w3
      go_wp2
      exact bodyPost_ret (v := .agg #[.int .i64 8, .int .i64 0, .string ⟨#[]⟩, .int .i64 2, .bool false, .int .i64 0, .int .i64 0, .int .i64 0, .int .i64 0, .int .i64 0, .int .i64 0, .int .i64 0, .bool false]) (res_vd Tryz.results153 _ W (w.heap.size) [.int .i64 8, .int .i64 0, .string ⟨#[]⟩, .int .i64 2, .bool false, .int .i64 0, .int .i64 0, .int .i64 0, .int .i64 0, .int .i64 0, .int .i64 0, .int .i64 0, .bool false] rfl rfl HW.out) rfl ⟨rfl, HB.out⟩
    ·
      clear H
      obtain ⟨hd, e, a0, a1, a2, a3, a4, a5, a6, a7, a8, a9, a10, a11, a12, ct, he, co, rfl⟩ := h
      have CO : Hid _ := co
      clear co
      go_wp2_with fail
      refine Calls.mono (ct.at _) ?_; rintro e w' ⟨rfl, hw⟩; replace hw := hw.symm; subst hw
      go_wp2_with fail
      refine Calls.mono (CO.out _ (St.below S_w1.out)) ?_; rintro e w2 ⟨rfl, hb2⟩
      have S_w2 : Hid (St [(w.heap.size, #[.int .i64 0, .int .i64 0, .string ⟨#[]⟩, .int .i64 0, .bool false, .int .i64 0, .int .i64 0, .int .i64 0, .int .i64 0, .int .i64 0, .int .i64 0, .int .i64 0, .bool false], 136), (v0.heap.size, #[.int .i64 p, .int .i64 sa, .int .i64 sp, .int .i64 0, .int .i64 da, .int .i64 fp, .int .i64 now], 134)] w w2) := St.next S_w1.out hb2
      clear S_w1 hb2
      have hz_w2 : v0.heap.size < w2.heap.size := St.lt S_w2.out (x := (v0.heap.size, #[.int .i64 p, .int .i64 sa, .int .i64 sp, .int .i64 0, .int .i64 da, .int .i64 fp, .int .i64 now], 134)) (by simp)
      rename_i KK hKK
      refine hKK _ _ ?_
      clear hKK
      clear KK
      refine lay_vd [.int .i64 a0, .int .i64 a1, .string a2, .int .i64 a3, .bool a4, .int .i64 a5, .int .i64 a6, .int .i64 a7, .int .i64 a8, .int .i64 a9, .int .i64 a10, .int .i64 a11, .bool a12] rfl (w.heap.size) (St.get S_w2.out 0 rfl) rfl rfl rfl (by simp [Value.oneCell']) rfl rfl ?_
      have HW : Hid ((w2.setCells (w.heap.size) 0 [.int .i64 a0, .int .i64 a1, .string a2, .int .i64 a3, .bool a4, .int .i64 a5, .int .i64 a6, .int .i64 a7, .int .i64 a8, .int .i64 a9, .int .i64 a10, .int .i64 a11, .bool a12]).heap[w.heap.size]? = some (.cells #[.int .i64 a0, .int .i64 a1, .string a2, .int .i64 a3, .bool a4, .int .i64 a5, .int .i64 a6, .int .i64 a7, .int .i64 a8, .int .i64 a9, .int .i64 a10, .int .i64 a11, .bool a12] 136 (0, 0))) := heap_setCells_all _ (St.get S_w2.out 0 rfl) rfl
      have HB : Hid (Below w.heap.size w (w2.setCells (w.heap.size) 0 [.int .i64 a0, .int .i64 a1, .string a2, .int .i64 a3, .bool a4, .int .i64 a5, .int .i64 a6, .int .i64 a7, .int .i64 a8, .int .i64 a9, .int .i64 a10, .int .i64 a11, .bool a12])) := (St.below S_w2.out).trans ((setCells_below (w.heap.size) _ 0 _).mono (Nat.le_refl _))
      generalize w2.setCells (w.heap.size) 0 [.int .i64 a0, .int .i64 a1, .string a2, .int .i64 a3, .bool a4, .int .i64 a5, .int .i64 a6, .int .i64 a7, .int .i64 a8, .int .i64 a9, .int .i64 a10, .int .i64 a11, .bool a12] = W at HW HB ⊢
      clear S_w2
      go_wp2
      exact bodyPost_ret (v := .agg #[.int .i64 a0, .int .i64 a1, .string a2, .int .i64 a3, .bool a4, .int .i64 a5, .int .i64 a6, .int .i64 a7, .int .i64 a8, .int .i64 a9, .int .i64 a10, .int .i64 a11, .bool a12]) (res_vd Tryz.results153 _ W (w.heap.size) [.int .i64 a0, .int .i64 a1, .string a2, .int .i64 a3, .bool a4, .int .i64 a5, .int .i64 a6, .int .i64 a7, .int .i64 a8, .int .i64 a9, .int .i64 a10, .int .i64 a11, .bool a12] rfl rfl HW.out) rfl ⟨rfl, HB.out⟩
    ·
      clear H
      obtain ⟨hd, a0, a1, a2, a3, a4, a5, a6, a7, a8, a9, a10, a11, a12, ct, cg, co, rfl⟩ := h
      have CO : Hid _ := co
      have CG : Hid _ := cg
      clear co cg
      go_wp2_with fail
      refine Calls.mono (ct.at _) ?_; rintro e w' ⟨rfl, hw⟩; replace hw := hw.symm; subst hw
      clear q1 q5 q6
      go_wp2_with (first | (refine pull_us [.int .i64 p, .int .i64 sa, .int .i64 sp, .int .i64 0, .int .i64 da, .int .i64 fp, .int .i64 now] rfl (v0.heap.size) (St.get S_w1.out 1 rfl) rfl rfl rfl ?_))
      refine Calls.mono (CG.out _ (St.below S_w1.out)) ?_; rintro e w2 ⟨rfl, hb2⟩
      have S_w2 : Hid (St [(w.heap.size, #[.int .i64 0, .int .i64 0, .string ⟨#[]⟩, .int .i64 0, .bool false, .int .i64 0, .int .i64 0, .int .i64 0, .int .i64 0, .int .i64 0, .int .i64 0, .int .i64 0, .bool false], 136), (v0.heap.size, #[.int .i64 p, .int .i64 sa, .int .i64 sp, .int .i64 0, .int .i64 da, .int .i64 fp, .int .i64 now], 134)] w w2) := St.next S_w1.out hb2
      clear S_w1 hb2
      have hz_w2 : v0.heap.size < w2.heap.size := St.lt S_w2.out (x := (v0.heap.size, #[.int .i64 p, .int .i64 sa, .int .i64 sp, .int .i64 0, .int .i64 da, .int .i64 fp, .int .i64 now], 134)) (by simp)
      generalize (Value.agg #[.int .i64 p, .int .i64 sa, .int .i64 sp, .int .i64 0, .int .i64 da, .int .i64 fp, .int .i64 now]) = B1
      have fz := St.frz 1 rfl S_w2.out
      have q_u3 : w2.cell? ⟨v0.heap.size, 3, none⟩ = some (.int .i64 0) := St.at 1 3 rfl rfl _ S_w2.out
      go_upto_region 22 with fail
      try go_frame
      have S_u3 : Hid (St [(w.heap.size, #[.int .i64 0, .int .i64 0, .string ⟨#[]⟩, .int .i64 0, .bool false, .int .i64 0, .int .i64 0, .int .i64 0, .int .i64 0, .int .i64 0, .int .i64 0, .int .i64 0, .bool false], 136), (v0.heap.size, #[.int .i64 p, .int .i64 sa, .int .i64 sp, .int .i64 0, .int .i64 da, .int .i64 fp, .int .i64 now], 134)] w (w2.setCell ⟨v0.heap.size, 3, none⟩ (.int .i64 0))) := St.setAt (L1 := [(w.heap.size, #[.int .i64 0, .int .i64 0, .string ⟨#[]⟩, .int .i64 0, .bool false, .int .i64 0, .int .i64 0, .int .i64 0, .int .i64 0, .int .i64 0, .int .i64 0, .int .i64 0, .bool false], 136)]) (L2 := []) S_w2.out (by omega) (by simp; omega) 3 (.int .i64 0)
      generalize w2.setCell ⟨v0.heap.size, 3, none⟩ (.int .i64 0) = u3 at S_u3 ⊢
      clear S_w2 fz q_u3
      have hz_u3 : v0.heap.size < u3.heap.size := St.lt S_u3.out (x := (v0.heap.size, #[.int .i64 p, .int .i64 sa, .int .i64 sp, .int .i64 0, .int .i64 da, .int .i64 fp, .int .i64 now], 134)) (by simp)
      have q_u3 : u3.cell? ⟨v0.heap.size, 3, none⟩ = some (.int .i64 0) := St.at 1 3 rfl rfl _ S_u3.out
      go_wp2_with fail
      refine Calls.mono (CO.out _ (St.below S_u3.out)) ?_; rintro e w4 ⟨rfl, hb4⟩
      have S_w4 : Hid (St [(w.heap.size, #[.int .i64 0, .int .i64 0, .string ⟨#[]⟩, .int .i64 0, .bool false, .int .i64 0, .int .i64 0, .int .i64 0, .int .i64 0, .int .i64 0, .int .i64 0, .int .i64 0, .bool false], 136), (v0.heap.size, #[.int .i64 p, .int .i64 sa, .int .i64 sp, .int .i64 0, .int .i64 da, .int .i64 fp, .int .i64 now], 134)] w w4) := St.next S_u3.out hb4
      clear S_u3 hb4
      have hz_w4 : v0.heap.size < w4.heap.size := St.lt S_w4.out (x := (v0.heap.size, #[.int .i64 p, .int .i64 sa, .int .i64 sp, .int .i64 0, .int .i64 da, .int .i64 fp, .int .i64 now], 134)) (by simp)
      clear q_u3
      rename_i KK hKK
      refine hKK _ _ ?_
      clear hKK
      clear KK
      refine lay_vd [.int .i64 a0, .int .i64 a1, .string a2, .int .i64 a3, .bool a4, .int .i64 a5, .int .i64 a6, .int .i64 a7, .int .i64 a8, .int .i64 a9, .int .i64 a10, .int .i64 a11, .bool a12] rfl (w.heap.size) (St.get S_w4.out 0 rfl) rfl rfl rfl (by simp [Value.oneCell']) rfl rfl ?_
      have HW : Hid ((w4.setCells (w.heap.size) 0 [.int .i64 a0, .int .i64 a1, .string a2, .int .i64 a3, .bool a4, .int .i64 a5, .int .i64 a6, .int .i64 a7, .int .i64 a8, .int .i64 a9, .int .i64 a10, .int .i64 a11, .bool a12]).heap[w.heap.size]? = some (.cells #[.int .i64 a0, .int .i64 a1, .string a2, .int .i64 a3, .bool a4, .int .i64 a5, .int .i64 a6, .int .i64 a7, .int .i64 a8, .int .i64 a9, .int .i64 a10, .int .i64 a11, .bool a12] 136 (0, 0))) := heap_setCells_all _ (St.get S_w4.out 0 rfl) rfl
      have HB : Hid (Below w.heap.size w (w4.setCells (w.heap.size) 0 [.int .i64 a0, .int .i64 a1, .string a2, .int .i64 a3, .bool a4, .int .i64 a5, .int .i64 a6, .int .i64 a7, .int .i64 a8, .int .i64 a9, .int .i64 a10, .int .i64 a11, .bool a12])) := (St.below S_w4.out).trans ((setCells_below (w.heap.size) _ 0 _).mono (Nat.le_refl _))
      generalize w4.setCells (w.heap.size) 0 [.int .i64 a0, .int .i64 a1, .string a2, .int .i64 a3, .bool a4, .int .i64 a5, .int .i64 a6, .int .i64 a7, .int .i64 a8, .int .i64 a9, .int .i64 a10, .int .i64 a11, .bool a12] = W at HW HB ⊢
      clear S_w4
      go_wp2
      exact bodyPost_ret (v := .agg #[.int .i64 a0, .int .i64 a1, .string a2, .int .i64 a3, .bool a4, .int .i64 a5, .int .i64 a6, .int .i64 a7, .int .i64 a8, .int .i64 a9, .int .i64 a10, .int .i64 a11, .bool a12]) (res_vd Tryz.results153 _ W (w.heap.size) [.int .i64 a0, .int .i64 a1, .string a2, .int .i64 a3, .bool a4, .int .i64 a5, .int .i64 a6, .int .i64 a7, .int .i64 a8, .int .i64 a9, .int .i64 a10, .int .i64 a11, .bool a12] rfl rfl HW.out) rfl ⟨rfl, HB.out⟩
    ·
      clear H
      obtain ⟨hd, x, G, Z, ct, cg, hx, cS, cO, rfl⟩ := h
      have CG : Hid _ := cg
      clear cg
      go_wp2_with fail
      refine Calls.mono (ct.at _) ?_; rintro e w' ⟨rfl, hw⟩; replace hw := hw.symm; subst hw
      clear q1 q5 q6
      go_wp2_with (first | (refine pull_us [.int .i64 p, .int .i64 sa, .int .i64 sp, .int .i64 0, .int .i64 da, .int .i64 fp, .int .i64 now] rfl (v0.heap.size) (St.get S_w1.out 1 rfl) rfl rfl rfl ?_))
      refine Calls.mono (CG.out _ (St.below S_w1.out)) ?_; rintro e w2 ⟨rfl, hb2⟩
      have S_w2 : Hid (St [(w.heap.size, #[.int .i64 0, .int .i64 0, .string ⟨#[]⟩, .int .i64 0, .bool false, .int .i64 0, .int .i64 0, .int .i64 0, .int .i64 0, .int .i64 0, .int .i64 0, .int .i64 0, .bool false], 136), (v0.heap.size, #[.int .i64 p, .int .i64 sa, .int .i64 sp, .int .i64 0, .int .i64 da, .int .i64 fp, .int .i64 now], 134)] w w2) := St.next S_w1.out hb2
      clear S_w1 hb2
      have hz_w2 : v0.heap.size < w2.heap.size := St.lt S_w2.out (x := (v0.heap.size, #[.int .i64 p, .int .i64 sa, .int .i64 sp, .int .i64 0, .int .i64 da, .int .i64 fp, .int .i64 now], 134)) (by simp)
      generalize (Value.agg #[.int .i64 p, .int .i64 sa, .int .i64 sp, .int .i64 0, .int .i64 da, .int .i64 fp, .int .i64 now]) = B2
      have fz := St.frz 1 rfl S_w2.out
      have q_u3 : w2.cell? ⟨v0.heap.size, 3, none⟩ = some (.int .i64 0) := St.at 1 3 rfl rfl _ S_w2.out
      go_upto_region 22 with fail
      try go_frame
      have S_u3 : Hid (St [(w.heap.size, #[.int .i64 0, .int .i64 0, .string ⟨#[]⟩, .int .i64 0, .bool false, .int .i64 0, .int .i64 0, .int .i64 0, .int .i64 0, .int .i64 0, .int .i64 0, .int .i64 0, .bool false], 136), (v0.heap.size, #[.int .i64 p, .int .i64 sa, .int .i64 sp, .int .i64 x, .int .i64 da, .int .i64 fp, .int .i64 now], 134)] w (w2.setCell ⟨v0.heap.size, 3, none⟩ (.int .i64 x))) := St.setAt (L1 := [(w.heap.size, #[.int .i64 0, .int .i64 0, .string ⟨#[]⟩, .int .i64 0, .bool false, .int .i64 0, .int .i64 0, .int .i64 0, .int .i64 0, .int .i64 0, .int .i64 0, .int .i64 0, .bool false], 136)]) (L2 := []) S_w2.out (by omega) (by simp; omega) 3 (.int .i64 x)
      generalize w2.setCell ⟨v0.heap.size, 3, none⟩ (.int .i64 x) = u3 at S_u3 ⊢
      clear S_w2 fz q_u3
      have hz_u3 : v0.heap.size < u3.heap.size := St.lt S_u3.out (x := (v0.heap.size, #[.int .i64 p, .int .i64 sa, .int .i64 sp, .int .i64 x, .int .i64 da, .int .i64 fp, .int .i64 now], 134)) (by simp)
      have q_u3 : u3.cell? ⟨v0.heap.size, 3, none⟩ = some (.int .i64 x) := St.at 1 3 rfl rfl _ S_u3.out
      obtain ⟨q1, q5, q6, q12⟩ := CB.out _ (St.below S_u3.out)
      clear q5 q6 q12
      have BD : Hid (Below w.heap.size w u3.drew) := (St.below S_u3.out).drew
      go_upto_region 24 with fail
      try go_frame
      go_region_held (fun w' => w'.cell? ⟨b, 1, none⟩ = some (.int .i64 oa) ∧ w'.cell? ⟨v0.heap.size, 3, none⟩ = some (.int .i64 x)) (first | (with_reducible assumption) | simp [*]) (first | (go_at_call 210; refine Calls.mono (cS.at _) ?_; rintro e wg ⟨rfl, hbg⟩; have g1 := (CB.out wg (BD.out.trans (hbg.mono BD.out.size))).1; have g3 := St.at 1 3 rfl rfl _ (St.next (St.drew S_u3.out) hbg)))
      have S_wg : Hid (St [(w.heap.size, #[.int .i64 0, .int .i64 0, .string ⟨#[]⟩, .int .i64 0, .bool false, .int .i64 0, .int .i64 0, .int .i64 0, .int .i64 0, .int .i64 0, .int .i64 0, .int .i64 0, .bool false], 136), (v0.heap.size, #[.int .i64 p, .int .i64 sa, .int .i64 sp, .int .i64 x, .int .i64 da, .int .i64 fp, .int .i64 now], 134)] w wg) := St.next (St.drew S_u3.out) hbg
      clear S_u3
      have hz_wg : v0.heap.size < wg.heap.size := St.lt S_wg.out (x := (v0.heap.size, #[.int .i64 p, .int .i64 sa, .int .i64 sp, .int .i64 x, .int .i64 da, .int .i64 fp, .int .i64 now], 134)) (by simp)
      clear hbg q1 q_u3 g1 g3 BD CB
      go_upto_region 25 with fail
      try go_frame
      obtain ⟨SX, hSX⟩ : ∃ SX : World → Prop, ∀ w', Sof SX w' ↔ St [(v0.heap.size, #[.int .i64 p, .int .i64 sa, .int .i64 sp, .int .i64 x, .int .i64 da, .int .i64 fp, .int .i64 now], 134)] w w' := ⟨_, fun _ => Iff.rfl⟩
      have HSX : Hid _ := hSX
      clear hSX
      have ss : Hid (Sof SX wg.drew) := (HSX.out _).2 (St.only (St.drew S_wg.out) 1 rfl)
      refine wp_region_held_drew (S := fun w' => Sof SX w') (by kernel_rfl) ss.out (fun hHeld => ?_)
      refine takeR (i := 0) (v := .int .i64 1) rfl (by kernel_rfl) (by kernel_rfl) (by kernel_rfl) (fun _ _ _ h => h) (yieldr_mv (by rfl) (.inl rfl) rfl) (by assumption) ?_
      try go_frame
      refine takeR (i := 1) (v := .string G) rfl (by kernel_rfl) (by kernel_rfl) (by kernel_rfl) (fun _ _ _ h => h) (yieldr_mv (by rfl) (.inl rfl) rfl) (by assumption) ?_
      try go_frame
      refine takeR (i := 4) (v := .int .i64 0) rfl (by kernel_rfl) (by kernel_rfl) (by kernel_rfl) (fun _ _ _ h => h) (yieldr_mv (by rfl) (.inl rfl) rfl) (by assumption) ?_
      try go_frame
      refine takeR (i := 5) (v := .agg #[.int .i64 p, .int .i64 sa, .int .i64 sp, .int .i64 x, .int .i64 da, .int .i64 fp, .int .i64 now]) rfl (by kernel_rfl) (by kernel_rfl) (by kernel_rfl) (fun _ _ _ h => h) (yieldr_us (by rfl) rfl (v0.heap.size) rfl [.int .i64 p, .int .i64 sa, .int .i64 sp, .int .i64 x, .int .i64 da, .int .i64 fp, .int .i64 now] rfl (fun w' h => ⟨134, show w'.heap[v0.heap.size]? = some (.cells #[.int .i64 p, .int .i64 sa, .int .i64 sp, .int .i64 x, .int .i64 da, .int .i64 fp, .int .i64 now] 134 (0, 0)) from St.get ((HSX.out w').1 h) 0 rfl⟩)) (by assumption) ?_
      try go_frame
      refine callR (i := 2) (by kernel_rfl) rfl (by rfl) (fun K hK => ?_)
      go_simp
      go_wp2_with (first | (go_at_call 202; refine Calls.mono (cO.at _) ?_; rintro e wn ⟨rfl, hbn⟩; have hkn : Sof SX wn := (HSX.out _).2 (St.next ((HSX.out _).1 ss.out) hbn)))
      refine hK.out _ _ ?_ (fun hHeld => ?_)
      · exact hkn
      clear hK
      clear K
      try go_frame
      have S_wn : Hid (St [(w.heap.size, #[.int .i64 0, .int .i64 0, .string ⟨#[]⟩, .int .i64 0, .bool false, .int .i64 0, .int .i64 0, .int .i64 0, .int .i64 0, .int .i64 0, .int .i64 0, .int .i64 0, .bool false], 136), (v0.heap.size, #[.int .i64 p, .int .i64 sa, .int .i64 sp, .int .i64 x, .int .i64 da, .int .i64 fp, .int .i64 now], 134)] w wn) := St.next (St.drew S_wg.out) hbn
      clear S_wg
      have hz_wn : v0.heap.size < wn.heap.size := St.lt S_wn.out (x := (v0.heap.size, #[.int .i64 p, .int .i64 sa, .int .i64 sp, .int .i64 x, .int .i64 da, .int .i64 fp, .int .i64 now], 134)) (by simp)
      refine takeR (i := 3) (v := .agg #[.int .i64 0, .int .i64 1, .string Z]) rfl (by kernel_rfl) (by kernel_rfl) (by kernel_rfl) (fun _ _ _ h => h) (Or.inl ⟨by rfl, fun w' hSw => by first | rfl | go_simp⟩) (by assumption) ?_
      try go_frame
      refine takeR (i := 6) (v := .agg #[.int .i64 0, .int .i64 1, .string Z, .int .i64 0, .bool true, .int .i64 p, .int .i64 sa, .int .i64 sp, .int .i64 x, .int .i64 da, .int .i64 fp, .int .i64 now, .bool false]) rfl (by kernel_rfl) (by kernel_rfl) (by kernel_rfl) (fun _ _ _ h => h) (Or.inl ⟨by rfl, fun w' hSw => by first | rfl | go_simp⟩) (by assumption) ?_
      try go_frame
      have HW : Hid ((wn.setCells (w.heap.size) 0 [.int .i64 0, .int .i64 1, .string Z, .int .i64 0, .bool true, .int .i64 p, .int .i64 sa, .int .i64 sp, .int .i64 x, .int .i64 da, .int .i64 fp, .int .i64 now, .bool false]).heap[w.heap.size]? = some (.cells #[.int .i64 0, .int .i64 1, .string Z, .int .i64 0, .bool true, .int .i64 p, .int .i64 sa, .int .i64 sp, .int .i64 x, .int .i64 da, .int .i64 fp, .int .i64 now, .bool false] 136 (0, 0))) := heap_setCells_all _ (St.get S_wn.out 0 rfl) rfl
      have HB : Hid (Below w.heap.size w (wn.setCells (w.heap.size) 0 [.int .i64 0, .int .i64 1, .string Z, .int .i64 0, .bool true, .int .i64 p, .int .i64 sa, .int .i64 sp, .int .i64 x, .int .i64 da, .int .i64 fp, .int .i64 now, .bool false])) := (St.below S_wn.out).trans ((setCells_below (w.heap.size) _ 0 _).mono (Nat.le_refl _))
      refine callR (i := 7) (by kernel_rfl) rfl (by rfl) (fun K hK => ?_)
      refine stow_vd rfl (w.heap.size) rfl [.int .i64 0, .int .i64 1, .string Z, .int .i64 0, .bool true, .int .i64 p, .int .i64 sa, .int .i64 sp, .int .i64 x, .int .i64 da, .int .i64 fp, .int .i64 now, .bool false] rfl rfl (St.get S_wn.out 0 rfl) rfl (by simp [Value.oneCell']) ?_
      refine hK.out _ _ ?_ (fun hHeld => ?_)
      · exact (HSX.out _).2 (St.fillO ((HSX.out _).1 hkn) (St.get S_wn.out 0 rfl) (Nat.le_refl _) (by show v0.heap.size ≠ w.heap.size; omega) _ rfl)
      clear hK
      clear K
      try go_frame
      generalize wn.setCells (w.heap.size) 0 [.int .i64 0, .int .i64 1, .string Z, .int .i64 0, .bool true, .int .i64 p, .int .i64 sa, .int .i64 sp, .int .i64 x, .int .i64 da, .int .i64 fp, .int .i64 now, .bool false] = W at HW HB hHeld ⊢
      refine wpAnyH_done (by kernel_rfl) ?_ _
      go_wp2
      exact bodyPost_ret (v := .agg #[.int .i64 0, .int .i64 1, .string Z, .int .i64 0, .bool true, .int .i64 p, .int .i64 sa, .int .i64 sp, .int .i64 x, .int .i64 da, .int .i64 fp, .int .i64 now, .bool false]) (res_vd Tryz.results153 _ W (w.heap.size) [.int .i64 0, .int .i64 1, .string Z, .int .i64 0, .bool true, .int .i64 p, .int .i64 sa, .int .i64 sp, .int .i64 x, .int .i64 da, .int .i64 fp, .int .i64 now, .bool false] rfl rfl HW.out) rfl ⟨rfl, HB.out⟩
    ·
      clear H
      obtain ⟨i, g, n, cap, ad, po, D, hd, hin, hnc, hcm, cu, cD, ch, e, a0, a1, a2, a3, a4, a5, a6, a7, a8, a9, a10, a11, a12, ct, he, co, rfl⟩ := h
      have CO : Hid _ := co
      clear co
      have CU : Hid _ := cu
      have CH : Hid _ := ch
      clear cu ch
      go_wp2_with fail
      refine Calls.mono (cd.at _) ?_; rintro e w' ⟨rfl, hw⟩; replace hw := hw.symm; subst hw
      go_wp2_with fail
      refine Calls.mono (CH.out _ (St.below S_w1.out)) ?_; rintro e w2 ⟨rfl, hb2⟩
      have S_w2 : Hid (St [(w.heap.size, #[.int .i64 0, .int .i64 0, .string ⟨#[]⟩, .int .i64 0, .bool false, .int .i64 0, .int .i64 0, .int .i64 0, .int .i64 0, .int .i64 0, .int .i64 0, .int .i64 0, .bool false], 136), (v0.heap.size, #[.int .i64 p, .int .i64 sa, .int .i64 sp, .int .i64 0, .int .i64 da, .int .i64 fp, .int .i64 now], 134)] w w2) := St.next S_w1.out hb2
      clear S_w1 hb2
      have hz_w2 : v0.heap.size < w2.heap.size := St.lt S_w2.out (x := (v0.heap.size, #[.int .i64 p, .int .i64 sa, .int .i64 sp, .int .i64 0, .int .i64 da, .int .i64 fp, .int .i64 now], 134)) (by simp)
      clear CH cd
      obtain ⟨a13, a1, a2⟩ := CU.out _ (St.below S_w2.out)
      have BD : Hid (Below w.heap.size w w2.drew) := (St.below S_w2.out).drew
      go_wp2_with fail
      clear q1 q5 q6
      go_region_held (fun w' => w'.cell? ⟨b, 13, none⟩ = some (.slice (some ⟨g, 0, none⟩) n cap) ∧ w'.cell? ⟨g, i * 7 + 1, none⟩ = some (.int .i64 ad) ∧ w'.cell? ⟨g, i * 7 + 2, none⟩ = some (.int .i64 po)) (first | (with_reducible assumption) | simp [*]) (first | (go_at_call 206; refine Calls.mono (cD.at _) ?_; rintro e wd ⟨rfl, hbd⟩; obtain ⟨b13, b1', b2'⟩ := CU.out wd (BD.out.trans (hbd.mono BD.out.size))))
      have S_wd : Hid (St [(w.heap.size, #[.int .i64 0, .int .i64 0, .string ⟨#[]⟩, .int .i64 0, .bool false, .int .i64 0, .int .i64 0, .int .i64 0, .int .i64 0, .int .i64 0, .int .i64 0, .int .i64 0, .bool false], 136), (v0.heap.size, #[.int .i64 p, .int .i64 sa, .int .i64 sp, .int .i64 0, .int .i64 da, .int .i64 fp, .int .i64 now], 134)] w wd) := St.next (St.drew S_w2.out) hbd
      clear S_w2
      have hz_wd : v0.heap.size < wd.heap.size := St.lt S_wd.out (x := (v0.heap.size, #[.int .i64 p, .int .i64 sa, .int .i64 sp, .int .i64 0, .int .i64 da, .int .i64 fp, .int .i64 now], 134)) (by simp)
      clear hbd a13 a1 a2 b13 b1' b2' BD CU cD
      go_wp2_with fail
      refine Calls.mono (ct.at _) ?_; rintro e w' ⟨rfl, hw⟩; replace hw := hw.symm; subst hw
      go_wp2_with fail
      refine Calls.mono (CO.out _ (St.below S_wd.out)) ?_; rintro e w3 ⟨rfl, hb3⟩
      have S_w3 : Hid (St [(w.heap.size, #[.int .i64 0, .int .i64 0, .string ⟨#[]⟩, .int .i64 0, .bool false, .int .i64 0, .int .i64 0, .int .i64 0, .int .i64 0, .int .i64 0, .int .i64 0, .int .i64 0, .bool false], 136), (v0.heap.size, #[.int .i64 p, .int .i64 sa, .int .i64 sp, .int .i64 0, .int .i64 da, .int .i64 fp, .int .i64 now], 134)] w w3) := St.next S_wd.out hb3
      clear S_wd hb3
      have hz_w3 : v0.heap.size < w3.heap.size := St.lt S_w3.out (x := (v0.heap.size, #[.int .i64 p, .int .i64 sa, .int .i64 sp, .int .i64 0, .int .i64 da, .int .i64 fp, .int .i64 now], 134)) (by simp)
      rename_i KK hKK
      refine hKK _ _ ?_
      clear hKK
      clear KK
      refine lay_vd [.int .i64 a0, .int .i64 a1, .string a2, .int .i64 a3, .bool a4, .int .i64 a5, .int .i64 a6, .int .i64 a7, .int .i64 a8, .int .i64 a9, .int .i64 a10, .int .i64 a11, .bool a12] rfl (w.heap.size) (St.get S_w3.out 0 rfl) rfl rfl rfl (by simp [Value.oneCell']) rfl rfl ?_
      have HW : Hid ((w3.setCells (w.heap.size) 0 [.int .i64 a0, .int .i64 a1, .string a2, .int .i64 a3, .bool a4, .int .i64 a5, .int .i64 a6, .int .i64 a7, .int .i64 a8, .int .i64 a9, .int .i64 a10, .int .i64 a11, .bool a12]).heap[w.heap.size]? = some (.cells #[.int .i64 a0, .int .i64 a1, .string a2, .int .i64 a3, .bool a4, .int .i64 a5, .int .i64 a6, .int .i64 a7, .int .i64 a8, .int .i64 a9, .int .i64 a10, .int .i64 a11, .bool a12] 136 (0, 0))) := heap_setCells_all _ (St.get S_w3.out 0 rfl) rfl
      have HB : Hid (Below w.heap.size w (w3.setCells (w.heap.size) 0 [.int .i64 a0, .int .i64 a1, .string a2, .int .i64 a3, .bool a4, .int .i64 a5, .int .i64 a6, .int .i64 a7, .int .i64 a8, .int .i64 a9, .int .i64 a10, .int .i64 a11, .bool a12])) := (St.below S_w3.out).trans ((setCells_below (w.heap.size) _ 0 _).mono (Nat.le_refl _))
      generalize w3.setCells (w.heap.size) 0 [.int .i64 a0, .int .i64 a1, .string a2, .int .i64 a3, .bool a4, .int .i64 a5, .int .i64 a6, .int .i64 a7, .int .i64 a8, .int .i64 a9, .int .i64 a10, .int .i64 a11, .bool a12] = W at HW HB ⊢
      clear S_w3
      go_wp2
      exact bodyPost_ret (v := .agg #[.int .i64 a0, .int .i64 a1, .string a2, .int .i64 a3, .bool a4, .int .i64 a5, .int .i64 a6, .int .i64 a7, .int .i64 a8, .int .i64 a9, .int .i64 a10, .int .i64 a11, .bool a12]) (res_vd Tryz.results153 _ W (w.heap.size) [.int .i64 a0, .int .i64 a1, .string a2, .int .i64 a3, .bool a4, .int .i64 a5, .int .i64 a6, .int .i64 a7, .int .i64 a8, .int .i64 a9, .int .i64 a10, .int .i64 a11, .bool a12] rfl rfl HW.out) rfl ⟨rfl, HB.out⟩
    ·
      clear H
      obtain ⟨i, g, n, cap, ad, po, D, hd, hin, hnc, hcm, cu, cD, ch, a0, a1, a2, a3, a4, a5, a6, a7, a8, a9, a10, a11, a12, ct, cg, co, rfl⟩ := h
      have CO : Hid _ := co
      have CG : Hid _ := cg
      clear co cg
      have CU : Hid _ := cu
      have CH : Hid _ := ch
      clear cu ch
      go_wp2_with fail
      refine Calls.mono (cd.at _) ?_; rintro e w' ⟨rfl, hw⟩; replace hw := hw.symm; subst hw
      go_wp2_with fail
      refine Calls.mono (CH.out _ (St.below S_w1.out)) ?_; rintro e w2 ⟨rfl, hb2⟩
      have S_w2 : Hid (St [(w.heap.size, #[.int .i64 0, .int .i64 0, .string ⟨#[]⟩, .int .i64 0, .bool false, .int .i64 0, .int .i64 0, .int .i64 0, .int .i64 0, .int .i64 0, .int .i64 0, .int .i64 0, .bool false], 136), (v0.heap.size, #[.int .i64 p, .int .i64 sa, .int .i64 sp, .int .i64 0, .int .i64 da, .int .i64 fp, .int .i64 now], 134)] w w2) := St.next S_w1.out hb2
      clear S_w1 hb2
      have hz_w2 : v0.heap.size < w2.heap.size := St.lt S_w2.out (x := (v0.heap.size, #[.int .i64 p, .int .i64 sa, .int .i64 sp, .int .i64 0, .int .i64 da, .int .i64 fp, .int .i64 now], 134)) (by simp)
      clear CH cd
      obtain ⟨a13, a1, a2⟩ := CU.out _ (St.below S_w2.out)
      have BD : Hid (Below w.heap.size w w2.drew) := (St.below S_w2.out).drew
      go_wp2_with fail
      clear q1 q5 q6
      go_region_held (fun w' => w'.cell? ⟨b, 13, none⟩ = some (.slice (some ⟨g, 0, none⟩) n cap) ∧ w'.cell? ⟨g, i * 7 + 1, none⟩ = some (.int .i64 ad) ∧ w'.cell? ⟨g, i * 7 + 2, none⟩ = some (.int .i64 po)) (first | (with_reducible assumption) | simp [*]) (first | (go_at_call 206; refine Calls.mono (cD.at _) ?_; rintro e wd ⟨rfl, hbd⟩; obtain ⟨b13, b1', b2'⟩ := CU.out wd (BD.out.trans (hbd.mono BD.out.size))))
      have S_wd : Hid (St [(w.heap.size, #[.int .i64 0, .int .i64 0, .string ⟨#[]⟩, .int .i64 0, .bool false, .int .i64 0, .int .i64 0, .int .i64 0, .int .i64 0, .int .i64 0, .int .i64 0, .int .i64 0, .bool false], 136), (v0.heap.size, #[.int .i64 p, .int .i64 sa, .int .i64 sp, .int .i64 0, .int .i64 da, .int .i64 fp, .int .i64 now], 134)] w wd) := St.next (St.drew S_w2.out) hbd
      clear S_w2
      have hz_wd : v0.heap.size < wd.heap.size := St.lt S_wd.out (x := (v0.heap.size, #[.int .i64 p, .int .i64 sa, .int .i64 sp, .int .i64 0, .int .i64 da, .int .i64 fp, .int .i64 now], 134)) (by simp)
      clear hbd a13 a1 a2 b13 b1' b2' BD CU cD
      go_wp2_with fail
      refine Calls.mono (ct.at _) ?_; rintro e w' ⟨rfl, hw⟩; replace hw := hw.symm; subst hw
      go_wp2_with (first | (refine pull_us [.int .i64 p, .int .i64 sa, .int .i64 sp, .int .i64 0, .int .i64 da, .int .i64 fp, .int .i64 now] rfl (v0.heap.size) (St.get S_wd.out 1 rfl) rfl rfl rfl ?_))
      refine Calls.mono (CG.out _ (St.below S_wd.out)) ?_; rintro e w3 ⟨rfl, hb3⟩
      have S_w3 : Hid (St [(w.heap.size, #[.int .i64 0, .int .i64 0, .string ⟨#[]⟩, .int .i64 0, .bool false, .int .i64 0, .int .i64 0, .int .i64 0, .int .i64 0, .int .i64 0, .int .i64 0, .int .i64 0, .bool false], 136), (v0.heap.size, #[.int .i64 p, .int .i64 sa, .int .i64 sp, .int .i64 0, .int .i64 da, .int .i64 fp, .int .i64 now], 134)] w w3) := St.next S_wd.out hb3
      clear S_wd hb3
      have hz_w3 : v0.heap.size < w3.heap.size := St.lt S_w3.out (x := (v0.heap.size, #[.int .i64 p, .int .i64 sa, .int .i64 sp, .int .i64 0, .int .i64 da, .int .i64 fp, .int .i64 now], 134)) (by simp)
      generalize (Value.agg #[.int .i64 p, .int .i64 sa, .int .i64 sp, .int .i64 0, .int .i64 da, .int .i64 fp, .int .i64 now]) = B3
      have fz := St.frz 1 rfl S_w3.out
      have q_u3 : w3.cell? ⟨v0.heap.size, 3, none⟩ = some (.int .i64 0) := St.at 1 3 rfl rfl _ S_w3.out
      go_upto_region 22 with fail
      try go_frame
      have S_u4 : Hid (St [(w.heap.size, #[.int .i64 0, .int .i64 0, .string ⟨#[]⟩, .int .i64 0, .bool false, .int .i64 0, .int .i64 0, .int .i64 0, .int .i64 0, .int .i64 0, .int .i64 0, .int .i64 0, .bool false], 136), (v0.heap.size, #[.int .i64 p, .int .i64 sa, .int .i64 sp, .int .i64 0, .int .i64 da, .int .i64 fp, .int .i64 now], 134)] w (w3.setCell ⟨v0.heap.size, 3, none⟩ (.int .i64 0))) := St.setAt (L1 := [(w.heap.size, #[.int .i64 0, .int .i64 0, .string ⟨#[]⟩, .int .i64 0, .bool false, .int .i64 0, .int .i64 0, .int .i64 0, .int .i64 0, .int .i64 0, .int .i64 0, .int .i64 0, .bool false], 136)]) (L2 := []) S_w3.out (by omega) (by simp; omega) 3 (.int .i64 0)
      generalize w3.setCell ⟨v0.heap.size, 3, none⟩ (.int .i64 0) = u4 at S_u4 ⊢
      clear S_w3 fz q_u3
      have hz_u4 : v0.heap.size < u4.heap.size := St.lt S_u4.out (x := (v0.heap.size, #[.int .i64 p, .int .i64 sa, .int .i64 sp, .int .i64 0, .int .i64 da, .int .i64 fp, .int .i64 now], 134)) (by simp)
      have q_u3 : u4.cell? ⟨v0.heap.size, 3, none⟩ = some (.int .i64 0) := St.at 1 3 rfl rfl _ S_u4.out
      go_wp2_with fail
      refine Calls.mono (CO.out _ (St.below S_u4.out)) ?_; rintro e w5 ⟨rfl, hb5⟩
      have S_w5 : Hid (St [(w.heap.size, #[.int .i64 0, .int .i64 0, .string ⟨#[]⟩, .int .i64 0, .bool false, .int .i64 0, .int .i64 0, .int .i64 0, .int .i64 0, .int .i64 0, .int .i64 0, .int .i64 0, .bool false], 136), (v0.heap.size, #[.int .i64 p, .int .i64 sa, .int .i64 sp, .int .i64 0, .int .i64 da, .int .i64 fp, .int .i64 now], 134)] w w5) := St.next S_u4.out hb5
      clear S_u4 hb5
      have hz_w5 : v0.heap.size < w5.heap.size := St.lt S_w5.out (x := (v0.heap.size, #[.int .i64 p, .int .i64 sa, .int .i64 sp, .int .i64 0, .int .i64 da, .int .i64 fp, .int .i64 now], 134)) (by simp)
      clear q_u3
      rename_i KK hKK
      refine hKK _ _ ?_
      clear hKK
      clear KK
      refine lay_vd [.int .i64 a0, .int .i64 a1, .string a2, .int .i64 a3, .bool a4, .int .i64 a5, .int .i64 a6, .int .i64 a7, .int .i64 a8, .int .i64 a9, .int .i64 a10, .int .i64 a11, .bool a12] rfl (w.heap.size) (St.get S_w5.out 0 rfl) rfl rfl rfl (by simp [Value.oneCell']) rfl rfl ?_
      have HW : Hid ((w5.setCells (w.heap.size) 0 [.int .i64 a0, .int .i64 a1, .string a2, .int .i64 a3, .bool a4, .int .i64 a5, .int .i64 a6, .int .i64 a7, .int .i64 a8, .int .i64 a9, .int .i64 a10, .int .i64 a11, .bool a12]).heap[w.heap.size]? = some (.cells #[.int .i64 a0, .int .i64 a1, .string a2, .int .i64 a3, .bool a4, .int .i64 a5, .int .i64 a6, .int .i64 a7, .int .i64 a8, .int .i64 a9, .int .i64 a10, .int .i64 a11, .bool a12] 136 (0, 0))) := heap_setCells_all _ (St.get S_w5.out 0 rfl) rfl
      have HB : Hid (Below w.heap.size w (w5.setCells (w.heap.size) 0 [.int .i64 a0, .int .i64 a1, .string a2, .int .i64 a3, .bool a4, .int .i64 a5, .int .i64 a6, .int .i64 a7, .int .i64 a8, .int .i64 a9, .int .i64 a10, .int .i64 a11, .bool a12])) := (St.below S_w5.out).trans ((setCells_below (w.heap.size) _ 0 _).mono (Nat.le_refl _))
      generalize w5.setCells (w.heap.size) 0 [.int .i64 a0, .int .i64 a1, .string a2, .int .i64 a3, .bool a4, .int .i64 a5, .int .i64 a6, .int .i64 a7, .int .i64 a8, .int .i64 a9, .int .i64 a10, .int .i64 a11, .bool a12] = W at HW HB ⊢
      clear S_w5
      go_wp2
      exact bodyPost_ret (v := .agg #[.int .i64 a0, .int .i64 a1, .string a2, .int .i64 a3, .bool a4, .int .i64 a5, .int .i64 a6, .int .i64 a7, .int .i64 a8, .int .i64 a9, .int .i64 a10, .int .i64 a11, .bool a12]) (res_vd Tryz.results153 _ W (w.heap.size) [.int .i64 a0, .int .i64 a1, .string a2, .int .i64 a3, .bool a4, .int .i64 a5, .int .i64 a6, .int .i64 a7, .int .i64 a8, .int .i64 a9, .int .i64 a10, .int .i64 a11, .bool a12] rfl rfl HW.out) rfl ⟨rfl, HB.out⟩
    ·
      clear H
      obtain ⟨i, g, n, cap, ad, po, D, hd, hin, hnc, hcm, cu, cD, ch, x, G, Z, ct, cg, hx, cS, cO, rfl⟩ := h
      have CG : Hid _ := cg
      clear cg
      have CU : Hid _ := cu
      have CH : Hid _ := ch
      clear cu ch
      go_wp2_with fail
      refine Calls.mono (cd.at _) ?_; rintro e w' ⟨rfl, hw⟩; replace hw := hw.symm; subst hw
      go_wp2_with fail
      refine Calls.mono (CH.out _ (St.below S_w1.out)) ?_; rintro e w2 ⟨rfl, hb2⟩
      have S_w2 : Hid (St [(w.heap.size, #[.int .i64 0, .int .i64 0, .string ⟨#[]⟩, .int .i64 0, .bool false, .int .i64 0, .int .i64 0, .int .i64 0, .int .i64 0, .int .i64 0, .int .i64 0, .int .i64 0, .bool false], 136), (v0.heap.size, #[.int .i64 p, .int .i64 sa, .int .i64 sp, .int .i64 0, .int .i64 da, .int .i64 fp, .int .i64 now], 134)] w w2) := St.next S_w1.out hb2
      clear S_w1 hb2
      have hz_w2 : v0.heap.size < w2.heap.size := St.lt S_w2.out (x := (v0.heap.size, #[.int .i64 p, .int .i64 sa, .int .i64 sp, .int .i64 0, .int .i64 da, .int .i64 fp, .int .i64 now], 134)) (by simp)
      clear CH cd
      obtain ⟨a13, a1, a2⟩ := CU.out _ (St.below S_w2.out)
      have BD : Hid (Below w.heap.size w w2.drew) := (St.below S_w2.out).drew
      go_wp2_with fail
      clear q1 q5 q6
      go_region_held (fun w' => w'.cell? ⟨b, 13, none⟩ = some (.slice (some ⟨g, 0, none⟩) n cap) ∧ w'.cell? ⟨g, i * 7 + 1, none⟩ = some (.int .i64 ad) ∧ w'.cell? ⟨g, i * 7 + 2, none⟩ = some (.int .i64 po)) (first | (with_reducible assumption) | simp [*]) (first | (go_at_call 206; refine Calls.mono (cD.at _) ?_; rintro e wd ⟨rfl, hbd⟩; obtain ⟨b13, b1', b2'⟩ := CU.out wd (BD.out.trans (hbd.mono BD.out.size))))
      have S_wd : Hid (St [(w.heap.size, #[.int .i64 0, .int .i64 0, .string ⟨#[]⟩, .int .i64 0, .bool false, .int .i64 0, .int .i64 0, .int .i64 0, .int .i64 0, .int .i64 0, .int .i64 0, .int .i64 0, .bool false], 136), (v0.heap.size, #[.int .i64 p, .int .i64 sa, .int .i64 sp, .int .i64 0, .int .i64 da, .int .i64 fp, .int .i64 now], 134)] w wd) := St.next (St.drew S_w2.out) hbd
      clear S_w2
      have hz_wd : v0.heap.size < wd.heap.size := St.lt S_wd.out (x := (v0.heap.size, #[.int .i64 p, .int .i64 sa, .int .i64 sp, .int .i64 0, .int .i64 da, .int .i64 fp, .int .i64 now], 134)) (by simp)
      clear hbd a13 a1 a2 b13 b1' b2' BD CU cD
      go_wp2_with fail
      refine Calls.mono (ct.at _) ?_; rintro e w' ⟨rfl, hw⟩; replace hw := hw.symm; subst hw
      go_wp2_with (first | (refine pull_us [.int .i64 p, .int .i64 sa, .int .i64 sp, .int .i64 0, .int .i64 da, .int .i64 fp, .int .i64 now] rfl (v0.heap.size) (St.get S_wd.out 1 rfl) rfl rfl rfl ?_))
      refine Calls.mono (CG.out _ (St.below S_wd.out)) ?_; rintro e w3 ⟨rfl, hb3⟩
      have S_w3 : Hid (St [(w.heap.size, #[.int .i64 0, .int .i64 0, .string ⟨#[]⟩, .int .i64 0, .bool false, .int .i64 0, .int .i64 0, .int .i64 0, .int .i64 0, .int .i64 0, .int .i64 0, .int .i64 0, .bool false], 136), (v0.heap.size, #[.int .i64 p, .int .i64 sa, .int .i64 sp, .int .i64 0, .int .i64 da, .int .i64 fp, .int .i64 now], 134)] w w3) := St.next S_wd.out hb3
      clear S_wd hb3
      have hz_w3 : v0.heap.size < w3.heap.size := St.lt S_w3.out (x := (v0.heap.size, #[.int .i64 p, .int .i64 sa, .int .i64 sp, .int .i64 0, .int .i64 da, .int .i64 fp, .int .i64 now], 134)) (by simp)
      generalize (Value.agg #[.int .i64 p, .int .i64 sa, .int .i64 sp, .int .i64 0, .int .i64 da, .int .i64 fp, .int .i64 now]) = B4
      have fz := St.frz 1 rfl S_w3.out
      have q_u3 : w3.cell? ⟨v0.heap.size, 3, none⟩ = some (.int .i64 0) := St.at 1 3 rfl rfl _ S_w3.out
      go_upto_region 22 with fail
      try go_frame
      have S_u4 : Hid (St [(w.heap.size, #[.int .i64 0, .int .i64 0, .string ⟨#[]⟩, .int .i64 0, .bool false, .int .i64 0, .int .i64 0, .int .i64 0, .int .i64 0, .int .i64 0, .int .i64 0, .int .i64 0, .bool false], 136), (v0.heap.size, #[.int .i64 p, .int .i64 sa, .int .i64 sp, .int .i64 x, .int .i64 da, .int .i64 fp, .int .i64 now], 134)] w (w3.setCell ⟨v0.heap.size, 3, none⟩ (.int .i64 x))) := St.setAt (L1 := [(w.heap.size, #[.int .i64 0, .int .i64 0, .string ⟨#[]⟩, .int .i64 0, .bool false, .int .i64 0, .int .i64 0, .int .i64 0, .int .i64 0, .int .i64 0, .int .i64 0, .int .i64 0, .bool false], 136)]) (L2 := []) S_w3.out (by omega) (by simp; omega) 3 (.int .i64 x)
      generalize w3.setCell ⟨v0.heap.size, 3, none⟩ (.int .i64 x) = u4 at S_u4 ⊢
      clear S_w3 fz q_u3
      have hz_u4 : v0.heap.size < u4.heap.size := St.lt S_u4.out (x := (v0.heap.size, #[.int .i64 p, .int .i64 sa, .int .i64 sp, .int .i64 x, .int .i64 da, .int .i64 fp, .int .i64 now], 134)) (by simp)
      have q_u3 : u4.cell? ⟨v0.heap.size, 3, none⟩ = some (.int .i64 x) := St.at 1 3 rfl rfl _ S_u4.out
      obtain ⟨q1, q5, q6, q12⟩ := CB.out _ (St.below S_u4.out)
      clear q5 q6 q12
      have BD : Hid (Below w.heap.size w u4.drew) := (St.below S_u4.out).drew
      go_upto_region 24 with fail
      try go_frame
      go_region_held (fun w' => w'.cell? ⟨b, 1, none⟩ = some (.int .i64 oa) ∧ w'.cell? ⟨v0.heap.size, 3, none⟩ = some (.int .i64 x)) (first | (with_reducible assumption) | simp [*]) (first | (go_at_call 210; refine Calls.mono (cS.at _) ?_; rintro e wg ⟨rfl, hbg⟩; have g1 := (CB.out wg (BD.out.trans (hbg.mono BD.out.size))).1; have g3 := St.at 1 3 rfl rfl _ (St.next (St.drew S_u4.out) hbg)))
      have S_wg : Hid (St [(w.heap.size, #[.int .i64 0, .int .i64 0, .string ⟨#[]⟩, .int .i64 0, .bool false, .int .i64 0, .int .i64 0, .int .i64 0, .int .i64 0, .int .i64 0, .int .i64 0, .int .i64 0, .bool false], 136), (v0.heap.size, #[.int .i64 p, .int .i64 sa, .int .i64 sp, .int .i64 x, .int .i64 da, .int .i64 fp, .int .i64 now], 134)] w wg) := St.next (St.drew S_u4.out) hbg
      clear S_u4
      have hz_wg : v0.heap.size < wg.heap.size := St.lt S_wg.out (x := (v0.heap.size, #[.int .i64 p, .int .i64 sa, .int .i64 sp, .int .i64 x, .int .i64 da, .int .i64 fp, .int .i64 now], 134)) (by simp)
      clear hbg q1 q_u3 g1 g3 BD CB
      go_upto_region 25 with fail
      try go_frame
      obtain ⟨SX, hSX⟩ : ∃ SX : World → Prop, ∀ w', Sof SX w' ↔ St [(v0.heap.size, #[.int .i64 p, .int .i64 sa, .int .i64 sp, .int .i64 x, .int .i64 da, .int .i64 fp, .int .i64 now], 134)] w w' := ⟨_, fun _ => Iff.rfl⟩
      have HSX : Hid _ := hSX
      clear hSX
      have ss : Hid (Sof SX wg.drew) := (HSX.out _).2 (St.only (St.drew S_wg.out) 1 rfl)
      refine wp_region_held_drew (S := fun w' => Sof SX w') (by kernel_rfl) ss.out (fun hHeld => ?_)
      refine takeR (i := 0) (v := .int .i64 0) rfl (by kernel_rfl) (by kernel_rfl) (by kernel_rfl) (fun _ _ _ h => h) (yieldr_mv (by rfl) (.inl rfl) rfl) (by assumption) ?_
      try go_frame
      refine takeR (i := 1) (v := .string G) rfl (by kernel_rfl) (by kernel_rfl) (by kernel_rfl) (fun _ _ _ h => h) (yieldr_mv (by rfl) (.inl rfl) rfl) (by assumption) ?_
      try go_frame
      refine takeR (i := 4) (v := .int .i64 2) rfl (by kernel_rfl) (by kernel_rfl) (by kernel_rfl) (fun _ _ _ h => h) (yieldr_mv (by rfl) (.inl rfl) rfl) (by assumption) ?_
      try go_frame
      refine takeR (i := 5) (v := .agg #[.int .i64 p, .int .i64 sa, .int .i64 sp, .int .i64 x, .int .i64 da, .int .i64 fp, .int .i64 now]) rfl (by kernel_rfl) (by kernel_rfl) (by kernel_rfl) (fun _ _ _ h => h) (yieldr_us (by rfl) rfl (v0.heap.size) rfl [.int .i64 p, .int .i64 sa, .int .i64 sp, .int .i64 x, .int .i64 da, .int .i64 fp, .int .i64 now] rfl (fun w' h => ⟨134, show w'.heap[v0.heap.size]? = some (.cells #[.int .i64 p, .int .i64 sa, .int .i64 sp, .int .i64 x, .int .i64 da, .int .i64 fp, .int .i64 now] 134 (0, 0)) from St.get ((HSX.out w').1 h) 0 rfl⟩)) (by assumption) ?_
      try go_frame
      refine callR (i := 2) (by kernel_rfl) rfl (by rfl) (fun K hK => ?_)
      go_simp
      go_wp2_with (first | (go_at_call 202; refine Calls.mono (cO.at _) ?_; rintro e wn ⟨rfl, hbn⟩; have hkn : Sof SX wn := (HSX.out _).2 (St.next ((HSX.out _).1 ss.out) hbn)))
      refine hK.out _ _ ?_ (fun hHeld => ?_)
      · exact hkn
      clear hK
      clear K
      try go_frame
      have S_wn : Hid (St [(w.heap.size, #[.int .i64 0, .int .i64 0, .string ⟨#[]⟩, .int .i64 0, .bool false, .int .i64 0, .int .i64 0, .int .i64 0, .int .i64 0, .int .i64 0, .int .i64 0, .int .i64 0, .bool false], 136), (v0.heap.size, #[.int .i64 p, .int .i64 sa, .int .i64 sp, .int .i64 x, .int .i64 da, .int .i64 fp, .int .i64 now], 134)] w wn) := St.next (St.drew S_wg.out) hbn
      clear S_wg
      have hz_wn : v0.heap.size < wn.heap.size := St.lt S_wn.out (x := (v0.heap.size, #[.int .i64 p, .int .i64 sa, .int .i64 sp, .int .i64 x, .int .i64 da, .int .i64 fp, .int .i64 now], 134)) (by simp)
      refine takeR (i := 3) (v := .agg #[.int .i64 0, .int .i64 0, .string Z]) rfl (by kernel_rfl) (by kernel_rfl) (by kernel_rfl) (fun _ _ _ h => h) (Or.inl ⟨by rfl, fun w' hSw => by first | rfl | go_simp⟩) (by assumption) ?_
      try go_frame
      refine takeR (i := 6) (v := .agg #[.int .i64 0, .int .i64 0, .string Z, .int .i64 2, .bool true, .int .i64 p, .int .i64 sa, .int .i64 sp, .int .i64 x, .int .i64 da, .int .i64 fp, .int .i64 now, .bool false]) rfl (by kernel_rfl) (by kernel_rfl) (by kernel_rfl) (fun _ _ _ h => h) (Or.inl ⟨by rfl, fun w' hSw => by first | rfl | go_simp⟩) (by assumption) ?_
      try go_frame
      have HW : Hid ((wn.setCells (w.heap.size) 0 [.int .i64 0, .int .i64 0, .string Z, .int .i64 2, .bool true, .int .i64 p, .int .i64 sa, .int .i64 sp, .int .i64 x, .int .i64 da, .int .i64 fp, .int .i64 now, .bool false]).heap[w.heap.size]? = some (.cells #[.int .i64 0, .int .i64 0, .string Z, .int .i64 2, .bool true, .int .i64 p, .int .i64 sa, .int .i64 sp, .int .i64 x, .int .i64 da, .int .i64 fp, .int .i64 now, .bool false] 136 (0, 0))) := heap_setCells_all _ (St.get S_wn.out 0 rfl) rfl
      have HB : Hid (Below w.heap.size w (wn.setCells (w.heap.size) 0 [.int .i64 0, .int .i64 0, .string Z, .int .i64 2, .bool true, .int .i64 p, .int .i64 sa, .int .i64 sp, .int .i64 x, .int .i64 da, .int .i64 fp, .int .i64 now, .bool false])) := (St.below S_wn.out).trans ((setCells_below (w.heap.size) _ 0 _).mono (Nat.le_refl _))
      refine callR (i := 7) (by kernel_rfl) rfl (by rfl) (fun K hK => ?_)
      refine stow_vd rfl (w.heap.size) rfl [.int .i64 0, .int .i64 0, .string Z, .int .i64 2, .bool true, .int .i64 p, .int .i64 sa, .int .i64 sp, .int .i64 x, .int .i64 da, .int .i64 fp, .int .i64 now, .bool false] rfl rfl (St.get S_wn.out 0 rfl) rfl (by simp [Value.oneCell']) ?_
      refine hK.out _ _ ?_ (fun hHeld => ?_)
      · exact (HSX.out _).2 (St.fillO ((HSX.out _).1 hkn) (St.get S_wn.out 0 rfl) (Nat.le_refl _) (by show v0.heap.size ≠ w.heap.size; omega) _ rfl)
      clear hK
      clear K
      try go_frame
      generalize wn.setCells (w.heap.size) 0 [.int .i64 0, .int .i64 0, .string Z, .int .i64 2, .bool true, .int .i64 p, .int .i64 sa, .int .i64 sp, .int .i64 x, .int .i64 da, .int .i64 fp, .int .i64 now, .bool false] = W at HW HB hHeld ⊢
      refine wpAnyH_done (by kernel_rfl) ?_ _
      go_wp2
      exact bodyPost_ret (v := .agg #[.int .i64 0, .int .i64 0, .string Z, .int .i64 2, .bool true, .int .i64 p, .int .i64 sa, .int .i64 sp, .int .i64 x, .int .i64 da, .int .i64 fp, .int .i64 now, .bool false]) (res_vd Tryz.results153 _ W (w.heap.size) [.int .i64 0, .int .i64 0, .string Z, .int .i64 2, .bool true, .int .i64 p, .int .i64 sa, .int .i64 sp, .int .i64 x, .int .i64 da, .int .i64 fp, .int .i64 now, .bool false] rfl rfl HW.out) rfl ⟨rfl, HB.out⟩

end Go.Proofs.YthiljpbodmajaabGreat
