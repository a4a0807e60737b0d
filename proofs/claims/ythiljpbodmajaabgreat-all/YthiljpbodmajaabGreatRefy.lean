/-
  CONTRACTS: package natboxref: inward, walked.
-/
import Derived.Test.YthiljpbodmajaabGreatVrdz
import Derived.Deep.DeepCutAuto
namespace Go.Proofs.YthiljpbodmajaabGreat
open Go.RowKit Plain
set_option linter.unusedVariables false

set_option maxHeartbeats 4000000 in
set_option maxRecDepth 2000 in
theorem rin_none (b : Nat) (s : ByteArray) (p x hv : Int) (w : World) (c9 : Ret 141 #[.string s, .int .i64 9, .int .i64 1] (.int .i64 p)) (cd : Ret 204 #[.string s] (.int .i64 x))
    (ch : ∀ wx, Below w.heap.size w wx → Calls Tryz.prog 203 #[.pointer (some ⟨b, 0, none⟩), .int .i64 p, .int .i64 x] wx fun e w' => e = .returned (.int .i64 hv) ∧ Below wx.heap.size wx w') (h0 : hv < 0) :
    Calls Tryz.prog 152 #[.pointer (some ⟨b, 0, none⟩), .string s] w fun r w' => r = .returned (.agg #[.int .i64 8, .int .i64 0, .string ⟨#[]⟩, .int .i64 0, .bool false, .int .i64 0, .int .i64 0, .int .i64 0, .int .i64 0, .int .i64 0, .int .i64 0, .int .i64 0, .bool false]) ∧ Below w.heap.size w w' := by
  have CR : Hid (∀ w, Calls Tryz.prog 148 #[.int .i64 8, .int .i64 0] w fun e' w' => e' = .returned (.agg #[.int .i64 8, .int .i64 0, .string ⟨#[]⟩, .int .i64 0, .bool false, .int .i64 0, .int .i64 0, .int .i64 0, .int .i64 0, .int .i64 0, .int .i64 0, .int .i64 0, .bool false]) ∧ Below w.heap.size w w') := fun w => refused_any 8 0 w
  have CH : Hid _ := ch
  clear ch
  go_enter Tryz.func152, Tryz.ntmps152
  go_upto_region 1 with fail
  have S_v0 : Hid (St [(w.heap.size, #[.int .i64 0, .int .i64 0, .string ⟨#[]⟩, .int .i64 0, .bool false, .int .i64 0, .int .i64 0, .int .i64 0, .int .i64 0, .int .i64 0, .int .i64 0, .int .i64 0, .bool false], 136)] w (w.alloc (.cells #[.int .i64 0, .int .i64 0, .string ⟨#[]⟩, .int .i64 0, .bool false, .int .i64 0, .int .i64 0, .int .i64 0, .int .i64 0, .int .i64 0, .int .i64 0, .int .i64 0, .bool false] 136))) := St.alloc (St.start w) #[.int .i64 0, .int .i64 0, .string ⟨#[]⟩, .int .i64 0, .bool false, .int .i64 0, .int .i64 0, .int .i64 0, .int .i64 0, .int .i64 0, .int .i64 0, .int .i64 0, .bool false] 136 (w.heap.size) rfl
  generalize (w.alloc (.cells #[.int .i64 0, .int .i64 0, .string ⟨#[]⟩, .int .i64 0, .bool false, .int .i64 0, .int .i64 0, .int .i64 0, .int .i64 0, .int .i64 0, .int .i64 0, .int .i64 0, .bool false] 136)) = v0 at S_v0 ⊢
  have hz_v0 : w.heap.size < v0.heap.size := St.lt S_v0.out (x := (w.heap.size, #[.int .i64 0, .int .i64 0, .string ⟨#[]⟩, .int .i64 0, .bool false, .int .i64 0, .int .i64 0, .int .i64 0, .int .i64 0, .int .i64 0, .int .i64 0, .int .i64 0, .bool false], 136)) (by simp)
  go_wp2_with fail
  refine Calls.mono (c9.at _) ?_; rintro e w' ⟨rfl, hw⟩; replace hw := hw.symm; subst hw
  go_wp2_with fail
  refine Calls.mono (cd.at _) ?_; rintro e w' ⟨rfl, hw⟩; replace hw := hw.symm; subst hw
  go_wp2_with fail
  refine Calls.mono (CH.out _ (St.below S_v0.out)) ?_; rintro e w1 ⟨rfl, hb1⟩
  have S_w1 : Hid (St [(w.heap.size, #[.int .i64 0, .int .i64 0, .string ⟨#[]⟩, .int .i64 0, .bool false, .int .i64 0, .int .i64 0, .int .i64 0, .int .i64 0, .int .i64 0, .int .i64 0, .int .i64 0, .bool false], 136)] w w1) := St.next S_v0.out hb1
  clear S_v0 hb1
  have hz_w1 : w.heap.size < w1.heap.size := St.lt S_w1.out (x := (w.heap.size, #[.int .i64 0, .int .i64 0, .string ⟨#[]⟩, .int .i64 0, .bool false, .int .i64 0, .int .i64 0, .int .i64 0, .int .i64 0, .int .i64 0, .int .i64 0, .int .i64 0, .bool false], 136)) (by simp)
  clear CH
  go_wp2_with fail
  refine Calls.mono (CR.out _) ?_; rintro e w2 ⟨rfl, hb2⟩
  have S_w2 : Hid (St [(w.heap.size, #[.int .i64 0, .int .i64 0, .string ⟨#[]⟩, .int .i64 0, .bool false, .int .i64 0, .int .i64 0, .int .i64 0, .int .i64 0, .int .i64 0, .int .i64 0, .int .i64 0, .bool false], 136)] w w2) := St.next S_w1.out hb2
  clear S_w1 hb2
  have hz_w2 : w.heap.size < w2.heap.size := St.lt S_w2.out (x := (w.heap.size, #[.int .i64 0, .int .i64 0, .string ⟨#[]⟩, .int .i64 0, .bool false, .int .i64 0, .int .i64 0, .int .i64 0, .int .i64 0, .int .i64 0, .int .i64 0, .int .i64 0, .bool false], 136)) (by simp)
  rename_i KK hKK
  refine hKK _ _ ?_
  clear hKK
  clear KK
  refine lay_vd [.int .i64 8, .int .i64 0, .string ⟨#[]⟩, .int .i64 0, .bool false, .int .i64 0, .int .i64 0, .int .i64 0, .int .i64 0, .int .i64 0, .int .i64 0, .int .i64 0, .bool false] rfl (w.heap.size) (St.get S_w2.out 0 rfl) rfl rfl rfl (by simp [Value.oneCell']) rfl rfl ?_
  have HW : Hid ((w2.setCells (w.heap.size) 0 [.int .i64 8, .int .i64 0, .string ⟨#[]⟩, .int .i64 0, .bool false, .int .i64 0, .int .i64 0, .int .i64 0, .int .i64 0, .int .i64 0, .int .i64 0, .int .i64 0, .bool false]).heap[w.heap.size]? = some (.cells #[.int .i64 8, .int .i64 0, .string ⟨#[]⟩, .int .i64 0, .bool false, .int .i64 0, .int .i64 0, .int .i64 0, .int .i64 0, .int .i64 0, .int .i64 0, .int .i64 0, .bool false] 136 (0, 0))) := heap_setCells_all _ (St.get S_w2.out 0 rfl) rfl
  have HB : Hid (Below w.heap.size w (w2.setCells (w.heap.size) 0 [.int .i64 8, .int .i64 0, .string ⟨#[]⟩, .int .i64 0, .bool false, .int .i64 0, .int .i64 0, .int .i64 0, .int .i64 0, .int .i64 0, .int .i64 0, .int .i64 0, .bool false])) := (St.below S_w2.out).trans ((setCells_below (w.heap.size) _ 0 _).mono (Nat.le_refl _))
  generalize w2.setCells (w.heap.size) 0 [.int .i64 8, .int .i64 0, .string ⟨#[]⟩, .int .i64 0, .bool false, .int .i64 0, .int .i64 0, .int .i64 0, .int .i64 0, .int .i64 0, .int .i64 0, .int .i64 0, .bool false] = W at HW HB ⊢
  clear S_w2
  go_wp2
  exact bodyPost_ret (v := .agg #[.int .i64 8, .int .i64 0, .string ⟨#[]⟩, .int .i64 0, .bool false, .int .i64 0, .int .i64 0, .int .i64 0, .int .i64 0, .int .i64 0, .int .i64 0, .int .i64 0, .bool false]) (res_vd Tryz.results152 _ W (w.heap.size) [.int .i64 8, .int .i64 0, .string ⟨#[]⟩, .int .i64 0, .bool false, .int .i64 0, .int .i64 0, .int .i64 0, .int .i64 0, .int .i64 0, .int .i64 0, .int .i64 0, .bool false] rfl rfl HW.out) rfl ⟨rfl, HB.out⟩

set_option maxHeartbeats 4000000 in
set_option maxRecDepth 2000 in
theorem rin_stop (b : Nat) (s : ByteArray) (p x hv : Int) (w : World) (c9 : Ret 141 #[.string s, .int .i64 9, .int .i64 1] (.int .i64 p)) (cd : Ret 204 #[.string s] (.int .i64 x))
    (ch : ∀ wx, Below w.heap.size w wx → Calls Tryz.prog 203 #[.pointer (some ⟨b, 0, none⟩), .int .i64 p, .int .i64 x] wx fun e w' => e = .returned (.int .i64 hv) ∧ Below wx.heap.size wx w') (h0 : 0 ≤ hv) (im e : Int) (ci : ∀ wx, Below w.heap.size w wx → wx.cell? ⟨b, 5, none⟩ = some (.int .i64 im)) (cs : Ret 200 #[.pointer (some ⟨b, 0, none⟩), .string s, .int .i64 im] (.int .i64 e)) (he : (e != 0) = true) (a0 a1 : Int) (a2 : ByteArray) (a3 : Int) (a4 : Bool) (a5 a6 a7 a8 a9 a10 a11 : Int) (a12 : Bool) (co : ∀ wx, Below w.heap.size w wx → Calls Tryz.prog 205 #[.pointer (some ⟨b, 0, none⟩), .int .i64 1, .string s, .int .i64 e, .int .i64 im, .int .i64 1] wx fun r w' => r = .returned (.agg #[.int .i64 a0, .int .i64 a1, .string a2, .int .i64 a3, .bool a4, .int .i64 a5, .int .i64 a6, .int .i64 a7, .int .i64 a8, .int .i64 a9, .int .i64 a10, .int .i64 a11, .bool a12]) ∧ Below wx.heap.size wx w') :
    Calls Tryz.prog 152 #[.pointer (some ⟨b, 0, none⟩), .string s] w fun r w' => r = .returned (.agg #[.int .i64 a0, .int .i64 a1, .string a2, .int .i64 a3, .bool a4, .int .i64 a5, .int .i64 a6, .int .i64 a7, .int .i64 a8, .int .i64 a9, .int .i64 a10, .int .i64 a11, .bool a12]) ∧ Below w.heap.size w w' := by
  have CI : Hid _ := ci
  have CO : Hid _ := co
  clear ci co
  have CH : Hid _ := ch
  clear ch
  go_enter Tryz.func152, Tryz.ntmps152
  go_upto_region 1 with fail
  have S_v0 : Hid (St [(w.heap.size, #[.int .i64 0, .int .i64 0, .string ⟨#[]⟩, .int .i64 0, .bool false, .int .i64 0, .int .i64 0, .int .i64 0, .int .i64 0, .int .i64 0, .int .i64 0, .int .i64 0, .bool false], 136)] w (w.alloc (.cells #[.int .i64 0, .int .i64 0, .string ⟨#[]⟩, .int .i64 0, .bool false, .int .i64 0, .int .i64 0, .int .i64 0, .int .i64 0, .int .i64 0, .int .i64 0, .int .i64 0, .bool false] 136))) := St.alloc (St.start w) #[.int .i64 0, .int .i64 0, .string ⟨#[]⟩, .int .i64 0, .bool false, .int .i64 0, .int .i64 0, .int .i64 0, .int .i64 0, .int .i64 0, .int .i64 0, .int .i64 0, .bool false] 136 (w.heap.size) rfl
  generalize (w.alloc (.cells #[.int .i64 0, .int .i64 0, .string ⟨#[]⟩, .int .i64 0, .bool false, .int .i64 0, .int .i64 0, .int .i64 0, .int .i64 0, .int .i64 0, .int .i64 0, .int .i64 0, .bool false] 136)) = v0 at S_v0 ⊢
  have hz_v0 : w.heap.size < v0.heap.size := St.lt S_v0.out (x := (w.heap.size, #[.int .i64 0, .int .i64 0, .string ⟨#[]⟩, .int .i64 0, .bool false, .int .i64 0, .int .i64 0, .int .i64 0, .int .i64 0, .int .i64 0, .int .i64 0, .int .i64 0, .bool false], 136)) (by simp)
  go_wp2_with fail
  refine Calls.mono (c9.at _) ?_; rintro e w' ⟨rfl, hw⟩; replace hw := hw.symm; subst hw
  go_wp2_with fail
  refine Calls.mono (cd.at _) ?_; rintro e w' ⟨rfl, hw⟩; replace hw := hw.symm; subst hw
  go_wp2_with fail
  refine Calls.mono (CH.out _ (St.below S_v0.out)) ?_; rintro e w1 ⟨rfl, hb1⟩
  have S_w1 : Hid (St [(w.heap.size, #[.int .i64 0, .int .i64 0, .string ⟨#[]⟩, .int .i64 0, .bool false, .int .i64 0, .int .i64 0, .int .i64 0, .int .i64 0, .int .i64 0, .int .i64 0, .int .i64 0, .bool false], 136)] w w1) := St.next S_v0.out hb1
  clear S_v0 hb1
  have hz_w1 : w.heap.size < w1.heap.size := St.lt S_w1.out (x := (w.heap.size, #[.int .i64 0, .int .i64 0, .string ⟨#[]⟩, .int .i64 0, .bool false, .int .i64 0, .int .i64 0, .int .i64 0, .int .i64 0, .int .i64 0, .int .i64 0, .int .i64 0, .bool false], 136)) (by simp)
  clear CH
  have q5 := CI.out _ (St.below S_w1.out)
  go_wp2_with fail
  refine Calls.mono (cs.at _) ?_; rintro e w' ⟨rfl, hw⟩; replace hw := hw.symm; subst hw
  go_wp2_with fail
  refine Calls.mono (CO.out _ (St.below S_w1.out)) ?_; rintro e w2 ⟨rfl, hb2⟩
  have S_w2 : Hid (St [(w.heap.size, #[.int .i64 0, .int .i64 0, .string ⟨#[]⟩, .int .i64 0, .bool false, .int .i64 0, .int .i64 0, .int .i64 0, .int .i64 0, .int .i64 0, .int .i64 0, .int .i64 0, .bool false], 136)] w w2) := St.next S_w1.out hb2
  clear S_w1 hb2
  have hz_w2 : w.heap.size < w2.heap.size := St.lt S_w2.out (x := (w.heap.size, #[.int .i64 0, .int .i64 0, .string ⟨#[]⟩, .int .i64 0, .bool false, .int .i64 0, .int .i64 0, .int .i64 0, .int .i64 0, .int .i64 0, .int .i64 0, .int .i64 0, .bool false], 136)) (by simp)
  rename_i KK hKK
  refine hKK _ _ ?_
  clear hKK
  clear KK
  refine lay_vd [.int .i64 a0, .int .i64 a1, .string a2, .int .i64 a3, .bool a4, .int .i64 a5, .int .i64 a6, .int .i64 a7, .int .i64 a8, .int .i64 a9, .int .i64 a10, .int .i64 a11, .bool a12] rfl (w.heap.size) (St.get S_w2.out 0 rfl) rfl rfl rfl (by simp [Value.oneCell']) rfl rfl ?_
  have HW : Hid ((w2.setCells (w.heap.size) 0 [.int .i64 a0, .int .i64 a1, .string a2, .int .i64 a3, .bool a4, .int .i64 a5, .int .i64 a6, .int .i64 a7, .int .i64 a8, .int .i64 a9, .int .i64 a10, .int .i64 a11, .bool a12]).heap[w.heap.size]? = some (.cells #[.int .i64 a0, .int .i64 a1, .string a2, .int .i64 a3, .bool a4, .int .i64 a5, .int .i64 a6, .int .i64 a7, .int .i64 a8, .int .i64 a9, .int .i64 a10, .int .i64 a11, .bool a12] 136 (0, 0))) := heap_setCells_all _ (St.get S_w2.out 0 rfl) rfl
  have HB : Hid (Below w.heap.size w (w2.setCells (w.heap.size) 0 [.int .i64 a0, .int .i64 a1, .string a2, .int .i64 a3, .bool a4, .int .i64 a5, .int .i64 a6, .int .i64 a7, .int .i64 a8, .int .i64 a9, .int .i64 a10, .int .i64 a11, .bool a12])) := (St.below S_w2.out).trans ((setCells_below (w.heap.size) _ 0 _).mono (Nat.le_refl _))
  generalize w2.setCells (w.heap.size) 0 [.int .i64 a0, .int .i64 a1, .string a2, .int .i64 a3, .bool a4, .int .i64 a5, .int .i64 a6, .int .i64 a7, .int .i64 a8, .int .i64 a9, .int .i64 a10, .int .i64 a11, .bool a12] = W at HW HB ⊢
  clear S_w2
  go_wp2
  exact bodyPost_ret (v := .agg #[.int .i64 a0, .int .i64 a1, .string a2, .int .i64 a3, .bool a4, .int .i64 a5, .int .i64 a6, .int .i64 a7, .int .i64 a8, .int .i64 a9, .int .i64 a10, .int .i64 a11, .bool a12]) (res_vd Tryz.results152 _ W (w.heap.size) [.int .i64 a0, .int .i64 a1, .string a2, .int .i64 a3, .bool a4, .int .i64 a5, .int .i64 a6, .int .i64 a7, .int .i64 a8, .int .i64 a9, .int .i64 a10, .int .i64 a11, .bool a12] rfl rfl HW.out) rfl ⟨rfl, HB.out⟩

set_option maxHeartbeats 4000000 in
set_option maxRecDepth 2000 in
theorem rin_go (b : Nat) (s : ByteArray) (p x hv : Int) (w : World) (c9 : Ret 141 #[.string s, .int .i64 9, .int .i64 1] (.int .i64 p)) (cd : Ret 204 #[.string s] (.int .i64 x))
    (ch : ∀ wx, Below w.heap.size w wx → Calls Tryz.prog 203 #[.pointer (some ⟨b, 0, none⟩), .int .i64 p, .int .i64 x] wx fun e w' => e = .returned (.int .i64 hv) ∧ Below wx.heap.size wx w') (i g n cap : Nat) (hi : hv = (i : Int)) (hin : i < n) (hnc : n ≤ cap) (hcm : cap ≤ 9223372036854775807) (ad po : Int) (D Z : ByteArray) (im e : Int) (ci : ∀ wx, Below w.heap.size w wx → wx.cell? ⟨b, 5, none⟩ = some (.int .i64 im)) (cs : Ret 200 #[.pointer (some ⟨b, 0, none⟩), .string s, .int .i64 im] (.int .i64 e)) (he : e = 0) (cu : ∀ wx, Below w.heap.size w wx → wx.cell? ⟨b, 13, none⟩ = some (.slice (some ⟨g, 0, none⟩) n cap) ∧ wx.cell? ⟨g, i * 7 + 1, none⟩ = some (.int .i64 ad) ∧ wx.cell? ⟨g, i * 7 + 2, none⟩ = some (.int .i64 po))
    (cD : RetB 206 #[.string s, .int .i64 ad, .int .i64 po] (.string D)) (cO : RetB 202 #[.string D] (.string Z)) :
    Calls Tryz.prog 152 #[.pointer (some ⟨b, 0, none⟩), .string s] w fun r w' => r = .returned (.agg #[.int .i64 0, .int .i64 0, .string Z, .int .i64 0, .bool false, .int .i64 0, .int .i64 0, .int .i64 0, .int .i64 0, .int .i64 0, .int .i64 0, .int .i64 0, .bool false]) ∧ Below w.heap.size w w' := by
  subst he
  subst hi
  have CI : Hid _ := ci
  have CU : Hid _ := cu
  clear ci cu
  have CH : Hid _ := ch
  clear ch
  go_enter Tryz.func152, Tryz.ntmps152
  go_upto_region 1 with fail
  have S_v0 : Hid (St [(w.heap.size, #[.int .i64 0, .int .i64 0, .string ⟨#[]⟩, .int .i64 0, .bool false, .int .i64 0, .int .i64 0, .int .i64 0, .int .i64 0, .int .i64 0, .int .i64 0, .int .i64 0, .bool false], 136)] w (w.alloc (.cells #[.int .i64 0, .int .i64 0, .string ⟨#[]⟩, .int .i64 0, .bool false, .int .i64 0, .int .i64 0, .int .i64 0, .int .i64 0, .int .i64 0, .int .i64 0, .int .i64 0, .bool false] 136))) := St.alloc (St.start w) #[.int .i64 0, .int .i64 0, .string ⟨#[]⟩, .int .i64 0, .bool false, .int .i64 0, .int .i64 0, .int .i64 0, .int .i64 0, .int .i64 0, .int .i64 0, .int .i64 0, .bool false] 136 (w.heap.size) rfl
  generalize (w.alloc (.cells #[.int .i64 0, .int .i64 0, .string ⟨#[]⟩, .int .i64 0, .bool false, .int .i64 0, .int .i64 0, .int .i64 0, .int .i64 0, .int .i64 0, .int .i64 0, .int .i64 0, .bool false] 136)) = v0 at S_v0 ⊢
  have hz_v0 : w.heap.size < v0.heap.size := St.lt S_v0.out (x := (w.heap.size, #[.int .i64 0, .int .i64 0, .string ⟨#[]⟩, .int .i64 0, .bool false, .int .i64 0, .int .i64 0, .int .i64 0, .int .i64 0, .int .i64 0, .int .i64 0, .int .i64 0, .bool false], 136)) (by simp)
  go_wp2_with fail
  refine Calls.mono (c9.at _) ?_; rintro e w' ⟨rfl, hw⟩; replace hw := hw.symm; subst hw
  go_wp2_with fail
  refine Calls.mono (cd.at _) ?_; rintro e w' ⟨rfl, hw⟩; replace hw := hw.symm; subst hw
  go_wp2_with fail
  refine Calls.mono (CH.out _ (St.below S_v0.out)) ?_; rintro e w1 ⟨rfl, hb1⟩
  have S_w1 : Hid (St [(w.heap.size, #[.int .i64 0, .int .i64 0, .string ⟨#[]⟩, .int .i64 0, .bool false, .int .i64 0, .int .i64 0, .int .i64 0, .int .i64 0, .int .i64 0, .int .i64 0, .int .i64 0, .bool false], 136)] w w1) := St.next S_v0.out hb1
  clear S_v0 hb1
  have hz_w1 : w.heap.size < w1.heap.size := St.lt S_w1.out (x := (w.heap.size, #[.int .i64 0, .int .i64 0, .string ⟨#[]⟩, .int .i64 0, .bool false, .int .i64 0, .int .i64 0, .int .i64 0, .int .i64 0, .int .i64 0, .int .i64 0, .int .i64 0, .bool false], 136)) (by simp)
  clear CH
  have q5 := CI.out _ (St.below S_w1.out)
  go_wp2_with fail
  refine Calls.mono (cs.at _) ?_; rintro e w' ⟨rfl, hw⟩; replace hw := hw.symm; subst hw
  clear q5 CI
  obtain ⟨a13, a1, a2⟩ := CU.out _ (St.below S_w1.out)
  have BD : Hid (Below w.heap.size w w1.drew) := (St.below S_w1.out).drew
  go_wp2_with fail
  go_region_held (fun w' => w'.cell? ⟨b, 13, none⟩ = some (.slice (some ⟨g, 0, none⟩) n cap) ∧ w'.cell? ⟨g, i * 7 + 1, none⟩ = some (.int .i64 ad) ∧ w'.cell? ⟨g, i * 7 + 2, none⟩ = some (.int .i64 po)) (first | (with_reducible assumption) | simp [*]) (first | (go_at_call 206; refine Calls.mono (cD.at _) ?_; rintro e wd ⟨rfl, hbd⟩; obtain ⟨b13, b1', b2'⟩ := CU.out wd (BD.out.trans (hbd.mono BD.out.size))))
  have S_wd : Hid (St [(w.heap.size, #[.int .i64 0, .int .i64 0, .string ⟨#[]⟩, .int .i64 0, .bool false, .int .i64 0, .int .i64 0, .int .i64 0, .int .i64 0, .int .i64 0, .int .i64 0, .int .i64 0, .bool false], 136)] w wd) := St.next (St.drew S_w1.out) hbd
  clear S_w1
  have hz_wd : w.heap.size < wd.heap.size := St.lt S_wd.out (x := (w.heap.size, #[.int .i64 0, .int .i64 0, .string ⟨#[]⟩, .int .i64 0, .bool false, .int .i64 0, .int .i64 0, .int .i64 0, .int .i64 0, .int .i64 0, .int .i64 0, .int .i64 0, .bool false], 136)) (by simp)
  clear hbd a13 a1 a2 b13 b1' b2' BD CU
  go_wp2_with fail
  refine Calls.mono (cO.at _) ?_; rintro e w2 ⟨rfl, hb2⟩
  have S_w2 : Hid (St [(w.heap.size, #[.int .i64 0, .int .i64 0, .string ⟨#[]⟩, .int .i64 0, .bool false, .int .i64 0, .int .i64 0, .int .i64 0, .int .i64 0, .int .i64 0, .int .i64 0, .int .i64 0, .bool false], 136)] w w2) := St.next S_wd.out hb2
  clear S_wd hb2
  have hz_w2 : w.heap.size < w2.heap.size := St.lt S_w2.out (x := (w.heap.size, #[.int .i64 0, .int .i64 0, .string ⟨#[]⟩, .int .i64 0, .bool false, .int .i64 0, .int .i64 0, .int .i64 0, .int .i64 0, .int .i64 0, .int .i64 0, .int .i64 0, .bool false], 136)) (by simp)
  go_wp2_with (first | (refine lay_vd [.int .i64 0, .int .i64 0, .string Z, .int .i64 0, .bool false, .int .i64 0, .int .i64 0, .int .i64 0, .int .i64 0, .int .i64 0, .int .i64 0, .int .i64 0, .bool false] rfl (w.heap.size) (St.get S_w2.out 0 rfl) rfl rfl rfl (by simp [Value.oneCell']) rfl rfl ?_))
  have HW : Hid ((w2.setCells (w.heap.size) 0 [.int .i64 0, .int .i64 0, .string Z, .int .i64 0, .bool false, .int .i64 0, .int .i64 0, .int .i64 0, .int .i64 0, .int .i64 0, .int .i64 0, .int .i64 0, .bool false]).heap[w.heap.size]? = some (.cells #[.int .i64 0, .int .i64 0, .string Z, .int .i64 0, .bool false, .int .i64 0, .int .i64 0, .int .i64 0, .int .i64 0, .int .i64 0, .int .i64 0, .int .i64 0, .bool false] 136 (0, 0))) := heap_setCells_all _ (St.get S_w2.out 0 rfl) rfl
  have HB : Hid (Below w.heap.size w (w2.setCells (w.heap.size) 0 [.int .i64 0, .int .i64 0, .string Z, .int .i64 0, .bool false, .int .i64 0, .int .i64 0, .int .i64 0, .int .i64 0, .int .i64 0, .int .i64 0, .int .i64 0, .bool false])) := (St.below S_w2.out).trans ((setCells_below (w.heap.size) _ 0 _).mono (Nat.le_refl _))
  generalize w2.setCells (w.heap.size) 0 [.int .i64 0, .int .i64 0, .string Z, .int .i64 0, .bool false, .int .i64 0, .int .i64 0, .int .i64 0, .int .i64 0, .int .i64 0, .int .i64 0, .int .i64 0, .bool false] = W at HW HB ⊢
  clear S_w2
  go_wp2
  exact bodyPost_ret (v := .agg #[.int .i64 0, .int .i64 0, .string Z, .int .i64 0, .bool false, .int .i64 0, .int .i64 0, .int .i64 0, .int .i64 0, .int .i64 0, .int .i64 0, .int .i64 0, .bool false]) (res_vd Tryz.results152 _ W (w.heap.size) [.int .i64 0, .int .i64 0, .string Z, .int .i64 0, .bool false, .int .i64 0, .int .i64 0, .int .i64 0, .int .i64 0, .int .i64 0, .int .i64 0, .int .i64 0, .bool false] rfl rfl HW.out) rfl ⟨rfl, HB.out⟩

end Go.Proofs.YthiljpbodmajaabGreat
