/-
  CONTRACTS: package natboxref: message, walked.
-/
import Derived.Test.YthiljpbodmajaabGreatVrdz
import Derived.Deep.DeepCutAuto
import Derived.Deep.CutBlock
namespace Go.Proofs.YthiljpbodmajaabGreat
open Go.RowKit Plain
set_option linter.unusedVariables false
theorem rint {a b : Int} (h : a = b) : Value.int .i64 a = .int .i64 b := by rw [h]

def RmsgH (b : Nat) (f q g r : ByteArray) (hh tt mt : Int) (V : List Value) : Prop :=
    (g = ⟨#[]⟩ ∧ V = [.int .i64 8, .int .i64 0, .string ⟨#[]⟩, .int .i64 2, .bool false, .int .i64 0, .int .i64 0, .int .i64 0, .int .i64 0, .int .i64 0, .int .i64 0, .int .i64 0, .bool false]) ∨
    (∃ e : Int, g.toList.isEmpty = false ∧ Ret 200 #[.pointer (some ⟨b, 0, none⟩), .string f, .int .i64 mt] (.int .i64 e) ∧ (e != 0) = true ∧ V = [.int .i64 e, .int .i64 0, .string ⟨#[]⟩, .int .i64 2, .bool false, .int .i64 0, .int .i64 0, .int .i64 0, .int .i64 0, .int .i64 0, .int .i64 0, .int .i64 0, .bool false]) ∨
    (∃ R G Z : ByteArray, g.toList.isEmpty = false ∧ Ret 200 #[.pointer (some ⟨b, 0, none⟩), .string f, .int .i64 mt] (.int .i64 0) ∧ RetB 201 #[.string q, .string r] (.string R) ∧ Ret 190 #[.string g, .int .i64 (hh + 8), .string R] (.string G) ∧ RetB 202 #[.string G] (.string Z) ∧ V = [.int .i64 0, .int .i64 tt, .string Z, .int .i64 2, .bool false, .int .i64 0, .int .i64 0, .int .i64 0, .int .i64 0, .int .i64 0, .int .i64 0, .int .i64 0, .bool false])
set_option maxHeartbeats 4000000 in
set_option maxRecDepth 2000 in
theorem rmsg_any (b : Nat) (f q g r : ByteArray) (sd hh n da oa im om tt mt : Int) (b1 b2 : Bool) (w : World) (hh0 : 0 ≤ hh) (hh1 : hh ≤ 60) (cH : Ret 189 #[.string f] (.int .i64 hh)) (c2 : Ret 141 #[.string f, .int .i64 2, .int .i64 2] (.int .i64 n)) (cq : Ret 146 #[.string f, .int .i64 (hh + 8), .int .i64 n] (.string q)) (c16 : Ret 141 #[.string f, .int .i64 16, .int .i64 4] (.int .i64 da))
    (cb : ∀ wx, Below w.heap.size w wx → wx.cell? ⟨b, 1, none⟩ = some (.int .i64 oa) ∧ wx.cell? ⟨b, 5, none⟩ = some (.int .i64 im) ∧ wx.cell? ⟨b, 6, none⟩ = some (.int .i64 om)) (e1 : (sd == 1) = b1) (e2 : (da == oa) = b2) (ht : tt = if b1 then 0 else if b2 then 0 else 1) (hm : mt = if b1 then im else if b2 then im else om)
    (k1 : b1 = true → ∀ wx, Below w.heap.size w wx → Calls Tryz.prog 197 #[.pointer (some ⟨b, 0, none⟩), .string f, .string q] wx fun e w' => e = .returned (.tuple #[.string g, .string r]) ∧ Below wx.heap.size wx w') (k2 : b1 = false → b2 = true → ∀ wx, Below w.heap.size w wx → Calls Tryz.prog 198 #[.pointer (some ⟨b, 0, none⟩), .string f, .string q] wx fun e w' => e = .returned (.tuple #[.string g, .string r]) ∧ Below wx.heap.size wx w') (k3 : b1 = false → b2 = false → ∀ wx, Below w.heap.size w wx → Calls Tryz.prog 199 #[.pointer (some ⟨b, 0, none⟩), .string f, .string q] wx fun e w' => e = .returned (.tuple #[.string g, .string r]) ∧ Below wx.heap.size wx w') (V : List Value) (hH : RmsgH b f q g r hh tt mt V) :
    Calls Tryz.prog 151 #[.pointer (some ⟨b, 0, none⟩), .int .i64 sd, .string f] w fun r w' => r = .returned (.agg V.toArray) ∧ Below w.heap.size w w' := by
  have CB : Hid _ := cb
  have H : Hid _ := hH
  have K1 : Hid _ := k1
  have K2 : Hid _ := k2
  have K3 : Hid _ := k3
  have HT : Hid _ := ht
  have HM : Hid _ := hm
  clear cb hH k1 k2 k3 ht hm
  go_enter Tryz.func151, Tryz.ntmps151
  go_upto_region 1 with fail
  have S_v0 : Hid (St [(w.heap.size, #[.int .i64 0, .int .i64 0, .string ⟨#[]⟩, .int .i64 0, .bool false, .int .i64 0, .int .i64 0, .int .i64 0, .int .i64 0, .int .i64 0, .int .i64 0, .int .i64 0, .bool false], 136)] w (w.alloc (.cells #[.int .i64 0, .int .i64 0, .string ⟨#[]⟩, .int .i64 0, .bool false, .int .i64 0, .int .i64 0, .int .i64 0, .int .i64 0, .int .i64 0, .int .i64 0, .int .i64 0, .bool false] 136))) := St.alloc (St.start w) #[.int .i64 0, .int .i64 0, .string ⟨#[]⟩, .int .i64 0, .bool false, .int .i64 0, .int .i64 0, .int .i64 0, .int .i64 0, .int .i64 0, .int .i64 0, .int .i64 0, .bool false] 136 (w.heap.size) rfl
  generalize (w.alloc (.cells #[.int .i64 0, .int .i64 0, .string ⟨#[]⟩, .int .i64 0, .bool false, .int .i64 0, .int .i64 0, .int .i64 0, .int .i64 0, .int .i64 0, .int .i64 0, .int .i64 0, .bool false] 136)) = v0 at S_v0 ⊢
  have hz_v0 : w.heap.size < v0.heap.size := St.lt S_v0.out (x := (w.heap.size, #[.int .i64 0, .int .i64 0, .string ⟨#[]⟩, .int .i64 0, .bool false, .int .i64 0, .int .i64 0, .int .i64 0, .int .i64 0, .int .i64 0, .int .i64 0, .int .i64 0, .bool false], 136)) (by simp)
  go_wp2_with fail
  refine Calls.mono (cH.at _) ?_; rintro e w' ⟨rfl, hw⟩; replace hw := hw.symm; subst hw
  go_wp2_with fail
  refine Calls.mono (c2.at _) ?_; rintro e w' ⟨rfl, hw⟩; replace hw := hw.symm; subst hw
  go_wp2_with fail
  refine Calls.mono (cq.at _) ?_; rintro e w' ⟨rfl, hw⟩; replace hw := hw.symm; subst hw
  obtain ⟨q1, q5, q6⟩ := CB.out _ (St.below S_v0.out)
  have BD : Hid (Below w.heap.size w v0.drew) := (St.below S_v0.out).drew
  go_upto_block 0 with fail
  try go_frame
  go_cut [9, 10, 11, 12] (fun tv mv gv rv wx => tv = .int .i64 tt ∧ mv = .int .i64 mt ∧ gv = .string g ∧ rv = .string r ∧ St [(w.heap.size, #[.int .i64 0, .int .i64 0, .string ⟨#[]⟩, .int .i64 0, .bool false, .int .i64 0, .int .i64 0, .int .i64 0, .int .i64 0, .int .i64 0, .int .i64 0, .int .i64 0, .bool false], 136)] w wx)
  case first =>
    clear H CB
    cases b1
    · cases b2
      · have ht' : Hid (tt = 1) := HT.out
        have hm' : Hid (mt = om) := HM.out
        have CT : Hid _ := K3.out rfl rfl
        clear K1 K2 K3 HT HM
        go_wp2_with fail
        go_region_held (fun w' => w'.cell? ⟨b, 1, none⟩ = some (.int .i64 oa)) (first | (with_reducible assumption) | simp [*]) (first | (go_at_call 141; refine Calls.mono (c16.at _) ?_; rintro e w' ⟨rfl, hw⟩; replace hw := hw.symm; subst hw))
        go_wp2_with fail
        refine Calls.mono (CT.out _ BD.out) ?_; rintro e w1 ⟨rfl, hb1⟩
        go_wp2_with fail
        go_meet
        exact ⟨rint ht'.out.symm, rint hm'.out.symm, rfl, rfl, St.next (St.drew S_v0.out) hb1⟩
      · have ht' : Hid (tt = 0) := HT.out
        have hm' : Hid (mt = im) := HM.out
        have CT : Hid _ := K2.out rfl rfl
        clear K1 K2 K3 HT HM
        go_wp2_with fail
        go_region_held (fun w' => w'.cell? ⟨b, 1, none⟩ = some (.int .i64 oa)) (first | (with_reducible assumption) | simp [*]) (first | (go_at_call 141; refine Calls.mono (c16.at _) ?_; rintro e w' ⟨rfl, hw⟩; replace hw := hw.symm; subst hw))
        go_wp2_with fail
        refine Calls.mono (CT.out _ BD.out) ?_; rintro e w1 ⟨rfl, hb1⟩
        go_wp2_with fail
        go_meet
        exact ⟨rint ht'.out.symm, rint hm'.out.symm, rfl, rfl, St.next (St.drew S_v0.out) hb1⟩
    · have ht' : Hid (tt = 0) := HT.out
      have hm' : Hid (mt = im) := HM.out
      have CT : Hid _ := K1.out rfl
      clear K1 K2 K3 HT HM
      go_wp2_with fail
      refine Calls.mono (CT.out _ (St.below S_v0.out)) ?_; rintro e w1 ⟨rfl, hb1⟩
      go_wp2_with fail
      go_meet
      exact ⟨rint ht'.out.symm, rint hm'.out.symm, rfl, rfl, St.next S_v0.out hb1⟩
  case rest =>
    obtain ⟨rfl, rfl, rfl, rfl, hcut⟩ := hcut
    obtain ⟨w1, hw1⟩ : ∃ w1 : World, w1 = wc := ⟨_, rfl⟩
    subst hw1
    clear q1 q5 q6 K1 K2 K3 HT HM BD CB cH c2 cq c16 e1 e2
    have S_w1 : Hid (St [(w.heap.size, #[.int .i64 0, .int .i64 0, .string ⟨#[]⟩, .int .i64 0, .bool false, .int .i64 0, .int .i64 0, .int .i64 0, .int .i64 0, .int .i64 0, .int .i64 0, .int .i64 0, .bool false], 136)] w w1) := hcut
    clear S_v0
    have hz_w1 : w.heap.size < w1.heap.size := St.lt S_w1.out (x := (w.heap.size, #[.int .i64 0, .int .i64 0, .string ⟨#[]⟩, .int .i64 0, .bool false, .int .i64 0, .int .i64 0, .int .i64 0, .int .i64 0, .int .i64 0, .int .i64 0, .int .i64 0, .bool false], 136)) (by simp)
    clear hcut
    rcases H.out with h | h | h
    ·
      clear H
      obtain ⟨rfl, rfl⟩ := h
      have CR : Hid (∀ w, Calls Tryz.prog 148 #[.int .i64 8, .int .i64 2] w fun e' w' => e' = .returned (.agg #[.int .i64 8, .int .i64 0, .string ⟨#[]⟩, .int .i64 2, .bool false, .int .i64 0, .int .i64 0, .int .i64 0, .int .i64 0, .int .i64 0, .int .i64 0, .int .i64 0, .bool false]) ∧ Below w.heap.size w w') := fun w => refused_any 8 2 w
      go_wp2_with fail
      refine Calls.mono (CR.out _) ?_; rintro e w2 ⟨rfl, hb2⟩
      have S_w2 : Hid (St [(w.heap.size, #[.int .i64 0, .int .i64 0, .string ⟨#[]⟩, .int .i64 0, .bool false, .int .i64 0, .int .i64 0, .int .i64 0, .int .i64 0, .int .i64 0, .int .i64 0, .int .i64 0, .bool false], 136)] w w2) := St.next S_w1.out hb2
      clear S_w1 hb2
      have hz_w2 : w.heap.size < w2.heap.size := St.lt S_w2.out (x := (w.heap.size, #[.int .i64 0, .int .i64 0, .string ⟨#[]⟩, .int .i64 0, .bool false, .int .i64 0, .int .i64 0, .int .i64 0, .int .i64 0, .int .i64 0, .int .i64 0, .int .i64 0, .bool false], 136)) (by simp)
      rename_i KK hKK
      refine hKK _ _ ?_
      clear hKK
      clear KK
      refine lay_vd [.int .i64 8, .int .i64 0, .string ⟨#[]⟩, .int .i64 2, .bool false, .int .i64 0, .int .i64 0, .int .i64 0, .int .i64 0, .int .i64 0, .int .i64 0, .int .i64 0, .bool false] rfl (w.heap.size) (St.get S_w2.out 0 rfl) rfl rfl rfl (by simp [Value.oneCell']) rfl rfl ?_
      have HW : Hid ((w2.setCells (w.heap.size) 0 [.int .i64 8, .int .i64 0, .string ⟨#[]⟩, .int .i64 2, .bool false, .int .i64 0, .int .i64 0, .int .i64 0, .int .i64 0, .int .i64 0, .int .i64 0, .int .i64 0, .bool false]).heap[w.heap.size]? = some (.cells #[.int .i64 8, .int .i64 0, .string ⟨#[]⟩, .int .i64 2, .bool false, .int .i64 0, .int .i64 0, .int .i64 0, .int .i64 0, .int .i64 0, .int .i64 0, .int .i64 0, .bool false] 136 (0, 0))) := heap_setCells_all _ (St.get S_w2.out 0 rfl) rfl
      have HB : Hid (Below w.heap.size w (w2.setCells (w.heap.size) 0 [.int .i64 8, .int .i64 0, .string ⟨#[]⟩, .int .i64 2, .bool false, .int .i64 0, .int .i64 0, .int .i64 0, .int .i64 0, .int .i64 0, .int .i64 0, .int .i64 0, .bool false])) := (St.below S_w2.out).trans ((setCells_below (w.heap.size) _ 0 _).mono (Nat.le_refl _))
      generalize w2.setCells (w.heap.size) 0 [.int .i64 8, .int .i64 0, .string ⟨#[]⟩, .int .i64 2, .bool false, .int .i64 0, .int .i64 0, .int .i64 0, .int .i64 0, .int .i64 0, .int .i64 0, .int .i64 0, .bool false] = W at HW HB ⊢
      clear S_w2
      go_wp2
      exact bodyPost_ret (v := .agg #[.int .i64 8, .int .i64 0, .string ⟨#[]⟩, .int .i64 2, .bool false, .int .i64 0, .int .i64 0, .int .i64 0, .int .i64 0, .int .i64 0, .int .i64 0, .int .i64 0, .bool false]) (res_vd Tryz.results151 _ W (w.heap.size) [.int .i64 8, .int .i64 0, .string ⟨#[]⟩, .int .i64 2, .bool false, .int .i64 0, .int .i64 0, .int .i64 0, .int .i64 0, .int .i64 0, .int .i64 0, .int .i64 0, .bool false] rfl rfl HW.out) rfl ⟨rfl, HB.out⟩
    ·
      clear H
      obtain ⟨e, hg, ct, he, rfl⟩ := h
      have CR : Hid (∀ w, Calls Tryz.prog 148 #[.int .i64 e, .int .i64 2] w fun e' w' => e' = .returned (.agg #[.int .i64 e, .int .i64 0, .string ⟨#[]⟩, .int .i64 2, .bool false, .int .i64 0, .int .i64 0, .int .i64 0, .int .i64 0, .int .i64 0, .int .i64 0, .int .i64 0, .bool false]) ∧ Below w.heap.size w w') := fun w => refused_any e 2 w
      go_wp2_with fail
      refine Calls.mono (ct.at _) ?_; rintro e w' ⟨rfl, hw⟩; replace hw := hw.symm; subst hw
      go_wp2_with fail
      refine Calls.mono (CR.out _) ?_; rintro e w2 ⟨rfl, hb2⟩
      have S_w2 : Hid (St [(w.heap.size, #[.int .i64 0, .int .i64 0, .string ⟨#[]⟩, .int .i64 0, .bool false, .int .i64 0, .int .i64 0, .int .i64 0, .int .i64 0, .int .i64 0, .int .i64 0, .int .i64 0, .bool false], 136)] w w2) := St.next S_w1.out hb2
      clear S_w1 hb2
      have hz_w2 : w.heap.size < w2.heap.size := St.lt S_w2.out (x := (w.heap.size, #[.int .i64 0, .int .i64 0, .string ⟨#[]⟩, .int .i64 0, .bool false, .int .i64 0, .int .i64 0, .int .i64 0, .int .i64 0, .int .i64 0, .int .i64 0, .int .i64 0, .bool false], 136)) (by simp)
      rename_i KK hKK
      refine hKK _ _ ?_
      clear hKK
      clear KK
      refine lay_vd [.int .i64 e, .int .i64 0, .string ⟨#[]⟩, .int .i64 2, .bool false, .int .i64 0, .int .i64 0, .int .i64 0, .int .i64 0, .int .i64 0, .int .i64 0, .int .i64 0, .bool false] rfl (w.heap.size) (St.get S_w2.out 0 rfl) rfl rfl rfl (by simp [Value.oneCell']) rfl rfl ?_
      have HW : Hid ((w2.setCells (w.heap.size) 0 [.int .i64 e, .int .i64 0, .string ⟨#[]⟩, .int .i64 2, .bool false, .int .i64 0, .int .i64 0, .int .i64 0, .int .i64 0, .int .i64 0, .int .i64 0, .int .i64 0, .bool false]).heap[w.heap.size]? = some (.cells #[.int .i64 e, .int .i64 0, .string ⟨#[]⟩, .int .i64 2, .bool false, .int .i64 0, .int .i64 0, .int .i64 0, .int .i64 0, .int .i64 0, .int .i64 0, .int .i64 0, .bool false] 136 (0, 0))) := heap_setCells_all _ (St.get S_w2.out 0 rfl) rfl
      have HB : Hid (Below w.heap.size w (w2.setCells (w.heap.size) 0 [.int .i64 e, .int .i64 0, .string ⟨#[]⟩, .int .i64 2, .bool false, .int .i64 0, .int .i64 0, .int .i64 0, .int .i64 0, .int .i64 0, .int .i64 0, .int .i64 0, .bool false])) := (St.below S_w2.out).trans ((setCells_below (w.heap.size) _ 0 _).mono (Nat.le_refl _))
      generalize w2.setCells (w.heap.size) 0 [.int .i64 e, .int .i64 0, .string ⟨#[]⟩, .int .i64 2, .bool false, .int .i64 0, .int .i64 0, .int .i64 0, .int .i64 0, .int .i64 0, .int .i64 0, .int .i64 0, .bool false] = W at HW HB ⊢
      clear S_w2
      go_wp2
      exact bodyPost_ret (v := .agg #[.int .i64 e, .int .i64 0, .string ⟨#[]⟩, .int .i64 2, .bool false, .int .i64 0, .int .i64 0, .int .i64 0, .int .i64 0, .int .i64 0, .int .i64 0, .int .i64 0, .bool false]) (res_vd Tryz.results151 _ W (w.heap.size) [.int .i64 e, .int .i64 0, .string ⟨#[]⟩, .int .i64 2, .bool false, .int .i64 0, .int .i64 0, .int .i64 0, .int .i64 0, .int .i64 0, .int .i64 0, .int .i64 0, .bool false] rfl rfl HW.out) rfl ⟨rfl, HB.out⟩
    ·
      clear H
      obtain ⟨R, G, Z, hg, ct, cR, cW, cO, rfl⟩ := h
      go_wp2_with fail
      refine Calls.mono (ct.at _) ?_; rintro e w' ⟨rfl, hw⟩; replace hw := hw.symm; subst hw
      go_wp2_with fail
      refine Calls.mono (cR.at _) ?_; rintro e w2 ⟨rfl, hb2⟩
      have S_w2 : Hid (St [(w.heap.size, #[.int .i64 0, .int .i64 0, .string ⟨#[]⟩, .int .i64 0, .bool false, .int .i64 0, .int .i64 0, .int .i64 0, .int .i64 0, .int .i64 0, .int .i64 0, .int .i64 0, .bool false], 136)] w w2) := St.next S_w1.out hb2
      clear S_w1 hb2
      have hz_w2 : w.heap.size < w2.heap.size := St.lt S_w2.out (x := (w.heap.size, #[.int .i64 0, .int .i64 0, .string ⟨#[]⟩, .int .i64 0, .bool false, .int .i64 0, .int .i64 0, .int .i64 0, .int .i64 0, .int .i64 0, .int .i64 0, .int .i64 0, .bool false], 136)) (by simp)
      go_wp2_with fail
      refine Calls.mono (cW.at _) ?_; rintro e w' ⟨rfl, hw⟩; replace hw := hw.symm; subst hw
      go_wp2_with fail
      refine Calls.mono (cO.at _) ?_; rintro e w3 ⟨rfl, hb3⟩
      have S_w3 : Hid (St [(w.heap.size, #[.int .i64 0, .int .i64 0, .string ⟨#[]⟩, .int .i64 0, .bool false, .int .i64 0, .int .i64 0, .int .i64 0, .int .i64 0, .int .i64 0, .int .i64 0, .int .i64 0, .bool false], 136)] w w3) := St.next S_w2.out hb3
      clear S_w2 hb3
      have hz_w3 : w.heap.size < w3.heap.size := St.lt S_w3.out (x := (w.heap.size, #[.int .i64 0, .int .i64 0, .string ⟨#[]⟩, .int .i64 0, .bool false, .int .i64 0, .int .i64 0, .int .i64 0, .int .i64 0, .int .i64 0, .int .i64 0, .int .i64 0, .bool false], 136)) (by simp)
      go_wp2_with (first | (refine lay_vd [.int .i64 0, .int .i64 tt, .string Z, .int .i64 2, .bool false, .int .i64 0, .int .i64 0, .int .i64 0, .int .i64 0, .int .i64 0, .int .i64 0, .int .i64 0, .bool false] rfl (w.heap.size) (St.get S_w3.out 0 rfl) rfl rfl rfl (by simp [Value.oneCell']) rfl rfl ?_))
      have HW : Hid ((w3.setCells (w.heap.size) 0 [.int .i64 0, .int .i64 tt, .string Z, .int .i64 2, .bool false, .int .i64 0, .int .i64 0, .int .i64 0, .int .i64 0, .int .i64 0, .int .i64 0, .int .i64 0, .bool false]).heap[w.heap.size]? = some (.cells #[.int .i64 0, .int .i64 tt, .string Z, .int .i64 2, .bool false, .int .i64 0, .int .i64 0, .int .i64 0, .int .i64 0, .int .i64 0, .int .i64 0, .int .i64 0, .bool false] 136 (0, 0))) := heap_setCells_all _ (St.get S_w3.out 0 rfl) rfl
      have HB : Hid (Below w.heap.size w (w3.setCells (w.heap.size) 0 [.int .i64 0, .int .i64 tt, .string Z, .int .i64 2, .bool false, .int .i64 0, .int .i64 0, .int .i64 0, .int .i64 0, .int .i64 0, .int .i64 0, .int .i64 0, .bool false])) := (St.below S_w3.out).trans ((setCells_below (w.heap.size) _ 0 _).mono (Nat.le_refl _))
      generalize w3.setCells (w.heap.size) 0 [.int .i64 0, .int .i64 tt, .string Z, .int .i64 2, .bool false, .int .i64 0, .int .i64 0, .int .i64 0, .int .i64 0, .int .i64 0, .int .i64 0, .int .i64 0, .bool false] = W at HW HB ⊢
      clear S_w3
      go_wp2
      exact bodyPost_ret (v := .agg #[.int .i64 0, .int .i64 tt, .string Z, .int .i64 2, .bool false, .int .i64 0, .int .i64 0, .int .i64 0, .int .i64 0, .int .i64 0, .int .i64 0, .int .i64 0, .bool false]) (res_vd Tryz.results151 _ W (w.heap.size) [.int .i64 0, .int .i64 tt, .string Z, .int .i64 2, .bool false, .int .i64 0, .int .i64 0, .int .i64 0, .int .i64 0, .int .i64 0, .int .i64 0, .int .i64 0, .bool false] rfl rfl HW.out) rfl ⟨rfl, HB.out⟩

end Go.Proofs.YthiljpbodmajaabGreat
namespace Go.Proofs.YthiljpbodmajaabGreat
open Go.RowKit Plain
set_option linter.unusedVariables false

set_option maxHeartbeats 4000000 in
set_option maxRecDepth 2000 in
theorem rjudge_side (b : Nat) (s : ByteArray) (sd : Int) (w : World) (h0 : (sd != 0) = true) (h1 : (sd != 1) = true) :
    Calls Tryz.prog 95 #[.pointer (some ⟨b, 0, none⟩), .int .i64 sd, .string s] w fun r w' => r = .returned (.agg #[.int .i64 2, .int .i64 0, .string ⟨#[]⟩, .int .i64 0, .bool false, .int .i64 0, .int .i64 0, .int .i64 0, .int .i64 0, .int .i64 0, .int .i64 0, .int .i64 0, .bool false]) ∧ Below w.heap.size w w' := by
  have CR : Hid (∀ w, Calls Tryz.prog 148 #[.int .i64 2, .int .i64 0] w fun e' w' => e' = .returned (.agg #[.int .i64 2, .int .i64 0, .string ⟨#[]⟩, .int .i64 0, .bool false, .int .i64 0, .int .i64 0, .int .i64 0, .int .i64 0, .int .i64 0, .int .i64 0, .int .i64 0, .bool false]) ∧ Below w.heap.size w w') := fun w => refused_any 2 0 w
  go_enter Tryz.func95, Tryz.ntmps95
  go_upto_region 1 with fail
  have S_v0 : Hid (St [(w.heap.size, #[.int .i64 0, .int .i64 0, .string ⟨#[]⟩, .int .i64 0, .bool false, .int .i64 0, .int .i64 0, .int .i64 0, .int .i64 0, .int .i64 0, .int .i64 0, .int .i64 0, .bool false], 136)] w (w.alloc (.cells #[.int .i64 0, .int .i64 0, .string ⟨#[]⟩, .int .i64 0, .bool false, .int .i64 0, .int .i64 0, .int .i64 0, .int .i64 0, .int .i64 0, .int .i64 0, .int .i64 0, .bool false] 136))) := St.alloc (St.start w) #[.int .i64 0, .int .i64 0, .string ⟨#[]⟩, .int .i64 0, .bool false, .int .i64 0, .int .i64 0, .int .i64 0, .int .i64 0, .int .i64 0, .int .i64 0, .int .i64 0, .bool false] 136 (w.heap.size) rfl
  generalize (w.alloc (.cells #[.int .i64 0, .int .i64 0, .string ⟨#[]⟩, .int .i64 0, .bool false, .int .i64 0, .int .i64 0, .int .i64 0, .int .i64 0, .int .i64 0, .int .i64 0, .int .i64 0, .bool false] 136)) = v0 at S_v0 ⊢
  have hz_v0 : w.heap.size < v0.heap.size := St.lt S_v0.out (x := (w.heap.size, #[.int .i64 0, .int .i64 0, .string ⟨#[]⟩, .int .i64 0, .bool false, .int .i64 0, .int .i64 0, .int .i64 0, .int .i64 0, .int .i64 0, .int .i64 0, .int .i64 0, .bool false], 136)) (by simp)
  go_wp2_with fail
  refine Calls.mono (CR.out _) ?_; rintro e w1 ⟨rfl, hb1⟩
  have S_w1 : Hid (St [(w.heap.size, #[.int .i64 0, .int .i64 0, .string ⟨#[]⟩, .int .i64 0, .bool false, .int .i64 0, .int .i64 0, .int .i64 0, .int .i64 0, .int .i64 0, .int .i64 0, .int .i64 0, .bool false], 136)] w w1) := St.next S_v0.out hb1
  clear S_v0 hb1
  have hz_w1 : w.heap.size < w1.heap.size := St.lt S_w1.out (x := (w.heap.size, #[.int .i64 0, .int .i64 0, .string ⟨#[]⟩, .int .i64 0, .bool false, .int .i64 0, .int .i64 0, .int .i64 0, .int .i64 0, .int .i64 0, .int .i64 0, .int .i64 0, .bool false], 136)) (by simp)
  rename_i KK hKK
  refine hKK _ _ ?_
  clear hKK
  clear KK
  refine lay_vd [.int .i64 2, .int .i64 0, .string ⟨#[]⟩, .int .i64 0, .bool false, .int .i64 0, .int .i64 0, .int .i64 0, .int .i64 0, .int .i64 0, .int .i64 0, .int .i64 0, .bool false] rfl (w.heap.size) (St.get S_w1.out 0 rfl) rfl rfl rfl (by simp [Value.oneCell']) rfl rfl ?_
  have HW : Hid ((w1.setCells (w.heap.size) 0 [.int .i64 2, .int .i64 0, .string ⟨#[]⟩, .int .i64 0, .bool false, .int .i64 0, .int .i64 0, .int .i64 0, .int .i64 0, .int .i64 0, .int .i64 0, .int .i64 0, .bool false]).heap[w.heap.size]? = some (.cells #[.int .i64 2, .int .i64 0, .string ⟨#[]⟩, .int .i64 0, .bool false, .int .i64 0, .int .i64 0, .int .i64 0, .int .i64 0, .int .i64 0, .int .i64 0, .int .i64 0, .bool false] 136 (0, 0))) := heap_setCells_all _ (St.get S_w1.out 0 rfl) rfl
  have HB : Hid (Below w.heap.size w (w1.setCells (w.heap.size) 0 [.int .i64 2, .int .i64 0, .string ⟨#[]⟩, .int .i64 0, .bool false, .int .i64 0, .int .i64 0, .int .i64 0, .int .i64 0, .int .i64 0, .int .i64 0, .int .i64 0, .bool false])) := (St.below S_w1.out).trans ((setCells_below (w.heap.size) _ 0 _).mono (Nat.le_refl _))
  generalize w1.setCells (w.heap.size) 0 [.int .i64 2, .int .i64 0, .string ⟨#[]⟩, .int .i64 0, .bool false, .int .i64 0, .int .i64 0, .int .i64 0, .int .i64 0, .int .i64 0, .int .i64 0, .int .i64 0, .bool false] = W at HW HB ⊢
  clear S_w1
  go_wp2
  exact bodyPost_ret (v := .agg #[.int .i64 2, .int .i64 0, .string ⟨#[]⟩, .int .i64 0, .bool false, .int .i64 0, .int .i64 0, .int .i64 0, .int .i64 0, .int .i64 0, .int .i64 0, .int .i64 0, .bool false]) (res_vd Tryz.results95 _ W (w.heap.size) [.int .i64 2, .int .i64 0, .string ⟨#[]⟩, .int .i64 0, .bool false, .int .i64 0, .int .i64 0, .int .i64 0, .int .i64 0, .int .i64 0, .int .i64 0, .int .i64 0, .bool false] rfl rfl HW.out) rfl ⟨rfl, HB.out⟩

set_option maxHeartbeats 4000000 in
set_option maxRecDepth 2000 in
theorem rjudge_check0 (b : Nat) (s : ByteArray) (e : Int) (w : World) (cc : RetB 94 #[.string s] (.int .i64 e)) (he : (e != 0) = true) :
    Calls Tryz.prog 95 #[.pointer (some ⟨b, 0, none⟩), .int .i64 0, .string s] w fun r w' => r = .returned (.agg #[.int .i64 e, .int .i64 0, .string ⟨#[]⟩, .int .i64 0, .bool false, .int .i64 0, .int .i64 0, .int .i64 0, .int .i64 0, .int .i64 0, .int .i64 0, .int .i64 0, .bool false]) ∧ Below w.heap.size w w' := by
  have CR : Hid (∀ w, Calls Tryz.prog 148 #[.int .i64 e, .int .i64 0] w fun e' w' => e' = .returned (.agg #[.int .i64 e, .int .i64 0, .string ⟨#[]⟩, .int .i64 0, .bool false, .int .i64 0, .int .i64 0, .int .i64 0, .int .i64 0, .int .i64 0, .int .i64 0, .int .i64 0, .bool false]) ∧ Below w.heap.size w w') := fun w => refused_any e 0 w
  go_enter Tryz.func95, Tryz.ntmps95
  go_upto_region 1 with fail
  have S_v0 : Hid (St [(w.heap.size, #[.int .i64 0, .int .i64 0, .string ⟨#[]⟩, .int .i64 0, .bool false, .int .i64 0, .int .i64 0, .int .i64 0, .int .i64 0, .int .i64 0, .int .i64 0, .int .i64 0, .bool false], 136)] w (w.alloc (.cells #[.int .i64 0, .int .i64 0, .string ⟨#[]⟩, .int .i64 0, .bool false, .int .i64 0, .int .i64 0, .int .i64 0, .int .i64 0, .int .i64 0, .int .i64 0, .int .i64 0, .bool false] 136))) := St.alloc (St.start w) #[.int .i64 0, .int .i64 0, .string ⟨#[]⟩, .int .i64 0, .bool false, .int .i64 0, .int .i64 0, .int .i64 0, .int .i64 0, .int .i64 0, .int .i64 0, .int .i64 0, .bool false] 136 (w.heap.size) rfl
  generalize (w.alloc (.cells #[.int .i64 0, .int .i64 0, .string ⟨#[]⟩, .int .i64 0, .bool false, .int .i64 0, .int .i64 0, .int .i64 0, .int .i64 0, .int .i64 0, .int .i64 0, .int .i64 0, .bool false] 136)) = v0 at S_v0 ⊢
  have hz_v0 : w.heap.size < v0.heap.size := St.lt S_v0.out (x := (w.heap.size, #[.int .i64 0, .int .i64 0, .string ⟨#[]⟩, .int .i64 0, .bool false, .int .i64 0, .int .i64 0, .int .i64 0, .int .i64 0, .int .i64 0, .int .i64 0, .int .i64 0, .bool false], 136)) (by simp)
  go_wp2_with fail
  refine Calls.mono (cc.at _) ?_; rintro e w1 ⟨rfl, hb1⟩
  have S_w1 : Hid (St [(w.heap.size, #[.int .i64 0, .int .i64 0, .string ⟨#[]⟩, .int .i64 0, .bool false, .int .i64 0, .int .i64 0, .int .i64 0, .int .i64 0, .int .i64 0, .int .i64 0, .int .i64 0, .bool false], 136)] w w1) := St.next S_v0.out hb1
  clear S_v0 hb1
  have hz_w1 : w.heap.size < w1.heap.size := St.lt S_w1.out (x := (w.heap.size, #[.int .i64 0, .int .i64 0, .string ⟨#[]⟩, .int .i64 0, .bool false, .int .i64 0, .int .i64 0, .int .i64 0, .int .i64 0, .int .i64 0, .int .i64 0, .int .i64 0, .bool false], 136)) (by simp)
  go_wp2_with fail
  refine Calls.mono (CR.out _) ?_; rintro e w2 ⟨rfl, hb2⟩
  have S_w2 : Hid (St [(w.heap.size, #[.int .i64 0, .int .i64 0, .string ⟨#[]⟩, .int .i64 0, .bool false, .int .i64 0, .int .i64 0, .int .i64 0, .int .i64 0, .int .i64 0, .int .i64 0, .int .i64 0, .bool false], 136)] w w2) := St.next S_w1.out hb2
  clear S_w1 hb2
  have hz_w2 : w.heap.size < w2.heap.size := St.lt S_w2.out (x := (w.heap.size, #[.int .i64 0, .int .i64 0, .string ⟨#[]⟩, .int .i64 0, .bool false, .int .i64 0, .int .i64 0, .int .i64 0, .int .i64 0, .int .i64 0, .int .i64 0, .int .i64 0, .bool false], 136)) (by simp)
  rename_i KK hKK
  refine hKK _ _ ?_
  clear hKK
  clear KK
  refine lay_vd [.int .i64 e, .int .i64 0, .string ⟨#[]⟩, .int .i64 0, .bool false, .int .i64 0, .int .i64 0, .int .i64 0, .int .i64 0, .int .i64 0, .int .i64 0, .int .i64 0, .bool false] rfl (w.heap.size) (St.get S_w2.out 0 rfl) rfl rfl rfl (by simp [Value.oneCell']) rfl rfl ?_
  have HW : Hid ((w2.setCells (w.heap.size) 0 [.int .i64 e, .int .i64 0, .string ⟨#[]⟩, .int .i64 0, .bool false, .int .i64 0, .int .i64 0, .int .i64 0, .int .i64 0, .int .i64 0, .int .i64 0, .int .i64 0, .bool false]).heap[w.heap.size]? = some (.cells #[.int .i64 e, .int .i64 0, .string ⟨#[]⟩, .int .i64 0, .bool false, .int .i64 0, .int .i64 0, .int .i64 0, .int .i64 0, .int .i64 0, .int .i64 0, .int .i64 0, .bool false] 136 (0, 0))) := heap_setCells_all _ (St.get S_w2.out 0 rfl) rfl
  have HB : Hid (Below w.heap.size w (w2.setCells (w.heap.size) 0 [.int .i64 e, .int .i64 0, .string ⟨#[]⟩, .int .i64 0, .bool false, .int .i64 0, .int .i64 0, .int .i64 0, .int .i64 0, .int .i64 0, .int .i64 0, .int .i64 0, .bool false])) := (St.below S_w2.out).trans ((setCells_below (w.heap.size) _ 0 _).mono (Nat.le_refl _))
  generalize w2.setCells (w.heap.size) 0 [.int .i64 e, .int .i64 0, .string ⟨#[]⟩, .int .i64 0, .bool false, .int .i64 0, .int .i64 0, .int .i64 0, .int .i64 0, .int .i64 0, .int .i64 0, .int .i64 0, .bool false] = W at HW HB ⊢
  clear S_w2
  go_wp2
  exact bodyPost_ret (v := .agg #[.int .i64 e, .int .i64 0, .string ⟨#[]⟩, .int .i64 0, .bool false, .int .i64 0, .int .i64 0, .int .i64 0, .int .i64 0, .int .i64 0, .int .i64 0, .int .i64 0, .bool false]) (res_vd Tryz.results95 _ W (w.heap.size) [.int .i64 e, .int .i64 0, .string ⟨#[]⟩, .int .i64 0, .bool false, .int .i64 0, .int .i64 0, .int .i64 0, .int .i64 0, .int .i64 0, .int .i64 0, .int .i64 0, .bool false] rfl rfl HW.out) rfl ⟨rfl, HB.out⟩

set_option maxHeartbeats 4000000 in
set_option maxRecDepth 2000 in
theorem rjudge_bar0 (b : Nat) (s : ByteArray) (e : Int) (w : World) (cc : RetB 94 #[.string s] (.int .i64 0)) (cb : ∀ wx, Below w.heap.size w wx → Calls Tryz.prog 149 #[.pointer (some ⟨b, 0, none⟩), .int .i64 0, .string s] wx fun e' w' => e' = .returned (.int .i64 e) ∧ w' = wx) (he : (e != 0) = true) :
    Calls Tryz.prog 95 #[.pointer (some ⟨b, 0, none⟩), .int .i64 0, .string s] w fun r w' => r = .returned (.agg #[.int .i64 e, .int .i64 0, .string ⟨#[]⟩, .int .i64 0, .bool false, .int .i64 0, .int .i64 0, .int .i64 0, .int .i64 0, .int .i64 0, .int .i64 0, .int .i64 0, .bool false]) ∧ Below w.heap.size w w' := by
  have CR : Hid (∀ w, Calls Tryz.prog 148 #[.int .i64 e, .int .i64 0] w fun e' w' => e' = .returned (.agg #[.int .i64 e, .int .i64 0, .string ⟨#[]⟩, .int .i64 0, .bool false, .int .i64 0, .int .i64 0, .int .i64 0, .int .i64 0, .int .i64 0, .int .i64 0, .int .i64 0, .bool false]) ∧ Below w.heap.size w w') := fun w => refused_any e 0 w
  have CB : Hid _ := cb
  clear cb
  go_enter Tryz.func95, Tryz.ntmps95
  go_upto_region 1 with fail
  have S_v0 : Hid (St [(w.heap.size, #[.int .i64 0, .int .i64 0, .string ⟨#[]⟩, .int .i64 0, .bool false, .int .i64 0, .int .i64 0, .int .i64 0, .int .i64 0, .int .i64 0, .int .i64 0, .int .i64 0, .bool false], 136)] w (w.alloc (.cells #[.int .i64 0, .int .i64 0, .string ⟨#[]⟩, .int .i64 0, .bool false, .int .i64 0, .int .i64 0, .int .i64 0, .int .i64 0, .int .i64 0, .int .i64 0, .int .i64 0, .bool false] 136))) := St.alloc (St.start w) #[.int .i64 0, .int .i64 0, .string ⟨#[]⟩, .int .i64 0, .bool false, .int .i64 0, .int .i64 0, .int .i64 0, .int .i64 0, .int .i64 0, .int .i64 0, .int .i64 0, .bool false] 136 (w.heap.size) rfl
  generalize (w.alloc (.cells #[.int .i64 0, .int .i64 0, .string ⟨#[]⟩, .int .i64 0, .bool false, .int .i64 0, .int .i64 0, .int .i64 0, .int .i64 0, .int .i64 0, .int .i64 0, .int .i64 0, .bool false] 136)) = v0 at S_v0 ⊢
  have hz_v0 : w.heap.size < v0.heap.size := St.lt S_v0.out (x := (w.heap.size, #[.int .i64 0, .int .i64 0, .string ⟨#[]⟩, .int .i64 0, .bool false, .int .i64 0, .int .i64 0, .int .i64 0, .int .i64 0, .int .i64 0, .int .i64 0, .int .i64 0, .bool false], 136)) (by simp)
  go_wp2_with fail
  refine Calls.mono (cc.at _) ?_; rintro e w1 ⟨rfl, hb1⟩
  have S_w1 : Hid (St [(w.heap.size, #[.int .i64 0, .int .i64 0, .string ⟨#[]⟩, .int .i64 0, .bool false, .int .i64 0, .int .i64 0, .int .i64 0, .int .i64 0, .int .i64 0, .int .i64 0, .int .i64 0, .bool false], 136)] w w1) := St.next S_v0.out hb1
  clear S_v0 hb1
  have hz_w1 : w.heap.size < w1.heap.size := St.lt S_w1.out (x := (w.heap.size, #[.int .i64 0, .int .i64 0, .string ⟨#[]⟩, .int .i64 0, .bool false, .int .i64 0, .int .i64 0, .int .i64 0, .int .i64 0, .int .i64 0, .int .i64 0, .int .i64 0, .bool false], 136)) (by simp)
  go_wp2_with fail
  refine Calls.mono (CB.out _ (St.below S_w1.out)) ?_; rintro e w' ⟨rfl, hw⟩; replace hw := hw.symm; subst hw
  go_wp2_with fail
  refine Calls.mono (CR.out _) ?_; rintro e w2 ⟨rfl, hb2⟩
  have S_w2 : Hid (St [(w.heap.size, #[.int .i64 0, .int .i64 0, .string ⟨#[]⟩, .int .i64 0, .bool false, .int .i64 0, .int .i64 0, .int .i64 0, .int .i64 0, .int .i64 0, .int .i64 0, .int .i64 0, .bool false], 136)] w w2) := St.next S_w1.out hb2
  clear S_w1 hb2
  have hz_w2 : w.heap.size < w2.heap.size := St.lt S_w2.out (x := (w.heap.size, #[.int .i64 0, .int .i64 0, .string ⟨#[]⟩, .int .i64 0, .bool false, .int .i64 0, .int .i64 0, .int .i64 0, .int .i64 0, .int .i64 0, .int .i64 0, .int .i64 0, .bool false], 136)) (by simp)
  rename_i KK hKK
  refine hKK _ _ ?_
  clear hKK
  clear KK
  refine lay_vd [.int .i64 e, .int .i64 0, .string ⟨#[]⟩, .int .i64 0, .bool false, .int .i64 0, .int .i64 0, .int .i64 0, .int .i64 0, .int .i64 0, .int .i64 0, .int .i64 0, .bool false] rfl (w.heap.size) (St.get S_w2.out 0 rfl) rfl rfl rfl (by simp [Value.oneCell']) rfl rfl ?_
  have HW : Hid ((w2.setCells (w.heap.size) 0 [.int .i64 e, .int .i64 0, .string ⟨#[]⟩, .int .i64 0, .bool false, .int .i64 0, .int .i64 0, .int .i64 0, .int .i64 0, .int .i64 0, .int .i64 0, .int .i64 0, .bool false]).heap[w.heap.size]? = some (.cells #[.int .i64 e, .int .i64 0, .string ⟨#[]⟩, .int .i64 0, .bool false, .int .i64 0, .int .i64 0, .int .i64 0, .int .i64 0, .int .i64 0, .int .i64 0, .int .i64 0, .bool false] 136 (0, 0))) := heap_setCells_all _ (St.get S_w2.out 0 rfl) rfl
  have HB : Hid (Below w.heap.size w (w2.setCells (w.heap.size) 0 [.int .i64 e, .int .i64 0, .string ⟨#[]⟩, .int .i64 0, .bool false, .int .i64 0, .int .i64 0, .int .i64 0, .int .i64 0, .int .i64 0, .int .i64 0, .int .i64 0, .bool false])) := (St.below S_w2.out).trans ((setCells_below (w.heap.size) _ 0 _).mono (Nat.le_refl _))
  generalize w2.setCells (w.heap.size) 0 [.int .i64 e, .int .i64 0, .string ⟨#[]⟩, .int .i64 0, .bool false, .int .i64 0, .int .i64 0, .int .i64 0, .int .i64 0, .int .i64 0, .int .i64 0, .int .i64 0, .bool false] = W at HW HB ⊢
  clear S_w2
  go_wp2
  exact bodyPost_ret (v := .agg #[.int .i64 e, .int .i64 0, .string ⟨#[]⟩, .int .i64 0, .bool false, .int .i64 0, .int .i64 0, .int .i64 0, .int .i64 0, .int .i64 0, .int .i64 0, .int .i64 0, .bool false]) (res_vd Tryz.results95 _ W (w.heap.size) [.int .i64 e, .int .i64 0, .string ⟨#[]⟩, .int .i64 0, .bool false, .int .i64 0, .int .i64 0, .int .i64 0, .int .i64 0, .int .i64 0, .int .i64 0, .int .i64 0, .bool false] rfl rfl HW.out) rfl ⟨rfl, HB.out⟩

set_option maxHeartbeats 4000000 in
set_option maxRecDepth 2000 in
theorem rjudge_go0 (b : Nat) (s : ByteArray) (w : World) (cc : RetB 94 #[.string s] (.int .i64 0)) (cb : ∀ wx, Below w.heap.size w wx → Calls Tryz.prog 149 #[.pointer (some ⟨b, 0, none⟩), .int .i64 0, .string s] wx fun e' w' => e' = .returned (.int .i64 0) ∧ w' = wx) (cm : Ret 150 #[.string s] (.bool false)) (a0 a1 : Int) (a2 : ByteArray) (a3 : Int) (a4 : Bool) (a5 a6 a7 a8 a9 a10 a11 : Int) (a12 : Bool) (cx : ∀ wx, Below w.heap.size w wx → Calls Tryz.prog 153 #[.pointer (some ⟨b, 0, none⟩), .string s] wx fun r w' => r = .returned (.agg #[.int .i64 a0, .int .i64 a1, .string a2, .int .i64 a3, .bool a4, .int .i64 a5, .int .i64 a6, .int .i64 a7, .int .i64 a8, .int .i64 a9, .int .i64 a10, .int .i64 a11, .bool a12]) ∧ Below wx.heap.size wx w') :
    Calls Tryz.prog 95 #[.pointer (some ⟨b, 0, none⟩), .int .i64 0, .string s] w fun r w' => r = .returned (.agg #[.int .i64 a0, .int .i64 a1, .string a2, .int .i64 a3, .bool a4, .int .i64 a5, .int .i64 a6, .int .i64 a7, .int .i64 a8, .int .i64 a9, .int .i64 a10, .int .i64 a11, .bool a12]) ∧ Below w.heap.size w w' := by
  have CB : Hid _ := cb
  have CX : Hid _ := cx
  clear cb cx
  go_enter Tryz.func95, Tryz.ntmps95
  go_upto_region 1 with fail
  have S_v0 : Hid (St [(w.heap.size, #[.int .i64 0, .int .i64 0, .string ⟨#[]⟩, .int .i64 0, .bool false, .int .i64 0, .int .i64 0, .int .i64 0, .int .i64 0, .int .i64 0, .int .i64 0, .int .i64 0, .bool false], 136)] w (w.alloc (.cells #[.int .i64 0, .int .i64 0, .string ⟨#[]⟩, .int .i64 0, .bool false, .int .i64 0, .int .i64 0, .int .i64 0, .int .i64 0, .int .i64 0, .int .i64 0, .int .i64 0, .bool false] 136))) := St.alloc (St.start w) #[.int .i64 0, .int .i64 0, .string ⟨#[]⟩, .int .i64 0, .bool false, .int .i64 0, .int .i64 0, .int .i64 0, .int .i64 0, .int .i64 0, .int .i64 0, .int .i64 0, .bool false] 136 (w.heap.size) rfl
  generalize (w.alloc (.cells #[.int .i64 0, .int .i64 0, .string ⟨#[]⟩, .int .i64 0, .bool false, .int .i64 0, .int .i64 0, .int .i64 0, .int .i64 0, .int .i64 0, .int .i64 0, .int .i64 0, .bool false] 136)) = v0 at S_v0 ⊢
  have hz_v0 : w.heap.size < v0.heap.size := St.lt S_v0.out (x := (w.heap.size, #[.int .i64 0, .int .i64 0, .string ⟨#[]⟩, .int .i64 0, .bool false, .int .i64 0, .int .i64 0, .int .i64 0, .int .i64 0, .int .i64 0, .int .i64 0, .int .i64 0, .bool false], 136)) (by simp)
  go_wp2_with fail
  refine Calls.mono (cc.at _) ?_; rintro e w1 ⟨rfl, hb1⟩
  have S_w1 : Hid (St [(w.heap.size, #[.int .i64 0, .int .i64 0, .string ⟨#[]⟩, .int .i64 0, .bool false, .int .i64 0, .int .i64 0, .int .i64 0, .int .i64 0, .int .i64 0, .int .i64 0, .int .i64 0, .bool false], 136)] w w1) := St.next S_v0.out hb1
  clear S_v0 hb1
  have hz_w1 : w.heap.size < w1.heap.size := St.lt S_w1.out (x := (w.heap.size, #[.int .i64 0, .int .i64 0, .string ⟨#[]⟩, .int .i64 0, .bool false, .int .i64 0, .int .i64 0, .int .i64 0, .int .i64 0, .int .i64 0, .int .i64 0, .int .i64 0, .bool false], 136)) (by simp)
  go_wp2_with fail
  refine Calls.mono (CB.out _ (St.below S_w1.out)) ?_; rintro e w' ⟨rfl, hw⟩; replace hw := hw.symm; subst hw
  go_wp2_with fail
  refine Calls.mono (cm.at _) ?_; rintro e w' ⟨rfl, hw⟩; replace hw := hw.symm; subst hw
  go_wp2_with fail
  refine Calls.mono (CX.out _ (St.below S_w1.out)) ?_; rintro e w2 ⟨rfl, hb2⟩
  have S_w2 : Hid (St [(w.heap.size, #[.int .i64 0, .int .i64 0, .string ⟨#[]⟩, .int .i64 0, .bool false, .int .i64 0, .int .i64 0, .int .i64 0, .int .i64 0, .int .i64 0, .int .i64 0, .int .i64 0, .bool false], 136)] w w2) := St.next S_w1.out hb2
  clear S_w1 hb2
  have hz_w2 : w.heap.size < w2.heap.size := St.lt S_w2.out (x := (w.heap.size, #[.int .i64 0, .int .i64 0, .string ⟨#[]⟩, .int .i64 0, .bool false, .int .i64 0, .int .i64 0, .int .i64 0, .int .i64 0, .int .i64 0, .int .i64 0, .int .i64 0, .bool false], 136)) (by simp)
  rename_i KK hKK
  refine hKK _ _ ?_
  clear hKK
  clear KK
  refine lay_vd [.int .i64 a0, .int .i64 a1, .string a2, .int .i64 a3, .bool a4, .int .i64 a5, .int .i64 a6, .int .i64 a7, .int .i64 a8, .int .i64 a9, .int .i64 a10, .int .i64 a11, .bool a12] rfl (w.heap.size) (St.get S_w2.out 0 rfl) rfl rfl rfl (by simp [Value.oneCell']) rfl rfl ?_
  have HW : Hid ((w2.setCells (w.heap.size) 0 [.int .i64 a0, .int .i64 a1, .string a2, .int .i64 a3, .bool a4, .int .i64 a5, .int .i64 a6, .int .i64 a7, .int .i64 a8, .int .i64 a9, .int .i64 a10, .int .i64 a11, .bool a12]).heap[w.heap.size]? = some (.cells #[.int .i64 a0, .int .i64 a1, .string a2, .int .i64 a3, .bool a4, .int .i64 a5, .int .i64 a6, .int .i64 a7, .int .i64 a8, .int .i64 a9, .int .i64 a10, .int .i64 a11, .bool a12] 136 (0, 0))) := heap_setCells_all _ (St.get S_w2.out 0 rfl) rfl
  have HB : Hid (Below w.heap.size w (w2.setCells (w.heap.size) 0 [.int .i64 a0, .int .i64 a1, .string a2, .int .i64 a3, .bool a4, .int .i64 a5, .int .i64 a6, .int .i64 a7, .int .i64 a8, .int .i64 a9, .int .i64 a10, .int .i64 a11, .bool a12])) := (St.below S_w2.out).trans ((setCells_below (w.heap.size) _ 0 _).mono (Nat.le_refl _))
  generalize w2.setCells (w.heap.size) 0 [.int .i64 a0, .int .i64 a1, .string a2, .int .i64 a3, .bool a4, .int .i64 a5, .int .i64 a6, .int .i64 a7, .int .i64 a8, .int .i64 a9, .int .i64 a10, .int .i64 a11, .bool a12] = W at HW HB ⊢
  clear S_w2
  go_wp2
  exact bodyPost_ret (v := .agg #[.int .i64 a0, .int .i64 a1, .string a2, .int .i64 a3, .bool a4, .int .i64 a5, .int .i64 a6, .int .i64 a7, .int .i64 a8, .int .i64 a9, .int .i64 a10, .int .i64 a11, .bool a12]) (res_vd Tryz.results95 _ W (w.heap.size) [.int .i64 a0, .int .i64 a1, .string a2, .int .i64 a3, .bool a4, .int .i64 a5, .int .i64 a6, .int .i64 a7, .int .i64 a8, .int .i64 a9, .int .i64 a10, .int .i64 a11, .bool a12] rfl rfl HW.out) rfl ⟨rfl, HB.out⟩

set_option maxHeartbeats 4000000 in
set_option maxRecDepth 2000 in
theorem rjudge_msg0 (b : Nat) (s : ByteArray) (w : World) (cc : RetB 94 #[.string s] (.int .i64 0)) (cb : ∀ wx, Below w.heap.size w wx → Calls Tryz.prog 149 #[.pointer (some ⟨b, 0, none⟩), .int .i64 0, .string s] wx fun e' w' => e' = .returned (.int .i64 0) ∧ w' = wx) (cm : Ret 150 #[.string s] (.bool true)) (a0 a1 : Int) (a2 : ByteArray) (a3 : Int) (a4 : Bool) (a5 a6 a7 a8 a9 a10 a11 : Int) (a12 : Bool) (cx : ∀ wx, Below w.heap.size w wx → Calls Tryz.prog 151 #[.pointer (some ⟨b, 0, none⟩), .int .i64 0, .string s] wx fun r w' => r = .returned (.agg #[.int .i64 a0, .int .i64 a1, .string a2, .int .i64 a3, .bool a4, .int .i64 a5, .int .i64 a6, .int .i64 a7, .int .i64 a8, .int .i64 a9, .int .i64 a10, .int .i64 a11, .bool a12]) ∧ Below wx.heap.size wx w') :
    Calls Tryz.prog 95 #[.pointer (some ⟨b, 0, none⟩), .int .i64 0, .string s] w fun r w' => r = .returned (.agg #[.int .i64 a0, .int .i64 a1, .string a2, .int .i64 a3, .bool a4, .int .i64 a5, .int .i64 a6, .int .i64 a7, .int .i64 a8, .int .i64 a9, .int .i64 a10, .int .i64 a11, .bool a12]) ∧ Below w.heap.size w w' := by
  have CB : Hid _ := cb
  have CX : Hid _ := cx
  clear cb cx
  go_enter Tryz.func95, Tryz.ntmps95
  go_upto_region 1 with fail
  have S_v0 : Hid (St [(w.heap.size, #[.int .i64 0, .int .i64 0, .string ⟨#[]⟩, .int .i64 0, .bool false, .int .i64 0, .int .i64 0, .int .i64 0, .int .i64 0, .int .i64 0, .int .i64 0, .int .i64 0, .bool false], 136)] w (w.alloc (.cells #[.int .i64 0, .int .i64 0, .string ⟨#[]⟩, .int .i64 0, .bool false, .int .i64 0, .int .i64 0, .int .i64 0, .int .i64 0, .int .i64 0, .int .i64 0, .int .i64 0, .bool false] 136))) := St.alloc (St.start w) #[.int .i64 0, .int .i64 0, .string ⟨#[]⟩, .int .i64 0, .bool false, .int .i64 0, .int .i64 0, .int .i64 0, .int .i64 0, .int .i64 0, .int .i64 0, .int .i64 0, .bool false] 136 (w.heap.size) rfl
  generalize (w.alloc (.cells #[.int .i64 0, .int .i64 0, .string ⟨#[]⟩, .int .i64 0, .bool false, .int .i64 0, .int .i64 0, .int .i64 0, .int .i64 0, .int .i64 0, .int .i64 0, .int .i64 0, .bool false] 136)) = v0 at S_v0 ⊢
  have hz_v0 : w.heap.size < v0.heap.size := St.lt S_v0.out (x := (w.heap.size, #[.int .i64 0, .int .i64 0, .string ⟨#[]⟩, .int .i64 0, .bool false, .int .i64 0, .int .i64 0, .int .i64 0, .int .i64 0, .int .i64 0, .int .i64 0, .int .i64 0, .bool false], 136)) (by simp)
  go_wp2_with fail
  refine Calls.mono (cc.at _) ?_; rintro e w1 ⟨rfl, hb1⟩
  have S_w1 : Hid (St [(w.heap.size, #[.int .i64 0, .int .i64 0, .string ⟨#[]⟩, .int .i64 0, .bool false, .int .i64 0, .int .i64 0, .int .i64 0, .int .i64 0, .int .i64 0, .int .i64 0, .int .i64 0, .bool false], 136)] w w1) := St.next S_v0.out hb1
  clear S_v0 hb1
  have hz_w1 : w.heap.size < w1.heap.size := St.lt S_w1.out (x := (w.heap.size, #[.int .i64 0, .int .i64 0, .string ⟨#[]⟩, .int .i64 0, .bool false, .int .i64 0, .int .i64 0, .int .i64 0, .int .i64 0, .int .i64 0, .int .i64 0, .int .i64 0, .bool false], 136)) (by simp)
  go_wp2_with fail
  refine Calls.mono (CB.out _ (St.below S_w1.out)) ?_; rintro e w' ⟨rfl, hw⟩; replace hw := hw.symm; subst hw
  go_wp2_with fail
  refine Calls.mono (cm.at _) ?_; rintro e w' ⟨rfl, hw⟩; replace hw := hw.symm; subst hw
  go_wp2_with fail
  refine Calls.mono (CX.out _ (St.below S_w1.out)) ?_; rintro e w2 ⟨rfl, hb2⟩
  have S_w2 : Hid (St [(w.heap.size, #[.int .i64 0, .int .i64 0, .string ⟨#[]⟩, .int .i64 0, .bool false, .int .i64 0, .int .i64 0, .int .i64 0, .int .i64 0, .int .i64 0, .int .i64 0, .int .i64 0, .bool false], 136)] w w2) := St.next S_w1.out hb2
  clear S_w1 hb2
  have hz_w2 : w.heap.size < w2.heap.size := St.lt S_w2.out (x := (w.heap.size, #[.int .i64 0, .int .i64 0, .string ⟨#[]⟩, .int .i64 0, .bool false, .int .i64 0, .int .i64 0, .int .i64 0, .int .i64 0, .int .i64 0, .int .i64 0, .int .i64 0, .bool false], 136)) (by simp)
  rename_i KK hKK
  refine hKK _ _ ?_
  clear hKK
  clear KK
  refine lay_vd [.int .i64 a0, .int .i64 a1, .string a2, .int .i64 a3, .bool a4, .int .i64 a5, .int .i64 a6, .int .i64 a7, .int .i64 a8, .int .i64 a9, .int .i64 a10, .int .i64 a11, .bool a12] rfl (w.heap.size) (St.get S_w2.out 0 rfl) rfl rfl rfl (by simp [Value.oneCell']) rfl rfl ?_
  have HW : Hid ((w2.setCells (w.heap.size) 0 [.int .i64 a0, .int .i64 a1, .string a2, .int .i64 a3, .bool a4, .int .i64 a5, .int .i64 a6, .int .i64 a7, .int .i64 a8, .int .i64 a9, .int .i64 a10, .int .i64 a11, .bool a12]).heap[w.heap.size]? = some (.cells #[.int .i64 a0, .int .i64 a1, .string a2, .int .i64 a3, .bool a4, .int .i64 a5, .int .i64 a6, .int .i64 a7, .int .i64 a8, .int .i64 a9, .int .i64 a10, .int .i64 a11, .bool a12] 136 (0, 0))) := heap_setCells_all _ (St.get S_w2.out 0 rfl) rfl
  have HB : Hid (Below w.heap.size w (w2.setCells (w.heap.size) 0 [.int .i64 a0, .int .i64 a1, .string a2, .int .i64 a3, .bool a4, .int .i64 a5, .int .i64 a6, .int .i64 a7, .int .i64 a8, .int .i64 a9, .int .i64 a10, .int .i64 a11, .bool a12])) := (St.below S_w2.out).trans ((setCells_below (w.heap.size) _ 0 _).mono (Nat.le_refl _))
  generalize w2.setCells (w.heap.size) 0 [.int .i64 a0, .int .i64 a1, .string a2, .int .i64 a3, .bool a4, .int .i64 a5, .int .i64 a6, .int .i64 a7, .int .i64 a8, .int .i64 a9, .int .i64 a10, .int .i64 a11, .bool a12] = W at HW HB ⊢
  clear S_w2
  go_wp2
  exact bodyPost_ret (v := .agg #[.int .i64 a0, .int .i64 a1, .string a2, .int .i64 a3, .bool a4, .int .i64 a5, .int .i64 a6, .int .i64 a7, .int .i64 a8, .int .i64 a9, .int .i64 a10, .int .i64 a11, .bool a12]) (res_vd Tryz.results95 _ W (w.heap.size) [.int .i64 a0, .int .i64 a1, .string a2, .int .i64 a3, .bool a4, .int .i64 a5, .int .i64 a6, .int .i64 a7, .int .i64 a8, .int .i64 a9, .int .i64 a10, .int .i64 a11, .bool a12] rfl rfl HW.out) rfl ⟨rfl, HB.out⟩

set_option maxHeartbeats 4000000 in
set_option maxRecDepth 2000 in
theorem rjudge_check1 (b : Nat) (s : ByteArray) (e : Int) (w : World) (cc : RetB 94 #[.string s] (.int .i64 e)) (he : (e != 0) = true) :
    Calls Tryz.prog 95 #[.pointer (some ⟨b, 0, none⟩), .int .i64 1, .string s] w fun r w' => r = .returned (.agg #[.int .i64 e, .int .i64 0, .string ⟨#[]⟩, .int .i64 0, .bool false, .int .i64 0, .int .i64 0, .int .i64 0, .int .i64 0, .int .i64 0, .int .i64 0, .int .i64 0, .bool false]) ∧ Below w.heap.size w w' := by
  have CR : Hid (∀ w, Calls Tryz.prog 148 #[.int .i64 e, .int .i64 0] w fun e' w' => e' = .returned (.agg #[.int .i64 e, .int .i64 0, .string ⟨#[]⟩, .int .i64 0, .bool false, .int .i64 0, .int .i64 0, .int .i64 0, .int .i64 0, .int .i64 0, .int .i64 0, .int .i64 0, .bool false]) ∧ Below w.heap.size w w') := fun w => refused_any e 0 w
  go_enter Tryz.func95, Tryz.ntmps95
  go_upto_region 1 with fail
  have S_v0 : Hid (St [(w.heap.size, #[.int .i64 0, .int .i64 0, .string ⟨#[]⟩, .int .i64 0, .bool false, .int .i64 0, .int .i64 0, .int .i64 0, .int .i64 0, .int .i64 0, .int .i64 0, .int .i64 0, .bool false], 136)] w (w.alloc (.cells #[.int .i64 0, .int .i64 0, .string ⟨#[]⟩, .int .i64 0, .bool false, .int .i64 0, .int .i64 0, .int .i64 0, .int .i64 0, .int .i64 0, .int .i64 0, .int .i64 0, .bool false] 136))) := St.alloc (St.start w) #[.int .i64 0, .int .i64 0, .string ⟨#[]⟩, .int .i64 0, .bool false, .int .i64 0, .int .i64 0, .int .i64 0, .int .i64 0, .int .i64 0, .int .i64 0, .int .i64 0, .bool false] 136 (w.heap.size) rfl
  generalize (w.alloc (.cells #[.int .i64 0, .int .i64 0, .string ⟨#[]⟩, .int .i64 0, .bool false, .int .i64 0, .int .i64 0, .int .i64 0, .int .i64 0, .int .i64 0, .int .i64 0, .int .i64 0, .bool false] 136)) = v0 at S_v0 ⊢
  have hz_v0 : w.heap.size < v0.heap.size := St.lt S_v0.out (x := (w.heap.size, #[.int .i64 0, .int .i64 0, .string ⟨#[]⟩, .int .i64 0, .bool false, .int .i64 0, .int .i64 0, .int .i64 0, .int .i64 0, .int .i64 0, .int .i64 0, .int .i64 0, .bool false], 136)) (by simp)
  go_wp2_with fail
  refine Calls.mono (cc.at _) ?_; rintro e w1 ⟨rfl, hb1⟩
  have S_w1 : Hid (St [(w.heap.size, #[.int .i64 0, .int .i64 0, .string ⟨#[]⟩, .int .i64 0, .bool false, .int .i64 0, .int .i64 0, .int .i64 0, .int .i64 0, .int .i64 0, .int .i64 0, .int .i64 0, .bool false], 136)] w w1) := St.next S_v0.out hb1
  clear S_v0 hb1
  have hz_w1 : w.heap.size < w1.heap.size := St.lt S_w1.out (x := (w.heap.size, #[.int .i64 0, .int .i64 0, .string ⟨#[]⟩, .int .i64 0, .bool false, .int .i64 0, .int .i64 0, .int .i64 0, .int .i64 0, .int .i64 0, .int .i64 0, .int .i64 0, .bool false], 136)) (by simp)
  go_wp2_with fail
  refine Calls.mono (CR.out _) ?_; rintro e w2 ⟨rfl, hb2⟩
  have S_w2 : Hid (St [(w.heap.size, #[.int .i64 0, .int .i64 0, .string ⟨#[]⟩, .int .i64 0, .bool false, .int .i64 0, .int .i64 0, .int .i64 0, .int .i64 0, .int .i64 0, .int .i64 0, .int .i64 0, .bool false], 136)] w w2) := St.next S_w1.out hb2
  clear S_w1 hb2
  have hz_w2 : w.heap.size < w2.heap.size := St.lt S_w2.out (x := (w.heap.size, #[.int .i64 0, .int .i64 0, .string ⟨#[]⟩, .int .i64 0, .bool false, .int .i64 0, .int .i64 0, .int .i64 0, .int .i64 0, .int .i64 0, .int .i64 0, .int .i64 0, .bool false], 136)) (by simp)
  rename_i KK hKK
  refine hKK _ _ ?_
  clear hKK
  clear KK
  refine lay_vd [.int .i64 e, .int .i64 0, .string ⟨#[]⟩, .int .i64 0, .bool false, .int .i64 0, .int .i64 0, .int .i64 0, .int .i64 0, .int .i64 0, .int .i64 0, .int .i64 0, .bool false] rfl (w.heap.size) (St.get S_w2.out 0 rfl) rfl rfl rfl (by simp [Value.oneCell']) rfl rfl ?_
  have HW : Hid ((w2.setCells (w.heap.size) 0 [.int .i64 e, .int .i64 0, .string ⟨#[]⟩, .int .i64 0, .bool false, .int .i64 0, .int .i64 0, .int .i64 0, .int .i64 0, .int .i64 0, .int .i64 0, .int .i64 0, .bool false]).heap[w.heap.size]? = some (.cells #[.int .i64 e, .int .i64 0, .string ⟨#[]⟩, .int .i64 0, .bool false, .int .i64 0, .int .i64 0, .int .i64 0, .int .i64 0, .int .i64 0, .int .i64 0, .int .i64 0, .bool false] 136 (0, 0))) := heap_setCells_all _ (St.get S_w2.out 0 rfl) rfl
  have HB : Hid (Below w.heap.size w (w2.setCells (w.heap.size) 0 [.int .i64 e, .int .i64 0, .string ⟨#[]⟩, .int .i64 0, .bool false, .int .i64 0, .int .i64 0, .int .i64 0, .int .i64 0, .int .i64 0, .int .i64 0, .int .i64 0, .bool false])) := (St.below S_w2.out).trans ((setCells_below (w.heap.size) _ 0 _).mono (Nat.le_refl _))
  generalize w2.setCells (w.heap.size) 0 [.int .i64 e, .int .i64 0, .string ⟨#[]⟩, .int .i64 0, .bool false, .int .i64 0, .int .i64 0, .int .i64 0, .int .i64 0, .int .i64 0, .int .i64 0, .int .i64 0, .bool false] = W at HW HB ⊢
  clear S_w2
  go_wp2
  exact bodyPost_ret (v := .agg #[.int .i64 e, .int .i64 0, .string ⟨#[]⟩, .int .i64 0, .bool false, .int .i64 0, .int .i64 0, .int .i64 0, .int .i64 0, .int .i64 0, .int .i64 0, .int .i64 0, .bool false]) (res_vd Tryz.results95 _ W (w.heap.size) [.int .i64 e, .int .i64 0, .string ⟨#[]⟩, .int .i64 0, .bool false, .int .i64 0, .int .i64 0, .int .i64 0, .int .i64 0, .int .i64 0, .int .i64 0, .int .i64 0, .bool false] rfl rfl HW.out) rfl ⟨rfl, HB.out⟩

set_option maxHeartbeats 4000000 in
set_option maxRecDepth 2000 in
theorem rjudge_bar1 (b : Nat) (s : ByteArray) (e : Int) (w : World) (cc : RetB 94 #[.string s] (.int .i64 0)) (cb : ∀ wx, Below w.heap.size w wx → Calls Tryz.prog 149 #[.pointer (some ⟨b, 0, none⟩), .int .i64 1, .string s] wx fun e' w' => e' = .returned (.int .i64 e) ∧ w' = wx) (he : (e != 0) = true) :
    Calls Tryz.prog 95 #[.pointer (some ⟨b, 0, none⟩), .int .i64 1, .string s] w fun r w' => r = .returned (.agg #[.int .i64 e, .int .i64 0, .string ⟨#[]⟩, .int .i64 0, .bool false, .int .i64 0, .int .i64 0, .int .i64 0, .int .i64 0, .int .i64 0, .int .i64 0, .int .i64 0, .bool false]) ∧ Below w.heap.size w w' := by
  have CR : Hid (∀ w, Calls Tryz.prog 148 #[.int .i64 e, .int .i64 0] w fun e' w' => e' = .returned (.agg #[.int .i64 e, .int .i64 0, .string ⟨#[]⟩, .int .i64 0, .bool false, .int .i64 0, .int .i64 0, .int .i64 0, .int .i64 0, .int .i64 0, .int .i64 0, .int .i64 0, .bool false]) ∧ Below w.heap.size w w') := fun w => refused_any e 0 w
  have CB : Hid _ := cb
  clear cb
  go_enter Tryz.func95, Tryz.ntmps95
  go_upto_region 1 with fail
  have S_v0 : Hid (St [(w.heap.size, #[.int .i64 0, .int .i64 0, .string ⟨#[]⟩, .int .i64 0, .bool false, .int .i64 0, .int .i64 0, .int .i64 0, .int .i64 0, .int .i64 0, .int .i64 0, .int .i64 0, .bool false], 136)] w (w.alloc (.cells #[.int .i64 0, .int .i64 0, .string ⟨#[]⟩, .int .i64 0, .bool false, .int .i64 0, .int .i64 0, .int .i64 0, .int .i64 0, .int .i64 0, .int .i64 0, .int .i64 0, .bool false] 136))) := St.alloc (St.start w) #[.int .i64 0, .int .i64 0, .string ⟨#[]⟩, .int .i64 0, .bool false, .int .i64 0, .int .i64 0, .int .i64 0, .int .i64 0, .int .i64 0, .int .i64 0, .int .i64 0, .bool false] 136 (w.heap.size) rfl
  generalize (w.alloc (.cells #[.int .i64 0, .int .i64 0, .string ⟨#[]⟩, .int .i64 0, .bool false, .int .i64 0, .int .i64 0, .int .i64 0, .int .i64 0, .int .i64 0, .int .i64 0, .int .i64 0, .bool false] 136)) = v0 at S_v0 ⊢
  have hz_v0 : w.heap.size < v0.heap.size := St.lt S_v0.out (x := (w.heap.size, #[.int .i64 0, .int .i64 0, .string ⟨#[]⟩, .int .i64 0, .bool false, .int .i64 0, .int .i64 0, .int .i64 0, .int .i64 0, .int .i64 0, .int .i64 0, .int .i64 0, .bool false], 136)) (by simp)
  go_wp2_with fail
  refine Calls.mono (cc.at _) ?_; rintro e w1 ⟨rfl, hb1⟩
  have S_w1 : Hid (St [(w.heap.size, #[.int .i64 0, .int .i64 0, .string ⟨#[]⟩, .int .i64 0, .bool false, .int .i64 0, .int .i64 0, .int .i64 0, .int .i64 0, .int .i64 0, .int .i64 0, .int .i64 0, .bool false], 136)] w w1) := St.next S_v0.out hb1
  clear S_v0 hb1
  have hz_w1 : w.heap.size < w1.heap.size := St.lt S_w1.out (x := (w.heap.size, #[.int .i64 0, .int .i64 0, .string ⟨#[]⟩, .int .i64 0, .bool false, .int .i64 0, .int .i64 0, .int .i64 0, .int .i64 0, .int .i64 0, .int .i64 0, .int .i64 0, .bool false], 136)) (by simp)
  go_wp2_with fail
  refine Calls.mono (CB.out _ (St.below S_w1.out)) ?_; rintro e w' ⟨rfl, hw⟩; replace hw := hw.symm; subst hw
  go_wp2_with fail
  refine Calls.mono (CR.out _) ?_; rintro e w2 ⟨rfl, hb2⟩
  have S_w2 : Hid (St [(w.heap.size, #[.int .i64 0, .int .i64 0, .string ⟨#[]⟩, .int .i64 0, .bool false, .int .i64 0, .int .i64 0, .int .i64 0, .int .i64 0, .int .i64 0, .int .i64 0, .int .i64 0, .bool false], 136)] w w2) := St.next S_w1.out hb2
  clear S_w1 hb2
  have hz_w2 : w.heap.size < w2.heap.size := St.lt S_w2.out (x := (w.heap.size, #[.int .i64 0, .int .i64 0, .string ⟨#[]⟩, .int .i64 0, .bool false, .int .i64 0, .int .i64 0, .int .i64 0, .int .i64 0, .int .i64 0, .int .i64 0, .int .i64 0, .bool false], 136)) (by simp)
  rename_i KK hKK
  refine hKK _ _ ?_
  clear hKK
  clear KK
  refine lay_vd [.int .i64 e, .int .i64 0, .string ⟨#[]⟩, .int .i64 0, .bool false, .int .i64 0, .int .i64 0, .int .i64 0, .int .i64 0, .int .i64 0, .int .i64 0, .int .i64 0, .bool false] rfl (w.heap.size) (St.get S_w2.out 0 rfl) rfl rfl rfl (by simp [Value.oneCell']) rfl rfl ?_
  have HW : Hid ((w2.setCells (w.heap.size) 0 [.int .i64 e, .int .i64 0, .string ⟨#[]⟩, .int .i64 0, .bool false, .int .i64 0, .int .i64 0, .int .i64 0, .int .i64 0, .int .i64 0, .int .i64 0, .int .i64 0, .bool false]).heap[w.heap.size]? = some (.cells #[.int .i64 e, .int .i64 0, .string ⟨#[]⟩, .int .i64 0, .bool false, .int .i64 0, .int .i64 0, .int .i64 0, .int .i64 0, .int .i64 0, .int .i64 0, .int .i64 0, .bool false] 136 (0, 0))) := heap_setCells_all _ (St.get S_w2.out 0 rfl) rfl
  have HB : Hid (Below w.heap.size w (w2.setCells (w.heap.size) 0 [.int .i64 e, .int .i64 0, .string ⟨#[]⟩, .int .i64 0, .bool false, .int .i64 0, .int .i64 0, .int .i64 0, .int .i64 0, .int .i64 0, .int .i64 0, .int .i64 0, .bool false])) := (St.below S_w2.out).trans ((setCells_below (w.heap.size) _ 0 _).mono (Nat.le_refl _))
  generalize w2.setCells (w.heap.size) 0 [.int .i64 e, .int .i64 0, .string ⟨#[]⟩, .int .i64 0, .bool false, .int .i64 0, .int .i64 0, .int .i64 0, .int .i64 0, .int .i64 0, .int .i64 0, .int .i64 0, .bool false] = W at HW HB ⊢
  clear S_w2
  go_wp2
  exact bodyPost_ret (v := .agg #[.int .i64 e, .int .i64 0, .string ⟨#[]⟩, .int .i64 0, .bool false, .int .i64 0, .int .i64 0, .int .i64 0, .int .i64 0, .int .i64 0, .int .i64 0, .int .i64 0, .bool false]) (res_vd Tryz.results95 _ W (w.heap.size) [.int .i64 e, .int .i64 0, .string ⟨#[]⟩, .int .i64 0, .bool false, .int .i64 0, .int .i64 0, .int .i64 0, .int .i64 0, .int .i64 0, .int .i64 0, .int .i64 0, .bool false] rfl rfl HW.out) rfl ⟨rfl, HB.out⟩

set_option maxHeartbeats 4000000 in
set_option maxRecDepth 2000 in
theorem rjudge_go1 (b : Nat) (s : ByteArray) (w : World) (cc : RetB 94 #[.string s] (.int .i64 0)) (cb : ∀ wx, Below w.heap.size w wx → Calls Tryz.prog 149 #[.pointer (some ⟨b, 0, none⟩), .int .i64 1, .string s] wx fun e' w' => e' = .returned (.int .i64 0) ∧ w' = wx) (cm : Ret 150 #[.string s] (.bool false)) (a0 a1 : Int) (a2 : ByteArray) (a3 : Int) (a4 : Bool) (a5 a6 a7 a8 a9 a10 a11 : Int) (a12 : Bool) (cx : ∀ wx, Below w.heap.size w wx → Calls Tryz.prog 152 #[.pointer (some ⟨b, 0, none⟩), .string s] wx fun r w' => r = .returned (.agg #[.int .i64 a0, .int .i64 a1, .string a2, .int .i64 a3, .bool a4, .int .i64 a5, .int .i64 a6, .int .i64 a7, .int .i64 a8, .int .i64 a9, .int .i64 a10, .int .i64 a11, .bool a12]) ∧ Below wx.heap.size wx w') :
    Calls Tryz.prog 95 #[.pointer (some ⟨b, 0, none⟩), .int .i64 1, .string s] w fun r w' => r = .returned (.agg #[.int .i64 a0, .int .i64 a1, .string a2, .int .i64 a3, .bool a4, .int .i64 a5, .int .i64 a6, .int .i64 a7, .int .i64 a8, .int .i64 a9, .int .i64 a10, .int .i64 a11, .bool a12]) ∧ Below w.heap.size w w' := by
  have CB : Hid _ := cb
  have CX : Hid _ := cx
  clear cb cx
  go_enter Tryz.func95, Tryz.ntmps95
  go_upto_region 1 with fail
  have S_v0 : Hid (St [(w.heap.size, #[.int .i64 0, .int .i64 0, .string ⟨#[]⟩, .int .i64 0, .bool false, .int .i64 0, .int .i64 0, .int .i64 0, .int .i64 0, .int .i64 0, .int .i64 0, .int .i64 0, .bool false], 136)] w (w.alloc (.cells #[.int .i64 0, .int .i64 0, .string ⟨#[]⟩, .int .i64 0, .bool false, .int .i64 0, .int .i64 0, .int .i64 0, .int .i64 0, .int .i64 0, .int .i64 0, .int .i64 0, .bool false] 136))) := St.alloc (St.start w) #[.int .i64 0, .int .i64 0, .string ⟨#[]⟩, .int .i64 0, .bool false, .int .i64 0, .int .i64 0, .int .i64 0, .int .i64 0, .int .i64 0, .int .i64 0, .int .i64 0, .bool false] 136 (w.heap.size) rfl
  generalize (w.alloc (.cells #[.int .i64 0, .int .i64 0, .string ⟨#[]⟩, .int .i64 0, .bool false, .int .i64 0, .int .i64 0, .int .i64 0, .int .i64 0, .int .i64 0, .int .i64 0, .int .i64 0, .bool false] 136)) = v0 at S_v0 ⊢
  have hz_v0 : w.heap.size < v0.heap.size := St.lt S_v0.out (x := (w.heap.size, #[.int .i64 0, .int .i64 0, .string ⟨#[]⟩, .int .i64 0, .bool false, .int .i64 0, .int .i64 0, .int .i64 0, .int .i64 0, .int .i64 0, .int .i64 0, .int .i64 0, .bool false], 136)) (by simp)
  go_wp2_with fail
  refine Calls.mono (cc.at _) ?_; rintro e w1 ⟨rfl, hb1⟩
  have S_w1 : Hid (St [(w.heap.size, #[.int .i64 0, .int .i64 0, .string ⟨#[]⟩, .int .i64 0, .bool false, .int .i64 0, .int .i64 0, .int .i64 0, .int .i64 0, .int .i64 0, .int .i64 0, .int .i64 0, .bool false], 136)] w w1) := St.next S_v0.out hb1
  clear S_v0 hb1
  have hz_w1 : w.heap.size < w1.heap.size := St.lt S_w1.out (x := (w.heap.size, #[.int .i64 0, .int .i64 0, .string ⟨#[]⟩, .int .i64 0, .bool false, .int .i64 0, .int .i64 0, .int .i64 0, .int .i64 0, .int .i64 0, .int .i64 0, .int .i64 0, .bool false], 136)) (by simp)
  go_wp2_with fail
  refine Calls.mono (CB.out _ (St.below S_w1.out)) ?_; rintro e w' ⟨rfl, hw⟩; replace hw := hw.symm; subst hw
  go_wp2_with fail
  refine Calls.mono (cm.at _) ?_; rintro e w' ⟨rfl, hw⟩; replace hw := hw.symm; subst hw
  go_wp2_with fail
  refine Calls.mono (CX.out _ (St.below S_w1.out)) ?_; rintro e w2 ⟨rfl, hb2⟩
  have S_w2 : Hid (St [(w.heap.size, #[.int .i64 0, .int .i64 0, .string ⟨#[]⟩, .int .i64 0, .bool false, .int .i64 0, .int .i64 0, .int .i64 0, .int .i64 0, .int .i64 0, .int .i64 0, .int .i64 0, .bool false], 136)] w w2) := St.next S_w1.out hb2
  clear S_w1 hb2
  have hz_w2 : w.heap.size < w2.heap.size := St.lt S_w2.out (x := (w.heap.size, #[.int .i64 0, .int .i64 0, .string ⟨#[]⟩, .int .i64 0, .bool false, .int .i64 0, .int .i64 0, .int .i64 0, .int .i64 0, .int .i64 0, .int .i64 0, .int .i64 0, .bool false], 136)) (by simp)
  rename_i KK hKK
  refine hKK _ _ ?_
  clear hKK
  clear KK
  refine lay_vd [.int .i64 a0, .int .i64 a1, .string a2, .int .i64 a3, .bool a4, .int .i64 a5, .int .i64 a6, .int .i64 a7, .int .i64 a8, .int .i64 a9, .int .i64 a10, .int .i64 a11, .bool a12] rfl (w.heap.size) (St.get S_w2.out 0 rfl) rfl rfl rfl (by simp [Value.oneCell']) rfl rfl ?_
  have HW : Hid ((w2.setCells (w.heap.size) 0 [.int .i64 a0, .int .i64 a1, .string a2, .int .i64 a3, .bool a4, .int .i64 a5, .int .i64 a6, .int .i64 a7, .int .i64 a8, .int .i64 a9, .int .i64 a10, .int .i64 a11, .bool a12]).heap[w.heap.size]? = some (.cells #[.int .i64 a0, .int .i64 a1, .string a2, .int .i64 a3, .bool a4, .int .i64 a5, .int .i64 a6, .int .i64 a7, .int .i64 a8, .int .i64 a9, .int .i64 a10, .int .i64 a11, .bool a12] 136 (0, 0))) := heap_setCells_all _ (St.get S_w2.out 0 rfl) rfl
  have HB : Hid (Below w.heap.size w (w2.setCells (w.heap.size) 0 [.int .i64 a0, .int .i64 a1, .string a2, .int .i64 a3, .bool a4, .int .i64 a5, .int .i64 a6, .int .i64 a7, .int .i64 a8, .int .i64 a9, .int .i64 a10, .int .i64 a11, .bool a12])) := (St.below S_w2.out).trans ((setCells_below (w.heap.size) _ 0 _).mono (Nat.le_refl _))
  generalize w2.setCells (w.heap.size) 0 [.int .i64 a0, .int .i64 a1, .string a2, .int .i64 a3, .bool a4, .int .i64 a5, .int .i64 a6, .int .i64 a7, .int .i64 a8, .int .i64 a9, .int .i64 a10, .int .i64 a11, .bool a12] = W at HW HB ⊢
  clear S_w2
  go_wp2
  exact bodyPost_ret (v := .agg #[.int .i64 a0, .int .i64 a1, .string a2, .int .i64 a3, .bool a4, .int .i64 a5, .int .i64 a6, .int .i64 a7, .int .i64 a8, .int .i64 a9, .int .i64 a10, .int .i64 a11, .bool a12]) (res_vd Tryz.results95 _ W (w.heap.size) [.int .i64 a0, .int .i64 a1, .string a2, .int .i64 a3, .bool a4, .int .i64 a5, .int .i64 a6, .int .i64 a7, .int .i64 a8, .int .i64 a9, .int .i64 a10, .int .i64 a11, .bool a12] rfl rfl HW.out) rfl ⟨rfl, HB.out⟩

set_option maxHeartbeats 4000000 in
set_option maxRecDepth 2000 in
theorem rjudge_msg1 (b : Nat) (s : ByteArray) (w : World) (cc : RetB 94 #[.string s] (.int .i64 0)) (cb : ∀ wx, Below w.heap.size w wx → Calls Tryz.prog 149 #[.pointer (some ⟨b, 0, none⟩), .int .i64 1, .string s] wx fun e' w' => e' = .returned (.int .i64 0) ∧ w' = wx) (cm : Ret 150 #[.string s] (.bool true)) (a0 a1 : Int) (a2 : ByteArray) (a3 : Int) (a4 : Bool) (a5 a6 a7 a8 a9 a10 a11 : Int) (a12 : Bool) (cx : ∀ wx, Below w.heap.size w wx → Calls Tryz.prog 151 #[.pointer (some ⟨b, 0, none⟩), .int .i64 1, .string s] wx fun r w' => r = .returned (.agg #[.int .i64 a0, .int .i64 a1, .string a2, .int .i64 a3, .bool a4, .int .i64 a5, .int .i64 a6, .int .i64 a7, .int .i64 a8, .int .i64 a9, .int .i64 a10, .int .i64 a11, .bool a12]) ∧ Below wx.heap.size wx w') :
    Calls Tryz.prog 95 #[.pointer (some ⟨b, 0, none⟩), .int .i64 1, .string s] w fun r w' => r = .returned (.agg #[.int .i64 a0, .int .i64 a1, .string a2, .int .i64 a3, .bool a4, .int .i64 a5, .int .i64 a6, .int .i64 a7, .int .i64 a8, .int .i64 a9, .int .i64 a10, .int .i64 a11, .bool a12]) ∧ Below w.heap.size w w' := by
  have CB : Hid _ := cb
  have CX : Hid _ := cx
  clear cb cx
  go_enter Tryz.func95, Tryz.ntmps95
  go_upto_region 1 with fail
  have S_v0 : Hid (St [(w.heap.size, #[.int .i64 0, .int .i64 0, .string ⟨#[]⟩, .int .i64 0, .bool false, .int .i64 0, .int .i64 0, .int .i64 0, .int .i64 0, .int .i64 0, .int .i64 0, .int .i64 0, .bool false], 136)] w (w.alloc (.cells #[.int .i64 0, .int .i64 0, .string ⟨#[]⟩, .int .i64 0, .bool false, .int .i64 0, .int .i64 0, .int .i64 0, .int .i64 0, .int .i64 0, .int .i64 0, .int .i64 0, .bool false] 136))) := St.alloc (St.start w) #[.int .i64 0, .int .i64 0, .string ⟨#[]⟩, .int .i64 0, .bool false, .int .i64 0, .int .i64 0, .int .i64 0, .int .i64 0, .int .i64 0, .int .i64 0, .int .i64 0, .bool false] 136 (w.heap.size) rfl
  generalize (w.alloc (.cells #[.int .i64 0, .int .i64 0, .string ⟨#[]⟩, .int .i64 0, .bool false, .int .i64 0, .int .i64 0, .int .i64 0, .int .i64 0, .int .i64 0, .int .i64 0, .int .i64 0, .bool false] 136)) = v0 at S_v0 ⊢
  have hz_v0 : w.heap.size < v0.heap.size := St.lt S_v0.out (x := (w.heap.size, #[.int .i64 0, .int .i64 0, .string ⟨#[]⟩, .int .i64 0, .bool false, .int .i64 0, .int .i64 0, .int .i64 0, .int .i64 0, .int .i64 0, .int .i64 0, .int .i64 0, .bool false], 136)) (by simp)
  go_wp2_with fail
  refine Calls.mono (cc.at _) ?_; rintro e w1 ⟨rfl, hb1⟩
  have S_w1 : Hid (St [(w.heap.size, #[.int .i64 0, .int .i64 0, .string ⟨#[]⟩, .int .i64 0, .bool false, .int .i64 0, .int .i64 0, .int .i64 0, .int .i64 0, .int .i64 0, .int .i64 0, .int .i64 0, .bool false], 136)] w w1) := St.next S_v0.out hb1
  clear S_v0 hb1
  have hz_w1 : w.heap.size < w1.heap.size := St.lt S_w1.out (x := (w.heap.size, #[.int .i64 0, .int .i64 0, .string ⟨#[]⟩, .int .i64 0, .bool false, .int .i64 0, .int .i64 0, .int .i64 0, .int .i64 0, .int .i64 0, .int .i64 0, .int .i64 0, .bool false], 136)) (by simp)
  go_wp2_with fail
  refine Calls.mono (CB.out _ (St.below S_w1.out)) ?_; rintro e w' ⟨rfl, hw⟩; replace hw := hw.symm; subst hw
  go_wp2_with fail
  refine Calls.mono (cm.at _) ?_; rintro e w' ⟨rfl, hw⟩; replace hw := hw.symm; subst hw
  go_wp2_with fail
  refine Calls.mono (CX.out _ (St.below S_w1.out)) ?_; rintro e w2 ⟨rfl, hb2⟩
  have S_w2 : Hid (St [(w.heap.size, #[.int .i64 0, .int .i64 0, .string ⟨#[]⟩, .int .i64 0, .bool false, .int .i64 0, .int .i64 0, .int .i64 0, .int .i64 0, .int .i64 0, .int .i64 0, .int .i64 0, .bool false], 136)] w w2) := St.next S_w1.out hb2
  clear S_w1 hb2
  have hz_w2 : w.heap.size < w2.heap.size := St.lt S_w2.out (x := (w.heap.size, #[.int .i64 0, .int .i64 0, .string ⟨#[]⟩, .int .i64 0, .bool false, .int .i64 0, .int .i64 0, .int .i64 0, .int .i64 0, .int .i64 0, .int .i64 0, .int .i64 0, .bool false], 136)) (by simp)
  rename_i KK hKK
  refine hKK _ _ ?_
  clear hKK
  clear KK
  refine lay_vd [.int .i64 a0, .int .i64 a1, .string a2, .int .i64 a3, .bool a4, .int .i64 a5, .int .i64 a6, .int .i64 a7, .int .i64 a8, .int .i64 a9, .int .i64 a10, .int .i64 a11, .bool a12] rfl (w.heap.size) (St.get S_w2.out 0 rfl) rfl rfl rfl (by simp [Value.oneCell']) rfl rfl ?_
  have HW : Hid ((w2.setCells (w.heap.size) 0 [.int .i64 a0, .int .i64 a1, .string a2, .int .i64 a3, .bool a4, .int .i64 a5, .int .i64 a6, .int .i64 a7, .int .i64 a8, .int .i64 a9, .int .i64 a10, .int .i64 a11, .bool a12]).heap[w.heap.size]? = some (.cells #[.int .i64 a0, .int .i64 a1, .string a2, .int .i64 a3, .bool a4, .int .i64 a5, .int .i64 a6, .int .i64 a7, .int .i64 a8, .int .i64 a9, .int .i64 a10, .int .i64 a11, .bool a12] 136 (0, 0))) := heap_setCells_all _ (St.get S_w2.out 0 rfl) rfl
  have HB : Hid (Below w.heap.size w (w2.setCells (w.heap.size) 0 [.int .i64 a0, .int .i64 a1, .string a2, .int .i64 a3, .bool a4, .int .i64 a5, .int .i64 a6, .int .i64 a7, .int .i64 a8, .int .i64 a9, .int .i64 a10, .int .i64 a11, .bool a12])) := (St.below S_w2.out).trans ((setCells_below (w.heap.size) _ 0 _).mono (Nat.le_refl _))
  generalize w2.setCells (w.heap.size) 0 [.int .i64 a0, .int .i64 a1, .string a2, .int .i64 a3, .bool a4, .int .i64 a5, .int .i64 a6, .int .i64 a7, .int .i64 a8, .int .i64 a9, .int .i64 a10, .int .i64 a11, .bool a12] = W at HW HB ⊢
  clear S_w2
  go_wp2
  exact bodyPost_ret (v := .agg #[.int .i64 a0, .int .i64 a1, .string a2, .int .i64 a3, .bool a4, .int .i64 a5, .int .i64 a6, .int .i64 a7, .int .i64 a8, .int .i64 a9, .int .i64 a10, .int .i64 a11, .bool a12]) (res_vd Tryz.results95 _ W (w.heap.size) [.int .i64 a0, .int .i64 a1, .string a2, .int .i64 a3, .bool a4, .int .i64 a5, .int .i64 a6, .int .i64 a7, .int .i64 a8, .int .i64 a9, .int .i64 a10, .int .i64 a11, .bool a12] rfl rfl HW.out) rfl ⟨rfl, HB.out⟩

end Go.Proofs.YthiljpbodmajaabGreat
