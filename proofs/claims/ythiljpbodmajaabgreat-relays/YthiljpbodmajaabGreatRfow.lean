/-
  CONTRACTS: package natboxref: own.
-/
import Derived.Test.YthiljpbodmajaabGreatVrdz
import Derived.Test.YthiljpbodmajaabGreatRfqu
import Derived.Test.YthiljpbodmajaabGreatBoxr
import Derived.Deep.DeepCutAuto
import Derived.Maps.RangeWalk
import Derived.Test.YthiljpbodmajaabGreatRfbx
import Derived.Test.YthiljpbodmajaabGreatBoxa
namespace Go.Proofs.YthiljpbodmajaabGreat
open Go.RowKit Plain
set_option linter.unusedVariables false

set_option maxHeartbeats 4000000 in
set_option maxRecDepth 2000 in
theorem rown_cut (b : Nat) (s : ByteArray) (e sd mtu so x tk : Int) (b10 qb : Bool) (w : World) (x0 : 0 ≤ x) (x1 : x < 65536) (c6 : Ret 141 #[.string s, .int .i64 6, .int .i64 2] (.int .i64 x)) (e10 : (e == 10) = b10) (eq : (x / 16384 % 2 == 0) = qb) (hb : b10 = true) (hq : qb = true) :
    Calls Tryz.prog 205 #[.pointer (some ⟨b, 0, none⟩), .int .i64 sd, .string s, .int .i64 e, .int .i64 mtu, .int .i64 so] w fun r w' => r = .returned (.agg #[.int .i64 e, .int .i64 0, .string ⟨#[]⟩, .int .i64 so, .bool false, .int .i64 0, .int .i64 0, .int .i64 0, .int .i64 0, .int .i64 0, .int .i64 0, .int .i64 0, .bool false]) ∧ Below w.heap.size w w' := by
  subst hb; subst hq
  have CR : Hid (∀ w, Calls Tryz.prog 148 #[.int .i64 e, .int .i64 so] w fun e' w' => e' = .returned (.agg #[.int .i64 e, .int .i64 0, .string ⟨#[]⟩, .int .i64 so, .bool false, .int .i64 0, .int .i64 0, .int .i64 0, .int .i64 0, .int .i64 0, .int .i64 0, .int .i64 0, .bool false]) ∧ Below w.heap.size w w') := fun w => refused_any e so w
  go_enter Tryz.func205, Tryz.ntmps205
  go_upto_region 1 with fail
  have S_v0 : Hid (St [(w.heap.size, #[.int .i64 0, .int .i64 0, .string ⟨#[]⟩, .int .i64 0, .bool false, .int .i64 0, .int .i64 0, .int .i64 0, .int .i64 0, .int .i64 0, .int .i64 0, .int .i64 0, .bool false], 136)] w (w.alloc (.cells #[.int .i64 0, .int .i64 0, .string ⟨#[]⟩, .int .i64 0, .bool false, .int .i64 0, .int .i64 0, .int .i64 0, .int .i64 0, .int .i64 0, .int .i64 0, .int .i64 0, .bool false] 136))) := St.alloc (St.start w) #[.int .i64 0, .int .i64 0, .string ⟨#[]⟩, .int .i64 0, .bool false, .int .i64 0, .int .i64 0, .int .i64 0, .int .i64 0, .int .i64 0, .int .i64 0, .int .i64 0, .bool false] 136 (w.heap.size) rfl
  generalize (w.alloc (.cells #[.int .i64 0, .int .i64 0, .string ⟨#[]⟩, .int .i64 0, .bool false, .int .i64 0, .int .i64 0, .int .i64 0, .int .i64 0, .int .i64 0, .int .i64 0, .int .i64 0, .bool false] 136)) = v0 at S_v0 ⊢
  have hz_v0 : w.heap.size < v0.heap.size := St.lt S_v0.out (x := (w.heap.size, #[.int .i64 0, .int .i64 0, .string ⟨#[]⟩, .int .i64 0, .bool false, .int .i64 0, .int .i64 0, .int .i64 0, .int .i64 0, .int .i64 0, .int .i64 0, .int .i64 0, .bool false], 136)) (by simp)
  go_wp2_with fail
  refine Calls.mono (CR.out _) ?_; rintro e w1 ⟨rfl, hb1⟩
  have S_w1 : Hid (St [(w.heap.size, #[.int .i64 0, .int .i64 0, .string ⟨#[]⟩, .int .i64 0, .bool false, .int .i64 0, .int .i64 0, .int .i64 0, .int .i64 0, .int .i64 0, .int .i64 0, .int .i64 0, .bool false], 136)] w w1) := St.next S_v0.out hb1
  clear S_v0 hb1
  have hz_w1 : w.heap.size < w1.heap.size := St.lt S_w1.out (x := (w.heap.size, #[.int .i64 0, .int .i64 0, .string ⟨#[]⟩, .int .i64 0, .bool false, .int .i64 0, .int .i64 0, .int .i64 0, .int .i64 0, .int .i64 0, .int .i64 0, .int .i64 0, .bool false], 136)) (by simp)
  rename_i KK hKK
  refine hKK _ _ ?_
  refine keep_vd [.int .i64 e, .int .i64 0, .string ⟨#[]⟩, .int .i64 so, .bool false, .int .i64 0, .int .i64 0, .int .i64 0, .int .i64 0, .int .i64 0, .int .i64 0, .int .i64 0, .bool false] rfl rfl rfl rfl rfl (by simp [Value.oneCell']) (by simp [Act.eval, Act.put]) (by simp [Act.eval, Act.put]) ?_
  clear hKK
  clear KK
  have S_v1 : Hid (St [(w.heap.size, #[.int .i64 0, .int .i64 0, .string ⟨#[]⟩, .int .i64 0, .bool false, .int .i64 0, .int .i64 0, .int .i64 0, .int .i64 0, .int .i64 0, .int .i64 0, .int .i64 0, .bool false], 136), (w1.heap.size, #[.int .i64 e, .int .i64 0, .string ⟨#[]⟩, .int .i64 so, .bool false, .int .i64 0, .int .i64 0, .int .i64 0, .int .i64 0, .int .i64 0, .int .i64 0, .int .i64 0, .bool false], 136)] w (w1.alloc (.cells #[.int .i64 e, .int .i64 0, .string ⟨#[]⟩, .int .i64 so, .bool false, .int .i64 0, .int .i64 0, .int .i64 0, .int .i64 0, .int .i64 0, .int .i64 0, .int .i64 0, .bool false] 136))) := St.alloc S_w1.out #[.int .i64 e, .int .i64 0, .string ⟨#[]⟩, .int .i64 so, .bool false, .int .i64 0, .int .i64 0, .int .i64 0, .int .i64 0, .int .i64 0, .int .i64 0, .int .i64 0, .bool false] 136 (w1.heap.size) rfl
  have hs_v1 : w1.heap.size < (w1.alloc (.cells #[.int .i64 e, .int .i64 0, .string ⟨#[]⟩, .int .i64 so, .bool false, .int .i64 0, .int .i64 0, .int .i64 0, .int .i64 0, .int .i64 0, .int .i64 0, .int .i64 0, .bool false] 136)).heap.size := by simp
  generalize w1.alloc (.cells #[.int .i64 e, .int .i64 0, .string ⟨#[]⟩, .int .i64 so, .bool false, .int .i64 0, .int .i64 0, .int .i64 0, .int .i64 0, .int .i64 0, .int .i64 0, .int .i64 0, .bool false] 136) = v1 at S_v1 hs_v1  ⊢
  clear S_w1
  clear CR
  go_wp2_with fail
  refine Calls.mono (c6.at _) ?_; rintro e w' ⟨rfl, hw⟩; replace hw := hw.symm; subst hw
  go_upto_region 4 with fail
  refine wp_copy (w := v1) 136 (.tmp 13) (.tmp 12) (.tmp 38) rfl rfl rfl rfl (w1.heap.size) (w.heap.size) [.int .i64 e, .int .i64 0, .string ⟨#[]⟩, .int .i64 so, .bool false, .int .i64 0, .int .i64 0, .int .i64 0, .int .i64 0, .int .i64 0, .int .i64 0, .int .i64 0, .bool false] _ (by simp [Act.eval]) (by simp [Act.eval, Act.put]) (by simp [Act.eval, Act.put]) (St.get S_v1.out 1 rfl) (St.get S_v1.out 0 rfl) rfl Tryz.underlying136 rfl (by kernel_rfl) (by simp [Value.oneCell']) (fun W hW hb => ?_)
  have HB : Hid (Below w.heap.size w W) := (St.below S_v1.out).trans (hb.mono (Nat.le_refl _))
  clear hb S_v1
  go_wp2
  exact bodyPost_ret (v := .agg #[.int .i64 e, .int .i64 0, .string ⟨#[]⟩, .int .i64 so, .bool false, .int .i64 0, .int .i64 0, .int .i64 0, .int .i64 0, .int .i64 0, .int .i64 0, .int .i64 0, .bool false]) (res_vd Tryz.results205 _ W (w.heap.size) [.int .i64 e, .int .i64 0, .string ⟨#[]⟩, .int .i64 so, .bool false, .int .i64 0, .int .i64 0, .int .i64 0, .int .i64 0, .int .i64 0, .int .i64 0, .int .i64 0, .bool false] rfl rfl hW) rfl ⟨rfl, HB.out⟩

set_option maxHeartbeats 4000000 in
set_option maxRecDepth 2000 in
theorem rown_poor (b : Nat) (s : ByteArray) (e sd mtu so x tk : Int) (b10 qb : Bool) (w : World) (x0 : 0 ≤ x) (x1 : x < 65536) (c6 : Ret 141 #[.string s, .int .i64 6, .int .i64 2] (.int .i64 x)) (e10 : (e == 10) = b10) (eq : (x / 16384 % 2 == 0) = qb) (cK : ∀ wx, Below w.heap.size w wx → Calls Tryz.prog 101 #[.pointer (some ⟨b, 0, none⟩)] wx fun e w' => e = .returned (.int .i64 tk) ∧ Below wx.heap.size wx w') (hbq : (b10 && qb) = false) (ht : tk < 1) :
    Calls Tryz.prog 205 #[.pointer (some ⟨b, 0, none⟩), .int .i64 sd, .string s, .int .i64 e, .int .i64 mtu, .int .i64 so] w fun r w' => r = .returned (.agg #[.int .i64 e, .int .i64 0, .string ⟨#[]⟩, .int .i64 so, .bool false, .int .i64 0, .int .i64 0, .int .i64 0, .int .i64 0, .int .i64 0, .int .i64 0, .int .i64 0, .bool false]) ∧ Below w.heap.size w w' := by
  have h1 : decide (tk < 1) = true := by simpa using ht
  have CR : Hid (∀ w, Calls Tryz.prog 148 #[.int .i64 e, .int .i64 so] w fun e' w' => e' = .returned (.agg #[.int .i64 e, .int .i64 0, .string ⟨#[]⟩, .int .i64 so, .bool false, .int .i64 0, .int .i64 0, .int .i64 0, .int .i64 0, .int .i64 0, .int .i64 0, .int .i64 0, .bool false]) ∧ Below w.heap.size w w') := fun w => refused_any e so w
  have CK : Hid _ := cK
  clear cK
  go_enter Tryz.func205, Tryz.ntmps205
  go_upto_region 1 with fail
  have S_v0 : Hid (St [(w.heap.size, #[.int .i64 0, .int .i64 0, .string ⟨#[]⟩, .int .i64 0, .bool false, .int .i64 0, .int .i64 0, .int .i64 0, .int .i64 0, .int .i64 0, .int .i64 0, .int .i64 0, .bool false], 136)] w (w.alloc (.cells #[.int .i64 0, .int .i64 0, .string ⟨#[]⟩, .int .i64 0, .bool false, .int .i64 0, .int .i64 0, .int .i64 0, .int .i64 0, .int .i64 0, .int .i64 0, .int .i64 0, .bool false] 136))) := St.alloc (St.start w) #[.int .i64 0, .int .i64 0, .string ⟨#[]⟩, .int .i64 0, .bool false, .int .i64 0, .int .i64 0, .int .i64 0, .int .i64 0, .int .i64 0, .int .i64 0, .int .i64 0, .bool false] 136 (w.heap.size) rfl
  generalize (w.alloc (.cells #[.int .i64 0, .int .i64 0, .string ⟨#[]⟩, .int .i64 0, .bool false, .int .i64 0, .int .i64 0, .int .i64 0, .int .i64 0, .int .i64 0, .int .i64 0, .int .i64 0, .bool false] 136)) = v0 at S_v0 ⊢
  have hz_v0 : w.heap.size < v0.heap.size := St.lt S_v0.out (x := (w.heap.size, #[.int .i64 0, .int .i64 0, .string ⟨#[]⟩, .int .i64 0, .bool false, .int .i64 0, .int .i64 0, .int .i64 0, .int .i64 0, .int .i64 0, .int .i64 0, .int .i64 0, .bool false], 136)) (by simp)
  go_wp2_with fail
  refine Calls.mono (CR.out _) ?_; rintro e w1 ⟨rfl, hb1⟩
  have S_w1 : Hid (St [(w.heap.size, #[.int .i64 0, .int .i64 0, .string ⟨#[]⟩, .int .i64 0, .bool false, .int .i64 0, .int .i64 0, .int .i64 0, .int .i64 0, .int .i64 0, .int .i64 0, .int .i64 0, .bool false], 136)] w w1) := St.next S_v0.out hb1
  clear S_v0 hb1
  have hz_w1 : w.heap.size < w1.heap.size := St.lt S_w1.out (x := (w.heap.size, #[.int .i64 0, .int .i64 0, .string ⟨#[]⟩, .int .i64 0, .bool false, .int .i64 0, .int .i64 0, .int .i64 0, .int .i64 0, .int .i64 0, .int .i64 0, .int .i64 0, .bool false], 136)) (by simp)
  rename_i KK hKK
  refine hKK _ _ ?_
  refine keep_vd [.int .i64 e, .int .i64 0, .string ⟨#[]⟩, .int .i64 so, .bool false, .int .i64 0, .int .i64 0, .int .i64 0, .int .i64 0, .int .i64 0, .int .i64 0, .int .i64 0, .bool false] rfl rfl rfl rfl rfl (by simp [Value.oneCell']) (by simp [Act.eval, Act.put]) (by simp [Act.eval, Act.put]) ?_
  clear hKK
  clear KK
  have S_v1 : Hid (St [(w.heap.size, #[.int .i64 0, .int .i64 0, .string ⟨#[]⟩, .int .i64 0, .bool false, .int .i64 0, .int .i64 0, .int .i64 0, .int .i64 0, .int .i64 0, .int .i64 0, .int .i64 0, .bool false], 136), (w1.heap.size, #[.int .i64 e, .int .i64 0, .string ⟨#[]⟩, .int .i64 so, .bool false, .int .i64 0, .int .i64 0, .int .i64 0, .int .i64 0, .int .i64 0, .int .i64 0, .int .i64 0, .bool false], 136)] w (w1.alloc (.cells #[.int .i64 e, .int .i64 0, .string ⟨#[]⟩, .int .i64 so, .bool false, .int .i64 0, .int .i64 0, .int .i64 0, .int .i64 0, .int .i64 0, .int .i64 0, .int .i64 0, .bool false] 136))) := St.alloc S_w1.out #[.int .i64 e, .int .i64 0, .string ⟨#[]⟩, .int .i64 so, .bool false, .int .i64 0, .int .i64 0, .int .i64 0, .int .i64 0, .int .i64 0, .int .i64 0, .int .i64 0, .bool false] 136 (w1.heap.size) rfl
  have hs_v1 : w1.heap.size < (w1.alloc (.cells #[.int .i64 e, .int .i64 0, .string ⟨#[]⟩, .int .i64 so, .bool false, .int .i64 0, .int .i64 0, .int .i64 0, .int .i64 0, .int .i64 0, .int .i64 0, .int .i64 0, .bool false] 136)).heap.size := by simp
  generalize w1.alloc (.cells #[.int .i64 e, .int .i64 0, .string ⟨#[]⟩, .int .i64 so, .bool false, .int .i64 0, .int .i64 0, .int .i64 0, .int .i64 0, .int .i64 0, .int .i64 0, .int .i64 0, .bool false] 136) = v1 at S_v1 hs_v1  ⊢
  clear S_w1
  clear CR
  go_wp2_with fail
  refine Calls.mono (c6.at _) ?_; rintro e w' ⟨rfl, hw⟩; replace hw := hw.symm; subst hw
  cases b10
  ·
    go_wp2_with fail
    refine Calls.mono (CK.out _ (St.below S_v1.out)) ?_; rintro e w2 ⟨rfl, hb2⟩
    have S_w2 : Hid (St [(w.heap.size, #[.int .i64 0, .int .i64 0, .string ⟨#[]⟩, .int .i64 0, .bool false, .int .i64 0, .int .i64 0, .int .i64 0, .int .i64 0, .int .i64 0, .int .i64 0, .int .i64 0, .bool false], 136), (w1.heap.size, #[.int .i64 e, .int .i64 0, .string ⟨#[]⟩, .int .i64 so, .bool false, .int .i64 0, .int .i64 0, .int .i64 0, .int .i64 0, .int .i64 0, .int .i64 0, .int .i64 0, .bool false], 136)] w w2) := St.next S_v1.out hb2
    clear S_v1 hb2
    have hz_w2 : w1.heap.size < w2.heap.size := St.lt S_w2.out (x := (w1.heap.size, #[.int .i64 e, .int .i64 0, .string ⟨#[]⟩, .int .i64 so, .bool false, .int .i64 0, .int .i64 0, .int .i64 0, .int .i64 0, .int .i64 0, .int .i64 0, .int .i64 0, .bool false], 136)) (by simp)
    go_upto_region 4 with fail
    refine wp_copy (w := w2) 136 (.tmp 13) (.tmp 12) (.tmp 38) rfl rfl rfl rfl (w1.heap.size) (w.heap.size) [.int .i64 e, .int .i64 0, .string ⟨#[]⟩, .int .i64 so, .bool false, .int .i64 0, .int .i64 0, .int .i64 0, .int .i64 0, .int .i64 0, .int .i64 0, .int .i64 0, .bool false] _ (by simp [Act.eval]) (by simp [Act.eval, Act.put]) (by simp [Act.eval, Act.put]) (St.get S_w2.out 1 rfl) (St.get S_w2.out 0 rfl) rfl Tryz.underlying136 rfl (by kernel_rfl) (by simp [Value.oneCell']) (fun W hW hb => ?_)
    have HB : Hid (Below w.heap.size w W) := (St.below S_w2.out).trans (hb.mono (Nat.le_refl _))
    clear hb S_w2
    go_wp2
    exact bodyPost_ret (v := .agg #[.int .i64 e, .int .i64 0, .string ⟨#[]⟩, .int .i64 so, .bool false, .int .i64 0, .int .i64 0, .int .i64 0, .int .i64 0, .int .i64 0, .int .i64 0, .int .i64 0, .bool false]) (res_vd Tryz.results205 _ W (w.heap.size) [.int .i64 e, .int .i64 0, .string ⟨#[]⟩, .int .i64 so, .bool false, .int .i64 0, .int .i64 0, .int .i64 0, .int .i64 0, .int .i64 0, .int .i64 0, .int .i64 0, .bool false] rfl rfl hW) rfl ⟨rfl, HB.out⟩
  ·
    have hq : qb = false := by simpa using hbq
    subst hq
    go_wp2_with fail
    refine Calls.mono (CK.out _ (St.below S_v1.out)) ?_; rintro e w2 ⟨rfl, hb2⟩
    have S_w2 : Hid (St [(w.heap.size, #[.int .i64 0, .int .i64 0, .string ⟨#[]⟩, .int .i64 0, .bool false, .int .i64 0, .int .i64 0, .int .i64 0, .int .i64 0, .int .i64 0, .int .i64 0, .int .i64 0, .bool false], 136), (w1.heap.size, #[.int .i64 e, .int .i64 0, .string ⟨#[]⟩, .int .i64 so, .bool false, .int .i64 0, .int .i64 0, .int .i64 0, .int .i64 0, .int .i64 0, .int .i64 0, .int .i64 0, .bool false], 136)] w w2) := St.next S_v1.out hb2
    clear S_v1 hb2
    have hz_w2 : w1.heap.size < w2.heap.size := St.lt S_w2.out (x := (w1.heap.size, #[.int .i64 e, .int .i64 0, .string ⟨#[]⟩, .int .i64 so, .bool false, .int .i64 0, .int .i64 0, .int .i64 0, .int .i64 0, .int .i64 0, .int .i64 0, .int .i64 0, .bool false], 136)) (by simp)
    go_upto_region 4 with fail
    refine wp_copy (w := w2) 136 (.tmp 13) (.tmp 12) (.tmp 38) rfl rfl rfl rfl (w1.heap.size) (w.heap.size) [.int .i64 e, .int .i64 0, .string ⟨#[]⟩, .int .i64 so, .bool false, .int .i64 0, .int .i64 0, .int .i64 0, .int .i64 0, .int .i64 0, .int .i64 0, .int .i64 0, .bool false] _ (by simp [Act.eval]) (by simp [Act.eval, Act.put]) (by simp [Act.eval, Act.put]) (St.get S_w2.out 1 rfl) (St.get S_w2.out 0 rfl) rfl Tryz.underlying136 rfl (by kernel_rfl) (by simp [Value.oneCell']) (fun W hW hb => ?_)
    have HB : Hid (Below w.heap.size w W) := (St.below S_w2.out).trans (hb.mono (Nat.le_refl _))
    clear hb S_w2
    go_wp2
    exact bodyPost_ret (v := .agg #[.int .i64 e, .int .i64 0, .string ⟨#[]⟩, .int .i64 so, .bool false, .int .i64 0, .int .i64 0, .int .i64 0, .int .i64 0, .int .i64 0, .int .i64 0, .int .i64 0, .bool false]) (res_vd Tryz.results205 _ W (w.heap.size) [.int .i64 e, .int .i64 0, .string ⟨#[]⟩, .int .i64 so, .bool false, .int .i64 0, .int .i64 0, .int .i64 0, .int .i64 0, .int .i64 0, .int .i64 0, .int .i64 0, .bool false] rfl rfl hW) rfl ⟨rfl, HB.out⟩

theorem ret_int' {a b : Int} (h : a = b) : Value.int .i64 a = .int .i64 b := by rw [h]
set_option maxHeartbeats 8000000 in
set_option maxRecDepth 2000 in
theorem rown_yes (b : Nat) (s : ByteArray) (e sd mtu so x tk : Int) (b10 qb : Bool) (w : World) (x0 : 0 ≤ x) (x1 : x < 65536) (c6 : Ret 141 #[.string s, .int .i64 6, .int .i64 2] (.int .i64 x)) (e10 : (e == 10) = b10) (eq : (x / 16384 % 2 == 0) = qb) (cK : ∀ wx, Below w.heap.size w wx → Calls Tryz.prog 101 #[.pointer (some ⟨b, 0, none⟩)] wx fun e w' => e = .returned (.int .i64 tk) ∧ Below wx.heap.size wx w') (hbq : (b10 && qb) = false) (ht : 1 ≤ tk) (A K R : Int) (b9 b1 : Bool) (e9 : (e == 9) = b9) (e1 : (sd == 1) = b1) (hh : Int) (q X1 X2 X3 X4 X5 X6 X7 X8 Y1 Y2 G Z : ByteArray) (hh0 : 0 ≤ hh) (hh1 : hh ≤ 60) (cH : Ret 189 #[.string s] (.int .i64 hh)) (cq : Ret 146 #[.string s, .int .i64 0, .int .i64 (hh + 8)] (.string q)) (zq : q.size ≤ 1000)
    (cx1 : RetB 191 #[.int .i64 17664, .int .i64 2] (.string X1)) (cx2 : RetB 191 #[.int .i64 (28 + (q.size : Int)), .int .i64 2] (.string X2)) (cx3 : RetB 191 #[.int .i64 0, .int .i64 4] (.string X3)) (cx4 : RetB 191 #[.int .i64 64, .int .i64 1] (.string X4)) (cx5 : RetB 191 #[.int .i64 1, .int .i64 1] (.string X5)) (cx6 : RetB 191 #[.int .i64 0, .int .i64 2] (.string X6)) (cx7 : RetB 191 #[.int .i64 A, .int .i64 4] (.string X7)) (cx8 : Ret 146 #[.string s, .int .i64 12, .int .i64 16] (.string X8)) (cy1 : RetB 191 #[.int .i64 K, .int .i64 2] (.string Y1)) (cy2 : RetB 191 #[.int .i64 R, .int .i64 2] (.string Y2))
    (z1 : X1.size = 2) (z2 : X2.size = 2) (z3 : X3.size = 4) (z4 : X4.size = 1) (z5 : X5.size = 1) (z6 : X6.size = 2) (z7 : X7.size = 4) (z8 : X8.size ≤ 4) (y1 : Y1.size = 2) (y2 : Y2.size = 2)
    (cZ : RetB 228 #[.string (X1 ++ X2 ++ X3 ++ X4 ++ X5 ++ X6 ++ X7 ++ X8 ++ Y1 ++ X3 ++ Y2 ++ q)] (.string Z)) (ia oa : Int) (ci : ∀ wx, Below w.heap.size w wx → wx.cell? ⟨b, 0, none⟩ = some (.int .i64 ia)) (co : ∀ wx, Below w.heap.size w wx → wx.cell? ⟨b, 1, none⟩ = some (.int .i64 oa)) (hA : A = if b1 then oa else ia) (hK : K = if b10 then 772 else if b9 then 2816 else 771) (hR : R = if b10 then mtu else 0) :
    Calls Tryz.prog 205 #[.pointer (some ⟨b, 0, none⟩), .int .i64 sd, .string s, .int .i64 e, .int .i64 mtu, .int .i64 so] w fun r w' => r = .returned (.agg #[.int .i64 e, .int .i64 sd, .string Z, .int .i64 so, .bool false, .int .i64 0, .int .i64 0, .int .i64 0, .int .i64 0, .int .i64 0, .int .i64 0, .int .i64 0, .bool true]) ∧ Below w.heap.size w w' := by
  have h1 : decide (tk < 1) = false := by simpa using ht
  have CI : Hid _ := ci
  have CO : Hid _ := co
  have HA : Hid _ := hA
  have HK : Hid _ := hK
  have HR : Hid _ := hR
  clear ci co hA hK hR
  have CR : Hid (∀ w, Calls Tryz.prog 148 #[.int .i64 e, .int .i64 so] w fun e' w' => e' = .returned (.agg #[.int .i64 e, .int .i64 0, .string ⟨#[]⟩, .int .i64 so, .bool false, .int .i64 0, .int .i64 0, .int .i64 0, .int .i64 0, .int .i64 0, .int .i64 0, .int .i64 0, .bool false]) ∧ Below w.heap.size w w') := fun w => refused_any e so w
  have CK : Hid _ := cK
  clear cK
  go_enter Tryz.func205, Tryz.ntmps205
  go_upto_region 1 with fail
  have S_v0 : Hid (St [(w.heap.size, #[.int .i64 0, .int .i64 0, .string ⟨#[]⟩, .int .i64 0, .bool false, .int .i64 0, .int .i64 0, .int .i64 0, .int .i64 0, .int .i64 0, .int .i64 0, .int .i64 0, .bool false], 136)] w (w.alloc (.cells #[.int .i64 0, .int .i64 0, .string ⟨#[]⟩, .int .i64 0, .bool false, .int .i64 0, .int .i64 0, .int .i64 0, .int .i64 0, .int .i64 0, .int .i64 0, .int .i64 0, .bool false] 136))) := St.alloc (St.start w) #[.int .i64 0, .int .i64 0, .string ⟨#[]⟩, .int .i64 0, .bool false, .int .i64 0, .int .i64 0, .int .i64 0, .int .i64 0, .int .i64 0, .int .i64 0, .int .i64 0, .bool false] 136 (w.heap.size) rfl
  generalize (w.alloc (.cells #[.int .i64 0, .int .i64 0, .string ⟨#[]⟩, .int .i64 0, .bool false, .int .i64 0, .int .i64 0, .int .i64 0, .int .i64 0, .int .i64 0, .int .i64 0, .int .i64 0, .bool false] 136)) = v0 at S_v0 ⊢
  have hz_v0 : w.heap.size < v0.heap.size := St.lt S_v0.out (x := (w.heap.size, #[.int .i64 0, .int .i64 0, .string ⟨#[]⟩, .int .i64 0, .bool false, .int .i64 0, .int .i64 0, .int .i64 0, .int .i64 0, .int .i64 0, .int .i64 0, .int .i64 0, .bool false], 136)) (by simp)
  go_wp2_with fail
  refine Calls.mono (CR.out _) ?_; rintro e w1 ⟨rfl, hb1⟩
  have S_w1 : Hid (St [(w.heap.size, #[.int .i64 0, .int .i64 0, .string ⟨#[]⟩, .int .i64 0, .bool false, .int .i64 0, .int .i64 0, .int .i64 0, .int .i64 0, .int .i64 0, .int .i64 0, .int .i64 0, .bool false], 136)] w w1) := St.next S_v0.out hb1
  clear S_v0 hb1
  have hz_w1 : w.heap.size < w1.heap.size := St.lt S_w1.out (x := (w.heap.size, #[.int .i64 0, .int .i64 0, .string ⟨#[]⟩, .int .i64 0, .bool false, .int .i64 0, .int .i64 0, .int .i64 0, .int .i64 0, .int .i64 0, .int .i64 0, .int .i64 0, .bool false], 136)) (by simp)
  rename_i KK hKK
  refine hKK _ _ ?_
  refine keep_vd [.int .i64 e, .int .i64 0, .string ⟨#[]⟩, .int .i64 so, .bool false, .int .i64 0, .int .i64 0, .int .i64 0, .int .i64 0, .int .i64 0, .int .i64 0, .int .i64 0, .bool false] rfl rfl rfl rfl rfl (by simp [Value.oneCell']) (by simp [Act.eval, Act.put]) (by simp [Act.eval, Act.put]) ?_
  clear hKK
  clear KK
  have S_v1 : Hid (St [(w.heap.size, #[.int .i64 0, .int .i64 0, .string ⟨#[]⟩, .int .i64 0, .bool false, .int .i64 0, .int .i64 0, .int .i64 0, .int .i64 0, .int .i64 0, .int .i64 0, .int .i64 0, .bool false], 136), (w1.heap.size, #[.int .i64 e, .int .i64 0, .string ⟨#[]⟩, .int .i64 so, .bool false, .int .i64 0, .int .i64 0, .int .i64 0, .int .i64 0, .int .i64 0, .int .i64 0, .int .i64 0, .bool false], 136)] w (w1.alloc (.cells #[.int .i64 e, .int .i64 0, .string ⟨#[]⟩, .int .i64 so, .bool false, .int .i64 0, .int .i64 0, .int .i64 0, .int .i64 0, .int .i64 0, .int .i64 0, .int .i64 0, .bool false] 136))) := St.alloc S_w1.out #[.int .i64 e, .int .i64 0, .string ⟨#[]⟩, .int .i64 so, .bool false, .int .i64 0, .int .i64 0, .int .i64 0, .int .i64 0, .int .i64 0, .int .i64 0, .int .i64 0, .bool false] 136 (w1.heap.size) rfl
  have hs_v1 : w1.heap.size < (w1.alloc (.cells #[.int .i64 e, .int .i64 0, .string ⟨#[]⟩, .int .i64 so, .bool false, .int .i64 0, .int .i64 0, .int .i64 0, .int .i64 0, .int .i64 0, .int .i64 0, .int .i64 0, .bool false] 136)).heap.size := by simp
  generalize w1.alloc (.cells #[.int .i64 e, .int .i64 0, .string ⟨#[]⟩, .int .i64 so, .bool false, .int .i64 0, .int .i64 0, .int .i64 0, .int .i64 0, .int .i64 0, .int .i64 0, .int .i64 0, .bool false] 136) = v1 at S_v1 hs_v1  ⊢
  clear S_w1
  clear CR
  go_wp2_with fail
  refine Calls.mono (c6.at _) ?_; rintro e w' ⟨rfl, hw⟩; replace hw := hw.symm; subst hw
  go_upto_region 3 with fail
  try go_frame
  go_cut [37] (fun bv wx => bv = .bool false ∧ St [(w.heap.size, #[.int .i64 0, .int .i64 0, .string ⟨#[]⟩, .int .i64 0, .bool false, .int .i64 0, .int .i64 0, .int .i64 0, .int .i64 0, .int .i64 0, .int .i64 0, .int .i64 0, .bool false], 136), (w1.heap.size, #[.int .i64 e, .int .i64 0, .string ⟨#[]⟩, .int .i64 so, .bool false, .int .i64 0, .int .i64 0, .int .i64 0, .int .i64 0, .int .i64 0, .int .i64 0, .int .i64 0, .bool false], 136)] w wx)
  case first =>
    cases b10
    ·
      go_wp2_with fail
      refine Calls.mono (CK.out _ (St.below S_v1.out)) ?_; rintro e w2 ⟨rfl, hb2⟩
      have S_w2 : Hid (St [(w.heap.size, #[.int .i64 0, .int .i64 0, .string ⟨#[]⟩, .int .i64 0, .bool false, .int .i64 0, .int .i64 0, .int .i64 0, .int .i64 0, .int .i64 0, .int .i64 0, .int .i64 0, .bool false], 136), (w1.heap.size, #[.int .i64 e, .int .i64 0, .string ⟨#[]⟩, .int .i64 so, .bool false, .int .i64 0, .int .i64 0, .int .i64 0, .int .i64 0, .int .i64 0, .int .i64 0, .int .i64 0, .bool false], 136)] w w2) := St.next S_v1.out hb2
      clear S_v1 hb2
      have hz_w2 : w1.heap.size < w2.heap.size := St.lt S_w2.out (x := (w1.heap.size, #[.int .i64 e, .int .i64 0, .string ⟨#[]⟩, .int .i64 so, .bool false, .int .i64 0, .int .i64 0, .int .i64 0, .int .i64 0, .int .i64 0, .int .i64 0, .int .i64 0, .bool false], 136)) (by simp)
      go_wp2_with fail
      go_meet
      exact ⟨rfl, S_w2.out⟩
    ·
      have hq : qb = false := by simpa using hbq
      subst hq
      go_wp2_with fail
      refine Calls.mono (CK.out _ (St.below S_v1.out)) ?_; rintro e w2 ⟨rfl, hb2⟩
      have S_w2 : Hid (St [(w.heap.size, #[.int .i64 0, .int .i64 0, .string ⟨#[]⟩, .int .i64 0, .bool false, .int .i64 0, .int .i64 0, .int .i64 0, .int .i64 0, .int .i64 0, .int .i64 0, .int .i64 0, .bool false], 136), (w1.heap.size, #[.int .i64 e, .int .i64 0, .string ⟨#[]⟩, .int .i64 so, .bool false, .int .i64 0, .int .i64 0, .int .i64 0, .int .i64 0, .int .i64 0, .int .i64 0, .int .i64 0, .bool false], 136)] w w2) := St.next S_v1.out hb2
      clear S_v1 hb2
      have hz_w2 : w1.heap.size < w2.heap.size := St.lt S_w2.out (x := (w1.heap.size, #[.int .i64 e, .int .i64 0, .string ⟨#[]⟩, .int .i64 so, .bool false, .int .i64 0, .int .i64 0, .int .i64 0, .int .i64 0, .int .i64 0, .int .i64 0, .int .i64 0, .bool false], 136)) (by simp)
      go_wp2_with fail
      go_meet
      exact ⟨rfl, S_w2.out⟩
  case rest =>
    obtain ⟨rfl, hcut⟩ := hcut
    obtain ⟨w9, hw9⟩ : ∃ w9 : World, w9 = wc := ⟨_, rfl⟩
    subst hw9
    have S_w9 : Hid (St [(w.heap.size, #[.int .i64 0, .int .i64 0, .string ⟨#[]⟩, .int .i64 0, .bool false, .int .i64 0, .int .i64 0, .int .i64 0, .int .i64 0, .int .i64 0, .int .i64 0, .int .i64 0, .bool false], 136), (w1.heap.size, #[.int .i64 e, .int .i64 0, .string ⟨#[]⟩, .int .i64 so, .bool false, .int .i64 0, .int .i64 0, .int .i64 0, .int .i64 0, .int .i64 0, .int .i64 0, .int .i64 0, .bool false], 136)] w w9) := hcut
    clear S_v1
    have hz_w9 : w1.heap.size < w9.heap.size := St.lt S_w9.out (x := (w1.heap.size, #[.int .i64 e, .int .i64 0, .string ⟨#[]⟩, .int .i64 so, .bool false, .int .i64 0, .int .i64 0, .int .i64 0, .int .i64 0, .int .i64 0, .int .i64 0, .int .i64 0, .bool false], 136)) (by simp)
    clear hcut CK
    go_upto_if 40 with fail
    try go_frame
    obtain ⟨k1, hk1⟩ : ∃ k1 : Int, k1 = if b9 then 2816 else 771 := ⟨_, rfl⟩
    have HK1 : Hid _ := hk1
    clear hk1
    go_cut [15] (fun kv wx => kv = .int .i64 k1 ∧ wx = w9)
    case first =>
      cases b9
      · have h : Hid (k1 = 771) := HK1.out
        go_wp2_with fail
        go_meet
        exact ⟨ret_int' (h.out.symm), rfl⟩
      · have h : Hid (k1 = 2816) := HK1.out
        go_wp2_with fail
        go_meet
        exact ⟨ret_int' (h.out.symm), rfl⟩
    case rest =>
      obtain ⟨rfl, hw⟩ := hcut
      replace hw := hw.symm; subst hw
      have HK2 : Hid (K = if b10 then 772 else k1) := by show _ = _; rw [HK.out, HK1.out]
      clear HK HK1
      go_upto_if 42 with fail
      try go_frame
      go_cut [15, 16] (fun kv rv wx => kv = .int .i64 K ∧ rv = .int .i64 R ∧ wx = w9)
      case first =>
        cases b10
        · have h : Hid (K = k1) := HK2.out
          have h' : Hid (R = 0) := HR.out
          go_wp2_with fail
          go_meet
          exact ⟨ret_int' (h.out.symm), ret_int' (h'.out.symm), rfl⟩
        · have h : Hid (K = 772) := HK2.out
          have h' : Hid (R = mtu) := HR.out
          go_wp2_with fail
          go_meet
          exact ⟨ret_int' (h.out.symm), ret_int' (h'.out.symm), rfl⟩
      case rest =>
        obtain ⟨rfl, rfl, hw⟩ := hcut
        replace hw := hw.symm; subst hw
        clear HK2 HR
        have di := CI.out _ (St.below S_w9.out)
        have do_ := CO.out _ (St.below S_w9.out)
        clear CI CO
        go_upto_if 50 with fail
        try go_frame
        go_cut [17] (fun av wx => av = .int .i64 A ∧ wx = w9)
        case first =>
          cases b1
          · have h : Hid (A = ia) := HA.out
            go_wp2_with fail
            go_meet
            exact ⟨ret_int' (h.out.symm), rfl⟩
          · have h : Hid (A = oa) := HA.out
            go_wp2_with fail
            go_meet
            exact ⟨ret_int' (h.out.symm), rfl⟩
        case rest =>
          obtain ⟨rfl, hw⟩ := hcut
          replace hw := hw.symm; subst hw
          clear HA di do_
          go_wp2_with fail
          refine Calls.mono (cH.at _) ?_; rintro e w' ⟨rfl, hw⟩; replace hw := hw.symm; subst hw
          go_wp2_with fail
          refine Calls.mono (cq.at _) ?_; rintro e w' ⟨rfl, hw⟩; replace hw := hw.symm; subst hw
          go_wp2_with fail
          refine Calls.mono (cx1.at _) ?_; rintro e w10 ⟨rfl, hb10⟩
          have S_w10 : Hid (St [(w.heap.size, #[.int .i64 0, .int .i64 0, .string ⟨#[]⟩, .int .i64 0, .bool false, .int .i64 0, .int .i64 0, .int .i64 0, .int .i64 0, .int .i64 0, .int .i64 0, .int .i64 0, .bool false], 136), (w1.heap.size, #[.int .i64 e, .int .i64 0, .string ⟨#[]⟩, .int .i64 so, .bool false, .int .i64 0, .int .i64 0, .int .i64 0, .int .i64 0, .int .i64 0, .int .i64 0, .int .i64 0, .bool false], 136)] w w10) := St.next S_w9.out hb10
          clear S_w9 hb10
          have hz_w10 : w1.heap.size < w10.heap.size := St.lt S_w10.out (x := (w1.heap.size, #[.int .i64 e, .int .i64 0, .string ⟨#[]⟩, .int .i64 so, .bool false, .int .i64 0, .int .i64 0, .int .i64 0, .int .i64 0, .int .i64 0, .int .i64 0, .int .i64 0, .bool false], 136)) (by simp)
          go_wp2_with fail
          refine Calls.mono (cx2.at _) ?_; rintro e w11 ⟨rfl, hb11⟩
          have S_w11 : Hid (St [(w.heap.size, #[.int .i64 0, .int .i64 0, .string ⟨#[]⟩, .int .i64 0, .bool false, .int .i64 0, .int .i64 0, .int .i64 0, .int .i64 0, .int .i64 0, .int .i64 0, .int .i64 0, .bool false], 136), (w1.heap.size, #[.int .i64 e, .int .i64 0, .string ⟨#[]⟩, .int .i64 so, .bool false, .int .i64 0, .int .i64 0, .int .i64 0, .int .i64 0, .int .i64 0, .int .i64 0, .int .i64 0, .bool false], 136)] w w11) := St.next S_w10.out hb11
          clear S_w10 hb11
          have hz_w11 : w1.heap.size < w11.heap.size := St.lt S_w11.out (x := (w1.heap.size, #[.int .i64 e, .int .i64 0, .string ⟨#[]⟩, .int .i64 so, .bool false, .int .i64 0, .int .i64 0, .int .i64 0, .int .i64 0, .int .i64 0, .int .i64 0, .int .i64 0, .bool false], 136)) (by simp)
          go_wp2_with fail
          refine Calls.mono (cx3.at _) ?_; rintro e w12 ⟨rfl, hb12⟩
          have S_w12 : Hid (St [(w.heap.size, #[.int .i64 0, .int .i64 0, .string ⟨#[]⟩, .int .i64 0, .bool false, .int .i64 0, .int .i64 0, .int .i64 0, .int .i64 0, .int .i64 0, .int .i64 0, .int .i64 0, .bool false], 136), (w1.heap.size, #[.int .i64 e, .int .i64 0, .string ⟨#[]⟩, .int .i64 so, .bool false, .int .i64 0, .int .i64 0, .int .i64 0, .int .i64 0, .int .i64 0, .int .i64 0, .int .i64 0, .bool false], 136)] w w12) := St.next S_w11.out hb12
          clear S_w11 hb12
          have hz_w12 : w1.heap.size < w12.heap.size := St.lt S_w12.out (x := (w1.heap.size, #[.int .i64 e, .int .i64 0, .string ⟨#[]⟩, .int .i64 so, .bool false, .int .i64 0, .int .i64 0, .int .i64 0, .int .i64 0, .int .i64 0, .int .i64 0, .int .i64 0, .bool false], 136)) (by simp)
          go_wp2_with fail
          refine Calls.mono (cx4.at _) ?_; rintro e w13 ⟨rfl, hb13⟩
          have S_w13 : Hid (St [(w.heap.size, #[.int .i64 0, .int .i64 0, .string ⟨#[]⟩, .int .i64 0, .bool false, .int .i64 0, .int .i64 0, .int .i64 0, .int .i64 0, .int .i64 0, .int .i64 0, .int .i64 0, .bool false], 136), (w1.heap.size, #[.int .i64 e, .int .i64 0, .string ⟨#[]⟩, .int .i64 so, .bool false, .int .i64 0, .int .i64 0, .int .i64 0, .int .i64 0, .int .i64 0, .int .i64 0, .int .i64 0, .bool false], 136)] w w13) := St.next S_w12.out hb13
          clear S_w12 hb13
          have hz_w13 : w1.heap.size < w13.heap.size := St.lt S_w13.out (x := (w1.heap.size, #[.int .i64 e, .int .i64 0, .string ⟨#[]⟩, .int .i64 so, .bool false, .int .i64 0, .int .i64 0, .int .i64 0, .int .i64 0, .int .i64 0, .int .i64 0, .int .i64 0, .bool false], 136)) (by simp)
          go_wp2_with fail
          refine Calls.mono (cx5.at _) ?_; rintro e w14 ⟨rfl, hb14⟩
          have S_w14 : Hid (St [(w.heap.size, #[.int .i64 0, .int .i64 0, .string ⟨#[]⟩, .int .i64 0, .bool false, .int .i64 0, .int .i64 0, .int .i64 0, .int .i64 0, .int .i64 0, .int .i64 0, .int .i64 0, .bool false], 136), (w1.heap.size, #[.int .i64 e, .int .i64 0, .string ⟨#[]⟩, .int .i64 so, .bool false, .int .i64 0, .int .i64 0, .int .i64 0, .int .i64 0, .int .i64 0, .int .i64 0, .int .i64 0, .bool false], 136)] w w14) := St.next S_w13.out hb14
          clear S_w13 hb14
          have hz_w14 : w1.heap.size < w14.heap.size := St.lt S_w14.out (x := (w1.heap.size, #[.int .i64 e, .int .i64 0, .string ⟨#[]⟩, .int .i64 so, .bool false, .int .i64 0, .int .i64 0, .int .i64 0, .int .i64 0, .int .i64 0, .int .i64 0, .int .i64 0, .bool false], 136)) (by simp)
          go_wp2_with fail
          refine Calls.mono (cx6.at _) ?_; rintro e w15 ⟨rfl, hb15⟩
          have S_w15 : Hid (St [(w.heap.size, #[.int .i64 0, .int .i64 0, .string ⟨#[]⟩, .int .i64 0, .bool false, .int .i64 0, .int .i64 0, .int .i64 0, .int .i64 0, .int .i64 0, .int .i64 0, .int .i64 0, .bool false], 136), (w1.heap.size, #[.int .i64 e, .int .i64 0, .string ⟨#[]⟩, .int .i64 so, .bool false, .int .i64 0, .int .i64 0, .int .i64 0, .int .i64 0, .int .i64 0, .int .i64 0, .int .i64 0, .bool false], 136)] w w15) := St.next S_w14.out hb15
          clear S_w14 hb15
          have hz_w15 : w1.heap.size < w15.heap.size := St.lt S_w15.out (x := (w1.heap.size, #[.int .i64 e, .int .i64 0, .string ⟨#[]⟩, .int .i64 so, .bool false, .int .i64 0, .int .i64 0, .int .i64 0, .int .i64 0, .int .i64 0, .int .i64 0, .int .i64 0, .bool false], 136)) (by simp)
          go_wp2_with fail
          refine Calls.mono (cx7.at _) ?_; rintro e w16 ⟨rfl, hb16⟩
          have S_w16 : Hid (St [(w.heap.size, #[.int .i64 0, .int .i64 0, .string ⟨#[]⟩, .int .i64 0, .bool false, .int .i64 0, .int .i64 0, .int .i64 0, .int .i64 0, .int .i64 0, .int .i64 0, .int .i64 0, .bool false], 136), (w1.heap.size, #[.int .i64 e, .int .i64 0, .string ⟨#[]⟩, .int .i64 so, .bool false, .int .i64 0, .int .i64 0, .int .i64 0, .int .i64 0, .int .i64 0, .int .i64 0, .int .i64 0, .bool false], 136)] w w16) := St.next S_w15.out hb16
          clear S_w15 hb16
          have hz_w16 : w1.heap.size < w16.heap.size := St.lt S_w16.out (x := (w1.heap.size, #[.int .i64 e, .int .i64 0, .string ⟨#[]⟩, .int .i64 so, .bool false, .int .i64 0, .int .i64 0, .int .i64 0, .int .i64 0, .int .i64 0, .int .i64 0, .int .i64 0, .bool false], 136)) (by simp)
          go_wp2_with fail
          refine Calls.mono (cx8.at _) ?_; rintro e w' ⟨rfl, hw⟩; replace hw := hw.symm; subst hw
          go_wp2_with fail
          refine Calls.mono (cy1.at _) ?_; rintro e w17 ⟨rfl, hb17⟩
          have S_w17 : Hid (St [(w.heap.size, #[.int .i64 0, .int .i64 0, .string ⟨#[]⟩, .int .i64 0, .bool false, .int .i64 0, .int .i64 0, .int .i64 0, .int .i64 0, .int .i64 0, .int .i64 0, .int .i64 0, .bool false], 136), (w1.heap.size, #[.int .i64 e, .int .i64 0, .string ⟨#[]⟩, .int .i64 so, .bool false, .int .i64 0, .int .i64 0, .int .i64 0, .int .i64 0, .int .i64 0, .int .i64 0, .int .i64 0, .bool false], 136)] w w17) := St.next S_w16.out hb17
          clear S_w16 hb17
          have hz_w17 : w1.heap.size < w17.heap.size := St.lt S_w17.out (x := (w1.heap.size, #[.int .i64 e, .int .i64 0, .string ⟨#[]⟩, .int .i64 so, .bool false, .int .i64 0, .int .i64 0, .int .i64 0, .int .i64 0, .int .i64 0, .int .i64 0, .int .i64 0, .bool false], 136)) (by simp)
          go_wp2_with fail
          refine Calls.mono (cx3.at _) ?_; rintro e w18 ⟨rfl, hb18⟩
          have S_w18 : Hid (St [(w.heap.size, #[.int .i64 0, .int .i64 0, .string ⟨#[]⟩, .int .i64 0, .bool false, .int .i64 0, .int .i64 0, .int .i64 0, .int .i64 0, .int .i64 0, .int .i64 0, .int .i64 0, .bool false], 136), (w1.heap.size, #[.int .i64 e, .int .i64 0, .string ⟨#[]⟩, .int .i64 so, .bool false, .int .i64 0, .int .i64 0, .int .i64 0, .int .i64 0, .int .i64 0, .int .i64 0, .int .i64 0, .bool false], 136)] w w18) := St.next S_w17.out hb18
          clear S_w17 hb18
          have hz_w18 : w1.heap.size < w18.heap.size := St.lt S_w18.out (x := (w1.heap.size, #[.int .i64 e, .int .i64 0, .string ⟨#[]⟩, .int .i64 so, .bool false, .int .i64 0, .int .i64 0, .int .i64 0, .int .i64 0, .int .i64 0, .int .i64 0, .int .i64 0, .bool false], 136)) (by simp)
          go_wp2_with fail
          refine Calls.mono (cy2.at _) ?_; rintro e w19 ⟨rfl, hb19⟩
          have S_w19 : Hid (St [(w.heap.size, #[.int .i64 0, .int .i64 0, .string ⟨#[]⟩, .int .i64 0, .bool false, .int .i64 0, .int .i64 0, .int .i64 0, .int .i64 0, .int .i64 0, .int .i64 0, .int .i64 0, .bool false], 136), (w1.heap.size, #[.int .i64 e, .int .i64 0, .string ⟨#[]⟩, .int .i64 so, .bool false, .int .i64 0, .int .i64 0, .int .i64 0, .int .i64 0, .int .i64 0, .int .i64 0, .int .i64 0, .bool false], 136)] w w19) := St.next S_w18.out hb19
          clear S_w18 hb19
          have hz_w19 : w1.heap.size < w19.heap.size := St.lt S_w19.out (x := (w1.heap.size, #[.int .i64 e, .int .i64 0, .string ⟨#[]⟩, .int .i64 so, .bool false, .int .i64 0, .int .i64 0, .int .i64 0, .int .i64 0, .int .i64 0, .int .i64 0, .int .i64 0, .bool false], 136)) (by simp)
          have fz := St.frz 1 rfl S_w19.out
          have q_v1 : w19.cell? ⟨w1.heap.size, 1, none⟩ = some (.int .i64 0) := St.at 1 1 rfl rfl _ S_w19.out
          go_upto_region 19 with fail
          try go_frame
          have S_u20 : Hid (St [(w.heap.size, #[.int .i64 0, .int .i64 0, .string ⟨#[]⟩, .int .i64 0, .bool false, .int .i64 0, .int .i64 0, .int .i64 0, .int .i64 0, .int .i64 0, .int .i64 0, .int .i64 0, .bool false], 136), (w1.heap.size, #[.int .i64 e, .int .i64 sd, .string ⟨#[]⟩, .int .i64 so, .bool false, .int .i64 0, .int .i64 0, .int .i64 0, .int .i64 0, .int .i64 0, .int .i64 0, .int .i64 0, .bool false], 136)] w (w19.setCell ⟨w1.heap.size, 1, none⟩ (.int .i64 sd))) := St.setAt (L1 := [(w.heap.size, #[.int .i64 0, .int .i64 0, .string ⟨#[]⟩, .int .i64 0, .bool false, .int .i64 0, .int .i64 0, .int .i64 0, .int .i64 0, .int .i64 0, .int .i64 0, .int .i64 0, .bool false], 136)]) (L2 := []) S_w19.out (by omega) (by simp; omega) 1 (.int .i64 sd)
          generalize w19.setCell ⟨w1.heap.size, 1, none⟩ (.int .i64 sd) = u20 at S_u20 ⊢
          clear S_w19 fz q_v1
          have hz_u20 : w1.heap.size < u20.heap.size := St.lt S_u20.out (x := (w1.heap.size, #[.int .i64 e, .int .i64 sd, .string ⟨#[]⟩, .int .i64 so, .bool false, .int .i64 0, .int .i64 0, .int .i64 0, .int .i64 0, .int .i64 0, .int .i64 0, .int .i64 0, .bool false], 136)) (by simp)
          go_wp2_with fail
          refine Calls.mono (cZ.at _) ?_; rintro e w21 ⟨rfl, hb21⟩
          have S_w21 : Hid (St [(w.heap.size, #[.int .i64 0, .int .i64 0, .string ⟨#[]⟩, .int .i64 0, .bool false, .int .i64 0, .int .i64 0, .int .i64 0, .int .i64 0, .int .i64 0, .int .i64 0, .int .i64 0, .bool false], 136), (w1.heap.size, #[.int .i64 e, .int .i64 sd, .string ⟨#[]⟩, .int .i64 so, .bool false, .int .i64 0, .int .i64 0, .int .i64 0, .int .i64 0, .int .i64 0, .int .i64 0, .int .i64 0, .bool false], 136)] w w21) := St.next S_u20.out hb21
          clear S_u20 hb21
          have hz_w21 : w1.heap.size < w21.heap.size := St.lt S_w21.out (x := (w1.heap.size, #[.int .i64 e, .int .i64 sd, .string ⟨#[]⟩, .int .i64 so, .bool false, .int .i64 0, .int .i64 0, .int .i64 0, .int .i64 0, .int .i64 0, .int .i64 0, .int .i64 0, .bool false], 136)) (by simp)
          have fz := St.frz 1 rfl S_w21.out
          have q_v2 : w21.cell? ⟨w1.heap.size, 2, none⟩ = some (.string ⟨#[]⟩) := St.at 1 2 rfl rfl _ S_w21.out
          go_upto_region 20 with fail
          try go_frame
          have S_u22 : Hid (St [(w.heap.size, #[.int .i64 0, .int .i64 0, .string ⟨#[]⟩, .int .i64 0, .bool false, .int .i64 0, .int .i64 0, .int .i64 0, .int .i64 0, .int .i64 0, .int .i64 0, .int .i64 0, .bool false], 136), (w1.heap.size, #[.int .i64 e, .int .i64 sd, .string Z, .int .i64 so, .bool false, .int .i64 0, .int .i64 0, .int .i64 0, .int .i64 0, .int .i64 0, .int .i64 0, .int .i64 0, .bool false], 136)] w (w21.setCell ⟨w1.heap.size, 2, none⟩ (.string Z))) := St.setAt (L1 := [(w.heap.size, #[.int .i64 0, .int .i64 0, .string ⟨#[]⟩, .int .i64 0, .bool false, .int .i64 0, .int .i64 0, .int .i64 0, .int .i64 0, .int .i64 0, .int .i64 0, .int .i64 0, .bool false], 136)]) (L2 := []) S_w21.out (by omega) (by simp; omega) 2 (.string Z)
          generalize w21.setCell ⟨w1.heap.size, 2, none⟩ (.string Z) = u22 at S_u22 ⊢
          clear S_w21 fz q_v2
          have hz_u22 : w1.heap.size < u22.heap.size := St.lt S_u22.out (x := (w1.heap.size, #[.int .i64 e, .int .i64 sd, .string Z, .int .i64 so, .bool false, .int .i64 0, .int .i64 0, .int .i64 0, .int .i64 0, .int .i64 0, .int .i64 0, .int .i64 0, .bool false], 136)) (by simp)
          have fz := St.frz 1 rfl S_u22.out
          have q_v12 : u22.cell? ⟨w1.heap.size, 12, none⟩ = some (.bool false) := St.at 1 12 rfl rfl _ S_u22.out
          go_upto_region 21 with fail
          try go_frame
          have S_u23 : Hid (St [(w.heap.size, #[.int .i64 0, .int .i64 0, .string ⟨#[]⟩, .int .i64 0, .bool false, .int .i64 0, .int .i64 0, .int .i64 0, .int .i64 0, .int .i64 0, .int .i64 0, .int .i64 0, .bool false], 136), (w1.heap.size, #[.int .i64 e, .int .i64 sd, .string Z, .int .i64 so, .bool false, .int .i64 0, .int .i64 0, .int .i64 0, .int .i64 0, .int .i64 0, .int .i64 0, .int .i64 0, .bool true], 136)] w (u22.setCell ⟨w1.heap.size, 12, none⟩ (.bool true))) := St.setAt (L1 := [(w.heap.size, #[.int .i64 0, .int .i64 0, .string ⟨#[]⟩, .int .i64 0, .bool false, .int .i64 0, .int .i64 0, .int .i64 0, .int .i64 0, .int .i64 0, .int .i64 0, .int .i64 0, .bool false], 136)]) (L2 := []) S_u22.out (by omega) (by simp; omega) 12 (.bool true)
          generalize u22.setCell ⟨w1.heap.size, 12, none⟩ (.bool true) = u23 at S_u23 ⊢
          clear S_u22 fz q_v12
          have hz_u23 : w1.heap.size < u23.heap.size := St.lt S_u23.out (x := (w1.heap.size, #[.int .i64 e, .int .i64 sd, .string Z, .int .i64 so, .bool false, .int .i64 0, .int .i64 0, .int .i64 0, .int .i64 0, .int .i64 0, .int .i64 0, .int .i64 0, .bool true], 136)) (by simp)
          refine wp_copy (w := u23) 136 (.tmp 13) (.tmp 12) (.tmp 100) rfl rfl rfl rfl (w1.heap.size) (w.heap.size) [.int .i64 e, .int .i64 sd, .string Z, .int .i64 so, .bool false, .int .i64 0, .int .i64 0, .int .i64 0, .int .i64 0, .int .i64 0, .int .i64 0, .int .i64 0, .bool true] _ (by simp [Act.eval]) (by simp [Act.eval, Act.put]) (by simp [Act.eval, Act.put]) (St.get S_u23.out 1 rfl) (St.get S_u23.out 0 rfl) rfl Tryz.underlying136 rfl (by kernel_rfl) (by simp [Value.oneCell']) (fun W hW hb => ?_)
          have HB : Hid (Below w.heap.size w W) := (St.below S_u23.out).trans (hb.mono (Nat.le_refl _))
          clear hb S_u23
          go_wp2
          exact bodyPost_ret (v := .agg #[.int .i64 e, .int .i64 sd, .string Z, .int .i64 so, .bool false, .int .i64 0, .int .i64 0, .int .i64 0, .int .i64 0, .int .i64 0, .int .i64 0, .int .i64 0, .bool true]) (res_vd Tryz.results205 _ W (w.heap.size) [.int .i64 e, .int .i64 sd, .string Z, .int .i64 so, .bool false, .int .i64 0, .int .i64 0, .int .i64 0, .int .i64 0, .int .i64 0, .int .i64 0, .int .i64 0, .bool true] rfl rfl hW) rfl ⟨rfl, HB.out⟩

end Go.Proofs.YthiljpbodmajaabGreat
namespace Go.Proofs.YthiljpbodmajaabGreat
open Go.RowKit Plain
set_option linter.unusedVariables false

/-- the reference's box, and the table and the tokens that it stands for -/
structure Rx (w : World) (base b : Nat) (c : Cf) (now : Int) (us : List Us) (own : List Int) (uv ov : Value) (tk : Int) (ms : List Mp) : Prop where
  rb : Rb w base b c now us own uv ov
  sim : Sim c now us ms
  uok : Uok now us
  t0 : 0 ≤ now
  t2 : now ≤ 1099511627776
  ok : c.ok = true
  tok : tokR c now own = tk
  ow : ∀ t ∈ own, 0 ≤ t ∧ t ≤ now
section
variable {w w' : World} {base b : Nat} {c : Cf} {now : Int} {us : List Us} {own : List Int} {uv ov : Value} {tk : Int} {ms : List Mp}
theorem Rx.below (h : Rx w base b c now us own uv ov tk ms) (k : Below w.heap.size w w') : Rx w' base b c now us own uv ov tk ms := ⟨h.rb.below k, h.sim, h.uok, h.t0, h.t2, h.ok, h.tok, h.ow⟩
theorem Rx.tokens (h : Rx w base b c now us own uv ov tk ms) : Calls Tryz.prog 101 #[.pointer (some ⟨b, 0, none⟩)] w fun e w' => e = .returned (.int .i64 tk) ∧ Below w.heap.size w w' := by
  have C := cok_rest h.ok
  have := rtokens_any h.rb h.t0 h.t2 C.1 C.2.1 h.ow
  rw [h.tok] at this
  exact this
end
theorem prt2 (s : ByteArray) (i : Int) (h0 : 0 ≤ i) (h1 : i + 2 ≤ s.size) : prt s i (i + 2) = w2 (wd s i) := by
  have hb := wd_bd s i
  have e := bt_w2 (wd s i) hb.1 hb.2
  have hv : wd s i = bt s i * 256 + bt s (i + 1) := rfl
  have b0 := bt_bd s i
  have b1' := bt_bd s (i + 1)
  have c0 := bt_bd (w2 (wd s i)) 0
  have c1 := bt_bd (w2 (wd s i)) 1
  refine bt_ext (by rw [prt_size, w2_size]; omega) (fun k hk => ?_)
  have hk2 : k < 2 := by rw [prt_size] at hk; omega
  rw [bt_prt s i _ k h0 (by omega) (by omega)]
  generalize wd s i = v at *
  rcases (by omega : k = 0 ∨ k = 1) with rfl | rfl
  · simp only [Int.natCast_zero, Int.add_zero] at *; omega
  · simp only [Int.natCast_one] at *; omega
theorem prt_join (s : ByteArray) (a b c : Int) (h0 : 0 ≤ a) (h1 : a ≤ b) (h2 : b ≤ c) : prt s a c = prt s a b ++ prt s b c := by
  unfold prt
  rw [ByteArray.extract_append_extract]
  congr 1
  · omega
  · omega
theorem prt4 (s : ByteArray) (i : Int) (h0 : 0 ≤ i) (h1 : i + 4 ≤ s.size) : prt s i (i + 4) = l4 (lg s i) := by
  rw [prt_join s i (i + 2) (i + 4) h0 (by omega) (by omega), prt2 s i h0 (by omega), show i + 4 = i + 2 + 2 by omega, prt2 s (i + 2) (by omega) (by omega)]
  have a := wd_bd s i
  have b := wd_bd s (i + 2)
  unfold l4 lg
  rw [show (wd s i * 65536 + wd s (i + 2)) / 65536 = wd s i by omega, show (wd s i * 65536 + wd s (i + 2)) % 65536 = wd s (i + 2) by omega]
section
variable {w w' : World} {base b : Nat} {c : Cf} {now : Int} {us : List Us} {own : List Int} {uv ov : Value} {tk : Int} {ms : List Mp}
theorem tlm_own (s : ByteArray) (f W h : Int) (n20 : 20 ≤ s.size) : w2 17664 ++ w2 (28 + ((prt s 0 (hdv s + 8)).size : Int)) ++ l4 0 ++ b1 64 ++ b1 1 ++ w2 0 ++ l4 f ++ prt s 12 16 ++ w2 W ++ l4 0 ++ w2 h ++ prt s 0 (hdv s + 8) = tlm s f W h := by
  unfold tlm
  rw [← own_hd, show prt s 12 16 = l4 (lg s 12) from prt4 s 12 (by decide) (by omega)]
  have e3 : w2 16385 = b1 64 ++ b1 1 := by decide
  rw [e3, show (20 : Int) + (8 + ((prt s 0 (hdv s + 8)).size : Int)) = 28 + ((prt s 0 (hdv s + 8)).size : Int) by omega]
  simp only [ByteArray.append_assoc]
theorem rown_any (X : Rx w base b c now us own uv ov tk ms) (s : ByteArray) (hs : s.size ≤ 65535) (n20 : 20 ≤ s.size) (h8 : hdv s + 8 ≤ s.size) (e sd mtu so : Int) (he : e = 9 ∨ e = 10 ∨ e = 11) (hsd : sd = 0 ∨ sd = 1) (m0 : 0 ≤ mtu) (m1 : mtu < 65536) :
    Calls Tryz.prog 205 #[.pointer (some ⟨b, 0, none⟩), .int .i64 sd, .string s, .int .i64 e, .int .i64 mtu, .int .i64 so] w fun r w' => r = .returned (.agg (vdl e (rfs c e sd mtu tk ms s).sd (rfs c e sd mtu tk ms s).fr so false us0 (telB e tk s)).toArray) ∧ Below w.heap.size w w' := by
  have hl : s.size ≤ maxLen := size_le hs
  have b6 := wd_bd s 6
  have c6 : Ret 141 #[.string s, .int .i64 6, .int .i64 2] (.int .i64 (wd s 6)) := fun w => number2 s 6 w hl (by decide) (by decide)
  have eq : (wd s 6 / 16384 % 2 == 0) = mbc s := rfl
  have C := cok_of X.ok
  have hia := us_bd C.ia
  have hoa := us_bd C.oa
  by_cases h1 : (e == 10) = true ∧ mbc s = true
  · have ht : telB e tk s = false := by simp [telB, h1.1, h1.2]
    unfold rfs
    rw [ht]
    exact rown_cut b s e sd mtu so (wd s 6) tk (e == 10) (mbc s) w b6.1 b6.2 c6 rfl eq h1.1 h1.2
  · have hbq : ((e == 10) && mbc s) = false := by
      cases q1 : (e == 10) <;> cases q2 : mbc s <;> simp_all
    by_cases h2 : tk < 1
    · have ht : telB e tk s = false := by simp [telB]; omega
      unfold rfs
      rw [ht]
      exact rown_poor b s e sd mtu so (wd s 6) tk (e == 10) (mbc s) w b6.1 b6.2 c6 rfl eq (fun wx hb => (X.below hb).tokens) hbq h2
    · have ht : telB e tk s = true := by
        simp only [telB, Bool.and_eq_true, decide_eq_true_eq]
        refine ⟨by omega, ?_⟩
        cases q1 : (e == 10) <;> cases q2 : mbc s <;> simp_all
      unfold rfs
      rw [ht]
      simp only [if_true]
      have hhd := hdv_bd s
      have zq : (prt s 0 (hdv s + 8)).size ≤ 1000 := by rw [prt_size]; omega
      obtain ⟨Sm, m9⟩ := tlm_sok s (adS c sd) (twd e) (thn e mtu) zq
      have cZ := rsealed_any (tlm s (adS c sd) (twd e) (thn e mtu)) Sm (.inr (.inr m9))
      have hA : 0 ≤ adS c sd ∧ adS c sd < 4294967296 := by unfold adS; split <;> assumption
      have hK : 0 ≤ twd e ∧ twd e < 65536 := by unfold twd; split; decide; split <;> decide
      have hR : 0 ≤ thn e mtu ∧ thn e mtu < 65536 := by unfold thn; split; exact ⟨m0, m1⟩; decide
      refine rown_yes b s e sd mtu so (wd s 6) tk (e == 10) (mbc s) w b6.1 b6.2 c6 rfl eq (fun wx hb => (X.below hb).tokens) hbq (by omega) (adS c sd) (twd e) (thn e mtu) (e == 9) (sd == 1) rfl rfl (hdv s) (prt s 0 (hdv s + 8)) (w2 17664) (w2 (28 + ((prt s 0 (hdv s + 8)).size : Int))) (l4 0) (b1 64) (b1 1) (w2 0) (l4 (adS c sd)) (prt s 12 16) (w2 (twd e)) (w2 (thn e mtu)) ByteArray.empty _ hhd.1 hhd.2 (fun w => head_any s w hl) (fun w => part_any s 0 (hdv s + 8) w (by decide) (by omega)) zq
        (fun w => text2 17664 w (by decide) (by decide)) (fun w => text2 _ w (by omega) (by omega)) (text4 0 (by decide) (by decide)) (text1b 64 (by decide) (by decide)) (text1b 1 (by decide) (by decide)) (fun w => text2 0 w (by decide) (by decide)) (text4 _ hA.1 hA.2) (fun w => part_any s 12 16 w (by decide) (by decide)) (fun w => text2 _ w hK.1 hK.2) (fun w => text2 _ w hR.1 hR.2)
        (w2_size _) (w2_size _) (l4_size _) (b1_size _) (b1_size _) (w2_size _) (l4_size _) (by rw [prt_size]; omega) (w2_size _) (w2_size _) (by rw [tlm_own s _ _ _ n20]; exact cZ) c.ia c.oa (fun wx hb => (X.rb.below hb).at 0 rfl) (fun wx hb => (X.rb.below hb).at 1 rfl) ?_ ?_ ?_
      · unfold adS; simp
      · unfold twd; rcases he with rfl | rfl | rfl <;> simp
      · unfold thn; simp
end
end Go.Proofs.YthiljpbodmajaabGreat
