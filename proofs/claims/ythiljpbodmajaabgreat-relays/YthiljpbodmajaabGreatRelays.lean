/-
  natboxlaw.Relays.
-/
import Derived.Test.YthiljpbodmajaabGreatRows
import Derived.WalkKit
import Derived.ProofKit
import Derived.OpenShut
import Derived.ChangeOld
import Derived.Below
import Derived.SizedLaws
import Derived.Test.YthiljpbodmajaabGreatLwop
import Derived.Test.YthiljpbodmajaabGreatLawi
namespace Go.Proofs.YthiljpbodmajaabGreat.relays
open Go.ChangeShapes Go.WideShapes Go.ChangeAt Go.RowKit Plain
set_option linter.unusedVariables false

theorem own : ownKnob Tryz.prog.godebug = none := by kernel_rfl
theorem laidOut : laidOutB Tryz.prog = true := by kernel_rfl

theorem walk (A0 off len cap : Nat) (ao : Option Addr) (zs : List Op1) (w : World) (hao : 0 < len → ao = some ⟨A0, off, none⟩) (hA : 0 < len → A0 < w.heap.size) (hzs : zs.length = len) (hlen : len * 144 ≤ 140737488351232)
    (hc : ∀ (j : Nat) (o : Op1), zs[j]? = some o → ∀ (i : Nat) v, (opl o)[i]? = some v → w.cell? ⟨A0, off + j * 17 + i, none⟩ = some v) (hok : ∀ (j : Nat) (o : Op1), zs[j]? = some o → Ok1 o) :
    Calls Tryz.prog 4 #[.slice ao len cap] w fun e w' => e = .returned (.bool true) ∧ Below w.heap.size w w' := by
  have CP : Hid (Calls Tryz.prog 22 #[.slice ao len cap, .agg #[.bool true, .bool false, .bool true, .bool true]] w fun e w' => e = .returned (.bool true) ∧ Below w.heap.size w w') := plays_core ⟨true, false, true, true⟩ A0 off len cap ao zs w hao hA hzs hlen hc hok
  clear hao hA hzs hlen hc hok
  go_enter Tryz.func4, Tryz.ntmps4
  go_wp2_with fail
  refine Calls.mono CP.out ?_; rintro e w1 ⟨rfl, hb1⟩
  have HB : Hid _ := hb1
  clear hb1
  go_wp2
  go_ret
  exact ⟨rfl, HB.out⟩

set_option maxRecDepth 100000 in
theorem lifted (os : Os) (started : os.Started) (H : Type) (enc : TypeId × Value → H) :
    ReturnsInHanded {} Tryz.checked os 4 .any (Rows.relaysSpec.pre6 enc Tryz.prog Tryz.f4 Rows.relaysRow.domain false) (Rows.relaysSpec.post enc Tryz.prog Tryz.f4 false true false false) := by
  refine returnsInHanded_of_change_sized (C := Tryz.checked) own started (by kernel_rfl) Tryz.func4
    (ChangeSpec.witness6 (enc := enc) (C := Tryz.checked) false ⟨#[], #[.slice none 0 0], []⟩ 8 (by kernel_rfl) (by kernel_rfl) (by kernel_rfl) (by kernel_rfl)) ?_
  intro W base args ds gs before hval0 hW hcnd hsz0 _
  have hsz : (DataW.weightsEach Tryz.prog (Tryz.f4.params.toList ++ Rows.relaysSpec.plain.varTypes Tryz.prog) (ds ++ gs)).all (· ≤ reachBytes) = true := hsz0
  clear hsz0
  have hval : ∀ (j : Nat) t v, Tryz.f4.params[j]? = some t → args[j]? = some v → Value.okWide Tryz.prog W .any base t v := hval0
  have hW' := hW
  obtain ⟨p, q, hA0, hV, rfl, hfz, hnd⟩ := hW
  have hA : DataW.TrodAll enc Tryz.prog W 0 (fun _ => true) true Tryz.f4.params.toList args.toList ds p := hA0
  rw [Tryz.params4] at hA hval hsz
  obtain ⟨v0, vs0, d0, ds0, p0, q0, hargs0, rfl, rfl, h0, r0⟩ := trodAll_cons hA
  obtain ⟨rfl, rfl, rfl⟩ := trodAll_nil r0
  obtain rfl : args = #[v0] := by cases args; simp_all
  obtain ⟨rfl, rfl⟩ := trodVars_none hV
  have k0 := h0
  have lt0 : ∀ x ∈ p0, x.block < W.heap.size := by obtain ⟨m, hm⟩ := k0; exact DataW.trod_lt m _ _ _ hm
  clear hA0 hval0
  have inh : Inhabited Op1 := ⟨op0⟩
  obtain ⟨A, off, len, cap, ao, zs, rfl, hao, hA', hzs, hc, hml, hd⟩ := open_slice_of (α := Op1) 17 (fun cs o => (∀ (i : Nat) v, (opl o)[i]? = some v → cs[i]? = some v) ∧ Ok1 o) Tryz.underlying47 (by kernel_rfl) (by decide) (fun n cs x hx => open_op hx) (hval 0 47 v0 rfl rfl) h0 lt0
  have hlen : len * 144 ≤ 140737488351232 := by
    rcases hd with ⟨_, rfl⟩ | ⟨el, sp, rfl, hel⟩
    · decide
    · have := sized_slice hsz (j := 0) (t := 47) (e := 94) rfl rfl Tryz.underlying47
      rw [show Tryz.prog.bytesOf 94 = 144 by kernel_rfl] at this
      unfold reachBytes at this
      omega
  refine (walk A off len cap ao zs W hao hA' hzs hlen (fun j o hj i v hv => ?_) (fun j o hj => ?_)).mono fun e W' ⟨he, bel⟩ => ?_
  · obtain ⟨cs, hl, ⟨q1, _⟩, hcell⟩ := hc j o hj
    have hi : i < 17 := (List.getElem?_eq_some_iff.1 hv).1
    rw [hcell i hi]
    exact q1 i v hv
  · obtain ⟨cs, hl, ⟨_, q2⟩, hcell⟩ := hc j o hj
    exact q2
  · subst he
    exact ⟨_, rfl, _, _, _, [], _, [], hW', trodAll_mk1 (shut_bool Tryz.underlying4 _), (trodAll_cons_mk (Below.trod laidOut (by kernel_rfl) (of_decide_eq_true (by kernel_rfl)) k0 bel lt0) trodAll_mk0), rfl, bel.frame _, fun h => by cases h⟩

theorem over : Rows.relaysRow.holds Tryz.pinned (OpenSpec.ofChange Rows.relaysSpec) :=
  OpenClaim.holds_of_wide 4 Tryz.f4 rfl rfl rfl rfl rfl rfl rfl ⟨rfl, rfl, rfl, rfl, rfl⟩ rfl rfl rfl rfl rfl (by kernel_rfl) Tryz.func4 (by kernel_rfl)
    (of_decide_eq_true (by kernel_rfl)) (by unfold Func.isWrapper; first | (rw [if_pos (by decide +kernel)]; kernel_rfl) | (rw [if_neg (by decide +kernel)]; exact ⟨rfl, rfl⟩))
    (fun os started H enc _ => lifted os started H enc)

theorem proved : Rows.RelaysSaid := over
#print axioms proved
end Go.Proofs.YthiljpbodmajaabGreat.relays
