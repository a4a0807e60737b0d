/-
  CONTRACTS: package natbox: Tick.
-/
import Derived.Test.YthiljpbodmajaabGreatBoxw
namespace Go.Proofs.YthiljpbodmajaabGreat
open Go.RowKit Plain
set_option linter.unusedVariables false

set_option maxHeartbeats 4000000 in
theorem tick_yes {w : World} {base b : Nat} {c : Cf} {tk ti : Int} {v : Value} {ms ms' : List Mp} (T : Bat w base b c tk ti v ms) (n tk' : Int) (n0 : 0 ≤ n) (n1 : n ≤ 100000) (h : ti ≤ 1099511627776 - n) (t0 : 0 ≤ ti) (k0 : 0 ≤ tk) (k1 : tk ≤ 100) (r0 : 0 ≤ c.ra) (r1 : c.ra ≤ 100) (u1 : c.bu ≤ 100) (htk : tk' = if c.bu < tk + n * c.ra then c.bu else tk + n * c.ra)
    (cA : ∀ wx cur, Tb wx base b 12 81 cur v ms → Calls Tryz.prog 46 #[.pointer (some ⟨b, 12, none⟩), .int .i64 n] wx fun e w' => e = .returned (.tuple #[]) ∧ ∃ v', Left wx w' base b 12 81 cur v v' ms') :
    Calls Tryz.prog 17 #[.pointer (some ⟨b, 0, none⟩), .int .i64 n] w fun e w' => e = .returned (.int .i64 0) ∧ ∃ v', BL w w' base b c v v' tk' (ti + n) ms' := by
  have hb := T.lt
  have h10 : w.cell? ⟨b, 10, none⟩ = some (.int .i64 c.bu) := T.at 10 rfl
  have h11 : w.cell? ⟨b, 11, none⟩ = some (.int .i64 c.ra) := T.at 11 rfl
  have h16 : w.cell? ⟨b, 16, none⟩ = some (.int .i64 tk) := T.at 16 rfl
  have h17 : w.cell? ⟨b, 17, none⟩ = some (.int .i64 ti) := T.at 17 rfl
  have hf := T.frz
  have T1 : Hid (Tb (w.setCell ⟨b, 17, none⟩ (.int .i64 (ti + n))) base b 12 81 (bxc c v tk (ti + n)) v ms) := T.put 17 (by decide) _
  have CA : Hid _ := cA
  have HT : Hid _ := T
  have e1 : decide (n < 0) = false := by simpa using n0
  have e2 : decide (100000 < n) = false := by simpa using n1
  have e3 : decide (1099511627776 - n < ti) = false := by simpa using h
  obtain ⟨P, hP⟩ : ∃ P : Int, n * c.ra = P := ⟨_, rfl⟩
  have P0 : 0 ≤ P := by rw [← hP]; exact Int.mul_nonneg n0 r0
  have P1 : P ≤ 10000000 := by
    rw [← hP]
    exact Int.le_trans (Int.mul_le_mul_of_nonneg_left r1 n0) (Int.mul_le_mul_of_nonneg_right n1 (by decide))
  rw [hP] at htk
  have HK : Hid _ := htk
  clear cA T htk
  go_enter Tryz.func17, Tryz.ntmps17
  go_wp2_with fail
  refine Calls.mono (CA.out _ _ T1.out) ?_; rintro e w2 ⟨rfl, v', hL⟩
  have T2 : Hid (Bat w2 base b c tk (ti + n) v' ms') := hL.tb
  have a10 : w2.cell? ⟨b, 10, none⟩ = some (.int .i64 c.bu) := T2.out.at 10 rfl
  have a11 : w2.cell? ⟨b, 11, none⟩ = some (.int .i64 c.ra) := T2.out.at 11 rfl
  have a16 : w2.cell? ⟨b, 16, none⟩ = some (.int .i64 tk) := T2.out.at 16 rfl
  have f2 := T2.out.frz
  have hb2 := T2.out.lt
  have HC : Hid (Chg w w2 b v.ownBlock) := Chg.trans ((Chg.refl w b v.ownBlock).put 17 (.int .i64 (ti + n))) hL.chg (fun j e => .inl e)
  have HO : Hid (∀ k, v'.ownBlock = some k → some k = v.ownBlock ∨ w.heap.size ≤ k) := fun k hk => by
    rcases hL.own k hk with e | e
    · exact .inl e
    · exact .inr (by simpa [World.setCell] using e)
  clear hL h10 h11 h16 h17 hf T1 CA
  have hwP : IntKind.i64.wrap P = P := by rw [IntKind.wrap_i64]; omega
  have hwT : IntKind.i64.wrap (tk + P) = tk + P := by rw [IntKind.wrap_i64]; omega
  by_cases hc : c.bu < tk + P
  · have hk' : Hid (tk' = c.bu) := by show _ = _; rw [HK.out, if_pos hc]
    go_wp2
    go_region
    go_wp2
    go_region
    go_wp2
    go_ret
    exact ⟨rfl, v', ⟨by rw [hk'.out]; exact (((T2.out.put 16 (by decide) (.int .i64 (tk + P))).drew.drew).put 16 (by decide) (.int .i64 c.bu)), HO.out, ((HC.out.put 16 _).drew.drew.put 16 _)⟩⟩
  · have hk' : Hid (tk' = tk + P) := by show _ = _; rw [HK.out, if_neg hc]
    have hc' : decide (c.bu < tk + P) = false := by simpa using hc
    clear hc
    go_wp2
    go_region
    go_wp2
    go_region
    go_wp2
    go_ret
    exact ⟨rfl, v', ⟨by rw [hk'.out]; exact (T2.out.put 16 (by decide) (.int .i64 (tk + P))).drew.drew, HO.out, (HC.out.put 16 _).drew.drew⟩⟩
end Go.Proofs.YthiljpbodmajaabGreat
