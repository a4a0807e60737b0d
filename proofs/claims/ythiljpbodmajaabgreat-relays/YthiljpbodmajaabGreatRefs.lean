/-
  CONTRACTS: package natboxref: Tick, refused, barred.
-/
import Derived.Test.YthiljpbodmajaabGreatRfbx
namespace Go.Proofs.YthiljpbodmajaabGreat
open Go.RowKit Plain
set_option linter.unusedVariables false

theorem rtick_no (b : Nat) (now n : Int) (w : World) (c12 : w.cell? ⟨b, 12, none⟩ = some (.int .i64 now)) (t0 : 0 ≤ now) (t2 : now ≤ 1099511627776) (h : n < 0 ∨ 100000 < n ∨ 1099511627776 < now + n) (n0 : -9223372036854775808 ≤ n) (n1 : n < 9223372036854775808) :
    Calls Tryz.prog 155 #[.pointer (some ⟨b, 0, none⟩), .int .i64 n] w fun e w' => e = .returned (.int .i64 12) ∧ w' = w := by
  by_cases h1 : n < 0
  · clear h
    go_enter Tryz.func155, Tryz.ntmps155
    go_wp2
    go_ret
    exact ⟨rfl, rfl⟩
  · have h1' : 0 ≤ n := by omega
    by_cases h2 : 100000 < n
    · clear h h1
      go_enter Tryz.func155, Tryz.ntmps155
      go_wp2
      go_ret
      exact ⟨rfl, rfl⟩
    · have h2' : n ≤ 100000 := by omega
      have h3 : 1099511627776 < now + n := by omega
      clear h h1 h2
      go_enter Tryz.func155, Tryz.ntmps155
      go_wp2
      go_ret
      exact ⟨rfl, rfl⟩
theorem rtick_yes {w : World} {base b : Nat} {c : Cf} {now : Int} {us : List Us} {own : List Int} {uv ov : Value} (T : Rb w base b c now us own uv ov) (n : Int) (t0 : 0 ≤ now) (n0 : 0 ≤ n) (n1 : n ≤ 100000) (h : now + n ≤ 1099511627776) :
    Calls Tryz.prog 155 #[.pointer (some ⟨b, 0, none⟩), .int .i64 n] w fun e w' => e = .returned (.int .i64 0) ∧ w' = w.setCell ⟨b, 12, none⟩ (.int .i64 (now + n)) := by
  have c12 : w.cell? ⟨b, 12, none⟩ = some (.int .i64 now) := T.at 12 rfl
  have hf : w.frozen? ⟨b, 12, none⟩ = false := nofrz T.blk 12
  clear T
  go_enter Tryz.func155, Tryz.ntmps155
  go_wp2
  go_ret
  exact ⟨rfl, rfl⟩
theorem Rb.tick {w : World} {base b : Nat} {c : Cf} {now : Int} {us : List Us} {own : List Int} {uv ov : Value} (T : Rb w base b c now us own uv ov) (t : Int) : Rb (w.setCell ⟨b, 12, none⟩ (.int .i64 t)) base b c t us own uv ov :=
  ⟨by have := heap_setCell_same (o := 12) (.int .i64 t) T.blk; exact this, T.ur.kept (fun g hg => Below.heap_setCell w _ _ _ (fun e => T.nu (by rw [hg, e]))), own_keep1 T.owr (fun g hg => Below.heap_setCell w _ _ _ (fun e => T.no (by rw [hg, e]))), T.nu, T.no, T.nn, by simpa [World.setCell] using T.bs⟩
/-- a verdict: the answer, the sort, what it changes -/
def vrd (er sd : Int) (fr : ByteArray) (so : Int) (usd : Bool) (u : Us) (td : Bool) : Value := .agg #[.int .i64 er, .int .i64 sd, .string fr, .int .i64 so, .bool usd, .int .i64 u.pr, .int .i64 u.ad, .int .i64 u.po, .int .i64 u.ex, .int .i64 u.pa, .int .i64 u.pp, .int .i64 u.ti, .bool td]
theorem refused_any (er so : Int) (w : World) : Calls Tryz.prog 148 #[.int .i64 er, .int .i64 so] w fun e w' => e = .returned (vrd er 0 ⟨#[]⟩ so false ⟨0, 0, 0, 0, 0, 0, 0⟩ false) ∧ Below w.heap.size w w' := by
  go_enter Tryz.func148, Tryz.ntmps148
  go_wp2
  refine bodyPost_ret (v := vrd er 0 ⟨#[]⟩ so false ⟨0, 0, 0, 0, 0, 0, 0⟩ false) (by simp [results, Tryz.results148, go_sem, vrd]) rfl ⟨rfl, ?_⟩
  exact (Below.refl _ _).alloc (Nat.le_refl _) _

set_option maxHeartbeats 4000000 in
theorem barred0_core (b : Nat) (s B : ByteArray) (ia oa sa da t q : Int) (m : Bool) (w : World) (c0 : w.cell? ⟨b, 0, none⟩ = some (.int .i64 ia)) (c1 : w.cell? ⟨b, 1, none⟩ = some (.int .i64 oa)) (cS : Ret 141 #[.string s, .int .i64 12, .int .i64 4] (.int .i64 sa)) (cD : Ret 141 #[.string s, .int .i64 16, .int .i64 4] (.int .i64 da))
    (cB : Ret 142 #[.string s] (.string B)) (cT : Ret 141 #[.string B, .int .i64 0, .int .i64 1] (.int .i64 t)) (cM : Ret 150 #[.string s] (.bool m)) (c9 : Ret 141 #[.string s, .int .i64 9, .int .i64 1] (.int .i64 q)) (r : Int)
    (hr : r = if (sa == ia || sa == oa || da == ia || false) = true then 6 else if (q != 1 || m) = true then 0 else if (!(t == 8 || t == 13) || da == oa) = true then 7 else 0) :
    Calls Tryz.prog 149 #[.pointer (some ⟨b, 0, none⟩), .int .i64 0, .string s] w fun e w' => e = .returned (.int .i64 r) ∧ w' = w := by
  have HR : Hid _ := hr
  clear hr
  cases e1 : (sa == ia)
  · cases e2 : (sa == oa)
    · cases e3 : (da == ia)
      · cases e5 : (q != 1)
        · cases e6 : m
          · cases e8 : (t == 8)
            · cases e9 : (t == 13)
              · have h : Hid (r = 7) := by show _ = _; rw [HR.out]; simp [e1, e2, e3, e5, e6, e8, e9]
                clear HR
                go_enter Tryz.func149, Tryz.ntmps149
                go_wp2_with fail
                refine Calls.mono (cS.at _) ?_; rintro e w' ⟨rfl, hw⟩; replace hw := hw.symm; subst hw
                go_wp2_with fail
                refine Calls.mono (cD.at _) ?_; rintro e w' ⟨rfl, hw⟩; replace hw := hw.symm; subst hw
                go_wp2_with fail
                refine Calls.mono (cB.at _) ?_; rintro e w' ⟨rfl, hw⟩; replace hw := hw.symm; subst hw
                go_wp2_with fail
                refine Calls.mono (cT.at _) ?_; rintro e w' ⟨rfl, hw⟩; replace hw := hw.symm; subst hw
                go_wp2_with fail
                refine Calls.mono (cM.at _) ?_; rintro e w' ⟨rfl, hw⟩; replace hw := hw.symm; subst hw
                go_wp2_with fail
                refine Calls.mono (c9.at _) ?_; rintro e w' ⟨rfl, hw⟩; replace hw := hw.symm; subst hw
                go_wp2
                go_ret
                exact ⟨ret_int (by rw [h.out]), rfl⟩
              · cases e7 : (da == oa)
                · have h : Hid (r = 0) := by show _ = _; rw [HR.out]; simp [e1, e2, e3, e5, e6, e8, e9, e7]
                  clear HR
                  go_enter Tryz.func149, Tryz.ntmps149
                  go_wp2_with fail
                  refine Calls.mono (cS.at _) ?_; rintro e w' ⟨rfl, hw⟩; replace hw := hw.symm; subst hw
                  go_wp2_with fail
                  refine Calls.mono (cD.at _) ?_; rintro e w' ⟨rfl, hw⟩; replace hw := hw.symm; subst hw
                  go_wp2_with fail
                  refine Calls.mono (cB.at _) ?_; rintro e w' ⟨rfl, hw⟩; replace hw := hw.symm; subst hw
                  go_wp2_with fail
                  refine Calls.mono (cT.at _) ?_; rintro e w' ⟨rfl, hw⟩; replace hw := hw.symm; subst hw
                  go_wp2_with fail
                  refine Calls.mono (cM.at _) ?_; rintro e w' ⟨rfl, hw⟩; replace hw := hw.symm; subst hw
                  go_wp2_with fail
                  refine Calls.mono (c9.at _) ?_; rintro e w' ⟨rfl, hw⟩; replace hw := hw.symm; subst hw
                  go_wp2
                  go_ret
                  exact ⟨ret_int (by rw [h.out]), rfl⟩
                · have h : Hid (r = 7) := by show _ = _; rw [HR.out]; simp [e1, e2, e3, e5, e6, e8, e9, e7]
                  clear HR
                  go_enter Tryz.func149, Tryz.ntmps149
                  go_wp2_with fail
                  refine Calls.mono (cS.at _) ?_; rintro e w' ⟨rfl, hw⟩; replace hw := hw.symm; subst hw
                  go_wp2_with fail
                  refine Calls.mono (cD.at _) ?_; rintro e w' ⟨rfl, hw⟩; replace hw := hw.symm; subst hw
                  go_wp2_with fail
                  refine Calls.mono (cB.at _) ?_; rintro e w' ⟨rfl, hw⟩; replace hw := hw.symm; subst hw
                  go_wp2_with fail
                  refine Calls.mono (cT.at _) ?_; rintro e w' ⟨rfl, hw⟩; replace hw := hw.symm; subst hw
                  go_wp2_with fail
                  refine Calls.mono (cM.at _) ?_; rintro e w' ⟨rfl, hw⟩; replace hw := hw.symm; subst hw
                  go_wp2_with fail
                  refine Calls.mono (c9.at _) ?_; rintro e w' ⟨rfl, hw⟩; replace hw := hw.symm; subst hw
                  go_wp2
                  go_ret
                  exact ⟨ret_int (by rw [h.out]), rfl⟩
            · cases e7 : (da == oa)
              · have h : Hid (r = 0) := by show _ = _; rw [HR.out]; simp [e1, e2, e3, e5, e6, e8, e7]
                clear HR
                go_enter Tryz.func149, Tryz.ntmps149
                go_wp2_with fail
                refine Calls.mono (cS.at _) ?_; rintro e w' ⟨rfl, hw⟩; replace hw := hw.symm; subst hw
                go_wp2_with fail
                refine Calls.mono (cD.at _) ?_; rintro e w' ⟨rfl, hw⟩; replace hw := hw.symm; subst hw
                go_wp2_with fail
                refine Calls.mono (cB.at _) ?_; rintro e w' ⟨rfl, hw⟩; replace hw := hw.symm; subst hw
                go_wp2_with fail
                refine Calls.mono (cT.at _) ?_; rintro e w' ⟨rfl, hw⟩; replace hw := hw.symm; subst hw
                go_wp2_with fail
                refine Calls.mono (cM.at _) ?_; rintro e w' ⟨rfl, hw⟩; replace hw := hw.symm; subst hw
                go_wp2_with fail
                refine Calls.mono (c9.at _) ?_; rintro e w' ⟨rfl, hw⟩; replace hw := hw.symm; subst hw
                go_wp2
                go_ret
                exact ⟨ret_int (by rw [h.out]), rfl⟩
              · have h : Hid (r = 7) := by show _ = _; rw [HR.out]; simp [e1, e2, e3, e5, e6, e8, e7]
                clear HR
                go_enter Tryz.func149, Tryz.ntmps149
                go_wp2_with fail
                refine Calls.mono (cS.at _) ?_; rintro e w' ⟨rfl, hw⟩; replace hw := hw.symm; subst hw
                go_wp2_with fail
                refine Calls.mono (cD.at _) ?_; rintro e w' ⟨rfl, hw⟩; replace hw := hw.symm; subst hw
                go_wp2_with fail
                refine Calls.mono (cB.at _) ?_; rintro e w' ⟨rfl, hw⟩; replace hw := hw.symm; subst hw
                go_wp2_with fail
                refine Calls.mono (cT.at _) ?_; rintro e w' ⟨rfl, hw⟩; replace hw := hw.symm; subst hw
                go_wp2_with fail
                refine Calls.mono (cM.at _) ?_; rintro e w' ⟨rfl, hw⟩; replace hw := hw.symm; subst hw
                go_wp2_with fail
                refine Calls.mono (c9.at _) ?_; rintro e w' ⟨rfl, hw⟩; replace hw := hw.symm; subst hw
                go_wp2
                go_ret
                exact ⟨ret_int (by rw [h.out]), rfl⟩
          · have h : Hid (r = 0) := by show _ = _; rw [HR.out]; simp [e1, e2, e3, e5, e6]
            clear HR
            go_enter Tryz.func149, Tryz.ntmps149
            go_wp2_with fail
            refine Calls.mono (cS.at _) ?_; rintro e w' ⟨rfl, hw⟩; replace hw := hw.symm; subst hw
            go_wp2_with fail
            refine Calls.mono (cD.at _) ?_; rintro e w' ⟨rfl, hw⟩; replace hw := hw.symm; subst hw
            go_wp2_with fail
            refine Calls.mono (cB.at _) ?_; rintro e w' ⟨rfl, hw⟩; replace hw := hw.symm; subst hw
            go_wp2_with fail
            refine Calls.mono (cT.at _) ?_; rintro e w' ⟨rfl, hw⟩; replace hw := hw.symm; subst hw
            go_wp2_with fail
            refine Calls.mono (cM.at _) ?_; rintro e w' ⟨rfl, hw⟩; replace hw := hw.symm; subst hw
            go_wp2_with fail
            refine Calls.mono (c9.at _) ?_; rintro e w' ⟨rfl, hw⟩; replace hw := hw.symm; subst hw
            go_wp2
            go_ret
            exact ⟨ret_int (by rw [h.out]), rfl⟩
        · have h : Hid (r = 0) := by show _ = _; rw [HR.out]; simp [e1, e2, e3, e5]
          clear HR
          go_enter Tryz.func149, Tryz.ntmps149
          go_wp2_with fail
          refine Calls.mono (cS.at _) ?_; rintro e w' ⟨rfl, hw⟩; replace hw := hw.symm; subst hw
          go_wp2_with fail
          refine Calls.mono (cD.at _) ?_; rintro e w' ⟨rfl, hw⟩; replace hw := hw.symm; subst hw
          go_wp2_with fail
          refine Calls.mono (cB.at _) ?_; rintro e w' ⟨rfl, hw⟩; replace hw := hw.symm; subst hw
          go_wp2_with fail
          refine Calls.mono (cT.at _) ?_; rintro e w' ⟨rfl, hw⟩; replace hw := hw.symm; subst hw
          go_wp2_with fail
          refine Calls.mono (cM.at _) ?_; rintro e w' ⟨rfl, hw⟩; replace hw := hw.symm; subst hw
          go_wp2_with fail
          refine Calls.mono (c9.at _) ?_; rintro e w' ⟨rfl, hw⟩; replace hw := hw.symm; subst hw
          go_wp2
          go_ret
          exact ⟨ret_int (by rw [h.out]), rfl⟩
      · have h : Hid (r = 6) := by show _ = _; rw [HR.out]; simp [e1, e2, e3]
        clear HR
        go_enter Tryz.func149, Tryz.ntmps149
        go_wp2_with fail
        refine Calls.mono (cS.at _) ?_; rintro e w' ⟨rfl, hw⟩; replace hw := hw.symm; subst hw
        go_wp2_with fail
        refine Calls.mono (cD.at _) ?_; rintro e w' ⟨rfl, hw⟩; replace hw := hw.symm; subst hw
        go_wp2
        go_ret
        exact ⟨ret_int (by rw [h.out]), rfl⟩
    · have h : Hid (r = 6) := by show _ = _; rw [HR.out]; simp [e1, e2]
      clear HR
      go_enter Tryz.func149, Tryz.ntmps149
      go_wp2_with fail
      refine Calls.mono (cS.at _) ?_; rintro e w' ⟨rfl, hw⟩; replace hw := hw.symm; subst hw
      go_wp2_with fail
      refine Calls.mono (cD.at _) ?_; rintro e w' ⟨rfl, hw⟩; replace hw := hw.symm; subst hw
      go_wp2
      go_ret
      exact ⟨ret_int (by rw [h.out]), rfl⟩
  · have h : Hid (r = 6) := by show _ = _; rw [HR.out]; simp [e1]
    clear HR
    go_enter Tryz.func149, Tryz.ntmps149
    go_wp2_with fail
    refine Calls.mono (cS.at _) ?_; rintro e w' ⟨rfl, hw⟩; replace hw := hw.symm; subst hw
    go_wp2_with fail
    refine Calls.mono (cD.at _) ?_; rintro e w' ⟨rfl, hw⟩; replace hw := hw.symm; subst hw
    go_wp2
    go_ret
    exact ⟨ret_int (by rw [h.out]), rfl⟩
set_option maxHeartbeats 4000000 in
theorem barred1_core (b : Nat) (s B : ByteArray) (ia oa sa da t q : Int) (m : Bool) (w : World) (c0 : w.cell? ⟨b, 0, none⟩ = some (.int .i64 ia)) (c1 : w.cell? ⟨b, 1, none⟩ = some (.int .i64 oa)) (cS : Ret 141 #[.string s, .int .i64 12, .int .i64 4] (.int .i64 sa)) (cD : Ret 141 #[.string s, .int .i64 16, .int .i64 4] (.int .i64 da))
    (cB : Ret 142 #[.string s] (.string B)) (cT : Ret 141 #[.string B, .int .i64 0, .int .i64 1] (.int .i64 t)) (cM : Ret 150 #[.string s] (.bool m)) (c9 : Ret 141 #[.string s, .int .i64 9, .int .i64 1] (.int .i64 q)) (r : Int)
    (hr : r = if (sa == ia || sa == oa || da == ia || (da != oa)) = true then 6 else if (q != 1 || m) = true then 0 else if (t == 8 || t == 13) = true then 7 else 0) :
    Calls Tryz.prog 149 #[.pointer (some ⟨b, 0, none⟩), .int .i64 1, .string s] w fun e w' => e = .returned (.int .i64 r) ∧ w' = w := by
  have HR : Hid _ := hr
  clear hr
  cases e1 : (sa == ia)
  · cases e2 : (sa == oa)
    · cases e3 : (da == ia)
      · cases e4 : (da != oa)
        · cases e5 : (q != 1)
          · cases e6 : m
            · cases e8 : (t == 8)
              · cases e9 : (t == 13)
                · have h : Hid (r = 0) := by show _ = _; rw [HR.out]; simp [e1, e2, e3, e4, e5, e6, e8, e9]
                  clear HR
                  go_enter Tryz.func149, Tryz.ntmps149
                  go_wp2_with fail
                  refine Calls.mono (cS.at _) ?_; rintro e w' ⟨rfl, hw⟩; replace hw := hw.symm; subst hw
                  go_wp2_with fail
                  refine Calls.mono (cD.at _) ?_; rintro e w' ⟨rfl, hw⟩; replace hw := hw.symm; subst hw
                  go_wp2_with fail
                  refine Calls.mono (cB.at _) ?_; rintro e w' ⟨rfl, hw⟩; replace hw := hw.symm; subst hw
                  go_wp2_with fail
                  refine Calls.mono (cT.at _) ?_; rintro e w' ⟨rfl, hw⟩; replace hw := hw.symm; subst hw
                  go_wp2_with fail
                  refine Calls.mono (cM.at _) ?_; rintro e w' ⟨rfl, hw⟩; replace hw := hw.symm; subst hw
                  go_wp2_with fail
                  refine Calls.mono (c9.at _) ?_; rintro e w' ⟨rfl, hw⟩; replace hw := hw.symm; subst hw
                  go_wp2
                  go_ret
                  exact ⟨ret_int (by rw [h.out]), rfl⟩
                · have h : Hid (r = 7) := by show _ = _; rw [HR.out]; simp [e1, e2, e3, e4, e5, e6, e8, e9]
                  clear HR
                  go_enter Tryz.func149, Tryz.ntmps149
                  go_wp2_with fail
                  refine Calls.mono (cS.at _) ?_; rintro e w' ⟨rfl, hw⟩; replace hw := hw.symm; subst hw
                  go_wp2_with fail
                  refine Calls.mono (cD.at _) ?_; rintro e w' ⟨rfl, hw⟩; replace hw := hw.symm; subst hw
                  go_wp2_with fail
                  refine Calls.mono (cB.at _) ?_; rintro e w' ⟨rfl, hw⟩; replace hw := hw.symm; subst hw
                  go_wp2_with fail
                  refine Calls.mono (cT.at _) ?_; rintro e w' ⟨rfl, hw⟩; replace hw := hw.symm; subst hw
                  go_wp2_with fail
                  refine Calls.mono (cM.at _) ?_; rintro e w' ⟨rfl, hw⟩; replace hw := hw.symm; subst hw
                  go_wp2_with fail
                  refine Calls.mono (c9.at _) ?_; rintro e w' ⟨rfl, hw⟩; replace hw := hw.symm; subst hw
                  go_wp2
                  go_ret
                  exact ⟨ret_int (by rw [h.out]), rfl⟩
              · have h : Hid (r = 7) := by show _ = _; rw [HR.out]; simp [e1, e2, e3, e4, e5, e6, e8]
                clear HR
                go_enter Tryz.func149, Tryz.ntmps149
                go_wp2_with fail
                refine Calls.mono (cS.at _) ?_; rintro e w' ⟨rfl, hw⟩; replace hw := hw.symm; subst hw
                go_wp2_with fail
                refine Calls.mono (cD.at _) ?_; rintro e w' ⟨rfl, hw⟩; replace hw := hw.symm; subst hw
                go_wp2_with fail
                refine Calls.mono (cB.at _) ?_; rintro e w' ⟨rfl, hw⟩; replace hw := hw.symm; subst hw
                go_wp2_with fail
                refine Calls.mono (cT.at _) ?_; rintro e w' ⟨rfl, hw⟩; replace hw := hw.symm; subst hw
                go_wp2_with fail
                refine Calls.mono (cM.at _) ?_; rintro e w' ⟨rfl, hw⟩; replace hw := hw.symm; subst hw
                go_wp2_with fail
                refine Calls.mono (c9.at _) ?_; rintro e w' ⟨rfl, hw⟩; replace hw := hw.symm; subst hw
                go_wp2
                go_ret
                exact ⟨ret_int (by rw [h.out]), rfl⟩
            · have h : Hid (r = 0) := by show _ = _; rw [HR.out]; simp [e1, e2, e3, e4, e5, e6]
              clear HR
              go_enter Tryz.func149, Tryz.ntmps149
              go_wp2_with fail
              refine Calls.mono (cS.at _) ?_; rintro e w' ⟨rfl, hw⟩; replace hw := hw.symm; subst hw
              go_wp2_with fail
              refine Calls.mono (cD.at _) ?_; rintro e w' ⟨rfl, hw⟩; replace hw := hw.symm; subst hw
              go_wp2_with fail
              refine Calls.mono (cB.at _) ?_; rintro e w' ⟨rfl, hw⟩; replace hw := hw.symm; subst hw
              go_wp2_with fail
              refine Calls.mono (cT.at _) ?_; rintro e w' ⟨rfl, hw⟩; replace hw := hw.symm; subst hw
              go_wp2_with fail
              refine Calls.mono (cM.at _) ?_; rintro e w' ⟨rfl, hw⟩; replace hw := hw.symm; subst hw
              go_wp2_with fail
              refine Calls.mono (c9.at _) ?_; rintro e w' ⟨rfl, hw⟩; replace hw := hw.symm; subst hw
              go_wp2
              go_ret
              exact ⟨ret_int (by rw [h.out]), rfl⟩
          · have h : Hid (r = 0) := by show _ = _; rw [HR.out]; simp [e1, e2, e3, e4, e5]
            clear HR
            go_enter Tryz.func149, Tryz.ntmps149
            go_wp2_with fail
            refine Calls.mono (cS.at _) ?_; rintro e w' ⟨rfl, hw⟩; replace hw := hw.symm; subst hw
            go_wp2_with fail
            refine Calls.mono (cD.at _) ?_; rintro e w' ⟨rfl, hw⟩; replace hw := hw.symm; subst hw
            go_wp2_with fail
            refine Calls.mono (cB.at _) ?_; rintro e w' ⟨rfl, hw⟩; replace hw := hw.symm; subst hw
            go_wp2_with fail
            refine Calls.mono (cT.at _) ?_; rintro e w' ⟨rfl, hw⟩; replace hw := hw.symm; subst hw
            go_wp2_with fail
            refine Calls.mono (cM.at _) ?_; rintro e w' ⟨rfl, hw⟩; replace hw := hw.symm; subst hw
            go_wp2_with fail
            refine Calls.mono (c9.at _) ?_; rintro e w' ⟨rfl, hw⟩; replace hw := hw.symm; subst hw
            go_wp2
            go_ret
            exact ⟨ret_int (by rw [h.out]), rfl⟩
        · have h : Hid (r = 6) := by show _ = _; rw [HR.out]; simp [e1, e2, e3, e4]
          clear HR
          go_enter Tryz.func149, Tryz.ntmps149
          go_wp2_with fail
          refine Calls.mono (cS.at _) ?_; rintro e w' ⟨rfl, hw⟩; replace hw := hw.symm; subst hw
          go_wp2_with fail
          refine Calls.mono (cD.at _) ?_; rintro e w' ⟨rfl, hw⟩; replace hw := hw.symm; subst hw
          go_wp2
          go_ret
          exact ⟨ret_int (by rw [h.out]), rfl⟩
      · have h : Hid (r = 6) := by show _ = _; rw [HR.out]; simp [e1, e2, e3]
        clear HR
        go_enter Tryz.func149, Tryz.ntmps149
        go_wp2_with fail
        refine Calls.mono (cS.at _) ?_; rintro e w' ⟨rfl, hw⟩; replace hw := hw.symm; subst hw
        go_wp2_with fail
        refine Calls.mono (cD.at _) ?_; rintro e w' ⟨rfl, hw⟩; replace hw := hw.symm; subst hw
        go_wp2
        go_ret
        exact ⟨ret_int (by rw [h.out]), rfl⟩
    · have h : Hid (r = 6) := by show _ = _; rw [HR.out]; simp [e1, e2]
      clear HR
      go_enter Tryz.func149, Tryz.ntmps149
      go_wp2_with fail
      refine Calls.mono (cS.at _) ?_; rintro e w' ⟨rfl, hw⟩; replace hw := hw.symm; subst hw
      go_wp2_with fail
      refine Calls.mono (cD.at _) ?_; rintro e w' ⟨rfl, hw⟩; replace hw := hw.symm; subst hw
      go_wp2
      go_ret
      exact ⟨ret_int (by rw [h.out]), rfl⟩
  · have h : Hid (r = 6) := by show _ = _; rw [HR.out]; simp [e1]
    clear HR
    go_enter Tryz.func149, Tryz.ntmps149
    go_wp2_with fail
    refine Calls.mono (cS.at _) ?_; rintro e w' ⟨rfl, hw⟩; replace hw := hw.symm; subst hw
    go_wp2_with fail
    refine Calls.mono (cD.at _) ?_; rintro e w' ⟨rfl, hw⟩; replace hw := hw.symm; subst hw
    go_wp2
    go_ret
    exact ⟨ret_int (by rw [h.out]), rfl⟩
end Go.Proofs.YthiljpbodmajaabGreat
