/-
  CONTRACTS: package mappings: choose.
-/
import Derived.Test.YthiljpbodmajaabGreatTabf
namespace Go.Proofs.YthiljpbodmajaabGreat
open Go.RowKit Plain
set_option linter.unusedVariables false

theorem gap_bd (p : Int) (ms : List Mp) (n : Int) : n ≤ gap p ms n ∧ gap p ms n ≤ n + ms.length := by
  induction ms generalizing n with
  | nil => simp [gap]
  | cons m ms ih =>
    simp only [gap, List.length_cons]
    cases m.has p n
    · have := ih n; simp; omega
    · have := ih (n + 1); simp; omega
theorem drop_cons {ms : List Mp} {k : Nat} {m : Mp} (h : ms[k]? = some m) : ms.drop k = m :: ms.drop (k + 1) := by
  obtain ⟨hk, rfl⟩ := List.getElem?_eq_some_iff.1 h
  exact List.drop_eq_getElem_cons hk

set_option maxHeartbeats 1000000 in
theorem choose_core (b o base g n cap : Nat) (p own lo hi f r : Int) (ms : List Mp) (w : World) (l0 : 0 ≤ lo) (l1 : lo ≤ 65535) (hlo : w.cell? ⟨b, o, none⟩ = some (.int .i64 lo)) (hhi : w.cell? ⟨b, o + 1, none⟩ = some (.int .i64 hi)) (hL : w.cell? ⟨b, o + 3, none⟩ = some (.slice (some ⟨g, 0, none⟩) n cap)) (hR : RowIn w base g n cap ms) (hz : n ≤ 64)
    (cF : Calls Tryz.prog 177 #[.pointer (some ⟨b, o, none⟩), .int .i64 p, .int .i64 own] w fun e w' => e = .returned (.int .i64 f) ∧ w' = w)
    (hr : r = if lo ≤ own ∧ own ≤ hi ∧ f < 0 then own else gap p ms lo) :
    Calls Tryz.prog 223 #[.pointer (some ⟨b, o, none⟩), .int .i64 p, .int .i64 own] w fun e w' => e = .returned (.int .i64 r) ∧ w' = w := by
  have CF : Hid _ := cF
  have HR : Hid _ := hr
  have HN : Hid _ := hR.len
  clear cF hr
  have key : (lo ≤ own ∧ own ≤ hi ∧ f < 0 ∧ r = own) ∨ (r = gap p ms lo ∧ (own < lo ∨ (lo ≤ own ∧ hi < own) ∨ (lo ≤ own ∧ own ≤ hi ∧ 0 ≤ f))) := by
    have := HR.out
    by_cases c : lo ≤ own ∧ own ≤ hi ∧ f < 0
    · rw [if_pos c] at this; exact .inl ⟨c.1, c.2.1, c.2.2, this⟩
    · rw [if_neg c] at this; exact .inr ⟨this, by omega⟩
  clear HR
  rcases key with ⟨k1, k2, k3, k4⟩ | ⟨k4, k5⟩
  · subst k4
    go_enter Tryz.func223, Tryz.ntmps223
    go_wp2_with fail
    refine Calls.mono CF.out ?_; rintro e w' ⟨rfl, rfl⟩
    go_wp2
    go_ret
    exact ⟨rfl, rfl⟩
  · have HK : Hid _ := k4
    clear k4
    have rest : Hid (∀ (i : Nat), True) := fun _ => trivial
    clear rest
    rcases k5 with k5 | ⟨k5, k6⟩ | ⟨k5, k6, k7⟩
    all_goals
      go_enter Tryz.func223, Tryz.ntmps223
      go_wp2_with (go_at_call 177; refine Calls.mono CF.out ?_; rintro e w' ⟨rfl, hw⟩; replace hw := hw.symm; subst hw)
      go_loop [7, 40] (fun l i => ∃ (k : Nat) (L : Int), k ≤ n ∧ i = .int .i64 (k : Int) ∧ l = .int .i64 L ∧ lo ≤ L ∧ L ≤ lo + k ∧ Hid (gap p (ms.drop k) L = gap p ms lo)) (fun l i => n - (intOf i).toNat)
      case atStart => exact ⟨0, lo, by omega, rfl, rfl, by omega, by omega, by rw [List.drop_zero]; exact (rfl : gap p ms lo = gap p ms lo)⟩
      case round =>
        obtain ⟨k, L, hk, rfl, rfl, hL1, hL2, hg⟩ := hrel
        by_cases hlt : k < n
        · obtain ⟨m, hm⟩ : ∃ m, ms[k]? = some m := ⟨ms[k]'(by have := HN.out; omega), by have := HN.out; simp⟩
          have c1 : w.cell? ⟨g, k * 14, none⟩ = some (.int .i64 m.pr) := hR.range k m hm 0 _ rfl
          have c2 : w.cell? ⟨g, k * 14 + 3, none⟩ = some (.int .i64 m.ex) := hR.range k m hm 3 _ rfl
          have hs : Hid (gap p (ms.drop (k + 1)) (if m.has p L then L + 1 else L) = gap p ms lo) := by
            have e := hg.out
            rw [drop_cons hm] at e
            exact e
          have HM : Hid _ := hm
          clear hm
          have HN2 : Hid _ := hR
          clear hR
          by_cases e1 : m.pr = p
          · cases e2 : (m.ex == L)
            · have hh : Hid (m.has p L = false) := by show _ = _; simp [Mp.has, e2]
              go_wp2
              exact ⟨⟨k + 1, L, by omega, by go_num, rfl, by omega, by omega, by have := hs.out; rw [hh.out] at this; exact this⟩, by simp [intOf]; omega⟩
            · have hh : Hid (m.has p L = true) := by show _ = _; simp [Mp.has, e2, e1]
              go_wp2
              exact ⟨⟨k + 1, L + 1, by omega, by go_num, by go_num, by omega, by omega, by have := hs.out; rw [hh.out] at this; exact this⟩, by simp [intOf]; omega⟩
          · have e1' : (m.pr == p) = false := by simpa using e1
            have hh : Hid (m.has p L = false) := by show _ = _; simp [Mp.has, e1']
            clear e1
            go_wp2
            exact ⟨⟨k + 1, L, by omega, by go_num, rfl, by omega, by omega, by have := hs.out; rw [hh.out] at this; exact this⟩, by simp [intOf]; omega⟩
        · go_wp2
          go_ret
          refine ⟨ret_int ?_, rfl⟩
          have e := hg.out
          rw [List.drop_eq_nil_of_le (by have := HN.out; omega)] at e
          rw [HK.out, ← e]
          rfl
set_option maxHeartbeats 1000000 in
theorem choose_nil (b o : Nat) (p own lo hi r : Int) (w : World) (hlo : w.cell? ⟨b, o, none⟩ = some (.int .i64 lo)) (hhi : w.cell? ⟨b, o + 1, none⟩ = some (.int .i64 hi)) (hL : w.cell? ⟨b, o + 3, none⟩ = some (.slice none 0 0))
    (cF : Calls Tryz.prog 177 #[.pointer (some ⟨b, o, none⟩), .int .i64 p, .int .i64 own] w fun e w' => e = .returned (.int .i64 (-1)) ∧ w' = w)
    (hr : r = if lo ≤ own ∧ own ≤ hi then own else lo) :
    Calls Tryz.prog 223 #[.pointer (some ⟨b, o, none⟩), .int .i64 p, .int .i64 own] w fun e w' => e = .returned (.int .i64 r) ∧ w' = w := by
  have CF : Hid _ := cF
  clear cF
  have key : (lo ≤ own ∧ own ≤ hi ∧ r = own) ∨ (r = lo ∧ (own < lo ∨ (lo ≤ own ∧ hi < own))) := by
    by_cases c : lo ≤ own ∧ own ≤ hi
    · rw [if_pos c] at hr; exact .inl ⟨c.1, c.2, hr⟩
    · rw [if_neg c] at hr; exact .inr ⟨hr, by omega⟩
  clear hr
  rcases key with ⟨k1, k2, k4⟩ | ⟨k4, k5⟩
  · subst k4
    go_enter Tryz.func223, Tryz.ntmps223
    go_wp2_with fail
    refine Calls.mono CF.out ?_; rintro e w' ⟨rfl, rfl⟩
    go_wp2
    go_ret
    exact ⟨rfl, rfl⟩
  · subst k4
    rcases k5 with k5 | ⟨k5, k6⟩
    all_goals
      go_enter Tryz.func223, Tryz.ntmps223
      go_wp2
      go_loop [7, 40] (fun l i => l = .int .i64 r ∧ i = .int .i64 0) (fun l i => 0)
      case atStart => exact ⟨rfl, rfl⟩
      case round =>
        obtain ⟨rfl, rfl⟩ := hrel
        go_wp2
        go_ret
        exact ⟨rfl, rfl⟩
theorem choose_any (b o base : Nat) (p own : Int) (c : Cf) (v : Value) (ms : List Mp) (w : World) (l0 : 0 ≤ c.lo) (l1 : c.lo ≤ 65535) (hlo : w.cell? ⟨b, o, none⟩ = some (.int .i64 c.lo)) (hhi : w.cell? ⟨b, o + 1, none⟩ = some (.int .i64 c.hi)) (hL : w.cell? ⟨b, o + 3, none⟩ = some v) (hR : Row w base v ms) (hz : ms.length ≤ 64) :
    Calls Tryz.prog 223 #[.pointer (some ⟨b, o, none⟩), .int .i64 p, .int .i64 own] w fun e w' => e = .returned (.int .i64 (chs c ms p own)) ∧ w' = w := by
  have cF := findExternal_any b o base p own v ms w hL hR hz
  rcases hR.cases with ⟨rfl, rfl⟩ | ⟨g, n, cap, rfl, hr⟩
  · exact choose_nil b o p own c.lo c.hi _ w hlo hhi hL cF (by simp [chs, gap, fidx])
  · exact choose_core b o base g n cap p own c.lo c.hi _ _ ms w l0 l1 hlo hhi hL hr (by have := hr.len; omega) cF rfl
end Go.Proofs.YthiljpbodmajaabGreat
