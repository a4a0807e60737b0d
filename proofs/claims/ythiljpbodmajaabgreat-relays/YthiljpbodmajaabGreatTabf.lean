/-
  CONTRACTS: package mappings: finding: findExternal, findEndpoint, Endpoint, Live, At, choose.
-/
import Derived.Test.YthiljpbodmajaabGreatTabm
import Derived.BigQuiet
import Derived.Deep.QuietTactic
namespace Go.Proofs.YthiljpbodmajaabGreat
open Go.RowKit Plain
set_option linter.unusedVariables false

theorem fidx_none {f : Mp → Bool} {ms : List Mp} (h : ∀ (j : Nat) m, ms[j]? = some m → f m = false) : ms.findIdx f = ms.length := by
  rw [List.findIdx_eq_length]
  intro m hm
  obtain ⟨j, hj⟩ := List.getElem?_of_mem hm
  exact h j m hj
theorem fidx_some {f : Mp → Bool} {ms : List Mp} {k : Nat} {m : Mp} (hm : ms[k]? = some m) (hf : f m = true) (h : ∀ (j : Nat) m, j < k → ms[j]? = some m → f m = false) : ms.findIdx f = k := by
  obtain ⟨hk, rfl⟩ := List.getElem?_eq_some_iff.1 hm
  rw [List.findIdx_eq hk]
  refine ⟨hf, fun j hj => ?_⟩
  exact h j ms[j] hj (by simp [show j < ms.length by omega])
theorem fidx_neg {f : Mp → Bool} {ms : List Mp} (h : ms.findIdx f = ms.length) : fidx f ms = -1 := by unfold fidx; rw [if_neg (by omega)]
theorem fidx_pos {f : Mp → Bool} {ms : List Mp} {k : Nat} (h : ms.findIdx f = k) (hk : k < ms.length) : fidx f ms = (k : Int) := by unfold fidx; rw [if_pos (by omega), h]

theorem findExternal_nil (b o : Nat) (p x : Int) (w : World) (hL : w.cell? ⟨b, o + 3, none⟩ = some (.slice none 0 0)) :
    Calls Tryz.prog 177 #[.pointer (some ⟨b, o, none⟩), .int .i64 p, .int .i64 x] w fun e w' => e = .returned (.int .i64 (-1)) ∧ w' = w := by
  go_enter Tryz.func177, Tryz.ntmps177
  go_wp2
  go_loop [13] (fun i => i = .int .i64 0) (fun i => 0)
  case atStart => rfl
  case round =>
    subst hrel
    go_wp2
    go_ret
    exact ⟨rfl, rfl⟩
set_option maxHeartbeats 400000 in
theorem findExternal_in (b o base g n cap : Nat) (p x r : Int) (ms : List Mp) (w : World) (hL : w.cell? ⟨b, o + 3, none⟩ = some (.slice (some ⟨g, 0, none⟩) n cap)) (hR : RowIn w base g n cap ms) (hz : n ≤ 64) (hr : r = fidx (·.has p x) ms) :
    Calls Tryz.prog 177 #[.pointer (some ⟨b, o, none⟩), .int .i64 p, .int .i64 x] w fun e w' => e = .returned (.int .i64 r) ∧ w' = w := by
  have hn := hR.len
  have HR : Hid _ := hr
  clear hr
  go_enter Tryz.func177, Tryz.ntmps177
  go_wp2
  go_loop [13] (fun i => ∃ k : Nat, k ≤ n ∧ i = .int .i64 (k : Int) ∧ Hid (∀ j m, j < k → ms[j]? = some m → m.has p x = false)) (fun i => n - (intOf i).toNat)
  case atStart => exact ⟨0, by omega, rfl, fun j m h => by omega⟩
  case round =>
    obtain ⟨k, hk, rfl, hf⟩ := hrel
    by_cases hlt : k < n
    · obtain ⟨m, hm⟩ : ∃ m, ms[k]? = some m := ⟨ms[k]'(by omega), by simp [hn, hlt]⟩
      have c1 : w.cell? ⟨g, k * 14, none⟩ = some (.int .i64 m.pr) := hR.range k m hm 0 _ rfl
      have c2 : w.cell? ⟨g, k * 14 + 3, none⟩ = some (.int .i64 m.ex) := hR.range k m hm 3 _ rfl
      have HM : Hid _ := hm
      clear hm
      have HN : Hid _ := hR
      clear hR
      have step : Hid (m.has p x = false → ∀ j m, j < k + 1 → ms[j]? = some m → m.has p x = false) := fun hh j m' hj hm' => by
        by_cases e : j = k
        · subst e; rw [HM.out] at hm'; cases hm'; exact hh
        · exact hf.out j m' (by omega) hm'
      by_cases e1 : m.pr = p
      · cases e2 : (m.ex == x)
        · have hh : Hid (m.has p x = false) := by show _ = _; simp [Mp.has, e2]
          clear e1
          go_wp2
          all_goals first
            | (go_round
               case rel => exact ⟨k + 1, by omega, by go_num, step.out hh.out⟩
               case measure => simp [intOf]; omega)
        · have hh : Hid (m.has p x = true) := by show _ = _; simp [Mp.has, e2, e1]
          go_wp2
          go_ret
          exact ⟨ret_int (by rw [HR.out, fidx_pos (fidx_some HM.out hh.out hf.out) (by omega)]), rfl⟩
      · have e1' : (m.pr == p) = false := by simpa using e1
        have hh : Hid (m.has p x = false) := by show _ = _; simp [Mp.has, e1']
        clear e1
        go_wp2
        go_round
        case rel => exact ⟨k + 1, by omega, by go_num, step.out hh.out⟩
        case measure => simp [intOf]; omega
    · go_wp2
      go_ret
      exact ⟨ret_int (by rw [HR.out, fidx_neg (fidx_none fun j m hm => hf.out j m (by have := (List.getElem?_eq_some_iff.1 hm).1; omega) hm)]), rfl⟩
theorem findExternal_any (b o base : Nat) (p x : Int) (v : Value) (ms : List Mp) (w : World) (hL : w.cell? ⟨b, o + 3, none⟩ = some v) (hR : Row w base v ms) (hz : ms.length ≤ 64) :
    Calls Tryz.prog 177 #[.pointer (some ⟨b, o, none⟩), .int .i64 p, .int .i64 x] w fun e w' => e = .returned (.int .i64 (fidx (·.has p x) ms)) ∧ w' = w := by
  rcases hR.cases with ⟨rfl, rfl⟩ | ⟨g, n, cap, rfl, hr⟩
  · exact findExternal_nil b o p x w hL
  · exact findExternal_in b o base g n cap p x _ ms w hL hr (by have := hr.len; omega) rfl

theorem findEndpoint_nil (b o : Nat) (p a q : Int) (w : World) (hL : w.cell? ⟨b, o + 3, none⟩ = some (.slice none 0 0)) :
    Calls Tryz.prog 183 #[.pointer (some ⟨b, o, none⟩), .int .i64 p, .agg #[.int .i64 a, .int .i64 q]] w fun e w' => e = .returned (.int .i64 (-1)) ∧ Below w.heap.size w w' := by
  have hb : b < w.heap.size := World.block_lt_of_cell? w _ hL
  go_enter Tryz.func183, Tryz.ntmps183
  go_wp2
  go_loop [13] (fun i => i = .int .i64 0) (fun i => 0)
  case atStart => rfl
  case round =>
    subst hrel
    go_wp2
    go_ret
    exact ⟨rfl, (Below.refl _ _).alloc (Nat.le_refl _) _⟩
set_option maxHeartbeats 1000000 in
theorem findEndpoint_in (b o base g n cap : Nat) (p a q r : Int) (ms : List Mp) (w : World) (hL : w.cell? ⟨b, o + 3, none⟩ = some (.slice (some ⟨g, 0, none⟩) n cap)) (hR : RowIn w base g n cap ms) (hz : n ≤ 64) (hr : r = fidx (·.of p a q) ms) :
    Calls Tryz.prog 183 #[.pointer (some ⟨b, o, none⟩), .int .i64 p, .agg #[.int .i64 a, .int .i64 q]] w fun e w' => e = .returned (.int .i64 r) ∧ Below w.heap.size w w' := by
  have hn := hR.len
  have hb : b < w.heap.size := World.block_lt_of_cell? w _ hL
  have hg : g < w.heap.size := hR.lt
  have HR : Hid _ := hr
  clear hr
  go_enter Tryz.func183, Tryz.ntmps183
  go_wp2
  go_loopw [13] (fun i wr => ∃ k : Nat, k ≤ n ∧ i = .int .i64 (k : Int) ∧ Hid (∀ j m, j < k → ms[j]? = some m → m.of p a q = false) ∧ Below w.heap.size w wr ∧ wr.cell? ⟨w.heap.size, 0, none⟩ = some (.int .i64 a) ∧ wr.cell? ⟨w.heap.size, 1, none⟩ = some (.int .i64 q)) (fun i _ => n - (intOf i).toNat)
  case atStart => exact ⟨0, by omega, rfl, fun j m h => by omega, (Below.refl _ _).alloc (Nat.le_refl _) _, by simp [go_sem], by simp [go_sem]⟩
  case round =>
    obtain ⟨k, hk, rfl, hf, hbel, d0, d1⟩ := hrel
    have hL' : wr.cell? ⟨b, o + 3, none⟩ = some (.slice (some ⟨g, 0, none⟩) n cap) := (hbel.cell (p := ⟨b, o + 3, none⟩) hb).trans hL
    by_cases hlt : k < n
    · obtain ⟨m, hm⟩ : ∃ m, ms[k]? = some m := ⟨ms[k]'(by omega), by simp [hn, hlt]⟩
      have c1 : wr.cell? ⟨g, k * 14, none⟩ = some (.int .i64 m.pr) := (hbel.cell (p := ⟨g, k * 14, none⟩) hg).trans (hR.range k m hm 0 _ rfl)
      have c2 : wr.cell? ⟨g, k * 14 + 1, none⟩ = some (.int .i64 m.ea) := (hbel.cell (p := ⟨g, k * 14 + 1, none⟩) hg).trans (hR.range k m hm 1 _ rfl)
      have c3 : wr.cell? ⟨g, k * 14 + 1 + 1, none⟩ = some (.int .i64 m.ep) := (hbel.cell (p := ⟨g, k * 14 + 2, none⟩) hg).trans (hR.range k m hm 2 _ rfl)
      have HM : Hid _ := hm
      clear hm
      have HN : Hid _ := hR
      clear hR
      have step : Hid (m.of p a q = false → ∀ j m, j < k + 1 → ms[j]? = some m → m.of p a q = false) := fun hh j m' hj hm' => by
        by_cases e : j = k
        · subst e; rw [HM.out] at hm'; cases hm'; exact hh
        · exact hf.out j m' (by omega) hm'
      by_cases e1 : m.pr = p
      · cases e2 : (m.ea == a && m.ep == q)
        · have hh : Hid (m.of p a q = false) := by show _ = _; simp [Mp.of, e2]
          have q1 := fun wx => end_eq wx m.ea m.ep a q
          rw [e2] at q1
          have q2 := end_guard
          go_wp2
          go_quiet (fail)
          go_wp2
          exact ⟨⟨k + 1, by omega, by go_num, step.out hh.out, below_drewN hbel nq, by simpa using d0, by simpa using d1⟩, by simp [intOf]; omega⟩
        · have hh : Hid (m.of p a q = true) := by show _ = _; simp [Mp.of, e2, e1]
          have q1 := fun wx => end_eq wx m.ea m.ep a q
          rw [e2] at q1
          have q2 := end_guard
          go_wp2
          go_quiet (fail)
          go_wp2
          go_ret
          exact ⟨ret_int (by rw [HR.out, fidx_pos (fidx_some HM.out hh.out hf.out) (by omega)]), below_drewN hbel _⟩
      · have e1' : (m.pr == p) = false := by simpa using e1
        have hh : Hid (m.of p a q = false) := by show _ = _; simp [Mp.of, e1']
        clear e1
        go_wp2
        go_quiet (fail)
        go_wp2
        exact ⟨⟨k + 1, by omega, by go_num, step.out hh.out, below_drewN hbel nq, by simpa using d0, by simpa using d1⟩, by simp [intOf]; omega⟩
    · go_wp2
      go_ret
      exact ⟨ret_int (by rw [HR.out, fidx_neg (fidx_none fun j m hm => hf.out j m (by have := (List.getElem?_eq_some_iff.1 hm).1; omega) hm)]), hbel⟩
theorem findEndpoint_any (b o base : Nat) (p a q : Int) (v : Value) (ms : List Mp) (w : World) (hL : w.cell? ⟨b, o + 3, none⟩ = some v) (hR : Row w base v ms) (hz : ms.length ≤ 64) :
    Calls Tryz.prog 183 #[.pointer (some ⟨b, o, none⟩), .int .i64 p, .agg #[.int .i64 a, .int .i64 q]] w fun e w' => e = .returned (.int .i64 (fidx (·.of p a q) ms)) ∧ Below w.heap.size w w' := by
  rcases hR.cases with ⟨rfl, rfl⟩ | ⟨g, n, cap, rfl, hr⟩
  · exact findEndpoint_nil b o p a q w hL
  · exact findEndpoint_in b o base g n cap p a q _ ms w hL hr (by have := hr.len; omega) rfl

/-- Live -/
theorem tabLive_any (b o base : Nat) (v : Value) (ms : List Mp) (w : World) (hL : w.cell? ⟨b, o + 3, none⟩ = some v) (hR : Row w base v ms) (hz : ms.length ≤ 64) :
    Calls Tryz.prog 54 #[.pointer (some ⟨b, o, none⟩)] w fun e w' => e = .returned (.int .i64 ms.length) ∧ w' = w := by
  rcases hR.cases with ⟨rfl, rfl⟩ | ⟨g, n, cap, rfl, hr⟩
  · go_enter Tryz.func54, Tryz.ntmps54
    go_wp2
    go_ret
    exact ⟨rfl, rfl⟩
  · have hl : Hid _ := hr.len
    go_enter Tryz.func54, Tryz.ntmps54
    go_wp2
    go_ret
    exact ⟨ret_int (by rw [hl.out]), rfl⟩
/-- Endpoint -/
theorem endpoint_no (b o base : Nat) (p x : Int) (v : Value) (ms : List Mp) (w : World) (hL : w.cell? ⟨b, o + 3, none⟩ = some v) (hR : Row w base v ms) (hz : ms.length ≤ 64) (h : fidx (·.has p x) ms = -1) :
    Calls Tryz.prog 125 #[.pointer (some ⟨b, o, none⟩), .int .i64 p, .int .i64 x] w fun e w' => e = .returned (.tuple #[.agg #[.int .i64 0, .int .i64 0], .bool false]) ∧ Below w.heap.size w w' := by
  have hb : b < w.heap.size := World.block_lt_of_cell? w _ hL
  have hc : ∀ wx : World, wx.cell? ⟨b, o + 3, none⟩ = some v → Row wx base v ms → Calls Tryz.prog 177 #[.pointer (some ⟨b, o, none⟩), .int .i64 p, .int .i64 x] wx fun e w' => e = .returned (.int .i64 (-1)) ∧ w' = wx := fun wx h1 h2 => by
    have := findExternal_any b o base p x v ms wx h1 h2 hz
    rw [h] at this
    exact this
  have HC : Hid _ := hc
  have HL : Hid _ := hL
  have HW : Hid _ := hR
  clear hc hL hR h
  go_enter Tryz.func125, Tryz.ntmps125
  go_wp2_with fail
  refine Calls.mono (HC.out _ ?_ ?_) ?_
  · exact (World.cell?_alloc_lt _ _ _ hb).trans HL.out
  · exact World.ownsRow.alloc HW.out _
  rintro e w' ⟨rfl, rfl⟩
  go_wp2
  exact bodyPost_ret (v := .tuple #[.agg #[.int .i64 0, .int .i64 0], .bool false]) (by simp [results, Tryz.results125, go_sem]) rfl ⟨rfl, (Below.refl _ _).alloc (Nat.le_refl _) _⟩
theorem endpoint_yes (b o base k : Nat) (p x : Int) (m : Mp) (v : Value) (ms : List Mp) (w : World) (hL : w.cell? ⟨b, o + 3, none⟩ = some v) (hR : Row w base v ms) (hz : ms.length ≤ 64) (h : fidx (·.has p x) ms = (k : Int)) (hm : ms[k]? = some m) :
    Calls Tryz.prog 125 #[.pointer (some ⟨b, o, none⟩), .int .i64 p, .int .i64 x] w fun e w' => e = .returned (.tuple #[.agg #[.int .i64 m.ea, .int .i64 m.ep], .bool true]) ∧ Below w.heap.size w w' := by
  have hb : b < w.heap.size := World.block_lt_of_cell? w _ hL
  have hk : k < ms.length := (List.getElem?_eq_some_iff.1 hm).1
  have hc : ∀ wx : World, wx.cell? ⟨b, o + 3, none⟩ = some v → Row wx base v ms → Calls Tryz.prog 177 #[.pointer (some ⟨b, o, none⟩), .int .i64 p, .int .i64 x] wx fun e w' => e = .returned (.int .i64 (k : Int)) ∧ w' = wx := fun wx h1 h2 => by
    have := findExternal_any b o base p x v ms wx h1 h2 hz
    rw [h] at this
    exact this
  have HC : Hid _ := hc
  rcases hR.cases with ⟨rfl, rfl⟩ | ⟨g, n, cap, rfl, hr⟩
  · simp at hk
  have hg : g < w.heap.size := hr.lt
  have hn := hr.len
  have c2 : w.cell? ⟨g, k * 14 + 1, none⟩ = some (.int .i64 m.ea) := hr.range k m hm 1 _ rfl
  have c3 : w.cell? ⟨g, k * 14 + 1 + 1, none⟩ = some (.int .i64 m.ep) := hr.range k m hm 2 _ rfl
  have hkn : k < n := by omega
  have HW : Hid _ := hR
  have HM : Hid _ := hm
  have HRr : Hid _ := hr
  clear hc hR h hm hr
  go_enter Tryz.func125, Tryz.ntmps125
  go_wp2_with fail
  refine Calls.mono (HC.out _ ?_ ?_) ?_
  · exact (World.cell?_alloc_lt _ _ _ hb).trans hL
  · exact World.ownsRow.alloc HW.out _
  rintro e w' ⟨rfl, rfl⟩
  go_wp2
  exact bodyPost_ret (v := .tuple #[.agg #[.int .i64 m.ea, .int .i64 m.ep], .bool true]) (by simp [results, Tryz.results125, go_sem]) rfl ⟨rfl, (Below.refl _ _).alloc (Nat.le_refl _) _⟩
end Go.Proofs.YthiljpbodmajaabGreat
namespace Go.Proofs.YthiljpbodmajaabGreat
open Go.RowKit Plain
set_option linter.unusedVariables false

/-- At: no such mapping -/
theorem at_no (b o base : Nat) (i : Int) (v : Value) (ms : List Mp) (w : World) (hL : w.cell? ⟨b, o + 3, none⟩ = some v) (hR : Row w base v ms) (hz : ms.length ≤ 64) (h : i < 0 ∨ (0 ≤ i ∧ (ms.length : Int) ≤ i)) :
    Calls Tryz.prog 104 #[.pointer (some ⟨b, o, none⟩), .int .i64 i] w fun e w' => e = .returned (.tuple #[.agg #[.int .i64 0, .int .i64 0, .int .i64 0, .int .i64 0, .int .i64 0, .int .i64 0], .int .i64 13]) ∧ Below w.heap.size w w' := by
  have hb : b < w.heap.size := World.block_lt_of_cell? w _ hL
  rcases hR.cases with ⟨rfl, rfl⟩ | ⟨g, n, cap, rfl, hr⟩
  · rcases h with h | ⟨h, h'⟩
    all_goals
      go_enter Tryz.func104, Tryz.ntmps104
      go_wp2
      exact bodyPost_ret (v := .tuple #[.agg #[.int .i64 0, .int .i64 0, .int .i64 0, .int .i64 0, .int .i64 0, .int .i64 0], .int .i64 13]) (by simp [results, Tryz.results104, go_sem]) rfl ⟨rfl, (Below.refl _ _).alloc (Nat.le_refl _) _⟩
  · have hl : ms.length = n := hr.len
    rw [hl] at h
    have HL : Hid _ := hl
    have HRR : Hid _ := hr
    have HRW : Hid _ := hR
    clear hl hr hR
    rcases h with h | ⟨h, h'⟩
    all_goals
      go_enter Tryz.func104, Tryz.ntmps104
      go_wp2
      exact bodyPost_ret (v := .tuple #[.agg #[.int .i64 0, .int .i64 0, .int .i64 0, .int .i64 0, .int .i64 0, .int .i64 0], .int .i64 13]) (by simp [results, Tryz.results104, go_sem]) rfl ⟨rfl, (Below.refl _ _).alloc (Nat.le_refl _) _⟩
set_option maxHeartbeats 1000000 in
theorem at_yes (b o base k : Nat) (m : Mp) (v : Value) (ms : List Mp) (w : World) (hL : w.cell? ⟨b, o + 3, none⟩ = some v) (hR : Row w base v ms) (hz : ms.length ≤ 64) (hm : ms[k]? = some m) :
    Calls Tryz.prog 104 #[.pointer (some ⟨b, o, none⟩), .int .i64 k] w fun e w' => e = .returned (.tuple #[.agg #[.int .i64 m.pr, .int .i64 m.ea, .int .i64 m.ep, .int .i64 m.ex, .int .i64 m.le, .int .i64 m.kn], .int .i64 0]) ∧ Below w.heap.size w w' := by
  have hb : b < w.heap.size := World.block_lt_of_cell? w _ hL
  have hk : k < ms.length := (List.getElem?_eq_some_iff.1 hm).1
  rcases hR.cases with ⟨rfl, rfl⟩ | ⟨g, n, cap, rfl, hr⟩
  · simp at hk
  have hg : g < w.heap.size := hr.lt
  have hn := hr.len
  have hkn : k < n := by omega
  obtain ⟨c0, c1, c2, c3, c4, c5, c6, c7, c8, c9, c10, c11, c12, c13⟩ := hr.cells k m hm
  have HW : Hid _ := hR
  have HM : Hid _ := hm
  have HRr : Hid _ := hr
  clear hR hm hr hn hk
  go_enter Tryz.func104, Tryz.ntmps104
  go_wp2
  exact bodyPost_ret (v := .tuple #[.agg #[.int .i64 m.pr, .int .i64 m.ea, .int .i64 m.ep, .int .i64 m.ex, .int .i64 m.le, .int .i64 m.kn], .int .i64 0]) (by simp [results, Tryz.results104, go_sem]) rfl ⟨rfl, ((Below.refl _ _).alloc (Nat.le_refl _) _).alloc (by simp) _⟩
end Go.Proofs.YthiljpbodmajaabGreat
