/-
  THE REFERENCE'S MAPPINGS IN MEMORY: a slice of them (six cells each).
-/
import Derived.Test.YthiljpbodmajaabGreatRfbx
import Derived.Test.YthiljpbodmajaabGreatVrdz
import Derived.Test.YthiljpbodmajaabGreatRefk
import Derived.Deep.DeepCutAuto
import Derived.Test.YthiljpbodmajaabGreatRfpe
import Derived.Test.YthiljpbodmajaabGreatSimz
import Derived.Deep.AppendLies
namespace Go.Proofs.YthiljpbodmajaabGreat
open Go.RowKit Plain
set_option linter.unusedVariables false

def vwl (m : Vw) : List Value := [.int .i64 m.pr, .int .i64 m.ad, .int .i64 m.po, .int .i64 m.ex, .int .i64 m.le, .int .i64 m.kn]
theorem vwl_len (m : Vw) : (vwl m).length = 6 := rfl
theorem vwl_one (m : Vw) : ∀ v ∈ vwl m, v.oneCell' = true := by intro v hv; simp [vwl] at hv; rcases hv with rfl | rfl | rfl | rfl | rfl | rfl <;> rfl
def vrowOf (ms : List Vw) : List Value := ms.flatMap vwl
theorem vrowOf_len (ms : List Vw) : (vrowOf ms).length = ms.length * 6 := by
  induction ms with
  | nil => rfl
  | cons m ms ih => simp only [vrowOf, List.flatMap_cons, List.length_append, vwl_len, List.length_cons] at *; omega
theorem vrowOf_at (ms : List Vw) (i j : Nat) (hj : j < 6) : (vrowOf ms)[i * 6 + j]? = (ms[i]?).bind fun m => (vwl m)[j]? := by
  induction ms generalizing i with
  | nil => simp [vrowOf]
  | cons m ms ih =>
    simp only [vrowOf, List.flatMap_cons] at *
    cases i with
    | zero => rw [List.getElem?_append_left (by rw [vwl_len]; omega)]; simp
    | succ i =>
      rw [List.getElem?_append_right (by rw [vwl_len]; omega), vwl_len, show (i + 1) * 6 + j - 6 = i * 6 + j by omega, ih]
      simp

/-- the value v is a slice of the call's own that holds the mappings ms -/
def Vrow (w : World) (base : Nat) (v : Value) (ms : List Vw) : Prop := w.ownsRow base 143 6 v ms.length (vrowOf ms)

theorem vrow_cur {cur : Array Value} {ms : List Vw} (hs : ms.length * 6 ≤ cur.size) (h : cur.toList.take (ms.length * 6) = vrowOf ms) (i j : Nat) (m : Vw) (hm : ms[i]? = some m) (hj : j < 6) : cur[i * 6 + j]? = (vwl m)[j]? := by
  have hi : i < ms.length := (List.getElem?_eq_some_iff.1 hm).1
  have e := vrowOf_at ms i j hj
  rw [← h, List.getElem?_take, if_pos (by omega), hm] at e
  simpa using e
theorem vrow_of {cur : Array Value} {ms : List Vw} (hs : ms.length * 6 ≤ cur.size) (h : ∀ i j m, ms[i]? = some m → j < 6 → cur[i * 6 + j]? = (vwl m)[j]?) : cur.toList.take (ms.length * 6) = vrowOf ms := by
  apply List.ext_getElem?
  intro k
  rw [List.getElem?_take]
  split
  · rename_i hk
    have hi : k / 6 < ms.length := by omega
    have e := h (k / 6) (k % 6) ms[k / 6] (by simp [hi]) (by omega)
    have e2 := vrowOf_at ms (k / 6) (k % 6) (by omega)
    rw [show k / 6 * 6 + k % 6 = k by omega] at e e2
    rw [e2]
    simp [e, hi]
  · rw [List.getElem?_eq_none (by rw [vrowOf_len]; omega)]

/-- what lies in memory, element by element -/
structure VrowIn (w : World) (base g n cap : Nat) (ms : List Vw) : Prop where
  len : ms.length = n
  low : base ≤ g
  le : n ≤ cap
  cm : cap ≤ maxLen
  blk : ∃ cur : Array Value, w.heap[g]? = some (.cells cur 143 (0, 0)) ∧ cur.size = cap * 6 ∧ ∀ i j m, ms[i]? = some m → j < 6 → cur[i * 6 + j]? = (vwl m)[j]?
theorem VrowIn.row {w : World} {base g n cap : Nat} {ms : List Vw} (h : VrowIn w base g n cap ms) : Vrow w base (.slice (some ⟨g, 0, none⟩) n cap) ms := by
  obtain ⟨cur, h1, h2, h3⟩ := h.blk
  refine ⟨vrowOf_len ms, .inr ⟨g, cap, cur, by rw [h.len], h.low, h1, by rw [h.len]; exact h.le, h.cm, h2, ?_⟩⟩
  have := h.le; have := h.len
  exact vrow_of (by omega) h3
theorem Vrow.cases {w : World} {base : Nat} {v : Value} {ms : List Vw} (h : Vrow w base v ms) : (v = .slice none 0 0 ∧ ms = []) ∨ ∃ g n cap, v = .slice (some ⟨g, 0, none⟩) n cap ∧ VrowIn w base g n cap ms := by
  rcases h.2 with ⟨h1, h2⟩ | ⟨g, cap, cur, rfl, h2, h3, h4, h5, h6, h7⟩
  · exact .inl ⟨h1, List.length_eq_zero_iff.1 h2⟩
  · exact .inr ⟨g, _, cap, rfl, rfl, h2, h4, h5, cur, h3, h6, fun i j m hm hj => vrow_cur (by omega) h7 i j m hm hj⟩
theorem Vrow.nil (w : World) (base : Nat) : Vrow w base (.slice none 0 0) [] := World.ownsRow_nil w base _ _
theorem VrowIn.range {w : World} {base g n cap : Nat} {ms : List Vw} (h : VrowIn w base g n cap ms) (i : Nat) (m : Vw) (hm : ms[i]? = some m) : w.rangeAt g (i * 6) (vwl m) := by
  obtain ⟨cur, h1, h2, h3⟩ := h.blk
  intro j v hv
  have hj : j < 6 := by have := (List.getElem?_eq_some_iff.1 hv).1; rw [vwl_len] at this; exact this
  rw [cell_of_row w g (i * 6 + j) cur _ _ h1, h3 i j m hm hj, hv]
theorem VrowIn.cells {w : World} {base g n cap : Nat} {ms : List Vw} (h : VrowIn w base g n cap ms) (k : Nat) (m : Vw) (hm : ms[k]? = some m) : w.cell? ⟨g, k * 6, none⟩ = some (.int .i64 m.pr) ∧ w.cell? ⟨g, k * 6 + 1, none⟩ = some (.int .i64 m.ad) ∧ w.cell? ⟨g, k * 6 + 2, none⟩ = some (.int .i64 m.po) ∧ w.cell? ⟨g, k * 6 + 3, none⟩ = some (.int .i64 m.ex) ∧ w.cell? ⟨g, k * 6 + 4, none⟩ = some (.int .i64 m.le) ∧ w.cell? ⟨g, k * 6 + 5, none⟩ = some (.int .i64 m.kn) :=
  ⟨h.range k m hm 0 _ rfl, h.range k m hm 1 _ rfl, h.range k m hm 2 _ rfl, h.range k m hm 3 _ rfl, h.range k m hm 4 _ rfl, h.range k m hm 5 _ rfl⟩
theorem VrowIn.there {w : World} {base g n cap : Nat} {ms : List Vw} (h : VrowIn w base g n cap ms) (i : Nat) (hi : i < cap) : w.there g (i * 6) 6 := by
  obtain ⟨cur, h1, h2, h3⟩ := h.blk
  intro j hj
  constructor
  · rw [cell_of_row w g (i * 6 + j) cur _ _ h1]
    rw [Array.getElem?_eq_getElem (by omega)]; rfl
  · simp [World.frozen?, h1]
theorem VrowIn.lt {w : World} {base g n cap : Nat} {ms : List Vw} (h : VrowIn w base g n cap ms) : g < w.heap.size := by
  obtain ⟨cur, h1, _⟩ := h.blk
  exact (Array.getElem?_eq_some_iff.1 h1).1
theorem VrowIn.kept {w w' : World} {base g n cap : Nat} {ms : List Vw} (h : VrowIn w base g n cap ms) (e : w'.heap[g]? = w.heap[g]?) : VrowIn w' base g n cap ms := by
  obtain ⟨cur, h1, h2⟩ := h.blk
  exact ⟨h.len, h.low, h.le, h.cm, cur, by rw [e]; exact h1, h2⟩
theorem Vrow.kept {w w' : World} {base : Nat} {v : Value} {ms : List Vw} (h : Vrow w base v ms) (e : ∀ g, v.ownBlock = some g → w'.heap[g]? = w.heap[g]?) : Vrow w' base v ms := by
  rcases h.cases with ⟨rfl, rfl⟩ | ⟨g, n, cap, rfl, hr⟩
  · exact Vrow.nil _ _
  · exact (hr.kept (e g rfl)).row
theorem VrowIn.take {w : World} {base g n cap : Nat} {ms : List Vw} (h : VrowIn w base g n cap ms) (k : Nat) (hk : k ≤ n) : VrowIn w base g k cap (ms.take k) := by
  obtain ⟨cur, h1, h2, h3⟩ := h.blk
  have := h.len; have := h.le
  refine ⟨by simp; omega, h.low, by omega, h.cm, cur, h1, h2, fun i j m hm hj => h3 i j m ?_ hj⟩
  rw [List.getElem?_take] at hm
  split at hm
  · exact hm
  · cases hm


theorem vrowOf_app (l : List Vw) (v : Vw) : vrowOf (l ++ [v]) = vrowOf l ++ vwl v := by simp [vrowOf]
theorem urowOf_app (l : List Us) (v : Us) : urowOf (l ++ [v]) = urowOf l ++ usl v := by simp [urowOf]
theorem Vrow.lt {w : World} {base : Nat} {v : Value} {ms : List Vw} (h : Vrow w base v ms) : ∀ g, v.ownBlock = some g → base ≤ g ∧ g < w.heap.size := own_lt1 h
end Go.Proofs.YthiljpbodmajaabGreat
namespace Go.Proofs.YthiljpbodmajaabGreat
open Go.RowKit Plain
set_option linter.unusedVariables false

set_option maxHeartbeats 4000000 in
set_option maxRecDepth 2000 in
theorem rseen_core (b i g n cap N kn : Nat) (u : Us) (now id : Int) (w : World) (hin : i < n) (hnc : n ≤ cap) (hcm : cap ≤ 9223372036854775807) (t0 : 0 ≤ u.ti) (t1 : u.ti ≤ now) (t2 : now ≤ 1099511627776) (i0 : 0 ≤ id) (i1 : id ≤ 100000) (hN : N ≤ 8) (hq : (N : Int) / 2 = (kn : Int))
    (cu : ∀ wx, Below w.heap.size w wx → wx.cell? ⟨b, 13, none⟩ = some (.slice (some ⟨g, 0, none⟩) n cap) ∧ (wx.cell? ⟨g, i * 7, none⟩ = some (.int .i64 u.pr) ∧ wx.cell? ⟨g, i * 7 + 1, none⟩ = some (.int .i64 u.ad) ∧ wx.cell? ⟨g, i * 7 + 2, none⟩ = some (.int .i64 u.po) ∧ wx.cell? ⟨g, i * 7 + 3, none⟩ = some (.int .i64 u.ex) ∧ wx.cell? ⟨g, i * 7 + 4, none⟩ = some (.int .i64 u.pa) ∧ wx.cell? ⟨g, i * 7 + 5, none⟩ = some (.int .i64 u.pp) ∧ wx.cell? ⟨g, i * 7 + 6, none⟩ = some (.int .i64 u.ti))) (cn : ∀ wx, Below w.heap.size w wx → wx.cell? ⟨b, 12, none⟩ = some (.int .i64 now))
    (cP : ∀ wx, Below w.heap.size w wx → Calls Tryz.prog 212 #[.pointer (some ⟨b, 0, none⟩), .int .i64 (i : Int)] wx fun e w' => ∃ gg cap2, e = .returned (.slice gg N cap2) ∧ Below wx.heap.size wx w') (cI : ∀ wx, Below w.heap.size w wx → Calls Tryz.prog 211 #[.pointer (some ⟨b, 0, none⟩), .int .i64 u.pr] wx fun e w' => e = .returned (.int .i64 id) ∧ w' = wx) :
    Calls Tryz.prog 159 #[.pointer (some ⟨b, 0, none⟩), .int .i64 (i : Int)] w fun r w' => r = .returned (.agg #[.int .i64 u.pr, .int .i64 u.ad, .int .i64 u.po, .int .i64 u.ex, .int .i64 (id - (now - u.ti)), .int .i64 (kn : Int)]) ∧ Below w.heap.size w w' := by
  have CU : Hid _ := cu
  have CN : Hid _ := cn
  have CP : Hid _ := cP
  have CI : Hid _ := cI
  clear cu cn cP cI
  have hw1 : IntKind.i64.wrap (now - u.ti) = now - u.ti := by rw [IntKind.wrap_i64]; omega
  have hw2 : IntKind.i64.wrap (id - (now - u.ti)) = id - (now - u.ti) := by rw [IntKind.wrap_i64]; omega
  have hw3 : IntKind.i64.wrap (kn : Int) = (kn : Int) := by rw [IntKind.wrap_i64]; omega
  go_enter Tryz.func159, Tryz.ntmps159
  go_upto_region 1 with fail
  have S_v0 : Hid (St [(w.heap.size, #[.int .i64 0, .int .i64 0, .int .i64 0, .int .i64 0, .int .i64 0, .int .i64 0], 143)] w (w.alloc (.cells #[.int .i64 0, .int .i64 0, .int .i64 0, .int .i64 0, .int .i64 0, .int .i64 0] 143))) := St.alloc (St.start w) #[.int .i64 0, .int .i64 0, .int .i64 0, .int .i64 0, .int .i64 0, .int .i64 0] 143 (w.heap.size) rfl
  generalize (w.alloc (.cells #[.int .i64 0, .int .i64 0, .int .i64 0, .int .i64 0, .int .i64 0, .int .i64 0] 143)) = v0 at S_v0 ⊢
  have hz_v0 : w.heap.size < v0.heap.size := St.lt S_v0.out (x := (w.heap.size, #[.int .i64 0, .int .i64 0, .int .i64 0, .int .i64 0, .int .i64 0, .int .i64 0], 143)) (by simp)
  obtain ⟨a13, c0, c1, c2, c3, c4, c5, c6⟩ := CU.out _ (St.below S_v0.out)
  go_upto_region 2 with fail
  try go_frame
  have S_v1 : Hid (St [(w.heap.size, #[.int .i64 0, .int .i64 0, .int .i64 0, .int .i64 0, .int .i64 0, .int .i64 0], 143), (v0.heap.size, #[.int .i64 u.pr, .int .i64 u.ad, .int .i64 u.po, .int .i64 u.ex, .int .i64 u.pa, .int .i64 u.pp, .int .i64 u.ti], 134)] w (v0.alloc (.cells #[.int .i64 u.pr, .int .i64 u.ad, .int .i64 u.po, .int .i64 u.ex, .int .i64 u.pa, .int .i64 u.pp, .int .i64 u.ti] 134))) := St.alloc S_v0.out #[.int .i64 u.pr, .int .i64 u.ad, .int .i64 u.po, .int .i64 u.ex, .int .i64 u.pa, .int .i64 u.pp, .int .i64 u.ti] 134 (v0.heap.size) rfl
  generalize (v0.alloc (.cells #[.int .i64 u.pr, .int .i64 u.ad, .int .i64 u.po, .int .i64 u.ex, .int .i64 u.pa, .int .i64 u.pp, .int .i64 u.ti] 134)) = v1 at S_v1 ⊢
  clear S_v0 a13 c0 c1 c2 c3 c4 c5 c6 CU
  have hz_v1 : v0.heap.size < v1.heap.size := St.lt S_v1.out (x := (v0.heap.size, #[.int .i64 u.pr, .int .i64 u.ad, .int .i64 u.po, .int .i64 u.ex, .int .i64 u.pa, .int .i64 u.pp, .int .i64 u.ti], 134)) (by simp)
  go_wp2_with fail
  refine Calls.mono (CP.out _ (St.below S_v1.out)) ?_; rintro e w1 ⟨gg, cap2, rfl, hb1⟩
  have S_w1 : Hid (St [(w.heap.size, #[.int .i64 0, .int .i64 0, .int .i64 0, .int .i64 0, .int .i64 0, .int .i64 0], 143), (v0.heap.size, #[.int .i64 u.pr, .int .i64 u.ad, .int .i64 u.po, .int .i64 u.ex, .int .i64 u.pa, .int .i64 u.pp, .int .i64 u.ti], 134)] w w1) := St.next S_v1.out hb1
  clear S_v1 hb1
  have hz_w1 : v0.heap.size < w1.heap.size := St.lt S_w1.out (x := (v0.heap.size, #[.int .i64 u.pr, .int .i64 u.ad, .int .i64 u.po, .int .i64 u.ex, .int .i64 u.pa, .int .i64 u.pp, .int .i64 u.ti], 134)) (by simp)
  have q_u0 : w1.cell? ⟨v0.heap.size, 0, none⟩ = some (.int .i64 u.pr) := St.at 1 0 rfl rfl _ S_w1.out
  go_wp2_with fail
  refine Calls.mono (CI.out _ (St.below S_w1.out)) ?_; rintro e w' ⟨rfl, hw⟩; replace hw := hw.symm; subst hw
  clear q_u0 CP CI
  go_upto_region 4 with fail
  try go_frame
  obtain ⟨SX, hSX⟩ : ∃ SX : World → Prop, ∀ w', Sof SX w' ↔ St [(v0.heap.size, #[.int .i64 u.pr, .int .i64 u.ad, .int .i64 u.po, .int .i64 u.ex, .int .i64 u.pa, .int .i64 u.pp, .int .i64 u.ti], 134)] w w' := ⟨_, fun _ => Iff.rfl⟩
  have HSX : Hid _ := hSX
  clear hSX
  have ss : Hid (Sof SX w1.drew) := (HSX.out _).2 (St.only (St.drew S_w1.out) 1 rfl)
  refine wp_region_held_drew (S := fun w' => Sof SX w') (by kernel_rfl) ss.out (fun hHeld => ?_)
  refine takeR (i := 0) (v := .pointer (some ⟨v0.heap.size, 0, none⟩)) rfl (by kernel_rfl) (by kernel_rfl) (by kernel_rfl) (fun _ _ _ h => h) (Or.inl ⟨by rfl, fun w' hSw => by first | rfl | go_simp⟩) (by assumption) ?_
  try go_frame
  refine takeR (i := 1) (v := .int .i64 u.pr) rfl (by kernel_rfl) (by kernel_rfl) (by kernel_rfl) (fun _ _ _ h => h) (yieldr_in (by rfl) rfl rfl (fun w' h => St.at 0 0 rfl rfl _ ((HSX.out w').1 h))) (by assumption) ?_
  try go_frame
  refine takeR (i := 2) (v := .pointer (some ⟨v0.heap.size, 1, none⟩)) rfl (by kernel_rfl) (by kernel_rfl) (by kernel_rfl) (fun _ _ _ h => h) (Or.inl ⟨by rfl, fun w' hSw => by first | rfl | go_simp⟩) (by assumption) ?_
  try go_frame
  refine takeR (i := 3) (v := .int .i64 u.ad) rfl (by kernel_rfl) (by kernel_rfl) (by kernel_rfl) (fun _ _ _ h => h) (yieldr_in (by rfl) rfl rfl (fun w' h => St.at 0 1 rfl rfl _ ((HSX.out w').1 h))) (by assumption) ?_
  try go_frame
  refine takeR (i := 4) (v := .pointer (some ⟨v0.heap.size, 2, none⟩)) rfl (by kernel_rfl) (by kernel_rfl) (by kernel_rfl) (fun _ _ _ h => h) (Or.inl ⟨by rfl, fun w' hSw => by first | rfl | go_simp⟩) (by assumption) ?_
  try go_frame
  refine takeR (i := 5) (v := .int .i64 u.po) rfl (by kernel_rfl) (by kernel_rfl) (by kernel_rfl) (fun _ _ _ h => h) (yieldr_in (by rfl) rfl rfl (fun w' h => St.at 0 2 rfl rfl _ ((HSX.out w').1 h))) (by assumption) ?_
  try go_frame
  refine takeR (i := 6) (v := .pointer (some ⟨v0.heap.size, 3, none⟩)) rfl (by kernel_rfl) (by kernel_rfl) (by kernel_rfl) (fun _ _ _ h => h) (Or.inl ⟨by rfl, fun w' hSw => by first | rfl | go_simp⟩) (by assumption) ?_
  try go_frame
  refine takeR (i := 7) (v := .int .i64 u.ex) rfl (by kernel_rfl) (by kernel_rfl) (by kernel_rfl) (fun _ _ _ h => h) (yieldr_in (by rfl) rfl rfl (fun w' h => St.at 0 3 rfl rfl _ ((HSX.out w').1 h))) (by assumption) ?_
  try go_frame
  refine takeR (i := 8) (v := .int .i64 id) rfl (by kernel_rfl) (by kernel_rfl) (by kernel_rfl) (fun _ _ _ h => h) (yieldr_mv (by rfl) (.inl rfl) rfl) (by assumption) ?_
  try go_frame
  refine takeR (i := 9) (v := .pointer (some ⟨b, 0, none⟩)) rfl (by kernel_rfl) (by kernel_rfl) (by kernel_rfl) (fun _ _ _ h => h) (yieldr_mv (by rfl) (.inl rfl) rfl) (by assumption) ?_
  try go_frame
  refine takeR (i := 10) (v := .pointer (some ⟨b, 0, none⟩)) rfl (by kernel_rfl) (by kernel_rfl) (by kernel_rfl) (fun _ _ _ h => h) (Or.inl ⟨by rfl, fun w' hSw => by first | rfl | go_simp⟩) (by assumption) ?_
  try go_frame
  refine takeR (i := 11) (v := .pointer (some ⟨b, 12, none⟩)) rfl (by kernel_rfl) (by kernel_rfl) (by kernel_rfl) (fun _ _ _ h => h) (Or.inl ⟨by rfl, fun w' hSw => by first | rfl | go_simp⟩) (by assumption) ?_
  try go_frame
  refine takeR (i := 12) (v := .int .i64 now) rfl (by kernel_rfl) (by kernel_rfl) (by kernel_rfl) (fun _ _ _ h => h) (yieldr_in (by rfl) rfl rfl (fun w' h => CN.out w' (St.below ((HSX.out w').1 h)))) (by assumption) ?_
  try go_frame
  refine takeR (i := 13) (v := .pointer (some ⟨v0.heap.size, 6, none⟩)) rfl (by kernel_rfl) (by kernel_rfl) (by kernel_rfl) (fun _ _ _ h => h) (Or.inl ⟨by rfl, fun w' hSw => by first | rfl | go_simp⟩) (by assumption) ?_
  try go_frame
  refine takeR (i := 14) (v := .int .i64 u.ti) rfl (by kernel_rfl) (by kernel_rfl) (by kernel_rfl) (fun _ _ _ h => h) (yieldr_in (by rfl) rfl rfl (fun w' h => St.at 0 6 rfl rfl _ ((HSX.out w').1 h))) (by assumption) ?_
  try go_frame
  refine takeR (i := 15) (v := .int .i64 (now - u.ti)) rfl (by kernel_rfl) (by kernel_rfl) (by kernel_rfl) (fun _ _ _ h => h) (Or.inl ⟨by rfl, fun w' hSw => by first | rfl | go_simp⟩) (by assumption) ?_
  try go_frame
  refine takeR (i := 16) (v := .int .i64 (id - (now - u.ti))) rfl (by kernel_rfl) (by kernel_rfl) (by kernel_rfl) (fun _ _ _ h => h) (Or.inl ⟨by rfl, fun w' hSw => by first | rfl | go_simp⟩) (by assumption) ?_
  try go_frame
  refine takeR (i := 17) (v := .slice gg N cap2) rfl (by kernel_rfl) (by kernel_rfl) (by kernel_rfl) (fun _ _ _ h => h) (yieldr_mv (by rfl) (.inl rfl) rfl) (by assumption) ?_
  try go_frame
  refine takeR (i := 18) (v := .int .i64 (N : Int)) rfl (by kernel_rfl) (by kernel_rfl) (by kernel_rfl) (fun _ _ _ h => h) (Or.inl ⟨by rfl, fun w' hSw => by first | rfl | go_simp⟩) (by assumption) ?_
  try go_frame
  refine takeR (i := 19) (v := .int .i64 (kn : Int)) rfl (by kernel_rfl) (by kernel_rfl) (by kernel_rfl) (fun _ _ _ h => h) (Or.inl ⟨by rfl, fun w' hSw => by first | rfl | go_simp⟩) (by assumption) ?_
  try go_frame
  refine takeR (i := 20) (v := .agg #[.int .i64 u.pr, .int .i64 u.ad, .int .i64 u.po, .int .i64 u.ex, .int .i64 (id - (now - u.ti)), .int .i64 (kn : Int)]) rfl (by kernel_rfl) (by kernel_rfl) (by kernel_rfl) (fun _ _ _ h => h) (Or.inl ⟨by rfl, fun w' hSw => by first | rfl | go_simp⟩) (by assumption) ?_
  try go_frame
  have HW : Hid ((w1.drew.setCells (w.heap.size) 0 [.int .i64 u.pr, .int .i64 u.ad, .int .i64 u.po, .int .i64 u.ex, .int .i64 (id - (now - u.ti)), .int .i64 (kn : Int)]).heap[w.heap.size]? = some (.cells #[.int .i64 u.pr, .int .i64 u.ad, .int .i64 u.po, .int .i64 u.ex, .int .i64 (id - (now - u.ti)), .int .i64 (kn : Int)] 143 (0, 0))) := heap_setCells_all _ (St.get (St.drew S_w1.out) 0 rfl) rfl
  have HB : Hid (Below w.heap.size w (w1.drew.setCells (w.heap.size) 0 [.int .i64 u.pr, .int .i64 u.ad, .int .i64 u.po, .int .i64 u.ex, .int .i64 (id - (now - u.ti)), .int .i64 (kn : Int)])) := (St.below (St.drew S_w1.out)).trans ((setCells_below (w.heap.size) _ 0 _).mono (Nat.le_refl _))
  refine callR (i := 21) (by kernel_rfl) rfl (by rfl) (fun K hK => ?_)
  refine stow_rm rfl (w.heap.size) rfl [.int .i64 u.pr, .int .i64 u.ad, .int .i64 u.po, .int .i64 u.ex, .int .i64 (id - (now - u.ti)), .int .i64 (kn : Int)] rfl rfl (St.get (St.drew S_w1.out) 0 rfl) rfl (by simp [Value.oneCell']) ?_
  refine hK.out _ _ ?_ (fun hHeld => ?_)
  · exact (HSX.out _).2 (St.fillO ((HSX.out _).1 ss.out) (St.get (St.drew S_w1.out) 0 rfl) (Nat.le_refl _) (by show v0.heap.size ≠ w.heap.size; omega) _ rfl)
  clear hK
  clear K
  try go_frame
  generalize w1.drew.setCells (w.heap.size) 0 [.int .i64 u.pr, .int .i64 u.ad, .int .i64 u.po, .int .i64 u.ex, .int .i64 (id - (now - u.ti)), .int .i64 (kn : Int)] = W at HW HB hHeld ⊢
  refine wpAnyH_done (by kernel_rfl) ?_ _
  go_wp2
  exact bodyPost_ret (v := .agg #[.int .i64 u.pr, .int .i64 u.ad, .int .i64 u.po, .int .i64 u.ex, .int .i64 (id - (now - u.ti)), .int .i64 (kn : Int)]) (res_rm Tryz.results159 _ W (w.heap.size) [.int .i64 u.pr, .int .i64 u.ad, .int .i64 u.po, .int .i64 u.ex, .int .i64 (id - (now - u.ti)), .int .i64 (kn : Int)] rfl rfl HW.out) rfl ⟨rfl, HB.out⟩

end Go.Proofs.YthiljpbodmajaabGreat
namespace Go.Proofs.YthiljpbodmajaabGreat
open Go.RowKit Plain
set_option linter.unusedVariables false
theorem rinfo_rm : (Tryz.prog.info? 143).map (fun i => (i.zero, i.size, i.bytes)) = some (some (.agg #[.int .i64 0, .int .i64 0, .int .i64 0, .int .i64 0, .int .i64 0, .int .i64 0]), 6, 48) := by kernel_rfl
theorem rrank_any (v : Vw) (h0 : 0 ≤ v.pr) (h1 : v.pr ≤ 255) (x0 : 0 ≤ v.ex) (x1 : v.ex ≤ 65535) : RetB 160 #[.agg #[.int .i64 v.pr, .int .i64 v.ad, .int .i64 v.po, .int .i64 v.ex, .int .i64 v.le, .int .i64 v.kn]] (.int .i64 (rnk v)) := fun w => by
  have hw1 : IntKind.i64.wrap (v.pr * 65536) = v.pr * 65536 := by rw [IntKind.wrap_i64]; omega
  have hw2 : IntKind.i64.wrap (v.pr * 65536 + v.ex) = v.pr * 65536 + v.ex := by rw [IntKind.wrap_i64]; omega
  go_enter Tryz.func160, Tryz.ntmps160
  go_wp2
  go_ret
  exact ⟨rfl, (Below.refl _ _).alloc (Nat.le_refl _) _⟩
theorem cell6 {w : World} {B : Nat} {v0 v1 v2 v3 v4 v5 : Value} {t : TypeId} (h : w.heap[B]? = some (.cells #[v0, v1, v2, v3, v4, v5] t (0, 0))) : w.cell? ⟨B, 0, none⟩ = some v0 ∧ w.cell? ⟨B, 1, none⟩ = some v1 ∧ w.cell? ⟨B, 2, none⟩ = some v2 ∧ w.cell? ⟨B, 3, none⟩ = some v3 ∧ w.cell? ⟨B, 4, none⟩ = some v4 ∧ w.cell? ⟨B, 5, none⟩ = some v5 :=
  ⟨cell_of_row _ _ _ _ _ _ h, cell_of_row _ _ _ _ _ _ h, cell_of_row _ _ _ _ _ _ h, cell_of_row _ _ _ _ _ _ h, cell_of_row _ _ _ _ _ _ h, cell_of_row _ _ _ _ _ _ h⟩
theorem lvI_mono (L : Nat → Bool) : ∀ {k n : Nat}, k ≤ n → (lvI L k).length ≤ (lvI L n).length
  | k, 0, h => by have : k = 0 := by omega
                  subst this; exact Nat.le_refl _
  | k, n + 1, h => by
    by_cases e : k = n + 1
    · subst e; exact Nat.le_refl _
    · refine Nat.le_trans (lvI_mono L (show k ≤ n by omega)) ?_
      rw [lvI]; split
      · simp
      · exact Nat.le_refl _
def rkOf (l : List Vw) (k : Nat) : Int := match l[k]? with | some v => rnk v | none => 0
theorem sel_nextR {live TB : List Vw} (hm : ∀ v, v ∈ live ↔ v ∈ TB) (hr : TB.Pairwise (fun a b => rnk a < rnk b)) {j : Nat} {v : Vw} (hj : TB[j]? = some v) {least : Int} (h1 : ∀ i w, i < j → TB[i]? = some w → rnk w ≤ least) (h2 : ∀ i w, j ≤ i → TB[i]? = some w → least < rnk w) :
    ∃ a, selI (rkOf live) least live.length = some a ∧ live[a]? = some v := sel_next hm hr hj h1 h2
def lenOf : Value → Nat
  | .slice _ n _ => n
  | _ => 0
theorem vrow_form {w : World} {base : Nat} {v : Value} {l : List Vw} (h : Vrow w base v l) : ∃ gg cap, v = .slice gg l.length cap := by
  rcases h.cases with ⟨rfl, rfl⟩ | ⟨g, n, cap, rfl, hr⟩
  · exact ⟨none, 0, rfl⟩
  · exact ⟨_, cap, by rw [hr.len]⟩
theorem sel_succ (r : Nat → Int) (least : Int) (k : Nat) (bb : Bool) (h : bb = (decide (least < r k) && match selI r least k with | none => true | some a => decide (r k < r a))) : selI r least (k + 1) = if bb then some k else selI r least k := by
  subst h
  rw [selI]
  cases selI r least k with
  | none => by_cases q : least < r k <;> simp [q]
  | some a => by_cases q : least < r k <;> by_cases q2 : r k < r a <;> simp [q, q2]
theorem yieldr_rm {ops : Array Oper} {S : World → Prop} {op : Oper} {a : Act} (hw : Region.wanted op (yielded ops a.tmps) = true) {x : Operand} (ho : op.op = .load 143 x) (b o : Nat) (hx : a.eval x = .pointer (some ⟨b, o, none⟩)) (vs : List Value) (hl : vs.length = 6) (hS : ∀ w, S w → w.rangeAt b o vs) : YieldsIf Tryz.prog ops S op (.agg vs.toArray) a := by
  obtain ⟨i, hi, hz, hs⟩ := info_two info_rm
  exact yieldsIf_load_mid hw _ x ho b o hx vs _ hS Tryz.underlying143 rfl (by simp [hi, hs, hl])

set_option maxHeartbeats 8000000 in
set_option maxRecDepth 2000 in
theorem rtable_core (b n cap : Nat) (gu : Option Addr) (L : Nat → Bool) (V : Nat → Vw) (TB : List Vw) (w : World) (hnc : n ≤ cap) (hcm : cap ≤ 9223372036854775807) (cu : ∀ wx, Below w.heap.size w wx → wx.cell? ⟨b, 13, none⟩ = some (.slice gu n cap))
    (cl : ∀ k, k < n → ∀ wx, Below w.heap.size w wx → Calls Tryz.prog 157 #[.pointer (some ⟨b, 0, none⟩), .int .i64 (k : Int)] wx fun e w' => e = .returned (.bool (L k)) ∧ Below wx.heap.size wx w')
    (cs : ∀ k, k < n → L k = true → ∀ wx, Below w.heap.size w wx → Calls Tryz.prog 159 #[.pointer (some ⟨b, 0, none⟩), .int .i64 (k : Int)] wx fun e w' => e = .returned (.agg #[.int .i64 (V k).pr, .int .i64 (V k).ad, .int .i64 (V k).po, .int .i64 (V k).ex, .int .i64 (V k).le, .int .i64 (V k).kn]) ∧ Below wx.heap.size wx w')
    (hT : ∀ v, v ∈ (lvI L n).map V ↔ v ∈ TB) (hlen : (lvI L n).length = TB.length) (h64 : TB.length ≤ 64) (hr : TB.Pairwise (fun a b => rnk a < rnk b)) (hb : ∀ v ∈ TB, 0 ≤ v.pr ∧ v.pr ≤ 255 ∧ 1 ≤ v.ex ∧ v.ex ≤ 65535) :
    Calls Tryz.prog 102 #[.pointer (some ⟨b, 0, none⟩)] w fun e w' => ∃ lv, e = .returned lv ∧ Vrow w' w.heap.size lv TB ∧ Below w.heap.size w w' := by
  have CU : Hid _ := cu
  have CL : Hid _ := cl
  have CS : Hid _ := cs
  have HT : Hid _ := hT
  have HR : Hid _ := hr
  have HB : Hid _ := hb
  have HLN : Hid _ := hlen
  clear cu cl cs hT hr hb hlen
  obtain ⟨j0, hj0, y00, y01, y02⟩ := rinfo_parts rinfo_rm
  have HJ0 : Hid _ := hj0
  have Y00 : Hid _ := y00
  have Y01 : Hid _ := y01
  have Y02 : Hid _ := y02
  clear hj0 y00 y01 y02
  go_enter Tryz.func102, Tryz.ntmps102
  go_wp2
  go_loopw [3, 4] (fun lv' kv wr => ∃ (lv : Value) (k : Nat), lv = lv' ∧ k ≤ n ∧ kv = .int .i64 (k : Int) ∧ Hid (Vrow wr w.heap.size lv ((lvI L k).map V)) ∧ Hid (Below w.heap.size w wr)) (fun _ i _ => n - (intOf i).toNat)
  case atStart => exact ⟨_, 0, rfl, by omega, rfl, Vrow.nil _ _, Below.refl _ _⟩
  case round =>
    obtain ⟨lv, k, hlv', hk, rfl, hrow, hbel⟩ := hrel
    subst hlv'
    have hL := CU.out wr hbel.out
    by_cases hlt : k < n
    · have lk : Hid _ := CL.out k hlt wr hbel.out
      cases ql : L k
      · have hh : Hid ((lvI L (k + 1)).map V = (lvI L k).map V) := by show _ = _; rw [lvI, ql]; rfl
        rw [ql] at lk
        go_wp2_with fail
        refine Calls.mono lk.out ?_; rintro e wl ⟨rfl, hbl⟩
        have hbl2 : Hid (Below w.heap.size w wl) := hbel.out.trans (hbl.mono hbel.out.size)
        have hrow2 : Hid (Vrow wl w.heap.size lv ((lvI L (k + 1)).map V)) := by show Vrow _ _ _ _; rw [hh.out]; exact hrow.out.kept (fun g hg => hbl.block g (hrow.out.lt g hg).2)
        clear hbl lk
        go_wp2
        go_round
        case rel => exact ⟨_, k + 1, rfl, by omega, by go_num, hrow2, hbl2⟩
        case measure => simp [intOf]; omega
      · have hh : Hid ((lvI L (k + 1)).map V = (lvI L k).map V ++ [V k]) := by show _ = _; rw [lvI, ql]; simp
        have h64' : Hid (((lvI L k).map V).length ≤ 64) := by show _ ≤ _; rw [List.length_map]; have := lvI_mono L hk; have := HLN.out; omega
        rw [ql] at lk
        go_wp2_with fail
        refine Calls.mono lk.out ?_; rintro e wl ⟨rfl, hbl⟩
        have hbl2 : Hid (Below w.heap.size w wl) := hbel.out.trans (hbl.mono hbel.out.size)
        have sk : Hid _ := CS.out k hlt ql wl hbl2.out
        obtain ⟨v, hv⟩ : ∃ v, v = V k := ⟨_, rfl⟩
        rw [← hv] at hh sk
        clear hv
        go_wp2_with fail
        refine Calls.mono sk.out ?_; rintro e ws ⟨rfl, hbs⟩
        have hbs2 : Hid (Below w.heap.size w ws) := hbl2.out.trans (hbs.mono hbl2.out.size)
        have hrow2 : Hid (Vrow ws w.heap.size lv ((lvI L k).map V)) := hrow.out.kept (fun g hg => (hbs.block g (Nat.lt_of_lt_of_le (hrow.out.lt g hg).2 hbl.size)).trans (hbl.block g (hrow.out.lt g hg).2))
        clear hbl hbs lk sk hL
        go_upto_region 8 with fail
        try go_frame
        obtain ⟨wm, hwm⟩ : ∃ wm, wm = ws.alloc (.cells #[.int .i64 v.pr, .int .i64 v.ad, .int .i64 v.po, .int .i64 v.ex, .int .i64 v.le, .int .i64 v.kn] 143) := ⟨_, rfl⟩
        rw [← hwm]
        have HM : Hid (wm.heap[ws.heap.size]? = some (.cells #[.int .i64 v.pr, .int .i64 v.ad, .int .i64 v.po, .int .i64 v.ex, .int .i64 v.le, .int .i64 v.kn] 143 (0, 0))) := by rw [hwm]; exact alloc1 _ _
        have HMB : Hid (Below w.heap.size w wm) := by rw [hwm]; exact hbs2.out.alloc hbs2.out.size _
        have HMR : Hid (Vrow wm w.heap.size lv ((lvI L k).map V)) := by rw [hwm]; exact hrow2.out.kept (fun g hg => push_lt _ _ _ (hrow2.out.lt g hg).2)
        clear hwm hbs2 hrow2
        obtain ⟨a0, a1, a2, a3, a4, a5⟩ := cell6 HM.out
        have TM : Hid _ := World.ownsRow.alloc HMR.out (.cells #[.int .i64 v.pr, .int .i64 v.ad, .int .i64 v.po, .int .i64 v.ex, .int .i64 v.le, .int .i64 v.kn] 143)
        have HA : Hid _ := alloc1 wm (.cells #[.int .i64 v.pr, .int .i64 v.ad, .int .i64 v.po, .int .i64 v.ex, .int .i64 v.le, .int .i64 v.kn] 143)
        have SB : Hid (w.heap.size ≤ (wm.alloc (.cells #[.int .i64 v.pr, .int .i64 v.ad, .int .i64 v.po, .int .i64 v.ex, .int .i64 v.le, .int .i64 v.kn] 143)).heap.size) := by show _ ≤ _; have := HMB.out.size; simp; omega
        go_wp2_with (first
          | (at_builtin; refine wpList_append_lies _ rfl _ _ 140 rfl (w.heap.size) 143 j0 (.agg #[.int .i64 0, .int .i64 0, .int .i64 0, .int .i64 0, .int .i64 0, .int .i64 0]) 6 48 Tryz.underlying140 HJ0.out Y00.out Y01.out Y02.out rfl (by decide) _ _ _ rfl TM.out ⟨wm.heap.size, 0, none⟩ 1 1 (vwl v) rfl rfl (World.news_of_block HA.out) (vwl_one v) (by decide) ?c3 ?c4 SB.out _ rfl ?_)
          | go_in)
        case c3 => have := h64'.out; unfold maxLen; omega
        case c4 => have := h64'.out; omega
        intro g1 cap1 w1 ho1 hg1 hl1 hz1
        have B1 : Hid (Below w.heap.size w w1) := (HMB.out.alloc HMB.out.size _).trans (rgrown_below hg1 (fun k hk => (HMR.out.lt k hk).1) SB.out)
        have O1 : Hid (Vrow w1 w.heap.size (.slice (some ⟨g1, 0, none⟩) ((lvI L k).length + 1) cap1) ((lvI L (k + 1)).map V)) := by
          show Vrow _ _ _ _
          unfold Vrow
          rw [hh.out, vrowOf_app, List.length_append, List.length_map]
          exact ho1
        clear ho1 hg1 hl1 hz1 TM HA SB HM HMB HMR a0 a1 a2 a3 a4 a5
        go_wp2
        go_round
        case rel => exact ⟨_, k + 1, rfl, by omega, by go_num, O1, B1⟩
        case measure => simp [intOf]; omega
    · have hkn : k = n := by omega
      subst hkn
      obtain ⟨LV, hLV⟩ : ∃ LV, LV = (lvI L k).map V := ⟨_, rfl⟩
      rw [← hLV] at hrow
      have HT2 : Hid (∀ v, v ∈ LV ↔ v ∈ TB) := by rw [hLV]; exact HT.out
      have hN : LV.length = TB.length := by rw [hLV, List.length_map]; exact HLN.out
      obtain ⟨N, hNe⟩ : ∃ N : Nat, N = TB.length := ⟨_, rfl⟩
      rw [← hNe] at hN
      clear hLV HT HLN CL CS
      obtain ⟨gg, capL, hlv⟩ := vrow_form hrow.out
      rw [hN] at hlv
      subst hlv
      have HNE : Hid _ := hNe
      have HNL : Hid _ := hN
      have hN64 : N ≤ 64 := by omega
      clear hNe hN h64
      obtain ⟨w0, hw0⟩ : ∃ w0 : World, w0 = wr := ⟨_, rfl⟩
      rw [← hw0] at hrow hbel hL ⊢
      clear hw0
      have KEEP : Hid (∀ wx, Below w0.heap.size w0 wx → ∀ (k : Nat) (v : Vw), LV[k]? = some v → ∃ g, gg = some ⟨g, 0, none⟩ ∧ wx.rangeAt g (k * 6) (vwl v)) := fun wx hx k v hv => by
        rcases hrow.out.cases with ⟨_, e⟩ | ⟨g, n', cap', e, hr⟩
        · rw [e] at hv; simp at hv
        · cases e
          exact ⟨g, rfl, (hr.kept (hx.block g hr.lt)).range k v hv⟩
      have BND : Hid (∀ (k : Nat) (v : Vw), LV[k]? = some v → 0 ≤ v.pr ∧ v.pr ≤ 255 ∧ 1 ≤ v.ex ∧ v.ex ≤ 65535) := fun k v hv => HB.out v ((HT2.out v).1 (List.mem_of_getElem? hv))
      clear CU
      go_wp2
      clear hL
      go_loopw [7, 8] (fun ov lv wr => ∃ (j : Nat) (least : Int), j ≤ N ∧ lv = .int .i64 least ∧ Hid (∀ i x, i < j → TB[i]? = some x → rnk x ≤ least) ∧ Hid (∀ i x, j ≤ i → TB[i]? = some x → least < rnk x) ∧ (∃ go capo, ov = .slice go j capo) ∧ Hid (Vrow wr w0.heap.size ov (TB.take j)) ∧ Hid (Below w0.heap.size w0 wr)) (fun o _ _ => N - lenOf o)
      case atStart => exact ⟨0, -1, by omega, rfl, fun i x h => by omega, fun i x _ hx => by have := HB.out x (List.mem_of_getElem? hx); unfold rnk; omega, ⟨none, 0, rfl⟩, Vrow.nil _ _, Below.refl _ _⟩
      case round =>
        obtain ⟨wo, hwo⟩ : ∃ wo : World, wo = wr := ⟨_, rfl⟩
        subst hwo
        obtain ⟨j, least, hj, rfl, hl1, hl2, ⟨go, capo, rfl⟩, hout, hbw⟩ := hrel
        by_cases hjN : j < N
        · obtain ⟨x, hx⟩ : ∃ x, TB[j]? = some x := ⟨TB[j]'(by have := HNE.out; omega), List.getElem?_eq_getElem _⟩
          have SEL : Hid _ := sel_nextR HT2.out HR.out hx hl1.out hl2.out
          obtain ⟨r, hr⟩ : ∃ r : Nat → Int, r = rkOf LV := ⟨_, rfl⟩
          rw [← hr] at SEL
          have RK : Hid (∀ (k : Nat) (v : Vw), LV[k]? = some v → r k = rnk v) := fun k v hv => by rw [hr]; unfold rkOf; rw [hv]
          clear hr
          have HX : Hid _ := hx
          clear hx
          go_wp2
          go_loopw [9, 10] (fun av kv wi => ∃ k : Nat, k ≤ N ∧ av = .int .i64 (idx (selI r least k)) ∧ kv = .int .i64 (k : Int) ∧ Hid (Below wo.heap.size wo wi)) (fun _ i _ => N - (intOf i).toNat)
          case atStart => exact ⟨0, by omega, rfl, rfl, Below.refl _ _⟩
          case round =>
            obtain ⟨wi, hwi'⟩ : ∃ wi : World, wi = wr := ⟨_, rfl⟩
            subst hwi'
            obtain ⟨k, hk, rfl, rfl, hbi⟩ := hrel
            have hwi : Hid (Below w0.heap.size w0 wi) := hbw.out.trans (hbi.out.mono hbw.out.size)
            by_cases hkN : k < N
            · obtain ⟨v, hv⟩ : ∃ v, LV[k]? = some v := ⟨LV[k]'(by have := HNL.out; omega), List.getElem?_eq_getElem _⟩
              obtain ⟨g, hgg, _⟩ := KEEP.out wi hwi.out k v hv
              subst hgg
              have RV : Hid (∀ wx, Below w0.heap.size w0 wx → wx.rangeAt g (k * 6) [.int .i64 v.pr, .int .i64 v.ad, .int .i64 v.po, .int .i64 v.ex, .int .i64 v.le, .int .i64 v.kn]) := fun wx hx => by
                obtain ⟨g', e, h⟩ := KEEP.out wx hx k v hv
                cases e
                exact h
              obtain ⟨p0, p1, x0, x1⟩ := BND.out k v hv
              have CR : Hid _ := rrank_any v p0 p1 (by omega) x1
              have hrk := RK.out k v hv
              have HV : Hid _ := hv
              clear hv p0 p1 x0 x1
              obtain ⟨bb, hbb⟩ : ∃ bb : Bool, bb = (decide (least < r k) && match selI r least k with | none => true | some a => decide (r k < r a)) := ⟨_, rfl⟩
              have hnx := sel_succ r least k bb hbb
              rw [hrk] at hbb
              have HBB : Hid _ := hbb
              have HNX : Hid _ := hnx
              clear hbb hnx hrk
              obtain ⟨av, hav⟩ : ∃ av : Int, av = idx (selI r least k) := ⟨_, rfl⟩
              rw [← hav]
              have HAV : Hid _ := hav
              clear hav
              go_upto_region 16 with fail
              try go_frame
              go_cut [65] (fun bv wx => bv = .bool bb ∧ Hid (Below wo.heap.size wo wx))
              case first =>
                by_cases h1 : least < rnk v
                · cases hs : selI r least k with
                  | none =>
                    rw [hs] at HBB
                    have hbv : Hid (bb = true) := by show _ = _; rw [HBB.out]; simp [h1]
                    have h1' : decide (least < rnk v) = true := by simpa using h1
                    have hav : av = -1 := by rw [HAV.out, hs]; rfl
                    subst hav
                    obtain ⟨SX, hSX⟩ : ∃ SX : World → Prop, ∀ w', Sof SX w' ↔ Below wo.heap.size wo w' := ⟨_, fun _ => Iff.rfl⟩
                    have HSX : Hid _ := hSX
                    clear hSX
                    have ss : Hid (Sof SX wi.drew) := (HSX.out _).2 hbi.out.drew
                    refine wp_region_held_drew (S := fun w' => Sof SX w') (by kernel_rfl) ss.out (fun hHeld => ?_)
                    refine takeR (i := 0) (v := .slice (some ⟨g, 0, none⟩) N capL) rfl (by kernel_rfl) (by kernel_rfl) (by kernel_rfl) (fun _ _ _ h => h) (yieldr_mv (by rfl) (.inl rfl) rfl) (by assumption) ?_
                    try go_frame
                    refine takeR (i := 1) (v := .int .i64 (k : Int)) rfl (by kernel_rfl) (by kernel_rfl) (by kernel_rfl) (fun _ _ _ h => h) (yieldr_mv (by rfl) (.inl rfl) rfl) (by assumption) ?_
                    try go_frame
                    refine takeR (i := 2) (v := .pointer (some ⟨g, k * 6, none⟩)) rfl (by kernel_rfl) (by kernel_rfl) (by kernel_rfl) (fun _ _ _ h => h) (Or.inl ⟨by rfl, fun w' hSw => by first | rfl | go_simp⟩) (by assumption) ?_
                    try go_frame
                    refine takeR (i := 3) (v := .agg #[.int .i64 v.pr, .int .i64 v.ad, .int .i64 v.po, .int .i64 v.ex, .int .i64 v.le, .int .i64 v.kn]) rfl (by kernel_rfl) (by kernel_rfl) (by kernel_rfl) (fun _ _ _ h => h) (yieldr_rm (by rfl) rfl g (k * 6) rfl [.int .i64 v.pr, .int .i64 v.ad, .int .i64 v.po, .int .i64 v.ex, .int .i64 v.le, .int .i64 v.kn] rfl (fun w' h => RV.out w' (hbw.out.trans (((HSX.out w').1 h).mono hbw.out.size)))) (by assumption) ?_
                    try go_frame
                    refine takeR (i := 5) (v := .int .i64 least) rfl (by kernel_rfl) (by kernel_rfl) (by kernel_rfl) (fun _ _ _ h => h) (yieldr_mv (by rfl) (.inl rfl) rfl) (by assumption) ?_
                    try go_frame
                    refine callR (i := 4) (by kernel_rfl) rfl (by rfl) (fun K hK => ?_)
                    go_simp
                    go_wp2_with (first | (go_at_call 160; refine Calls.mono (CR.out _) ?_; rintro e wa ⟨rfl, hba⟩; have hk_wa : Sof SX wa := (HSX.out _).2 (((HSX.out _).1 ss.out).trans (hba.mono ((HSX.out _).1 ss.out).size))))
                    refine hK.out _ _ ?_ (fun hHeld => ?_)
                    · exact hk_wa
                    clear hK
                    clear K
                    try go_frame
                    refine takeR (i := 6) (v := .bool true) rfl (by kernel_rfl) (by kernel_rfl) (by kernel_rfl) (fun _ _ _ h => h) (Or.inl ⟨by rfl, fun w' hSw => by first | rfl | go_simp⟩) (by assumption) ?_
                    try go_frame
                    refine takeR (i := 7) (v := .bool true) rfl (by kernel_rfl) (by kernel_rfl) (by kernel_rfl) (fun _ _ _ h => h) (yieldr_mv (by rfl) (.inl rfl) rfl) (by assumption) ?_
                    try go_frame
                    refine takeR (i := 8) (v := .int .i64 (-1)) rfl (by kernel_rfl) (by kernel_rfl) (by kernel_rfl) (fun _ _ _ h => h) (yieldr_mv (by rfl) (.inl rfl) rfl) (by assumption) ?_
                    try go_frame
                    refine takeR (i := 9) (v := .bool true) rfl (by kernel_rfl) (by kernel_rfl) (by kernel_rfl) (fun _ _ _ h => h) (Or.inl ⟨by rfl, fun w' hSw => by first | rfl | go_simp⟩) (by assumption) ?_
                    try go_frame
                    refine takeR (i := 10) (v := .bool true) rfl (by kernel_rfl) (by kernel_rfl) (by kernel_rfl) (fun _ _ _ h => h) (yieldr_mv (by rfl) (.inl rfl) rfl) (by assumption) ?_
                    try go_frame
                    refine takeR (i := 11) (v := undef) rfl (by kernel_rfl) (by kernel_rfl) (by kernel_rfl) (fun _ _ _ h => h) (skipR (by rfl)) (by assumption) ?_
                    try go_frame
                    refine takeR (i := 12) (v := undef) rfl (by kernel_rfl) (by kernel_rfl) (by kernel_rfl) (fun _ _ _ h => h) (skipR (by rfl)) (by assumption) ?_
                    try go_frame
                    refine takeR (i := 13) (v := undef) rfl (by kernel_rfl) (by kernel_rfl) (by kernel_rfl) (fun _ _ _ h => h) (skipR (by rfl)) (by assumption) ?_
                    try go_frame
                    refine takeR (i := 14) (v := undef) rfl (by kernel_rfl) (by kernel_rfl) (by kernel_rfl) (fun _ _ _ h => h) (skipR (by rfl)) (by assumption) ?_
                    try go_frame
                    refine takeR (i := 15) (v := undef) rfl (by kernel_rfl) (by kernel_rfl) (by kernel_rfl) (fun _ _ _ h => h) (skipR (by rfl)) (by assumption) ?_
                    try go_frame
                    refine takeR (i := 16) (v := undef) rfl (by kernel_rfl) (by kernel_rfl) (by kernel_rfl) (fun _ _ _ h => h) (skipR (by rfl)) (by assumption) ?_
                    try go_frame
                    refine takeR (i := 17) (v := undef) rfl (by kernel_rfl) (by kernel_rfl) (by kernel_rfl) (fun _ _ _ h => h) (skipR (by rfl)) (by assumption) ?_
                    try go_frame
                    refine takeR (i := 18) (v := undef) rfl (by kernel_rfl) (by kernel_rfl) (by kernel_rfl) (fun _ _ _ h => h) (skipR (by rfl)) (by assumption) ?_
                    try go_frame
                    refine takeR (i := 19) (v := undef) rfl (by kernel_rfl) (by kernel_rfl) (by kernel_rfl) (fun _ _ _ h => h) (skipR (by rfl)) (by assumption) ?_
                    try go_frame
                    refine takeR (i := 20) (v := undef) rfl (by kernel_rfl) (by kernel_rfl) (by kernel_rfl) (fun _ _ _ h => h) (skipR (by rfl)) (by assumption) ?_
                    try go_frame
                    refine takeR (i := 21) (v := undef) rfl (by kernel_rfl) (by kernel_rfl) (by kernel_rfl) (fun _ _ _ h => h) (skipR (by rfl)) (by assumption) ?_
                    try go_frame
                    refine takeR (i := 22) (v := .bool true) rfl (by kernel_rfl) (by kernel_rfl) (by kernel_rfl) (fun _ _ _ h => h) (Or.inl ⟨by rfl, fun w' hSw => by first | rfl | go_simp⟩) (by assumption) ?_
                    try go_frame
                    refine takeR (i := 23) (v := .bool true) rfl (by kernel_rfl) (by kernel_rfl) (by kernel_rfl) (fun _ _ _ h => h) (Or.inl ⟨by rfl, fun w' hSw => by first | rfl | go_simp⟩) (by assumption) ?_
                    try go_frame
                    refine wpAnyH_done (by kernel_rfl) ?_ _
                    go_wp2_with fail
                    go_meet
                    exact ⟨by rw [hbv.out], (HSX.out _).1 hk_wa⟩
                  | some a =>
                    rw [hs] at HBB
                    obtain ⟨ha, _, _⟩ := sel_some hs
                    have haN : a < N := by omega
                    obtain ⟨va, hva⟩ : ∃ va, LV[a]? = some va := ⟨LV[a]'(by have := HNL.out; omega), List.getElem?_eq_getElem _⟩
                    have RA : Hid (∀ wx, Below w0.heap.size w0 wx → wx.rangeAt g (a * 6) [.int .i64 va.pr, .int .i64 va.ad, .int .i64 va.po, .int .i64 va.ex, .int .i64 va.le, .int .i64 va.kn]) := fun wx hx => by
                      obtain ⟨g', e, h⟩ := KEEP.out wx hx a va hva
                      cases e
                      exact h
                    obtain ⟨p0, p1, x0, x1⟩ := BND.out a va hva
                    have CA : Hid _ := rrank_any va p0 p1 (by omega) x1
                    have hra := RK.out a va hva
                    have hbv : Hid (bb = decide (rnk v < rnk va)) := by show _ = _; rw [HBB.out]; simp [h1, hra]
                    clear hva p0 p1 x0 x1 hra
                    have h1' : decide (least < rnk v) = true := by simpa using h1
                    have hav : av = (a : Int) := by rw [HAV.out, hs]; rfl
                    subst hav
                    obtain ⟨SX, hSX⟩ : ∃ SX : World → Prop, ∀ w', Sof SX w' ↔ Below wo.heap.size wo w' := ⟨_, fun _ => Iff.rfl⟩
                    have HSX : Hid _ := hSX
                    clear hSX
                    have ss : Hid (Sof SX wi.drew) := (HSX.out _).2 hbi.out.drew
                    refine wp_region_held_drew (S := fun w' => Sof SX w') (by kernel_rfl) ss.out (fun hHeld => ?_)
                    refine takeR (i := 0) (v := .slice (some ⟨g, 0, none⟩) N capL) rfl (by kernel_rfl) (by kernel_rfl) (by kernel_rfl) (fun _ _ _ h => h) (yieldr_mv (by rfl) (.inl rfl) rfl) (by assumption) ?_
                    try go_frame
                    refine takeR (i := 1) (v := .int .i64 (k : Int)) rfl (by kernel_rfl) (by kernel_rfl) (by kernel_rfl) (fun _ _ _ h => h) (yieldr_mv (by rfl) (.inl rfl) rfl) (by assumption) ?_
                    try go_frame
                    refine takeR (i := 2) (v := .pointer (some ⟨g, k * 6, none⟩)) rfl (by kernel_rfl) (by kernel_rfl) (by kernel_rfl) (fun _ _ _ h => h) (Or.inl ⟨by rfl, fun w' hSw => by first | rfl | go_simp⟩) (by assumption) ?_
                    try go_frame
                    refine takeR (i := 3) (v := .agg #[.int .i64 v.pr, .int .i64 v.ad, .int .i64 v.po, .int .i64 v.ex, .int .i64 v.le, .int .i64 v.kn]) rfl (by kernel_rfl) (by kernel_rfl) (by kernel_rfl) (fun _ _ _ h => h) (yieldr_rm (by rfl) rfl g (k * 6) rfl [.int .i64 v.pr, .int .i64 v.ad, .int .i64 v.po, .int .i64 v.ex, .int .i64 v.le, .int .i64 v.kn] rfl (fun w' h => RV.out w' (hbw.out.trans (((HSX.out w').1 h).mono hbw.out.size)))) (by assumption) ?_
                    try go_frame
                    refine takeR (i := 5) (v := .int .i64 least) rfl (by kernel_rfl) (by kernel_rfl) (by kernel_rfl) (fun _ _ _ h => h) (yieldr_mv (by rfl) (.inl rfl) rfl) (by assumption) ?_
                    try go_frame
                    refine callR (i := 4) (by kernel_rfl) rfl (by rfl) (fun K hK => ?_)
                    go_simp
                    go_wp2_with (first | (go_at_call 160; refine Calls.mono (CR.out _) ?_; rintro e wa ⟨rfl, hba⟩; have hk_wa : Sof SX wa := (HSX.out _).2 (((HSX.out _).1 ss.out).trans (hba.mono ((HSX.out _).1 ss.out).size))))
                    refine hK.out _ _ ?_ (fun hHeld => ?_)
                    · exact hk_wa
                    clear hK
                    clear K
                    try go_frame
                    refine takeR (i := 6) (v := .bool true) rfl (by kernel_rfl) (by kernel_rfl) (by kernel_rfl) (fun _ _ _ h => h) (Or.inl ⟨by rfl, fun w' hSw => by first | rfl | go_simp⟩) (by assumption) ?_
                    try go_frame
                    refine takeR (i := 7) (v := .bool true) rfl (by kernel_rfl) (by kernel_rfl) (by kernel_rfl) (fun _ _ _ h => h) (yieldr_mv (by rfl) (.inl rfl) rfl) (by assumption) ?_
                    try go_frame
                    refine takeR (i := 8) (v := .int .i64 (a : Int)) rfl (by kernel_rfl) (by kernel_rfl) (by kernel_rfl) (fun _ _ _ h => h) (yieldr_mv (by rfl) (.inl rfl) rfl) (by assumption) ?_
                    try go_frame
                    refine takeR (i := 9) (v := .bool false) rfl (by kernel_rfl) (by kernel_rfl) (by kernel_rfl) (fun _ _ _ h => h) (Or.inl ⟨by rfl, fun w' hSw => by first | rfl | go_simp⟩) (by assumption) ?_
                    try go_frame
                    refine takeR (i := 10) (v := .bool false) rfl (by kernel_rfl) (by kernel_rfl) (by kernel_rfl) (fun _ _ _ h => h) (yieldr_mv (by rfl) (.inl rfl) rfl) (by assumption) ?_
                    try go_frame
                    refine takeR (i := 11) (v := .slice (some ⟨g, 0, none⟩) N capL) rfl (by kernel_rfl) (by kernel_rfl) (by kernel_rfl) (fun _ _ _ h => h) (yieldr_mv (by rfl) (.inl rfl) rfl) (by assumption) ?_
                    try go_frame
                    refine takeR (i := 12) (v := .int .i64 (k : Int)) rfl (by kernel_rfl) (by kernel_rfl) (by kernel_rfl) (fun _ _ _ h => h) (yieldr_mv (by rfl) (.inl rfl) rfl) (by assumption) ?_
                    try go_frame
                    refine takeR (i := 13) (v := .pointer (some ⟨g, k * 6, none⟩)) rfl (by kernel_rfl) (by kernel_rfl) (by kernel_rfl) (fun _ _ _ h => h) (Or.inl ⟨by rfl, fun w' hSw => by first | rfl | go_simp⟩) (by assumption) ?_
                    try go_frame
                    refine takeR (i := 14) (v := .agg #[.int .i64 v.pr, .int .i64 v.ad, .int .i64 v.po, .int .i64 v.ex, .int .i64 v.le, .int .i64 v.kn]) rfl (by kernel_rfl) (by kernel_rfl) (by kernel_rfl) (fun _ _ _ h => h) (yieldr_rm (by rfl) rfl g (k * 6) rfl [.int .i64 v.pr, .int .i64 v.ad, .int .i64 v.po, .int .i64 v.ex, .int .i64 v.le, .int .i64 v.kn] rfl (fun w' h => RV.out w' (hbw.out.trans (((HSX.out w').1 h).mono hbw.out.size)))) (by assumption) ?_
                    try go_frame
                    refine takeR (i := 16) (v := .slice (some ⟨g, 0, none⟩) N capL) rfl (by kernel_rfl) (by kernel_rfl) (by kernel_rfl) (fun _ _ _ h => h) (yieldr_mv (by rfl) (.inl rfl) rfl) (by assumption) ?_
                    try go_frame
                    refine takeR (i := 17) (v := .int .i64 (a : Int)) rfl (by kernel_rfl) (by kernel_rfl) (by kernel_rfl) (fun _ _ _ h => h) (yieldr_mv (by rfl) (.inl rfl) rfl) (by assumption) ?_
                    try go_frame
                    refine takeR (i := 18) (v := .pointer (some ⟨g, a * 6, none⟩)) rfl (by kernel_rfl) (by kernel_rfl) (by kernel_rfl) (fun _ _ _ h => h) (Or.inl ⟨by rfl, fun w' hSw => by first | rfl | go_simp⟩) (by assumption) ?_
                    try go_frame
                    refine takeR (i := 19) (v := .agg #[.int .i64 va.pr, .int .i64 va.ad, .int .i64 va.po, .int .i64 va.ex, .int .i64 va.le, .int .i64 va.kn]) rfl (by kernel_rfl) (by kernel_rfl) (by kernel_rfl) (fun _ _ _ h => h) (yieldr_rm (by rfl) rfl g (a * 6) rfl [.int .i64 va.pr, .int .i64 va.ad, .int .i64 va.po, .int .i64 va.ex, .int .i64 va.le, .int .i64 va.kn] rfl (fun w' h => RA.out w' (hbw.out.trans (((HSX.out w').1 h).mono hbw.out.size)))) (by assumption) ?_
                    try go_frame
                    refine callR (i := 15) (by kernel_rfl) rfl (by rfl) (fun K hK => ?_)
                    go_simp
                    go_wp2_with (first | (go_at_call 160; refine Calls.mono (CR.out _) ?_; rintro e wb ⟨rfl, hbb2⟩; have hk_wb : Sof SX wb := (HSX.out _).2 (((HSX.out _).1 hk_wa).trans (hbb2.mono ((HSX.out _).1 hk_wa).size))))
                    refine hK.out _ _ ?_ (fun hHeld => ?_)
                    · exact hk_wb
                    clear hK
                    clear K
                    try go_frame
                    refine callR (i := 20) (by kernel_rfl) rfl (by rfl) (fun K hK => ?_)
                    go_simp
                    go_wp2_with (first | (go_at_call 160; refine Calls.mono (CA.out _) ?_; rintro e wd ⟨rfl, hbd⟩; have hk_wd : Sof SX wd := (HSX.out _).2 (((HSX.out _).1 hk_wb).trans (hbd.mono ((HSX.out _).1 hk_wb).size))))
                    refine hK.out _ _ ?_ (fun hHeld => ?_)
                    · exact hk_wd
                    clear hK
                    clear K
                    try go_frame
                    refine takeR (i := 21) (v := .bool (decide (rnk v < rnk va))) rfl (by kernel_rfl) (by kernel_rfl) (by kernel_rfl) (fun _ _ _ h => h) (Or.inl ⟨by rfl, fun w' hSw => by first | rfl | go_simp⟩) (by assumption) ?_
                    try go_frame
                    refine takeR (i := 22) (v := .bool (decide (rnk v < rnk va))) rfl (by kernel_rfl) (by kernel_rfl) (by kernel_rfl) (fun _ _ _ h => h) (Or.inl ⟨by rfl, fun w' hSw => by first | rfl | go_simp⟩) (by assumption) ?_
                    try go_frame
                    refine takeR (i := 23) (v := .bool (decide (rnk v < rnk va))) rfl (by kernel_rfl) (by kernel_rfl) (by kernel_rfl) (fun _ _ _ h => h) (Or.inl ⟨by rfl, fun w' hSw => by first | rfl | go_simp⟩) (by assumption) ?_
                    try go_frame
                    refine wpAnyH_done (by kernel_rfl) ?_ _
                    go_wp2_with fail
                    go_meet
                    exact ⟨by rw [hbv.out], (HSX.out _).1 hk_wd⟩
                · have hbv : Hid (bb = false) := by show _ = _; rw [HBB.out]; simp [h1]
                  have h1' : decide (least < rnk v) = false := by simpa using h1
                  obtain ⟨SX, hSX⟩ : ∃ SX : World → Prop, ∀ w', Sof SX w' ↔ Below wo.heap.size wo w' := ⟨_, fun _ => Iff.rfl⟩
                  have HSX : Hid _ := hSX
                  clear hSX
                  have ss : Hid (Sof SX wi.drew) := (HSX.out _).2 hbi.out.drew
                  refine wp_region_held_drew (S := fun w' => Sof SX w') (by kernel_rfl) ss.out (fun hHeld => ?_)
                  refine takeR (i := 0) (v := .slice (some ⟨g, 0, none⟩) N capL) rfl (by kernel_rfl) (by kernel_rfl) (by kernel_rfl) (fun _ _ _ h => h) (yieldr_mv (by rfl) (.inl rfl) rfl) (by assumption) ?_
                  try go_frame
                  refine takeR (i := 1) (v := .int .i64 (k : Int)) rfl (by kernel_rfl) (by kernel_rfl) (by kernel_rfl) (fun _ _ _ h => h) (yieldr_mv (by rfl) (.inl rfl) rfl) (by assumption) ?_
                  try go_frame
                  refine takeR (i := 2) (v := .pointer (some ⟨g, k * 6, none⟩)) rfl (by kernel_rfl) (by kernel_rfl) (by kernel_rfl) (fun _ _ _ h => h) (Or.inl ⟨by rfl, fun w' hSw => by first | rfl | go_simp⟩) (by assumption) ?_
                  try go_frame
                  refine takeR (i := 3) (v := .agg #[.int .i64 v.pr, .int .i64 v.ad, .int .i64 v.po, .int .i64 v.ex, .int .i64 v.le, .int .i64 v.kn]) rfl (by kernel_rfl) (by kernel_rfl) (by kernel_rfl) (fun _ _ _ h => h) (yieldr_rm (by rfl) rfl g (k * 6) rfl [.int .i64 v.pr, .int .i64 v.ad, .int .i64 v.po, .int .i64 v.ex, .int .i64 v.le, .int .i64 v.kn] rfl (fun w' h => RV.out w' (hbw.out.trans (((HSX.out w').1 h).mono hbw.out.size)))) (by assumption) ?_
                  try go_frame
                  refine takeR (i := 5) (v := .int .i64 least) rfl (by kernel_rfl) (by kernel_rfl) (by kernel_rfl) (fun _ _ _ h => h) (yieldr_mv (by rfl) (.inl rfl) rfl) (by assumption) ?_
                  try go_frame
                  refine callR (i := 4) (by kernel_rfl) rfl (by rfl) (fun K hK => ?_)
                  go_simp
                  go_wp2_with (first | (go_at_call 160; refine Calls.mono (CR.out _) ?_; rintro e wa ⟨rfl, hba⟩; have hk_wa : Sof SX wa := (HSX.out _).2 (((HSX.out _).1 ss.out).trans (hba.mono ((HSX.out _).1 ss.out).size))))
                  refine hK.out _ _ ?_ (fun hHeld => ?_)
                  · exact hk_wa
                  clear hK
                  clear K
                  try go_frame
                  refine takeR (i := 6) (v := .bool false) rfl (by kernel_rfl) (by kernel_rfl) (by kernel_rfl) (fun _ _ _ h => h) (Or.inl ⟨by rfl, fun w' hSw => by first | rfl | go_simp⟩) (by assumption) ?_
                  try go_frame
                  refine takeR (i := 7) (v := .bool false) rfl (by kernel_rfl) (by kernel_rfl) (by kernel_rfl) (fun _ _ _ h => h) (yieldr_mv (by rfl) (.inl rfl) rfl) (by assumption) ?_
                  try go_frame
                  refine takeR (i := 8) (v := undef) rfl (by kernel_rfl) (by kernel_rfl) (by kernel_rfl) (fun _ _ _ h => h) (skipR (by rfl)) (by assumption) ?_
                  try go_frame
                  refine takeR (i := 9) (v := undef) rfl (by kernel_rfl) (by kernel_rfl) (by kernel_rfl) (fun _ _ _ h => h) (skipR (by rfl)) (by assumption) ?_
                  try go_frame
                  refine takeR (i := 10) (v := undef) rfl (by kernel_rfl) (by kernel_rfl) (by kernel_rfl) (fun _ _ _ h => h) (skipR (by rfl)) (by assumption) ?_
                  try go_frame
                  refine takeR (i := 11) (v := undef) rfl (by kernel_rfl) (by kernel_rfl) (by kernel_rfl) (fun _ _ _ h => h) (skipR (by rfl)) (by assumption) ?_
                  try go_frame
                  refine takeR (i := 12) (v := undef) rfl (by kernel_rfl) (by kernel_rfl) (by kernel_rfl) (fun _ _ _ h => h) (skipR (by rfl)) (by assumption) ?_
                  try go_frame
                  refine takeR (i := 13) (v := undef) rfl (by kernel_rfl) (by kernel_rfl) (by kernel_rfl) (fun _ _ _ h => h) (skipR (by rfl)) (by assumption) ?_
                  try go_frame
                  refine takeR (i := 14) (v := undef) rfl (by kernel_rfl) (by kernel_rfl) (by kernel_rfl) (fun _ _ _ h => h) (skipR (by rfl)) (by assumption) ?_
                  try go_frame
                  refine takeR (i := 15) (v := undef) rfl (by kernel_rfl) (by kernel_rfl) (by kernel_rfl) (fun _ _ _ h => h) (skipR (by rfl)) (by assumption) ?_
                  try go_frame
                  refine takeR (i := 16) (v := undef) rfl (by kernel_rfl) (by kernel_rfl) (by kernel_rfl) (fun _ _ _ h => h) (skipR (by rfl)) (by assumption) ?_
                  try go_frame
                  refine takeR (i := 17) (v := undef) rfl (by kernel_rfl) (by kernel_rfl) (by kernel_rfl) (fun _ _ _ h => h) (skipR (by rfl)) (by assumption) ?_
                  try go_frame
                  refine takeR (i := 18) (v := undef) rfl (by kernel_rfl) (by kernel_rfl) (by kernel_rfl) (fun _ _ _ h => h) (skipR (by rfl)) (by assumption) ?_
                  try go_frame
                  refine takeR (i := 19) (v := undef) rfl (by kernel_rfl) (by kernel_rfl) (by kernel_rfl) (fun _ _ _ h => h) (skipR (by rfl)) (by assumption) ?_
                  try go_frame
                  refine takeR (i := 20) (v := undef) rfl (by kernel_rfl) (by kernel_rfl) (by kernel_rfl) (fun _ _ _ h => h) (skipR (by rfl)) (by assumption) ?_
                  try go_frame
                  refine takeR (i := 21) (v := undef) rfl (by kernel_rfl) (by kernel_rfl) (by kernel_rfl) (fun _ _ _ h => h) (skipR (by rfl)) (by assumption) ?_
                  try go_frame
                  refine takeR (i := 22) (v := undef) rfl (by kernel_rfl) (by kernel_rfl) (by kernel_rfl) (fun _ _ _ h => h) (skipR (by rfl)) (by assumption) ?_
                  try go_frame
                  refine takeR (i := 23) (v := .bool false) rfl (by kernel_rfl) (by kernel_rfl) (by kernel_rfl) (fun _ _ _ h => h) (Or.inl ⟨by rfl, fun w' hSw => by first | rfl | go_simp⟩) (by assumption) ?_
                  try go_frame
                  refine wpAnyH_done (by kernel_rfl) ?_ _
                  go_wp2_with fail
                  go_meet
                  exact ⟨by rw [hbv.out], (HSX.out _).1 hk_wa⟩
              case rest =>
                obtain ⟨rfl, hbx⟩ := hcut
                clear HBB RV CR HV
                obtain ⟨wj, hwj⟩ : ∃ wj : World, wj = wc := ⟨_, rfl⟩
                subst hwj
                cases bb
                · have e : Hid (selI r least (k + 1) = selI r least k) := HNX.out
                  go_wp2
                  go_round
                  case rel => exact ⟨k + 1, by omega, by rw [e.out, HAV.out], by go_num, hbx⟩
                  case measure => simp [intOf]; omega
                · have e : Hid (selI r least (k + 1) = some k) := HNX.out
                  go_wp2
                  go_round
                  case rel => exact ⟨k + 1, by omega, by rw [e.out]; rfl, by go_num, hbx⟩
                  case measure => simp [intOf]; omega
            · have hkN' : k = N := by omega
              subst hkN'
              obtain ⟨a, hsa, hva⟩ := SEL.out
              rw [HNL.out] at hsa
              rw [hsa]
              obtain ⟨g, hgg, hrg⟩ := KEEP.out wi hwi.out a x hva
              subst hgg
              obtain ⟨p0, p1, x0, x1⟩ := BND.out a x hva
              have CA : Hid _ := rrank_any x p0 p1 (by omega) x1
              have haN : a < k := by have := (List.getElem?_eq_some_iff.1 hva).1; have := HNL.out; omega
              have q0 : wi.cell? ⟨g, a * 6, none⟩ = some (.int .i64 x.pr) := hrg 0 _ rfl
              have q1 : wi.cell? ⟨g, a * 6 + 1, none⟩ = some (.int .i64 x.ad) := hrg 1 _ rfl
              have q2 : wi.cell? ⟨g, a * 6 + 2, none⟩ = some (.int .i64 x.po) := hrg 2 _ rfl
              have q3 : wi.cell? ⟨g, a * 6 + 3, none⟩ = some (.int .i64 x.ex) := hrg 3 _ rfl
              have q4 : wi.cell? ⟨g, a * 6 + 4, none⟩ = some (.int .i64 x.le) := hrg 4 _ rfl
              have q5 : wi.cell? ⟨g, a * 6 + 5, none⟩ = some (.int .i64 x.kn) := hrg 5 _ rfl
              have KX : Hid (∀ wx, Below w0.heap.size w0 wx → wx.rangeAt g (a * 6) (vwl x)) := fun wx hx => by
                obtain ⟨g', e, h⟩ := KEEP.out wx hx a x hva
                cases e
                exact h
              clear hrg p0 p1 x0 x1 hva SEL RK
              have hidx : idx (some a) = (a : Int) := rfl
              rw [hidx]
              go_wp2_with fail
              refine Calls.mono (CA.out _) ?_; rintro e wq ⟨rfl, hbq⟩
              have hq0 : Hid (Below w0.heap.size w0 wq) := hwi.out.trans (hbq.mono hwi.out.size)
              have hqr : Hid (Below wo.heap.size wo wq) := hbi.out.trans (hbq.mono hbi.out.size)
              clear q0 q1 q2 q3 q4 q5 hbq CA
              go_upto_region 21 with fail
              try go_frame
              have hrg := KX.out wq hq0.out
              have q0 : wq.cell? ⟨g, a * 6, none⟩ = some (.int .i64 x.pr) := hrg 0 _ rfl
              have q1 : wq.cell? ⟨g, a * 6 + 1, none⟩ = some (.int .i64 x.ad) := hrg 1 _ rfl
              have q2 : wq.cell? ⟨g, a * 6 + 2, none⟩ = some (.int .i64 x.po) := hrg 2 _ rfl
              have q3 : wq.cell? ⟨g, a * 6 + 3, none⟩ = some (.int .i64 x.ex) := hrg 3 _ rfl
              have q4 : wq.cell? ⟨g, a * 6 + 4, none⟩ = some (.int .i64 x.le) := hrg 4 _ rfl
              have q5 : wq.cell? ⟨g, a * 6 + 5, none⟩ = some (.int .i64 x.kn) := hrg 5 _ rfl
              clear hrg
              have OQ : Hid (Vrow wq w0.heap.size (.slice go j capo) (TB.take j)) := hout.out.kept (fun g hg => hqr.out.block g (hout.out.lt g hg).2)
              have hjl : (TB.take j).length = j := by rw [List.length_take]; have := HNE.out; omega
              have TM : Hid _ := World.ownsRow.alloc OQ.out (.cells #[.int .i64 x.pr, .int .i64 x.ad, .int .i64 x.po, .int .i64 x.ex, .int .i64 x.le, .int .i64 x.kn] 143)
              have HA : Hid _ := alloc1 wq (.cells #[.int .i64 x.pr, .int .i64 x.ad, .int .i64 x.po, .int .i64 x.ex, .int .i64 x.le, .int .i64 x.kn] 143)
              have SB : Hid (w0.heap.size ≤ (wq.alloc (.cells #[.int .i64 x.pr, .int .i64 x.ad, .int .i64 x.po, .int .i64 x.ex, .int .i64 x.le, .int .i64 x.kn] 143)).heap.size) := by show _ ≤ _; have := hq0.out.size; simp; omega
              go_wp2_with (first
                | (at_builtin; refine wpList_append_lies _ rfl _ _ 140 rfl (w0.heap.size) 143 j0 (.agg #[.int .i64 0, .int .i64 0, .int .i64 0, .int .i64 0, .int .i64 0, .int .i64 0]) 6 48 Tryz.underlying140 HJ0.out Y00.out Y01.out Y02.out rfl (by decide) _ _ _ rfl TM.out ⟨wq.heap.size, 0, none⟩ 1 1 (vwl x) rfl rfl (World.news_of_block HA.out) (vwl_one x) (by decide) ?c3 ?c4 SB.out _ rfl ?_)
                | go_in)
              case c3 => unfold maxLen; omega
              case c4 => omega
              intro g1 cap1 w1 ho1 hg1 hl1' hz1
              have B1 : Hid (Below w0.heap.size w0 w1) := (hq0.out.alloc hq0.out.size _).trans (rgrown_below hg1 (fun k hk => (OQ.out.lt k hk).1) SB.out)
              have ht : TB.take (j + 1) = TB.take j ++ [x] := by rw [List.take_add_one, HX.out]; rfl
              have O1 : Hid (Vrow w1 w0.heap.size (.slice (some ⟨g1, 0, none⟩) (j + 1) cap1) (TB.take (j + 1))) := by
                show Vrow _ _ _ _
                unfold Vrow
                rw [ht, vrowOf_app, List.length_append, hjl]
                exact ho1
              have L1 : Hid (∀ i y, i < j + 1 → TB[i]? = some y → rnk y ≤ rnk x) := fun i y hi hy => by
                by_cases e : i = j
                · subst e; rw [HX.out] at hy; cases hy; exact Int.le_refl _
                · have := hl1.out i y (by omega) hy
                  have := hl2.out j x (Nat.le_refl _) HX.out
                  omega
              have L2 : Hid (∀ i y, j + 1 ≤ i → TB[i]? = some y → rnk x < rnk y) := fun i y hi hy => by
                obtain ⟨l1, e1⟩ := List.getElem?_eq_some_iff.1 hy
                obtain ⟨l2, e2⟩ := List.getElem?_eq_some_iff.1 HX.out
                have := List.pairwise_iff_getElem.1 HR.out j i l2 l1 (by omega)
                rw [e1, e2] at this
                exact this
              clear ho1 hg1 hl1' hz1 TM HA SB q0 q1 q2 q3 q4 q5
              go_wp2
              go_round
              case rel => exact ⟨j + 1, rnk x, by omega, rfl, L1, L2, ⟨_, _, rfl⟩, O1, B1⟩
              case measure => simp [lenOf]; omega
        · have hjN' : j = N := by omega
          have ht : TB.take j = TB := by rw [hjN', HNE.out]; exact List.take_length
          have hfin : Hid (Vrow wo w.heap.size (.slice go j capo) TB) := by
            have := hout.out
            rw [ht] at this
            refine ⟨this.1, ?_⟩
            rcases this.2 with h | ⟨g, cap, cur, h1, h2, h3⟩
            · exact .inl h
            · exact .inr ⟨g, cap, cur, h1, Nat.le_trans hbel.out.size h2, h3⟩
          subst hjN'
          go_wp2
          go_ret
          exact ⟨_, rfl, hfin.out, hbel.out.trans (hbw.out.mono hbel.out.size)⟩

end Go.Proofs.YthiljpbodmajaabGreat
