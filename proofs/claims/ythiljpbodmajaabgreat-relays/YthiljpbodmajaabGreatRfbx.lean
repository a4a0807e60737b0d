/-
  THE REFERENCE'S BOX IN MEMORY: a configuration, the time, a slice of uses (seven cells each), a slice of times.
-/
import Derived.Test.YthiljpbodmajaabGreatSimz
import Derived.Test.YthiljpbodmajaabGreatBoxw
import Derived.Test.YthiljpbodmajaabGreatRfsl
import Derived.Deep.MidRow
import Derived.Deep.Draws
import Derived.Laws.OwnMore
import Derived.Deep.RegionHeld
namespace Go.Proofs.YthiljpbodmajaabGreat
open Go.RowKit Plain
set_option linter.unusedVariables false

def usl (m : Us) : List Value := [.int .i64 m.pr, .int .i64 m.ad, .int .i64 m.po, .int .i64 m.ex, .int .i64 m.pa, .int .i64 m.pp, .int .i64 m.ti]
theorem usl_len (m : Us) : (usl m).length = 7 := rfl
theorem usl_one (m : Us) : ∀ v ∈ usl m, v.oneCell' = true := by intro v hv; simp [usl] at hv; rcases hv with rfl | rfl | rfl | rfl | rfl | rfl | rfl <;> rfl
def urowOf (ms : List Us) : List Value := ms.flatMap usl
theorem urowOf_len (ms : List Us) : (urowOf ms).length = ms.length * 7 := by
  induction ms with
  | nil => rfl
  | cons m ms ih => simp only [urowOf, List.flatMap_cons, List.length_append, usl_len, List.length_cons] at *; omega
theorem urowOf_at (ms : List Us) (i j : Nat) (hj : j < 7) : (urowOf ms)[i * 7 + j]? = (ms[i]?).bind fun m => (usl m)[j]? := by
  induction ms generalizing i with
  | nil => simp [urowOf]
  | cons m ms ih =>
    simp only [urowOf, List.flatMap_cons] at *
    cases i with
    | zero => rw [List.getElem?_append_left (by rw [usl_len]; omega)]; simp
    | succ i =>
      rw [List.getElem?_append_right (by rw [usl_len]; omega), usl_len, show (i + 1) * 7 + j - 7 = i * 7 + j by omega, ih]
      simp

/-- the value v is a slice of the call's own that holds the mappings ms -/
def Urow (w : World) (base : Nat) (v : Value) (ms : List Us) : Prop := w.ownsRow base 134 7 v ms.length (urowOf ms)

theorem urow_cur {cur : Array Value} {ms : List Us} (hs : ms.length * 7 ≤ cur.size) (h : cur.toList.take (ms.length * 7) = urowOf ms) (i j : Nat) (m : Us) (hm : ms[i]? = some m) (hj : j < 7) : cur[i * 7 + j]? = (usl m)[j]? := by
  have hi : i < ms.length := (List.getElem?_eq_some_iff.1 hm).1
  have e := urowOf_at ms i j hj
  rw [← h, List.getElem?_take, if_pos (by omega), hm] at e
  simpa using e
theorem urow_of {cur : Array Value} {ms : List Us} (hs : ms.length * 7 ≤ cur.size) (h : ∀ i j m, ms[i]? = some m → j < 7 → cur[i * 7 + j]? = (usl m)[j]?) : cur.toList.take (ms.length * 7) = urowOf ms := by
  apply List.ext_getElem?
  intro k
  rw [List.getElem?_take]
  split
  · rename_i hk
    have hi : k / 7 < ms.length := by omega
    have e := h (k / 7) (k % 7) ms[k / 7] (by simp [hi]) (by omega)
    have e2 := urowOf_at ms (k / 7) (k % 7) (by omega)
    rw [show k / 7 * 7 + k % 7 = k by omega] at e e2
    rw [e2]
    simp [e, hi]
  · rw [List.getElem?_eq_none (by rw [urowOf_len]; omega)]

/-- what lies in memory, element by element -/
structure UrowIn (w : World) (base g n cap : Nat) (ms : List Us) : Prop where
  len : ms.length = n
  low : base ≤ g
  le : n ≤ cap
  cm : cap ≤ maxLen
  blk : ∃ cur : Array Value, w.heap[g]? = some (.cells cur 134 (0, 0)) ∧ cur.size = cap * 7 ∧ ∀ i j m, ms[i]? = some m → j < 7 → cur[i * 7 + j]? = (usl m)[j]?
theorem UrowIn.row {w : World} {base g n cap : Nat} {ms : List Us} (h : UrowIn w base g n cap ms) : Urow w base (.slice (some ⟨g, 0, none⟩) n cap) ms := by
  obtain ⟨cur, h1, h2, h3⟩ := h.blk
  refine ⟨urowOf_len ms, .inr ⟨g, cap, cur, by rw [h.len], h.low, h1, by rw [h.len]; exact h.le, h.cm, h2, ?_⟩⟩
  have := h.le; have := h.len
  exact urow_of (by omega) h3
theorem Urow.cases {w : World} {base : Nat} {v : Value} {ms : List Us} (h : Urow w base v ms) : (v = .slice none 0 0 ∧ ms = []) ∨ ∃ g n cap, v = .slice (some ⟨g, 0, none⟩) n cap ∧ UrowIn w base g n cap ms := by
  rcases h.2 with ⟨h1, h2⟩ | ⟨g, cap, cur, rfl, h2, h3, h4, h5, h6, h7⟩
  · exact .inl ⟨h1, List.length_eq_zero_iff.1 h2⟩
  · exact .inr ⟨g, _, cap, rfl, rfl, h2, h4, h5, cur, h3, h6, fun i j m hm hj => urow_cur (by omega) h7 i j m hm hj⟩
theorem Urow.nil (w : World) (base : Nat) : Urow w base (.slice none 0 0) [] := World.ownsRow_nil w base _ _
theorem UrowIn.range {w : World} {base g n cap : Nat} {ms : List Us} (h : UrowIn w base g n cap ms) (i : Nat) (m : Us) (hm : ms[i]? = some m) : w.rangeAt g (i * 7) (usl m) := by
  obtain ⟨cur, h1, h2, h3⟩ := h.blk
  intro j v hv
  have hj : j < 7 := by have := (List.getElem?_eq_some_iff.1 hv).1; rw [usl_len] at this; exact this
  rw [cell_of_row w g (i * 7 + j) cur _ _ h1, h3 i j m hm hj, hv]
theorem UrowIn.cells {w : World} {base g n cap : Nat} {ms : List Us} (h : UrowIn w base g n cap ms) (k : Nat) (m : Us) (hm : ms[k]? = some m) : w.cell? ⟨g, k * 7, none⟩ = some (.int .i64 m.pr) ∧ w.cell? ⟨g, k * 7 + 1, none⟩ = some (.int .i64 m.ad) ∧ w.cell? ⟨g, k * 7 + 2, none⟩ = some (.int .i64 m.po) ∧ w.cell? ⟨g, k * 7 + 3, none⟩ = some (.int .i64 m.ex) ∧ w.cell? ⟨g, k * 7 + 4, none⟩ = some (.int .i64 m.pa) ∧ w.cell? ⟨g, k * 7 + 5, none⟩ = some (.int .i64 m.pp) ∧ w.cell? ⟨g, k * 7 + 6, none⟩ = some (.int .i64 m.ti) :=
  ⟨h.range k m hm 0 _ rfl, h.range k m hm 1 _ rfl, h.range k m hm 2 _ rfl, h.range k m hm 3 _ rfl, h.range k m hm 4 _ rfl, h.range k m hm 5 _ rfl, h.range k m hm 6 _ rfl⟩
theorem UrowIn.there {w : World} {base g n cap : Nat} {ms : List Us} (h : UrowIn w base g n cap ms) (i : Nat) (hi : i < cap) : w.there g (i * 7) 7 := by
  obtain ⟨cur, h1, h2, h3⟩ := h.blk
  intro j hj
  constructor
  · rw [cell_of_row w g (i * 7 + j) cur _ _ h1]
    rw [Array.getElem?_eq_getElem (by omega)]; rfl
  · simp [World.frozen?, h1]
theorem UrowIn.lt {w : World} {base g n cap : Nat} {ms : List Us} (h : UrowIn w base g n cap ms) : g < w.heap.size := by
  obtain ⟨cur, h1, _⟩ := h.blk
  exact (Array.getElem?_eq_some_iff.1 h1).1
theorem UrowIn.kept {w w' : World} {base g n cap : Nat} {ms : List Us} (h : UrowIn w base g n cap ms) (e : w'.heap[g]? = w.heap[g]?) : UrowIn w' base g n cap ms := by
  obtain ⟨cur, h1, h2⟩ := h.blk
  exact ⟨h.len, h.low, h.le, h.cm, cur, by rw [e]; exact h1, h2⟩
theorem Urow.kept {w w' : World} {base : Nat} {v : Value} {ms : List Us} (h : Urow w base v ms) (e : ∀ g, v.ownBlock = some g → w'.heap[g]? = w.heap[g]?) : Urow w' base v ms := by
  rcases h.cases with ⟨rfl, rfl⟩ | ⟨g, n, cap, rfl, hr⟩
  · exact Urow.nil _ _
  · exact (hr.kept (e g rfl)).row
theorem UrowIn.take {w : World} {base g n cap : Nat} {ms : List Us} (h : UrowIn w base g n cap ms) (k : Nat) (hk : k ≤ n) : UrowIn w base g k cap (ms.take k) := by
  obtain ⟨cur, h1, h2, h3⟩ := h.blk
  have := h.len; have := h.le
  refine ⟨by simp; omega, h.low, by omega, h.cm, cur, h1, h2, fun i j m hm hj => h3 i j m ?_ hj⟩
  rw [List.getElem?_take] at hm
  split at hm
  · exact hm
  · cases hm


theorem own_at1 {w : World} {base : Nat} {e : TypeId} {g1 n cap : Nat} {xs : List Value} (h : w.ownsRow base e 1 (.slice (some ⟨g1, 0, none⟩) n cap) n xs) (j : Nat) (u : Value) (hu : xs[j]? = some u) : w.cell? ⟨g1, j, none⟩ = some u := by
  obtain ⟨hl, h⟩ := h
  rcases h with ⟨h1, _⟩ | ⟨g, cap', cur, h1, h2, h3, h4, h5, h6, h7⟩
  · cases h1
  · cases h1
    rw [cell_of_row w g1 j cur _ _ h3]
    have hj : j < xs.length := (List.getElem?_eq_some_iff.1 hu).1
    have e : (cur.toList.take (n * 1))[j]? = xs[j]? := by rw [h7]
    rw [List.getElem?_take, if_pos (by omega), hu] at e
    simpa using e
def ints (l : List Int) : List Value := l.map fun n => .int .i64 n
/-- the cells of the reference's box -/
def rbc (c : Cf) (now : Int) (uv ov : Value) : Array Value := #[.int .i64 c.ia, .int .i64 c.oa, .int .i64 c.lo, .int .i64 c.hi, .int .i64 c.cp, .int .i64 c.im, .int .i64 c.om, .int .i64 c.iu, .int .i64 c.it, .int .i64 c.iq, .int .i64 c.bu, .int .i64 c.ra, .int .i64 now, uv, ov]
structure Rb (w : World) (base b : Nat) (c : Cf) (now : Int) (us : List Us) (own : List Int) (uv ov : Value) : Prop where
  blk : w.heap[b]? = some (.cells (rbc c now uv ov) 157 (0, 0))
  ur : Urow w base uv us
  owr : w.ownsRow base 3 1 ov own.length (ints own)
  nu : uv.ownBlock ≠ some b
  no : ov.ownBlock ≠ some b
  nn : ∀ k, uv.ownBlock = some k → ov.ownBlock ≠ some k
  bs : base ≤ w.heap.size
section
variable {w w' : World} {base b : Nat} {c : Cf} {now : Int} {us : List Us} {own : List Int} {uv ov : Value}
theorem Rb.lt (h : Rb w base b c now us own uv ov) : b < w.heap.size := (Array.getElem?_eq_some_iff.1 h.blk).1
theorem Rb.at (h : Rb w base b c now us own uv ov) (i : Nat) {u : Value} (hu : (rbc c now uv ov)[i]? = some u) : w.cell? ⟨b, i, none⟩ = some u := by rw [cell_of_row w b i _ _ _ h.blk, hu]
theorem Urow.lt (h : Urow w base uv us) : ∀ g, uv.ownBlock = some g → base ≤ g ∧ g < w.heap.size := fun g hg => by
  rcases h.cases with ⟨rfl, rfl⟩ | ⟨g', n, cap, rfl, hr⟩
  · cases hg
  · have e : g' = g := by simpa [Value.ownBlock] using hg
    subst e
    exact ⟨hr.low, hr.lt⟩
theorem own_lt1 {e : TypeId} {sz n : Nat} {v : Value} {xs : List Value} (h : w.ownsRow base e sz v n xs) : ∀ g, v.ownBlock = some g → base ≤ g ∧ g < w.heap.size := fun g hg => by
  obtain ⟨hl, h⟩ := h
  rcases h with ⟨h1, _⟩ | ⟨g', cap', cur, h1, h2, h3, h4, h5, h6, h7⟩
  · rw [h1] at hg; cases hg
  · rw [h1] at hg
    have e : g' = g := by simpa [Value.ownBlock] using hg
    subst e
    exact ⟨h2, (Array.getElem?_eq_some_iff.1 h3).1⟩
theorem own_keep1 {e : TypeId} {sz n : Nat} {v : Value} {xs : List Value} (h : w.ownsRow base e sz v n xs) (hk : ∀ k, v.ownBlock = some k → w'.heap[k]? = w.heap[k]?) : w'.ownsRow base e sz v n xs := by
  obtain ⟨hl, h⟩ := h
  refine ⟨hl, ?_⟩
  rcases h with h1 | ⟨g', cap', cur, h1, h2, h3, h4, h5, h6, h7⟩
  · exact .inl h1
  · exact .inr ⟨g', cap', cur, h1, h2, by rw [hk g' (by rw [h1]; simp [Value.ownBlock])]; exact h3, h4, h5, h6, h7⟩
theorem Rb.heap (h : Rb w base b c now us own uv ov) (e : w'.heap = w.heap) : Rb w' base b c now us own uv ov :=
  ⟨by rw [e]; exact h.blk, h.ur.kept (fun g hg => by rw [e]), own_keep1 h.owr (fun g hg => by rw [e]), h.nu, h.no, h.nn, by rw [e]; exact h.bs⟩
theorem Rb.drew' (h : Rb w base b c now us own uv ov) : Rb w.drew base b c now us own uv ov := h.heap rfl
theorem Rb.below (h : Rb w base b c now us own uv ov) (k : Below w.heap.size w w') : Rb w' base b c now us own uv ov :=
  ⟨(k.block b h.lt).trans h.blk, h.ur.kept (fun g hg => k.block g (h.ur.lt g hg).2), own_keep1 h.owr (fun g hg => k.block g (own_lt1 h.owr g hg).2), h.nu, h.no, h.nn, Nat.le_trans h.bs k.size⟩
end
theorem ridle_core (b : Nat) (p iu it iq r : Int) (w : World) (c7 : w.cell? ⟨b, 7, none⟩ = some (.int .i64 iu)) (c8 : w.cell? ⟨b, 8, none⟩ = some (.int .i64 it)) (c9 : w.cell? ⟨b, 9, none⟩ = some (.int .i64 iq)) (hr : r = if p = 17 then iu else if p = 6 then it else iq) :
    Calls Tryz.prog 211 #[.pointer (some ⟨b, 0, none⟩), .int .i64 p] w fun e w' => e = .returned (.int .i64 r) ∧ w' = w := by
  have HR : Hid _ := hr
  clear hr
  by_cases h1 : p = 17
  · have e : Hid (r = iu) := by show _ = _; rw [HR.out, if_pos h1]
    subst h1
    go_enter Tryz.func211, Tryz.ntmps211
    go_wp2
    go_ret
    exact ⟨ret_int (by rw [e.out]), rfl⟩
  · by_cases h2 : p = 6
    · have e : Hid (r = it) := by show _ = _; rw [HR.out, if_neg h1, if_pos h2]
      subst h2
      go_enter Tryz.func211, Tryz.ntmps211
      go_wp2
      go_ret
      exact ⟨ret_int (by rw [e.out]), rfl⟩
    · have e : Hid (r = iq) := by show _ = _; rw [HR.out, if_neg h1, if_neg h2]
      have h1' : (p == 17) = false := by simpa using h1
      have h2' : (p == 6) = false := by simpa using h2
      go_enter Tryz.func211, Tryz.ntmps211
      go_wp2
      go_ret
      exact ⟨ret_int (by rw [e.out]), rfl⟩
theorem ridle_any {w : World} {base b : Nat} {c : Cf} {now : Int} {us : List Us} {own : List Int} {uv ov : Value} (T : Rb w base b c now us own uv ov) (p : Int) :
    Calls Tryz.prog 211 #[.pointer (some ⟨b, 0, none⟩), .int .i64 p] w fun e w' => e = .returned (.int .i64 (c.idle p)) ∧ w' = w :=
  ridle_core b p c.iu c.it c.iq _ w (T.at 7 rfl) (T.at 8 rfl) (T.at 9 rfl) rfl
end Go.Proofs.YthiljpbodmajaabGreat
namespace Go.Proofs.YthiljpbodmajaabGreat
open Go.RowKit Plain
set_option linter.unusedVariables false

theorem cell7 {w : World} {g : Nat} {t : TypeId} {fr : Nat × Nat} {v0 v1 v2 v3 v4 v5 v6 : Value} (h : w.heap[g]? = some (.cells #[v0, v1, v2, v3, v4, v5, v6] t fr)) : w.cell? ⟨g, 0, none⟩ = some v0 ∧ w.cell? ⟨g, 1, none⟩ = some v1 ∧ w.cell? ⟨g, 2, none⟩ = some v2 ∧ w.cell? ⟨g, 3, none⟩ = some v3 ∧ w.cell? ⟨g, 4, none⟩ = some v4 ∧ w.cell? ⟨g, 5, none⟩ = some v5 ∧ w.cell? ⟨g, 6, none⟩ = some v6 :=
  ⟨cell_of_row w g 0 _ t fr h, cell_of_row w g 1 _ t fr h, cell_of_row w g 2 _ t fr h, cell_of_row w g 3 _ t fr h, cell_of_row w g 4 _ t fr h, cell_of_row w g 5 _ t fr h, cell_of_row w g 6 _ t fr h⟩
/-- what must hold of the uses' numbers -/
def Uok (now : Int) (us : List Us) : Prop := ∀ u ∈ us, 0 ≤ u.ti ∧ u.ti ≤ now
set_option maxHeartbeats 4000000 in
theorem rlast_in (b base g n cap i : Nat) (c : Cf) (now : Int) (us : List Us) (own : List Int) (ov : Value) (u : Us) (w : World) (T : Rb w base b c now us own (.slice (some ⟨g, 0, none⟩) n cap) ov) (hR : UrowIn w base g n cap us) (hi : us[i]? = some u) (t0 : 0 ≤ u.ti) (t1 : u.ti ≤ now) (t2 : now ≤ 1099511627776) (r : Bool) (hr : r = lastB c now us i) :
    Calls Tryz.prog 157 #[.pointer (some ⟨b, 0, none⟩), .int .i64 (i : Int)] w fun e w' => e = .returned (.bool r) ∧ Below w.heap.size w w' := by
  have hn := hR.len
  have hcap := hR.le
  have hcm := hR.cm
  unfold maxLen at hcm
  have hin : i < n := by have := (List.getElem?_eq_some_iff.1 hi).1; omega
  have hL : w.cell? ⟨b, 13, none⟩ = some (.slice (some ⟨g, 0, none⟩) n cap) := T.at 13 rfl
  obtain ⟨c0, c1, c2, c3, c4, c5, c6⟩ := hR.cells i u hi
  have HR : Hid _ := hr
  have HT : Hid _ := T
  have HI : Hid _ := hi
  have HRow : Hid _ := hR
  clear hr T hi hR
  go_enter Tryz.func157, Tryz.ntmps157
  go_wp2
  clear c0 c1 c2 c3 c4 c5 c6 hL
  go_loopw [6] (fun kv wr => ∃ k : Nat, i < k ∧ k ≤ n ∧ kv = .int .i64 (k : Int) ∧ Hid (∀ j v, i < j → j < k → us[j]? = some v → u.like v = false) ∧ Hid (Below w.heap.size w wr) ∧ Hid (wr.heap[w.heap.size]? = some (.cells #[.int .i64 u.pr, .int .i64 u.ad, .int .i64 u.po, .int .i64 u.ex, .int .i64 u.pa, .int .i64 u.pp, .int .i64 u.ti] 134 (0, 0)))) (fun i _ => n - (intOf i).toNat)
  case atStart => exact ⟨i + 1, by omega, by omega, by simp, fun j v h1 h2 => by omega, (Below.refl _ _).alloc (Nat.le_refl _) _, alloc1 _ _⟩
  case round =>
    obtain ⟨k, hik, hk, rfl, hf, hbel, hblk⟩ := hrel
    have TW : Hid _ := Rb.below HT.out hbel.out
    have hL : wr.cell? ⟨b, 13, none⟩ = some (.slice (some ⟨g, 0, none⟩) n cap) := TW.out.at 13 rfl
    obtain ⟨d0, d1, d2, d3, d4, d5, d6⟩ := cell7 hblk.out
    have hsz : w.heap.size < wr.heap.size := (Array.getElem?_eq_some_iff.1 hblk.out).1
    have hbb : b < wr.heap.size := TW.out.lt
    by_cases hlt : k < n
    · obtain ⟨v, hv⟩ : ∃ v, us[k]? = some v := ⟨us[k]'(by omega), by simp [hn, hlt]⟩
      obtain ⟨c0, c1, c2, c3, c4, c5, c6⟩ := (HRow.out.kept (hbel.out.block g HRow.out.lt)).cells k v hv
      have HV : Hid _ := hv
      clear hv
      have step : Hid (u.like v = false → ∀ j v', i < j → j < k + 1 → us[j]? = some v' → u.like v' = false) := fun hh j v' h1 h2 hv' => by
        by_cases e : j = k
        · subst e; rw [HV.out] at hv'; cases hv'; exact hh
        · exact hf.out j v' h1 (by omega) hv'
      have nxt : Hid (∀ o : Obj, Hid (Below w.heap.size w (wr.alloc o)) ∧ Hid ((wr.alloc o).heap[w.heap.size]? = some (.cells #[.int .i64 u.pr, .int .i64 u.ad, .int .i64 u.po, .int .i64 u.ex, .int .i64 u.pa, .int .i64 u.pp, .int .i64 u.ti] 134 (0, 0)))) := fun o =>
        ⟨hbel.out.alloc hbel.out.size o, (push_lt _ _ _ ((Array.getElem?_eq_some_iff.1 hblk.out).1)).trans hblk.out⟩
      cases e1 : (v.pr == u.pr)
      · have hh : Hid (u.like v = false) := by show _ = _; simp [Us.like, e1]
        go_wp2
        go_round
        case rel => exact ⟨k + 1, by omega, by omega, by go_num, step.out hh.out, (nxt.out _).1, (nxt.out _).2⟩
        case measure => simp [intOf]; omega
      · cases e2 : (v.ad == u.ad)
        · have hh : Hid (u.like v = false) := by show _ = _; simp [Us.like, e2]
          go_wp2
          go_round
          case rel => exact ⟨k + 1, by omega, by omega, by go_num, step.out hh.out, (nxt.out _).1, (nxt.out _).2⟩
          case measure => simp [intOf]; omega
        · cases e3 : (v.po == u.po)
          · have hh : Hid (u.like v = false) := by show _ = _; simp [Us.like, e3]
            go_wp2
            go_round
            case rel => exact ⟨k + 1, by omega, by omega, by go_num, step.out hh.out, (nxt.out _).1, (nxt.out _).2⟩
            case measure => simp [intOf]; omega
          · have hh : Hid (u.like v = true) := by show _ = _; simp [Us.like, e1, e2, e3]
            have hfin : Hid (r = false) := by
              show _ = _
              rw [HR.out]
              cases q : lastB c now us i
              · rfl
              · exfalso
                have := ((last_iff HI.out).1 q).1 k v hik HV.out
                rw [hh.out] at this
                cases this
            go_wp2
            go_ret
            exact ⟨ret_bool (by rw [hfin.out]), (nxt.out _).1.out⟩
    · have hkn : k = n := by omega
      have hfin : Hid (r = decide (now - u.ti < c.idle u.pr)) := by
        show _ = _
        rw [HR.out]
        cases q : lastB c now us i
        · cases q2 : decide (now - u.ti < c.idle u.pr)
          · rfl
          · exfalso
            have := (last_iff (c := c) (now := now) HI.out).2 ⟨fun j v h1 h2 => hf.out j v h1 (by have := (List.getElem?_eq_some_iff.1 h2).1; omega) h2, by simpa using q2⟩
            rw [q] at this
            cases this
        · have := ((last_iff HI.out).1 q).2
          simp [this]
      have n12 : wr.cell? ⟨b, 12, none⟩ = some (.int .i64 now) := TW.out.at 12 rfl
      have hwr : IntKind.i64.wrap (now - u.ti) = now - u.ti := by rw [IntKind.wrap_i64]; omega
      go_wp2_with fail
      refine Calls.mono (ridle_any TW.out u.pr) ?_; rintro e w' ⟨rfl, hw⟩; replace hw := hw.symm; subst hw
      generalize c.idle u.pr = id at hfin ⊢
      go_wp2_with fail
      go_region_held (fun w' => w'.cell? ⟨b, 12, none⟩ = some (.int .i64 now) ∧ w'.cell? ⟨w.heap.size, 6, none⟩ = some (.int .i64 u.ti)) (simp [*]) (fail)
      go_wp2
      go_ret
      exact ⟨ret_bool (by rw [hfin.out]), hbel.out.drew⟩
theorem rlast_any {w : World} {base b : Nat} {c : Cf} {now : Int} {us : List Us} {own : List Int} {uv ov : Value} (T : Rb w base b c now us own uv ov) (U : Uok now us) (t2 : now ≤ 1099511627776) (i : Nat) (u : Us) (hi : us[i]? = some u) :
    Calls Tryz.prog 157 #[.pointer (some ⟨b, 0, none⟩), .int .i64 (i : Int)] w fun e w' => e = .returned (.bool (lastB c now us i)) ∧ Below w.heap.size w w' := by
  have hu := U u (List.mem_of_getElem? hi)
  rcases T.ur.cases with ⟨rfl, rfl⟩ | ⟨g, n, cap, rfl, hr⟩
  · simp at hi
  · exact rlast_in b base g n cap i c now us own ov u w T hr hi hu.1 hu.2 t2 _ rfl
def idx : Option Nat → Int
  | none => -1
  | some i => i
theorem rendp_nil {w : World} {base b : Nat} {c : Cf} {now : Int} {own : List Int} {ov : Value} (T : Rb w base b c now [] own (.slice none 0 0) ov) (p a q : Int) :
    Calls Tryz.prog 226 #[.pointer (some ⟨b, 0, none⟩), .int .i64 p, .int .i64 a, .int .i64 q] w fun e w' => e = .returned (.int .i64 (-1)) ∧ Below w.heap.size w w' := by
  have hL : w.cell? ⟨b, 13, none⟩ = some (.slice none 0 0) := T.at 13 rfl
  clear T
  go_enter Tryz.func226, Tryz.ntmps226
  go_wp2
  go_loop [9] (fun i => i = .int .i64 0) (fun i => 0)
  case atStart => rfl
  case round =>
    subst hrel
    go_wp2
    go_ret
    exact ⟨rfl, Below.refl _ _⟩
set_option maxHeartbeats 4000000 in
theorem rendp_in (b base g n cap : Nat) (c : Cf) (now : Int) (us : List Us) (own : List Int) (ov : Value) (w : World) (T : Rb w base b c now us own (.slice (some ⟨g, 0, none⟩) n cap) ov) (hR : UrowIn w base g n cap us) (U : Uok now us) (t2 : now ≤ 1099511627776) (p a q r : Int) (hr : r = idx (fst? (ofI c now us p a q) us.length)) :
    Calls Tryz.prog 226 #[.pointer (some ⟨b, 0, none⟩), .int .i64 p, .int .i64 a, .int .i64 q] w fun e w' => e = .returned (.int .i64 r) ∧ Below w.heap.size w w' := by
  have hn := hR.len
  have hcap := hR.le
  have hcm := hR.cm
  unfold maxLen at hcm
  have HR : Hid _ := hr
  have HT : Hid _ := T
  have HU : Hid _ := U
  have HT2 : Hid _ := t2
  have HRow : Hid _ := hR
  clear hr T hR U t2
  go_enter Tryz.func226, Tryz.ntmps226
  go_wp2
  go_loopw [9] (fun kv wr => ∃ k : Nat, k ≤ n ∧ kv = .int .i64 (k : Int) ∧ Hid (∀ j, j < k → ofI c now us p a q j = false) ∧ Hid (Below w.heap.size w wr)) (fun i _ => n - (intOf i).toNat)
  case atStart => exact ⟨0, by omega, rfl, fun j h1 => by omega, Below.refl _ _⟩
  case round =>
    obtain ⟨k, hk, rfl, hf, hbel⟩ := hrel
    have TW : Hid _ := Rb.below HT.out hbel.out
    have hL : wr.cell? ⟨b, 13, none⟩ = some (.slice (some ⟨g, 0, none⟩) n cap) := TW.out.at 13 rfl
    have hbb : b < wr.heap.size := TW.out.lt
    by_cases hlt : k < n
    · obtain ⟨v, hv⟩ : ∃ v, us[k]? = some v := ⟨us[k]'(by omega), by simp [hn, hlt]⟩
      obtain ⟨c0, c1, c2, c3, c4, c5, c6⟩ := (HRow.out.kept (hbel.out.block g HRow.out.lt)).cells k v hv
      have HV : Hid _ := hv
      clear hv
      have step : Hid (ofI c now us p a q k = false → ∀ j, j < k + 1 → ofI c now us p a q j = false) := fun hh j h1 => by
        by_cases e : j = k
        · subst e; exact hh
        · exact hf.out j (by omega)
      have nxt : Hid (∀ o : Obj, Hid (Below w.heap.size w (wr.alloc o))) := fun o => hbel.out.alloc hbel.out.size o
      cases e1 : (v.pr == p)
      · have hh : Hid (ofI c now us p a q k = false) := by show _ = _; unfold ofI; rw [HV.out]; simp [e1]
        go_wp2
        go_round
        case rel => exact ⟨k + 1, by omega, by go_num, step.out hh.out, nxt.out _⟩
        case measure => simp [intOf]; omega
      · cases e2 : (v.ad == a)
        · have hh : Hid (ofI c now us p a q k = false) := by show _ = _; unfold ofI; rw [HV.out]; simp [e2]
          go_wp2
          go_round
          case rel => exact ⟨k + 1, by omega, by go_num, step.out hh.out, nxt.out _⟩
          case measure => simp [intOf]; omega
        · cases e3 : (v.po == q)
          · have hh : Hid (ofI c now us p a q k = false) := by show _ = _; unfold ofI; rw [HV.out]; simp [e3]
            go_wp2
            go_round
            case rel => exact ⟨k + 1, by omega, by go_num, step.out hh.out, nxt.out _⟩
            case measure => simp [intOf]; omega
          · have lk : Hid (∀ o : Obj, Calls Tryz.prog 157 #[.pointer (some ⟨b, 0, none⟩), .int .i64 (k : Int)] (wr.alloc o) fun e w' => e = .returned (.bool (lastB c now us k)) ∧ Below (wr.alloc o).heap.size (wr.alloc o) w') := fun o => rlast_any (TW.out.below ((Below.refl _ _).alloc (Nat.le_refl _) o)) HU.out HT2.out k v HV.out
            cases ql : lastB c now us k
            · have hh : Hid (ofI c now us p a q k = false) := by show _ = _; unfold ofI; rw [HV.out]; simp [ql]
              rw [ql] at lk
              go_wp2_with fail
              refine Calls.mono (lk.out _) ?_; rintro e wl ⟨rfl, hbl⟩
              have hbl2 : Hid (Below w.heap.size w wl) := (nxt.out _).out.trans (hbl.mono (nxt.out _).out.size)
              clear hbl
              go_wp2
              go_round
              case rel => exact ⟨k + 1, by omega, by go_num, step.out hh.out, hbl2⟩
              case measure => simp [intOf]; omega
            · have hh : Hid (r = (k : Int)) := by
                show _ = _
                have : ofI c now us p a q k = true := by unfold ofI; rw [HV.out]; simp at e1 e2 e3; simp [e1, e2, e3, ql]
                rw [HR.out, fst_step hf.out this us.length (by omega)]; rfl
              rw [ql] at lk
              go_wp2_with fail
              refine Calls.mono (lk.out _) ?_; rintro e wl ⟨rfl, hbl⟩
              have hbl2 : Hid (Below w.heap.size w wl) := (nxt.out _).out.trans (hbl.mono (nxt.out _).out.size)
              clear hbl
              go_wp2
              go_ret
              exact ⟨ret_int (by rw [hh.out]), hbl2.out⟩
    · have hh : Hid (r = -1) := by
        show _ = _
        rw [HR.out, fst_none.2 (fun j hj => hf.out j (by omega))]; rfl
      go_wp2
      go_ret
      exact ⟨ret_int (by rw [hh.out]), hbel.out⟩
theorem rendp_any {w : World} {base b : Nat} {c : Cf} {now : Int} {us : List Us} {own : List Int} {uv ov : Value} (T : Rb w base b c now us own uv ov) (U : Uok now us) (t2 : now ≤ 1099511627776) (p a q : Int) :
    Calls Tryz.prog 226 #[.pointer (some ⟨b, 0, none⟩), .int .i64 p, .int .i64 a, .int .i64 q] w fun e w' => e = .returned (.int .i64 (idx (fst? (ofI c now us p a q) us.length))) ∧ Below w.heap.size w w' := by
  rcases T.ur.cases with ⟨rfl, rfl⟩ | ⟨g, n, cap, rfl, hr⟩
  · exact rendp_nil T p a q
  · exact rendp_in b base g n cap c now us own ov w T hr U t2 p a q _ rfl
theorem rhold_nil {w : World} {base b : Nat} {c : Cf} {now : Int} {own : List Int} {ov : Value} (T : Rb w base b c now [] own (.slice none 0 0) ov) (p x : Int) :
    Calls Tryz.prog 203 #[.pointer (some ⟨b, 0, none⟩), .int .i64 p, .int .i64 x] w fun e w' => e = .returned (.int .i64 (-1)) ∧ Below w.heap.size w w' := by
  have hL : w.cell? ⟨b, 13, none⟩ = some (.slice none 0 0) := T.at 13 rfl
  clear T
  go_enter Tryz.func203, Tryz.ntmps203
  go_wp2
  go_loop [7] (fun i => i = .int .i64 0) (fun i => 0)
  case atStart => rfl
  case round =>
    subst hrel
    go_wp2
    go_ret
    exact ⟨rfl, Below.refl _ _⟩
set_option maxHeartbeats 4000000 in
theorem rhold_in (b base g n cap : Nat) (c : Cf) (now : Int) (us : List Us) (own : List Int) (ov : Value) (w : World) (T : Rb w base b c now us own (.slice (some ⟨g, 0, none⟩) n cap) ov) (hR : UrowIn w base g n cap us) (U : Uok now us) (t2 : now ≤ 1099511627776) (p x r : Int) (hr : r = idx (fst? (hasI c now us p x) us.length)) :
    Calls Tryz.prog 203 #[.pointer (some ⟨b, 0, none⟩), .int .i64 p, .int .i64 x] w fun e w' => e = .returned (.int .i64 r) ∧ Below w.heap.size w w' := by
  have hn := hR.len
  have hcap := hR.le
  have hcm := hR.cm
  unfold maxLen at hcm
  have HR : Hid _ := hr
  have HT : Hid _ := T
  have HU : Hid _ := U
  have HT2 : Hid _ := t2
  have HRow : Hid _ := hR
  clear hr T hR U t2
  go_enter Tryz.func203, Tryz.ntmps203
  go_wp2
  go_loopw [7] (fun kv wr => ∃ k : Nat, k ≤ n ∧ kv = .int .i64 (k : Int) ∧ Hid (∀ j, j < k → hasI c now us p x j = false) ∧ Hid (Below w.heap.size w wr)) (fun i _ => n - (intOf i).toNat)
  case atStart => exact ⟨0, by omega, rfl, fun j h1 => by omega, Below.refl _ _⟩
  case round =>
    obtain ⟨k, hk, rfl, hf, hbel⟩ := hrel
    have TW : Hid _ := Rb.below HT.out hbel.out
    have hL : wr.cell? ⟨b, 13, none⟩ = some (.slice (some ⟨g, 0, none⟩) n cap) := TW.out.at 13 rfl
    have hbb : b < wr.heap.size := TW.out.lt
    by_cases hlt : k < n
    · obtain ⟨v, hv⟩ : ∃ v, us[k]? = some v := ⟨us[k]'(by omega), by simp [hn, hlt]⟩
      obtain ⟨c0, c1, c2, c3, c4, c5, c6⟩ := (HRow.out.kept (hbel.out.block g HRow.out.lt)).cells k v hv
      have HV : Hid _ := hv
      clear hv
      have step : Hid (hasI c now us p x k = false → ∀ j, j < k + 1 → hasI c now us p x j = false) := fun hh j h1 => by
        by_cases e : j = k
        · subst e; exact hh
        · exact hf.out j (by omega)
      have nxt : Hid (∀ o : Obj, Hid (Below w.heap.size w (wr.alloc o))) := fun o => hbel.out.alloc hbel.out.size o
      cases e1 : (v.pr == p)
      · have hh : Hid (hasI c now us p x k = false) := by show _ = _; unfold hasI; rw [HV.out]; simp [e1]
        go_wp2
        go_round
        case rel => exact ⟨k + 1, by omega, by go_num, step.out hh.out, nxt.out _⟩
        case measure => simp [intOf]; omega
      · cases e2 : (v.ex == x)
        · have hh : Hid (hasI c now us p x k = false) := by show _ = _; unfold hasI; rw [HV.out]; simp [e2]
          go_wp2
          go_round
          case rel => exact ⟨k + 1, by omega, by go_num, step.out hh.out, nxt.out _⟩
          case measure => simp [intOf]; omega
        · have lk : Hid (∀ o : Obj, Calls Tryz.prog 157 #[.pointer (some ⟨b, 0, none⟩), .int .i64 (k : Int)] (wr.alloc o) fun e w' => e = .returned (.bool (lastB c now us k)) ∧ Below (wr.alloc o).heap.size (wr.alloc o) w') := fun o => rlast_any (TW.out.below ((Below.refl _ _).alloc (Nat.le_refl _) o)) HU.out HT2.out k v HV.out
          cases ql : lastB c now us k
          · have hh : Hid (hasI c now us p x k = false) := by show _ = _; unfold hasI; rw [HV.out]; simp [ql]
            rw [ql] at lk
            go_wp2_with fail
            refine Calls.mono (lk.out _) ?_; rintro e wl ⟨rfl, hbl⟩
            have hbl2 : Hid (Below w.heap.size w wl) := (nxt.out _).out.trans (hbl.mono (nxt.out _).out.size)
            clear hbl
            go_wp2
            go_round
            case rel => exact ⟨k + 1, by omega, by go_num, step.out hh.out, hbl2⟩
            case measure => simp [intOf]; omega
          · have hh : Hid (r = (k : Int)) := by
              show _ = _
              have : hasI c now us p x k = true := by unfold hasI; rw [HV.out]; simp at e1 e2; simp [e1, e2, ql]
              rw [HR.out, fst_step hf.out this us.length (by omega)]; rfl
            rw [ql] at lk
            go_wp2_with fail
            refine Calls.mono (lk.out _) ?_; rintro e wl ⟨rfl, hbl⟩
            have hbl2 : Hid (Below w.heap.size w wl) := (nxt.out _).out.trans (hbl.mono (nxt.out _).out.size)
            clear hbl
            go_wp2
            go_ret
            exact ⟨ret_int (by rw [hh.out]), hbl2.out⟩
    · have hh : Hid (r = -1) := by
        show _ = _
        rw [HR.out, fst_none.2 (fun j hj => hf.out j (by omega))]; rfl
      go_wp2
      go_ret
      exact ⟨ret_int (by rw [hh.out]), hbel.out⟩
theorem rhold_any {w : World} {base b : Nat} {c : Cf} {now : Int} {us : List Us} {own : List Int} {uv ov : Value} (T : Rb w base b c now us own uv ov) (U : Uok now us) (t2 : now ≤ 1099511627776) (p x : Int) :
    Calls Tryz.prog 203 #[.pointer (some ⟨b, 0, none⟩), .int .i64 p, .int .i64 x] w fun e w' => e = .returned (.int .i64 (idx (fst? (hasI c now us p x) us.length))) ∧ Below w.heap.size w w' := by
  rcases T.ur.cases with ⟨rfl, rfl⟩ | ⟨g, n, cap, rfl, hr⟩
  · exact rhold_nil T p x
  · exact rhold_in b base g n cap c now us own ov w T hr U t2 p x _ rfl
end Go.Proofs.YthiljpbodmajaabGreat
namespace Go.Proofs.YthiljpbodmajaabGreat
open Go.RowKit Plain
set_option linter.unusedVariables false

section
variable {w : World} {base b : Nat} {c : Cf} {now : Int} {us : List Us} {own : List Int} {uv ov : Value}
theorem rlive_nil (T : Rb w base b c now [] own (.slice none 0 0) ov) : Calls Tryz.prog 100 #[.pointer (some ⟨b, 0, none⟩)] w fun e w' => e = .returned (.int .i64 0) ∧ Below w.heap.size w w' := by
  have hL : w.cell? ⟨b, 13, none⟩ = some (.slice none 0 0) := T.at 13 rfl
  clear T
  go_enter Tryz.func100, Tryz.ntmps100
  go_wp2
  go_loop [3, 4] (fun n i => n = .int .i64 0 ∧ i = .int .i64 0) (fun n i => 0)
  case atStart => exact ⟨rfl, rfl⟩
  case round =>
    obtain ⟨rfl, rfl⟩ := hrel
    go_wp2
    go_ret
    exact ⟨rfl, Below.refl _ _⟩
set_option maxHeartbeats 4000000 in
theorem rlive_in {g n cap : Nat} (T : Rb w base b c now us own (.slice (some ⟨g, 0, none⟩) n cap) ov) (hR : UrowIn w base g n cap us) (U : Uok now us) (t2 : now ≤ 1099511627776) (r : Int) (hr : r = (lvI (lastB c now us) us.length).length) :
    Calls Tryz.prog 100 #[.pointer (some ⟨b, 0, none⟩)] w fun e w' => e = .returned (.int .i64 r) ∧ Below w.heap.size w w' := by
  have hn := hR.len
  have hcap := hR.le
  have hcm := hR.cm
  unfold maxLen at hcm
  have HR : Hid _ := hr
  have HT : Hid _ := T
  have HU : Hid _ := U
  have HT2 : Hid _ := t2
  clear hr T hR U t2
  go_enter Tryz.func100, Tryz.ntmps100
  go_wp2
  go_loopw [3, 4] (fun nv kv wr => ∃ m k : Nat, k ≤ n ∧ m ≤ k ∧ nv = .int .i64 (m : Int) ∧ kv = .int .i64 (k : Int) ∧ Hid ((lvI (lastB c now us) k).length = m) ∧ Hid (Below w.heap.size w wr)) (fun _ i _ => n - (intOf i).toNat)
  case atStart => exact ⟨0, 0, by omega, by omega, rfl, rfl, rfl, Below.refl _ _⟩
  case round =>
    obtain ⟨m, k, hk, hmk, rfl, rfl, hf, hbel⟩ := hrel
    have TW : Hid _ := Rb.below HT.out hbel.out
    have hL : wr.cell? ⟨b, 13, none⟩ = some (.slice (some ⟨g, 0, none⟩) n cap) := TW.out.at 13 rfl
    have hbb : b < wr.heap.size := TW.out.lt
    by_cases hlt : k < n
    · obtain ⟨v, hv⟩ : ∃ v, us[k]? = some v := ⟨us[k]'(by omega), by simp [hn, hlt]⟩
      have lk : Hid _ := rlast_any TW.out HU.out HT2.out k v hv
      clear hv
      cases ql : lastB c now us k
      · have hh : Hid ((lvI (lastB c now us) (k + 1)).length = m) := by show _ = _; rw [lvI, ql]; exact hf.out
        rw [ql] at lk
        go_wp2_with fail
        refine Calls.mono lk.out ?_; rintro e wl ⟨rfl, hbl⟩
        have hbl2 : Hid (Below w.heap.size w wl) := hbel.out.trans (hbl.mono hbel.out.size)
        clear hbl lk
        go_wp2
        go_round
        case rel => exact ⟨m, k + 1, by omega, by omega, rfl, by go_num, hh, hbl2⟩
        case measure => simp [intOf]; omega
      · have hh : Hid ((lvI (lastB c now us) (k + 1)).length = m + 1) := by show _ = _; rw [lvI, ql]; simp only [if_true]; rw [List.length_append, hf.out]; rfl
        rw [ql] at lk
        go_wp2_with fail
        refine Calls.mono lk.out ?_; rintro e wl ⟨rfl, hbl⟩
        have hbl2 : Hid (Below w.heap.size w wl) := hbel.out.trans (hbl.mono hbel.out.size)
        clear hbl lk
        go_wp2
        go_round
        case rel => exact ⟨m + 1, k + 1, by omega, by omega, by go_num, by go_num, hh, hbl2⟩
        case measure => simp [intOf]; omega
    · have hh : Hid (r = (m : Int)) := by
        show _ = _
        rw [HR.out, hn, show n = k by omega, hf.out]
      go_wp2
      go_ret
      exact ⟨ret_int (by rw [hh.out]), hbel.out⟩
theorem rlive_any (T : Rb w base b c now us own uv ov) (U : Uok now us) (t2 : now ≤ 1099511627776) : Calls Tryz.prog 100 #[.pointer (some ⟨b, 0, none⟩)] w fun e w' => e = .returned (.int .i64 (lvI (lastB c now us) us.length).length) ∧ Below w.heap.size w w' := by
  rcases T.ur.cases with ⟨rfl, rfl⟩ | ⟨g, n, cap, rfl, hr⟩
  · exact rlive_nil T
  · exact rlive_in T hr U t2 _ rfl
/-- the times of the box's own messages -/
theorem own_cases1 {v : Value} {xs : List Int} (h : w.ownsRow base 3 1 v xs.length (ints xs)) : (v = .slice none 0 0 ∧ xs = []) ∨ ∃ g cap, v = .slice (some ⟨g, 0, none⟩) xs.length cap ∧ xs.length ≤ cap ∧ cap ≤ maxLen := by
  obtain ⟨hl, h⟩ := h
  rcases h with ⟨h1, h2⟩ | ⟨g, cap, cur, h1, h2, h3, h4, h5, h6, h7⟩
  · exact .inl ⟨h1, List.length_eq_zero_iff.1 h2⟩
  · exact .inr ⟨g, cap, h1, h4, h5⟩
set_option maxHeartbeats 4000000 in
theorem rsince_any (T : Rb w base b c now us own uv ov) (t : Int) : Calls Tryz.prog 158 #[.pointer (some ⟨b, 0, none⟩), .int .i64 t] w fun e w' => e = .returned (.int .i64 (sinceR own t)) ∧ w' = w := by
  have hO : w.cell? ⟨b, 14, none⟩ = some ov := T.at 14 rfl
  have owr := T.owr
  rcases own_cases1 owr with ⟨rfl, rfl⟩ | ⟨g, cap, rfl, hle, hcm⟩
  · clear owr T
    go_enter Tryz.func158, Tryz.ntmps158
    go_wp2
    go_loop [5, 6] (fun n i => n = .int .i64 0 ∧ i = .int .i64 0) (fun n i => 0)
    case atStart => exact ⟨rfl, rfl⟩
    case round =>
      obtain ⟨rfl, rfl⟩ := hrel
      go_wp2
      go_ret
      exact ⟨rfl, rfl⟩
  · unfold maxLen at hcm
    have HO : Hid _ := owr
    obtain ⟨n, hn⟩ : ∃ n, n = own.length := ⟨_, rfl⟩
    rw [← hn] at hO hle
    have hlen : own.length = n := hn.symm
    clear owr T hn
    obtain ⟨r, hr⟩ : ∃ r : Int, r = (sinceR own t : Int) := ⟨_, rfl⟩
    rw [← hr]
    have HR : Hid _ := hr
    clear hr
    go_enter Tryz.func158, Tryz.ntmps158
    go_wp2
    go_loop [5, 6] (fun nv kv => ∃ m k : Nat, k ≤ n ∧ m ≤ k ∧ nv = .int .i64 (m : Int) ∧ kv = .int .i64 (k : Int) ∧ Hid ((own.take k).countP (fun x => decide (t ≤ x)) = m)) (fun _ i => n - (intOf i).toNat)
    case atStart => exact ⟨0, 0, by omega, by omega, rfl, rfl, rfl⟩
    case round =>
      obtain ⟨m, k, hk, hmk, rfl, rfl, hf⟩ := hrel
      by_cases hlt : k < n
      · obtain ⟨x, hx⟩ : ∃ x, own[k]? = some x := ⟨own[k]'(by omega), List.getElem?_eq_getElem (by omega)⟩
        have hc : w.cell? ⟨g, k, none⟩ = some (.int .i64 x) := own_at1 HO.out k (.int .i64 x) (by simp [ints, hx])
        have htk : Hid (own.take (k + 1) = own.take k ++ [x]) := by show _ = _; rw [List.take_add_one, hx]; rfl
        clear hx
        by_cases q : t ≤ x
        · have hh : Hid ((own.take (k + 1)).countP (fun x => decide (t ≤ x)) = m + 1) := by show _ = _; rw [htk.out, List.countP_append, hf.out]; simp [q]
          go_wp2
          go_round
          case rel => exact ⟨m + 1, k + 1, by omega, by omega, by go_num, by go_num, hh⟩
          case measure => simp [intOf]; omega
        · have hh : Hid ((own.take (k + 1)).countP (fun x => decide (t ≤ x)) = m) := by show _ = _; rw [htk.out, List.countP_append, hf.out]; simp [q]
          have q' : x < t := by omega
          clear q
          go_wp2
          go_round
          case rel => exact ⟨m, k + 1, by omega, by omega, rfl, by go_num, hh⟩
          case measure => simp [intOf]; omega
      · have hh : Hid (r = (m : Int)) := by
          show _ = _
          rw [HR.out]
          unfold sinceR
          rw [← hf.out, List.take_of_length_le (by omega)]
        go_wp2
        go_ret
        exact ⟨ret_int (by rw [hh.out]), rfl⟩
set_option maxHeartbeats 4000000 in
theorem rtokens_any (T : Rb w base b c now us own uv ov) (t0 : 0 ≤ now) (t2 : now ≤ 1099511627776) (hb : 0 ≤ c.bu ∧ c.bu ≤ 100) (hra : 0 ≤ c.ra ∧ c.ra ≤ 100) (ho : ∀ t ∈ own, 0 ≤ t ∧ t ≤ now) : Calls Tryz.prog 101 #[.pointer (some ⟨b, 0, none⟩)] w fun e w' => e = .returned (.int .i64 (tokR c now own)) ∧ Below w.heap.size w w' := by
  have hO : w.cell? ⟨b, 14, none⟩ = some ov := T.at 14 rfl
  have c10 : w.cell? ⟨b, 10, none⟩ = some (.int .i64 c.bu) := T.at 10 rfl
  have c11 : w.cell? ⟨b, 11, none⟩ = some (.int .i64 c.ra) := T.at 11 rfl
  have c12 : w.cell? ⟨b, 12, none⟩ = some (.int .i64 now) := T.at 12 rfl
  have owr := T.owr
  have cS0 : Hid (∀ t w', w'.heap = w.heap → Calls Tryz.prog 158 #[.pointer (some ⟨b, 0, none⟩), .int .i64 t] w' fun e w2 => e = .returned (.int .i64 (sinceR own t)) ∧ w2 = w') := fun t w' e => rsince_any (Rb.heap T e) t
  have hsl : ∀ t, sinceR own t ≤ own.length := fun t => List.countP_le_length
  obtain ⟨f, hf⟩ : ∃ f : Int → Int, ∀ t, f t = c.bu + (now - t) * c.ra - (sinceR own t : Int) := ⟨_, fun _ => rfl⟩
  obtain ⟨r, hr⟩ : ∃ r : Int, r = tokR c now own := ⟨_, rfl⟩
  rw [← hr]
  have HR : Hid (r = own.foldl (fun n t => if f t < n then f t else n) (c.bu - (sinceR own now : Int))) := by
    show _ = _
    rw [hr]
    unfold tokR
    congr 1
    funext n t
    rw [hf]
  clear hr
  have HF : Hid _ := hf
  have HS : Hid _ := hsl
  have hs0 := hsl now
  obtain ⟨s0, hs0'⟩ : ∃ s0 : Nat, s0 = sinceR own now := ⟨_, rfl⟩
  have cS1 : Hid (Calls Tryz.prog 158 #[.pointer (some ⟨b, 0, none⟩), .int .i64 now] w.drew fun e w2 => e = .returned (.int .i64 (s0 : Int)) ∧ w2 = w.drew) := by rw [hs0']; exact cS0.out now w.drew rfl
  rw [← hs0'] at HR hs0
  clear hf hsl hs0'
  have hbu := hb.1
  have hbu2 := hb.2
  have HRA : Hid _ := hra
  have HB : Hid _ := hb
  have HOO : Hid _ := ho
  have HT : Hid _ := T
  clear hra hb ho T
  rcases own_cases1 owr with ⟨rfl, rfl⟩ | ⟨g, cap, rfl, hle, hcm⟩
  · have e0 : s0 = 0 := by simpa using hs0
    subst e0
    have hwr0 : IntKind.i64.wrap c.bu = c.bu := by rw [IntKind.wrap_i64]; omega
    have hfin : Hid (r = c.bu) := by show _ = _; rw [HR.out]; simp
    clear owr
    go_enter Tryz.func101, Tryz.ntmps101
    go_wp2
    go_region_held (fun w' => w'.cell? ⟨b, 10, none⟩ = some (.int .i64 c.bu) ∧ w'.cell? ⟨b, 12, none⟩ = some (.int .i64 now)) (simp [*]) (first | (go_at_call 158; refine Calls.mono cS1.out ?_; rintro e w' ⟨rfl, hw⟩; replace hw := hw.symm; subst hw))
    go_wp2
    go_loop [3, 4] (fun n i => n = .int .i64 c.bu ∧ i = .int .i64 0) (fun n i => 0)
    case atStart => exact ⟨by simp, rfl⟩
    case round =>
      obtain ⟨rfl, rfl⟩ := hrel
      go_wp2
      go_ret
      exact ⟨ret_int (by rw [hfin.out]), (Below.refl _ _).drew⟩
  · unfold maxLen at hcm
    obtain ⟨n, hn⟩ : ∃ n, n = own.length := ⟨_, rfl⟩
    have HO : Hid _ := owr
    rw [← hn] at hO hle hs0
    have hlen : own.length = n := hn.symm
    have hwr0 : IntKind.i64.wrap (c.bu - (s0 : Int)) = c.bu - (s0 : Int) := by rw [IntKind.wrap_i64]; omega
    clear owr hn
    go_enter Tryz.func101, Tryz.ntmps101
    go_wp2
    go_region_held (fun w' => w'.cell? ⟨b, 10, none⟩ = some (.int .i64 c.bu) ∧ w'.cell? ⟨b, 12, none⟩ = some (.int .i64 now)) (simp [*]) (first | (go_at_call 158; refine Calls.mono cS1.out ?_; rintro e w' ⟨rfl, hw⟩; replace hw := hw.symm; subst hw))
    go_wp2
    go_loopw [3, 4] (fun nv kv wr => ∃ (m : Int) (k : Nat), k ≤ n ∧ nv = .int .i64 m ∧ kv = .int .i64 (k : Int) ∧ Hid ((own.take k).foldl (fun n t => if f t < n then f t else n) (c.bu - (s0 : Int)) = m) ∧ Hid (wr.heap = w.heap) ∧ Hid (Below w.heap.size w wr)) (fun _ i _ => n - (intOf i).toNat)
    case atStart => exact ⟨c.bu - (s0 : Int), 0, by omega, by simp, rfl, rfl, rfl, (Below.refl _ _).drew⟩
    case round =>
      obtain ⟨m, k, hk, rfl, rfl, hff, hheap, hbel⟩ := hrel
      have TW : Hid _ := Rb.heap HT.out hheap.out
      have d14 : wr.cell? ⟨b, 14, none⟩ = some (.slice (some ⟨g, 0, none⟩) n cap) := by rw [← hlen]; exact TW.out.at 14 rfl
      have d10 : wr.cell? ⟨b, 10, none⟩ = some (.int .i64 c.bu) := TW.out.at 10 rfl
      have d11 : wr.cell? ⟨b, 11, none⟩ = some (.int .i64 c.ra) := TW.out.at 11 rfl
      have d12 : wr.cell? ⟨b, 12, none⟩ = some (.int .i64 now) := TW.out.at 12 rfl
      by_cases hlt : k < n
      · obtain ⟨x, hx⟩ : ∃ x, own[k]? = some x := ⟨own[k]'(by omega), List.getElem?_eq_getElem (by omega)⟩
        have hc : wr.cell? ⟨g, k, none⟩ = some (.int .i64 x) := own_at1 TW.out.owr k (.int .i64 x) (by simp [ints, hx])
        have htk : Hid (own.take (k + 1) = own.take k ++ [x]) := by show _ = _; rw [List.take_add_one, hx]; rfl
        have hxb := HOO.out x (List.mem_of_getElem? hx)
        have hsx := HS.out x
        have hfx := HF.out x
        obtain ⟨sx, hsx'⟩ : ∃ sx : Nat, sx = sinceR own x := ⟨_, rfl⟩
        have cS2 : Hid (Calls Tryz.prog 158 #[.pointer (some ⟨b, 0, none⟩), .int .i64 x] wr.drew fun e w2 => e = .returned (.int .i64 (sx : Int)) ∧ w2 = wr.drew) := by rw [hsx']; exact cS0.out x wr.drew hheap.out
        rw [← hsx'] at hsx hfx
        obtain ⟨P, hP⟩ : ∃ P : Int, P = (now - x) * c.ra := ⟨_, rfl⟩
        have hP0 : 0 ≤ P := by rw [hP]; exact Int.mul_nonneg (by omega) HRA.out.1
        have hP1 : P ≤ 109951162777600 := by
          rw [hP]
          have h1 := Int.mul_le_mul (show now - x ≤ 1099511627776 by omega) HRA.out.2 HRA.out.1 (by decide : (0 : Int) ≤ 1099511627776)
          omega
        rw [← hP] at hfx
        have e1 : IntKind.i64.wrap (now - x) = now - x := by rw [IntKind.wrap_i64]; omega
        have e2 : IntKind.i64.wrap ((now - x) * c.ra) = P := by rw [← hP, IntKind.wrap_i64]; omega
        have e3 : IntKind.i64.wrap (c.bu + P) = c.bu + P := by rw [IntKind.wrap_i64]; omega
        have e4 : IntKind.i64.wrap (c.bu + P - (sx : Int)) = f x := by rw [hfx, IntKind.wrap_i64]; omega
        have HX : Hid _ := hxb
        have HFX : Hid _ := hfx
        have HH1 : Hid (f x < m → (own.take (k + 1)).foldl (fun n t => if f t < n then f t else n) (c.bu - (s0 : Int)) = f x) := fun q => by rw [htk.out, List.foldl_append, hff.out]; simp [q]
        have HH2 : Hid (¬ f x < m → (own.take (k + 1)).foldl (fun n t => if f t < n then f t else n) (c.bu - (s0 : Int)) = m) := fun q => by rw [htk.out, List.foldl_append, hff.out]; simp [q]
        clear hx hsx hsx' hxb hfx hP hP0 hP1
        generalize f x = fx at e4 HH1 HH2 HFX
        go_wp2
        go_region_held (fun w' => w'.cell? ⟨b, 10, none⟩ = some (.int .i64 c.bu) ∧ w'.cell? ⟨b, 11, none⟩ = some (.int .i64 c.ra) ∧ w'.cell? ⟨b, 12, none⟩ = some (.int .i64 now)) (simp [*]) (first | (go_at_call 158; refine Calls.mono cS2.out ?_; rintro e w' ⟨rfl, hw⟩; replace hw := hw.symm; subst hw))
        by_cases q : fx < m
        · go_wp2
          go_round
          case rel => exact ⟨fx, k + 1, by omega, by simp [*], by go_num, HH1.out q, hheap, hbel.out.drew⟩
          case measure => simp [intOf]; omega
        · have q' : m ≤ fx := by omega
          go_wp2
          go_round
          case rel => exact ⟨m, k + 1, by omega, rfl, by go_num, HH2.out q', hheap, hbel.out.drew⟩
          case measure => simp [intOf]; omega
      · have hh : Hid (r = m) := by
          show _ = _
          rw [HR.out, ← hff.out, List.take_of_length_le (by omega)]
        go_wp2
        go_ret
        exact ⟨ret_int (by rw [hh.out]), hbel.out⟩
end
end Go.Proofs.YthiljpbodmajaabGreat
