/-
  CONTRACTS: package natboxref: among, peers.
-/
import Derived.Test.YthiljpbodmajaabGreatRfbx
import Derived.Deep.AppendLies
import Derived.Deep.DeepCutAuto
namespace Go.Proofs.YthiljpbodmajaabGreat
open Go.RowKit Plain
set_option linter.unusedVariables false

def flat (l : List (Int × Int)) : List Int := l.flatMap fun p => [p.1, p.2]
theorem flat_len (l : List (Int × Int)) : (flat l).length = 2 * l.length := by
  induction l with
  | nil => rfl
  | cons x l ih => simp only [flat, List.flatMap_cons, List.length_append, List.length_cons, List.length_nil] at *; omega
theorem flat_at : ∀ (l : List (Int × Int)) (k : Nat) (x : Int × Int), l[k]? = some x → (flat l)[2 * k]? = some x.1 ∧ (flat l)[2 * k + 1]? = some x.2
  | [], k, x, h => by simp at h
  | y :: l, 0, x, h => by simp at h; subst h; exact ⟨rfl, rfl⟩
  | y :: l, k + 1, x, h => by
    have := flat_at l k x (by simpa using h)
    have e : flat (y :: l) = y.1 :: y.2 :: flat l := rfl
    rw [e, show 2 * (k + 1) = 2 * k + 1 + 1 by omega]
    exact this
theorem flat_app (l : List (Int × Int)) (x : Int × Int) : flat (l ++ [x]) = flat l ++ [x.1] ++ [x.2] := by simp [flat]
theorem contains_iff' {l : List (Int × Int)} {x : Int × Int} : l.contains x = true ↔ ∃ k : Nat, l[k]? = some x := by
  rw [List.contains_iff_mem]
  exact ⟨fun h => List.getElem?_of_mem h, fun ⟨k, h⟩ => List.mem_of_getElem? h⟩
theorem ramong_nil (a p : Int) (w : World) : Calls Tryz.prog 225 #[.slice none 0 0, .int .i64 a, .int .i64 p] w fun e w' => e = .returned (.bool false) ∧ w' = w := by
  go_enter Tryz.func225, Tryz.ntmps225
  go_wp2
  go_loop [7] (fun i => i = .int .i64 0) (fun i => 0)
  case atStart => rfl
  case round =>
    subst hrel
    go_wp2
    go_ret
    exact ⟨rfl, rfl⟩
set_option maxHeartbeats 4000000 in
theorem ramong_in (g n cap : Nat) (l : List (Int × Int)) (a p : Int) (w : World) (hl : l.length ≤ 1000) (hn : n = 2 * l.length) (hcap : n ≤ cap) (hc : ∀ k x, l[k]? = some x → w.cell? ⟨g, 2 * k, none⟩ = some (.int .i64 x.1) ∧ w.cell? ⟨g, 2 * k + 1, none⟩ = some (.int .i64 x.2)) (r : Bool) (hr : r = l.contains (a, p)) :
    Calls Tryz.prog 225 #[.slice (some ⟨g, 0, none⟩) n cap, .int .i64 a, .int .i64 p] w fun e w' => e = .returned (.bool r) ∧ w' = w := by
  have HC : Hid _ := hc
  have HR : Hid _ := hr
  have HN : Hid _ := hn
  have hn2 : n ≤ 2000 := by omega
  clear hc hr hn
  go_enter Tryz.func225, Tryz.ntmps225
  go_wp2
  go_loop [7] (fun i => ∃ k I : Nat, Hid (I = 2 * k) ∧ k ≤ l.length ∧ I ≤ n ∧ i = .int .i64 (I : Int) ∧ Hid (∀ j, j < k → ¬ l[j]? = some (a, p))) (fun i => n - (intOf i).toNat)
  case atStart => exact ⟨0, 0, rfl, by omega, by omega, rfl, fun j h => by omega⟩
  case round =>
    obtain ⟨k, I, HI, hk, hIle, rfl, hf⟩ := hrel
    have hN := HN.out
    have hI := HI.out
    by_cases hlt : k < l.length
    · obtain ⟨x, hx⟩ : ∃ x, l[k]? = some x := ⟨l[k]'hlt, List.getElem?_eq_getElem hlt⟩
      have hcx := HC.out k x hx
      rw [← hI] at hcx
      obtain ⟨q0, q1⟩ := hcx
      have hIn : I + 1 < n := by omega
      have nx : Hid (I + 2 = 2 * (k + 1) ∧ I + 2 ≤ n) := ⟨by omega, by omega⟩
      clear hI hN
      have HX : Hid _ := hx
      clear hx
      have step : Hid (¬ x = (a, p) → ∀ j, j < k + 1 → ¬ l[j]? = some (a, p)) := fun hh j hj e => by
        by_cases q : j = k
        · subst q; rw [HX.out] at e; cases e; exact hh rfl
        · exact hf.out j (by omega) e
      obtain ⟨x1, x2⟩ := x
      cases e1 : (x1 == a)
      · have hh : Hid (¬ (x1, x2) = (a, p)) := fun e => by cases e; simp at e1
        go_wp2
        go_round
        case rel => exact ⟨k + 1, I + 2, nx.out.1, by omega, nx.out.2, by go_num, step.out hh.out⟩
        case measure => simp [intOf]; omega
      · cases e2 : (x2 == p)
        · have hh : Hid (¬ (x1, x2) = (a, p)) := fun e => by cases e; simp at e2
          go_wp2
          go_round
          case rel => exact ⟨k + 1, I + 2, nx.out.1, by omega, nx.out.2, by go_num, step.out hh.out⟩
          case measure => simp [intOf]; omega
        · have hh : Hid (r = true) := by
            show _ = _
            rw [HR.out, contains_iff']
            have a1 : x1 = a := by simpa using e1
            have a2 : x2 = p := by simpa using e2
            exact ⟨k, by rw [HX.out, a1, a2]⟩
          go_wp2
          go_ret
          exact ⟨ret_bool (by rw [hh.out]), rfl⟩
    · have hh : Hid (r = false) := by
        show _ = _
        rw [HR.out]
        cases q : l.contains (a, p)
        · rfl
        · exfalso
          obtain ⟨j, hj⟩ := contains_iff'.1 q
          exact hf.out j (by have := (List.getElem?_eq_some_iff.1 hj).1; omega) hj
      have hIn : n ≤ I + 1 := by omega
      clear hI hN
      go_wp2
      go_ret
      exact ⟨ret_bool (by rw [hh.out]), rfl⟩
theorem ramong_any {w : World} {base : Nat} {v : Value} {l : List (Int × Int)} (h : w.ownsRow base 3 1 v (flat l).length (ints (flat l))) (hl : l.length ≤ 1000) (a p : Int) : Calls Tryz.prog 225 #[v, .int .i64 a, .int .i64 p] w fun e w' => e = .returned (.bool (l.contains (a, p))) ∧ w' = w := by
  rcases own_cases1 h with ⟨rfl, e⟩ | ⟨g, cap, rfl, hle, hcm⟩
  · have : l = [] := by
      cases l with
      | nil => rfl
      | cons x l => simp [flat] at e
    subst this
    exact ramong_nil a p w
  · have hcell : ∀ k x, l[k]? = some x → w.cell? ⟨g, 2 * k, none⟩ = some (.int .i64 x.1) ∧ w.cell? ⟨g, 2 * k + 1, none⟩ = some (.int .i64 x.2) := fun k x hx => by
      have := flat_at l k x hx
      exact ⟨own_at1 h (2 * k) _ (by simp [ints, this.1]), own_at1 h (2 * k + 1) _ (by simp [ints, this.2])⟩
    exact ramong_in g _ cap l a p w hl (flat_len l) hle hcell _ rfl
end Go.Proofs.YthiljpbodmajaabGreat
namespace Go.Proofs.YthiljpbodmajaabGreat
open Go.RowKit Plain
set_option linter.unusedVariables false

theorem rinfo_int : (Tryz.prog.info? 3).map (fun i => (i.zero, i.size, i.bytes)) = some (some (.int .i64 0), 1, 8) := by kernel_rfl
theorem rinfo_parts {P : Program} {t : TypeId} {z : Option Value} {n m : Nat} (h : (P.info? t).map (fun i => (i.zero, i.size, i.bytes)) = some (z, n, m)) : ∃ i, P.info? t = some i ∧ i.zero = z ∧ i.size = n ∧ i.bytes = m := by
  obtain ⟨i, hi, he⟩ := Option.map_eq_some_iff.1 h
  simp only [Prod.mk.injEq] at he
  exact ⟨i, hi, he.1, he.2.1, he.2.2⟩
theorem rgrown_below {w w' : World} {B : Nat} {row : Option Nat} (hg : w.grownBy w' row) (hr : ∀ k, row = some k → B ≤ k) (hB : B ≤ w.heap.size) : Below B w w' :=
  ⟨hg.os, hg.tape, hg.output, hg.size, fun k hk => hg.block k (by omega) (fun e => by have := hr k e.symm; omega)⟩
set_option maxHeartbeats 8000000 in
set_option maxRecDepth 2000 in
theorem rpeers_in (b base g n cap i : Nat) (c : Cf) (now : Int) (us : List Us) (own : List Int) (ov : Value) (u : Us) (w : World) (T : Rb w base b c now us own (.slice (some ⟨g, 0, none⟩) n cap) ov) (hR : UrowIn w base g n cap us) (U : Uok now us) (t2 : now ≤ 1099511627776) (hi : us[i]? = some u) (R : List (Int × Int)) (hRR : peersL c us i = R) (hl4 : R.length ≤ 4) :
    Calls Tryz.prog 212 #[.pointer (some ⟨b, 0, none⟩), .int .i64 (i : Int)] w fun e w' => ∃ lv, e = .returned lv ∧ w'.ownsRow (w.heap.size + 1) 3 1 lv (flat R).length (ints (flat R)) ∧ Below w.heap.size w w' := by
  have hn := hR.len
  have hcap := hR.le
  have hcm := hR.cm
  unfold maxLen at hcm
  have hin : i < n := by have := (List.getElem?_eq_some_iff.1 hi).1; omega
  have hL : w.cell? ⟨b, 13, none⟩ = some (.slice (some ⟨g, 0, none⟩) n cap) := T.at 13 rfl
  have hbw : b < w.heap.size := T.lt
  obtain ⟨c0, c1, c2, c3, c4, c5, c6⟩ := hR.cells i u hi
  have hu := U u (List.mem_of_getElem? hi)
  obtain ⟨hu0, hu1⟩ := hu
  obtain ⟨i0, hi0, z00, z01, z02⟩ := rinfo_parts rinfo_int
  have HI0 : Hid _ := hi0
  have Z00 : Hid _ := z00
  have Z01 : Hid _ := z01
  have Z02 : Hid _ := z02
  have HS : Hid (prs c us u (i + 1) u.ti [] = R) := by
    show _ = _
    rw [← hRR]
    unfold peersL
    rw [hi]
  have HR4 : Hid _ := hl4
  have HT : Hid _ := T
  have HRow : Hid _ := hR
  have HU : Hid _ := U
  have cI : Hid (∀ o : Obj, Calls Tryz.prog 211 #[.pointer (some ⟨b, 0, none⟩), .int .i64 u.pr] (w.alloc o) fun e w' => e = .returned (.int .i64 (c.idle u.pr)) ∧ w' = w.alloc o) := fun o => ridle_any (T.below ((Below.refl _ _).alloc (Nat.le_refl _) o)) u.pr
  clear T hi hR U hRR hl4 hi0 z00 z01 z02
  go_enter Tryz.func212, Tryz.ntmps212
  go_wp2_with fail
  refine Calls.mono (cI.out _) ?_; rintro e w' ⟨rfl, hw⟩; replace hw := hw.symm; subst hw
  obtain ⟨id, hid⟩ : ∃ id : Int, id = c.idle u.pr := ⟨_, rfl⟩
  rw [← hid]
  have HID : Hid _ := hid
  clear hid cI c0 c1 c2 c3 c4 c5 c6
  go_wp2
  clear hL
  go_loopw [5, 7, 9] (fun lv tv kv wr => ∃ (lw : Value) (l : List (Int × Int)) (t : Int) (j : Nat), lw = lv ∧ Hid (j ≤ i + 1) ∧ Hid (l.Nodup) ∧ 0 ≤ t ∧ t ≤ now ∧ tv = .int .i64 t ∧ ((j = 0 ∧ kv = .int .i64 (-1)) ∨ ∃ m : Nat, j = m + 1 ∧ kv = .int .i64 (m : Int)) ∧ Hid (prs c us u j t l = R) ∧ Hid (wr.ownsRow (w.heap.size + 1) 3 1 lw (flat l).length (ints (flat l))) ∧ Hid (Below w.heap.size w wr) ∧ Hid (wr.heap[w.heap.size]? = some (.cells #[.int .i64 u.pr, .int .i64 u.ad, .int .i64 u.po, .int .i64 u.ex, .int .i64 u.pa, .int .i64 u.pp, .int .i64 u.ti] 134 (0, 0)))) (fun _ _ i _ => (intOf i + 1).toNat)
  case atStart => exact ⟨_, [], u.ti, i + 1, rfl, Nat.le_refl _, List.nodup_nil, hu0, hu1, rfl, .inr ⟨i, rfl, rfl⟩, HS.out, World.ownsRow_nil _ _ _ _, (Below.refl _ _).alloc (Nat.le_refl _) _, alloc1 _ _⟩
  case round =>
    obtain ⟨lw, l, t, j, hlw, hj, hnd, ht0, ht1, rfl, hk, hp, how, hbel, hblk⟩ := hrel
    subst hlw
    rcases hk with ⟨rfl, rfl⟩ | ⟨m, rfl, rfl⟩
    · have e : Hid (l = R) := hp.out
      go_wp2
      go_ret
      exact ⟨_, rfl, by rw [← e.out]; exact how.out, hbel.out⟩
    · have TW : Hid _ := Rb.below HT.out hbel.out
      have hL : wr.cell? ⟨b, 13, none⟩ = some (.slice (some ⟨g, 0, none⟩) n cap) := TW.out.at 13 rfl
      have hmn : m < n := by have := hj.out; omega
      obtain ⟨v, hv⟩ : ∃ v, us[m]? = some v := ⟨us[m]'(by omega), by simp [hn, hmn]⟩
      obtain ⟨c0, c1, c2, c3, c4, c5, c6⟩ := (HRow.out.kept (hbel.out.block g HRow.out.lt)).cells m v hv
      obtain ⟨d0, d1, d2, d3, d4, d5, d6⟩ := cell7 hblk.out
      have hsz : w.heap.size < wr.heap.size := (Array.getElem?_eq_some_iff.1 hblk.out).1
      have hbb : b < wr.heap.size := TW.out.lt
      obtain ⟨hv0, hv1⟩ := HU.out v (List.mem_of_getElem? hv)
      have hp' := hp.out
      rw [prs, hv] at hp'
      simp only [] at hp'
      have HP : Hid _ := hp'
      clear hp' hp hv
      have nxt : Hid (∀ o : Obj, Hid (Below w.heap.size w (wr.alloc o)) ∧ Hid ((wr.alloc o).heap[w.heap.size]? = some (.cells #[.int .i64 u.pr, .int .i64 u.ad, .int .i64 u.po, .int .i64 u.ex, .int .i64 u.pa, .int .i64 u.pp, .int .i64 u.ti] 134 (0, 0))) ∧ Hid ((wr.alloc o).ownsRow (w.heap.size + 1) 3 1 lw (flat l).length (ints (flat l)))) := fun o =>
        ⟨hbel.out.alloc hbel.out.size o, (push_lt _ _ _ hsz).trans hblk.out, how.out.alloc o⟩
      have go : Hid (u.like v = false → prs c us u m t l = R) := fun q => by have := HP.out; rw [q] at this; exact this
      cases e1 : (v.pr != u.pr)
      · cases e2 : (v.ad != u.ad)
        · cases e3 : (v.po != u.po)
          · have hk : Hid (u.like v = true) := by show _ = _; simp at e1 e2 e3; simp [Us.like, e1, e2, e3]
            have hwr : IntKind.i64.wrap (t - v.ti) = t - v.ti := by rw [IntKind.wrap_i64]; omega
            by_cases q : id ≤ t - v.ti
            · have hfin : Hid (l = R) := by
                show _ = _
                have := HP.out
                rw [hk.out, if_pos rfl, if_pos (by rw [← HID.out]; exact q)] at this
                exact this
              go_wp2
              go_ret
              exact ⟨_, rfl, by rw [← hfin.out]; exact (nxt.out _).2.2.out, (nxt.out _).1.out⟩
            · have q' : t - v.ti < id := by omega
              have hgo : Hid (prs c us u m v.ti (if l.contains (v.pa, v.pp) then l else l ++ [(v.pa, v.pp)]) = R) := by
                show _ = _
                have := HP.out
                rw [hk.out, if_pos rfl, if_neg (by rw [← HID.out]; exact q)] at this
                exact this
              have hl4 : Hid ((if l.contains (v.pa, v.pp) then l else l ++ [(v.pa, v.pp)]).length ≤ 4) := by
                refine Nat.le_trans (nodup_le _ R (nodup_addp hnd.out) (fun y hy => ?_)) HR4.out
                rw [← hgo.out, prs_mem]
                exact .inl hy
              have hnd2 : Hid (if l.contains (v.pa, v.pp) then l else l ++ [(v.pa, v.pp)]).Nodup := nodup_addp hnd.out
              have hll : l.length ≤ 1000 := by
                have := hl4.out
                split at this
                · omega
                · rw [List.length_append] at this; omega
              have cA : Hid (∀ o : Obj, Calls Tryz.prog 225 #[lw, .int .i64 v.pa, .int .i64 v.pp] (wr.alloc o) fun e w' => e = .returned (.bool (l.contains (v.pa, v.pp))) ∧ w' = wr.alloc o) := fun o => ramong_any (nxt.out o).2.2.out hll v.pa v.pp
              clear q hll
              cases ql : l.contains (v.pa, v.pp)
              · rw [ql] at cA hgo hl4 hnd2
                simp only [Bool.false_eq_true, if_false] at hgo hl4 hnd2
                have cA1 := cA.out (.cells #[.int .i64 v.pr, .int .i64 v.ad, .int .i64 v.po, .int .i64 v.ex, .int .i64 v.pa, .int .i64 v.pp, .int .i64 v.ti] 134)
                have CA1 : Hid _ := cA1
                clear cA1 cA
                go_wp2_with fail
                refine Calls.mono CA1.out ?_; rintro e w' ⟨rfl, hw⟩; replace hw := hw.symm; subst hw
                obtain ⟨wa, hwa⟩ : ∃ wa, wa = wr.alloc (.cells #[.int .i64 v.pr, .int .i64 v.ad, .int .i64 v.po, .int .i64 v.ex, .int .i64 v.pa, .int .i64 v.pp, .int .i64 v.ti] 134) := ⟨_, rfl⟩
                have nx := nxt.out (.cells #[.int .i64 v.pr, .int .i64 v.ad, .int .i64 v.po, .int .i64 v.ex, .int .i64 v.pa, .int .i64 v.pp, .int .i64 v.ti] 134)
                rw [← hwa] at nx ⊢
                have hsa : w.heap.size < wa.heap.size := by rw [hwa]; simp; omega
                have A7 : Hid (wa.heap[wr.heap.size]? = some (.cells #[.int .i64 v.pr, .int .i64 v.ad, .int .i64 v.po, .int .i64 v.ex, .int .i64 v.pa, .int .i64 v.pp, .int .i64 v.ti] 134 (0, 0))) := by rw [hwa]; exact alloc1 _ _
                have hws : Hid (wr.heap.size < wa.heap.size) := by rw [hwa]; show _ < _; simp
                have hgl : ∀ gg, lw.ownBlock = some gg → w.heap.size + 1 ≤ gg ∧ gg < wr.heap.size := fun gg hg => own_lt1 how.out gg hg
                clear hwa
                have NX : Hid _ := nx
                have HGL : Hid _ := hgl
                clear nx hgl c0 c1 c2 c3 c4 c5 c6 d0 d1 d2 d3 d4 d5 d6 hL nxt
                obtain ⟨a0, a1, a2, a3, a4, a5, a6⟩ := cell7 A7.out
                have lf : Hid ((flat l).length ≤ 8) := by show _ ≤ _; rw [flat_len]; have := hl4.out; rw [List.length_append] at this; simp at this; omega
                have TM : Hid _ := NX.out.2.2.out.alloc (.cells #[.int .i64 v.pa] 3)
                have HA : Hid _ := alloc1 wa (.cells #[.int .i64 v.pa] 3)
                have SB : Hid (w.heap.size + 1 ≤ (wa.alloc (.cells #[.int .i64 v.pa] 3)).heap.size) := by show _ ≤ _; simp; omega
                go_wp2_with (first
                  | (at_builtin; refine wpList_append_lies _ rfl _ _ 26 rfl (w.heap.size + 1) 3 i0 (.int .i64 0) 1 8 Tryz.underlying26 HI0.out Z00.out Z01.out Z02.out rfl (by decide) _ _ _ rfl TM.out ⟨wa.heap.size, 0, none⟩ 1 1 [.int .i64 v.pa] rfl rfl (World.news_of_block HA.out) ?c2 (by decide) ?c3 ?c4 SB.out _ rfl ?_)
                  | go_in)
                case c2 => intro u hu; simp at hu; subst hu; rfl
                case c3 => have := lf.out; unfold maxLen; omega
                case c4 => have := lf.out; omega
                intro g1 cap1 w1 ho1 hg1 hl1 hz1
                have B1 : Hid (Below (w.heap.size + 1) (wa.alloc (.cells #[.int .i64 v.pa] 3)) w1) := rgrown_below hg1 (fun k hk => (HGL.out k hk).1) SB.out
                have A8 : Hid (w1.heap[wr.heap.size]? = some (.cells #[.int .i64 v.pr, .int .i64 v.ad, .int .i64 v.po, .int .i64 v.ex, .int .i64 v.pa, .int .i64 v.pp, .int .i64 v.ti] 134 (0, 0))) := (hg1.block wr.heap.size (by have := hws.out; simp; omega) (fun e => by have := (HGL.out _ e.symm).2; omega)).trans ((push_lt _ _ _ hws.out).trans A7.out)
                have C8 : Hid (w1.heap[w.heap.size]? = some (.cells #[.int .i64 u.pr, .int .i64 u.ad, .int .i64 u.po, .int .i64 u.ex, .int .i64 u.pa, .int .i64 u.pp, .int .i64 u.ti] 134 (0, 0))) := (B1.out.block w.heap.size (by omega)).trans ((push_lt _ _ _ hsa).trans NX.out.2.1.out)
                have D8 : Hid (Below w.heap.size w w1) := (NX.out.1.out.alloc (by omega) _).trans ((B1.out).mono (by omega))
                have O8 : Hid (w1.ownsRow (w.heap.size + 1) 3 1 (.slice (some ⟨g1, 0, none⟩) ((flat l).length + 1) cap1) ((flat l).length + 1) (ints (flat l) ++ [.int .i64 v.pa])) := ho1
                have L8 : Hid (∀ gg, (Value.slice (some ⟨g1, 0, none⟩) ((flat l).length + 1) cap1).ownBlock = some gg → w.heap.size + 1 ≤ gg ∧ gg ≠ wr.heap.size) := fun gg e => by
                  have e' : g1 = gg := by simpa [Value.ownBlock] using e
                  subst e'
                  refine ⟨(own_lt1 ho1 g1 rfl).1, fun q => ?_⟩
                  rcases hl1 with k | k
                  · have := (HGL.out g1 k).2; omega
                  · have := hws.out; omega
                have hs1 : w.heap.size < w1.heap.size := (Array.getElem?_eq_some_iff.1 C8.out).1
                have hs2 : wr.heap.size < w1.heap.size := (Array.getElem?_eq_some_iff.1 A8.out).1
                clear ho1 hg1 hl1 hz1 TM HA SB B1 NX a0 a1 a2 a3 a4 a5 a6 A7 hsa hws HGL
                obtain ⟨a0, a1, a2, a3, a4, a5, a6⟩ := cell7 A8.out
                have TM : Hid _ := O8.out.alloc (.cells #[.int .i64 v.pp] 3)
                have HA : Hid _ := alloc1 w1 (.cells #[.int .i64 v.pp] 3)
                have SB : Hid (w.heap.size + 1 ≤ (w1.alloc (.cells #[.int .i64 v.pp] 3)).heap.size) := by show _ ≤ _; simp; omega
                go_wp2_with (first
                  | (at_builtin; refine wpList_append_lies _ rfl _ _ 26 rfl (w.heap.size + 1) 3 i0 (.int .i64 0) 1 8 Tryz.underlying26 HI0.out Z00.out Z01.out Z02.out rfl (by decide) _ _ _ rfl TM.out ⟨w1.heap.size, 0, none⟩ 1 1 [.int .i64 v.pp] rfl rfl (World.news_of_block HA.out) ?c2 (by decide) ?c3 ?c4 SB.out _ rfl ?_)
                  | go_in)
                case c2 => intro u hu; simp at hu; subst hu; rfl
                case c3 => have := lf.out; unfold maxLen; omega
                case c4 => have := lf.out; omega
                intro g2 cap2 w2 ho2 hg2 hl2 hz2
                have B2 : Hid (Below (w.heap.size + 1) (w1.alloc (.cells #[.int .i64 v.pp] 3)) w2) := rgrown_below hg2 (fun k hk => (L8.out k hk).1) SB.out
                have C9 : Hid (w2.heap[w.heap.size]? = some (.cells #[.int .i64 u.pr, .int .i64 u.ad, .int .i64 u.po, .int .i64 u.ex, .int .i64 u.pa, .int .i64 u.pp, .int .i64 u.ti] 134 (0, 0))) := (B2.out.block w.heap.size (by omega)).trans ((push_lt _ _ _ hs1).trans C8.out)
                have D9 : Hid (Below w.heap.size w w2) := (D8.out.alloc (by omega) _).trans ((B2.out).mono (by omega))
                have O9 : Hid (w2.ownsRow (w.heap.size + 1) 3 1 (.slice (some ⟨g2, 0, none⟩) ((flat l).length + 1 + 1) cap2) (flat (l ++ [(v.pa, v.pp)])).length (ints (flat (l ++ [(v.pa, v.pp)])))) := by
                  have e1 : (flat (l ++ [(v.pa, v.pp)])).length = (flat l).length + 1 + 1 := by rw [flat_len, flat_len, List.length_append]; simp; omega
                  have e2 : ints (flat (l ++ [(v.pa, v.pp)])) = ints (flat l) ++ [.int .i64 v.pa, .int .i64 v.pp] := by rw [flat_app]; simp [ints]
                  rw [e1, e2]
                  exact ho2
                clear ho2 hg2 hl2 hz2 TM HA SB B2 a0 a1 a2 a3 a4 a5 a6 A8 C8 D8 O8 L8
                go_wp2
                go_round
                case rel =>
                  refine ⟨_, l ++ [(v.pa, v.pp)], v.ti, m, rfl, by show _ ≤ _; have := hj.out; omega, hnd2, hv0, hv1, rfl, ?_, hgo, O9, D9, C9⟩
                  cases m with
                  | zero => exact .inl ⟨rfl, by simp⟩
                  | succ m => exact .inr ⟨m, rfl, by simp⟩
                case measure =>
                  cases m with
                  | zero => simp [intOf]
                  | succ m => simp [intOf] <;> omega
              · rw [ql] at cA hgo hl4 hnd2
                simp only [if_true] at hgo hl4 hnd2
                have cA1 := cA.out (.cells #[.int .i64 v.pr, .int .i64 v.ad, .int .i64 v.po, .int .i64 v.ex, .int .i64 v.pa, .int .i64 v.pp, .int .i64 v.ti] 134)
                have CA1 : Hid _ := cA1
                clear cA1 cA
                go_wp2_with fail
                refine Calls.mono CA1.out ?_; rintro e w' ⟨rfl, hw⟩; replace hw := hw.symm; subst hw
                go_wp2
                go_round
                case rel =>
                  refine ⟨_, l, v.ti, m, rfl, by show _ ≤ _; have := hj.out; omega, hnd2, hv0, hv1, rfl, ?_, hgo, (nxt.out _).2.2, (nxt.out _).1, (nxt.out _).2.1⟩
                  cases m with
                  | zero => exact .inl ⟨rfl, by simp⟩
                  | succ m => exact .inr ⟨m, rfl, by simp⟩
                case measure =>
                  cases m with
                  | zero => simp [intOf]
                  | succ m => simp [intOf] <;> omega
          · have hk : Hid (u.like v = false) := by show _ = _; simp at e3; simp [Us.like, e3]
            go_wp2
            go_round
            case rel =>
              refine ⟨_, l, t, m, rfl, by show _ ≤ _; have := hj.out; omega, hnd, ht0, ht1, rfl, ?_, go.out hk.out, (nxt.out _).2.2, (nxt.out _).1, (nxt.out _).2.1⟩
              cases m with
              | zero => exact .inl ⟨rfl, by simp⟩
              | succ m => exact .inr ⟨m, rfl, by simp⟩
            case measure =>
              cases m with
              | zero => simp [intOf]
              | succ m => simp [intOf] <;> omega
        · have hk : Hid (u.like v = false) := by show _ = _; simp at e2; simp [Us.like, e2]
          go_wp2
          go_round
          case rel =>
            refine ⟨_, l, t, m, rfl, by show _ ≤ _; have := hj.out; omega, hnd, ht0, ht1, rfl, ?_, go.out hk.out, (nxt.out _).2.2, (nxt.out _).1, (nxt.out _).2.1⟩
            cases m with
            | zero => exact .inl ⟨rfl, by simp⟩
            | succ m => exact .inr ⟨m, rfl, by simp⟩
          case measure =>
            cases m with
            | zero => simp [intOf]
            | succ m => simp [intOf] <;> omega
      · have hk : Hid (u.like v = false) := by show _ = _; simp at e1; simp [Us.like, e1]
        go_wp2
        go_round
        case rel =>
          refine ⟨_, l, t, m, rfl, by show _ ≤ _; have := hj.out; omega, hnd, ht0, ht1, rfl, ?_, go.out hk.out, (nxt.out _).2.2, (nxt.out _).1, (nxt.out _).2.1⟩
          cases m with
          | zero => exact .inl ⟨rfl, by simp⟩
          | succ m => exact .inr ⟨m, rfl, by simp⟩
        case measure =>
          cases m with
          | zero => simp [intOf]
          | succ m => simp [intOf] <;> omega
theorem rpeers_any {w : World} {base b : Nat} {c : Cf} {now : Int} {us : List Us} {own : List Int} {uv ov : Value} (T : Rb w base b c now us own uv ov) (U : Uok now us) (t2 : now ≤ 1099511627776) (i : Nat) (u : Us) (hi : us[i]? = some u) (hl4 : (peersL c us i).length ≤ 4) :
    Calls Tryz.prog 212 #[.pointer (some ⟨b, 0, none⟩), .int .i64 (i : Int)] w fun e w' => ∃ lv, e = .returned lv ∧ w'.ownsRow (w.heap.size + 1) 3 1 lv (flat (peersL c us i)).length (ints (flat (peersL c us i))) ∧ Below w.heap.size w w' := by
  rcases T.ur.cases with ⟨rfl, rfl⟩ | ⟨g, n, cap, rfl, hr⟩
  · simp at hi
  · exact rpeers_in b base g n cap i c now us own ov u w T hr U t2 hi _ rfl hl4
end Go.Proofs.YthiljpbodmajaabGreat
