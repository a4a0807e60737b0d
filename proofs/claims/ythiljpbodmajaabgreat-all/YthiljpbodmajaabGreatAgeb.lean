/-
  CONTRACTS: package mappings: insert, into any table.
-/
import Derived.Test.YthiljpbodmajaabGreatOpnt
import Derived.Test.YthiljpbodmajaabGreatPlain
import Derived.Deep.RegionHeld
import Derived.Deep.DeepCutAuto
import Derived.Test.YthiljpbodmajaabGreatBoxw
namespace Go.Proofs.YthiljpbodmajaabGreat
open Go.RowKit Plain
set_option linter.unusedVariables false

theorem Row.rowin {w : World} {base g n cap : Nat} {ms : List Mp} (h : Row w base (.slice (some ⟨g, 0, none⟩) n cap) ms) : RowIn w base g n cap ms := by
  rcases h.cases with ⟨e, _⟩ | ⟨g2, n2, cap2, e, hr⟩
  · cases e
  · cases e; exact hr
theorem setCells_os (g : Nat) : ∀ (vs : List Value) (o : Nat) (w : World), (w.setCells g o vs).os = w.os
  | [], _, _ => rfl
  | v :: r, o, w => by rw [World.setCells, setCells_os g r (o + 1)]; rfl
theorem setCells_tape (g : Nat) : ∀ (vs : List Value) (o : Nat) (w : World), (w.setCells g o vs).tape = w.tape
  | [], _, _ => rfl
  | v :: r, o, w => by rw [World.setCells, setCells_tape g r (o + 1)]; rfl
theorem setCells_output (g : Nat) : ∀ (vs : List Value) (o : Nat) (w : World), (w.setCells g o vs).output = w.output
  | [], _, _ => rfl
  | v :: r, o, w => by rw [World.setCells, setCells_output g r (o + 1)]; rfl
theorem Left.setrow {w w1 : World} {base b o g n cap : Nat} {ty : TypeId} {cur : Array Value} {v : Value} {L : List Mp} (h : Left w w1 base b o ty cur v (.slice (some ⟨g, 0, none⟩) n cap) L) (k : Nat) (hk : k < n) (x : Mp) :
    Left w (w1.setCells g (k * 14) (mpl x)) base b o ty cur v (.slice (some ⟨g, 0, none⟩) n cap) (L.set k x) := by
  have hne : g ≠ b := fun e => h.tb.ne (by simp [Value.ownBlock, e])
  refine ⟨⟨?_, h.tb.at3, (h.tb.row.rowin.set k x hk).row, h.tb.ne, by rw [size_setCells]; exact h.tb.bs⟩, h.own, ?_⟩
  · rw [heap_setCells_other g _ _ _ b (Ne.symm hne)]; exact h.tb.blk
  · refine ⟨?_, ?_, ?_, by rw [size_setCells]; exact h.chg.size, fun j hj h1 h2 => ?_⟩
    · rw [setCells_os]; exact h.chg.os
    · rw [setCells_tape]; exact h.chg.tape
    · rw [setCells_output]; exact h.chg.output
    · have hg : j ≠ g := fun e => by
        rcases h.own g (by simp [Value.ownBlock]) with e2 | e2
        · exact h2 (by rw [e]; exact e2)
        · omega
      rw [heap_setCells_other g _ _ _ j hg]; exact h.chg.block j hj h1 h2
theorem setCells14 (w : World) (g o : Nat) (x : Mp) : w.setCells g o (mpl x) = ((((((((((((((w.setCell ⟨g, o, none⟩ (.int .i64 x.pr)).setCell ⟨g, o + 1, none⟩ (.int .i64 x.ea)).setCell ⟨g, o + 2, none⟩ (.int .i64 x.ep)).setCell ⟨g, o + 3, none⟩ (.int .i64 x.ex)).setCell ⟨g, o + 4, none⟩ (.int .i64 x.le)).setCell ⟨g, o + 5, none⟩ (.int .i64 x.q0)).setCell ⟨g, o + 6, none⟩ (.int .i64 x.r0)).setCell ⟨g, o + 7, none⟩ (.int .i64 x.q1)).setCell ⟨g, o + 8, none⟩ (.int .i64 x.r1)).setCell ⟨g, o + 9, none⟩ (.int .i64 x.q2)).setCell ⟨g, o + 10, none⟩ (.int .i64 x.r2)).setCell ⟨g, o + 11, none⟩ (.int .i64 x.q3)).setCell ⟨g, o + 12, none⟩ (.int .i64 x.r3)).setCell ⟨g, o + 13, none⟩ (.int .i64 x.kn)) := rfl
theorem left_drew {w w' : World} {base b o : Nat} {ty : TypeId} {cur : Array Value} {v v' : Value} {ms' : List Mp} (h : Left w w' base b o ty cur v v' ms') : Left w w'.drew base b o ty cur v v' ms' :=
  ⟨⟨h.tb.blk, h.tb.at3, h.tb.row, h.tb.ne, h.tb.bs⟩, h.own, ⟨h.chg.os, h.chg.tape, h.chg.output, h.chg.size, h.chg.block⟩⟩
theorem heap_drew (w : World) : w.drew.heap = w.heap := rfl
theorem left_own {w w1 : World} {base b o g n cap : Nat} {ty : TypeId} {cur : Array Value} {v : Value} {L : List Mp} (h : Left w w1 base b o ty cur v (.slice (some ⟨g, 0, none⟩) n cap) L) (k : Nat) (x : Mp) (hx : L[k]? = some x) :
    RowIn w1 base g n cap L ∧ k < n ∧ (∀ q, w1.frozen? ⟨g, q, none⟩ = false) ∧ w1.cell? ⟨b, o + 3, none⟩ = some (.slice (some ⟨g, 0, none⟩) n cap) := by
  have hr := h.tb.row.rowin
  obtain ⟨c, h1, h2, h3⟩ := hr.blk
  refine ⟨hr, by rw [← hr.len]; exact (List.getElem?_eq_some_iff.1 hx).1, fun q => nofrz h1 q, h.tb.cell⟩
set_option maxHeartbeats 8000000 in
theorem insert_any (b o base : Nat) (ty : TypeId) (cur : Array Value) (m : Mp) (v : Value) (ms : List Mp) (w : World) (T : Tb w base b o ty cur v ms) (hz : ms.length ≤ 63) :
    Calls Tryz.prog 224 #[.pointer (some ⟨b, o, none⟩), mpv m] w fun e w' => e = .returned (.tuple #[]) ∧ ∃ v', Left w w' base b o ty cur v v' (ins m ms) := by
  obtain ⟨i0, j1, j2, j3, z, j4, j5⟩ := infoMap
  have hb : b < w.heap.size := T.lt
  have hL := T.cell
  have hf := T.frz (o + 3)
  have hB := T.bs
  have hne : Hid _ := T.ne
  have J : Hid _ := And.intro j1 (And.intro j2 (And.intro j3 (And.intro j4 j5)))
  clear j1 j2 j3 j4 j5
  have HR : Hid (w.ownsRow base 116 14 v ms.length (rowOf ms)) := T.row
  have HT : Hid _ := T
  clear T
  have cB : ∀ x, RetB 231 #[mpv m, mpv x] (.bool (m.before x)) := fun x w => isBefore_any m x w
  have CB : Hid _ := cB
  have hmo : Hid (v.ownBlock ≠ some w.heap.size) := fun e => by have := HT.out.own_lt _ e; omega
  clear cB
  obtain ⟨n, hn⟩ : ∃ n : Nat, ms.length = n := ⟨_, rfl⟩
  have HN : Hid (ms.length = n) := hn
  rw [hn] at hz HR
  clear hn
  unfold mpv at CB ⊢
  go_enter Tryz.func224, Tryz.ntmps224
  go_upto_region 1 with fail
  go_cut [] (fun wx => ∃ g' cap', Hid (Left w wx base b o ty cur v (.slice (some ⟨g', 0, none⟩) (n + 1) cap') (ms ++ [m])) ∧ wx.heap[w.heap.size]? = some (.cells #[.int .i64 m.pr, .int .i64 m.ea, .int .i64 m.ep, .int .i64 m.ex, .int .i64 m.le, .int .i64 m.q0, .int .i64 m.r0, .int .i64 m.q1, .int .i64 m.r1, .int .i64 m.q2, .int .i64 m.r2, .int .i64 m.q3, .int .i64 m.r3, .int .i64 m.kn] 116 (0, 0)) ∧ g' ≠ w.heap.size)
  case first =>
    go_region_law (
      refine step_append_lies _ rfl (.tmp 9) (.tmp 11) 76 rfl base 116 i0 z 14 112 (by kernel_rfl) J.out.1 J.out.2.2.2.1 J.out.2.1 J.out.2.2.1 J.out.2.2.2.2 (by decide) v n (rowOf ms) (by simp [Act.eval])
        (World.ownsRow.alloc (World.ownsRow.alloc HR.out _) _) ⟨w.heap.size + 1, 0, none⟩ 1 1 (mpl m) (by simp [Act.eval]) rfl (cells_add (alloc2 w _ _).2) (mpl_one m) (by decide) (by unfold maxLen; omega) (by omega) (by simp; omega) (w.heap.size + 2) (by simp) ?_
      intro g' cap' w1 hown hgrow hat hlt1
      have hr' : RowIn w1 base g' (n + 1) cap' (ms ++ [m]) := own_in HN.out hown
      have hL1 : w1.cell? ⟨b, o + 3, none⟩ = some v := hgrow.cell (a := ⟨b, o + 3, none⟩) ((Below.cell (p := ⟨b, o + 3, none⟩) (((Below.refl w.heap.size w).alloc (Nat.le_refl _) _).alloc (by simp) _).drew hb).trans hL) (fun e => hne.out e.symm)
      have hf1 : w1.frozen? ⟨b, o + 3, none⟩ = false := (World.frozen?_of_block (hgrow.block b (by simp; omega) (fun e => hne.out e.symm))).trans ((Below.frozen (p := ⟨b, o + 3, none⟩) (((Below.refl w.heap.size w).alloc (Nat.le_refl _) _).alloc (by simp) _).drew hb).trans hf)
      have hm1 : w1.heap[w.heap.size]? = some (.cells #[.int .i64 m.pr, .int .i64 m.ea, .int .i64 m.ep, .int .i64 m.ex, .int .i64 m.le, .int .i64 m.q0, .int .i64 m.r0, .int .i64 m.q1, .int .i64 m.r1, .int .i64 m.q2, .int .i64 m.r2, .int .i64 m.q3, .int .i64 m.r3, .int .i64 m.kn] 116 (0, 0)) := (hgrow.block w.heap.size (by simp; omega) (fun e => hmo.out e.symm)).trans (alloc2 w _ _).1
      have hgm : g' ≠ w.heap.size := by
        rcases hat with h | h
        · have := HT.out.own_lt _ h; omega
        · omega
      have HO : Hid _ := left_of HT.out (((Below.refl w.heap.size w).alloc (Nat.le_refl _) _).alloc (by simp) _).drew hgrow hat hr'
      clear hown hgrow hr' hlt1)
    all_goals
      go_wp2_with fail
      go_meet
      exact ⟨g', cap', HO.out, (Below.heap_setCell w1 _ _ _ (by simp; omega)).trans hm1, hgm⟩
  case rest =>
    obtain ⟨g', cap', HO, hm1, hgm⟩ := hcut
    have HG : Hid _ := hgm
    clear hgm
    have hLc := HO.out.tb.cell
    clear hL hf
    go_wp2
    go_loopw [4] (fun i wr => ∃ K : Nat, i = .int .i64 (K : Int) ∧ K ≤ n ∧ Hid (Left w wr base b o ty cur v (.slice (some ⟨g', 0, none⟩) (n + 1) cap') (lst m ms K)) ∧ wr.heap[w.heap.size]? = some (.cells #[.int .i64 m.pr, .int .i64 m.ea, .int .i64 m.ep, .int .i64 m.ex, .int .i64 m.le, .int .i64 m.q0, .int .i64 m.r0, .int .i64 m.q1, .int .i64 m.r1, .int .i64 m.q2, .int .i64 m.r2, .int .i64 m.q3, .int .i64 m.r3, .int .i64 m.kn] 116 (0, 0)) ∧ Hid (∀ j x, K ≤ j → ms[j]? = some x → m.before x = true)) (fun i _ => (intOf i).toNat)
    case atStart =>
      refine ⟨n, by go_num, Nat.le_refl _, ?_, hm1, fun j x hj hx => ?_⟩
      · rw [← HN.out, lst_end, HN.out]; exact HO.out
      · have := (List.getElem?_eq_some_iff.1 hx).1; have := HN.out; omega
    case round =>
      obtain ⟨K, rfl, hK, hl, hm, hall⟩ := hrel
      by_cases h0 : K = 0
      · subst h0
        have hd : decide ((0 : Int) > 0) = false := by decide
        have he : Hid (ins m ms = lst m ms 0) := ins_at m ms 0 (by omega) hall.out (.inl rfl)
        clear hm
        go_wp2
        go_quiet (fail)
        go_wp2
        go_end0
        exact ⟨rfl, _, by rw [he.out]; exact left_drewN hl.out _⟩
      · obtain ⟨k, rfl⟩ : ∃ k : Nat, K = k + 1 := ⟨K - 1, by omega⟩
        have hK0 : (0 : Int) < (k : Int) + 1 := by omega
        have hkn : k < n + 1 := by omega
        have hkn2 : k ≤ n := by omega
        have hkI : (k : Int) < (n : Int) + 1 := by omega
        have hwk : IntKind.i64.wrap (k : Int) = (k : Int) := by rw [IntKind.wrap_i64]; omega
        have hKn : k + 1 < n + 1 := by omega
        obtain ⟨x, hx⟩ : ∃ x, ms[k]? = some x := ⟨ms[k]'(by have := HN.out; omega), by simp [show k < ms.length by have := HN.out; omega]⟩
        obtain ⟨hr, _, hfg, hLr⟩ := left_own hl.out k x (lst_at m ms k x hx)
        obtain ⟨c0, c1, c2, c3, c4, c5, c6, c7, c8, c9, c10, c11, c12, c13⟩ := hr.cells k x (lst_at m ms k x hx)
        obtain ⟨d0, d1, d2, d3, d4, d5, d6, d7, d8, d9, d10, d11, d12, d13⟩ := cell14 hm
        have hgl : g' < wr.heap.size := hr.lt
        have hml : w.heap.size < wr.heap.size := (Array.getElem?_eq_some_iff.1 hm).1
        have hbl : b < wr.heap.size := by omega
        have qL : ∀ wz, Below wr.heap.size wr wz → wz.cell? ⟨b, o + 3, none⟩ = some (.slice (some ⟨g', 0, none⟩) (n + 1) cap') := fun wz hz => (hz.cell (p := ⟨b, o + 3, none⟩) hbl).trans hLr
        have q0 : ∀ wz, Below wr.heap.size wr wz → wz.cell? ⟨g', k * 14, none⟩ = some (.int .i64 x.pr) := fun wz hz => (hz.cell (p := ⟨g', k * 14, none⟩) hgl).trans c0
        have q1 : ∀ wz, Below wr.heap.size wr wz → wz.cell? ⟨g', k * 14 + 1, none⟩ = some (.int .i64 x.ea) := fun wz hz => (hz.cell (p := ⟨g', k * 14 + 1, none⟩) hgl).trans c1
        have q2 : ∀ wz, Below wr.heap.size wr wz → wz.cell? ⟨g', k * 14 + 2, none⟩ = some (.int .i64 x.ep) := fun wz hz => (hz.cell (p := ⟨g', k * 14 + 2, none⟩) hgl).trans c2
        have q3 : ∀ wz, Below wr.heap.size wr wz → wz.cell? ⟨g', k * 14 + 3, none⟩ = some (.int .i64 x.ex) := fun wz hz => (hz.cell (p := ⟨g', k * 14 + 3, none⟩) hgl).trans c3
        have q4 : ∀ wz, Below wr.heap.size wr wz → wz.cell? ⟨g', k * 14 + 4, none⟩ = some (.int .i64 x.le) := fun wz hz => (hz.cell (p := ⟨g', k * 14 + 4, none⟩) hgl).trans c4
        have q5 : ∀ wz, Below wr.heap.size wr wz → wz.cell? ⟨g', k * 14 + 5, none⟩ = some (.int .i64 x.q0) := fun wz hz => (hz.cell (p := ⟨g', k * 14 + 5, none⟩) hgl).trans c5
        have q6 : ∀ wz, Below wr.heap.size wr wz → wz.cell? ⟨g', k * 14 + 6, none⟩ = some (.int .i64 x.r0) := fun wz hz => (hz.cell (p := ⟨g', k * 14 + 6, none⟩) hgl).trans c6
        have q7 : ∀ wz, Below wr.heap.size wr wz → wz.cell? ⟨g', k * 14 + 7, none⟩ = some (.int .i64 x.q1) := fun wz hz => (hz.cell (p := ⟨g', k * 14 + 7, none⟩) hgl).trans c7
        have q8 : ∀ wz, Below wr.heap.size wr wz → wz.cell? ⟨g', k * 14 + 8, none⟩ = some (.int .i64 x.r1) := fun wz hz => (hz.cell (p := ⟨g', k * 14 + 8, none⟩) hgl).trans c8
        have q9 : ∀ wz, Below wr.heap.size wr wz → wz.cell? ⟨g', k * 14 + 9, none⟩ = some (.int .i64 x.q2) := fun wz hz => (hz.cell (p := ⟨g', k * 14 + 9, none⟩) hgl).trans c9
        have q10 : ∀ wz, Below wr.heap.size wr wz → wz.cell? ⟨g', k * 14 + 10, none⟩ = some (.int .i64 x.r2) := fun wz hz => (hz.cell (p := ⟨g', k * 14 + 10, none⟩) hgl).trans c10
        have q11 : ∀ wz, Below wr.heap.size wr wz → wz.cell? ⟨g', k * 14 + 11, none⟩ = some (.int .i64 x.q3) := fun wz hz => (hz.cell (p := ⟨g', k * 14 + 11, none⟩) hgl).trans c11
        have q12 : ∀ wz, Below wr.heap.size wr wz → wz.cell? ⟨g', k * 14 + 12, none⟩ = some (.int .i64 x.r3) := fun wz hz => (hz.cell (p := ⟨g', k * 14 + 12, none⟩) hgl).trans c12
        have q13 : ∀ wz, Below wr.heap.size wr wz → wz.cell? ⟨g', k * 14 + 13, none⟩ = some (.int .i64 x.kn) := fun wz hz => (hz.cell (p := ⟨g', k * 14 + 13, none⟩) hgl).trans c13
        have p0 : ∀ wz, Below wr.heap.size wr wz → wz.cell? ⟨w.heap.size, 0, none⟩ = some (.int .i64 m.pr) := fun wz hz => (hz.cell (p := ⟨w.heap.size, 0, none⟩) hml).trans d0
        have p1 : ∀ wz, Below wr.heap.size wr wz → wz.cell? ⟨w.heap.size, 1, none⟩ = some (.int .i64 m.ea) := fun wz hz => (hz.cell (p := ⟨w.heap.size, 1, none⟩) hml).trans d1
        have p2 : ∀ wz, Below wr.heap.size wr wz → wz.cell? ⟨w.heap.size, 2, none⟩ = some (.int .i64 m.ep) := fun wz hz => (hz.cell (p := ⟨w.heap.size, 2, none⟩) hml).trans d2
        have p3 : ∀ wz, Below wr.heap.size wr wz → wz.cell? ⟨w.heap.size, 3, none⟩ = some (.int .i64 m.ex) := fun wz hz => (hz.cell (p := ⟨w.heap.size, 3, none⟩) hml).trans d3
        have p4 : ∀ wz, Below wr.heap.size wr wz → wz.cell? ⟨w.heap.size, 4, none⟩ = some (.int .i64 m.le) := fun wz hz => (hz.cell (p := ⟨w.heap.size, 4, none⟩) hml).trans d4
        have p5 : ∀ wz, Below wr.heap.size wr wz → wz.cell? ⟨w.heap.size, 5, none⟩ = some (.int .i64 m.q0) := fun wz hz => (hz.cell (p := ⟨w.heap.size, 5, none⟩) hml).trans d5
        have p6 : ∀ wz, Below wr.heap.size wr wz → wz.cell? ⟨w.heap.size, 6, none⟩ = some (.int .i64 m.r0) := fun wz hz => (hz.cell (p := ⟨w.heap.size, 6, none⟩) hml).trans d6
        have p7 : ∀ wz, Below wr.heap.size wr wz → wz.cell? ⟨w.heap.size, 7, none⟩ = some (.int .i64 m.q1) := fun wz hz => (hz.cell (p := ⟨w.heap.size, 7, none⟩) hml).trans d7
        have p8 : ∀ wz, Below wr.heap.size wr wz → wz.cell? ⟨w.heap.size, 8, none⟩ = some (.int .i64 m.r1) := fun wz hz => (hz.cell (p := ⟨w.heap.size, 8, none⟩) hml).trans d8
        have p9 : ∀ wz, Below wr.heap.size wr wz → wz.cell? ⟨w.heap.size, 9, none⟩ = some (.int .i64 m.q2) := fun wz hz => (hz.cell (p := ⟨w.heap.size, 9, none⟩) hml).trans d9
        have p10 : ∀ wz, Below wr.heap.size wr wz → wz.cell? ⟨w.heap.size, 10, none⟩ = some (.int .i64 m.r2) := fun wz hz => (hz.cell (p := ⟨w.heap.size, 10, none⟩) hml).trans d10
        have p11 : ∀ wz, Below wr.heap.size wr wz → wz.cell? ⟨w.heap.size, 11, none⟩ = some (.int .i64 m.q3) := fun wz hz => (hz.cell (p := ⟨w.heap.size, 11, none⟩) hml).trans d11
        have p12 : ∀ wz, Below wr.heap.size wr wz → wz.cell? ⟨w.heap.size, 12, none⟩ = some (.int .i64 m.r3) := fun wz hz => (hz.cell (p := ⟨w.heap.size, 12, none⟩) hml).trans d12
        have p13 : ∀ wz, Below wr.heap.size wr wz → wz.cell? ⟨w.heap.size, 13, none⟩ = some (.int .i64 m.kn) := fun wz hz => (hz.cell (p := ⟨w.heap.size, 13, none⟩) hml).trans d13
        have HX : Hid _ := hx
        have HRr : Hid _ := hr
        have HM : Hid _ := hm
        have cB := CB.out x
        have B0 : Hid (Below wr.heap.size wr wr.drew) := (Below.refl _ _).drew
        clear hx hr h0 hm c0 c1 c2 c3 c4 c5 c6 c7 c8 c9 c10 c11 c12 c13 d0 d1 d2 d3 d4 d5 d6 d7 d8 d9 d10 d11 d12 d13 hLr
        cases hbf : m.before x
        · rw [hbf] at cB
          have he : Hid (ins m ms = lst m ms (k + 1)) := ins_at m ms (k + 1) (by have := HN.out; omega) hall.out (.inr ⟨x, HX.out, hbf⟩)
          clear hbf
          go_wp2
          go_region_held (fun w' => Below wr.heap.size wr w') (first | (with_reducible assumption) | (with_reducible exact B0.out)) (first | (go_at_call 231; refine Calls.mono (cB.at _) ?_; rintro e w2 ⟨rfl, hb2⟩; have hb3 := Below.trans (a := wr) (by with_reducible assumption) (hb2.mono (Below.size (by with_reducible assumption))); have HB2 : Hid _ := hb3))
          all_goals
            go_wp2
            go_end0
            exact ⟨rfl, _, by rw [he.out]; exact hl.out.grow hb HB2.out⟩
        · rw [hbf] at cB
          have hall' : Hid (∀ j y, k ≤ j → ms[j]? = some y → m.before y = true) := fun j y hj hy => by
            by_cases e : j = k
            · subst e; rw [HX.out] at hy; cases hy; exact hbf
            · exact hall.out j y (by omega) hy
          clear hbf
          go_wp2
          go_region_held (fun w' => Below wr.heap.size wr w') (first | (with_reducible assumption) | (with_reducible exact B0.out)) (first | (go_at_call 231; refine Calls.mono (cB.at _) ?_; rintro e w2 ⟨rfl, hb2⟩; have hb3 := Below.trans (a := wr) (by with_reducible assumption) (hb2.mono (Below.size (by with_reducible assumption))); have HB2 : Hid _ := hb3))
          have L2 : Hid (Left w w2 base b o ty cur v (.slice (some ⟨g', 0, none⟩) (n + 1) cap') (lst m ms (k + 1))) := hl.out.grow hb HB2.out
          have m2 : w2.heap[w.heap.size]? = some (.cells #[.int .i64 m.pr, .int .i64 m.ea, .int .i64 m.ep, .int .i64 m.ex, .int .i64 m.le, .int .i64 m.q0, .int .i64 m.r0, .int .i64 m.q1, .int .i64 m.r1, .int .i64 m.q2, .int .i64 m.r2, .int .i64 m.q3, .int .i64 m.r3, .int .i64 m.kn] 116 (0, 0)) := (HB2.out.block _ hml).trans HM.out
          obtain ⟨hr2, _, hf2, hL2⟩ := left_own L2.out k x (lst_at m ms k x HX.out)
          obtain ⟨c0, c1, c2, c3, c4, c5, c6, c7, c8, c9, c10, c11, c12, c13⟩ := hr2.cells k x (lst_at m ms k x HX.out)
          obtain ⟨e0, e1, e2, e3, e4, e5, e6, e7, e8, e9, e10, e11, e12, e13⟩ := hr2.cells (k + 1) m (lst_new m ms k x HX.out)
          have HM2 : Hid _ := m2
          clear hr2 m2 q0 q1 q2 q3 q4 q5 q6 q7 q8 q9 q10 q11 q12 q13 p0 p1 p2 p3 p4 p5 p6 p7 p8 p9 p10 p11 p12 p13 qL cB hb2 hb3
          go_wp2
          go_region
          rw [← setCells14 w2 g' ((k + 1) * 14) x]
          generalize hw3 : (w2.setCells g' ((k + 1) * 14) (mpl x)).drew = w3
          have L3 : Hid (Left w w3 base b o ty cur v (.slice (some ⟨g', 0, none⟩) (n + 1) cap') ((lst m ms (k + 1)).set (k + 1) x)) := by
            rw [← hw3]; exact left_drew (L2.out.setrow (k + 1) hKn x)
          have m3 : w3.heap[w.heap.size]? = some (.cells #[.int .i64 m.pr, .int .i64 m.ea, .int .i64 m.ep, .int .i64 m.ex, .int .i64 m.le, .int .i64 m.q0, .int .i64 m.r0, .int .i64 m.q1, .int .i64 m.r1, .int .i64 m.q2, .int .i64 m.r2, .int .i64 m.q3, .int .i64 m.r3, .int .i64 m.kn] 116 (0, 0)) := by
            rw [← hw3, heap_drew, heap_setCells_other g' (mpl x) ((k + 1) * 14) w2 w.heap.size (Ne.symm HG.out)]; exact HM2.out
          clear hw3 c0 c1 c2 c3 c4 c5 c6 c7 c8 c9 c10 c11 c12 c13 e0 e1 e2 e3 e4 e5 e6 e7 e8 e9 e10 e11 e12 e13 hf2 hL2
          have hx3 : ((lst m ms (k + 1)).set (k + 1) x)[k]? = some x := by rw [List.getElem?_set_ne (by omega)]; exact lst_at m ms k x HX.out
          obtain ⟨hr3, _, hf3, hL3⟩ := left_own L3.out k x hx3
          obtain ⟨c0, c1, c2, c3, c4, c5, c6, c7, c8, c9, c10, c11, c12, c13⟩ := hr3.cells k x hx3
          obtain ⟨d0, d1, d2, d3, d4, d5, d6, d7, d8, d9, d10, d11, d12, d13⟩ := cell14 m3
          have HM3 : Hid _ := m3
          clear hr3 m3 hx3
          go_wp2
          go_region
          rw [← setCells14 w3 g' (k * 14) m]
          generalize hw4 : (w3.setCells g' (k * 14) (mpl m)).drew = w4
          have L4 : Hid (Left w w4 base b o ty cur v (.slice (some ⟨g', 0, none⟩) (n + 1) cap') (lst m ms k)) := by
            rw [← hw4, ← lst_step m ms k x HX.out]; exact left_drew (L3.out.setrow k hkn m)
          have m4 : w4.heap[w.heap.size]? = some (.cells #[.int .i64 m.pr, .int .i64 m.ea, .int .i64 m.ep, .int .i64 m.ex, .int .i64 m.le, .int .i64 m.q0, .int .i64 m.r0, .int .i64 m.q1, .int .i64 m.r1, .int .i64 m.q2, .int .i64 m.r2, .int .i64 m.q3, .int .i64 m.r3, .int .i64 m.kn] 116 (0, 0)) := by
            rw [← hw4, heap_drew, heap_setCells_other g' (mpl m) (k * 14) w3 w.heap.size (Ne.symm HG.out)]; exact HM3.out
          clear hw4 c0 c1 c2 c3 c4 c5 c6 c7 c8 c9 c10 c11 c12 c13 d0 d1 d2 d3 d4 d5 d6 d7 d8 d9 d10 d11 d12 d13 hf3 hL3
          go_wp2
          exact ⟨⟨k, by go_num, by omega, L4, m4, hall'⟩, by simp [intOf]⟩
end Go.Proofs.YthiljpbodmajaabGreat
namespace Go.Proofs.YthiljpbodmajaabGreat
open Go.RowKit Plain
set_option linter.unusedVariables false

theorem set_same {a : Array Value} {i : Nat} {v : Value} (h : a[i]? = some v) : a.setIfInBounds i v = a := by
  apply Array.ext_getElem?
  intro j
  by_cases e : i = j
  · subst e
    have hi : i < a.size := (Array.getElem?_eq_some_iff.1 h).1
    rw [h]; simp [hi]
  · rw [Array.getElem?_setIfInBounds_ne e]
theorem Tb.left {w w' : World} {base b o : Nat} {ty : TypeId} {cur : Array Value} {v : Value} {ms : List Mp} (T : Tb w base b o ty cur v ms) (hb : Below w.heap.size w w') : Left w w' base b o ty cur v v ms :=
  ⟨by rw [set_same T.at3]; exact T.below hb, fun k hk => .inl hk.symm, Chg.of_below hb⟩
theorem Left.resl {w w1 : World} {base b o g n cap : Nat} {ty : TypeId} {cur : Array Value} {v : Value} {L : List Mp} (h : Left w w1 base b o ty cur v (.slice (some ⟨g, 0, none⟩) n cap) L) (k : Nat) (hk : k ≤ n) :
    Left w (w1.setCell ⟨b, o + 3, none⟩ (.slice (some ⟨g, 0, none⟩) k cap)) base b o ty cur v (.slice (some ⟨g, 0, none⟩) k cap) (L.take k) := by
  have hne : g ≠ b := fun e => h.tb.ne (by simp [Value.ownBlock, e])
  have hs : o + 3 < cur.size := by have := (Array.getElem?_eq_some_iff.1 h.tb.at3).1; simpa using this
  refine ⟨⟨?_, by simp [hs], ((h.tb.row.rowin.take k hk).kept (Below.heap_setCell w1 _ _ _ hne)).row, h.tb.ne, by simpa [World.setCell] using h.tb.bs⟩, h.own, ?_⟩
  · have := heap_setCell_same (o := o + 3) (.slice (some ⟨g, 0, none⟩) k cap) h.tb.blk
    rw [this]; simp
  · exact ⟨h.chg.os, h.chg.tape, h.chg.output, by simpa [World.setCell] using h.chg.size, fun j hj h1 h2 => (Below.heap_setCell w1 _ _ _ h1).trans (h.chg.block j hj h1 h2)⟩
theorem age_nil {w : World} {base b o : Nat} {ty : TypeId} {cur : Array Value} (T : Tb w base b o ty cur (.slice none 0 0) []) (n : Int) :
    Calls Tryz.prog 46 #[.pointer (some ⟨b, o, none⟩), .int .i64 n] w fun e w' => e = .returned (.tuple #[]) ∧ ∃ v', Left w w' base b o ty cur (.slice none 0 0) v' [] := by
  have hL := T.cell
  have hb := T.lt
  have hf := T.frz (o + 3)
  have HT : Hid _ := T
  have hs : Hid (o + 3 < cur.size) := (Array.getElem?_eq_some_iff.1 T.at3).1
  clear T
  go_enter Tryz.func46, Tryz.ntmps46
  go_wp2
  go_loopw [4, 12] (fun k i wr => k = .int .i64 0 ∧ i = .int .i64 0 ∧ wr = w) (fun _ _ _ => 0)
  case atStart => exact ⟨rfl, rfl, rfl⟩
  case round =>
    obtain ⟨rfl, rfl, rfl⟩ := hrel
    go_wp2
    go_end0
    refine ⟨rfl, .slice none 0 0, ⟨⟨?_, by simp [hs.out], Row.nil _ _, HT.out.ne, by simpa [World.setCell] using HT.out.bs⟩, fun k hk => .inl hk.symm, ⟨rfl, rfl, rfl, by simp [World.setCell], fun k hk h1 h2 => Below.heap_setCell _ _ _ _ h1⟩⟩⟩
    exact heap_setCell_same _ HT.out.blk
set_option maxHeartbeats 8000000 in
theorem age_in {w : World} {base b o g N cap : Nat} {ty : TypeId} {cur : Array Value} {ms : List Mp} (T : Tb w base b o ty cur (.slice (some ⟨g, 0, none⟩) N cap) ms) (hz : N ≤ 64) (n : Int) (n0 : 0 ≤ n) (n1 : n ≤ 100000) (hle : ∀ m ∈ ms, -1000000 ≤ m.le ∧ m.le ≤ 1000000) :
    Calls Tryz.prog 46 #[.pointer (some ⟨b, o, none⟩), .int .i64 n] w fun e w' => e = .returned (.tuple #[]) ∧ ∃ v', Left w w' base b o ty cur (.slice (some ⟨g, 0, none⟩) N cap) v' (aged n ms) := by
  have hL := T.cell
  have hb := T.lt
  have HL : Hid (Left w w base b o ty cur (.slice (some ⟨g, 0, none⟩) N cap) (.slice (some ⟨g, 0, none⟩) N cap) ms) := T.left (Below.refl _ _)
  have HN : Hid (ms.length = N) := T.row.rowin.len
  have HC : Hid (N ≤ cap) := T.row.rowin.le
  have HM : Hid _ := hle
  clear T hle
  go_enter Tryz.func46, Tryz.ntmps46
  go_wp2
  go_loopw [4, 12] (fun kv iv wr => ∃ (k i : Nat) (L : List Mp), kv = .int .i64 (k : Int) ∧ iv = .int .i64 (i : Int) ∧ k ≤ i ∧ i ≤ N ∧ Hid (Left w wr base b o ty cur (.slice (some ⟨g, 0, none⟩) N cap) (.slice (some ⟨g, 0, none⟩) N cap) L) ∧ Hid (L.length = N ∧ L.take k = aged n (ms.take i) ∧ ∀ j, i ≤ j → L[j]? = ms[j]?)) (fun _ iv _ => N - (intOf iv).toNat)
  case atStart => exact ⟨0, 0, ms, rfl, rfl, Nat.le_refl _, by omega, HL, ⟨HN.out, by simp [aged], fun _ _ => rfl⟩⟩
  case round =>
    obtain ⟨k, i, L, rfl, rfl, hki, hi, hl, hp⟩ := hrel
    have hLr : wr.cell? ⟨b, o + 3, none⟩ = some (.slice (some ⟨g, 0, none⟩) N cap) := hl.out.tb.cell
    have hbl : b < wr.heap.size := hl.out.tb.lt
    have hfr : wr.frozen? ⟨b, o + 3, none⟩ = false := hl.out.tb.frz (o + 3)
    by_cases hlt : i < N
    · obtain ⟨m, hm⟩ : ∃ m, ms[i]? = some m := ⟨ms[i]'(by have := HN.out; omega), by simp [show i < ms.length by have := HN.out; omega]⟩
      have hLm : L[i]? = some m := (hp.out.2.2 i (Nat.le_refl _)).trans hm
      have hml := HM.out m (List.mem_of_getElem? hm)
      obtain ⟨y, hy⟩ : ∃ y, L[k]? = some y := ⟨L[k]'(by have := hp.out.1; omega), by simp [show k < L.length by have := hp.out.1; omega]⟩
      obtain ⟨hr, _, hfg, _⟩ := left_own hl.out i m hLm
      obtain ⟨c0, c1, c2, c3, c4, c5, c6, c7, c8, c9, c10, c11, c12, c13⟩ := hr.cells i m hLm
      obtain ⟨d0, d1, d2, d3, d4, d5, d6, d7, d8, d9, d10, d11, d12, d13⟩ := hr.cells k y hy
      have hgl : g < wr.heap.size := hr.lt
      have hkN : k < N := by omega
      have HX : Hid _ := hm
      clear hr hm hLm hy
      by_cases hc : n < m.le
      · have hc' : Hid (n < m.le) := hc
        have es : Hid (∀ W : World, ((((((((((((((W.setCell ⟨g, k * 14, none⟩ (.int .i64 m.pr)).setCell ⟨g, k * 14 + 1, none⟩ (.int .i64 m.ea)).setCell ⟨g, k * 14 + 2, none⟩ (.int .i64 m.ep)).setCell ⟨g, k * 14 + 3, none⟩ (.int .i64 m.ex)).setCell ⟨g, k * 14 + 4, none⟩ (.int .i64 (m.le - n))).setCell ⟨g, k * 14 + 5, none⟩ (.int .i64 m.q0)).setCell ⟨g, k * 14 + 6, none⟩ (.int .i64 m.r0)).setCell ⟨g, k * 14 + 7, none⟩ (.int .i64 m.q1)).setCell ⟨g, k * 14 + 8, none⟩ (.int .i64 m.r1)).setCell ⟨g, k * 14 + 9, none⟩ (.int .i64 m.q2)).setCell ⟨g, k * 14 + 10, none⟩ (.int .i64 m.r2)).setCell ⟨g, k * 14 + 11, none⟩ (.int .i64 m.q3)).setCell ⟨g, k * 14 + 12, none⟩ (.int .i64 m.r3)).setCell ⟨g, k * 14 + 13, none⟩ (.int .i64 m.kn)) = W.setCells g (k * 14) (mpl { m with le := m.le - n })) := fun W => rfl
        have L2 : Hid (Left w ((wr.setCells g (k * 14) (mpl { m with le := m.le - n })).alloc (.cells #[.int .i64 m.pr, .int .i64 m.ea, .int .i64 m.ep, .int .i64 m.ex, .int .i64 (m.le - n), .int .i64 m.q0, .int .i64 m.r0, .int .i64 m.q1, .int .i64 m.r1, .int .i64 m.q2, .int .i64 m.r2, .int .i64 m.q3, .int .i64 m.r3, .int .i64 m.kn] 116)).drew base b o ty cur (.slice (some ⟨g, 0, none⟩) N cap) (.slice (some ⟨g, 0, none⟩) N cap) (L.set k { m with le := m.le - n })) :=
          left_drew ((hl.out.setrow k hkN { m with le := m.le - n }).grow hb (Below.alloc (Below.refl _ _) (Nat.le_refl _) (.cells #[.int .i64 m.pr, .int .i64 m.ea, .int .i64 m.ep, .int .i64 m.ex, .int .i64 (m.le - n), .int .i64 m.q0, .int .i64 m.r0, .int .i64 m.q1, .int .i64 m.r1, .int .i64 m.q2, .int .i64 m.r2, .int .i64 m.q3, .int .i64 m.r3, .int .i64 m.kn] 116)))
        go_wp2
        go_region
        rw [es.out]
        generalize hw3 : ((wr.setCells g (k * 14) (mpl { m with le := m.le - n })).alloc (.cells #[.int .i64 m.pr, .int .i64 m.ea, .int .i64 m.ep, .int .i64 m.ex, .int .i64 (m.le - n), .int .i64 m.q0, .int .i64 m.r0, .int .i64 m.q1, .int .i64 m.r1, .int .i64 m.q2, .int .i64 m.r2, .int .i64 m.q3, .int .i64 m.r3, .int .i64 m.kn] 116)).drew = w3
        have L3 : Hid (Left w w3 base b o ty cur (.slice (some ⟨g, 0, none⟩) N cap) (.slice (some ⟨g, 0, none⟩) N cap) (L.set k { m with le := m.le - n })) := by
          rw [← hw3]; exact L2.out
        clear hw3 es c0 c1 c2 c3 c4 c5 c6 c7 c8 c9 c10 c11 c12 c13 d0 d1 d2 d3 d4 d5 d6 d7 d8 d9 d10 d11 d12 d13
        go_wp2
        refine ⟨⟨k + 1, i + 1, L.set k { m with le := m.le - n }, by go_num, by go_num, by omega, by omega, L3, ⟨by simpa using hp.out.1, ?_, fun j hj => ?_⟩⟩, by simp [intOf]; omega⟩
        · rw [take_set_snoc L k _ (by have := hp.out.1; omega), hp.out.2.1, aged_snoc n ms i m HX.out, if_pos hc'.out]
        · rw [List.getElem?_set_ne (by omega)]; exact hp.out.2.2 j (by omega)
      · have hc' : decide (n < m.le) = false := by simpa using hc
        have hc2 : Hid _ := hc
        clear hc
        have L2 : Hid (Left w (wr.alloc (.cells #[.int .i64 m.pr, .int .i64 m.ea, .int .i64 m.ep, .int .i64 m.ex, .int .i64 m.le, .int .i64 m.q0, .int .i64 m.r0, .int .i64 m.q1, .int .i64 m.r1, .int .i64 m.q2, .int .i64 m.r2, .int .i64 m.q3, .int .i64 m.r3, .int .i64 m.kn] 116)) base b o ty cur (.slice (some ⟨g, 0, none⟩) N cap) (.slice (some ⟨g, 0, none⟩) N cap) L) := hl.out.grow hb (Below.alloc (Below.refl wr.heap.size wr) (Nat.le_refl _) (.cells #[.int .i64 m.pr, .int .i64 m.ea, .int .i64 m.ep, .int .i64 m.ex, .int .i64 m.le, .int .i64 m.q0, .int .i64 m.r0, .int .i64 m.q1, .int .i64 m.r1, .int .i64 m.q2, .int .i64 m.r2, .int .i64 m.q3, .int .i64 m.r3, .int .i64 m.kn] 116))
        go_wp2
        refine ⟨⟨k, i + 1, L, rfl, by go_num, by omega, by omega, L2, ⟨hp.out.1, ?_, fun j hj => hp.out.2.2 j (by omega)⟩⟩, by simp [intOf]; omega⟩
        rw [hp.out.2.1, aged_snoc n ms i m HX.out, if_neg hc2.out, List.append_nil]
    · have hiN : i = N := by omega
      subst hiN
      clear hlt
      have hc3 : (k : Int) ≤ cap := by have := HC.out; omega
      go_wp2
      go_end0
      refine ⟨rfl, .slice (some ⟨g, 0, none⟩) k cap, ?_⟩
      have e : aged n ms = L.take k := by rw [hp.out.2.1, ← HN.out, List.take_length]
      rw [e]
      exact hl.out.resl k hki
theorem age_any {w : World} {base b o : Nat} {ty : TypeId} {cur : Array Value} {v : Value} {ms : List Mp} (T : Tb w base b o ty cur v ms) (hz : ms.length ≤ 64) (n : Int) (n0 : 0 ≤ n) (n1 : n ≤ 100000) (hle : ∀ m ∈ ms, -1000000 ≤ m.le ∧ m.le ≤ 1000000) :
    Calls Tryz.prog 46 #[.pointer (some ⟨b, o, none⟩), .int .i64 n] w fun e w' => e = .returned (.tuple #[]) ∧ ∃ v', Left w w' base b o ty cur v v' (aged n ms) := by
  rcases T.row.cases with ⟨rfl, rfl⟩ | ⟨g, N, cap, rfl, hr⟩
  · exact age_nil T n
  · exact age_in T (by have := hr.len; omega) n n0 n1 hle
end Go.Proofs.YthiljpbodmajaabGreat
