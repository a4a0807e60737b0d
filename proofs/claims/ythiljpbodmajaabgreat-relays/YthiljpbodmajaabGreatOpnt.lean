/-
  CONTRACTS: package mappings: insert.
-/
import Derived.Test.YthiljpbodmajaabGreatMapw
import Derived.Deep.RegionLaw
import Derived.Deep.RegionWith
import Derived.BigQuiet
import Derived.Deep.AppendLies
import Derived.Test.YthiljpbodmajaabGreatTabc
import Derived.Test.YthiljpbodmajaabGreatMapn
namespace Go.Proofs.YthiljpbodmajaabGreat
open Go.RowKit Plain
set_option linter.unusedVariables false

theorem infoMap : ∃ i : TypeInfo, Tryz.prog.info? 116 = some i ∧ i.size = 14 ∧ i.bytes = 112 ∧ ∃ z, i.zero = some z ∧ z.cells.size = 14 := by
  obtain ⟨i, hi⟩ := Option.isSome_iff_exists.1 (by kernel_rfl : (Tryz.prog.info? 116).isSome = true)
  have h1 : (Tryz.prog.info? 116).map (·.size) = some 14 := by kernel_rfl
  have h2 : (Tryz.prog.info? 116).map (·.bytes) = some 112 := by kernel_rfl
  have h3 : (Tryz.prog.info? 116).map (fun i => i.zero.map (fun z => z.cells.size)) = some (some 14) := by kernel_rfl
  rw [hi] at h1 h2 h3
  simp only [Option.map_some, Option.some.injEq] at h1 h2 h3
  obtain ⟨z, hz1, hz2⟩ := Option.map_eq_some_iff.1 h3
  exact ⟨i, hi, h1, h2, z, hz1, hz2⟩
theorem cells_add {W : World} {g : Nat} {t : TypeId} {fr : Nat × Nat} {m : Mp} (h : W.heap[g]? = some (.cells (mpl m).toArray t fr)) : ∀ j u, (mpl m)[j]? = some u → W.cell? ((⟨g, 0, none⟩ : Addr).add j) = some u := fun j u hu => by
  rw [Addr.add_mid, Nat.zero_add, cell_of_row W g j _ t fr h]
  simpa using hu
theorem own_in {w1 : World} {base g n cap : Nat} {ms : List Mp} {m : Mp} (hn : ms.length = n) (h : w1.ownsRow base 116 14 (.slice (some ⟨g, 0, none⟩) (n + 1) cap) (n + 1) (rowOf ms ++ mpl m)) : RowIn w1 base g (n + 1) cap (ms ++ [m]) := by
  subst hn
  obtain ⟨g2, cap2, he, hr⟩ := own_cases h
  cases he
  exact hr
/-- an append and the store of what it gives, as a change of the table -/
theorem left_of {w w0 w1 : World} {base b o g n cap : Nat} {ty : TypeId} {cur : Array Value} {v : Value} {ms ms' : List Mp} (T : Tb w base b o ty cur v ms) (hb0 : Below w.heap.size w w0) (hg : w0.grownBy w1 v.ownBlock) (hat : v.ownBlock = some g ∨ g = w.heap.size + 2) (hr : RowIn w1 base g n cap ms') :
    Left w (w1.setCell ⟨b, o + 3, none⟩ (.slice (some ⟨g, 0, none⟩) n cap)) base b o ty cur v (.slice (some ⟨g, 0, none⟩) n cap) ms' := by
  have hlt := T.lt
  have hz := hb0.size
  have hgb : g ≠ b := by
    rcases hat with h | h
    · intro e; subst e; exact T.ne h
    · omega
  have hblk1 : w1.heap[b]? = some (.cells cur ty (0, 0)) := by
    rw [hg.block b (by omega) (fun e => T.ne e.symm), hb0.block b hlt]; exact T.blk
  have ho : o + 3 < cur.size := (Array.getElem?_eq_some_iff.1 T.at3).1
  refine ⟨⟨heap_setCell_same _ hblk1, by simp [ho], ?_, by simpa [Value.ownBlock] using hgb, ?_⟩, ?_, ?_⟩
  · exact (hr.kept (Below.heap_setCell w1 _ _ _ hgb)).row
  · have := hg.size; have := T.bs; simp [World.setCell]; omega
  · intro k hk
    have hk' : g = k := by simpa [Value.ownBlock] using hk
    subst hk'
    rcases hat with h | h
    · exact .inl h.symm
    · exact .inr (by omega)
  · refine ⟨hg.os.trans hb0.os, hg.tape.trans hb0.tape, hg.output.trans hb0.output, ?_, fun k hk h1 h2 => ?_⟩
    · have := hg.size; simp [World.setCell]; omega
    · rw [Below.heap_setCell w1 _ _ _ h1, hg.block k (by omega) h2, hb0.block k hk]
theorem left_drewN {w w' : World} {base b o : Nat} {ty : TypeId} {cur : Array Value} {v v' : Value} {ms' : List Mp} (h : Left w w' base b o ty cur v v' ms') (n : Nat) : Left w (w'.drewN n) base b o ty cur v v' ms' :=
  ⟨⟨h.tb.blk, h.tb.at3, h.tb.row, h.tb.ne, h.tb.bs⟩, h.own, ⟨h.chg.os, h.chg.tape, h.chg.output, h.chg.size, h.chg.block⟩⟩
end Go.Proofs.YthiljpbodmajaabGreat
namespace Go.Proofs.YthiljpbodmajaabGreat
open Go.RowKit Plain
set_option linter.unusedVariables false

/-- the numbers of a table -/
structure Nums (cur : Array Value) (o : Nat) (c : Cf) : Prop where
  lo : cur[o]? = some (.int .i64 c.lo)
  hi : cur[o + 1]? = some (.int .i64 c.hi)
  cp : cur[o + 2]? = some (.int .i64 c.cp)
theorem nums_at {w : World} {base b o : Nat} {ty : TypeId} {cur : Array Value} {v : Value} {ms : List Mp} {c : Cf} (T : Tb w base b o ty cur v ms) (N : Nums cur o c) :
    w.cell? ⟨b, o, none⟩ = some (.int .i64 c.lo) ∧ w.cell? ⟨b, o + 1, none⟩ = some (.int .i64 c.hi) ∧ w.cell? ⟨b, o + 2, none⟩ = some (.int .i64 c.cp) :=
  ⟨by rw [cell_of_row w b _ cur ty _ T.blk, N.lo], by rw [cell_of_row w b _ cur ty _ T.blk, N.hi], by rw [cell_of_row w b _ cur ty _ T.blk, N.cp]⟩
theorem choose_tb {w : World} {base b o : Nat} {ty : TypeId} {cur : Array Value} {v : Value} {ms : List Mp} {c : Cf} (T : Tb w base b o ty cur v ms) (N : Nums cur o c) (l0 : 0 ≤ c.lo) (l1 : c.lo ≤ 65535) (hz : ms.length ≤ 64) (p own : Int) :
    Calls Tryz.prog 223 #[.pointer (some ⟨b, o, none⟩), .int .i64 p, .int .i64 own] w fun e w' => e = .returned (.int .i64 (chs c ms p own)) ∧ w' = w :=
  choose_any b o base p own c v ms w l0 l1 (nums_at T N).1 (nums_at T N).2.1 T.cell T.row hz
theorem slice_shape {w : World} {base b o : Nat} {ty : TypeId} {cur : Array Value} {v : Value} {ms : List Mp} (T : Tb w base b o ty cur v ms) : ∃ A cap, v = .slice A ms.length cap := by
  rcases T.row.cases with ⟨rfl, rfl⟩ | ⟨g, n, cap, rfl, hr⟩
  · exact ⟨none, 0, rfl⟩
  · exact ⟨_, cap, by rw [hr.len]⟩

set_option maxHeartbeats 2000000 in
theorem open_no {w : World} {base b o : Nat} {ty : TypeId} {cur : Array Value} {v : Value} {ms : List Mp} {c : Cf} (T : Tb w base b o ty cur v ms) (N : Nums cur o c) (l0 : 0 ≤ c.lo) (l1 : c.lo ≤ 65535) (hz : ms.length ≤ 64) (p a q pa pp i : Int)
    (h : c.cp ≤ (ms.length : Int) ∨ c.hi < chs c ms p q) :
    Calls Tryz.prog 184 #[.pointer (some ⟨b, o, none⟩), .int .i64 p, .agg #[.int .i64 a, .int .i64 q], .agg #[.int .i64 pa, .int .i64 pp], .int .i64 i] w
      fun e w' => e = .returned (.tuple #[.int .i64 0, .int .i64 11]) ∧ Below w.heap.size w w' := by
  have cC : Hid (∀ wx, Below w.heap.size w wx → Calls Tryz.prog 223 #[.pointer (some ⟨b, o, none⟩), .int .i64 p, .int .i64 q] wx fun e w' => e = .returned (.int .i64 (chs c ms p q)) ∧ w' = wx) :=
    fun wx hb => choose_tb (T.below hb) N l0 l1 hz p q
  have hb : b < w.heap.size := T.lt
  have hL := T.cell
  obtain ⟨n0, n1, n2⟩ := nums_at T N
  obtain ⟨A, cap, rfl⟩ := slice_shape T
  generalize chs c ms p q = X at cC h
  generalize ms.length = n at hL h hz
  have HT : Hid _ := T
  clear T N
  by_cases k : c.cp ≤ (n : Int)
  · clear h
    go_enter Tryz.func184, Tryz.ntmps184
    go_wp2_with fail
    refine Calls.mono (cC.out _ (((Below.refl _ _).alloc (Nat.le_refl _) _).alloc (by simp) _)) ?_; rintro e w' ⟨rfl, rfl⟩
    go_wp2
    go_quiet (fail)
    go_wp2
    go_ret2
    exact ⟨rfl, below_drewN (((Below.refl _ _).alloc (Nat.le_refl _) _).alloc (by simp) _) _⟩
  · have h2 : c.hi < X := by omega
    have k2 : decide (c.cp ≤ (n : Int)) = false := by simpa using k
    clear h k
    go_enter Tryz.func184, Tryz.ntmps184
    go_wp2_with fail
    refine Calls.mono (cC.out _ (((Below.refl _ _).alloc (Nat.le_refl _) _).alloc (by simp) _)) ?_; rintro e w' ⟨rfl, rfl⟩
    go_wp2
    go_quiet (fail)
    go_wp2
    go_ret2
    exact ⟨rfl, below_drewN (((Below.refl _ _).alloc (Nat.le_refl _) _).alloc (by simp) _) _⟩
theorem Left.pre {w0 w w' : World} {base b o : Nat} {ty : TypeId} {cur : Array Value} {v v' : Value} {ms ms' : List Mp} (T : Tb w0 base b o ty cur v ms) (hb : Below w0.heap.size w0 w) (h : Left w w' base b o ty cur v v' ms') : Left w0 w' base b o ty cur v v' ms' :=
  ⟨h.tb, fun k hk => by
      rcases h.own k hk with e | e
      · exact .inl e
      · exact .inr (Nat.le_trans hb.size e),
    ⟨h.chg.os.trans hb.os, h.chg.tape.trans hb.tape, h.chg.output.trans hb.output, Nat.le_trans hb.size h.chg.size, fun k hk h1 h2 => by rw [h.chg.block k (Nat.lt_of_lt_of_le hk hb.size) h1 h2, hb.block k hk]⟩⟩
set_option maxHeartbeats 4000000 in
theorem open_yes {w : World} {base b o : Nat} {ty : TypeId} {cur : Array Value} {v : Value} {ms ms' : List Mp} {c : Cf} (T : Tb w base b o ty cur v ms) (N : Nums cur o c) (l0 : 0 ≤ c.lo) (l1 : c.lo ≤ 65535) (hz : ms.length ≤ 64) (p a q pa pp i : Int)
    (h1 : (ms.length : Int) < c.cp) (h2 : chs c ms p q ≤ c.hi)
    (cI : ∀ wx, Tb wx base b o ty cur v ms → Calls Tryz.prog 224 #[.pointer (some ⟨b, o, none⟩), mpv ((Mp.new p a q (chs c ms p q)).used pa pp i)] wx fun e w' => e = .returned (.tuple #[]) ∧ ∃ v', Left wx w' base b o ty cur v v' ms') :
    Calls Tryz.prog 184 #[.pointer (some ⟨b, o, none⟩), .int .i64 p, .agg #[.int .i64 a, .int .i64 q], .agg #[.int .i64 pa, .int .i64 pp], .int .i64 i] w
      fun e w' => e = .returned (.tuple #[.int .i64 (chs c ms p q), .int .i64 0]) ∧ ∃ v', Left w w' base b o ty cur v v' ms' := by
  have cC : Hid (∀ wx, Below w.heap.size w wx → Calls Tryz.prog 223 #[.pointer (some ⟨b, o, none⟩), .int .i64 p, .int .i64 q] wx fun e w' => e = .returned (.int .i64 (chs c ms p q)) ∧ w' = wx) :=
    fun wx hb => choose_tb (T.below hb) N l0 l1 hz p q
  have hb : b < w.heap.size := T.lt
  have hL := T.cell
  obtain ⟨n0, n1, n2⟩ := nums_at T N
  obtain ⟨A, cap, rfl⟩ := slice_shape T
  generalize chs c ms p q = X at cC h2 cI
  have CI : Hid (∀ wx, Below w.heap.size w wx → Calls Tryz.prog 224 #[.pointer (some ⟨b, o, none⟩), mpv ((Mp.new p a q X).used pa pp i)] wx fun e w' => e = .returned (.tuple #[]) ∧ ∃ v', Left w w' base b o ty cur (.slice A ms.length cap) v' ms') :=
    fun wx hbx => (cI wx (T.below hbx)).mono fun e w' h => ⟨h.1, h.2.imp fun v' hl => Left.pre T hbx hl⟩
  have cU : RetB 186 #[mpv (Mp.new p a q X), .agg #[.int .i64 pa, .int .i64 pp], .int .i64 i] (mpv ((Mp.new p a q X).used pa pp i)) := fun w => used_any (Mp.new p a q X) pa pp i w (by simp [Mp.new]) (by simp [Mp.new])
  unfold mpv at cU CI
  generalize (Mp.new p a q X).used pa pp i = M at cU CI
  simp only [Mp.new] at cU
  have HP : Hid (∃ ns : List Mp, ns = ms) := ⟨ms, rfl⟩
  generalize hn : ms.length = n at hL h1 hz CI
  clear T N cI hn HP
  have k2 : decide (c.cp ≤ (n : Int)) = false := by simpa using h1
  have k3 : decide (c.hi < X) = false := by simpa using h2
  clear h1 h2
  go_enter Tryz.func184, Tryz.ntmps184
  go_wp2_with fail
  refine Calls.mono (cC.out _ (((Below.refl _ _).alloc (Nat.le_refl _) _).alloc (by simp) _)) ?_; rintro e w' ⟨rfl, rfl⟩
  go_wp2
  go_quiet (fail)
  go_wp2_with fail
  refine Calls.mono (cU.at _) ?_; rintro e w2 ⟨rfl, hb2⟩
  go_wp2_with fail
  refine Calls.mono (CI.out _ ((below_drewN (((Below.refl _ _).alloc (Nat.le_refl _) _).alloc (by simp) _) _).alloc (by simp; omega) _ |>.trans (hb2.mono (by simp; omega)))) ?_; rintro e w3 ⟨rfl, v', hl⟩
  go_wp2
  go_ret2
  exact ⟨rfl, v', hl⟩
end Go.Proofs.YthiljpbodmajaabGreat
