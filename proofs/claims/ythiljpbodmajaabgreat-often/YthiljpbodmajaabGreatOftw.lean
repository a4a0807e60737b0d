/-
  natboxkeep.Often: what its loop holds in memory: the box, the configuration, two slices that grow.
-/
import Derived.Test.YthiljpbodmajaabGreatFits
import Derived.Test.YthiljpbodmajaabGreatBoxw
import Derived.Deep.AppendLies
namespace Go.Proofs.YthiljpbodmajaabGreat
open Go.RowKit Plain
set_option linter.unusedVariables false

theorem own_keep {w w' : World} {base : Nat} {e : TypeId} {size : Nat} {v : Value} {n : Nat} {xs : List Value} (h : w.ownsRow base e size v n xs) (hk : ∀ k, v.ownBlock = some k → w'.heap[k]? = w.heap[k]?) : w'.ownsRow base e size v n xs := by
  refine ⟨h.1, ?_⟩
  rcases h.2 with hn | ⟨g, cap, cur, rfl, hb, hgg, rest⟩
  · exact .inl hn
  · exact .inr ⟨g, cap, cur, rfl, hb, by rw [hk g rfl]; exact hgg, rest⟩
structure Oin (w0 : World) (K base b : Nat) (g : Cf) (tk ti : Int) (v tv bv : Value) (n1 n2 : Nat) (x1 x2 : List Value) (wr : World) : Prop where
  bel : Below w0.heap.size w0 wr
  cfg : wr.heap[K]? = some (.cells (cfl g) 23 (0, 0))
  bat : Bat wr base b g tk ti v []
  tim : wr.ownsRow w0.heap.size 3 1 tv n1 x1
  tol : wr.ownsRow w0.heap.size 4 1 bv n2 x2
  kb : K ≠ b
  kv : v.ownBlock ≠ some K
  s1 : ∀ k, tv.ownBlock = some k → k ≠ b ∧ k ≠ K ∧ v.ownBlock ≠ some k ∧ bv.ownBlock ≠ some k
  s2 : ∀ k, bv.ownBlock = some k → k ≠ b ∧ k ≠ K ∧ v.ownBlock ≠ some k
  bb : w0.heap.size ≤ base
  bs : base ≤ b
section
variable {w0 wr w2 : World} {K base b : Nat} {g : Cf} {tk ti : Int} {v tv bv : Value} {n1 n2 : Nat} {x1 x2 : List Value}
theorem Oin.klt (h : Oin w0 K base b g tk ti v tv bv n1 n2 x1 x2 wr) : K < wr.heap.size := (Array.getElem?_eq_some_iff.1 h.cfg).1
theorem Oin.next (h : Oin w0 K base b g tk ti v tv bv n1 n2 x1 x2 wr) (k : Below wr.heap.size wr w2) : Oin w0 K base b g tk ti v tv bv n1 n2 x1 x2 w2 :=
  ⟨h.bel.trans (k.mono h.bel.size), (k.block _ h.klt).trans h.cfg, h.bat.below k, own_keep h.tim (fun j hj => k.block j (h.tim.lt j hj).2), own_keep h.tol (fun j hj => k.block j (h.tol.lt j hj).2), h.kb, h.kv, h.s1, h.s2, h.bb, h.bs⟩
theorem Oin.bl {tk' ti' : Int} {v' : Value} (h : Oin w0 K base b g tk ti v tv bv n1 n2 x1 x2 wr) (k : BL wr w2 base b g v v' tk' ti' []) : Oin w0 K base b g tk' ti' v' tv bv n1 n2 x1 x2 w2 := by
  have hn : ∀ j, j < wr.heap.size → v.ownBlock ≠ some j → v'.ownBlock ≠ some j := fun j hj hv e => by
    rcases k.own j e with q | q
    · exact hv q.symm
    · omega
  refine ⟨h.bel.trans ((k.below h.bat h.bs (Below.refl base wr)).mono h.bb), (k.chg.block K h.klt h.kb (fun e => h.kv e.symm)).trans h.cfg, k.bat, ?_, ?_, h.kb, hn K h.klt h.kv, fun j hj => ?_, fun j hj => ?_, h.bb, h.bs⟩
  · exact own_keep h.tim (fun j hj => k.chg.block j (h.tim.lt j hj).2 (h.s1 j hj).1 (fun e => (h.s1 j hj).2.2.1 e.symm))
  · exact own_keep h.tol (fun j hj => k.chg.block j (h.tol.lt j hj).2 (h.s2 j hj).1 (fun e => (h.s2 j hj).2.2 e.symm))
  · have q := h.s1 j hj
    exact ⟨q.1, q.2.1, hn j (h.tim.lt j hj).2 q.2.2.1, q.2.2.2⟩
  · have q := h.s2 j hj
    exact ⟨q.1, q.2.1, hn j (h.tol.lt j hj).2 q.2.2⟩
theorem grown_below {w w' : World} {B : Nat} {row : Option Nat} (hg : w.grownBy w' row) (hr : ∀ k, row = some k → B ≤ k) (hB : B ≤ w.heap.size) : Below B w w' :=
  ⟨hg.os, hg.tape, hg.output, hg.size, fun k hk => hg.block k (by omega) (fun e => by have := hr k e.symm; omega)⟩
theorem Oin.app1 {m g1 cap : Nat} {x1' : List Value} (h : Oin w0 K base b g tk ti v tv bv n1 n2 x1 x2 wr) (hg : wr.grownBy w2 tv.ownBlock) (ho : w2.ownsRow w0.heap.size 3 1 (.slice (some ⟨g1, 0, none⟩) m cap) m x1') (hl : tv.ownBlock = some g1 ∨ g1 = wr.heap.size) : Oin w0 K base b g tk ti v (.slice (some ⟨g1, 0, none⟩) m cap) bv m n2 x1' x2 w2 := by
  have hK : some K ≠ tv.ownBlock := fun e => (h.s1 K e.symm).2.1 rfl
  have hb : some b ≠ tv.ownBlock := fun e => (h.s1 b e.symm).1 rfl
  have hv : ∀ j, v.ownBlock = some j → some j ≠ tv.ownBlock := fun j hj e => (h.s1 j e.symm).2.2.1 hj
  have hbv : ∀ j, bv.ownBlock = some j → some j ≠ tv.ownBlock := fun j hj e => (h.s1 j e.symm).2.2.2 hj
  refine ⟨h.bel.trans (grown_below hg (fun k hk => (h.tim.lt k hk).1) h.bel.size), (hg.block K h.klt hK).trans h.cfg, ⟨(hg.block b h.bat.lt hb).trans h.bat.blk, h.bat.at3, h.bat.row.kept (fun j hj => hg.block j (h.bat.own_lt j hj) (hv j hj)), h.bat.ne, Nat.le_trans h.bat.bs hg.size⟩, ho, own_keep h.tol (fun j hj => hg.block j (h.tol.lt j hj).2 (hbv j hj)), h.kb, h.kv, fun j hj => ?_, h.s2, h.bb, h.bs⟩
  have e : g1 = j := by simpa [Value.ownBlock] using hj
  subst e
  rcases hl with q | q
  · exact h.s1 g1 q
  · refine ⟨fun e => ?_, fun e => ?_, fun e => ?_, fun e => ?_⟩
    · have := h.bat.lt; omega
    · have := h.klt; omega
    · have := h.bat.own_lt g1 e; omega
    · have := (h.tol.lt g1 e).2; omega
theorem Oin.app2 {m g1 cap : Nat} {x2' : List Value} (h : Oin w0 K base b g tk ti v tv bv n1 n2 x1 x2 wr) (hg : wr.grownBy w2 bv.ownBlock) (ho : w2.ownsRow w0.heap.size 4 1 (.slice (some ⟨g1, 0, none⟩) m cap) m x2') (hl : bv.ownBlock = some g1 ∨ g1 = wr.heap.size) : Oin w0 K base b g tk ti v tv (.slice (some ⟨g1, 0, none⟩) m cap) n1 m x1 x2' w2 := by
  have hK : some K ≠ bv.ownBlock := fun e => (h.s2 K e.symm).2.1 rfl
  have hb : some b ≠ bv.ownBlock := fun e => (h.s2 b e.symm).1 rfl
  have hv : ∀ j, v.ownBlock = some j → some j ≠ bv.ownBlock := fun j hj e => (h.s2 j e.symm).2.2 hj
  have htv : ∀ j, tv.ownBlock = some j → some j ≠ bv.ownBlock := fun j hj e => (h.s1 j hj).2.2.2 e.symm
  refine ⟨h.bel.trans (grown_below hg (fun k hk => (h.tol.lt k hk).1) h.bel.size), (hg.block K h.klt hK).trans h.cfg, ⟨(hg.block b h.bat.lt hb).trans h.bat.blk, h.bat.at3, h.bat.row.kept (fun j hj => hg.block j (h.bat.own_lt j hj) (hv j hj)), h.bat.ne, Nat.le_trans h.bat.bs hg.size⟩, own_keep h.tim (fun j hj => hg.block j (h.tim.lt j hj).2 (htv j hj)), ho, h.kb, h.kv, fun j hj => ?_, fun j hj => ?_, h.bb, h.bs⟩
  · have q := h.s1 j hj
    refine ⟨q.1, q.2.1, q.2.2.1, fun e => ?_⟩
    have e' : g1 = j := by simpa [Value.ownBlock] using e
    subst e'
    rcases hl with r | r
    · exact q.2.2.2 r
    · have := (h.tim.lt g1 hj).2; omega
  · have e : g1 = j := by simpa [Value.ownBlock] using hj
    subst e
    rcases hl with q | q
    · exact h.s2 g1 q
    · refine ⟨fun e => ?_, fun e => ?_, fun e => ?_⟩
      · have := h.bat.lt; omega
      · have := h.klt; omega
      · have := h.bat.own_lt g1 e; omega
def xt (l : List (Int × Bool)) : List Value := l.reverse.map fun p => .int .i64 p.1
def xb (l : List (Int × Bool)) : List Value := l.reverse.map fun p => .bool p.2
theorem own_at {e : TypeId} {g1 n cap : Nat} {xs : List Value} (h : wr.ownsRow w0.heap.size e 1 (.slice (some ⟨g1, 0, none⟩) n cap) n xs) (j : Nat) (u : Value) (hu : xs[j]? = some u) : wr.cell? ⟨g1, j, none⟩ = some u := by
  have := h.cells (g := g1) rfl j u hu
  have hadd : (⟨g1, 0, none⟩ : Addr).add j = ⟨g1, j, none⟩ := by unfold Addr.add; split <;> simp_all
  rw [hadd] at this
  exact this
theorem fits_oin {l : List (Int × Bool)} {now tx : Int} (h : Oin w0 K base b g tx ti v tv bv l.length l.length (xt l) (xb l) wr) (hnil : l = [] → tv = .slice none 0 0 ∧ bv = .slice none 0 0) (I : Inv g.bu g.ra now l tk) (hN : l.length ≤ 9223372036854775807) (b1 : g.bu ≤ 100) (r0 : 0 ≤ g.ra) (r1 : g.ra ≤ 100) (n0 : 0 ≤ now) (n1' : now ≤ 2199023255552) (hl : ∀ p ∈ l, 0 ≤ p.1 ∧ p.1 ≤ now) :
    Calls Tryz.prog 20 #[.agg (cfl g), tv, bv, .int .i64 now] wr fun e w' => e = .returned (.bool (decide (1 ≤ tk))) ∧ Below wr.heap.size wr w' := by
  have hi := inv_fits I
  by_cases hb : 1 ≤ g.bu
  · by_cases hn : l = []
    · obtain ⟨rfl, rfl⟩ := hnil hn
      have : decide (1 ≤ tk) = true := by simp; exact hi.2 ⟨hb, by rw [hn]; trivial⟩
      rw [this]
      exact fits_nil g now wr hb
    · have hp : 0 < l.length := List.length_pos_iff.2 hn
      obtain ⟨g1, c1, e1, _, l1⟩ := h.tim.form hp
      obtain ⟨g2, c2, e2, _, l2⟩ := h.tol.form hp
      have t1 := h.tim
      have t2 := h.tol
      rw [e1] at t1 ⊢
      rw [e2] at t2 ⊢
      refine fits_in g g1 g2 l.length c1 c2 l now wr rfl hN hb b1 r0 r1 n0 n1' hl l1 l2 (fun j p hj hlt => ?_) (fun j p hj hlt => ?_) _ ?_
      · refine own_at t1 j _ ?_
        unfold xt
        rw [List.getElem?_map, List.getElem?_reverse hlt, hj]
        rfl
      · refine own_at t2 j _ ?_
        unfold xb
        rw [List.getElem?_map, List.getElem?_reverse hlt, hj]
        rfl
      · simp only [decide_eq_true_eq]
        exact hi.trans ⟨fun q => q.2, fun q => ⟨hb, q⟩⟩
  · have : decide (1 ≤ tk) = false := by simp; have := fun q => (hi.1 q).1; omega
    rw [this]
    exact fits_few g tv bv now wr (by omega)
end
end Go.Proofs.YthiljpbodmajaabGreat
