/-
  CONTRACTS: natboxkeep.There, of any input, given sent's contract.
-/
import Derived.Test.YtgpbajpeldjomaaGreatKepx
import Derived.Test.YtgpbajpeldjomaaGreatKepz
namespace Go.Proofs.YtgpbajpeldjomaaGreat
open Go.RowKit Plain
set_option linter.unusedVariables false

structure Pkwf (p : Pk) : Prop where
  kd : -9223372036854775808 ≤ p.kd ∧ p.kd < 9223372036854775808
  sa : -9223372036854775808 ≤ p.sa ∧ p.sa < 9223372036854775808
  sp : -9223372036854775808 ≤ p.sp ∧ p.sp < 9223372036854775808
  da : -9223372036854775808 ≤ p.da ∧ p.da < 9223372036854775808
  dp : -9223372036854775808 ≤ p.dp ∧ p.dp < 9223372036854775808
  tl : -9223372036854775808 ≤ p.tl ∧ p.tl < 9223372036854775808
  op : -9223372036854775808 ≤ p.op ∧ p.op < 9223372036854775808
  sr : -9223372036854775808 ≤ p.sr ∧ p.sr < 9223372036854775808
  md : p.md.size ≤ maxLen
  tx : p.tx.size ≤ maxLen
  ta : p.ta.size ≤ maxLen
/-- sent's contract in the configuration g, for a frame of at most 'most' octets -/
def SentC (p : Pk) (g : Cf) (most : Int) : Prop := ∀ w, Calls Tryz.prog 13 #[.agg (pkl p), .agg (cfl g), .int .i64 most] w fun e w' => (∃ d : Dg, e = .returned (.agg (dgl d)) ∧ Sentok d (oth p.sa g.ia g.oa) (oth p.da g.ia g.oa) (wth p.sp 0 65535) (wth p.dp 0 65535) (wth p.tl 2 255) most (pk p.kd 5)) ∧ Below w.heap.size w w'
theorem Sentok.out {d : Dg} {p : Pk} {g : Cf} {sp dp tl k8 : Int} (h : Sentok d (oth p.sa g.ia g.oa) (oth p.da g.ia g.oa) sp dp tl g.om k8) (ht : 2 ≤ tl) : Outok d g :=
  ⟨h.ok, h.all, by rw [h.sa]; exact oth_us _ _ _, by rw [h.da]; exact oth_us _ _ _, by rw [h.sa]; exact (oth_ne _ _ _).1, by rw [h.sa]; exact (oth_ne _ _ _).2, by rw [h.da]; exact (oth_ne _ _ _).1, by rw [h.da]; exact (oth_ne _ _ _).2, h.kd, by rw [h.tl]; exact ht, h.len⟩
theorem there_any (c : Cf) (W : Cfwf c) (p : Pk) (S : SentC p (cnf c) (cnf c).om) (w : World) :
    Calls Tryz.prog 4 #[.agg (cfl c), .agg (pkl p)] w fun e w' => e = .returned (.bool true) ∧ Below w.heap.size w w' :=
  there_core c (cnf c) (fun d => Outok d (cnf c)) p.kd p.sa p.sp p.da p.dp p.tl p.op p.bi p.sr p.md p.tx p.ta w (kconf_any c W)
    (fun wx => (S wx).mono fun e w' h => by
      obtain ⟨⟨d, he, hS⟩, hb⟩ := h
      exact ⟨d, he, hS.out (wth_bd _ _ _ (by decide)).1, hb⟩)
    (fun d O => by
      obtain ⟨ext, m, h1, _, h2⟩ := start_out (cnf c) (cnf_ok c) d O
      exact ⟨ext, m, h1, h2⟩)
end Go.Proofs.YtgpbajpeldjomaaGreat
