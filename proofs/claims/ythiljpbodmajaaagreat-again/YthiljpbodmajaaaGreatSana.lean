/-
  CONTRACTS: natboxkeep.There, of any input, given sent's contract.
-/
import Derived.Test.YthiljpbodmajaaaGreatKepx
import Derived.Test.YthiljpbodmajaaaGreatKepz
import Derived.Test.YthiljpbodmajaaaGreatKeps0
import Derived.Test.YthiljpbodmajaaaGreatKeps1
import Derived.Test.YthiljpbodmajaaaGreatKeps2
import Derived.Test.YthiljpbodmajaaaGreatKeps3
import Derived.Test.YthiljpbodmajaaaGreatKeps4
namespace Go.Proofs.YthiljpbodmajaaaGreat
open Go.RowKit Plain
set_option linter.unusedVariables false

structure Pkwf (p : Pk) : Prop where
  kd : -9223372036854775808 ≤ p.kd ∧ p.kd < 9223372036854775808
  sa : -9223372036854775808 ≤ p.sa ∧ p.sa < 9223372036854775808
  sp : -9223372036854775808 ≤ p.sp ∧ p.sp < 9223372036854775808
  da : -9223372036854775808 ≤ p.da ∧ p.da < 9223372036854775808
  dp : -9223372036854775808 ≤ p.dp ∧ p.dp < 9223372036854775808
  tl : -9223372036854775808 ≤ p.tl ∧ p.tl < 9223372036854775808
  op : -9223372036854775808 ≤ p.op ∧ p.op < 9223372036854775808
  sr : -9223372036854775808 ≤ p.sr ∧ p.sr < 9223372036854775808
  md : p.md.size ≤ maxLen
  tx : p.tx.size ≤ maxLen
  ta : p.ta.size ≤ maxLen
/-- sent's contract in the configuration g, for a frame of at most 'most' octets -/
def SentC (p : Pk) (g : Cf) (most : Int) : Prop := ∀ w, Calls Tryz.prog 13 #[.agg (pkl p), .agg (cfl g), .int .i64 most] w fun e w' => (∃ d : Dg, e = .returned (.agg (dgl d)) ∧ Sentok d (oth p.sa g.ia g.oa) (oth p.da g.ia g.oa) (wth p.sp 0 65535) (wth p.dp 0 65535) (wth p.tl 2 255) most (pk p.kd 5)) ∧ Below w.heap.size w w'
theorem Sentok.out {d : Dg} {p : Pk} {g : Cf} {sp dp tl k8 : Int} (h : Sentok d (oth p.sa g.ia g.oa) (oth p.da g.ia g.oa) sp dp tl g.om k8) (ht : 2 ≤ tl) : Outok d g :=
  ⟨h.ok, h.all, by rw [h.sa]; exact oth_us _ _ _, by rw [h.da]; exact oth_us _ _ _, by rw [h.sa]; exact (oth_ne _ _ _).1, by rw [h.sa]; exact (oth_ne _ _ _).2, by rw [h.da]; exact (oth_ne _ _ _).1, by rw [h.da]; exact (oth_ne _ _ _).2, h.kd, by rw [h.tl]; exact ht, h.len⟩
theorem there_any (c : Cf) (W : Cfwf c) (p : Pk) (S : SentC p (cnf c) (cnf c).om) (w : World) :
    Calls Tryz.prog 4 #[.agg (cfl c), .agg (pkl p)] w fun e w' => e = .returned (.bool true) ∧ Below w.heap.size w w' :=
  there_core c (cnf c) (fun d => Outok d (cnf c)) p.kd p.sa p.sp p.da p.dp p.tl p.op p.bi p.sr p.md p.tx p.ta w (kconf_any c W)
    (fun wx => (S wx).mono fun e w' h => by
      obtain ⟨⟨d, he, hS⟩, hb⟩ := h
      exact ⟨d, he, hS.out (wth_bd _ _ _ (by decide)).1, hb⟩)
    (fun d O => by
      obtain ⟨ext, m, h1, _, h2⟩ := start_out (cnf c) (cnf_ok c) d O
      exact ⟨ext, m, h1, h2⟩)
end Go.Proofs.YthiljpbodmajaaaGreat
namespace Go.Proofs.YthiljpbodmajaaaGreat
open Go.RowKit Plain
set_option linter.unusedVariables false

theorem cok_mtu {c : Cf} (h : c.ok = true) : 100 ≤ c.im ∧ c.im ≤ 65535 ∧ 100 ≤ c.om ∧ c.om ≤ 65535 := by
  simp [Cf.ok, validB, endsB, portsB, mtusB, inB, leB, neB] at h
  omega
theorem sentc_any (p : Pk) (g : Cf) (most : Int) (P : Pkwf p) (hm0 : 100 ≤ most) (hm1 : most ≤ 65535) : SentC p g most := fun w => by
  have hA := us_bd (oth_us p.sa g.ia g.oa)
  have hB := us_bd (oth_us p.da g.ia g.oa)
  have hs := wth_bd p.sp 0 65535 (by decide)
  have hd := wth_bd p.dp 0 65535 (by decide)
  have ht := wth_bd p.tl 2 255 (by decide)
  have ho := wth_bd p.op 0 3 (by decide)
  have hk := pk_bd p.kd 5 (by decide)
  have c2 : Ret 18 #[.int .i64 p.sp, .int .i64 0, .int .i64 65535] (.int .i64 (wth p.sp 0 65535)) := fun w => kwithin_any _ _ _ w (by decide) (by decide) (by decide) P.sp.1 P.sp.2
  have c3 : Ret 18 #[.int .i64 p.dp, .int .i64 0, .int .i64 65535] (.int .i64 (wth p.dp 0 65535)) := fun w => kwithin_any _ _ _ w (by decide) (by decide) (by decide) P.dp.1 P.dp.2
  have c4 : Ret 18 #[.int .i64 p.tl, .int .i64 2, .int .i64 255] (.int .i64 (wth p.tl 2 255)) := fun w => kwithin_any _ _ _ w (by decide) (by decide) (by decide) P.tl.1 P.tl.2
  have c6 : Ret 18 #[.int .i64 p.op, .int .i64 0, .int .i64 3] (.int .i64 (wth p.op 0 3)) := fun w => kwithin_any _ _ _ w (by decide) (by decide) (by decide) P.op.1 P.op.2
  have c8 : Ret 43 #[.int .i64 p.kd, .int .i64 5] (.int .i64 (pk p.kd 5)) := fun w => pick_any _ _ w (by decide) (by decide) P.kd.1 P.kd.2
  have cA := other_any p.sa g P.sa.1 P.sa.2
  have cB := other_any p.da g P.da.1 P.da.2
  have key : pk p.kd 5 = 0 ∨ pk p.kd 5 = 1 ∨ pk p.kd 5 = 2 ∨ pk p.kd 5 = 3 ∨ pk p.kd 5 = 4 := by omega
  have HQ : Hid (∀ (e : Ending) (w' : World), ((∃ d : Dg, e = .returned (.agg (dgl d)) ∧ Sentok d (oth p.sa g.ia g.oa) (oth p.da g.ia g.oa) (wth p.sp 0 65535) (wth p.dp 0 65535) (wth p.tl 2 255) most (pk p.kd 5)) ∧ Below w.heap.size w w') → ((∃ d : Dg, e = .returned (.agg (dgl d)) ∧ Sentok d (oth p.sa g.ia g.oa) (oth p.da g.ia g.oa) (wth p.sp 0 65535) (wth p.dp 0 65535) (wth p.tl 2 255) most (pk p.kd 5)) ∧ Below w.heap.size w w')) := fun _ _ h => h
  rcases key with e | e | e | e | e
  · exact sent_core0 _ p g most _ _ _ _ _ _ _ w HQ hm0 hm1 hA.1 hA.2 hB.1 hB.2 hs.1 (by omega) hd.1 (by omega) ht.1 (by omega) e P.sr.1 P.sr.2 P.ta ho.1 ho.2 P.md P.tx c2 c3 c4 c6 c8 cA cB
  · exact sent_core1 _ p g most _ _ _ _ _ _ _ w HQ hm0 hm1 hA.1 hA.2 hB.1 hB.2 hs.1 (by omega) hd.1 (by omega) ht.1 (by omega) e P.sr.1 P.sr.2 P.ta ho.1 ho.2 P.md P.tx c2 c3 c4 c6 c8 cA cB
  · exact sent_core2 _ p g most _ _ _ _ _ _ _ w HQ hm0 hm1 hA.1 hA.2 hB.1 hB.2 hs.1 (by omega) hd.1 (by omega) ht.1 (by omega) e P.sr.1 P.sr.2 P.ta ho.1 ho.2 P.md P.tx c2 c3 c4 c6 c8 cA cB
  · exact sent_core3 _ p g most _ _ _ _ _ _ _ w HQ hm0 hm1 hA.1 hA.2 hB.1 hB.2 hs.1 (by omega) hd.1 (by omega) ht.1 (by omega) e P.sr.1 P.sr.2 P.ta ho.1 ho.2 P.md P.tx c2 c3 c4 c6 c8 cA cB
  · exact sent_core4 _ p g most _ _ _ _ _ _ _ w HQ hm0 hm1 hA.1 hA.2 hB.1 hB.2 hs.1 (by omega) hd.1 (by omega) ht.1 (by omega) e P.sr.1 P.sr.2 P.ta ho.1 ho.2 P.md P.tx c2 c3 c4 c6 c8 cA cB
end Go.Proofs.YthiljpbodmajaaaGreat
