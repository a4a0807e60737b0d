/-
  CONTRACTS: package natbox: Frame, of what comes from the outside.
-/
import Derived.Test.YtgpbajpeldjomaaGreatBoxf
namespace Go.Proofs.YtgpbajpeldjomaaGreat
open Go.RowKit Plain
set_option linter.unusedVariables false

theorem fidx_at {f : Mp → Bool} {ms : List Mp} {m : Mp} (hm : ms[ms.findIdx f]? = some m) : fidx f ms = (ms.findIdx f : Int) := by
  unfold fidx; rw [if_pos (List.getElem?_eq_some_iff.1 hm).1]
theorem fidx_out {f : Mp → Bool} {ms : List Mp} (hm : ms[ms.findIdx f]? = none) : fidx f ms = -1 := by
  unfold fidx; rw [if_neg (by have := List.getElem?_eq_none_iff.1 hm; omega)]
/-- to the external port of a live mapping -/
theorem frame_home {w : World} {base b : Nat} {c : Cf} {tk ti : Int} {v : Value} {ms : List Mp} (T : Bat w base b c tk ti v ms) (hz : ms.length ≤ 64) (s : ByteArray) (hs : s.size ≤ 65535) (hx : exam c 1 s = 0) (hk : chk s = 0) (he : isErr s = false) (m : Mp) (hm : ms[ms.findIdx (·.has (bt s 9) (wd s (ppl s 2)))]? = some m) (hp : pss s c.im = 0)
    (a0 : 0 ≤ m.ea) (a1 : m.ea < 4294967296) (p0 : 0 ≤ m.ep) (p1 : m.ep < 65536) :
    Calls Tryz.prog 25 #[.pointer (some ⟨b, 0, none⟩), .int .i64 1, .string s] w fun e w' => e = .returned (rpv 0 0 (snt (wdst s m.ea m.ep))) ∧ Below w.heap.size w w' := by
  have hl : s.size ≤ maxLen := size_le hs
  have S := chk_sok hk
  have hpr := chk_pr hk
  have F := S.fit
  have hbz := bdy_size F
  have ht : ¬ bt s 8 ≤ 1 := fun h => by unfold pss at hp; rw [if_pos h] at hp; omega
  have h8 : 8 ≤ (bdy s).size := by
    rcases hpr with e | e | e
    · have := S.u e; omega
    · have := S.t e; omega
    · exact S.i e
  have hpl : ppl s 2 + 2 ≤ s.size := by have := F.tn; unfold ppl; split <;> omega
  have z1 : (put s 16 (l4 m.ea)).size = s.size := put_size s 16 _ (by decide) (by rw [l4_size]; have := F.n20; omega)
  have S1 : Sok (put s 16 (l4 m.ea)) := sok_put S (by decide) (by rw [l4_size]; have := F.n20; omega) (by omega) (fun _ => .inl (by rw [l4_size]; have := F.h20; omega))
  have p1' : ppl (put s 16 (l4 m.ea)) 2 = ppl s 2 := by
    unfold ppl; rw [hdv_put (by decide) (by rw [l4_size]; have := F.n20; omega), bt_put_off (by decide) (by rw [l4_size]; have := F.n20; omega) (by omega)]
  have h1 : hdv (put s 16 (l4 m.ea)) = hdv s := hdv_put (by decide) (by rw [l4_size]; have := F.n20; omega)
  have g9 : bt (put s 16 (l4 m.ea)) 9 = bt s 9 := bt_put_off (by decide) (by rw [l4_size]; have := F.n20; omega) (by omega)
  have g8 : bt (put s 16 (l4 m.ea)) 8 = bt s 8 := bt_put_off (by decide) (by rw [l4_size]; have := F.n20; omega) (by omega)
  have pb := ppl_bd s 2 (by decide) (by decide)
  have h20 := F.h20
  have pge : 20 ≤ ppl s 2 := by unfold ppl; split <;> omega
  have S2 : Sok (wdst s m.ea m.ep) := by
    unfold wdst
    rw [p1']
    refine sok_put S1 (by omega) (by rw [w2_size, z1]; omega) (by omega) (fun e => ?_)
    rw [g9] at e
    left
    rw [w2_size, h1]
    unfold ppl
    rw [if_neg (by omega)]
    omega
  have e9 : bt (wdst s m.ea m.ep) 9 = bt s 9 := by unfold wdst; rw [p1', bt_put_off (by omega) (by rw [w2_size, z1]; omega) (by omega), g9]
  have e8 : bt (wdst s m.ea m.ep) 8 = bt s 8 := by unfold wdst; rw [p1', bt_put_off (by omega) (by rw [w2_size, z1]; omega) (by omega), g8]
  refine frame_in b s _ 0 0 (fun wx hb => by have := examine_any (T.below hb) 1 s hl; rw [hx] at this; exact this) (fun wx hb => ?_)
  have Tx := T.below hb
  have := inward_go (w := wx) b s (wdst s m.ea m.ep) (snt (wdst s m.ea m.ep)) c.im (bt s 9) (lg s 16) (wd s (ppl s 2)) m.ea m.ep true Tx.lt (Tx.at 5 rfl) (by have := isErr_any s hl; rw [he] at this; exact this)
    (fun w => dest2_any s w hl) (fun w => protocol_any s w hl)
    (fun wy hy => endpoint_yes b 12 base _ (bt s 9) (wd s (ppl s 2)) m v ms wy (Tx.below hy).cell (Tx.below hy).row hz (fidx_at hm) hm)
    (fun _ w => by have := passes_core s (bt s 8) (wd s 2) c.im w (fun w => ttl_any s w hl) (fun w => totalLength_any s w hl) (pss s c.im) rfl; rw [hp] at this; exact this)
    (fun _ => ⟨fun w => wdst_any s m.ea m.ep w F hpl a0 a1 p0 p1, fun w => sent_any _ w S2 (by rw [e8]; omega) (by rw [e9]; exact hpr)⟩)
  exact this
/-- to no external port of a live mapping -/
theorem frame_none {w : World} {base b : Nat} {c : Cf} {tk ti : Int} {v : Value} {ms : List Mp} (T : Bat w base b c tk ti v ms) (hz : ms.length ≤ 64) (s : ByteArray) (hs : s.size ≤ 65535) (hx : exam c 1 s = 0) (he : isErr s = false) (hm : ms[ms.findIdx (·.has (bt s 9) (wd s (ppl s 2)))]? = none) :
    Calls Tryz.prog 25 #[.pointer (some ⟨b, 0, none⟩), .int .i64 1, .string s] w fun e w' => e = .returned (rpv 8 0 ⟨#[]⟩) ∧ Below w.heap.size w w' := by
  have hl : s.size ≤ maxLen := size_le hs
  refine frame_in b s _ 8 0 (fun wx hb => by have := examine_any (T.below hb) 1 s hl; rw [hx] at this; exact this) (fun wx hb => ?_)
  have Tx := T.below hb
  have := inward_go (w := wx) b s s s c.im (bt s 9) (lg s 16) (wd s (ppl s 2)) 0 0 false Tx.lt (Tx.at 5 rfl) (by have := isErr_any s hl; rw [he] at this; exact this)
    (fun w => dest2_any s w hl) (fun w => protocol_any s w hl)
    (fun wy hy => endpoint_no b 12 base (bt s 9) (wd s (ppl s 2)) v ms wy (Tx.below hy).cell (Tx.below hy).row hz (fidx_out hm))
    (fun h => by cases h) (fun h => by cases h)
  exact this
end Go.Proofs.YtgpbajpeldjomaaGreat
