/-
  CONTRACTS: package natbox: Frame, of any box.
-/
import Derived.Test.YtgpbajpeldjomaaGreatBoxi
import Derived.Test.YtgpbajpeldjomaaGreatUsew
import Derived.Test.YtgpbajpeldjomaaGreatPutp
namespace Go.Proofs.YtgpbajpeldjomaaGreat
open Go.RowKit Plain
set_option linter.unusedVariables false

theorem frame_no (b : Nat) (d : Int) (s : ByteArray) (k : Int) (w : World) (hk : (k != 0) = true)
    (cX : ∀ wx, Below w.heap.size w wx → Calls Tryz.prog 48 #[.pointer (some ⟨b, 0, none⟩), .int .i64 d, .string s] wx fun e w' => e = .returned (.int .i64 k) ∧ Below wx.heap.size wx w') :
    Calls Tryz.prog 25 #[.pointer (some ⟨b, 0, none⟩), .int .i64 d, .string s] w fun e w' => e = .returned (rpv k 0 ⟨#[]⟩) ∧ Below w.heap.size w w' := by
  have CX : Hid _ := cX
  clear cX
  go_enter Tryz.func25, Tryz.ntmps25
  go_wp2_with fail
  refine Calls.mono (CX.out _ ((Below.refl _ _).alloc (Nat.le_refl _) _)) ?_; rintro e w1 ⟨rfl, hb1⟩
  have B0 := (hb1.block w.heap.size (by simp)).trans (alloc1 w _)
  obtain ⟨d0, d1, d2⟩ := cell3 B0
  have f0 := nofrz B0
  clear B0
  go_wp2
  refine bodyPost_ret (v := rpv k 0 ⟨#[]⟩) (by simp [results, Tryz.results25, go_sem, rpv, d0, d1, d2]) rfl ⟨rfl, ?_⟩
  repeat refine Below.setCell ?_ (by simp <;> omega) _
  exact ((Below.refl _ _).alloc (Nat.le_refl _) _).trans (hb1.mono (by simp))
theorem frame_in {w : World} (b : Nat) (s s2 : ByteArray) (e0 d0 : Int)
    (cX : ∀ wx, Below w.heap.size w wx → Calls Tryz.prog 48 #[.pointer (some ⟨b, 0, none⟩), .int .i64 1, .string s] wx fun e w' => e = .returned (.int .i64 0) ∧ Below wx.heap.size wx w')
    (cI : ∀ wx, Below w.heap.size w wx → Calls Tryz.prog 49 #[.pointer (some ⟨b, 0, none⟩), .string s] wx fun e w' => e = .returned (rpv e0 d0 s2) ∧ Below wx.heap.size wx w') :
    Calls Tryz.prog 25 #[.pointer (some ⟨b, 0, none⟩), .int .i64 1, .string s] w fun e w' => e = .returned (rpv e0 d0 s2) ∧ Below w.heap.size w w' := by
  have CX : Hid _ := cX
  have CI : Hid _ := cI
  clear cX cI
  unfold rpv at CI
  go_enter Tryz.func25, Tryz.ntmps25
  go_wp2_with fail
  refine Calls.mono (CX.out _ ((Below.refl _ _).alloc (Nat.le_refl _) _)) ?_; rintro e w1 ⟨rfl, hb1⟩
  have HW1 : Hid (Below w.heap.size w w1) := ((Below.refl w.heap.size w).alloc (Nat.le_refl _) _).trans (hb1.mono (by simp))
  have B0 := (hb1.block w.heap.size (by simp)).trans (alloc1 w _)
  have hz : w.heap.size < w1.heap.size := by have := hb1.size; simp at this; omega
  clear hb1
  have HB0 : Hid _ := B0
  clear B0
  go_wp2_with fail
  refine Calls.mono (CI.out _ HW1.out) ?_; rintro e w2 ⟨rfl, hb2⟩
  have B0 := (hb2.block w.heap.size hz).trans HB0.out
  obtain ⟨g0, g1, g2⟩ := cell3 B0
  have f0 := nofrz B0
  clear B0
  go_wp2
  refine bodyPost_ret (v := rpv e0 d0 s2) (by simp [results, Tryz.results25, go_sem, rpv, g0, g1, g2]) rfl ⟨rfl, ?_⟩
  repeat refine Below.setCell ?_ (by simp <;> omega) _
  exact HW1.out.trans (hb2.mono (by omega))
theorem frame_out {w : World} (b : Nat) (s s2 : ByteArray) (e0 d0 : Int)
    (cX : ∀ wx, Below w.heap.size w wx → Calls Tryz.prog 48 #[.pointer (some ⟨b, 0, none⟩), .int .i64 0, .string s] wx fun e w' => e = .returned (.int .i64 0) ∧ Below wx.heap.size wx w')
    (R : World → World → Prop)
    (cO : ∀ wx, Below w.heap.size w wx → Calls Tryz.prog 50 #[.pointer (some ⟨b, 0, none⟩), .string s] wx fun e w' => e = .returned (rpv e0 d0 s2) ∧ R wx w')
    (hR : ∀ wx w', R wx w' → ∀ k, w.heap.size ≤ k → k < wx.heap.size → w'.heap[k]? = wx.heap[k]?) (Q : World → Prop)
    (hQ : ∀ wx w1, Below w.heap.size w wx → w.heap.size < wx.heap.size → R wx w1 → ∀ u0 u1 u2, Q (((w1.setCell ⟨w.heap.size, 0, none⟩ u0).setCell ⟨w.heap.size, 1, none⟩ u1).setCell ⟨w.heap.size, 2, none⟩ u2)) :
    Calls Tryz.prog 25 #[.pointer (some ⟨b, 0, none⟩), .int .i64 0, .string s] w fun e w' => e = .returned (rpv e0 d0 s2) ∧ Q w' := by
  have CX : Hid _ := cX
  have CO : Hid _ := cO
  have HR : Hid _ := hR
  have HQ : Hid _ := hQ
  clear cX cO hR hQ
  unfold rpv at CO
  go_enter Tryz.func25, Tryz.ntmps25
  go_wp2_with fail
  refine Calls.mono (CX.out _ ((Below.refl _ _).alloc (Nat.le_refl _) _)) ?_; rintro e w1 ⟨rfl, hb1⟩
  have HW1 : Hid (Below w.heap.size w w1) := ((Below.refl w.heap.size w).alloc (Nat.le_refl _) _).trans (hb1.mono (by simp))
  have B0 := (hb1.block w.heap.size (by simp)).trans (alloc1 w _)
  have hz : w.heap.size < w1.heap.size := by have := hb1.size; simp at this; omega
  clear hb1
  have HB0 : Hid _ := B0
  clear B0
  go_wp2_with fail
  refine Calls.mono (CO.out _ HW1.out) ?_; rintro e w2 ⟨rfl, hr2⟩
  have B0 := (HR.out _ _ hr2 w.heap.size (Nat.le_refl _) hz).trans HB0.out
  obtain ⟨g0, g1, g2⟩ := cell3 B0
  have f0 := nofrz B0
  have HR2 : Hid _ := hr2
  clear B0 hr2
  go_wp2
  exact bodyPost_ret (v := rpv e0 d0 s2) (by simp [results, Tryz.results25, go_sem, rpv, g0, g1, g2]) rfl ⟨rfl, HQ.out _ _ HW1.out hz HR2.out _ _ _⟩
end Go.Proofs.YtgpbajpeldjomaaGreat
namespace Go.Proofs.YtgpbajpeldjomaaGreat
open Go.RowKit Plain
set_option linter.unusedVariables false

/-- a configuration's numbers -/
structure Cok (c : Cf) : Prop where
  ia : usB c.ia = true
  oa : usB c.oa = true
  ne : ¬ c.ia = c.oa
  l1 : 1 ≤ c.lo
  l2 : c.lo ≤ c.hi
  h2 : c.hi ≤ 65535
  c1 : 1 ≤ c.cp
  c2 : c.cp ≤ 64
theorem cok_of {c : Cf} (h : c.ok = true) : Cok c := by
  simp [Cf.ok, validB, endsB, portsB, inB, leB, neB] at h
  obtain ⟨⟨⟨⟨⟨h1, h2, h3⟩, ⟨h4, h5, h6⟩, h7, h8⟩, _⟩, _⟩, _⟩ := h
  exact ⟨h1, h2, h3, h4, h6, h5, h7, h8⟩
theorem chs_nil (c : Cf) (p own : Int) : chs c [] p own = if c.lo ≤ own ∧ own ≤ c.hi then own else c.lo := by simp [chs, fidx, gap]
theorem Left.own_ne {w w' : World} {base b o r : Nat} {ty : TypeId} {cur : Array Value} {v v' : Value} {ms ms' : List Mp} (T : Tb w base b o ty cur v ms) (h : Left w w' base b o ty cur v v' ms') (hr : r < w.heap.size) (hv : v.ownBlock ≠ some r) : v'.ownBlock ≠ some r := by
  intro e
  rcases h.own r e with g | g
  · exact hv g.symm
  · omega
set_option maxHeartbeats 1000000 in
theorem frame_first {w : World} {base b : Nat} {c : Cf} {tk ti : Int} {v : Value} (T : Bat w base b c tk ti v []) (C : Cok c) (s : ByteArray) (hs : s.size ≤ 65535) (hx : exam c 0 s = 0) (hk : chk s = 0) (he : isErr s = false) (hf : (lg s 16 == c.oa) = false) (hp : pss s c.om = 0) (x : Int) (hxx : x = chs c [] (bt s 9) (wd s (ppl s 0))) :
    Calls Tryz.prog 25 #[.pointer (some ⟨b, 0, none⟩), .int .i64 0, .string s] w fun e w' => e = .returned (rpv 0 1 (snt (wsrc s c.oa x))) ∧
      ∃ v', Left w w' base b 12 90 (bxc c v tk ti) v v' [(Mp.new (bt s 9) (lg s 12) (wd s (ppl s 0)) x).used (lg s 16) (if bt s 9 = 1 then 0 else wd s (ppl s 2)) (c.idle (bt s 9))] := by
  have hl : s.size ≤ maxLen := size_le hs
  have S := chk_sok hk
  have hpr := chk_pr hk
  have F := S.fit
  have hoa := us_bd C.oa
  have xb : 1 ≤ x ∧ x ≤ 65535 := by rw [hxx, chs_nil]; have := C.l1; have := C.l2; have := C.h2; split <;> omega
  have ht : ¬ bt s 8 ≤ 1 := fun h => by unfold pss at hp; rw [if_pos h] at hp; omega
  have hz := bdy_size F
  have hpl : ppl s 0 + 2 ≤ s.size := by
    have h8 : 8 ≤ (bdy s).size := by
      rcases hpr with e | e | e
      · have := S.u e; omega
      · have := S.t e; omega
      · exact S.i e
    have := F.tn
    unfold ppl; split <;> omega
  have z1 : (put s 12 (l4 c.oa)).size = s.size := put_size s 12 _ (by decide) (by rw [l4_size]; have := F.n20; omega)
  have S1 : Sok (put s 12 (l4 c.oa)) := sok_put S (by decide) (by rw [l4_size]; have := F.n20; omega) (by omega) (fun _ => .inl (by rw [l4_size]; have := F.h20; omega))
  have p1 : ppl (put s 12 (l4 c.oa)) 0 = ppl s 0 := by
    unfold ppl; rw [hdv_put (by decide) (by rw [l4_size]; have := F.n20; omega), bt_put_off (by decide) (by rw [l4_size]; have := F.n20; omega) (by omega)]
  have h1 : hdv (put s 12 (l4 c.oa)) = hdv s := hdv_put (by decide) (by rw [l4_size]; have := F.n20; omega)
  have g9 : bt (put s 12 (l4 c.oa)) 9 = bt s 9 := bt_put_off (by decide) (by rw [l4_size]; have := F.n20; omega) (by omega)
  have g8 : bt (put s 12 (l4 c.oa)) 8 = bt s 8 := bt_put_off (by decide) (by rw [l4_size]; have := F.n20; omega) (by omega)
  have pb := ppl_bd s 0 (by decide) (by decide)
  have h20 := F.h20
  have pge : 20 ≤ ppl s 0 := by unfold ppl; split <;> omega
  have S2 : Sok (wsrc s c.oa x) := by
    unfold wsrc
    rw [p1]
    refine sok_put S1 (by omega) (by rw [w2_size, z1]; omega) (by omega) (fun e => ?_)
    rw [g9] at e
    left
    rw [w2_size, h1]
    unfold ppl
    rw [if_neg (by omega)]
    omega
  have e9 : bt (wsrc s c.oa x) 9 = bt s 9 := by unfold wsrc; rw [p1, bt_put_off (by omega) (by rw [w2_size, z1]; omega) (by omega), g9]
  have e8 : bt (wsrc s c.oa x) 8 = bt s 8 := by unfold wsrc; rw [p1, bt_put_off (by omega) (by rw [w2_size, z1]; omega) (by omega), g8]
  have cF : ∀ wx, Below w.heap.size w wx → Calls Tryz.prog 90 #[.pointer (some ⟨b, 0, none⟩), .string s] wx fun e w' => e = .returned (.bool false) ∧ Below wx.heap.size wx w' := fun wx hb => by
    have := isForBox_core b s (lg s 16) c.oa wx (T.below hb).lt ((T.below hb).at 1 rfl) (fun w => destination_any s w hl)
    rw [hf] at this
    exact this
  have hu : ∀ wx, Bat wx base b c tk ti v [] → Calls Tryz.prog 93 #[.pointer (some ⟨b, 12, none⟩), .int .i64 (bt s 9), .agg #[.int .i64 (lg s 12), .int .i64 (wd s (ppl s 0))], .agg #[.int .i64 (lg s 16), .int .i64 (if bt s 9 = 1 then 0 else wd s (ppl s 2))], .int .i64 (c.idle (bt s 9))] wx
      fun e w' => e = .returned (.tuple #[.int .i64 x, .int .i64 0]) ∧ ∃ v', Left wx w' base b 12 90 (bxc c v tk ti) v v' [(Mp.new (bt s 9) (lg s 12) (wd s (ppl s 0)) x).used (lg s 16) (if bt s 9 = 1 then 0 else wd s (ppl s 2)) (c.idle (bt s 9))] := fun wx Tx => by
    refine use_open _ _ _ _ _ _ x 0 _ Tx.lt (fun wy hy => ?_) (fun wy hy => ?_)
    · have := findEndpoint_tb (Tx.below hy) (by simp) (bt s 9) (lg s 12) (wd s (ppl s 0))
      exact this
    · have Ty := Tx.below hy
      have := open_yes (ms' := [(Mp.new (bt s 9) (lg s 12) (wd s (ppl s 0)) x).used (lg s 16) (if bt s 9 = 1 then 0 else wd s (ppl s 2)) (c.idle (bt s 9))]) Ty (bxc_nums c v tk ti) (by have := C.l1; omega) (by have := C.l2; have := C.h2; omega) (by simp) (bt s 9) (lg s 12) (wd s (ppl s 0)) (lg s 16) (if bt s 9 = 1 then 0 else wd s (ppl s 2)) (c.idle (bt s 9))
        (by have := C.c1; simp; omega) (by rw [chs_nil]; have := C.l2; split <;> omega) (fun wz Tz => by rw [← hxx]; exact insert_empty b 12 base _ _ _ v wz Tz)
      rw [← hxx] at this
      exact this.mono fun e w' h => ⟨h.1, h.2.imp fun v' hl => Left.pre Tx hy hl⟩
  have ho : ∀ wx, Below w.heap.size w wx → Calls Tryz.prog 50 #[.pointer (some ⟨b, 0, none⟩), .string s] wx fun e w' => e = .returned (rpv 0 1 (snt (wsrc s c.oa x))) ∧
      ∃ v', Left wx w' base b 12 90 (bxc c v tk ti) v v' [(Mp.new (bt s 9) (lg s 12) (wd s (ppl s 0)) x).used (lg s 16) (if bt s 9 = 1 then 0 else wd s (ppl s 2)) (c.idle (bt s 9))] := fun wx hbx => by
    have Tx := T.below hbx
    have := outward_use Tx s (wsrc s c.oa x) (snt (wsrc s c.oa x)) c.om c.oa (bt s 9) (lg s 12) (wd s (ppl s 0)) (lg s 16) (if bt s 9 = 1 then 0 else wd s (ppl s 2)) (c.idle (bt s 9)) x rfl (by have := isErr_any s hl; rw [he] at this; exact this)
      (fun wy hy => cF wy (hbx.trans (hy.mono hbx.size)))
      (fun w => by have := passes_core s (bt s 8) (wd s 2) c.om w (fun w => ttl_any s w hl) (fun w => totalLength_any s w hl) (pss s c.om) rfl; rw [hp] at this; exact this)
      (fun w => protocol_any s w hl) (fun w => source2_any s w hl) (fun w => peer_any s w hl)
      (fun wy hy => idle_core b (bt s 9) c.iu c.it c.iq wy ((Tx.below hy).at 7 rfl) ((Tx.below hy).at 8 rfl) ((Tx.below hy).at 9 rfl) _ rfl)
      (fun wy w' => Bat wy base b c tk ti v [] ∧ ∃ v', Left wy w' base b 12 90 (bxc c v tk ti) v v' [(Mp.new (bt s 9) (lg s 12) (wd s (ppl s 0)) x).used (lg s 16) (if bt s 9 = 1 then 0 else wd s (ppl s 2)) (c.idle (bt s 9))])
      (fun wy hy => (hu wy (Tx.below hy)).mono fun e w' h => ⟨h.1, Tx.below hy, h.2⟩)
      (fun wy w' h => ?_)
      ⟨fun w => wsrc_any s c.oa x w F hpl hoa.1 hoa.2 (by omega) (by omega), fun w => sent_any _ w S2 (by rw [e8]; omega) (by rw [e9]; exact hpr)⟩
      (fun w' => ∃ v', Left wx w' base b 12 90 (bxc c v tk ti) v v' [(Mp.new (bt s 9) (lg s 12) (wd s (ppl s 0)) x).used (lg s 16) (if bt s 9 = 1 then 0 else wd s (ppl s 2)) (c.idle (bt s 9))])
      (fun wy w1 w2 hy hlt h hb2 u0 u1 u2 => ?_)
    · exact this
    · obtain ⟨Ty, v', hL⟩ := h
      refine ⟨hL.chg.size, fun k h1 h2 => hL.chg.block k h2 (by have := Tx.lt; omega) (fun e => ?_), hL.tb.at 1 rfl⟩
      have := Tx.own_lt k e.symm
      omega
    · obtain ⟨Ty, v', hL⟩ := h
      have hne : v'.ownBlock ≠ some wx.heap.size := Left.own_ne Ty hL hlt (fun e => by have := Tx.own_lt _ e; omega)
      have L0 := (Left.pre Tx hy hL).grow Tx.lt hb2
      exact ⟨v', ((L0.store Tx.lt (p := ⟨wx.heap.size, 0, none⟩) (Nat.le_refl _) hne u0).store Tx.lt (p := ⟨wx.heap.size, 1, none⟩) (Nat.le_refl _) hne u1).store Tx.lt (p := ⟨wx.heap.size, 2, none⟩) (Nat.le_refl _) hne u2⟩
  refine frame_out b s (snt (wsrc s c.oa x)) 0 1 (fun wx hb => by have := examine_any (T.below hb) 0 s hl; rw [hx] at this; exact this)
    (fun wy w' => Bat wy base b c tk ti v [] ∧ ∃ v', Left wy w' base b 12 90 (bxc c v tk ti) v v' [(Mp.new (bt s 9) (lg s 12) (wd s (ppl s 0)) x).used (lg s 16) (if bt s 9 = 1 then 0 else wd s (ppl s 2)) (c.idle (bt s 9))])
    (fun wx hb => (ho wx hb).mono fun e w' h => ⟨h.1, T.below hb, h.2⟩) (fun wy w' h k h1 h2 => ?_) _ (fun wy w1 hy hlt h u0 u1 u2 => ?_)
  · obtain ⟨Ty, v', hL⟩ := h
    exact hL.chg.block k h2 (by have := T.lt; omega) (fun e => by have := T.own_lt k e.symm; omega)
  · obtain ⟨Ty, v', hL⟩ := h
    have hne : v'.ownBlock ≠ some w.heap.size := Left.own_ne Ty hL hlt (fun e => by have := T.own_lt _ e; omega)
    have L0 := Left.pre T hy hL
    exact ⟨v', ((L0.store T.lt (p := ⟨w.heap.size, 0, none⟩) (Nat.le_refl _) hne u0).store T.lt (p := ⟨w.heap.size, 1, none⟩) (Nat.le_refl _) hne u1).store T.lt (p := ⟨w.heap.size, 2, none⟩) (Nat.le_refl _) hne u2⟩
end Go.Proofs.YtgpbajpeldjomaaGreat
