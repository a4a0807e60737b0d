/-
  CONTRACTS: package natbox: Frame, of any box.
-/
import Derived.Test.YthiljpbodmajaabGreatBoxi
import Derived.Test.YthiljpbodmajaabGreatUsea
import Derived.Test.YthiljpbodmajaabGreatBoxr
import Derived.Test.YthiljpbodmajaabGreatPlain
namespace Go.Proofs.YthiljpbodmajaabGreat
open Go.RowKit Plain
set_option linter.unusedVariables false

theorem frame_no (b : Nat) (d : Int) (s : ByteArray) (k : Int) (w : World) (hk : (k != 0) = true)
    (cX : ∀ wx, Below w.heap.size w wx → Calls Tryz.prog 47 #[.pointer (some ⟨b, 0, none⟩), .int .i64 d, .string s] wx fun e w' => e = .returned (.int .i64 k) ∧ Below wx.heap.size wx w') :
    Calls Tryz.prog 18 #[.pointer (some ⟨b, 0, none⟩), .int .i64 d, .string s] w fun e w' => e = .returned (rpv k 0 ⟨#[]⟩) ∧ Below w.heap.size w w' := by
  have CX : Hid _ := cX
  clear cX
  go_enter Tryz.func18, Tryz.ntmps18
  go_wp2_with fail
  refine Calls.mono (CX.out _ ((Below.refl _ _).alloc (Nat.le_refl _) _)) ?_; rintro e w1 ⟨rfl, hb1⟩
  have B0 := (hb1.block w.heap.size (by simp)).trans (alloc1 w _)
  obtain ⟨d0, d1, d2⟩ := cell3 B0
  have f0 := nofrz B0
  clear B0
  go_wp2
  refine bodyPost_ret (v := rpv k 0 ⟨#[]⟩) (by simp [results, Tryz.results18, go_sem, rpv, d0, d1, d2]) rfl ⟨rfl, ?_⟩
  repeat refine Below.setCell ?_ (by simp <;> omega) _
  exact ((Below.refl _ _).alloc (Nat.le_refl _) _).trans (hb1.mono (by simp))
theorem frame_msg {w : World} (b : Nat) (s : ByteArray) (e0 d0 : Int) (s2 : ByteArray) (d : Int)
    (cX : ∀ wx, Below w.heap.size w wx → Calls Tryz.prog 47 #[.pointer (some ⟨b, 0, none⟩), .int .i64 d, .string s] wx fun e w' => e = .returned (.int .i64 0) ∧ Below wx.heap.size wx w')
    (cE : Ret 48 #[.string s] (.bool true))
    (R : World → World → Prop)
    (cO : ∀ wx, Below w.heap.size w wx → Calls Tryz.prog 49 #[.pointer (some ⟨b, 0, none⟩), .int .i64 d, .string s] wx fun e w' => e = .returned (rpv e0 d0 s2) ∧ R wx w')
    (hR : ∀ wx w', R wx w' → ∀ k, w.heap.size ≤ k → k < wx.heap.size → w'.heap[k]? = wx.heap[k]?) (Q : World → Prop)
    (hQ : ∀ wx w1, Below w.heap.size w wx → w.heap.size < wx.heap.size → R wx w1 → ∀ u0 u1 u2, Q (((w1.setCell ⟨w.heap.size, 0, none⟩ u0).setCell ⟨w.heap.size, 1, none⟩ u1).setCell ⟨w.heap.size, 2, none⟩ u2)) :
    Calls Tryz.prog 18 #[.pointer (some ⟨b, 0, none⟩), .int .i64 d, .string s] w fun e w' => e = .returned (rpv e0 d0 s2) ∧ Q w' := by
  have CX : Hid _ := cX
  unfold rpv at cO
  have CO : Hid _ := cO
  have HR : Hid _ := hR
  have HQ : Hid _ := hQ
  clear cX cO hR hQ
  go_enter Tryz.func18, Tryz.ntmps18
  go_wp2_with fail
  refine Calls.mono (CX.out _ ((Below.refl _ _).alloc (Nat.le_refl _) _)) ?_; rintro e w1 ⟨rfl, hb1⟩
  have HW1 : Hid (Below w.heap.size w w1) := ((Below.refl w.heap.size w).alloc (Nat.le_refl _) _).trans (hb1.mono (by simp))
  have HB0 : Hid _ := (hb1.block w.heap.size (by simp)).trans (alloc1 w _)
  have hz : w.heap.size < w1.heap.size := by have := hb1.size; simp at this; omega
  clear hb1
  go_wp2_with fail
  refine Calls.mono (cE.at _) ?_; rintro e w' ⟨rfl, hw⟩; replace hw := hw.symm; subst hw
  go_wp2_with fail
  refine Calls.mono (CO.out _ HW1.out) ?_; rintro e w2 ⟨rfl, hr2⟩
  have B0 := (HR.out _ _ hr2 w.heap.size (Nat.le_refl _) hz).trans HB0.out
  obtain ⟨g0, g1, g2⟩ := cell3 B0
  have f0 := nofrz B0
  have HR2 : Hid _ := hr2
  clear B0 hr2
  go_wp2
  exact bodyPost_ret (v := rpv e0 d0 s2) (by simp [results, Tryz.results18, go_sem, rpv, g0, g1, g2]) rfl ⟨rfl, HQ.out _ _ HW1.out hz HR2.out _ _ _⟩
theorem frame_in {w : World} (b : Nat) (s : ByteArray) (e0 d0 : Int) (s2 : ByteArray)
    (cX : ∀ wx, Below w.heap.size w wx → Calls Tryz.prog 47 #[.pointer (some ⟨b, 0, none⟩), .int .i64 1, .string s] wx fun e w' => e = .returned (.int .i64 0) ∧ Below wx.heap.size wx w')
    (cE : Ret 48 #[.string s] (.bool false))
    (R : World → World → Prop)
    (cO : ∀ wx, Below w.heap.size w wx → Calls Tryz.prog 50 #[.pointer (some ⟨b, 0, none⟩), .string s] wx fun e w' => e = .returned (rpv e0 d0 s2) ∧ R wx w')
    (hR : ∀ wx w', R wx w' → ∀ k, w.heap.size ≤ k → k < wx.heap.size → w'.heap[k]? = wx.heap[k]?) (Q : World → Prop)
    (hQ : ∀ wx w1, Below w.heap.size w wx → w.heap.size < wx.heap.size → R wx w1 → ∀ u0 u1 u2, Q (((w1.setCell ⟨w.heap.size, 0, none⟩ u0).setCell ⟨w.heap.size, 1, none⟩ u1).setCell ⟨w.heap.size, 2, none⟩ u2)) :
    Calls Tryz.prog 18 #[.pointer (some ⟨b, 0, none⟩), .int .i64 1, .string s] w fun e w' => e = .returned (rpv e0 d0 s2) ∧ Q w' := by
  have CX : Hid _ := cX
  unfold rpv at cO
  have CO : Hid _ := cO
  have HR : Hid _ := hR
  have HQ : Hid _ := hQ
  clear cX cO hR hQ
  go_enter Tryz.func18, Tryz.ntmps18
  go_wp2_with fail
  refine Calls.mono (CX.out _ ((Below.refl _ _).alloc (Nat.le_refl _) _)) ?_; rintro e w1 ⟨rfl, hb1⟩
  have HW1 : Hid (Below w.heap.size w w1) := ((Below.refl w.heap.size w).alloc (Nat.le_refl _) _).trans (hb1.mono (by simp))
  have HB0 : Hid _ := (hb1.block w.heap.size (by simp)).trans (alloc1 w _)
  have hz : w.heap.size < w1.heap.size := by have := hb1.size; simp at this; omega
  clear hb1
  go_wp2_with fail
  refine Calls.mono (cE.at _) ?_; rintro e w' ⟨rfl, hw⟩; replace hw := hw.symm; subst hw
  go_wp2_with fail
  refine Calls.mono (CO.out _ HW1.out) ?_; rintro e w2 ⟨rfl, hr2⟩
  have B0 := (HR.out _ _ hr2 w.heap.size (Nat.le_refl _) hz).trans HB0.out
  obtain ⟨g0, g1, g2⟩ := cell3 B0
  have f0 := nofrz B0
  have HR2 : Hid _ := hr2
  clear B0 hr2
  go_wp2
  exact bodyPost_ret (v := rpv e0 d0 s2) (by simp [results, Tryz.results18, go_sem, rpv, g0, g1, g2]) rfl ⟨rfl, HQ.out _ _ HW1.out hz HR2.out _ _ _⟩
theorem frame_back {w : World} (b : Nat) (s : ByteArray) (e0 d0 : Int) (s2 : ByteArray)
    (cX : ∀ wx, Below w.heap.size w wx → Calls Tryz.prog 47 #[.pointer (some ⟨b, 0, none⟩), .int .i64 0, .string s] wx fun e w' => e = .returned (.int .i64 0) ∧ Below wx.heap.size wx w')
    (cE : Ret 48 #[.string s] (.bool false)) (cF : ∀ wx, Below w.heap.size w wx → Calls Tryz.prog 51 #[.pointer (some ⟨b, 0, none⟩), .string s] wx fun e w' => e = .returned (.bool true) ∧ Below wx.heap.size wx w')
    (R : World → World → Prop)
    (cO : ∀ wx, Below w.heap.size w wx → Calls Tryz.prog 52 #[.pointer (some ⟨b, 0, none⟩), .string s] wx fun e w' => e = .returned (rpv e0 d0 s2) ∧ R wx w')
    (hR : ∀ wx w', R wx w' → ∀ k, w.heap.size ≤ k → k < wx.heap.size → w'.heap[k]? = wx.heap[k]?) (Q : World → Prop)
    (hQ : ∀ wx w1, Below w.heap.size w wx → w.heap.size < wx.heap.size → R wx w1 → ∀ u0 u1 u2, Q (((w1.setCell ⟨w.heap.size, 0, none⟩ u0).setCell ⟨w.heap.size, 1, none⟩ u1).setCell ⟨w.heap.size, 2, none⟩ u2)) :
    Calls Tryz.prog 18 #[.pointer (some ⟨b, 0, none⟩), .int .i64 0, .string s] w fun e w' => e = .returned (rpv e0 d0 s2) ∧ Q w' := by
  have CX : Hid _ := cX
  unfold rpv at cO
  have CO : Hid _ := cO
  have HR : Hid _ := hR
  have HQ : Hid _ := hQ
  clear cX cO hR hQ
  have CF : Hid _ := cF
  clear cF
  go_enter Tryz.func18, Tryz.ntmps18
  go_wp2_with fail
  refine Calls.mono (CX.out _ ((Below.refl _ _).alloc (Nat.le_refl _) _)) ?_; rintro e w1 ⟨rfl, hb1⟩
  have HW1 : Hid (Below w.heap.size w w1) := ((Below.refl w.heap.size w).alloc (Nat.le_refl _) _).trans (hb1.mono (by simp))
  have HB0 : Hid _ := (hb1.block w.heap.size (by simp)).trans (alloc1 w _)
  have hz : w.heap.size < w1.heap.size := by have := hb1.size; simp at this; omega
  clear hb1
  go_wp2_with fail
  refine Calls.mono (cE.at _) ?_; rintro e w' ⟨rfl, hw⟩; replace hw := hw.symm; subst hw
  go_wp2_with fail
  refine Calls.mono (CF.out _ HW1.out) ?_; rintro e wf ⟨rfl, hbf⟩
  replace HW1 : Hid (Below w.heap.size w wf) := HW1.out.trans (hbf.mono (by omega))
  replace HB0 : Hid _ := (hbf.block w.heap.size hz).trans HB0.out
  replace hz : w.heap.size < wf.heap.size := by have := hbf.size; omega
  clear hbf
  go_wp2_with fail
  refine Calls.mono (CO.out _ HW1.out) ?_; rintro e w2 ⟨rfl, hr2⟩
  have B0 := (HR.out _ _ hr2 w.heap.size (Nat.le_refl _) hz).trans HB0.out
  obtain ⟨g0, g1, g2⟩ := cell3 B0
  have f0 := nofrz B0
  have HR2 : Hid _ := hr2
  clear B0 hr2
  go_wp2
  exact bodyPost_ret (v := rpv e0 d0 s2) (by simp [results, Tryz.results18, go_sem, rpv, g0, g1, g2]) rfl ⟨rfl, HQ.out _ _ HW1.out hz HR2.out _ _ _⟩
theorem frame_out {w : World} (b : Nat) (s : ByteArray) (e0 d0 : Int) (s2 : ByteArray)
    (cX : ∀ wx, Below w.heap.size w wx → Calls Tryz.prog 47 #[.pointer (some ⟨b, 0, none⟩), .int .i64 0, .string s] wx fun e w' => e = .returned (.int .i64 0) ∧ Below wx.heap.size wx w')
    (cE : Ret 48 #[.string s] (.bool false)) (cF : ∀ wx, Below w.heap.size w wx → Calls Tryz.prog 51 #[.pointer (some ⟨b, 0, none⟩), .string s] wx fun e w' => e = .returned (.bool false) ∧ Below wx.heap.size wx w')
    (R : World → World → Prop)
    (cO : ∀ wx, Below w.heap.size w wx → Calls Tryz.prog 53 #[.pointer (some ⟨b, 0, none⟩), .string s] wx fun e w' => e = .returned (rpv e0 d0 s2) ∧ R wx w')
    (hR : ∀ wx w', R wx w' → ∀ k, w.heap.size ≤ k → k < wx.heap.size → w'.heap[k]? = wx.heap[k]?) (Q : World → Prop)
    (hQ : ∀ wx w1, Below w.heap.size w wx → w.heap.size < wx.heap.size → R wx w1 → ∀ u0 u1 u2, Q (((w1.setCell ⟨w.heap.size, 0, none⟩ u0).setCell ⟨w.heap.size, 1, none⟩ u1).setCell ⟨w.heap.size, 2, none⟩ u2)) :
    Calls Tryz.prog 18 #[.pointer (some ⟨b, 0, none⟩), .int .i64 0, .string s] w fun e w' => e = .returned (rpv e0 d0 s2) ∧ Q w' := by
  have CX : Hid _ := cX
  unfold rpv at cO
  have CO : Hid _ := cO
  have HR : Hid _ := hR
  have HQ : Hid _ := hQ
  clear cX cO hR hQ
  have CF : Hid _ := cF
  clear cF
  go_enter Tryz.func18, Tryz.ntmps18
  go_wp2_with fail
  refine Calls.mono (CX.out _ ((Below.refl _ _).alloc (Nat.le_refl _) _)) ?_; rintro e w1 ⟨rfl, hb1⟩
  have HW1 : Hid (Below w.heap.size w w1) := ((Below.refl w.heap.size w).alloc (Nat.le_refl _) _).trans (hb1.mono (by simp))
  have HB0 : Hid _ := (hb1.block w.heap.size (by simp)).trans (alloc1 w _)
  have hz : w.heap.size < w1.heap.size := by have := hb1.size; simp at this; omega
  clear hb1
  go_wp2_with fail
  refine Calls.mono (cE.at _) ?_; rintro e w' ⟨rfl, hw⟩; replace hw := hw.symm; subst hw
  go_wp2_with fail
  refine Calls.mono (CF.out _ HW1.out) ?_; rintro e wf ⟨rfl, hbf⟩
  replace HW1 : Hid (Below w.heap.size w wf) := HW1.out.trans (hbf.mono (by omega))
  replace HB0 : Hid _ := (hbf.block w.heap.size hz).trans HB0.out
  replace hz : w.heap.size < wf.heap.size := by have := hbf.size; omega
  clear hbf
  go_wp2_with fail
  refine Calls.mono (CO.out _ HW1.out) ?_; rintro e w2 ⟨rfl, hr2⟩
  have B0 := (HR.out _ _ hr2 w.heap.size (Nat.le_refl _) hz).trans HB0.out
  obtain ⟨g0, g1, g2⟩ := cell3 B0
  have f0 := nofrz B0
  have HR2 : Hid _ := hr2
  clear B0 hr2
  go_wp2
  exact bodyPost_ret (v := rpv e0 d0 s2) (by simp [results, Tryz.results18, go_sem, rpv, g0, g1, g2]) rfl ⟨rfl, HQ.out _ _ HW1.out hz HR2.out _ _ _⟩
end Go.Proofs.YthiljpbodmajaabGreat
namespace Go.Proofs.YthiljpbodmajaabGreat
open Go.RowKit Plain
set_option linter.unusedVariables false

/-- a configuration's numbers -/
structure Cok (c : Cf) : Prop where
  ia : usB c.ia = true
  oa : usB c.oa = true
  ne : ¬ c.ia = c.oa
  l1 : 1 ≤ c.lo
  l2 : c.lo ≤ c.hi
  h2 : c.hi ≤ 65535
  c1 : 1 ≤ c.cp
  c2 : c.cp ≤ 64
theorem cok_of {c : Cf} (h : c.ok = true) : Cok c := by
  simp [Cf.ok, validB, endsB, portsB, inB, leB, neB] at h
  obtain ⟨⟨⟨⟨⟨h1, h2, h3⟩, ⟨h4, h5, h6⟩, h7, h8⟩, _⟩, _⟩, _⟩ := h
  exact ⟨h1, h2, h3, h4, h6, h5, h7, h8⟩
theorem Left.own_ne {w w' : World} {base b o r : Nat} {ty : TypeId} {cur : Array Value} {v v' : Value} {ms ms' : List Mp} (T : Tb w base b o ty cur v ms) (h : Left w w' base b o ty cur v v' ms') (hr : r < w.heap.size) (hv : v.ownBlock ≠ some r) : v'.ownBlock ≠ some r := by
  intro e
  rcases h.own r e with g | g
  · exact hv g.symm
  · omega
end Go.Proofs.YthiljpbodmajaabGreat
namespace Go.Proofs.YthiljpbodmajaabGreat
open Go.RowKit Plain
set_option linter.unusedVariables false

theorem chk_b8 {s : ByteArray} (hk : chk s = 0) : 8 ≤ (bdy s).size := by
  have S := chk_sok hk
  rcases chk_pr hk with e | e | e
  · have := S.u e; omega
  · have := S.t e; omega
  · exact S.i e
theorem chk_h8 {s : ByteArray} (hk : chk s = 0) : hdv s + 8 ≤ s.size := by
  have S := chk_sok hk
  have := bdy_size S.fit; have := S.fit.tn; have := chk_b8 hk
  omega
/-- a frame with another source can be sent -/
theorem wsrc_ok {s : ByteArray} (S : Sok s) (h8 : 8 ≤ (bdy s).size) (a x : Int) : Sok (wsrc s a x) ∧ bt (wsrc s a x) 9 = bt s 9 ∧ bt (wsrc s a x) 8 = bt s 8 ∧ (wsrc s a x).size = s.size ∧ ppl s 0 + 2 ≤ s.size ∧ hdv (wsrc s a x) = hdv s ∧ (bdy (wsrc s a x)).size = (bdy s).size := by
  have F := S.fit
  have hz := bdy_size F
  have hpl : ppl s 0 + 2 ≤ s.size := by have := F.tn; unfold ppl; split <;> omega
  have z1 : (put s 12 (l4 a)).size = s.size := put_size s 12 _ (by decide) (by rw [l4_size]; have := F.n20; omega)
  have S1 : Sok (put s 12 (l4 a)) := sok_put S (by decide) (by rw [l4_size]; have := F.n20; omega) (by omega) (fun _ => .inl (by rw [l4_size]; have := F.h20; omega))
  have p1 : ppl (put s 12 (l4 a)) 0 = ppl s 0 := by
    unfold ppl; rw [hdv_put (by decide) (by rw [l4_size]; have := F.n20; omega), bt_put_off (by decide) (by rw [l4_size]; have := F.n20; omega) (by omega)]
  have h1 : hdv (put s 12 (l4 a)) = hdv s := hdv_put (by decide) (by rw [l4_size]; have := F.n20; omega)
  have g9 : bt (put s 12 (l4 a)) 9 = bt s 9 := bt_put_off (by decide) (by rw [l4_size]; have := F.n20; omega) (by omega)
  have g8 : bt (put s 12 (l4 a)) 8 = bt s 8 := bt_put_off (by decide) (by rw [l4_size]; have := F.n20; omega) (by omega)
  have pb := ppl_bd s 0 (by decide) (by decide)
  have h20 := F.h20
  have pge : 20 ≤ ppl s 0 := by unfold ppl; split <;> omega
  have b1' : (bdy (put s 12 (l4 a))).size = (bdy s).size := bdy_put_size F (by decide) (by rw [l4_size]; have := F.n20; omega)
  have b2' : (bdy (put (put s 12 (l4 a)) (ppl s 0) (w2 x))).size = (bdy s).size := by rw [bdy_put_size S1.fit (by omega) (by rw [w2_size, z1]; omega), b1']
  refine ⟨?_, ?_, ?_, ?_, hpl, ?_, ?_⟩
  · unfold wsrc
    rw [p1]
    refine sok_put S1 (by omega) (by rw [w2_size, z1]; omega) (by omega) (fun e => ?_)
    rw [g9] at e
    left
    rw [w2_size, h1]
    unfold ppl
    rw [if_neg (by omega)]
    omega
  · unfold wsrc; rw [p1, bt_put_off (by omega) (by rw [w2_size, z1]; omega) (by omega), g9]
  · unfold wsrc; rw [p1, bt_put_off (by omega) (by rw [w2_size, z1]; omega) (by omega), g8]
  · unfold wsrc; rw [p1, put_size _ _ _ (by omega) (by rw [w2_size, z1]; omega), z1]
  · unfold wsrc; rw [p1, hdv_put (by omega) (by rw [w2_size, z1]; omega), h1]
  · unfold wsrc; rw [p1, b2']
/-- a frame with another destination can be sent -/
theorem wdst_ok {s : ByteArray} (S : Sok s) (h8 : 8 ≤ (bdy s).size) (a x : Int) : Sok (wdst s a x) ∧ bt (wdst s a x) 9 = bt s 9 ∧ bt (wdst s a x) 8 = bt s 8 ∧ (wdst s a x).size = s.size ∧ ppl s 2 + 2 ≤ s.size ∧ hdv (wdst s a x) = hdv s ∧ (bdy (wdst s a x)).size = (bdy s).size := by
  have F := S.fit
  have hz := bdy_size F
  have hpl : ppl s 2 + 2 ≤ s.size := by have := F.tn; unfold ppl; split <;> omega
  have z1 : (put s 16 (l4 a)).size = s.size := put_size s 16 _ (by decide) (by rw [l4_size]; have := F.n20; omega)
  have S1 : Sok (put s 16 (l4 a)) := sok_put S (by decide) (by rw [l4_size]; have := F.n20; omega) (by omega) (fun _ => .inl (by rw [l4_size]; have := F.h20; omega))
  have p1 : ppl (put s 16 (l4 a)) 2 = ppl s 2 := by
    unfold ppl; rw [hdv_put (by decide) (by rw [l4_size]; have := F.n20; omega), bt_put_off (by decide) (by rw [l4_size]; have := F.n20; omega) (by omega)]
  have h1 : hdv (put s 16 (l4 a)) = hdv s := hdv_put (by decide) (by rw [l4_size]; have := F.n20; omega)
  have g9 : bt (put s 16 (l4 a)) 9 = bt s 9 := bt_put_off (by decide) (by rw [l4_size]; have := F.n20; omega) (by omega)
  have g8 : bt (put s 16 (l4 a)) 8 = bt s 8 := bt_put_off (by decide) (by rw [l4_size]; have := F.n20; omega) (by omega)
  have pb := ppl_bd s 2 (by decide) (by decide)
  have h20 := F.h20
  have pge : 20 ≤ ppl s 2 := by unfold ppl; split <;> omega
  have b1' : (bdy (put s 16 (l4 a))).size = (bdy s).size := bdy_put_size F (by decide) (by rw [l4_size]; have := F.n20; omega)
  have b2' : (bdy (put (put s 16 (l4 a)) (ppl s 2) (w2 x))).size = (bdy s).size := by rw [bdy_put_size S1.fit (by omega) (by rw [w2_size, z1]; omega), b1']
  refine ⟨?_, ?_, ?_, ?_, hpl, ?_, ?_⟩
  · unfold wdst
    rw [p1]
    refine sok_put S1 (by omega) (by rw [w2_size, z1]; omega) (by omega) (fun e => ?_)
    rw [g9] at e
    left
    rw [w2_size, h1]
    unfold ppl
    rw [if_neg (by omega)]
    omega
  · unfold wdst; rw [p1, bt_put_off (by omega) (by rw [w2_size, z1]; omega) (by omega), g9]
  · unfold wdst; rw [p1, bt_put_off (by omega) (by rw [w2_size, z1]; omega) (by omega), g8]
  · unfold wdst; rw [p1, put_size _ _ _ (by omega) (by rw [w2_size, z1]; omega), z1]
  · unfold wdst; rw [p1, hdv_put (by omega) (by rw [w2_size, z1]; omega), h1]
  · unfold wdst; rw [p1, b2']
theorem cok_rest {c : Cf} (h : c.ok = true) : (0 ≤ c.bu ∧ c.bu ≤ 100) ∧ (0 ≤ c.ra ∧ c.ra ≤ 100) ∧ (1 ≤ c.iu ∧ c.iu ≤ 100000) ∧ (1 ≤ c.it ∧ c.it ≤ 100000) ∧ (1 ≤ c.iq ∧ c.iq ≤ 100000) := by
  simp [Cf.ok, validB, endsB, portsB, mtusB, idlesB, tailB, inB, leB, neB] at h
  omega
theorem cok_mtus {c : Cf} (h : c.ok = true) : (100 ≤ c.im ∧ c.im ≤ 65535) ∧ (100 ≤ c.om ∧ c.om ≤ 65535) := by
  simp [Cf.ok, validB, endsB, portsB, mtusB, idlesB, tailB, inB, leB, neB] at h
  omega
theorem idle_bd {c : Cf} (h : c.ok = true) (p : Int) : 1 ≤ c.idle p ∧ c.idle p ≤ 100000 := by
  have := cok_rest h
  unfold Cf.idle
  split
  · exact this.2.2.1
  · split
    · exact this.2.2.2.1
    · exact this.2.2.2.2
/-- the peer's port -/
def ppr (s : ByteArray) : Int := if bt s 9 = 1 then 0 else wd s (ppl s 2)
/-- what becomes of a frame's source -/
def fromB (c : Cf) (ms : List Mp) (s : ByteArray) : Option (Int × List Mp) := use c ms (bt s 9) (lg s 12) (wd s (ppl s 0)) (lg s 16) (ppr s) (c.idle (bt s 9))
theorem fromB_tok {c : Cf} {ms ms' : List Mp} {s : ByteArray} {x : Int} (G : c.ok = true) (K : Tok c ms) (h : fromB c ms s = some (x, ms')) : Tok c ms' ∧ 1 ≤ x ∧ x ≤ 65535 := by
  have C := cok_of G
  have h1 := lg_bd s 12
  have h2 := wd_bd s (ppl s 0)
  have h3 := idle_bd G (bt s 9)
  exact use_tok K C.l1 C.h2 h1.1 h1.2 h2.1 (by omega) h3.1 h3.2 h
section
variable {w : World} {base b : Nat} {c : Cf} {tk ti : Int} {v : Value} {ms : List Mp}
theorem fromBox_none (T : Bat w base b c tk ti v ms) (G : c.ok = true) (K : Tok c ms) (s : ByteArray) (hs : s.size ≤ 65535) (h : fromB c ms s = none) :
    Calls Tryz.prog 89 #[.pointer (some ⟨b, 0, none⟩), .string s] w fun e w' => e = .returned (.tuple #[.string ⟨#[]⟩, .int .i64 11]) ∧ Below w.heap.size w w' := by
  have C := cok_of G
  have hl : s.size ≤ maxLen := size_le hs
  exact fromBox_no b s (bt s 9) (lg s 12) (wd s (ppl s 0)) (lg s 16) (ppr s) (c.idle (bt s 9)) 0 11 T.lt (fun w => protocol_any s w hl) (fun w => source2_any s w hl) (fun w => peer_any s w hl)
    (fun wy hy => idle_core b (bt s 9) c.iu c.it c.iq wy ((T.below hy).at 7 rfl) ((T.below hy).at 8 rfl) ((T.below hy).at 9 rfl) _ rfl)
    (fun wy w' => Below wy.heap.size wy w')
    (fun wy hy => use_none (T.below hy) (bxc_nums c v tk ti) K (by have := C.l1; omega) (by have := C.l2; have := C.h2; omega) C.c2 _ _ _ _ _ _ h)
    (fun _ _ _ => trivial) (by decide) _ (fun wx w1 w2 h1 h2 h3 => (h1.trans (h2.mono h1.size)).trans (h3.mono (by have := h1.size; have := h2.size; omega)))
theorem fromBox_some (T : Bat w base b c tk ti v ms) (G : c.ok = true) (K : Tok c ms) (s : ByteArray) (S : Sok s) (h8 : 8 ≤ (bdy s).size) (x : Int) (ms' : List Mp) (h : fromB c ms s = some (x, ms')) :
    Calls Tryz.prog 89 #[.pointer (some ⟨b, 0, none⟩), .string s] w fun e w' => e = .returned (.tuple #[.string (wsrc s c.oa x), .int .i64 0]) ∧ ∃ v', BL w w' base b c v v' tk ti ms' := by
  have C := cok_of G
  have hoa := us_bd C.oa
  have hl : s.size ≤ maxLen := size_le S.fit.n64
  have X := fromB_tok G K h
  have W := wsrc_ok S h8 c.oa x
  exact fromBox_yes b s _ c.oa (bt s 9) (lg s 12) (wd s (ppl s 0)) (lg s 16) (ppr s) (c.idle (bt s 9)) x T.lt (fun w => protocol_any s w hl) (fun w => source2_any s w hl) (fun w => peer_any s w hl)
    (fun wy hy => idle_core b (bt s 9) c.iu c.it c.iq wy ((T.below hy).at 7 rfl) ((T.below hy).at 8 rfl) ((T.below hy).at 9 rfl) _ rfl)
    (fun wy w' => ∃ v', BL wy w' base b c v v' tk ti ms')
    (fun wy hy => (use_some (T.below hy) (bxc_nums c v tk ti) K (by have := C.l1; omega) (by have := C.l2; have := C.h2; omega) C.c2 _ _ _ _ _ _ x h).mono fun e w' g => ⟨g.1, g.2.imp fun v' hl => Left.bl hl⟩)
    (fun wy w' g => by obtain ⟨v', hv⟩ := g; exact hv.bat.at 1 rfl)
    (fun w => wsrc_any s c.oa x w S.fit W.2.2.2.2.1 hoa.1 hoa.2 (by omega) (by omega)) _
    (fun wx w1 w2 h1 h2 h3 => h2.imp fun v' hv => (BL.pre h1 hv).grow h3)
/-- what goes out -/
def outR (c : Cf) (tk : Int) (ms : List Mp) (s : ByteArray) : Rp :=
  if pss s c.om = 0 then
    match fromB c ms s with
    | none => rfs c 11 0 c.om tk ms s
    | some (x, ms') => ⟨0, 1, snt (wsrc s c.oa x), tk, ms'⟩
  else rfs c (pss s c.om) 0 c.om tk ms s
/-- the mapping that is asked for -/
def askM (ms : List Mp) (s : ByteArray) : Option Mp := ms[ms.findIdx (·.has (bt s 9) (wd s (ppl s 2)))]?
/-- what comes in -/
def inR (c : Cf) (tk : Int) (ms : List Mp) (s : ByteArray) : Rp :=
  match askM ms s with
  | none => ⟨8, 0, ⟨#[]⟩, tk, ms⟩
  | some m => if pss s c.im = 0 then ⟨0, 0, snt (wdst s m.ea m.ep), tk, ms⟩ else rfs c (pss s c.im) 1 c.im tk ms s
/-- what goes back inside -/
def backR (c : Cf) (tk : Int) (ms : List Mp) (s : ByteArray) : Rp :=
  match askM ms s with
  | none => ⟨8, 0, ⟨#[]⟩, tk, ms⟩
  | some m =>
    if pss s c.im = 0 then
      match fromB c ms s with
      | none => rfs c 11 0 c.im tk ms s
      | some (x, ms') => ⟨0, 0, snt (wdst (wsrc s c.oa x) m.ea m.ep), tk, ms'⟩
    else rfs c (pss s c.im) 0 c.im tk ms s
theorem passes_any (s : ByteArray) (hl : s.size ≤ maxLen) (u : Int) : Ret 84 #[.string s, .int .i64 u] (.int .i64 (pss s u)) := fun w => passes_core s (bt s 8) (wd s 2) u w (fun w => ttl_any s w hl) (fun w => totalLength_any s w hl) (pss s u) rfl
theorem pss_cases (s : ByteArray) (u : Int) : pss s u = 0 ∨ pss s u = 9 ∨ pss s u = 10 := by unfold pss; split; exact .inr (.inl rfl); split; exact .inr (.inr rfl); exact .inl rfl
theorem pss_ttl {s : ByteArray} {u : Int} (h : pss s u = 0) : 2 ≤ bt s 8 := by
  by_cases k : bt s 8 ≤ 1
  · unfold pss at h; rw [if_pos k] at h; omega
  · omega
theorem outward_all (T : Bat w base b c tk ti v ms) (G : c.ok = true) (K : Tok c ms) (s : ByteArray) (hk : chk s = 0) (k2 : tk ≤ 100) :
    Calls Tryz.prog 53 #[.pointer (some ⟨b, 0, none⟩), .string s] w fun e w' => e = .returned (outR c tk ms s).val ∧ ∃ v', BL w w' base b c v v' (outR c tk ms s).tk ti (outR c tk ms s).ms := by
  have C := cok_of G
  have hia := us_bd C.ia
  have hoa := us_bd C.oa
  have S := chk_sok hk
  have h8 := chk_b8 hk
  have hs := S.fit.n64
  have hl : s.size ≤ maxLen := size_le hs
  have hm := cok_mtus G
  have hM := passes_any s hl c.om
  unfold outR
  by_cases hp : pss s c.om = 0
  · rw [if_pos hp]
    rw [hp] at hM
    cases hf : fromB c ms s with
    | none =>
      simp only
      rw [rfs_val]
      refine outward_no b s _ c.om 11 _ T.lt (T.at 6 rfl) (by decide) hM ⟨#[]⟩ (fun wx hx => fromBox_none (T.below hx) G K s hs hf)
        (fun wx w' => BL wx w' base b c v v (rfs c 11 0 c.om tk ms s).tk ti (rfs c 11 0 c.om tk ms s).ms) (fun wx hx => ?_) (fun wx w' h => ⟨h.chg.size, fun k h1 h2 => h.keeps T k h1 h2⟩) _ (fun wx w1 hx hlt h u0 u1 u2 => ⟨v, h.three T hx hlt (Below.refl _ _) u0 u1 u2⟩)
      have := refusal_any (T.below hx) hia hoa s hs (chk_h8 hk) k2 11 0 c.om (by decide) (by omega) (by omega)
      rw [rfs_val] at this
      exact this
    | some q =>
      obtain ⟨x, ms'⟩ := q
      simp only
      have W := wsrc_ok S h8 c.oa x
      have cZ : RetB 87 #[.string (wsrc s c.oa x)] (.string (snt (wsrc s c.oa x))) := fun w => sent_any _ w W.1 (by rw [W.2.2.1]; have := pss_ttl hp; omega) (by rw [W.2.1]; exact chk_pr hk)
      generalize snt (wsrc s c.oa x) = Z at cZ ⊢
      simp only [Rp.val]
      refine outward_yes b s (wsrc s c.oa x) Z c.om T.lt (T.at 6 rfl) hM (fun wx w' => ∃ v', BL wx w' base b c v v' tk ti ms') (fun wx hx => fromBox_some (T.below hx) G K s S h8 x ms' hf)
        (fun wx w' h => by obtain ⟨v', hv⟩ := h; exact ⟨hv.chg.size, fun k h1 h2 => hv.keeps T k h1 h2⟩)
        cZ _ (fun wx w1 w2 hx hlt h hb u0 u1 u2 => h.imp fun v' hv => hv.three T hx hlt hb u0 u1 u2)
  · rw [if_neg hp, rfs_val]
    refine outward_bad b s _ c.om (pss s c.om) _ T.lt (T.at 6 rfl) (by simpa using hp) hM
      (fun wx w' => BL wx w' base b c v v (rfs c (pss s c.om) 0 c.om tk ms s).tk ti (rfs c (pss s c.om) 0 c.om tk ms s).ms) (fun wx hx => ?_) (fun wx w' h => ⟨h.chg.size, fun k h1 h2 => h.keeps T k h1 h2⟩) _ (fun wx w1 hx hlt h u0 u1 u2 => ⟨v, h.three T hx hlt (Below.refl _ _) u0 u1 u2⟩)
    have := refusal_any (T.below hx) hia hoa s hs (chk_h8 hk) k2 (pss s c.om) 0 c.om (by have := pss_cases s c.om; omega) (by omega) (by omega)
    rw [rfs_val] at this
    exact this
theorem asked_none (T : Bat w base b c tk ti v ms) (hz : ms.length ≤ 64) (s : ByteArray) (hl : s.size ≤ maxLen) (h : askM ms s = none) :
    Calls Tryz.prog 83 #[.pointer (some ⟨b, 0, none⟩), .string s] w fun e w' => e = .returned (.tuple #[.agg #[.int .i64 0, .int .i64 0], .bool false]) ∧ Below w.heap.size w w' :=
  asked_core b s (bt s 9) (lg s 16) (wd s (ppl s 2)) 0 0 false T.lt (fun w => dest2_any s w hl) (fun w => protocol_any s w hl)
    (fun wy hy => endpoint_no b 12 base (bt s 9) (wd s (ppl s 2)) v ms wy (T.below hy).cell (T.below hy).row hz (fidx_out h))
theorem asked_some (T : Bat w base b c tk ti v ms) (hz : ms.length ≤ 64) (s : ByteArray) (hl : s.size ≤ maxLen) (m : Mp) (h : askM ms s = some m) :
    Calls Tryz.prog 83 #[.pointer (some ⟨b, 0, none⟩), .string s] w fun e w' => e = .returned (.tuple #[.agg #[.int .i64 m.ea, .int .i64 m.ep], .bool true]) ∧ Below w.heap.size w w' :=
  asked_core b s (bt s 9) (lg s 16) (wd s (ppl s 2)) m.ea m.ep true T.lt (fun w => dest2_any s w hl) (fun w => protocol_any s w hl)
    (fun wy hy => endpoint_yes b 12 base _ (bt s 9) (wd s (ppl s 2)) m v ms wy (T.below hy).cell (T.below hy).row hz (fidx_at h) h)
theorem inward_all (T : Bat w base b c tk ti v ms) (G : c.ok = true) (K : Tok c ms) (s : ByteArray) (hk : chk s = 0) (k2 : tk ≤ 100) :
    Calls Tryz.prog 50 #[.pointer (some ⟨b, 0, none⟩), .string s] w fun e w' => e = .returned (inR c tk ms s).val ∧ ∃ v', BL w w' base b c v v' (inR c tk ms s).tk ti (inR c tk ms s).ms := by
  have C := cok_of G
  have hia := us_bd C.ia
  have hoa := us_bd C.oa
  have S := chk_sok hk
  have h8 := chk_b8 hk
  have hs := S.fit.n64
  have hl : s.size ≤ maxLen := size_le hs
  have hm := cok_mtus G
  have hM := passes_any s hl c.im
  have hz : ms.length ≤ 64 := by have := K.len; have := C.c2; omega
  unfold inR
  cases ha : askM ms s with
  | none => simp only [Rp.val]; exact (inward_none b s 0 0 (fun wx hx => asked_none (T.below hx) hz s hl ha)).mono fun e w' h => ⟨h.1, v, T.bl h.2⟩
  | some m =>
    simp only
    have M := K.at ha
    by_cases hp : pss s c.im = 0
    · rw [if_pos hp]
      rw [hp] at hM
      have W := wdst_ok S h8 m.ea m.ep
      have cZ : RetB 87 #[.string (wdst s m.ea m.ep)] (.string (snt (wdst s m.ea m.ep))) := fun w => sent_any _ w W.1 (by rw [W.2.2.1]; have := pss_ttl hp; omega) (by rw [W.2.1]; exact chk_pr hk)
      generalize snt (wdst s m.ea m.ep) = Z at cZ ⊢
      simp only [Rp.val]
      exact (inward_yes b s (wdst s m.ea m.ep) Z c.im T.lt (T.at 5 rfl) m.ea m.ep (fun wx hx => asked_some (T.below hx) hz s hl m ha) hM (fun w => wdst_any s m.ea m.ep w S.fit W.2.2.2.2.1 M.a0 M.a1 M.p0 M.p1) cZ).mono fun e w' h => ⟨h.1, v, T.bl h.2⟩
    · rw [if_neg hp, rfs_val]
      refine inward_bad b s _ c.im (pss s c.im) _ T.lt (T.at 5 rfl) (by simpa using hp) m.ea m.ep (fun wx hx => asked_some (T.below hx) hz s hl m ha) hM
        (fun wx w' => BL wx w' base b c v v (rfs c (pss s c.im) 1 c.im tk ms s).tk ti (rfs c (pss s c.im) 1 c.im tk ms s).ms) (fun wx hx => ?_) (fun wx w' h => ⟨h.chg.size, fun k h1 h2 => h.keeps T k h1 h2⟩) _ (fun wx w1 hx hlt h u0 u1 u2 => ⟨v, h.three T hx hlt (Below.refl _ _) u0 u1 u2⟩)
      have := refusal_any (T.below hx) hia hoa s hs (chk_h8 hk) k2 (pss s c.im) 1 c.im (by have := pss_cases s c.im; omega) (by omega) (by omega)
      rw [rfs_val] at this
      exact this
theorem back_all (T : Bat w base b c tk ti v ms) (G : c.ok = true) (K : Tok c ms) (s : ByteArray) (hk : chk s = 0) (k2 : tk ≤ 100) :
    Calls Tryz.prog 52 #[.pointer (some ⟨b, 0, none⟩), .string s] w fun e w' => e = .returned (backR c tk ms s).val ∧ ∃ v', BL w w' base b c v v' (backR c tk ms s).tk ti (backR c tk ms s).ms := by
  have C := cok_of G
  have hia := us_bd C.ia
  have hoa := us_bd C.oa
  have S := chk_sok hk
  have h8 := chk_b8 hk
  have hs := S.fit.n64
  have hl : s.size ≤ maxLen := size_le hs
  have hm := cok_mtus G
  have hM := passes_any s hl c.im
  have hz : ms.length ≤ 64 := by have := K.len; have := C.c2; omega
  unfold backR
  cases ha : askM ms s with
  | none => simp only [Rp.val]; exact (back_none b s 0 0 (fun wx hx => asked_none (T.below hx) hz s hl ha)).mono fun e w' h => ⟨h.1, v, T.bl h.2⟩
  | some m =>
    simp only
    have M := K.at ha
    by_cases hp : pss s c.im = 0
    · rw [if_pos hp]
      rw [hp] at hM
      cases hf : fromB c ms s with
      | none =>
        simp only
        rw [rfs_val]
        refine back_no b s _ c.im 11 _ T.lt (T.at 5 rfl) (by decide) m.ea m.ep (fun wx hx => asked_some (T.below hx) hz s hl m ha) hM ⟨#[]⟩ (fun wx hx => fromBox_none (T.below hx) G K s hs hf)
          (fun wx w' => BL wx w' base b c v v (rfs c 11 0 c.im tk ms s).tk ti (rfs c 11 0 c.im tk ms s).ms) (fun wx hx => ?_) (fun wx w' h => ⟨h.chg.size, fun k h1 h2 => h.keeps T k h1 h2⟩) _ (fun wx w1 hx hlt h u0 u1 u2 => ⟨v, h.three T hx hlt (Below.refl _ _) u0 u1 u2⟩)
        have := refusal_any (T.below hx) hia hoa s hs (chk_h8 hk) k2 11 0 c.im (by decide) (by omega) (by omega)
        rw [rfs_val] at this
        exact this
      | some q =>
        obtain ⟨x, ms'⟩ := q
        simp only
        have W := wsrc_ok S h8 c.oa x
        have W2 := wdst_ok W.1 (by rw [W.2.2.2.2.2.2]; exact h8) m.ea m.ep
        have cZ : RetB 87 #[.string (wdst (wsrc s c.oa x) m.ea m.ep)] (.string (snt (wdst (wsrc s c.oa x) m.ea m.ep))) := fun w => sent_any _ w W2.1 (by rw [W2.2.2.1, W.2.2.1]; have := pss_ttl hp; omega) (by rw [W2.2.1, W.2.1]; exact chk_pr hk)
        generalize snt (wdst (wsrc s c.oa x) m.ea m.ep) = Z at cZ ⊢
        simp only [Rp.val]
        refine back_yes b s (wsrc s c.oa x) (wdst (wsrc s c.oa x) m.ea m.ep) Z c.im T.lt (T.at 5 rfl) m.ea m.ep (fun wx hx => asked_some (T.below hx) hz s hl m ha) hM (fun wx w' => ∃ v', BL wx w' base b c v v' tk ti ms') (fun wx hx => fromBox_some (T.below hx) G K s S h8 x ms' hf)
          (fun wx w' h => by obtain ⟨v', hv⟩ := h; exact ⟨hv.chg.size, fun k h1 h2 => hv.keeps T k h1 h2⟩)
          (fun w => wdst_any (wsrc s c.oa x) m.ea m.ep w W.1.fit W2.2.2.2.2.1 M.a0 M.a1 M.p0 M.p1)
          cZ _ (fun wx w1 w2 hx hlt h hb u0 u1 u2 => h.imp fun v' hv => hv.three T hx hlt hb u0 u1 u2)
    · rw [if_neg hp, rfs_val]
      refine back_bad b s _ c.im (pss s c.im) _ T.lt (T.at 5 rfl) (by simpa using hp) m.ea m.ep (fun wx hx => asked_some (T.below hx) hz s hl m ha) hM
        (fun wx w' => BL wx w' base b c v v (rfs c (pss s c.im) 0 c.im tk ms s).tk ti (rfs c (pss s c.im) 0 c.im tk ms s).ms) (fun wx hx => ?_) (fun wx w' h => ⟨h.chg.size, fun k h1 h2 => h.keeps T k h1 h2⟩) _ (fun wx w1 hx hlt h u0 u1 u2 => ⟨v, h.three T hx hlt (Below.refl _ _) u0 u1 u2⟩)
      have := refusal_any (T.below hx) hia hoa s hs (chk_h8 hk) k2 (pss s c.im) 0 c.im (by have := pss_cases s c.im; omega) (by omega) (by omega)
      rw [rfs_val] at this
      exact this
/-- the answer to what is no error message -/
def goR (c : Cf) (tk : Int) (ms : List Mp) (d : Int) (s : ByteArray) : Rp :=
  if d = 1 then inR c tk ms s else if lg s 16 = c.oa then backR c tk ms s else outR c tk ms s
theorem exam_chk {c : Cf} {d : Int} {s : ByteArray} (h : exam c d s = 0) : chk s = 0 ∧ (d = 0 ∨ d = 1) := by
  unfold exam at h
  by_cases h1 : ¬ d = 0 ∧ ¬ d = 1
  · rw [if_pos h1] at h; omega
  · rw [if_neg h1] at h
    by_cases h2 : chk s = 0
    · exact ⟨h2, by omega⟩
    · rw [if_pos h2] at h; exact ⟨h, by omega⟩
theorem chk_len {s : ByteArray} (h : chk s = 0) : s.size ≤ 65535 := (chk_sok h).fit.n64
/-- what is refused ahead of all else -/
theorem frame_exam (T : Bat w base b c tk ti v ms) (d : Int) (s : ByteArray) (hl : s.size ≤ maxLen) (hx : ¬ exam c d s = 0) :
    Calls Tryz.prog 18 #[.pointer (some ⟨b, 0, none⟩), .int .i64 d, .string s] w fun e w' => e = .returned (rpv (exam c d s) 0 ⟨#[]⟩) ∧ Below w.heap.size w w' :=
  frame_no b d s (exam c d s) w (by simpa using hx) (fun wx hb => examine_any (T.below hb) d s hl)
/-- what is no error message -/
theorem frame_goes (T : Bat w base b c tk ti v ms) (G : c.ok = true) (K : Tok c ms) (d : Int) (s : ByteArray) (hx : exam c d s = 0) (he : isErr s = false) (k2 : tk ≤ 100) :
    Calls Tryz.prog 18 #[.pointer (some ⟨b, 0, none⟩), .int .i64 d, .string s] w fun e w' => e = .returned (goR c tk ms d s).val ∧ ∃ v', BL w w' base b c v v' (goR c tk ms d s).tk ti (goR c tk ms d s).ms := by
  obtain ⟨hk, hd⟩ := exam_chk hx
  have hl : s.size ≤ maxLen := size_le (chk_len hk)
  have cX : ∀ wx, Below w.heap.size w wx → Calls Tryz.prog 47 #[.pointer (some ⟨b, 0, none⟩), .int .i64 d, .string s] wx fun e w' => e = .returned (.int .i64 0) ∧ Below wx.heap.size wx w' := fun wx hb => by
    have := examine_any (T.below hb) d s hl; rw [hx] at this; exact this
  have cE : Ret 48 #[.string s] (.bool false) := by have := isErr_any s hl; rw [he] at this; exact this
  have cF : ∀ wx, Below w.heap.size w wx → Calls Tryz.prog 51 #[.pointer (some ⟨b, 0, none⟩), .string s] wx fun e w' => e = .returned (.bool (lg s 16 == c.oa)) ∧ Below wx.heap.size wx w' := fun wx hb =>
    isForBox_core b s (lg s 16) c.oa wx (T.below hb).lt ((T.below hb).at 1 rfl) (fun w => destination_any s w hl)
  unfold goR
  by_cases h1 : d = 1
  · rw [if_pos h1]
    subst h1
    unfold Rp.val
    exact frame_in b s _ _ _ cX cE (fun wx w' => ∃ v', BL wx w' base b c v v' (inR c tk ms s).tk ti (inR c tk ms s).ms) (fun wx hb => inward_all (T.below hb) G K s hk k2)
      (fun wx w' h k q1 q2 => by obtain ⟨v', hv⟩ := h; exact hv.keeps T k q1 q2) _ (fun wx w1 hx hlt h u0 u1 u2 => h.imp fun v' hv => hv.three T hx hlt (Below.refl _ _) u0 u1 u2)
  · have h0 : d = 0 := by omega
    rw [if_neg h1]
    subst h0
    by_cases h2 : lg s 16 = c.oa
    · rw [if_pos h2]
      have h2' : (lg s 16 == c.oa) = true := by simpa using h2
      rw [h2'] at cF
      unfold Rp.val
      exact frame_back b s _ _ _ cX cE cF (fun wx w' => ∃ v', BL wx w' base b c v v' (backR c tk ms s).tk ti (backR c tk ms s).ms) (fun wx hb => back_all (T.below hb) G K s hk k2)
        (fun wx w' h k q1 q2 => by obtain ⟨v', hv⟩ := h; exact hv.keeps T k q1 q2) _ (fun wx w1 hx hlt h u0 u1 u2 => h.imp fun v' hv => hv.three T hx hlt (Below.refl _ _) u0 u1 u2)
    · rw [if_neg h2]
      have h2' : (lg s 16 == c.oa) = false := by simpa using h2
      rw [h2'] at cF
      unfold Rp.val
      exact frame_out b s _ _ _ cX cE cF (fun wx w' => ∃ v', BL wx w' base b c v v' (outR c tk ms s).tk ti (outR c tk ms s).ms) (fun wx hb => outward_all (T.below hb) G K s hk k2)
        (fun wx w' h k q1 q2 => by obtain ⟨v', hv⟩ := h; exact hv.keeps T k q1 q2) _ (fun wx w1 hx hlt h u0 u1 u2 => h.imp fun v' hv => hv.three T hx hlt (Below.refl _ _) u0 u1 u2)
end
end Go.Proofs.YthiljpbodmajaabGreat
namespace Go.Proofs.YthiljpbodmajaabGreat
open Go.RowKit Plain
set_option linter.unusedVariables false
section
variable {w : World} {base b : Nat} {c : Cf} {tk ti : Int} {v : Value} {ms : List Mp}
theorem BL.left {w' : World} {v' : Value} {ms' : List Mp} (h : BL w w' base b c v v' tk ti ms') : Left w w' base b 12 81 (bxc c v tk ti) v v' ms' := ⟨h.bat, h.own, h.chg⟩
theorem below_three {w wx w1 : World} (hx : Below w.heap.size w wx) (h : Below wx.heap.size wx w1) (u0 u1 u2 : Value) : Below w.heap.size w (((w1.setCell ⟨w.heap.size, 0, none⟩ u0).setCell ⟨w.heap.size, 1, none⟩ u1).setCell ⟨w.heap.size, 2, none⟩ u2) := by
  repeat refine Below.setCell ?_ (by simp <;> omega) _
  exact hx.trans (h.mono hx.size)
end
end Go.Proofs.YthiljpbodmajaabGreat
