/-
  PLAIN MATHEMATICS: what is sealed passes Check.
-/
import Derived.Test.YthiljpbodmajaabGreatPlain
namespace Go.Proofs.YthiljpbodmajaabGreat.Plain

theorem prt_put_lo {s t : ByteArray} {i a b : Int} (ha : 0 ≤ a) (hb : b ≤ i) (h0 : 0 ≤ i) (h1 : i + (t.size : Int) ≤ s.size) : prt (put s i t) a b = prt s a b := by
  have hz := put_size s i t h0 h1
  apply bt_ext
  · rw [prt_size, prt_size, hz]
  · intro j hj
    rw [prt_size, hz] at hj
    rw [bt_prt _ _ _ _ ha (by omega) (by omega), bt_prt _ _ _ _ ha (by omega) (by omega), bt_put_off h0 h1 (by omega)]
theorem prt_put_hi {s t : ByteArray} {i a b : Int} (ha : i + (t.size : Int) ≤ a) (h0 : 0 ≤ i) (h1 : i + (t.size : Int) ≤ s.size) : prt (put s i t) a b = prt s a b := by
  have hz := put_size s i t h0 h1
  apply bt_ext
  · rw [prt_size, prt_size, hz]
  · intro j hj
    rw [prt_size, hz] at hj
    rw [bt_prt _ _ _ _ (by omega) (by omega) (by omega), bt_prt _ _ _ _ (by omega) (by omega) (by omega), bt_put_off h0 h1 (by omega)]
/-- a part of a text in which something was put within it -/
theorem prt_put_in {s t : ByteArray} {i a b : Int} (ha : 0 ≤ a) (h0 : a ≤ i) (h1 : i + (t.size : Int) ≤ b) (h2 : b ≤ s.size) : prt (put s i t) a b = put (prt s a b) (i - a) t := by
  have hz := put_size s i t (by omega) (by omega)
  have hp : (prt s a b).size = (b - a).toNat := by rw [prt_size]; omega
  have hq := put_size (prt s a b) (i - a) t (by omega) (by omega)
  apply bt_ext
  · rw [prt_size, hz, hq, hp]; omega
  · intro j hj
    rw [prt_size, hz] at hj
    rw [bt_prt _ _ _ _ ha (by omega) (by omega), bt_put _ _ _ _ (by omega) (by omega), bt_put _ _ _ _ (by omega) (by omega)]
    split
    · rename_i h
      rw [if_pos (by omega)]
      congr 1
      omega
    · rename_i h
      rw [if_neg (by omega), bt_prt _ _ _ _ ha (by omega) (by omega)]
theorem put_put {s t u : ByteArray} {i : Int} (hu : t.size = u.size) (h0 : 0 ≤ i) (h1 : i + (t.size : Int) ≤ s.size) : put (put s i t) i u = put s i u := by
  have hz := put_size s i t h0 h1
  have hz2 := put_size s i u h0 (by omega)
  have hz3 := put_size (put s i t) i u h0 (by omega)
  apply bt_ext
  · omega
  · intro j hj
    rw [bt_put _ _ _ _ h0 (by omega), bt_put s u _ _ h0 (by omega)]
    split
    · rfl
    · rw [bt_put_off h0 h1 (by omega)]
theorem blk_put {s : ByteArray} {i x : Int} (h0 : 0 ≤ i) (h1 : i + 2 ≤ s.size) : blk (put s i (w2 x)) i = blk s i := put_put (by rw [w2_size, w2_size]) h0 (by rw [w2_size]; omega)
theorem wd_put_at {s : ByteArray} {i x : Int} (h0 : 0 ≤ i) (h1 : i + 2 ≤ s.size) (x0 : 0 ≤ x) (x1 : x < 65536) : wd (put s i (w2 x)) i = x := by
  have e1 := bt_put s (w2 x) i i h0 (by rw [w2_size]; omega)
  have e2 := bt_put s (w2 x) i (i + 1) h0 (by rw [w2_size]; omega)
  rw [w2_size] at e1 e2
  rw [if_pos (by omega)] at e1 e2
  unfold wd
  rw [e1, e2, show i - i = 0 by omega, show i + 1 - i = 1 by omega]
  have := wd_mid ByteArray.empty ByteArray.empty x 0 (by simp) x0 x1
  simp at this
  unfold wd at this
  simpa using this
theorem bdy_put_in {s t : ByteArray} {k : Int} (F : Fits s) (h0 : 0 ≤ k) (h1 : k + (t.size : Int) ≤ (bdy s).size) : bdy (put s (hdv s + k) t) = put (bdy s) k t := by
  have hz := bdy_size F
  have hd := F.h20
  have tn := F.tn
  unfold bdy
  rw [hdv_put (by omega) (by omega), tot_put (by omega) (by omega), prt_put_in (by omega) (by omega) (by omega) tn, show hdv s + k - hdv s = k by omega]
theorem bdy_put_out {s t : ByteArray} {i : Int} (F : Fits s) (h0 : 4 ≤ i) (h1 : i + (t.size : Int) ≤ hdv s) : bdy (put s i t) = bdy s := by
  have tn := F.tn
  have ht := F.ht
  unfold bdy
  rw [hdv_put (by omega) (by omega), tot_put (by omega) (by omega), prt_put_hi (by omega) (by omega) (by omega)]
theorem hsv_put_in {s t : ByteArray} {i : Int} (F : Fits s) (h0 : hdv s ≤ i) (h1 : i + (t.size : Int) ≤ s.size) : hsv (put s i t) = hsv s := by
  have hd := F.h20
  unfold hsv
  rw [hdv_put (by omega) h1, prt_put_lo (by omega) h0 (by omega) h1]
theorem hsv_put10 {s : ByteArray} (F : Fits s) (x : Int) : hsv (put s 10 (w2 x)) = hsv s := by
  have hd := F.h20
  have ht := F.ht
  have tn := F.tn
  have hp : (prt s 0 (hdv s)).size = (hdv s).toNat := by rw [prt_size]; omega
  unfold hsv
  rw [hdv_put (by omega) (by rw [w2_size]; omega), prt_put_in (by omega) (by omega) (by rw [w2_size]; omega) (by omega), show (10 : Int) - 0 = 10 by rfl, blk_put (by omega) (by omega)]
theorem lg_put_off {s t : ByteArray} {i j : Int} (h0 : 0 ≤ i) (h1 : i + (t.size : Int) ≤ s.size) (h : j + 3 < i ∨ i + t.size ≤ j) : lg (put s i t) j = lg s j := by
  unfold lg; rw [wd_put_off h0 h1 (by omega), wd_put_off h0 h1 (by omega)]
theorem lg_put_at {s : ByteArray} {i a : Int} (h0 : 0 ≤ i) (h1 : i + 4 ≤ s.size) (a0 : 0 ≤ a) (a1 : a < 4294967296) : lg (put s i (l4 a)) i = a := by
  have e : ∀ k, 0 ≤ k → k < 4 → bt (put s i (l4 a)) (i + k) = bt (l4 a) k := fun k k0 k1 => by
    have := bt_put s (l4 a) i (i + k) h0 (by rw [l4_size]; omega)
    rw [l4_size, if_pos (by omega), show i + k - i = k by omega] at this
    exact this
  have e0 := e 0 (by omega) (by omega)
  have e1 := e 1 (by omega) (by omega)
  have e2 := e 2 (by omega) (by omega)
  have e3 := e 3 (by omega) (by omega)
  rw [Int.add_zero] at e0
  have h := lg_mid ByteArray.empty ByteArray.empty a 0 (by simp) a0 a1
  simp at h
  unfold lg wd at h ⊢
  rw [show i + 2 + 1 = i + 3 by omega, e0, e1, e2, e3]
  simpa using h
/-- what is wrong with a body of ICMP but its checksum -/
def icr (b : ByteArray) : Int := icase b.size 0 0 (bt b 0) (bt b 1) (quotev (prt b 8 b.size))
/-- all that Check asks but the checksums -/
structure Shp (s : ByteArray) : Prop where
  sok : Sok s
  pr : bt s 9 = 17 ∨ bt s 9 = 6 ∨ bt s 9 = 1
  part : partB s = false
  us : usB (lg s 12) = true
  ud : usB (lg s 16) = true
  tcp : bt s 9 = 6 → 20 ≤ bt (bdy s) 12 / 16 * 4 ∧ bt (bdy s) 12 / 16 * 4 ≤ ((bdy s).size : Int)
  ic : bt s 9 = 1 → icr (bdy s) = 0
theorem icase_off {n : Nat} {c k t d q : Int} (h : icase n c k t d q = 0) : icase n 0 0 t d q = 0 := by
  unfold icase at h ⊢
  split at h
  · omega
  · rename_i h1
    rw [if_neg h1]
    split at h
    · omega
    · simpa using h
theorem icase_on {n : Nat} {c t d q : Int} (h : icase n 0 0 t d q = 0) : icase n c c t d q = 0 := by
  unfold icase at h ⊢
  simpa using h
theorem fitsB_of {s : ByteArray} (F : Fits s) : fitsB s = true := by
  simp only [fitsB, decide_eq_true_eq]
  exact ⟨F.n20, F.n64, F.v4, F.h20, F.ht, F.tn⟩
theorem hdrv_iff {s : ByteArray} : hdrv s = 0 ↔ Fits s ∧ wd s 10 = hsv s ∧ partB s = false ∧ usB (lg s 12) = true ∧ usB (lg s 16) = true := by
  constructor
  · intro h
    have F := fits_hdrv h
    unfold hdrv at h
    rw [if_pos (fitsB_of F)] at h
    split at h
    · omega
    · rename_i h1
      split at h
      · omega
      · rename_i h2
        split at h
        · rename_i h3
          simp at h1 h2 h3
          exact ⟨F, h1, h2, h3.1, h3.2⟩
        · omega
  · rintro ⟨F, h1, h2, h3, h4⟩
    unfold hdrv
    rw [if_pos (fitsB_of F)]
    simp [h1, h2, h3, h4]
theorem shp_of {s : ByteArray} (h : chk s = 0) : Shp s := by
  have hh := hdrv_iff.1 (chk_hdrv h)
  have c := chk_hdrv h
  refine ⟨chk_sok h, chk_pr h, hh.2.2.1, hh.2.2.2.1, hh.2.2.2.2, fun e => ?_, fun e => ?_⟩
  · unfold chk at h
    rw [if_pos c, if_neg (by omega), if_pos e] at h
    unfold tcc tcase at h
    split at h
    · omega
    · split at h
      · omega
      · omega
  · unfold chk at h
    rw [if_pos c, if_neg (by omega), if_neg (by omega), if_pos e] at h
    exact icase_off h
section
variable {s : ByteArray}
/-- what is put into the header leaves the shape -/
theorem shp_hdr (H : Shp s) {t : ByteArray} {i : Int} (hi : (i = 8 ∧ t.size = 1) ∨ (i = 10 ∧ t.size = 2) ∨ ((i = 12 ∨ i = 16) ∧ ∃ a, t = l4 a ∧ usB a = true ∧ 0 ≤ a ∧ a < 4294967296)) : Shp (put s i t) := by
  have F := H.sok.fit
  have hd := F.h20
  have ht := F.ht
  have tn := F.tn
  have hz : i + (t.size : Int) ≤ 20 ∧ 8 ≤ i ∧ (i + t.size ≤ 9 ∨ 10 ≤ i) := by
    rcases hi with h | h | ⟨h, a, rfl, _⟩
    · omega
    · omega
    · rw [l4_size]; omega
  have hb := bdy_put_out (t := t) F (i := i) (by omega) (by omega)
  have h9 : bt (put s i t) 9 = bt s 9 := bt_put_off (by omega) (by omega) (by omega)
  refine ⟨sok_put H.sok (by omega) (by omega) hz.2.2 (fun _ => .inl (by omega)), by rw [h9]; exact H.pr, ?_, ?_, ?_, fun e => by rw [hb]; exact H.tcp (by rw [← h9]; exact e), fun e => by rw [hb]; exact H.ic (by rw [← h9]; exact e)⟩
  · unfold partB
    rw [wd_put_off (by omega) (by omega) (by omega)]
    exact H.part
  · rcases hi with h | h | ⟨h, a, rfl, h1, h2, h3⟩
    · rw [lg_put_off (by omega) (by omega) (by omega)]; exact H.us
    · rw [lg_put_off (by omega) (by omega) (by omega)]; exact H.us
    · rcases h with h | h
      · subst h
        rw [lg_put_at (by omega) (by omega) h2 h3]; exact h1
      · subst h
        rw [lg_put_off (by omega) (by rw [l4_size]; omega) (by omega)]; exact H.us
  · rcases hi with h | h | ⟨h, a, rfl, h1, h2, h3⟩
    · rw [lg_put_off (by omega) (by omega) (by omega)]; exact H.ud
    · rw [lg_put_off (by omega) (by omega) (by omega)]; exact H.ud
    · rcases h with h | h
      · subst h
        rw [lg_put_off (by omega) (by rw [l4_size]; omega) (by rw [l4_size]; omega)]; exact H.ud
      · subst h
        rw [lg_put_at (by omega) (by omega) h2 h3]; exact h1
/-- what is put into the body -/
theorem shp_bod (H : Shp s) {t : ByteArray} {k : Int} (h0 : 0 ≤ k) (h1 : k + (t.size : Int) ≤ (bdy s).size) (c17 : bt s 9 = 17 → k + t.size ≤ 4 ∨ 6 ≤ k) (c6 : bt s 9 = 6 → k + t.size ≤ 12 ∨ 13 ≤ k) (c1 : bt s 9 = 1 → icr (put (bdy s) k t) = 0) : Shp (put s (hdv s + k) t) := by
  have F := H.sok.fit
  have hd := F.h20
  have tn := F.tn
  have hz := bdy_size F
  have hb := bdy_put_in (t := t) F h0 h1
  have h9 : bt (put s (hdv s + k) t) 9 = bt s 9 := bt_put_off (by omega) (by omega) (by omega)
  have hbz := put_size (bdy s) k t h0 h1
  refine ⟨sok_put H.sok (by omega) (by omega) (by omega) (fun e => by have := c17 e; omega), by rw [h9]; exact H.pr, ?_, ?_, ?_, fun e => ?_, fun e => by rw [hb]; exact c1 (by rw [← h9]; exact e)⟩
  · unfold partB
    rw [wd_put_off (by omega) (by omega) (by omega)]
    exact H.part
  · rw [lg_put_off (by omega) (by omega) (by omega)]; exact H.us
  · rw [lg_put_off (by omega) (by omega) (by omega)]; exact H.ud
  · rw [h9] at e
    have := H.tcp e
    rw [hb, hbz, bt_put_off h0 h1 (by have := c6 e; omega)]
    exact this
/-- WHAT IS SEALED passes Check -/
theorem seal_chk (H : Shp s) : chk (sld (put s 10 (w2 (hsv s)))) = 0 := by
  have F0 := H.sok.fit
  have n20 := F0.n20
  have hb0 : (blk (prt s 0 (hdv s)) 10).size ≤ 65535 := by
    have h20 := F0.h20
    have ht1 := F0.ht
    have tn := F0.tn
    have := F0.n64
    rw [blk_size _ _ (by decide) (by rw [prt_size]; omega), prt_size]
    omega
  have hh := hsv_bd s hb0
  have H2 : Shp (put s 10 (w2 (hsv s))) := shp_hdr H (.inr (.inl ⟨rfl, w2_size _⟩))
  have e10 : wd (put s 10 (w2 (hsv s))) 10 = hsv (put s 10 (w2 (hsv s))) := by rw [hsv_put10 F0, wd_put_at (by omega) (by omega) hh.1 hh.2]
  generalize put s 10 (w2 (hsv s)) = r at H2 e10 ⊢
  have F := H2.sok.fit
  have hd := F.h20
  have tn := F.tn
  have ht := F.ht
  have n64 := F.n64
  have hz := bdy_size F
  have key : ∀ (k x : Int) (h0 : 0 ≤ k) (h1 : k + 2 ≤ (bdy r).size) (c17 : bt r 9 = 17 → k + 2 ≤ 4 ∨ 6 ≤ k) (c6 : bt r 9 = 6 → k + 2 ≤ 12 ∨ 13 ≤ k) (c1 : bt r 9 = 1 → icr (put (bdy r) k (w2 x)) = 0),
      hdrv (put r (hdv r + k) (w2 x)) = 0 ∧ bt (put r (hdv r + k) (w2 x)) 9 = bt r 9 ∧ bdy (put r (hdv r + k) (w2 x)) = put (bdy r) k (w2 x) ∧ prt (put r (hdv r + k) (w2 x)) 12 20 = prt r 12 20 ∧ Shp (put r (hdv r + k) (w2 x)) := fun k x h0 h1 c17 c6 c1 => by
    have hw := w2_size x
    have S := shp_bod H2 (t := w2 x) h0 (by omega) (by rw [hw]; exact c17) (by rw [hw]; exact c6) c1
    refine ⟨hdrv_iff.2 ⟨S.sok.fit, ?_, S.part, S.us, S.ud⟩, bt_put_off (by omega) (by omega) (by omega), bdy_put_in F h0 (by omega), prt_put_lo (by omega) (by omega) (by omega) (by omega), S⟩
    rw [wd_put_off (by omega) (by omega) (by omega), hsv_put_in F (by omega) (by omega)]
    exact e10
  rcases H2.pr with e | e | e
  · have u := H2.sok.u e
    have hk := uds_bd r
    unfold sld
    rw [if_pos e]
    by_cases hc : wd r (hdv r + 6) = 0
    · rw [if_pos hc]
      have hr : hdrv r = 0 := hdrv_iff.2 ⟨F, e10, H2.part, H2.us, H2.ud⟩
      unfold chk
      rw [if_pos hr, if_pos e]
      unfold udc ucase
      rw [if_neg (by omega), if_neg (by omega), bdy_wd F 6 (by omega) (by omega), hc]
      rfl
    · rw [if_neg hc]
      obtain ⟨k1, k2, k3, k4, k5⟩ := key 6 (uds r) (by omega) (by omega) (fun _ => .inr (by omega)) (fun h => by omega) (fun h => by omega)
      have q4 : wd (put (bdy r) 6 (w2 (uds r))) 4 = wd (bdy r) 4 := wd_put_off (by omega) (by rw [w2_size]; omega) (by omega)
      have q6 : wd (put (bdy r) 6 (w2 (uds r))) 6 = uds r := wd_put_at (by omega) (by omega) hk.1 hk.2
      have qz : (put (bdy r) 6 (w2 (uds r))).size = (bdy r).size := put_size _ _ _ (by omega) (by rw [w2_size]; omega)
      have qp : prt (put (bdy r) 6 (w2 (uds r))) 0 (wd (bdy r) 4) = put (prt (bdy r) 0 (wd (bdy r) 4)) 6 (w2 (uds r)) := prt_put_in (by omega) (by omega) (by rw [w2_size]; omega) (by omega)
      have pz : (prt (bdy r) 0 (wd (bdy r) 4)).size = (wd (bdy r) 4).toNat := by rw [prt_size]; omega
      have qq := put_size (prt (bdy r) 0 (wd (bdy r) 4)) 6 (w2 (uds r)) (by omega) (by rw [w2_size]; omega)
      have ek : udpv (put r (hdv r + 6) (w2 (uds r))) (put (prt (bdy r) 0 (wd (bdy r) 4)) 6 (w2 (uds r))) = uds r := by
        have : cks (put r (hdv r + 6) (w2 (uds r))) (put (prt (bdy r) 0 (wd (bdy r) 4)) 6 (w2 (uds r))) 17 6 = cks r (prt (bdy r) 0 (wd (bdy r) 4)) 17 6 := by
          unfold cks ahd
          rw [k4, qq, blk_put (by omega) (by omega)]
        unfold uds udpv at this ⊢
        rw [this]
      unfold chk
      rw [if_pos k1, k2, if_pos e]
      unfold udc ucase
      rw [k3, q4, q6, qz, qp, ek, if_neg (by omega), if_neg (by omega)]
      simp
  · have u := H2.sok.t e
    have hk := cks_bd r (bdy r) 6 16
    have ht2 := H2.tcp e
    unfold sld
    rw [if_neg (by omega), if_pos e]
    obtain ⟨k1, k2, k3, k4, k5⟩ := key 16 (cks r (bdy r) 6 16) (by omega) (by omega) (fun h => by omega) (fun _ => .inr (by omega)) (fun h => by omega)
    have qz : (put (bdy r) 16 (w2 (cks r (bdy r) 6 16))).size = (bdy r).size := put_size _ _ _ (by omega) (by rw [w2_size]; omega)
    have q16 : wd (put (bdy r) 16 (w2 (cks r (bdy r) 6 16))) 16 = cks r (bdy r) 6 16 := wd_put_at (by omega) (by omega) hk.1 hk.2
    have q12 : bt (put (bdy r) 16 (w2 (cks r (bdy r) 6 16))) 12 = bt (bdy r) 12 := bt_put_off (by omega) (by rw [w2_size]; omega) (by omega)
    have ek : cks (put r (hdv r + 16) (w2 (cks r (bdy r) 6 16))) (put (bdy r) 16 (w2 (cks r (bdy r) 6 16))) 6 16 = cks r (bdy r) 6 16 := by
      generalize hx : cks r (bdy r) 6 16 = x at *
      refine Eq.trans ?_ hx
      unfold cks ahd
      rw [k4, qz, blk_put (by omega) (by omega)]
    unfold chk
    rw [if_pos k1, k2, if_neg (by omega), if_pos e]
    unfold tcc tcase
    rw [k3, qz, q12, q16, ek, if_neg (by omega), if_neg (by omega)]
    simp
  · have u := H2.sok.i e
    have hs2 : (blk (bdy r) 2).size ≤ 65535 := by rw [blk_size _ _ (by decide) (by omega)]; omega
    have hk : 0 ≤ sumv (blk (bdy r) 2) ∧ sumv (blk (bdy r) 2) < 65536 := by unfold sumv; rw [if_pos hs2]; have := ones_bd (total (blk (bdy r) 2)); omega
    have hi := H2.ic e
    unfold sld
    rw [if_neg (by omega), if_neg (by omega), if_pos e]
    generalize hx : sumv (blk (bdy r) 2) = x at *
    have qz : (put (bdy r) 2 (w2 x)).size = (bdy r).size := put_size _ _ _ (by omega) (by rw [w2_size]; omega)
    have q0 : bt (put (bdy r) 2 (w2 x)) 0 = bt (bdy r) 0 := bt_put_off (by omega) (by rw [w2_size]; omega) (by omega)
    have q1 : bt (put (bdy r) 2 (w2 x)) 1 = bt (bdy r) 1 := bt_put_off (by omega) (by rw [w2_size]; omega) (by omega)
    have q8 : prt (put (bdy r) 2 (w2 x)) 8 (bdy r).size = prt (bdy r) 8 (bdy r).size := prt_put_hi (by rw [w2_size]; omega) (by omega) (by rw [w2_size]; omega)
    have hir : icr (put (bdy r) 2 (w2 x)) = 0 := by
      unfold icr
      rw [qz, q0, q1, q8]
      exact hi
    obtain ⟨k1, k2, k3, k4, k5⟩ := key 2 x (by omega) (by omega) (fun h => by omega) (fun h => by omega) (fun _ => hir)
    have q2 : wd (put (bdy r) 2 (w2 x)) 2 = x := wd_put_at (by omega) (by omega) hk.1 hk.2
    unfold chk
    rw [if_pos k1, k2, if_neg (by omega), if_neg (by omega), if_pos e]
    unfold icv
    rw [k3, q2, blk_put (by omega) (by omega), hx]
    exact icase_on hir
end
end Go.Proofs.YthiljpbodmajaabGreat.Plain
