/-
  PLAIN MATHEMATICS: error messages that are carried on.
-/
import Derived.Test.YthiljpbodmajaaaGreatLetf
import Derived.Test.YthiljpbodmajaaaGreatMsga
import Derived.Test.YthiljpbodmajaaaGreatRequ
import Derived.Test.YthiljpbodmajaaaGreatAgnp
namespace Go.Proofs.YthiljpbodmajaaaGreat
open Plain
set_option linter.unusedVariables false

/-- an error message that may be sent -/
structure Ltok (m : Lt) : Prop where
  hd : Hdok m.d
  pr : m.d.pr = 1
  o4 : m.d.op.size % 4 = 0
  ki : m.ki = 3 ∨ m.ki = 11 ∨ m.ki = 12
  re : m.re.size = 4
  all : 28 + m.d.op.size + m.qu.size + m.d.ta.size ≤ 65535
  us : usB m.d.sa = true
  ud : usB m.d.da = true
  qv : quotev m.qu = 0
def lck (m : Lt) : Int := 65535 - ksm (lb0 m)
theorem lck_bd (m : Lt) : 0 ≤ lck m ∧ lck m < 65536 := by have := ksm_bd (lb0 m); unfold lck; omega
def lfx (m : Lt) (c x : Int) : ByteArray := kh m.d (lbx m x).size c ++ (lbx m x ++ m.d.ta)
theorem lbx_len (m : Lt) (x y : Int) : (lbx m x).size = (lbx m y).size := by rw [lbx_size, lbx_size]
theorem lfr_eq (m : Lt) : lfr m = lfx m (kcs m.d (lbx m (lck m)).size) (lck m) := by
  unfold lfr lfx
  rw [kwh_eq, lbd_eq]
  rfl
theorem lfx_len (m : Lt) (c x : Int) : (lfx m c x).size = 20 + m.d.op.size + (4 + m.re.size + m.qu.size) + m.d.ta.size := by
  unfold lfx; simp only [ByteArray.size_append]; unfold kh; rw [hd_size, lbx_size]; omega
theorem lfx_put8 (m : Lt) (c x t : Int) : put (lfx m c x) 8 (b1 t) = lfx { m with d := { m.d with tl := t } } c x := hd_put8 _ _ _ _ _ _ _ _ _ _ _ _ t
theorem lfx_put10 (m : Lt) (c x c' : Int) : put (lfx m c x) 10 (w2 c') = lfx m c' x := hd_put10 _ _ _ _ _ _ _ _ _ _ _ _ c'
theorem lfx_put12 (m : Lt) (c x a : Int) : put (lfx m c x) 12 (l4 a) = lfx { m with d := { m.d with sa := a } } c x := hd_put12 _ _ _ _ _ _ _ _ _ _ _ _ a
theorem lfx_put16 (m : Lt) (c x a : Int) : put (lfx m c x) 16 (l4 a) = lfx { m with d := { m.d with da := a } } c x := hd_put16 _ _ _ _ _ _ _ _ _ _ _ _ a
theorem lfx_putc (m : Lt) (c x y i : Int) (hi : i = 20 + (m.d.op.size : Int) + 2) : put (lfx m c x) i (w2 y) = lfx m c y := by
  unfold lfx
  rw [put_body _ (lbx m x) m.d.ta (w2 y) i 2 (by rw [kh_size]; exact hi) (by omega) (by rw [w2_size, lbx_size]; omega), lbx_put, lbx_len m x y]
theorem lfx_putq (m : Lt) (c x i : Int) (q : ByteArray) (hre : m.re.size = 4) (hq : q.size = m.qu.size) (hi : i = 20 + (m.d.op.size : Int) + 8) : put (lfx m c x) i q = lfx { m with qu := q } c x := by
  have e : put (lbx m x) 8 q = lbx { m with qu := q } x := by
    have := put_mid (b1 (m.ki % 256) ++ b1 (m.co % 256) ++ w2 x ++ m.re) m.qu ByteArray.empty q 8 (by simp [b1_size, w2_size, hre]) hq.symm
    unfold lbx
    simpa using this
  have ez : (lbx m x).size = (lbx { m with qu := q } x).size := by rw [lbx_size, lbx_size]; show 4 + m.re.size + m.qu.size = 4 + m.re.size + q.size; omega
  unfold lfx
  rw [put_body _ (lbx m x) m.d.ta q i 8 (by rw [kh_size]; exact hi) (by omega) (by rw [lbx_size]; omega), e, ez]
section
variable {m : Lt} (L : Ltok m)
include L
theorem Ltok.big (x : Int) : m.d.op.size + (lbx m x).size ≤ 65515 ∧ (lbx m x).size = 8 + m.qu.size := by
  have := L.all; have := L.re; rw [lbx_size]; omega
theorem Ltok.len (c x : Int) : (lfx m c x).size ≤ 65535 := by have := L.all; have := L.re; rw [lfx_len]; omega
theorem lfx_parts (c x : Int) (c0 : 0 ≤ c) (c1 : c < 65536) :
    Fits (lfx m c x) ∧ hdv (lfx m c x) = 20 + (m.d.op.size : Int) ∧ bdy (lfx m c x) = lbx m x ∧ bt (lfx m c x) 9 = 1 ∧ bt (lfx m c x) 8 = m.d.tl ∧ wd (lfx m c x) 2 = 28 + (m.d.op.size : Int) + m.qu.size ∧ lg (lfx m c x) 12 = m.d.sa ∧ lg (lfx m c x) 16 = m.d.da ∧ wd (lfx m c x) 10 = c ∧ hsv (lfx m c x) = kcs m.d (lbx m x).size ∧ partB (lfx m c x) = false := by
  obtain ⟨F, e1, e2, e3, e4, e5, e6, e7, e8, e9, e10, e11⟩ := khx_parts L.hd L.o4 (lbx m x) c c0 c1 (L.big x).1 (L.len c x)
  have hb := (L.big x).2
  exact ⟨F, e1, e2, by rw [← L.pr]; exact e3, e4, by unfold lfx; rw [e5, hb]; omega, e6, e7, e8, e9, e10⟩
theorem lbx_type (x : Int) : bt (lbx m x) 0 = m.ki := by
  have hk : 0 ≤ m.ki ∧ m.ki < 256 := by have := L.ki; omega
  have := bt_mid1 ByteArray.empty (b1 (m.co % 256) ++ w2 x ++ m.re ++ m.qu) (m.ki % 256) 0 (by simp) (by omega) (by omega)
  unfold lbx
  rw [show m.ki % 256 = m.ki by omega] at this ⊢
  simpa [ByteArray.append_assoc] using this
theorem lfx_quo (c x : Int) (c0 : 0 ≤ c) (c1 : c < 65536) : quo (lfx m c x) = m.qu := by
  obtain ⟨F, e1, e2, e3, e4, e5, e6, e7, e8, e9, e10⟩ := lfx_parts L c x c0 c1
  unfold quo
  rw [e2]
  have hz := (L.big x).2
  have := prt_mid (b1 (m.ki % 256) ++ b1 (m.co % 256) ++ w2 x ++ m.re) m.qu ByteArray.empty 8 ((lbx m x).size : Int) (by simp [b1_size, w2_size, L.re]) (by simp [b1_size, w2_size, L.re]; omega)
  have e : b1 (m.ki % 256) ++ b1 (m.co % 256) ++ w2 x ++ m.re ++ m.qu ++ ByteArray.empty = lbx m x := by unfold lbx; simp
  rw [e] at this
  exact this
theorem lfx_err (c x : Int) (c0 : 0 ≤ c) (c1 : c < 65536) : isErr (lfx m c x) = true := by
  obtain ⟨F, e1, e2, e3, e4, e5, e6, e7, e8, e9, e10⟩ := lfx_parts L c x c0 c1
  have hz := (L.big x).2
  have h0 : bt (lfx m c x) (hdv (lfx m c x)) = m.ki := by
    rw [← bdy_bt0 F (by rw [e2]; omega), e2]; exact lbx_type L x
  unfold isErr
  rw [e3, h0]
  rcases L.ki with e | e | e <;> rw [e] <;> rfl
omit L in
theorem lbx_wd2 (x : Int) (x0 : 0 ≤ x) (x1 : x < 65536) : wd (lbx m x) 2 = x := by
  have := wd_mid (b1 (m.ki % 256) ++ b1 (m.co % 256)) (m.re ++ m.qu) x 2 (by simp [b1_size]) x0 x1
  unfold lbx
  simpa [ByteArray.append_assoc] using this
theorem lbx_s (x : Int) : sumv (blk (lbx m x) 2) = lck m := lbx_sum m x (by have := L.all; have := L.re; omega)
theorem lfr_chk : chk (lfr m) = 0 := by
  have hc := kcs_bd m.d (lbx m (lck m)).size
  have hx := lck_bd m
  rw [lfr_eq]
  obtain ⟨F, e1, e2, e3, e4, e5, e6, e7, e8, e9, e10⟩ := lfx_parts L _ (lck m) hc.1 hc.2
  have hz := (L.big (lck m)).2
  have hq := lfx_quo L _ (lck m) hc.1 hc.2
  generalize hS : lfx m (kcs m.d (lbx m (lck m)).size) (lck m) = s at *
  have hh : hdrv s = 0 := by
    unfold hdrv
    have hf : fitsB s = true := by
      unfold fitsB
      rw [decide_eq_true_eq]
      exact ⟨F.n20, F.n64, F.v4, F.h20, F.ht, F.tn⟩
    rw [if_pos hf, e8, e9, e10, e6, e7, L.us, L.ud]
    simp
  unfold chk
  rw [if_pos hh, e3, if_neg (by decide), if_neg (by decide), if_pos rfl]
  unfold icv icase
  rw [e2, if_neg (by omega), lbx_wd2 _ hx.1 hx.2, lbx_s L, lbx_type L]
  have he : errB m.ki = true := by rcases L.ki with e | e | e <;> rw [e] <;> rfl
  have hqq : prt (lbx m (lck m)) 8 (lbx m (lck m)).size = m.qu := by rw [← hq]; unfold quo; rw [e2]
  rw [if_neg (by simp), if_pos he, hqq]
  exact L.qv
theorem lfx_snt (c x : Int) (c0 : 0 ≤ c) (c1 : c < 65536) (ht : 1 ≤ m.d.tl) : snt (lfx m c x) = lfr { m with d := { m.d with tl := m.d.tl - 1 } } := by
  obtain ⟨F, e1, e2, e3, e4, e5, e6, e7, e8, e9, e10⟩ := lfx_parts L c x c0 c1
  have L' : Ltok { m with d := { m.d with tl := m.d.tl - 1 } } := ⟨⟨L.hd.pr, L.hd.s0, L.hd.s1, L.hd.d0, L.hd.d1, by show 0 ≤ m.d.tl - 1; omega, by show m.d.tl - 1 < 256; have := L.hd.t1; omega, L.hd.op, L.hd.ta⟩, L.pr, L.o4, L.ki, L.re, L.all, L.us, L.ud, L.qv⟩
  unfold snt snt2 snt1
  rw [e4, lfx_put8]
  obtain ⟨F', e1', e2', e3', e4', e5', e6', e7', e8', e9', e10'⟩ := lfx_parts L' c x c0 c1
  rw [e9', lfx_put10]
  have hc := kcs_bd { m.d with tl := m.d.tl - 1 } (lbx { m with d := { m.d with tl := m.d.tl - 1 } } x).size
  obtain ⟨F2, q1, q2, q3, q4, q5, q6, q7, q8, q9, q10⟩ := lfx_parts L' _ x hc.1 hc.2
  unfold sld
  rw [q3, if_neg (by decide), if_neg (by decide), if_pos rfl, q1, q2, lbx_s L', lfx_putc _ _ _ _ _ rfl, lfr_eq, lbx_len _ x (lck { m with d := { m.d with tl := m.d.tl - 1 } })]
end
theorem fxh_size {b q : ByteArray} (h : 20 ≤ q.size) : (fxh b q).size = q.size := by unfold fxh; exact put_size _ _ _ (by omega) (by rw [w2_size]; omega)
/-- a message with other ends and another quote, carried on -/
theorem letter_on {m : Lt} (L : Ltok m) (a b : Int) (ha : usB a = true) (hb : usB b = true) (r : ByteArray) (hz : r.size = m.qu.size) (hz20 : 20 ≤ m.qu.size) (hv : quotev (fxb m.qu (fxh m.qu r)) = 0) (ht : 1 ≤ m.d.tl) :
    snt (wqu (put (put (lfr m) 12 (l4 a)) 16 (l4 b)) r) = lfr { m with d := { m.d with sa := a, da := b, tl := m.d.tl - 1 }, qu := fxb m.qu (fxh m.qu r) } := by
  have hc := kcs_bd m.d (lbx m (lck m)).size
  have ba := us_bd ha
  have bb := us_bd hb
  have e0 : put (put (lfr m) 12 (l4 a)) 16 (l4 b) = lfx ⟨{ m.d with sa := a, da := b }, m.ki, m.co, m.re, m.qu⟩ (kcs m.d (lbx m (lck m)).size) (lck m) := by rw [lfr_eq, lfx_put12, lfx_put16]
  rw [e0]
  have L1 : Ltok ⟨{ m.d with sa := a, da := b }, m.ki, m.co, m.re, m.qu⟩ := ⟨⟨L.hd.pr, ba.1, ba.2, bb.1, bb.2, L.hd.t0, L.hd.t1, L.hd.op, L.hd.ta⟩, L.pr, L.o4, L.ki, L.re, L.all, ha, hb, L.qv⟩
  have hq := lfx_quo L1 (kcs m.d (lbx m (lck m)).size) (lck m) hc.1 hc.2
  obtain ⟨F, e1, e2, e3, e4, e5, e6, e7, e8, e9, e10⟩ := lfx_parts L1 (kcs m.d (lbx m (lck m)).size) (lck m) hc.1 hc.2
  have hzz : (fxb m.qu (fxh m.qu r)).size = m.qu.size := by rw [fxb_size, fxh_size (by omega), hz]
  unfold wqu
  have hq' : quo (lfx ⟨{ m.d with sa := a, da := b }, m.ki, m.co, m.re, m.qu⟩ (kcs m.d (lbx m (lck m)).size) (lck m)) = m.qu := hq
  rw [e1, hq']
  generalize fxb m.qu (fxh m.qu r) = Q at hzz hv ⊢
  generalize kcs m.d (lbx m (lck m)).size = C at hc ⊢
  generalize lck m = X
  rw [lfx_putq ⟨{ m.d with sa := a, da := b }, m.ki, m.co, m.re, m.qu⟩ C X _ Q L.re hzz rfl]
  have hall : 28 + m.d.op.size + Q.size + m.d.ta.size ≤ 65535 := by rw [hzz]; exact L.all
  have L2 : Ltok ⟨{ m.d with sa := a, da := b }, m.ki, m.co, m.re, Q⟩ := ⟨L1.hd, L.pr, L.o4, L.ki, L.re, hall, ha, hb, hv⟩
  exact lfx_snt L2 C X hc.1 hc.2 ht
end Go.Proofs.YthiljpbodmajaaaGreat
namespace Go.Proofs.YthiljpbodmajaaaGreat
open Plain
set_option linter.unusedVariables false

theorem kfr_facts {d : Dg} (D : Dgok d) (hs : (kfr d).size ≤ 65535) : ver (kfr d) = 4 ∧ hdv (kfr d) = 20 + (d.op.size : Int) ∧ wd (kfr d) 6 % 8192 = 0 ∧ bt (kfr d) 9 = d.pr ∧ lg (kfr d) 12 = d.sa ∧ lg (kfr d) 16 = d.da ∧ (d.pr = 1 → bt (kfr d) (20 + (d.op.size : Int)) = d.kd) ∧ (¬ d.pr = 1 → wd (kfr d) (20 + (d.op.size : Int)) = d.sp ∧ wd (kfr d) (20 + (d.op.size : Int) + 2) = d.dp) ∧ (d.pr = 1 → wd (kfr d) (20 + (d.op.size : Int) + 4) = kid d) := by
  have hc := kcs_bd d (kbx d (kfd d)).size
  have hx : 0 ≤ kfd d ∧ kfd d < 65536 := by unfold kfd; have := kck_bd d; split <;> omega
  have hbig := kbx_big D (kfd d)
  have hs' := hs
  rw [kfr_eq D] at hs'
  obtain ⟨F, e1, e2, e3, e4, e5, e6, e7, e8, e9, e10, e11⟩ := kfx_parts D _ _ hc.1 hc.2 hbig.1 hs'
  have ww := kfx_words D _ _ hc.1 hc.2 hx.1 hx.2 hs'
  rw [← kfr_eq D] at F e1 e2 e3 e4 e5 e6 e7 e8 e9 e10 e11 ww
  refine ⟨F.v4, e1, ?_, e3, e6, e7, fun hp => ?_, ww.2.2.2.2.2.1, ww.2.2.2.2.2.2⟩
  · unfold partB at e10
    have : wd (kfr d) 6 % 16384 = 0 := by simpa using e10
    omega
  · rw [← e1, ← bdy_bt0 F (by rw [e2]; exact hbig.2), e2]
    exact (kfx_query D (kfd d) hp).1
theorem quotev_of {d : Dg} (D : Dgok d) (hs : (kfr d).size ≤ 65535) (q : ByteArray) (hz : 28 + (d.op.size : Int) ≤ q.size) (hb : ∀ i, i ≤ 20 + (d.op.size : Int) → bt q i = bt (kfr d) i) : quotev q = 0 := by
  obtain ⟨f1, f2, f3, f4, f5, f6, f7, f8, f9⟩ := kfr_facts D hs
  have h1 : ver q = 4 := by rw [← f1]; unfold ver; rw [hb 0 (by omega)]
  have h2 : hdv q = 20 + (d.op.size : Int) := by rw [← f2]; unfold hdv; rw [hb 0 (by omega)]
  have h3 : wd q 6 % 8192 = 0 := by rw [← f3]; unfold wd; rw [hb 6 (by omega), hb (6 + 1) (by omega)]
  have h4 : bt q 9 = d.pr := by rw [← f4]; exact hb 9 (by omega)
  unfold quotev qcase
  rw [h1, h2, h4, if_pos ⟨by omega, rfl, by omega, by omega⟩, if_neg (by simpa using h3)]
  rcases D.pr with ⟨h, _⟩ | ⟨h, _⟩ | ⟨h, hk⟩
  · rw [h]; rfl
  · rw [h]; rfl
  · rw [hb _ (Int.le_refl _), f7 h, h]
    rcases hk with e | e | e | e <;> rw [e] <;> rfl
/-- the quote of d, k bytes -/
structure Quk (d : Dg) (k : Int) : Prop where
  ok : Dgok d
  all : (kfr d).size ≤ 65535
  k0 : 28 + (d.op.size : Int) ≤ k
  k1 : k ≤ 20 + (d.op.size : Int) + (kbd d).size
section
variable {d : Dg} {k : Int} (Q : Quk d k)
include Q
theorem Quk.size : ((prt (kfr d) 0 k).size : Int) = k := by have := kfr_size Q.ok; have := Q.k1; have := Q.k0; rw [prt_size]; omega
theorem Quk.qv : quotev (prt (kfr d) 0 k) = 0 := quotev_of Q.ok Q.all _ (by rw [Q.size]; exact Q.k0) fun i hi => bt_prt0 _ _ _ (by have := Q.k0; omega)
theorem Quk.facts : hdv (prt (kfr d) 0 k) = 20 + (d.op.size : Int) ∧ bt (prt (kfr d) 0 k) 9 = d.pr ∧ lg (prt (kfr d) 0 k) 12 = d.sa ∧ lg (prt (kfr d) 0 k) 16 = d.da := by
  obtain ⟨f1, f2, f3, f4, f5, f6, f7, f8, f9⟩ := kfr_facts Q.ok Q.all
  have := Q.k0
  exact ⟨by rw [hdv_prt0 _ _ (by omega), f2], by rw [bt_prt0 _ _ _ (by omega), f4], by rw [lg_prt0 _ _ _ (by omega), f5], by rw [lg_prt0 _ _ _ (by omega), f6]⟩
theorem Quk.sport (hk : d.pr = 1 → d.kd = 8 ∨ d.kd = 13) : wd (prt (kfr d) 0 k) (ppl (prt (kfr d) 0 k) 0) = d.sp := by
  obtain ⟨f1, f2, f3, f4, f5, f6, f7, f8, f9⟩ := kfr_facts Q.ok Q.all
  obtain ⟨g1, g2, g3, g4⟩ := Q.facts
  have := Q.k0
  unfold ppl
  rw [g1, g2]
  by_cases h : d.pr = 1
  · rw [if_pos h, wd_prt0 _ _ _ (by omega), f9 h]
    unfold kid
    rw [if_pos (hk h)]
  · rw [if_neg h, Int.add_zero, wd_prt0 _ _ _ (by omega)]
    exact (f8 h).1
theorem Quk.dport (hk : d.pr = 1 → d.kd = 0 ∨ d.kd = 14) : wd (prt (kfr d) 0 k) (ppl (prt (kfr d) 0 k) 2) = d.dp := by
  obtain ⟨f1, f2, f3, f4, f5, f6, f7, f8, f9⟩ := kfr_facts Q.ok Q.all
  obtain ⟨g1, g2, g3, g4⟩ := Q.facts
  have := Q.k0
  unfold ppl
  rw [g1, g2]
  by_cases h : d.pr = 1
  · rw [if_pos h, wd_prt0 _ _ _ (by omega), f9 h]
    unfold kid
    rw [if_neg (by have := hk h; omega)]
  · rw [if_neg h, wd_prt0 _ _ _ (by omega)]
    exact (f8 h).2
theorem Quk.ppr : ppr (prt (kfr d) 0 k) = if d.pr = 1 then 0 else d.dp := by
  obtain ⟨f1, f2, f3, f4, f5, f6, f7, f8, f9⟩ := kfr_facts Q.ok Q.all
  obtain ⟨g1, g2, g3, g4⟩ := Q.facts
  have := Q.k0
  unfold Go.Proofs.YthiljpbodmajaaaGreat.ppr ppl
  rw [g1, g2]
  by_cases h : d.pr = 1
  · rw [if_pos h, if_pos h]
  · rw [if_neg h, if_neg h, if_neg h, wd_prt0 _ _ _ (by omega)]
    exact (f8 h).2
end
section
variable {d : Dg} {k c X : Int} (D : Dgok d) (hs : (kfx d c X).size ≤ 65535) (k0 : 28 + (d.op.size : Int) ≤ k) (k1 : k ≤ (kfx d c X).size) (c0 : 0 ≤ c) (c1 : c < 65536)
include D hs k0 k1 c0 c1
/-- the quote with another source -/
theorem kfx_src (a p : Int) (a0 : 0 ≤ a) (a1 : a < 4294967296) (hk : d.pr = 1 → d.kd = 8 ∨ d.kd = 13) : wsrc (prt (kfx d c X) 0 k) a p = prt (kfx { d with sa := a, sp := p } c X) 0 k := by
  have Da : Dgok { d with sa := a } := ⟨D.pr, a0, a1, D.d0, D.d1, D.p0, D.p1, D.q0, D.q1, D.t0, D.t1, D.md, D.op, D.o4, D.tx, D.ta⟩
  have hbig := kbx_big D X
  obtain ⟨F, f1, f2, f3, f4, f5, f6, f7, f8, f9, f10, f11⟩ := kfx_parts D c X c0 c1 hbig.1 hs
  have hsz : ((prt (kfx d c X) 0 k).size : Int) = k := by rw [prt_size]; omega
  have e1 : put (prt (kfx d c X) 0 k) 12 (l4 a) = prt (kfx { d with sa := a } c X) 0 k := by
    rw [prt_put _ _ _ _ (by omega) (by rw [l4_size]; omega) k1, kfx_put12]
  unfold wsrc
  have hp : ppl (put (prt (kfx d c X) 0 k) 12 (l4 a)) 0 = 20 + (d.op.size : Int) + (if d.pr = 1 then 4 else 0) := by
    unfold ppl
    rw [hdv_put (by omega) (by rw [l4_size, hsz]; omega), bt_put_off (by omega) (by rw [l4_size, hsz]; omega) (by omega), hdv_prt0 _ _ (by omega), bt_prt0 _ _ _ (by omega), f1, f3]
  have hz2 : (kfx { d with sa := a } c X).size = (kfx d c X).size := by
    rw [← kfx_put12, put_size _ _ _ (by omega) (by rw [l4_size]; omega)]
  rw [hp, e1, prt_put _ _ _ _ (by split <;> omega) (by rw [w2_size]; split <;> omega) (by rw [hz2]; omega)]
  rw [kfx_puts Da _ _ p _ hk rfl]
/-- the quote with another destination -/
theorem kfx_dst (a p : Int) (a0 : 0 ≤ a) (a1 : a < 4294967296) (hk : d.pr = 1 → d.kd = 0 ∨ d.kd = 14) : wdst (prt (kfx d c X) 0 k) a p = prt (kfx { d with da := a, dp := p } c X) 0 k := by
  have Da : Dgok { d with da := a } := ⟨D.pr, D.s0, D.s1, a0, a1, D.p0, D.p1, D.q0, D.q1, D.t0, D.t1, D.md, D.op, D.o4, D.tx, D.ta⟩
  have hbig := kbx_big D X
  obtain ⟨F, f1, f2, f3, f4, f5, f6, f7, f8, f9, f10, f11⟩ := kfx_parts D c X c0 c1 hbig.1 hs
  have hsz : ((prt (kfx d c X) 0 k).size : Int) = k := by rw [prt_size]; omega
  have e1 : put (prt (kfx d c X) 0 k) 16 (l4 a) = prt (kfx { d with da := a } c X) 0 k := by
    rw [prt_put _ _ _ _ (by omega) (by rw [l4_size]; omega) k1, kfx_put16]
  unfold wdst
  have hp : ppl (put (prt (kfx d c X) 0 k) 16 (l4 a)) 2 = 20 + (d.op.size : Int) + (if d.pr = 1 then 4 else 2) := by
    unfold ppl
    rw [hdv_put (by omega) (by rw [l4_size, hsz]; omega), bt_put_off (by omega) (by rw [l4_size, hsz]; omega) (by omega), hdv_prt0 _ _ (by omega), bt_prt0 _ _ _ (by omega), f1, f3]
  have hz2 : (kfx { d with da := a } c X).size = (kfx d c X).size := by
    rw [← kfx_put16, put_size _ _ _ (by omega) (by rw [l4_size]; omega)]
  rw [hp, e1, prt_put _ _ _ _ (by split <;> omega) (by rw [w2_size]; split <;> omega) (by rw [hz2]; omega)]
  rw [kfx_putd Da _ _ p _ hk rfl]
end
section
variable {d : Dg} {k : Int} (Q : Quk d k)
include Q
theorem Quk.src (a p : Int) (a0 : 0 ≤ a) (a1 : a < 4294967296) (hk : d.pr = 1 → d.kd = 8 ∨ d.kd = 13) : wsrc (prt (kfr d) 0 k) a p = prt (kfx { d with sa := a, sp := p } (kcs d (kbx d (kfd d)).size) (kfd d)) 0 k := by
  have hz := kfr_size Q.ok
  have h1 := Q.k1
  have hs := Q.all
  have hc := kcs_bd d (kbx d (kfd d)).size
  rw [kfr_eq Q.ok] at hz hs ⊢
  exact kfx_src Q.ok hs Q.k0 (by omega) hc.1 hc.2 a p a0 a1 hk
theorem Quk.dst (a p : Int) (a0 : 0 ≤ a) (a1 : a < 4294967296) (hk : d.pr = 1 → d.kd = 0 ∨ d.kd = 14) : wdst (prt (kfr d) 0 k) a p = prt (kfx { d with da := a, dp := p } (kcs d (kbx d (kfd d)).size) (kfd d)) 0 k := by
  have hz := kfr_size Q.ok
  have h1 := Q.k1
  have hs := Q.all
  have hc := kcs_bd d (kbx d (kfd d)).size
  rw [kfr_eq Q.ok] at hz hs ⊢
  exact kfx_dst Q.ok hs Q.k0 (by omega) hc.1 hc.2 a p a0 a1 hk
end
theorem rqt_qv {d e : Dg} {k : Int} (Q : Quk d k) (De : Dgok e) (E : Ends d e) : quotev (rqt d e k) = 0 ∧ (rqt d e k).size = (prt (kfr d) 0 k).size := by
  have hz : (kfr e).size = (kfr d).size := by
    rw [kfr_eq De, kfr_eq Q.ok, kfx_len, kfx_len, E.op, E.ta, E.kbx De Q.ok (kfd e) (kfd d)]
  have hd := kfr_size Q.ok
  have h0 := Q.k0
  have h1 := Q.k1
  have hq := Q.size
  have z1 : ((prt (kfr e) 0 (k - 1)).size : Int) = k - 1 := by rw [prt_size]; omega
  have z2 : ((prt (kfr d) (k - 1) k).size : Int) = 1 := by rw [prt_size]; omega
  have z3 : ((prt (kfr e) 0 k).size : Int) = k := by rw [prt_size]; omega
  have ez : ((rqt d e k).size : Int) = k := by
    unfold rqt
    split
    · rw [ByteArray.size_append]; omega
    · exact z3
  refine ⟨quotev_of De (by rw [hz]; exact Q.all) _ (by rw [ez, E.op]; omega) fun i hi => ?_, by omega⟩
  rw [E.op] at hi
  unfold rqt
  split
  · rw [bt_append_l _ _ _ (by omega), bt_prt0 _ _ _ (by omega)]
  · exact bt_prt0 _ _ _ (by omega)
/-- what may be sent about d -/
structure Noted (m : Lt) (d : Dg) (k : Int) : Prop where
  ok : Ltok m
  q : Quk d k
  qu : m.qu = prt (kfr d) 0 k
  tl : 2 ≤ m.d.tl
section
variable {m : Lt} {d : Dg} {k : Int} {g : Cf}
theorem Noted.exam (N : Noted m d k) (h : Int) (hh : h = 0 ∨ h = 1) (n1 : ¬ m.d.sa = g.ia) (n2 : ¬ m.d.sa = g.oa) (n3 : ¬ m.d.da = g.ia) (n4 : h = 1 → m.d.da = g.oa) : exam g h (lfr m) = 0 ∧ isErr (lfr m) = true ∧ quo (lfr m) = prt (kfr d) 0 k ∧ lg (lfr m) 16 = m.d.da ∧ bt (lfr m) 8 = m.d.tl ∧ wd (lfr m) 2 = 28 + (m.d.op.size : Int) + m.qu.size := by
  have L := N.ok
  have hc := kcs_bd m.d (lbx m (lck m)).size
  have hk := lfr_chk L
  have he := lfx_err L _ (lck m) hc.1 hc.2
  have hq := lfx_quo L _ (lck m) hc.1 hc.2
  obtain ⟨F, e1, e2, e3, e4, e5, e6, e7, e8, e9, e10⟩ := lfx_parts L _ (lck m) hc.1 hc.2
  rw [← lfr_eq] at F e1 e2 e3 e4 e5 e6 e7 e8 e9 e10 he hq
  have a1 : (m.d.sa == g.ia) = false := by simpa using n1
  have a2 : (m.d.sa == g.oa) = false := by simpa using n2
  have a3 : (m.d.da == g.ia) = false := by simpa using n3
  refine ⟨?_, he, by rw [hq, N.qu], e7, e4, e5⟩
  have hrq : isReq (lfr m) = false ∧ isRep (lfr m) = false := by
    have ht : ∃ t, bt (lfr m) (hdv (lfr m)) = t ∧ errB t = true := by
      refine ⟨_, rfl, ?_⟩
      unfold isErr at he
      rw [e3] at he
      simpa using he
    obtain ⟨t, t1, t2⟩ := ht
    have ht : t = 3 ∨ t = 11 ∨ t = 12 := by simpa [errB] using t2
    unfold isReq isRep
    rw [e3, t1]
    rcases ht with e | e | e <;> rw [e] <;> exact ⟨rfl, rfl⟩
  unfold Plain.exam
  rw [if_neg (by omega), if_neg (by rw [hk]; simp)]
  have h1 : addrB g h (lfr m) = true := by
    unfold addrB
    rw [e6, e7, a1, a2, a3]
    rcases hh with e | e
    · rw [e]; rfl
    · rw [n4 e, e]; simp
  have h2 : kindB g h (lfr m) = true := by
    unfold kindB
    rw [hrq.1, hrq.2]
    split <;> rfl
  rw [h1, h2]
  rfl
theorem Noted.pss (N : Noted m d k) (u : Int) (hl : 28 + (m.d.op.size : Int) + k ≤ u) : pss (lfr m) u = 0 := by
  have hqz := N.q.size
  have L := N.ok
  have hc := kcs_bd m.d (lbx m (lck m)).size
  obtain ⟨F, e1, e2, e3, e4, e5, e6, e7, e8, e9, e10⟩ := lfx_parts L _ (lck m) hc.1 hc.2
  rw [← lfr_eq] at e4 e5
  unfold Plain.pss
  rw [e4, e5, if_neg (by have := N.tl; omega), if_neg (by rw [N.qu]; omega)]
/-- a message about d, told about e -/
theorem Noted.on (N : Noted m d k) {e : Dg} (De : Dgok e) (E : Ends d e) (hq : d.pr = 1 → ¬ d.kd = 0 ∨ 0 < kid e) (a b : Int) (ha : usB a = true) (hb : usB b = true) :
    snt (wqu (put (put (lfr m) 12 (l4 a)) 16 (l4 b)) (prt (kfx e (kcs d (kbx d (kfd d)).size) (kfd d)) 0 k)) = lfr { m with d := { m.d with sa := a, da := b, tl := m.d.tl - 1 }, qu := rqt d e k } := by
  have Q := N.q
  have hqz := Q.size
  have hq0 := Q.k0
  have hrq := requote Q.ok De E k Q.k0 Q.k1 Q.all hq
  have hrz := rqt_qv Q De E
  have hon := letter_on N.ok a b ha hb (prt (kfx e (kcs d (kbx d (kfd d)).size) (kfd d)) 0 k)
  rw [N.qu, hrq] at hon
  have hsz : (kfx e (kcs d (kbx d (kfd d)).size) (kfd d)).size = (kfr d).size := by
    rw [kfr_eq Q.ok, kfx_len, kfx_len, E.op, E.ta, E.kbx De Q.ok (kfd d) (kfd d)]
  exact hon (by rw [prt_size, prt_size, hsz]) (by omega) hrz.1 (by have := N.tl; omega)
/-- UNDONE: an error message from the outside about what has gone out -/
theorem undone_R (G : g.ok = true) {u : Dg} {tk ex : Int} {ms : List Mp} {mp : Mp} (D : Dgok u) (hkd : u.pr = 1 → u.kd = 8 ∨ u.kd = 13) (hus : usB u.sa = true) (N : Noted m { u with sa := g.oa, sp := ex } k) (n1 : ¬ m.d.sa = g.ia) (n2 : ¬ m.d.sa = g.oa) (n4 : m.d.da = g.oa) (hl : 28 + (m.d.op.size : Int) + k ≤ g.im)
    (hm : ms[ms.findIdx (·.has u.pr ex)]? = some mp) (m2 : mp.ea = u.sa) (m3 : mp.ep = u.sp) (m4 : mp.knows u.da (if u.pr = 1 then 0 else u.dp) = true) :
    frR g tk ms 1 (lfr m) = ⟨0, 0, lfr { m with d := { m.d with da := u.sa, tl := m.d.tl - 1 }, qu := rqt { u with sa := g.oa, sp := ex } u k }, tk, ms⟩ := by
  have C := cok_of G
  have hio : ¬ g.oa = g.ia := fun e => C.ne e.symm
  have L := N.ok
  have Q := N.q
  obtain ⟨x1, x2, x3, x4, x5, x6⟩ := N.exam (g := g) 1 (.inr rfl) n1 n2 (by rw [n4]; exact hio) (fun _ => n4)
  obtain ⟨g1, g2, g3, g4⟩ := Q.facts
  have gs := Q.sport hkd
  have gp := Q.ppr
  have hsb := us_bd hus
  have E : Ends { u with sa := g.oa, sp := ex } u := ⟨rfl, rfl, rfl, rfl, rfl, rfl, rfl, rfl, rfl, rfl⟩
  have hsrc := Q.src u.sa u.sp hsb.1 hsb.2 hkd
  have hps := N.pss g.im hl
  have hon := N.on D E (fun h => .inl (by have := hkd h; show ¬ u.kd = 0; omega)) m.d.sa u.sa L.us hus
  have h12 : put (lfr m) 12 (l4 m.d.sa) = lfr m := by rw [lfr_eq, lfx_put12]
  rw [h12] at hon
  unfold frR
  rw [if_pos x1, if_pos x2]
  unfold msgR
  rw [if_pos rfl]
  unfold mInR
  rw [x3]
  have hsn : sndM g ms (prt (kfr { u with sa := g.oa, sp := ex }) 0 k) (lg (prt (kfr { u with sa := g.oa, sp := ex }) 0 k) 16) (ppr (prt (kfr { u with sa := g.oa, sp := ex }) 0 k)) = some mp := by
    unfold sndM
    rw [g3, g2, gs, g4, gp, if_pos rfl, hm]
    show (if mp.knows u.da (if u.pr = 1 then 0 else u.dp) = true then some mp else none) = some mp
    rw [if_pos m4]
  rw [hsn]
  simp only []
  rw [if_pos hps, m2, m3, hsrc, hon]
/-- .. about what has gone to somebody else -/
theorem stranger_R (G : g.ok = true) {u : Dg} {tk ex : Int} {ms : List Mp} {mp : Mp} (hkd : u.pr = 1 → u.kd = 8 ∨ u.kd = 13) (N : Noted m { u with sa := g.oa, sp := ex } k) (n1 : ¬ m.d.sa = g.ia) (n2 : ¬ m.d.sa = g.oa) (n4 : m.d.da = g.oa)
    (hm : ms[ms.findIdx (·.has u.pr ex)]? = some mp) (m4 : mp.knows u.da (if u.pr = 1 then 0 else u.dp) = false) :
    frR g tk ms 1 (lfr m) = ⟨8, 0, ⟨#[]⟩, tk, ms⟩ := by
  have C := cok_of G
  have hio : ¬ g.oa = g.ia := fun e => C.ne e.symm
  have Q := N.q
  obtain ⟨x1, x2, x3, x4, x5, x6⟩ := N.exam (g := g) 1 (.inr rfl) n1 n2 (by rw [n4]; exact hio) (fun _ => n4)
  obtain ⟨g1, g2, g3, g4⟩ := Q.facts
  have gs := Q.sport hkd
  have gp := Q.ppr
  unfold frR
  rw [if_pos x1, if_pos x2]
  unfold msgR
  rw [if_pos rfl]
  unfold mInR
  rw [x3]
  have hsn : sndM g ms (prt (kfr { u with sa := g.oa, sp := ex }) 0 k) (lg (prt (kfr { u with sa := g.oa, sp := ex }) 0 k) 16) (ppr (prt (kfr { u with sa := g.oa, sp := ex }) 0 k)) = none := by
    unfold sndM
    rw [g3, g2, gs, g4, gp, if_pos rfl, hm]
    show (if mp.knows u.da (if u.pr = 1 then 0 else u.dp) = true then some mp else none) = none
    rw [m4]
    rfl
  rw [hsn]
/-- TOLD: an error message from the inside about what came in -/
theorem told_R (G : g.ok = true) {u : Dg} {tk : Int} {ms : List Mp} {mp : Mp} (D : Dgok u) (hkd : u.pr = 1 → u.kd = 0 ∨ u.kd = 14) (N : Noted m u k) (n1 : ¬ m.d.sa = g.ia) (n2 : ¬ m.d.sa = g.oa) (n3 : ¬ m.d.da = g.ia) (n4 : ¬ m.d.da = g.oa) (n5 : m.d.da = u.sa) (hl : 28 + (m.d.op.size : Int) + k ≤ g.om)
    (hm : ms[ms.findIdx (·.of u.pr u.da u.dp)]? = some mp) (x1' : 1 ≤ mp.ex) (x2' : mp.ex ≤ 65535) :
    frR g tk ms 0 (lfr m) = ⟨0, 1, lfr { m with d := { m.d with sa := g.oa, tl := m.d.tl - 1 }, qu := rqt u { u with da := g.oa, dp := mp.ex } k }, tk, ms⟩ := by
  have C := cok_of G
  have L := N.ok
  have Q := N.q
  obtain ⟨x1, x2, x3, x4, x5, x6⟩ := N.exam (g := g) 0 (.inl rfl) n1 n2 n3 (fun h => absurd h (by decide))
  obtain ⟨g1, g2, g3, g4⟩ := Q.facts
  have gs := Q.dport hkd
  have hob := us_bd C.oa
  have E : Ends u { u with da := g.oa, dp := mp.ex } := ⟨rfl, rfl, rfl, rfl, rfl, rfl, rfl, rfl, rfl, rfl⟩
  have De : Dgok { u with da := g.oa, dp := mp.ex } := ⟨D.pr, D.s0, D.s1, hob.1, hob.2, D.p0, D.p1, by show 0 ≤ mp.ex; omega, by show mp.ex < 65536; omega, D.t0, D.t1, D.md, D.op, D.o4, D.tx, D.ta⟩
  have hdst := Q.dst g.oa mp.ex hob.1 hob.2 hkd
  have hps := N.pss g.om hl
  have hon := N.on De E (fun h => .inr (by unfold kid; rw [if_neg (by show ¬ (u.kd = 8 ∨ u.kd = 13); have := hkd h; omega)]; show 0 < mp.ex; omega)) g.oa m.d.da C.oa L.ud
  have h16 : put (put (lfr m) 12 (l4 g.oa)) 16 (l4 m.d.da) = put (lfr m) 12 (l4 g.oa) := by rw [lfr_eq, lfx_put12, lfx_put16]
  rw [h16] at hon
  unfold frR
  rw [if_pos x1, if_pos x2]
  unfold msgR
  rw [if_neg (by decide), if_neg (by rw [x4]; exact n4)]
  unfold mOutR
  rw [x3]
  have hrc : rcvM ms (prt (kfr u) 0 k) = some mp := by
    unfold rcvM
    rw [g2, g4, gs, hm]
  rw [hrc]
  simp only []
  rw [if_pos (by rw [x4, g3, n5]), if_pos hps, hdst, hon]
/-- MIRROR: an error message from the inside about what went back inside -/
theorem mirror_R (G : g.ok = true) {u : Dg} {tk : Int} {ms : List Mp} {r mp : Mp} (D : Dgok u) (hp : ¬ u.pr = 1) (hus : usB mp.ea = true) (N : Noted m u k) (n1 : ¬ m.d.sa = g.ia) (n2 : ¬ m.d.sa = g.oa) (n4 : m.d.da = g.oa) (hso : u.sa = g.oa) (hl : 28 + (m.d.op.size : Int) + k ≤ g.im)
    (hr : ms[ms.findIdx (·.of u.pr u.da u.dp)]? = some r) (hm : ms[ms.findIdx (·.has u.pr u.sp)]? = some mp) (m4 : mp.knows g.oa r.ex = true) (r1 : 1 ≤ r.ex) (r2 : r.ex ≤ 65535) (p0 : 0 ≤ mp.ep) (p1 : mp.ep < 65536) :
    frR g tk ms 0 (lfr m) = ⟨0, 0, lfr { m with d := { m.d with sa := g.oa, da := mp.ea, tl := m.d.tl - 1 }, qu := rqt u { u with sa := mp.ea, sp := mp.ep, da := g.oa, dp := r.ex } k }, tk, ms⟩ := by
  have C := cok_of G
  have hio : ¬ g.oa = g.ia := fun e => C.ne e.symm
  have L := N.ok
  have Q := N.q
  obtain ⟨x1, x2, x3, x4, x5, x6⟩ := N.exam (g := g) 0 (.inl rfl) n1 n2 (by rw [n4]; exact hio) (fun _ => n4)
  obtain ⟨g1, g2, g3, g4⟩ := Q.facts
  have gd := Q.dport (fun h => absurd h hp)
  have gs := Q.sport (fun h => absurd h hp)
  have hob := us_bd C.oa
  have heb := us_bd hus
  have E : Ends u { u with sa := mp.ea, sp := mp.ep, da := g.oa, dp := r.ex } := ⟨rfl, rfl, rfl, rfl, rfl, rfl, rfl, rfl, rfl, rfl⟩
  have De1 : Dgok { u with da := g.oa, dp := r.ex } := ⟨D.pr, D.s0, D.s1, hob.1, hob.2, D.p0, D.p1, by show 0 ≤ r.ex; omega, by show r.ex < 65536; omega, D.t0, D.t1, D.md, D.op, D.o4, D.tx, D.ta⟩
  have De : Dgok { u with sa := mp.ea, sp := mp.ep, da := g.oa, dp := r.ex } := ⟨D.pr, heb.1, heb.2, hob.1, hob.2, p0, p1, by show 0 ≤ r.ex; omega, by show r.ex < 65536; omega, D.t0, D.t1, D.md, D.op, D.o4, D.tx, D.ta⟩
  have hdst := Q.dst g.oa r.ex hob.1 hob.2 (fun h => absurd h hp)
  have hc := kcs_bd u (kbx u (kfd u)).size
  have E1 : Ends u { u with da := g.oa, dp := r.ex } := ⟨rfl, rfl, rfl, rfl, rfl, rfl, rfl, rfl, rfl, rfl⟩
  have hsz : (kfx { u with da := g.oa, dp := r.ex } (kcs u (kbx u (kfd u)).size) (kfd u)).size = (kfr u).size := by
    rw [kfr_eq Q.ok, kfx_len, kfx_len, E1.kbx De1 Q.ok (kfd u) (kfd u)]
  have hz := kfr_size Q.ok
  have hsrc := kfx_src De1 (c := kcs u (kbx u (kfd u)).size) (X := kfd u) (k := k) (by rw [hsz]; exact Q.all) Q.k0 (by rw [hsz]; have := Q.k1; omega) hc.1 hc.2 mp.ea mp.ep heb.1 heb.2 (fun h => absurd h hp)
  have hps := N.pss g.im hl
  have hon := N.on De E (fun h => absurd h hp) g.oa mp.ea C.oa hus
  unfold frR
  rw [if_pos x1, if_pos x2]
  unfold msgR
  rw [if_neg (by decide), if_pos (by rw [x4]; exact n4)]
  unfold mBackR
  rw [x3, if_neg (by rw [g2]; exact hp)]
  have hrc : rcvM ms (prt (kfr u) 0 k) = some r := by
    unfold rcvM
    rw [g2, g4, gd, hr]
  have hsn : sndM g ms (prt (kfr u) 0 k) g.oa r.ex = some mp := by
    unfold sndM
    rw [g3, g2, gs, if_pos hso, hm]
    show (if mp.knows g.oa r.ex = true then some mp else none) = some mp
    rw [if_pos m4]
  rw [hrc]
  simp only []
  rw [hsn]
  simp only []
  rw [if_pos hps, hdst, hsrc, hon]
end
end Go.Proofs.YthiljpbodmajaaaGreat
namespace Go.Proofs.YthiljpbodmajaaaGreat
open Go.RowKit Plain
set_option linter.unusedVariables false

theorem prt_whole (s : ByteArray) : prt s 0 (s.size : Int) = s := by
  have := prt_mid ByteArray.empty s ByteArray.empty 0 (s.size : Int) (by simp) (by simp)
  simpa using this
/-- what must hold of a datagram that goes back inside -/
structure Bkok (a : Dg) (g : Cf) : Prop where
  ok : Dgok a
  all : (kfr a).size ≤ 65535
  us : usB a.sa = true
  n1 : ¬ a.sa = g.ia
  n2 : ¬ a.sa = g.oa
  n4 : a.da = g.oa
  np : ¬ a.pr = 1
  tl : 2 ≤ a.tl
  len : 20 + (a.op.size : Int) + (kbd a).size ≤ g.im
section
variable {a : Dg} {g : Cf} (G : g.ok = true) (B : Bkok a g)
include G B
theorem Bkok.out : Outok a { g with oa := g.ia, om := g.im } := by
  have C := cok_of G
  have h3 : ¬ a.da = g.ia := by rw [B.n4]; exact fun e => C.ne e.symm
  exact ⟨B.ok, B.all, B.us, by rw [B.n4]; exact C.oa, B.n1, B.n1, h3, h3, fun h => absurd h B.np, B.tl, B.len⟩
theorem Bkok.exam : exam g 0 (kfr a) = 0 := by
  have O := Bkok.out G B
  have C := cok_of G
  obtain ⟨F, e1, e2, e3, e4, e5, e6, e7⟩ := O.parts
  obtain ⟨k1, k2, k3⟩ := O.kinds
  have a1 : (a.sa == g.ia) = false := by simpa using B.n1
  have a2 : (a.sa == g.oa) = false := by simpa using B.n2
  have a3 : (a.da == g.ia) = false := by simpa using O.n3
  have k1' : isReq (kfr a) = false := by rw [k1]; simpa using B.np
  unfold Plain.exam
  rw [if_neg (by omega), if_neg (by rw [O.chk]; simp)]
  have h1 : addrB g 0 (kfr a) = true := by unfold addrB; rw [e6, e7, a1, a2, a3]; rfl
  have h2 : kindB g 0 (kfr a) = true := by unfold kindB; rw [if_neg (by omega), k2, k1']; rfl
  rw [h1, h2]; rfl
theorem Bkok.goes (x u p : Int) (x0 : 0 ≤ x) (x1 : x < 65536) (u0 : 0 ≤ u) (u1 : u < 4294967296) (p0 : 0 ≤ p) (p1 : p < 65536) : snt (wdst (wsrc (kfr a) g.oa x) u p) = kfr { a with sa := g.oa, sp := x, da := u, dp := p, tl := a.tl - 1 } := by
  have D := B.ok
  have hall := B.all
  have hoa := us_bd (cok_of G).oa
  have hc := kcs_bd a (kbx a (kfd a)).size
  have hf : 0 ≤ kfd a ∧ kfd a < 65536 := by have := kck_bd a; unfold kfd; split <;> omega
  have hz0 := kfd_zero a
  have hbig := kbx_big D (kfd a)
  rw [kfr_eq D] at hall ⊢
  generalize kcs a (kbx a (kfd a)).size = C at *
  generalize kfd a = K at *
  have hlen := kfx_len a C K
  have D1 : Dgok { a with sa := g.oa, sp := x } := ⟨D.pr, hoa.1, hoa.2, D.d0, D.d1, x0, x1, D.q0, D.q1, D.t0, D.t1, D.md, D.op, D.o4, D.tx, D.ta⟩
  have D2 : Dgok { a with sa := g.oa, sp := x, da := u, dp := p } := ⟨D.pr, hoa.1, hoa.2, u0, u1, x0, x1, p0, p1, D.t0, D.t1, D.md, D.op, D.o4, D.tx, D.ta⟩
  have E1 : Ends a { a with sa := g.oa, sp := x } := ⟨rfl, rfl, rfl, rfl, rfl, rfl, rfl, rfl, rfl, rfl⟩
  have E2 : Ends a { a with sa := g.oa, sp := x, da := u, dp := p } := ⟨rfl, rfl, rfl, rfl, rfl, rfl, rfl, rfl, rfl, rfl⟩
  have s1 : (kfx { a with sa := g.oa, sp := x } C K).size = (kfx a C K).size := by rw [kfx_len, kfx_len, E1.kbx D1 D K K]
  have s2 : (kfx { a with sa := g.oa, sp := x, da := u, dp := p } C K).size = (kfx a C K).size := by rw [kfx_len, kfx_len, E2.kbx D2 D K K]
  have h1 : wsrc (kfx a C K) g.oa x = kfx { a with sa := g.oa, sp := x } C K := by
    have := kfx_src D (c := C) (X := K) (k := (kfx a C K).size) hall (by rw [hlen]; omega) (Int.le_refl _) hc.1 hc.2 g.oa x hoa.1 hoa.2 (fun h => absurd h B.np)
    rw [prt_whole, ← s1, prt_whole] at this
    exact this
  have h2 : wdst (kfx { a with sa := g.oa, sp := x } C K) u p = kfx { a with sa := g.oa, sp := x, da := u, dp := p } C K := by
    have := kfx_dst D1 (c := C) (X := K) (k := (kfx { a with sa := g.oa, sp := x } C K).size) (by rw [s1]; exact hall) (by rw [s1, hlen]; show 28 + (a.op.size : Int) ≤ _; omega) (Int.le_refl _) hc.1 hc.2 u p u0 u1 (fun h => absurd h B.np)
    rw [prt_whole, s1, ← s2, prt_whole] at this
    exact this
  rw [h1, h2]
  exact kfx_snt D2 C K hc.1 hc.2 hf.1 hf.2 hz0 (by show 1 ≤ a.tl; have := B.tl; omega) (by rw [s2]; exact hall)
end
theorem used_knows (m : Mp) (a p i : Int) (h0 : 0 ≤ m.kn) (ht : m.takes a p = true) : (m.used a p i).knows a p = true := by
  unfold Mp.used
  by_cases h : m.kn < 4 ∧ m.knows a p = false
  · rw [if_pos h]
    split
    · simp [Mp.knows]
    · split
      · simp [Mp.knows]
      · split
        · simp [Mp.knows]
        · simp [Mp.knows]
  · rw [if_neg h]
    have h2 : m.knows a p = true := by
      cases hk : m.knows a p
      · exfalso
        simp [Mp.takes, hk] at ht
        exact h ⟨ht, hk⟩
      · rfl
    simpa [Mp.knows] using h2
/-- the table behind it -/
structure Mir (g : Cf) (d a : Dg) (ext own : Int) (ms : List Mp) : Prop where
  tok : Tok g ms
  len : (ms.length : Int) = if a.sa = d.sa ∧ a.sp = d.sp then 1 else 2
  rc : ∃ r, ms[ms.findIdx (·.of d.pr d.sa d.sp)]? = some r ∧ r.ex = ext
  sn : ∃ m, ms[ms.findIdx (·.has d.pr own)]? = some m ∧ m.ea = a.sa ∧ m.ep = a.sp ∧ m.knows g.oa ext = true
theorem gvn_ne (lo hi own t : Int) : ¬ gvn lo hi own t = t := by
  unfold gvn
  split
  · omega
  · split <;> omega
def mown (g : Cf) (d a : Dg) (ext : Int) : Int := if a.sa = d.sa ∧ a.sp = d.sp then ext else gvn g.lo g.hi a.sp ext
theorem mirror_back {g : Cf} {d a : Dg} {ext : Int} {m : Mp} (G : g.ok = true) (O : Outok d g) (B : Bkok a g) (hp : a.pr = d.pr) (hdp : a.dp = ext) (hcp : 2 ≤ g.cp) (hlh : g.lo < g.hi) (hx : ext = chs g [] d.pr d.sp)
    (hm : m = (Mp.new d.pr d.sa d.sp ext).used d.da (if d.pr = 1 then 0 else d.dp) (g.idle d.pr)) :
    (1 ≤ mown g d a ext ∧ mown g d a ext ≤ 65535) ∧ ∃ ms, Mir g d a ext (mown g d a ext) ms ∧ ∀ wx base b v tk ti, tk ≤ 100 → Bat wx base b g tk ti v [m] → Calls Tryz.prog 25 #[.pointer (some ⟨b, 0, none⟩), .int .i64 0, .string (kfr a)] wx fun e w' => e = .returned (rpv 0 0 (kfr { a with sa := g.oa, sp := mown g d a ext, da := d.sa, dp := d.sp, tl := a.tl - 1 })) ∧ ∃ v', BL wx w' base b g v v' tk ti ms := by
  have C := cok_of G
  have D := O.ok
  have l1 := C.l1; have l2 := C.l2; have h2 := C.h2; have c1 := C.c1
  have hi := idle_bd G d.pr
  have xr : g.lo ≤ ext ∧ ext ≤ g.hi := by rw [hx, chs_nil]; split <;> omega
  have Oa := Bkok.out G B
  have hps : pss (kfr a) g.im = 0 := Oa.pss
  obtain ⟨F, e1, e2, e3, e4, e5, e6, e7⟩ := Oa.parts
  have M : Mok m := by rw [hm]; exact new_mok (by omega) (by omega) D.s0 D.s1 D.p0 D.p1 hi.1 hi.2
  have K := tok_one (c := g) c1 M
  have N := new_used d.pr d.sa d.sp ext d.da (if d.pr = 1 then 0 else d.dp) (g.idle d.pr)
  rw [← hm] at N
  have m1 : m.pr = d.pr := by rw [N]
  have m2 : m.ea = d.sa := by rw [N]
  have m3 : m.ep = d.sp := by rw [N]
  have m4 : m.ex = ext := by rw [N]
  have m5 : m.kn = 1 := by rw [N]
  have mof : m.of d.pr d.sa d.sp = true := by simp [Mp.of, m1, m2, m3]
  have ask : askM [m] (kfr a) = some m := by
    have hh : m.has a.pr ext = true := by simp [Mp.has, m1, m4, hp]
    unfold askM
    rw [e3, Oa.dport B.np, hdp, List.findIdx_cons, hh]
    rfl
  have fb : fromB g [m] (kfr a) = use g [m] a.pr a.sa a.sp g.oa ext (g.idle a.pr) := by
    unfold Go.Proofs.YthiljpbodmajaaaGreat.fromB
    rw [Oa.ppr, e3, e6, e7, Oa.sport, if_neg B.np, hdp, B.n4]
  have ht : m.takes g.oa ext = true := by simp [Mp.takes, m5]
  have key : ∀ own ms, (1 ≤ own ∧ own ≤ 65535) → use g [m] a.pr a.sa a.sp g.oa ext (g.idle a.pr) = some (own, ms) → ∀ wx base b v tk ti, tk ≤ 100 → Bat wx base b g tk ti v [m] → Calls Tryz.prog 25 #[.pointer (some ⟨b, 0, none⟩), .int .i64 0, .string (kfr a)] wx fun e w' => e = .returned (rpv 0 0 (kfr { a with sa := g.oa, sp := own, da := d.sa, dp := d.sp, tl := a.tl - 1 })) ∧ ∃ v', BL wx w' base b g v v' tk ti ms := by
    intro own ms ho hu wx base b v tk ti hk T
    have fr := frame_goes T G K 0 (kfr a) (Bkok.exam G B) Oa.kinds.2.2 hk
    have hg : goR g tk [m] 0 (kfr a) = ⟨0, 0, kfr { a with sa := g.oa, sp := own, da := d.sa, dp := d.sp, tl := a.tl - 1 }, tk, ms⟩ := by
      unfold goR
      rw [if_neg (by decide), if_pos (e7.trans B.n4)]
      unfold backR
      rw [ask]
      simp only []
      rw [if_pos hps, fb, hu]
      simp only []
      rw [m2, m3, Bkok.goes G B own d.sa d.sp (by omega) (by omega) D.s0 D.s1 D.p0 D.p1]
    rw [hg] at fr
    generalize kfr { a with sa := g.oa, sp := own, da := d.sa, dp := d.sp, tl := a.tl - 1 } = Z at fr ⊢
    simp only [Rp.val] at fr
    exact fr
  by_cases hs : a.sa = d.sa ∧ a.sp = d.sp
  · have ho : m.of a.pr a.sa a.sp = true := by rw [hp, hs.1, hs.2]; exact mof
    have hu := use_hit (c := g) (i := g.idle a.pr) ho ht
    rw [m4] at hu
    have hown : mown g d a ext = ext := by unfold mown; rw [if_pos hs]
    have hT := fromB_tok G K (fb.trans hu)
    rw [hown]
    have U : (m.used g.oa ext (g.idle a.pr)).pr = d.pr ∧ (m.used g.oa ext (g.idle a.pr)).ea = d.sa ∧ (m.used g.oa ext (g.idle a.pr)).ep = d.sp ∧ (m.used g.oa ext (g.idle a.pr)).ex = ext := by
      have := used_one d.pr d.sa d.sp ext d.da (if d.pr = 1 then 0 else d.dp) (g.idle d.pr) g.oa ext (g.idle a.pr)
      rw [← hm] at this
      exact ⟨this.1, this.2.1, this.2.2.1, this.2.2.2.1⟩
    have kn := used_knows m g.oa ext (g.idle a.pr) (by omega) ht
    generalize m.used g.oa ext (g.idle a.pr) = r at *
    obtain ⟨u1, u2, u3, u4⟩ := U
    have rof : r.of d.pr d.sa d.sp = true := by simp [Mp.of, u1, u2, u3]
    have rhas : r.has d.pr ext = true := by simp [Mp.has, u1, u4]
    exact ⟨⟨by omega, by omega⟩, [r], ⟨hT.1, by rw [if_pos hs]; rfl, ⟨r, by rw [List.findIdx_cons, rof]; rfl, u4⟩, ⟨r, by rw [List.findIdx_cons, rhas]; rfl, by rw [u2, hs.1], by rw [u3, hs.2], kn⟩⟩, key ext [r] ⟨by omega, by omega⟩ hu⟩
  · have hne : ¬ (m.ea = a.sa ∧ m.ep = a.sp) := fun e => hs ⟨by rw [← e.1, m2], by rw [← e.2, m3]⟩
    have ho : m.of a.pr a.sa a.sp = false := of_ne hne
    have hc : chs g [m] a.pr a.sp = gvn g.lo g.hi a.sp ext := by rw [chs_one g C m a.pr a.sp (by rw [m1, hp]) (by rw [m4]; exact xr.1), m4]
    have hgv : g.lo ≤ gvn g.lo g.hi a.sp ext ∧ gvn g.lo g.hi a.sp ext ≤ g.hi := by
      unfold gvn
      split
      · omega
      · split <;> omega
    have hgn := gvn_ne g.lo g.hi a.sp ext
    have hu := use_miss (c := g) (pa := g.oa) (pp := ext) (i := g.idle a.pr) ho
    rw [hc, if_neg (by omega)] at hu
    have hown : mown g d a ext = gvn g.lo g.hi a.sp ext := by unfold mown; rw [if_neg hs]
    have hT := fromB_tok G K (fb.trans hu)
    rw [hown]
    generalize gvn g.lo g.hi a.sp ext = own at *
    have N2 := new_used a.pr a.sa a.sp own g.oa ext (g.idle a.pr)
    have kn : ((Mp.new a.pr a.sa a.sp own).used g.oa ext (g.idle a.pr)).knows g.oa ext = true := by rw [N2]; simp [Mp.knows]
    have n1 : ((Mp.new a.pr a.sa a.sp own).used g.oa ext (g.idle a.pr)).pr = d.pr := by rw [N2]; exact hp
    have n2 : ((Mp.new a.pr a.sa a.sp own).used g.oa ext (g.idle a.pr)).ea = a.sa := by rw [N2]
    have n3 : ((Mp.new a.pr a.sa a.sp own).used g.oa ext (g.idle a.pr)).ep = a.sp := by rw [N2]
    have n4 : ((Mp.new a.pr a.sa a.sp own).used g.oa ext (g.idle a.pr)).ex = own := by rw [N2]
    generalize (Mp.new a.pr a.sa a.sp own).used g.oa ext (g.idle a.pr) = n at *
    have nof : n.of d.pr d.sa d.sp = false := of_ne (by rw [n2, n3]; exact hs)
    have nhas : n.has d.pr own = true := by simp [Mp.has, n1, n4]
    have mhas : m.has d.pr own = false := by
      cases h : m.has d.pr own
      · rfl
      · exfalso
        simp [Mp.has, m1, m4] at h
        exact hgn h.symm
    refine ⟨⟨by omega, by omega⟩, ins n [m], ⟨hT.1, by rw [if_neg hs, ins_len]; rfl, ?_, ?_⟩, key own _ ⟨by omega, by omega⟩ hu⟩
    · refine ⟨m, ?_, m4⟩
      unfold ins
      split
      · rw [List.findIdx_cons, nof, List.findIdx_cons, mof]; rfl
      · rw [List.findIdx_cons, mof]; rfl
    · refine ⟨n, ?_, n2, n3, kn⟩
      unfold ins
      split
      · rw [List.findIdx_cons, nhas]; rfl
      · unfold ins
        rw [List.findIdx_cons, mhas, List.findIdx_cons, nhas]; rfl
/-- a datagram with other ends and another TTL -/
theorem moved {a : Dg} (A : Dgok a) (s p u q t : Int) (s0 : 0 ≤ s) (s1 : s < 4294967296) (u0 : 0 ≤ u) (u1 : u < 4294967296) (p0 : 0 ≤ p) (p1 : p < 65536) (q0 : 0 ≤ q) (q1 : q < 65536) (t0 : 0 ≤ t) (t1 : t < 256) :
    Dgok { a with sa := s, sp := p, da := u, dp := q, tl := t } ∧ (kbd { a with sa := s, sp := p, da := u, dp := q, tl := t }).size = (kbd a).size ∧ (kfr { a with sa := s, sp := p, da := u, dp := q, tl := t }).size = (kfr a).size := by
  have D3 : Dgok { a with sa := s, sp := p, da := u, dp := q } := ⟨A.pr, s0, s1, u0, u1, p0, p1, q0, q1, A.t0, A.t1, A.md, A.op, A.o4, A.tx, A.ta⟩
  have D2 : Dgok { a with sa := s, sp := p, da := u, dp := q, tl := t } := ⟨A.pr, s0, s1, u0, u1, p0, p1, q0, q1, t0, t1, A.md, A.op, A.o4, A.tx, A.ta⟩
  have E : Ends a { a with sa := s, sp := p, da := u, dp := q } := ⟨rfl, rfl, rfl, rfl, rfl, rfl, rfl, rfl, rfl, rfl⟩
  have hb : (kbd { a with sa := s, sp := p, da := u, dp := q }).size = (kbd a).size := by rw [kbd_eq D3, kbd_eq A]; exact E.kbx D3 A _ _
  refine ⟨D2, hb, ?_⟩
  rw [kfr_size D2, kfr_size A]
  show 20 + a.op.size + (kbd { a with sa := s, sp := p, da := u, dp := q }).size + a.ta.size = _
  rw [hb]
theorem ok_with {g : Cf} (G : g.ok = true) (lo hi cp : Int) (l1 : 1 ≤ lo) (h1 : hi ≤ 65535) (l2 : lo ≤ hi) (c1 : 1 ≤ cp) (c2 : cp ≤ 64) : ({ g with lo := lo, hi := hi, cp := cp } : Cf).ok = true := by
  simp [Cf.ok, validB, endsB, portsB, inB, leB, neB] at G ⊢
  obtain ⟨⟨⟨⟨⟨h1', h2', h3'⟩, ⟨_, _, _⟩, _, _⟩, r1⟩, r2⟩, r3⟩ := G
  exact ⟨⟨⟨⟨⟨h1', h2', h3'⟩, ⟨l1, h1, l2⟩, c1, c2⟩, r1⟩, r2⟩, r3⟩
theorem kpr_three {k : Int} (h0 : 0 ≤ k) (h1 : k < 3) : ¬ kpr (pk k 5) = 1 := by
  have : pk k 5 ≤ 2 := by unfold pk; rw [if_neg (by omega)]; omega
  unfold kpr
  split
  · decide
  · split
    · decide
    · omega
end Go.Proofs.YthiljpbodmajaaaGreat
