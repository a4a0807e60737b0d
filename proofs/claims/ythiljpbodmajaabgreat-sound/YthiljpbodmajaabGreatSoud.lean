/-
  PLAIN MATHEMATICS: whatever comes in: what comes out passes Check.
-/
import Derived.Test.YthiljpbodmajaabGreatSeal
import Derived.Test.YthiljpbodmajaabGreatMsga
namespace Go.Proofs.YthiljpbodmajaabGreat
open Plain
set_option linter.unusedVariables false

theorem snt_chk {s : ByteArray} (H : Shp s) : chk (snt s) = 0 := by
  have H1 : Shp (snt1 s) := by unfold snt1; exact shp_hdr H (.inl ⟨rfl, b1_size _⟩)
  unfold snt snt2
  exact seal_chk H1
theorem icr_put4 {b : ByteArray} (x : Int) (h8 : 8 ≤ b.size) : icr (put b 4 (w2 x)) = icr b := by
  have hw := w2_size x
  have z : (put b 4 (w2 x)).size = b.size := put_size _ _ _ (by omega) (by omega)
  unfold icr
  rw [z, bt_put_off (by omega) (by omega) (by omega), bt_put_off (by omega) (by omega) (by omega), prt_put_hi (by omega) (by omega) (by omega)]
theorem shp_wsrc {s : ByteArray} (H : Shp s) (h8 : 8 ≤ (bdy s).size) {a : Int} (x : Int) (ha : usB a = true) (a0 : 0 ≤ a) (a1 : a < 4294967296) : Shp (wsrc s a x) := by
  have H1 : Shp (put s 12 (l4 a)) := shp_hdr H (.inr (.inr ⟨.inl rfl, a, rfl, ha, a0, a1⟩))
  have F := H.sok.fit
  have hb : bdy (put s 12 (l4 a)) = bdy s := bdy_put_out F (by omega) (by rw [l4_size]; have := F.h20; omega)
  have hw := w2_size x
  unfold wsrc ppl
  split
  · rename_i e
    refine shp_bod H1 (by omega) (by rw [hb]; omega) (fun h => by omega) (fun h => by omega) (fun _ => ?_)
    rw [icr_put4 x (by rw [hb]; omega)]
    exact H1.ic e
  · rename_i e
    exact shp_bod H1 (by omega) (by rw [hb]; omega) (fun h => by omega) (fun h => by omega) (fun h => absurd h e)
theorem shp_wdst {s : ByteArray} (H : Shp s) (h8 : 8 ≤ (bdy s).size) {a : Int} (x : Int) (ha : usB a = true) (a0 : 0 ≤ a) (a1 : a < 4294967296) : Shp (wdst s a x) := by
  have H1 : Shp (put s 16 (l4 a)) := shp_hdr H (.inr (.inr ⟨.inr rfl, a, rfl, ha, a0, a1⟩))
  have F := H.sok.fit
  have hb : bdy (put s 16 (l4 a)) = bdy s := bdy_put_out F (by omega) (by rw [l4_size]; have := F.h20; omega)
  have hw := w2_size x
  unfold wdst ppl
  split
  · rename_i e
    refine shp_bod H1 (by omega) (by rw [hb]; omega) (fun h => by omega) (fun h => by omega) (fun _ => ?_)
    rw [icr_put4 x (by rw [hb]; omega)]
    exact H1.ic e
  · rename_i e
    exact shp_bod H1 (by omega) (by rw [hb]; omega) (fun h => by omega) (fun h => by omega) (fun h => absurd h e)
/-- quotes that Check takes alike -/
structure Qsm (q r : ByteArray) : Prop where
  z : r.size = q.size
  b0 : bt r 0 = bt q 0
  w6 : wd r 6 = wd q 6
  b9 : bt r 9 = bt q 9
  t : bt q 9 = 1 → bt r (hdv q) = bt q (hdv q)
theorem Qsm.hv {q r : ByteArray} (h : Qsm q r) : hdv r = hdv q := by unfold hdv; rw [h.b0]
theorem Qsm.trans {q r u : ByteArray} (h : Qsm q r) (k : Qsm r u) : Qsm q u :=
  ⟨k.z.trans h.z, k.b0.trans h.b0, k.w6.trans h.w6, k.b9.trans h.b9, fun e => by have := k.t (by rw [h.b9]; exact e); rw [h.hv] at this; rw [this]; exact h.t e⟩
theorem Qsm.refl (q : ByteArray) : Qsm q q := ⟨rfl, rfl, rfl, rfl, fun _ => rfl⟩
theorem Qsm.put {q : ByteArray} {i : Int} {t : ByteArray} (h0 : 10 ≤ i) (h1 : i + (t.size : Int) ≤ q.size) (ht : bt q 9 = 1 → hdv q < i ∨ i + t.size ≤ hdv q) : Qsm q (put q i t) :=
  ⟨put_size q i t (by omega) h1, bt_put_off (by omega) h1 (by omega), wd_put_off (by omega) h1 (by omega), bt_put_off (by omega) h1 (by omega), fun e => bt_put_off (by omega) h1 (ht e)⟩
theorem Qsm.quotev {q r : ByteArray} (h : Qsm q r) : quotev r = quotev q := by
  have hv := h.hv
  have hr : ver r = ver q := by unfold ver; rw [h.b0]
  unfold Plain.quotev
  rw [h.z, hr, hv, h.w6, h.b9]
  by_cases e : bt q 9 = 1
  · rw [h.t e]
  · unfold qcase
    simp [e]
theorem Qsm.src {q : ByteArray} (Q : Qok q) (a x : Int) : Qsm q (wsrc q a x) := by
  have n28 := Q.n28
  have h1 := Q.h20
  have h2 := Q.h8
  have k1 : Qsm q (Plain.put q 12 (l4 a)) := Qsm.put (by omega) (by rw [l4_size]; omega) (fun _ => .inr (by rw [l4_size]; omega))
  have hp : ppl (Plain.put q 12 (l4 a)) 0 = hdv q + (if bt q 9 = 1 then 4 else 0) := by unfold ppl; rw [k1.hv, k1.b9]
  refine k1.trans ?_
  unfold wsrc
  rw [hp]
  refine Qsm.put (by split <;> omega) (by rw [w2_size, k1.z]; split <;> omega) (fun e => ?_)
  rw [k1.b9] at e
  rw [if_pos e, k1.hv]
  left; omega
theorem Qsm.dst {q : ByteArray} (Q : Qok q) (a x : Int) : Qsm q (wdst q a x) := by
  have n28 := Q.n28
  have h1 := Q.h20
  have h2 := Q.h8
  have k1 : Qsm q (Plain.put q 16 (l4 a)) := Qsm.put (by omega) (by rw [l4_size]; omega) (fun _ => .inr (by rw [l4_size]; omega))
  have hp : ppl (Plain.put q 16 (l4 a)) 2 = hdv q + (if bt q 9 = 1 then 4 else 2) := by unfold ppl; rw [k1.hv, k1.b9]
  refine k1.trans ?_
  unfold wdst
  rw [hp]
  refine Qsm.put (by split <;> omega) (by rw [w2_size, k1.z]; split <;> omega) (fun e => ?_)
  rw [k1.b9] at e
  rw [if_pos e, k1.hv]
  left; omega
theorem Qsm.fixed {q : ByteArray} (b : ByteArray) (Q : Qok q) : Qsm q (fxb b (fxh b q)) := by
  have n28 := Q.n28
  have h1 := Q.h20
  have h2 := Q.h8
  have k1 : Qsm q (fxh b q) := by unfold fxh; exact Qsm.put (by omega) (by rw [w2_size]; omega) (fun _ => .inr (by rw [w2_size]; omega))
  refine k1.trans ?_
  have hs : spl (fxh b q) = hdv q + (if bt q 9 = 17 then 6 else if bt q 9 = 6 then 16 else 2) := by unfold spl; rw [k1.hv, k1.b9]
  unfold fxb
  split
  · rename_i h
    rw [hs] at h ⊢
    refine Qsm.put (by split <;> (try split) <;> omega) (by rw [w2_size]; omega) (fun e => ?_)
    rw [k1.b9] at e
    rw [k1.hv, if_neg (by omega), if_neg (by omega)]
    left; omega
  · exact Qsm.refl _
theorem shp_quote {s n : ByteArray} (H : Shp s) (he : isErr s = true) (hz : n.size = (bdy s).size - 8) (hq : quotev n = 0) : Shp (put s (hdv s + 8) n) := by
  have F := H.sok.fit
  have h9 : bt s 9 = 1 ∧ errB (bt s (hdv s)) = true := by unfold isErr at he; simpa using he
  have h8 := H.sok.i h9.1
  have b0 := bdy_bt0 F h8
  refine shp_bod H (by omega) (by omega) (fun h => by omega) (fun h => by omega) (fun _ => ?_)
  have z : (put (bdy s) 8 n).size = (bdy s).size := put_size _ _ _ (by omega) (by omega)
  have hp : prt (put (bdy s) 8 n) 8 (bdy s).size = n := by
    apply bt_ext
    · rw [prt_size, z]; omega
    · intro j hj
      rw [prt_size, z] at hj
      rw [bt_prt _ _ _ _ (by omega) (by omega) (by omega), bt_put _ _ _ _ (by omega) (by omega), if_pos (by omega), show (8 : Int) + (j : Int) - 8 = (j : Int) by omega]
  unfold icr icase
  rw [z, bt_put_off (by omega) (by omega) (by omega), hp, b0, if_neg (by omega), if_neg (by decide), if_pos h9.2]
  exact hq
theorem chk_quotev {s : ByteArray} (hk : chk s = 0) (he : isErr s = true) : quotev (quo s) = 0 := by
  have H := shp_of hk
  have h9 : bt s 9 = 1 ∧ errB (bt s (hdv s)) = true := by unfold isErr at he; simpa using he
  have h8 := H.sok.i h9.1
  have := H.ic h9.1
  unfold icr icase at this
  rw [if_neg (by omega), if_neg (by decide), bdy_bt0 H.sok.fit h8, if_pos h9.2] at this
  exact this
theorem isErr_put {s t : ByteArray} {i : Int} (F : Fits s) (h0 : 10 ≤ i) (h1 : i + (t.size : Int) ≤ 20) : isErr (put s i t) = isErr s := by
  have := F.h20; have := F.ht; have := F.tn
  unfold isErr
  rw [hdv_put (by omega) (by omega), bt_put_off (by omega) (by omega) (by omega), bt_put_off (by omega) (by omega) (by omega)]
/-- an error message with another quote, and other addresses -/
theorem shp_wqu {s : ByteArray} (H : Shp s) (he : isErr s = true) {q : ByteArray} (Q0 : Qok (quo s)) (hz : (quo s).size = (bdy s).size - 8) (hq : quotev (quo s) = 0) (K : Qsm (quo s) q) (Q : Qok q) : Shp (wqu s q) := by
  have S := K.trans (Qsm.fixed (quo s) Q)
  unfold wqu
  exact shp_quote H he (by rw [S.z, hz]) (by rw [S.quotev, hq])
theorem qok_of {s : ByteArray} (hk : chk s = 0) (he : isErr s = true) : Qok (quo s) ∧ (quo s).size = (bdy s).size - 8 := ⟨(chk_quote hk he).1, (chk_quote hk he).2.1⟩
/-- the box's own message passes Check -/
theorem tld_chk {s : ByteArray} (hk : chk s = 0) (he : isErr s = false) {f h : Int} (k : Int) (hu : usB f = true) (f0 : 0 ≤ f) (f1 : f < 4294967296) : chk (tld s f (twd k) h) = 0 := by
  have H := shp_of hk
  have F := H.sok.fit
  have h20 := F.h20
  have h8 := chk_b8 hk
  have hbz := bdy_size F
  have tn := F.tn
  have n64 := F.n64
  have hh := hdv_bd s
  have ha := lg_bd s 12
  have zq : (prt s 0 (hdv s + 8)).size = (hdv s + 8).toNat := by rw [prt_size]; omega
  have M := tlm_sok s f (twd k) h (by omega)
  have hq : quotev (prt s 0 (hdv s + 8)) = 0 := by
    have b : ∀ i, 0 ≤ i → i < hdv s + 8 → bt (prt s 0 (hdv s + 8)) i = bt s i := fun i i0 i1 => by rw [bt_prt _ _ _ _ (by omega) i0 (by omega), Int.zero_add]
    have e1 : ver (prt s 0 (hdv s + 8)) = 4 := by unfold ver; rw [b 0 (by omega) (by omega)]; exact F.v4
    have e2 : hdv (prt s 0 (hdv s + 8)) = hdv s := by
      have b0 := b 0 (by omega) (by omega)
      show bt (prt s 0 (hdv s + 8)) 0 % 16 * 4 = bt s 0 % 16 * 4
      rw [b0]
    have e3 : wd (prt s 0 (hdv s + 8)) 6 = wd s 6 := by unfold wd; rw [b 6 (by omega) (by omega), b (6 + 1) (by omega) (by omega)]
    have e4 := b 9 (by omega) (by omega)
    have e5 := b (hdv s) (by omega) (by omega)
    have hpt : wd s 6 % 8192 = 0 := by have := H.part; unfold partB at this; simp at this; omega
    unfold quotev qcase
    rw [e1, e2, e3, e4, e5, zq, if_pos (by omega), if_neg (by simp [hpt])]
    rcases H.pr with e | e | e
    · simp [e]
    · simp [e]
    · have hi := H.ic e
      have hne : errB (bt s (hdv s)) = false := by unfold isErr at he; simpa [e] using he
      unfold icr icase at hi
      rw [if_neg (by omega), if_neg (by decide), bdy_bt0 F h8, hne] at hi
      simp at hi
      split at hi
      · omega
      · rename_i hr
        simp at hr
        simp [e]
        cases h1 : reqB (bt s (hdv s))
        · simp [hr.2 h1]
        · simp
  have S : Shp (tlm s f (twd k) h) := by
    have e0 := hd_bt0 69 0 (20 + (8 + ((prt s 0 (hdv s + 8)).size : Int))) 0 0 64 1 0 f (lg s 12) ByteArray.empty (w2 (twd k) ++ l4 0 ++ w2 h ++ prt s 0 (hdv s + 8)) (by decide) (by decide)
    have e6 := hd_wd6 69 0 (20 + (8 + ((prt s 0 (hdv s + 8)).size : Int))) 0 0 64 1 0 f (lg s 12) ByteArray.empty (w2 (twd k) ++ l4 0 ++ w2 h ++ prt s 0 (hdv s + 8)) (by decide) (by decide)
    have e12 := hd_lg12 69 0 (20 + (8 + ((prt s 0 (hdv s + 8)).size : Int))) 0 0 64 1 0 f (lg s 12) ByteArray.empty (w2 (twd k) ++ l4 0 ++ w2 h ++ prt s 0 (hdv s + 8)) f0 f1
    have e16 := hd_lg16 69 0 (20 + (8 + ((prt s 0 (hdv s + 8)).size : Int))) 0 0 64 1 0 f (lg s 12) ByteArray.empty (w2 (twd k) ++ l4 0 ++ w2 h ++ prt s 0 (hdv s + 8)) ha.1 ha.2
    have e2 := hd_tot 69 0 (20 + (8 + ((prt s 0 (hdv s + 8)).size : Int))) 0 0 64 1 0 f (lg s 12) ByteArray.empty (w2 (twd k) ++ l4 0 ++ w2 h ++ prt s 0 (hdv s + 8)) (by omega) (by omega)
    have eb := hd_body 69 0 (20 + (8 + ((prt s 0 (hdv s + 8)).size : Int))) 0 0 64 1 0 f (lg s 12) ByteArray.empty (w2 (twd k) ++ l4 0 ++ w2 h ++ prt s 0 (hdv s + 8)) ByteArray.empty 20 (20 + (8 + ((prt s 0 (hdv s + 8)).size : Int))) (by simp) (by simp only [ByteArray.size_append, w2_size, l4_size]; simp)
    rw [ByteArray.append_empty] at eb
    have eh : hdv (tlm s f (twd k) h) = 20 := by unfold hdv; show bt _ 0 % 16 * 4 = 20; unfold tlm; rw [e0]; decide
    have hb : bdy (tlm s f (twd k) h) = w2 (twd k) ++ l4 0 ++ w2 h ++ prt s 0 (hdv s + 8) := by
      unfold bdy
      rw [eh]
      unfold tlm
      rw [e2]
      exact eb
    refine ⟨M.1, .inr (.inr M.2), ?_, ?_, ?_, fun e => by rw [M.2] at e; omega, fun _ => ?_⟩
    · unfold partB tlm; rw [e6]; rfl
    · unfold tlm; rw [e12]; exact hu
    · unfold tlm; rw [e16]; exact H.us
    · rw [hb]
      have w0 : 0 ≤ twd k ∧ twd k < 65536 ∧ (twd k / 256 = 3 ∨ twd k / 256 = 11) := by unfold twd; split <;> (try split) <;> omega
      have ew := wd_mid ByteArray.empty (l4 0 ++ w2 h ++ prt s 0 (hdv s + 8)) (twd k) 0 (by simp) w0.1 w0.2.1
      have et : bt (w2 (twd k) ++ l4 0 ++ w2 h ++ prt s 0 (hdv s + 8)) 0 = twd k / 256 := by
        have ew' : wd (w2 (twd k) ++ l4 0 ++ w2 h ++ prt s 0 (hdv s + 8)) 0 = twd k := by simpa [ByteArray.append_assoc] using ew
        have b1 := bt_bd (w2 (twd k) ++ l4 0 ++ w2 h ++ prt s 0 (hdv s + 8)) (0 + 1)
        unfold wd at ew'
        omega
      have ez : (w2 (twd k) ++ l4 0 ++ w2 h ++ prt s 0 (hdv s + 8)).size = 8 + (prt s 0 (hdv s + 8)).size := by simp only [ByteArray.size_append, w2_size, l4_size]
      have ep : prt (w2 (twd k) ++ l4 0 ++ w2 h ++ prt s 0 (hdv s + 8)) 8 (w2 (twd k) ++ l4 0 ++ w2 h ++ prt s 0 (hdv s + 8)).size = prt s 0 (hdv s + 8) := by
        have := prt_mid (w2 (twd k) ++ l4 0 ++ w2 h) (prt s 0 (hdv s + 8)) ByteArray.empty 8 (w2 (twd k) ++ l4 0 ++ w2 h ++ prt s 0 (hdv s + 8)).size (by simp [w2_size, l4_size]) (by rw [ez]; simp [w2_size, l4_size])
        simpa using this
      unfold icr icase
      rw [ep, et, ez, if_neg (by omega), if_neg (by decide), hq]
      have : errB (twd k / 256) = true := by rcases w0.2.2 with e | e <;> rw [e] <;> rfl
      rw [if_pos this]
  unfold tld
  exact seal_chk S
/-- all endpoints of the table may be -/
def Usm (ms : List Mp) : Prop := ∀ m ∈ ms, usB m.ea = true
theorem used_ea (m : Mp) (a p i : Int) : (m.used a p i).ea = m.ea := by unfold Mp.used; split <;> (try split) <;> (try split) <;> (try split) <;> rfl
theorem use_usm {c : Cf} {ms ms' : List Mp} {p a q pa pp i x : Int} (U : Usm ms) (ha : usB a = true) (h : use c ms p a q pa pp i = some (x, ms')) : Usm ms' ∧ (ms.length ≤ ms'.length ∧ ms'.length ≤ ms.length + 1) := by
  unfold use at h
  simp only at h
  split at h
  · rename_i m hm
    split at h
    · simp only [Option.some.injEq, Prod.mk.injEq] at h
      obtain ⟨rfl, rfl⟩ := h
      refine ⟨fun y hy => ?_, by simp, by simp⟩
      rcases List.mem_or_eq_of_mem_set hy with e | e
      · exact U y e
      · rw [e, used_ea]; exact U m (List.mem_of_getElem? hm)
    · cases h
  · split at h
    · cases h
    · simp only [Option.some.injEq, Prod.mk.injEq] at h
      obtain ⟨rfl, rfl⟩ := h
      refine ⟨fun y hy => ?_, by rw [ins_len]; omega, by rw [ins_len]; omega⟩
      rcases ins_mem hy with e | e
      · rw [e, used_ea]; exact ha
      · exact U y e
theorem aged_usm {ms : List Mp} (U : Usm ms) (n : Int) : Usm (aged n ms) := by
  intro m hm
  unfold aged at hm
  simp only [List.mem_map, List.mem_filter] at hm
  obtain ⟨y, ⟨hy, _⟩, rfl⟩ := hm
  exact U y hy
/-- what the answer to a frame must be: side d, the table ms, all right with the frame -/
structure Snd (c : Cf) (ms : List Mp) (d : Int) (r : Rp) : Prop where
  usm : Usm r.ms
  tok : Tok c r.ms
  le : ms.length ≤ r.ms.length
  le1 : r.ms.length ≤ ms.length + 1
  new : ms.length < r.ms.length → r.er = 0 ∧ d = 0
  t0 : 0 ≤ r.tk
  t1 : r.tk ≤ 100
  non : r.fr.size = 0 → (¬ r.er = 0) ∧ r.sd = 0 ∧ r.fr = ⟨#[]⟩
  out : ¬ r.fr.size = 0 → chk r.fr = 0 ∧ (¬ r.er = 0 → (r.er = 9 ∨ r.er = 10 ∨ r.er = 11) ∧ r.sd = d) ∧ (d = 1 → r.er = 0 → r.sd = 0)
section
variable {c : Cf} {ms : List Mp} {d tk : Int} {s : ByteArray}
theorem snd_none (U : Usm ms) (K : Tok c ms) (t0 : 0 ≤ tk) (t1 : tk ≤ 100) (e : Int) (he : ¬ e = 0) : Snd c ms d ⟨e, 0, ⟨#[]⟩, tk, ms⟩ :=
  ⟨U, K, Nat.le_refl _, by show ms.length ≤ ms.length + 1; omega, fun h => absurd h (Nat.lt_irrefl _), t0, t1, fun _ => ⟨he, rfl, rfl⟩, fun h => absurd rfl h⟩
theorem chk_pos {z : ByteArray} (h : chk z = 0) : ¬ z.size = 0 := by have := (chk_sok h).fit.n20; omega
theorem snd_rfs (G : c.ok = true) (U : Usm ms) (K : Tok c ms) (hk : chk s = 0) (he : isErr s = false) (t0 : 0 ≤ tk) (t1 : tk ≤ 100) {k u : Int} (hd : d = 0 ∨ d = 1) (k9 : k = 9 ∨ k = 10 ∨ k = 11) : Snd c ms d (rfs c k d u tk ms s) := by
  have C := cok_of G
  have i := us_bd C.ia
  have o := us_bd C.oa
  unfold rfs
  split
  · rename_i h
    have h1 : 1 ≤ tk := by unfold telB at h; simp at h; omega
    have hc : chk (tld s (adS c d) (twd k) (thn k u)) = 0 := by
      unfold adS
      split
      · exact tld_chk hk he k C.oa o.1 o.2
      · exact tld_chk hk he k C.ia i.1 i.2
    generalize tld s (adS c d) (twd k) (thn k u) = Z at hc ⊢
    exact ⟨U, K, Nat.le_refl _, by show ms.length ≤ ms.length + 1; omega, fun h => absurd h (Nat.lt_irrefl _), by show 0 ≤ tk - 1; omega, by show tk - 1 ≤ 100; omega, fun h => absurd h (chk_pos hc), fun _ => ⟨hc, fun _ => ⟨k9, rfl⟩, fun _ e => by have : k = 0 := e; omega⟩⟩
  · exact snd_none U K t0 t1 k (by omega)
theorem pss_rf (s : ByteArray) (u : Int) (h : ¬ pss s u = 0) : pss s u = 9 ∨ pss s u = 10 ∨ pss s u = 11 := by
  unfold pss at h ⊢
  split
  · exact .inl rfl
  · rename_i h1
    rw [if_neg h1] at h
    split
    · exact .inr (.inl rfl)
    · rename_i h2
      rw [if_neg h2] at h
      exact absurd rfl h
theorem snd_ok {ms' : List Mp} {z : ByteArray} {sd : Int} (U : Usm ms') (K : Tok c ms') (l : ms.length ≤ ms'.length) (l1 : ms'.length ≤ ms.length + 1) (hd : ms.length < ms'.length → d = 0) (t0 : 0 ≤ tk) (t1 : tk ≤ 100) (hz : chk z = 0) (hs : d = 1 → sd = 0) : Snd c ms d ⟨0, sd, z, tk, ms'⟩ :=
  ⟨U, K, l, l1, fun h => ⟨rfl, hd h⟩, t0, t1, fun h => absurd h (chk_pos hz), fun _ => ⟨hz, fun h => absurd rfl h, fun h _ => hs h⟩⟩
theorem fromB_snd (G : c.ok = true) (U : Usm ms) (K : Tok c ms) (hk : chk s = 0) {x : Int} {ms' : List Mp} (h : fromB c ms s = some (x, ms')) : Usm ms' ∧ (ms.length ≤ ms'.length ∧ ms'.length ≤ ms.length + 1) ∧ Tok c ms' ∧ 1 ≤ x ∧ x ≤ 65535 := by
  have H := shp_of hk
  have C := cok_of G
  have ha := lg_bd s 12
  have hw := wd_bd s (ppl s 0)
  have hi := idle_bd G (bt s 9)
  unfold fromB at h
  have h1 := use_usm U H.us h
  have h2 := use_tok K C.l1 C.h2 ha.1 ha.2 hw.1 (by omega) hi.1 hi.2 h
  exact ⟨h1.1, h1.2, h2.1, h2.2⟩
/-- WHATEVER COMES IN -/
theorem frR_snd (G : c.ok = true) (U : Usm ms) (K : Tok c ms) (t0 : 0 ≤ tk) (t1 : tk ≤ 100) : Snd c ms d (frR c tk ms d s) := by
  have C := cok_of G
  have ci := us_bd C.ia
  have co := us_bd C.oa
  unfold frR
  by_cases hx : exam c d s = 0
  · rw [if_pos hx]
    obtain ⟨hk, hd⟩ := exam_chk hx
    have H := shp_of hk
    have h8 := chk_b8 hk
    cases he : isErr s
    · simp only [Bool.false_eq_true, if_false]
      unfold goR
      by_cases hd1 : d = 1
      · subst hd1
        rw [if_pos rfl]
        unfold inR
        split
        · exact snd_none U K t0 t1 8 (by decide)
        · rename_i m hm
          unfold askM at hm
          have M := K.at hm
          have hu := U m (List.mem_of_getElem? hm)
          split
          · exact snd_ok U K (Nat.le_refl _) (by omega) (fun h => absurd h (Nat.lt_irrefl _)) t0 t1 (snt_chk (shp_wdst H h8 m.ep hu M.a0 M.a1)) (fun _ => rfl)
          · rename_i hp
            exact snd_rfs G U K hk he t0 t1 (.inr rfl) (pss_rf s _ hp)
      · have hd0 : d = 0 := by omega
        subst hd0
        rw [if_neg (by decide)]
        split
        · unfold backR
          split
          · exact snd_none U K t0 t1 8 (by decide)
          · rename_i m hm
            unfold askM at hm
            have M := K.at hm
            have hu := U m (List.mem_of_getElem? hm)
            split
            · split
              · exact snd_rfs G U K hk he t0 t1 (.inl rfl) (.inr (.inr rfl))
              · rename_i x ms' hf
                obtain ⟨u1, u2, u3, u4⟩ := fromB_snd G U K hk hf
                have W := shp_wsrc H h8 x C.oa co.1 co.2
                have W8 : 8 ≤ (bdy (wsrc s c.oa x)).size := by
                  have e := bdy_size W.sok.fit
                  have o := wsrc_ok H.sok h8 c.oa x
                  have := chk_pr hk
                  rcases W.pr with q | q | q
                  · have := W.sok.u q; omega
                  · have := W.sok.t q; omega
                  · exact W.sok.i q
                exact snd_ok u1 u3 u2.1 u2.2 (fun _ => rfl) t0 t1 (snt_chk (shp_wdst W W8 m.ep hu M.a0 M.a1)) (fun h => by omega)
            · rename_i hp
              exact snd_rfs G U K hk he t0 t1 (.inl rfl) (pss_rf s _ hp)
        · unfold outR
          split
          · split
            · exact snd_rfs G U K hk he t0 t1 (.inl rfl) (.inr (.inr rfl))
            · rename_i x ms' hf
              obtain ⟨u1, u2, u3, u4⟩ := fromB_snd G U K hk hf
              exact snd_ok u1 u3 u2.1 u2.2 (fun _ => rfl) t0 t1 (snt_chk (shp_wsrc H h8 x C.oa co.1 co.2)) (fun h => by omega)
          · rename_i hp
            exact snd_rfs G U K hk he t0 t1 (.inl rfl) (pss_rf s _ hp)
    · simp only [if_true]
      obtain ⟨Q, hz⟩ := qok_of hk he
      have hq := chk_quotev hk he
      have F := H.sok.fit
      have h20 := F.h20
      have m1 : ∀ (i a : Int), (i = 12 ∨ i = 16) → usB a = true → 0 ≤ a → a < 4294967296 → ∀ r, Shp r → isErr r = true → quo r = quo s → (bdy r).size = (bdy s).size → Shp (put r i (l4 a)) ∧ isErr (put r i (l4 a)) = true ∧ quo (put r i (l4 a)) = quo s ∧ (bdy (put r i (l4 a))).size = (bdy s).size := fun i a hi hu a0 a1 r R re rq rz => by
        have FR := R.sok.fit
        have hr := FR.h20
        have hb : bdy (put r i (l4 a)) = bdy r := bdy_put_out FR (by omega) (by rw [l4_size]; omega)
        refine ⟨shp_hdr R (.inr (.inr ⟨hi, a, rfl, hu, a0, a1⟩)), by rw [isErr_put FR (by omega) (by rw [l4_size]; omega)]; exact re, ?_, by rw [hb]; exact rz⟩
        unfold quo at rq ⊢
        rw [hb]; exact rq
      have fin : ∀ r q, Shp r → isErr r = true → quo r = quo s → (bdy r).size = (bdy s).size → Qsm (quo s) q → Qok q → chk (snt (wqu r q)) = 0 := fun r q R re rq rz S Q' =>
        snt_chk (shp_wqu R re (by rw [rq]; exact Q) (by rw [rq, rz]; exact hz) (by rw [rq]; exact hq) (by rw [rq]; exact S) Q')
      have ne : ∀ {m : Mp} {pa pp : Int} {q : ByteArray}, sndM c ms q pa pp = some m → m ∈ ms := fun {m pa pp q} h => by
        unfold sndM at h
        split at h
        · split at h
          · rename_i m' hm
            split at h
            · cases h; exact List.mem_of_getElem? hm
            · cases h
          · cases h
        · cases h
      unfold msgR
      by_cases hd1 : d = 1
      · subst hd1
        rw [if_pos rfl]
        unfold mInR
        split
        · exact snd_none U K t0 t1 8 (by decide)
        · rename_i m hm
          have M := sndM_ok K hm
          have hu := U m (ne hm)
          split
          · obtain ⟨r1, r2, r3, r4⟩ := m1 16 m.ea (.inr rfl) hu M.a0 M.a1 s H he rfl rfl
            exact snd_ok U K (Nat.le_refl _) (by omega) (fun h => absurd h (Nat.lt_irrefl _)) t0 t1 (fin _ _ r1 r2 r3 r4 (Qsm.src Q m.ea m.ep) (Q.src m.ea m.ep).1) (fun _ => rfl)
          · rename_i hp
            exact snd_none U K t0 t1 _ hp
      · have hd0 : d = 0 := by omega
        subst hd0
        rw [if_neg (by decide)]
        split
        · unfold mBackR
          split
          · exact snd_none U K t0 t1 8 (by decide)
          · split
            · exact snd_none U K t0 t1 8 (by decide)
            · rename_i r hr
              split
              · exact snd_none U K t0 t1 8 (by decide)
              · rename_i m hm
                have M := sndM_ok K hm
                have hu := U m (ne hm)
                split
                · obtain ⟨r1, r2, r3, r4⟩ := m1 12 c.oa (.inl rfl) C.oa co.1 co.2 s H he rfl rfl
                  obtain ⟨p1, p2, p3, p4⟩ := m1 16 m.ea (.inr rfl) hu M.a0 M.a1 _ r1 r2 r3 r4
                  have D := Q.dst c.oa r.ex
                  exact snd_ok U K (Nat.le_refl _) (by omega) (fun h => absurd h (Nat.lt_irrefl _)) t0 t1 (fin _ _ p1 p2 p3 p4 ((Qsm.dst Q c.oa r.ex).trans (Qsm.src D.1 m.ea m.ep)) (D.1.src m.ea m.ep).1) (fun h => by omega)
                · rename_i hp
                  exact snd_none U K t0 t1 _ hp
        · unfold mOutR
          split
          · exact snd_none U K t0 t1 8 (by decide)
          · rename_i m hm
            split
            · split
              · obtain ⟨r1, r2, r3, r4⟩ := m1 12 c.oa (.inl rfl) C.oa co.1 co.2 s H he rfl rfl
                exact snd_ok U K (Nat.le_refl _) (by omega) (fun h => absurd h (Nat.lt_irrefl _)) t0 t1 (fin _ _ r1 r2 r3 r4 (Qsm.dst Q c.oa m.ex) (Q.dst c.oa m.ex).1) (fun h => by omega)
              · rename_i hp
                exact snd_none U K t0 t1 _ hp
            · exact snd_none U K t0 t1 8 (by decide)
  · rw [if_neg hx]
    exact snd_none U K t0 t1 _ hx
end
end Go.Proofs.YthiljpbodmajaabGreat
