/-
  PLAIN MATHEMATICS: the sum of the words of texts that stand behind each other.
-/
import Derived.Test.YthiljpbodmajaaaGreatPlain
import Derived.Test.YthiljpbodmajaaaGreatQuow
import Derived.Test.YthiljpbodmajaaaGreatKepz
namespace Go.Proofs.YthiljpbodmajaaaGreat.Plain

theorem psum_append_l (a b : ByteArray) : ∀ k : Nat, k ≤ a.size → psum (a ++ b) k = psum a k
  | 0, _ => rfl
  | k + 1, h => by
    simp only [psum]
    rw [psum_append_l a b k (by omega), bt_append_l _ _ _ (by omega)]
theorem psum_append_r (a b : ByteArray) (ha : a.size % 2 = 0) : ∀ k : Nat, psum (a ++ b) (a.size + k) = psum a a.size + psum b k
  | 0 => by rw [Nat.add_zero, psum_append_l a b _ (Nat.le_refl _)]; simp [psum]
  | k + 1 => by
    rw [← Nat.add_assoc]
    simp only [psum]
    rw [psum_append_r a b ha k, bt_append_r _ _ _ (by omega)]
    rw [show (((a.size + k : Nat) : Int) - (a.size : Int)) = (k : Int) by omega, show (a.size + k) % 2 = k % 2 by omega]
    split <;> omega
theorem total_append (a b : ByteArray) (ha : a.size % 2 = 0) : total (a ++ b) = total a + total b := by
  rw [← psum_total, ← psum_total, ← psum_total, ByteArray.size_append, psum_append_r a b ha]
theorem total_w2 (v : Int) (h0 : 0 ≤ v) (h1 : v < 65536) : total (w2 v) = v := by
  have h := bt_w2 v h0 h1
  rw [← psum_total, w2_size]
  have e0 : bt (w2 v) ((0 : Nat) : Int) = v / 256 := h.1
  have e1 : bt (w2 v) ((1 : Nat) : Int) = v % 256 := h.2
  simp only [psum, e0, e1]
  rw [if_pos (by decide), if_neg (by decide)]
  omega
theorem total_l4 (v : Int) (h0 : 0 ≤ v) (h1 : v < 4294967296) : total (l4 v) = v / 65536 + v % 65536 := by
  unfold l4
  rw [total_append _ _ (by rw [w2_size]), total_w2 _ (by omega) (by omega), total_w2 _ (by omega) (by omega)]
theorem total_bb (x y : Int) (x0 : 0 ≤ x) (x1 : x < 256) (y0 : 0 ≤ y) (y1 : y < 256) : total (b1 x ++ b1 y) = x * 256 + y := by
  have e0 : bt (b1 x ++ b1 y) 0 = x := by rw [bt_append_l _ _ _ (by rw [b1_size]; decide), bt_b1 x x0 x1]
  have e1 : bt (b1 x ++ b1 y) 1 = y := by rw [bt_append_r _ _ _ (by rw [b1_size]; decide), b1_size]; exact bt_b1 y y0 y1
  rw [← psum_total, ByteArray.size_append, b1_size, b1_size]
  have e0' : bt (b1 x ++ b1 y) ((0 : Nat) : Int) = x := e0
  have e1' : bt (b1 x ++ b1 y) ((1 : Nat) : Int) = y := e1
  show psum (b1 x ++ b1 y) 2 = _
  simp only [psum, e0', e1']
  rw [if_pos (by decide), if_neg (by decide)]
  omega
theorem total_nn (s : ByteArray) : 0 ≤ total s := (total_bd s).1
/-- the sum of a header -/
theorem total_hd (v u n x f t p c sa da : Int) (o : ByteArray) (v0 : 0 ≤ v) (v1 : v < 256) (u0 : 0 ≤ u) (u1 : u < 256) (n0 : 0 ≤ n) (n1 : n < 65536) (x0 : 0 ≤ x) (x1 : x < 65536) (f0 : 0 ≤ f) (f1 : f < 65536) (t0 : 0 ≤ t) (t1 : t < 256) (p0 : 0 ≤ p) (p1 : p < 256) (c0 : 0 ≤ c) (c1 : c < 65536) (s0 : 0 ≤ sa) (s1 : sa < 4294967296) (d0 : 0 ≤ da) (d1 : da < 4294967296) :
    total (hd v u n x f t p c sa da o) = (v * 256 + u + n + x + f + (t * 256 + p) + c + total o) + (sa / 65536 + sa % 65536 + (da / 65536 + da % 65536)) := by
  have e : hd v u n x f t p c sa da o = (b1 v ++ b1 u) ++ (w2 n ++ (w2 x ++ (w2 f ++ ((b1 t ++ b1 p) ++ (w2 c ++ (l4 sa ++ (l4 da ++ o))))))) := by
    unfold hd; simp only [ByteArray.append_assoc]
  rw [e, total_append (b1 v ++ b1 u) _ (by simp [b1_size]), total_append (w2 n) _ (by rw [w2_size]), total_append (w2 x) _ (by rw [w2_size]), total_append (w2 f) _ (by rw [w2_size]), total_append (b1 t ++ b1 p) _ (by simp [b1_size]), total_append (w2 c) _ (by rw [w2_size]), total_append (l4 sa) _ (by rw [l4_size]), total_append (l4 da) _ (by rw [l4_size])]
  rw [total_bb v u v0 v1 u0 u1, total_bb t p t0 t1 p0 p1, total_w2 n n0 n1, total_w2 x x0 x1, total_w2 f f0 f1, total_w2 c c0 c1, total_l4 sa s0 s1, total_l4 da d0 d1]
  omega
/-- what is put into a text's first part -/
theorem prt_put (s t : ByteArray) (i k : Int) (h0 : 0 ≤ i) (h1 : i + (t.size : Int) ≤ k) (hk : k ≤ s.size) : put (prt s 0 k) i t = prt (put s i t) 0 k := by
  have z : ((prt s 0 k).size : Int) = k := by rw [prt_size]; omega
  have z2 : (put s i t).size = s.size := put_size s i t h0 (by omega)
  have z3 : ((put (prt s 0 k) i t).size : Int) = k := by rw [put_size _ _ _ h0 (by omega)]; exact z
  have z4 : ((prt (put s i t) 0 k).size : Int) = k := by rw [prt_size]; omega
  apply bt_ext (by omega)
  intro j hj
  have hjk : (j : Int) < k := by omega
  rw [bt_put _ _ _ _ h0 (by omega), bt_prt _ 0 k j (by omega) (by omega) (by omega), bt_prt _ 0 k j (by omega) (by omega) (by omega), Int.zero_add, bt_put _ _ _ _ h0 (by omega)]
theorem bt_prt0 (s : ByteArray) (k i : Int) (h : i < k) : bt (prt s 0 k) i = bt s i := by
  by_cases h0 : i < 0
  · rw [bt_neg _ _ h0, bt_neg _ _ h0]
  · rw [bt_prt s 0 k i (by omega) (by omega) (by omega), Int.zero_add]
theorem wd_prt0 (s : ByteArray) (k i : Int) (h : i + 1 < k) : wd (prt s 0 k) i = wd s i := by
  unfold wd; rw [bt_prt0 _ _ _ (by omega), bt_prt0 _ _ _ h]
theorem lg_prt0 (s : ByteArray) (k i : Int) (h : i + 3 < k) : lg (prt s 0 k) i = lg s i := by
  unfold lg; rw [wd_prt0 _ _ _ (by omega), wd_prt0 _ _ _ (by omega)]
theorem hdv_prt0 (s : ByteArray) (k : Int) (h : 0 < k) : hdv (prt s 0 k) = hdv s := by unfold hdv; rw [bt_prt0 _ _ _ h]
end Go.Proofs.YthiljpbodmajaaaGreat.Plain
namespace Go.Proofs.YthiljpbodmajaaaGreat.Plain

theorem fx_ones (P o n : Int) (hP : 0 ≤ P) (o0 : 0 ≤ o) (o1 : o ≤ 65535) (n0 : 0 ≤ n) (n1 : n ≤ 65535) (h : 0 < P + n) : fx (ones (P + o)) o n = ones (P + n) := by
  unfold fx
  by_cases e : o = n
  · rw [if_pos e, e]
  · rw [if_neg e]
    unfold ones
    congr 1
    unfold fd
    by_cases k : P + o = 0
    · rw [if_pos k, if_neg (by omega), if_neg (by omega)]
      omega
    · rw [if_neg k, if_neg (by omega), if_neg (by omega)]
      omega
theorem fx_mod (c o n : Int) : fx c o n % 65535 = (c + o - n) % 65535 := by
  unfold fx
  by_cases e : o = n
  · rw [if_pos e]; omega
  · rw [if_neg e]
    unfold ones fd
    split <;> omega
/-- of two numbers with one remainder, 65535 in the place of 0 -/
theorem norm_eq {a b : Int} (a0 : 0 ≤ a) (a1 : a ≤ 65535) (b0 : 0 ≤ b) (b1 : b ≤ 65535) (h : a % 65535 = b % 65535) : (if a = 0 then 65535 else a) = (if b = 0 then 65535 else b) := by
  split <;> split <;> omega
theorem ones_mod (T : Int) : ones T % 65535 = (-T) % 65535 := by
  unfold ones fd
  split <;> omega
end Go.Proofs.YthiljpbodmajaaaGreat.Plain
namespace Go.Proofs.YthiljpbodmajaaaGreat.Plain
theorem lg_split {s : ByteArray} {i a : Int} (h : lg s i = a) : wd s i = a / 65536 ∧ wd s (i + 2) = a % 65536 := by
  have := wd_bd s i; have := wd_bd s (i + 2); unfold lg at h; omega
theorem fx4 (P a b c d a' b' c' d' : Int) (hP : 0 < P) (ha : 0 ≤ a ∧ a ≤ 65535) (hb : 0 ≤ b ∧ b ≤ 65535) (hc : 0 ≤ c ∧ c ≤ 65535) (hd : 0 ≤ d ∧ d ≤ 65535) (ha' : 0 ≤ a' ∧ a' ≤ 65535) (hb' : 0 ≤ b' ∧ b' ≤ 65535) (hc' : 0 ≤ c' ∧ c' ≤ 65535) (hd' : 0 ≤ d' ∧ d' ≤ 65535) :
    fx (fx (fx (fx (ones (P + (a + b + (c + d)))) a a') b b') c c') d d' = ones (P + (a' + b' + (c' + d'))) := by
  have e1 := fx_ones (P + b + c + d) a a' (by omega) ha.1 ha.2 ha'.1 ha'.2 (by omega)
  have e2 := fx_ones (P + a' + c + d) b b' (by omega) hb.1 hb.2 hb'.1 hb'.2 (by omega)
  have e3 := fx_ones (P + a' + b' + d) c c' (by omega) hc.1 hc.2 hc'.1 hc'.2 (by omega)
  have e4 := fx_ones (P + a' + b' + c') d d' (by omega) hd.1 hd.2 hd'.1 hd'.2 (by omega)
  rw [show P + (a + b + (c + d)) = P + b + c + d + a by omega, e1, show P + b + c + d + a' = P + a' + c + d + b by omega, e2, show P + a' + c + d + b' = P + a' + b' + d + c by omega, e3, show P + a' + b' + d + c' = P + a' + b' + c' + d by omega, e4]
  congr 1; omega
theorem fx6 (P a b c d e f a' b' c' d' e' f' : Int) (hP : 0 < P) (ha : 0 ≤ a ∧ a ≤ 65535) (hb : 0 ≤ b ∧ b ≤ 65535) (hc : 0 ≤ c ∧ c ≤ 65535) (hd : 0 ≤ d ∧ d ≤ 65535) (he : 0 ≤ e ∧ e ≤ 65535) (hf : 0 ≤ f ∧ f ≤ 65535) (ha' : 0 ≤ a' ∧ a' ≤ 65535) (hb' : 0 ≤ b' ∧ b' ≤ 65535) (hc' : 0 ≤ c' ∧ c' ≤ 65535) (hd' : 0 ≤ d' ∧ d' ≤ 65535) (he' : 0 ≤ e' ∧ e' ≤ 65535) (hf' : 0 ≤ f' ∧ f' ≤ 65535) :
    fx (fx (fx (fx (fx (fx (ones (P + (a + b + (c + d)) + e + f)) a a') b b') c c') d d') e e') f f' = ones (P + (a' + b' + (c' + d')) + e' + f') := by
  have e1 := fx4 (P + e + f) a b c d a' b' c' d' (by omega) ha hb hc hd ha' hb' hc' hd'
  have e2 := fx_ones (P + (a' + b' + (c' + d')) + f) e e' (by omega) he.1 he.2 he'.1 he'.2 (by omega)
  have e3 := fx_ones (P + (a' + b' + (c' + d')) + e') f f' (by omega) hf.1 hf.2 hf'.1 hf'.2 (by omega)
  rw [show P + (a + b + (c + d)) + e + f = P + e + f + (a + b + (c + d)) by omega, e1, show P + e + f + (a' + b' + (c' + d')) = P + (a' + b' + (c' + d')) + f + e by omega, e2, show P + (a' + b' + (c' + d')) + f + e' = P + (a' + b' + (c' + d')) + e' + f by omega, e3]
/-- the same up to remainders, from whatever number -/
theorem fx6_mod (k a b c d e f a' b' c' d' e' f' : Int) : fx (fx (fx (fx (fx (fx k a a') b b') c c') d d') e e') f f' % 65535 = (k + (a + b + (c + d)) + e + f - (a' + b' + (c' + d')) - e' - f') % 65535 := by
  have e1 := fx_mod k a a'
  have e2 := fx_mod (fx k a a') b b'
  have e3 := fx_mod (fx (fx k a a') b b') c c'
  have e4 := fx_mod (fx (fx (fx k a a') b b') c c') d d'
  have e5 := fx_mod (fx (fx (fx (fx k a a') b b') c c') d d') e e'
  have e6 := fx_mod (fx (fx (fx (fx (fx k a a') b b') c c') d d') e e') f f'
  generalize fx (fx (fx (fx (fx (fx k a a') b b') c c') d d') e e') f f' = g6 at *
  generalize fx (fx (fx (fx (fx k a a') b b') c c') d d') e e' = g5 at *
  generalize fx (fx (fx (fx k a a') b b') c c') d d' = g4 at *
  generalize fx (fx (fx k a a') b b') c c' = g3 at *
  generalize fx (fx k a a') b b' = g2 at *
  generalize fx k a a' = g1 at *
  omega
theorem fx6_bd (k a b c d e f a' b' c' d' e' f' : Int) (h0 : 0 ≤ k) (h1 : k < 65536) : 0 ≤ fx (fx (fx (fx (fx (fx k a a') b b') c c') d d') e e') f f' ∧ fx (fx (fx (fx (fx (fx k a a') b b') c c') d d') e e') f f' < 65536 := by
  have e1 := fx_bd k a a' h0 h1
  have e2 := fx_bd _ b b' e1.1 e1.2
  have e3 := fx_bd _ c c' e2.1 e2.2
  have e4 := fx_bd _ d d' e3.1 e3.2
  have e5 := fx_bd _ e e' e4.1 e4.2
  exact fx_bd _ f f' e5.1 e5.2
theorem prt_append_r (a b : ByteArray) (n : Int) (h : (a.size : Int) ≤ n) : prt (a ++ b) 0 n = a ++ prt b 0 (n - a.size) := by
  unfold prt
  rw [ByteArray.extract_append]
  have e1 : a.extract (0 : Int).toNat n.toNat = a := by
    apply ByteArray.ext_getElem
    · simp; omega
    · intro j h1 h2; simp [ByteArray.getElem_extract]
  rw [e1]
  congr 2 <;> omega
end Go.Proofs.YthiljpbodmajaaaGreat.Plain
namespace Go.Proofs.YthiljpbodmajaaaGreat
open Plain
set_option linter.unusedVariables false

/-- what a header covers but for the ends -/
def khp (d : Dg) (n : Nat) : Int := (64 + (20 + (d.op.size : Int)) / 4) * 256 + d.bi % 256 + (20 + (d.op.size : Int) + n) + d.bi / 256 % 65536 + top2 (d.bi / 16777216) + (d.tl * 256 + d.pr) + 0 + total d.op
/-- the sum of both addresses -/
def ads (d : Dg) : Int := d.sa / 65536 + d.sa % 65536 + (d.da / 65536 + d.da % 65536)
theorem kcs_ones {d : Dg} (D : Dgok d) (n : Nat) (hn : d.op.size + n ≤ 65515) : kcs d n = ones (khp d n + ads d) ∧ 0 < khp d n := by
  have hv := D.hv
  have hp := D.prb
  have ht2 := top2_ok (d.bi / 16777216)
  have ht := total_nn d.op
  constructor
  · unfold kcs
    rw [← ones_ksm]
    unfold kh
    rw [total_hd _ _ _ _ _ _ _ _ _ _ _ (by omega) (by omega) (by omega) (by omega) (by omega) (by omega) (by omega) (by omega) ht2.1 ht2.2.1 D.t0 D.t1 hp.1 hp.2 (by decide) (by decide) D.s0 D.s1 D.d0 D.d1]
    rfl
  · unfold khp
    have := D.t0
    omega
/-- what the checksum of a body covers but for the ends: UDP, TCP -/
def kbq (d : Dg) : Int := if d.pr = 17 then 17 + kn d + total (prt (w2 (kn d) ++ w2 0 ++ d.tx) 0 (kn d - 4)) else 6 + ((kt0 d).size : Int) + total (prt d.md 0 8 ++ b1 ((5 + d.sr) * 16 + bt d.md 8 % 16) ++ prt d.md 9 12 ++ w2 0 ++ prt d.md 12 14 ++ d.tx)
theorem kuc_ones {d : Dg} (D : Dgok d) (hp : d.pr = 17) : kuc d (kn d) = ones (kbq d + ads d + d.sp + d.dp) ∧ 0 < kbq d := by
  have hn : 8 ≤ kn d ∧ kn d < 65536 := by
    have := D.tx
    rcases D.pr with ⟨_, r0, r1⟩ | ⟨h, _⟩ | ⟨h, _⟩
    · unfold kn; omega
    · omega
    · omega
  have e : l4 d.sa ++ l4 d.da ++ w2 17 ++ w2 (kn d) ++ prt (ku0 d (kn d)) 0 (kn d) = l4 d.sa ++ (l4 d.da ++ (w2 17 ++ (w2 (kn d) ++ (w2 d.sp ++ (w2 d.dp ++ prt (w2 (kn d) ++ w2 0 ++ d.tx) 0 (kn d - 4)))))) := by
    have : ku0 d (kn d) = (w2 d.sp ++ w2 d.dp) ++ (w2 (kn d) ++ w2 0 ++ d.tx) := by unfold ku0; simp only [ByteArray.append_assoc]
    rw [this, prt_append_r _ _ _ (by simp [w2_size]; omega)]
    simp only [ByteArray.append_assoc, ByteArray.size_append, w2_size]
    rfl
  have ht := total_nn (prt (w2 (kn d) ++ w2 0 ++ d.tx) 0 (kn d - 4))
  constructor
  · unfold kuc
    rw [e, ← ones_ksm, total_append _ _ (by rw [l4_size]), total_append _ _ (by rw [l4_size]), total_append (w2 17) _ (by rw [w2_size]), total_append (w2 (kn d)) _ (by rw [w2_size]), total_append (w2 d.sp) _ (by rw [w2_size]), total_append (w2 d.dp) _ (by rw [w2_size])]
    rw [total_l4 _ D.s0 D.s1, total_l4 _ D.d0 D.d1, total_w2 17 (by decide) (by decide), total_w2 (kn d) (by omega) hn.2, total_w2 _ D.p0 D.p1, total_w2 _ D.q0 D.q1]
    unfold kbq ads
    rw [if_pos hp]
    congr 1
    omega
  · unfold kbq
    rw [if_pos hp]
    omega
theorem ktc_ones {d : Dg} (D : Dgok d) (hp : d.pr = 6) : kck d = ones (kbq d + ads d + d.sp + d.dp) ∧ 0 < kbq d := by
  have hz : (kt0 d).size < 65536 ∧ (prt d.md 0 8 ++ b1 ((5 + d.sr) * 16 + bt d.md 8 % 16) ++ prt d.md 9 12).size = 12 := by
    have h1 := D.tx
    have h2 := D.md
    constructor
    · unfold kt0
      simp only [ByteArray.size_append, w2_size, b1_size, prt_size]
      omega
    · simp only [ByteArray.size_append, b1_size, prt_size]
      omega
  have e : l4 d.sa ++ l4 d.da ++ w2 6 ++ w2 (kt0 d).size ++ kt0 d = l4 d.sa ++ (l4 d.da ++ (w2 6 ++ (w2 (kt0 d).size ++ (w2 d.sp ++ (w2 d.dp ++ (prt d.md 0 8 ++ b1 ((5 + d.sr) * 16 + bt d.md 8 % 16) ++ prt d.md 9 12 ++ w2 0 ++ prt d.md 12 14 ++ d.tx)))))) := by
    conv => lhs; rhs; unfold kt0
    simp only [ByteArray.append_assoc]
  have ht := total_nn (prt d.md 0 8 ++ b1 ((5 + d.sr) * 16 + bt d.md 8 % 16) ++ prt d.md 9 12 ++ w2 0 ++ prt d.md 12 14 ++ d.tx)
  constructor
  · unfold kck
    rw [if_neg (by omega), if_pos hp, e, ← ones_ksm, total_append _ _ (by rw [l4_size]), total_append _ _ (by rw [l4_size]), total_append (w2 6) _ (by rw [w2_size]), total_append (w2 (kt0 d).size) _ (by rw [w2_size]), total_append (w2 d.sp) _ (by rw [w2_size]), total_append (w2 d.dp) _ (by rw [w2_size])]
    rw [total_l4 _ D.s0 D.s1, total_l4 _ D.d0 D.d1, total_w2 6 (by decide) (by decide), total_w2 _ (by omega) (by omega), total_w2 _ D.p0 D.p1, total_w2 _ D.q0 D.q1]
    unfold kbq ads
    rw [if_neg (by omega)]
    congr 1
    omega
  · unfold kbq
    rw [if_neg (by omega)]
    omega
/-- what the checksum of a query covers but for its identifier -/
def kiq (d : Dg) : Int := d.kd * 256 + total ((if 8 < d.kd then prt d.md 0 2 ++ prt d.md 2 14 else prt d.md 0 2) ++ d.tx)
theorem kic_ones {d : Dg} (D : Dgok d) (hp : d.pr = 1) : kck d = ones (kiq d + kid d) ∧ 0 ≤ kiq d ∧ (¬ d.kd = 0 → 0 < kiq d) ∧ 0 ≤ kid d ∧ kid d < 65536 := by
  have hk : d.kd = 8 ∨ d.kd = 13 ∨ d.kd = 0 ∨ d.kd = 14 := by
    rcases D.pr with ⟨h, _⟩ | ⟨h, _⟩ | ⟨_, h⟩
    · omega
    · omega
    · exact h
  have hi : 0 ≤ kid d ∧ kid d < 65536 := by have := D.p0; have := D.p1; have := D.q0; have := D.q1; unfold kid; split <;> omega
  have e : ki0 d = (b1 d.kd ++ b1 0) ++ (w2 0 ++ (w2 (kid d) ++ ((if 8 < d.kd then prt d.md 0 2 ++ prt d.md 2 14 else prt d.md 0 2) ++ d.tx))) := by
    unfold ki0
    split <;> simp only [ByteArray.append_assoc]
  have ht := total_nn ((if 8 < d.kd then prt d.md 0 2 ++ prt d.md 2 14 else prt d.md 0 2) ++ d.tx)
  refine ⟨?_, ?_, ?_, hi.1, hi.2⟩
  · unfold kck
    rw [if_neg (by omega), if_neg (by omega), e, ← ones_ksm, total_append (b1 d.kd ++ b1 0) _ (by simp [b1_size]), total_append (w2 0) _ (by rw [w2_size]), total_append (w2 (kid d)) _ (by rw [w2_size]), total_bb _ _ (by omega) (by omega) (by decide) (by decide), total_w2 0 (by decide) (by decide), total_w2 _ hi.1 hi.2]
    unfold kiq
    congr 1
    omega
  · unfold kiq; omega
  · intro h; unfold kiq; omega

/-- the words of a frame that a quote's fixing reads -/
theorem kfx_words {d : Dg} (D : Dgok d) (c X : Int) (c0 : 0 ≤ c) (c1 : c < 65536) (x0 : 0 ≤ X) (x1 : X < 65536) (hs : (kfx d c X).size ≤ 65535) :
    wd (kfx d c X) 12 = d.sa / 65536 ∧ wd (kfx d c X) 14 = d.sa % 65536 ∧ wd (kfx d c X) 16 = d.da / 65536 ∧ wd (kfx d c X) 18 = d.da % 65536 ∧ wd (kfx d c X) (20 + (d.op.size : Int) + kfl d) = X ∧ (¬ d.pr = 1 → wd (kfx d c X) (20 + (d.op.size : Int)) = d.sp ∧ wd (kfx d c X) (20 + (d.op.size : Int) + 2) = d.dp) ∧ (d.pr = 1 → wd (kfx d c X) (20 + (d.op.size : Int) + 4) = kid d) := by
  have hb := kbx_big D X
  obtain ⟨F, e1, e2, e3, e4, e5, e6, e7, e8, e9, e10, e11⟩ := kfx_parts D c X c0 c1 hb.1 hs
  have w12 := lg_split e6
  have w16 := lg_split e7
  have hz := kbx_size D X
  have hbw : ∀ i, 0 ≤ i → i + 1 < ((kbx d X).size : Int) → wd (kfx d c X) (20 + (d.op.size : Int) + i) = wd (kbx d X) i := fun i h0 h1 => by
    rw [← e1, ← e2]; rw [← e2] at h1; exact (bdy_wd F i h0 h1).symm
  refine ⟨w12.1, w12.2, w16.1, w16.2, ?_, fun hp => ⟨?_, ?_⟩, fun hp => ?_⟩
  · rw [hbw (kfl d) (by unfold kfl; split <;> (try split) <;> omega) (by omega)]
    unfold kbx
    exact wd_mid (kbp d) (kbs d) X _ (kbp_size D).symm x0 x1
  · have h := hbw 0 (by omega) (by omega)
    rw [Int.add_zero] at h
    rw [h]
    rcases D.pr with ⟨h, _⟩ | ⟨h, _⟩ | ⟨h, _⟩
    · have := wd_mid ByteArray.empty (w2 d.dp ++ w2 (kn d) ++ w2 X ++ d.tx) d.sp 0 (by simp) D.p0 D.p1
      unfold kbx kbp kbs
      simp only [h, if_pos]
      simpa [ByteArray.append_assoc] using this
    · have := wd_mid ByteArray.empty (w2 d.dp ++ prt d.md 0 8 ++ b1 ((5 + d.sr) * 16 + bt d.md 8 % 16) ++ prt d.md 9 12 ++ w2 X ++ (prt d.md 12 14 ++ d.tx)) d.sp 0 (by simp) D.p0 D.p1
      unfold kbx kbp kbs
      simp only [h]
      simpa [ByteArray.append_assoc] using this
    · exact absurd h hp
  · rw [hbw 2 (by omega) (by omega)]
    rcases D.pr with ⟨h, _⟩ | ⟨h, _⟩ | ⟨h, _⟩
    · have := wd_mid (w2 d.sp) (w2 (kn d) ++ w2 X ++ d.tx) d.dp 2 (by simp [w2_size]) D.q0 D.q1
      unfold kbx kbp kbs
      simp only [h, if_pos]
      simpa [ByteArray.append_assoc] using this
    · have := wd_mid (w2 d.sp) (prt d.md 0 8 ++ b1 ((5 + d.sr) * 16 + bt d.md 8 % 16) ++ prt d.md 9 12 ++ w2 X ++ (prt d.md 12 14 ++ d.tx)) d.dp 2 (by simp [w2_size]) D.q0 D.q1
      unfold kbx kbp kbs
      simp only [h]
      simpa [ByteArray.append_assoc] using this
    · exact absurd h hp
  · rw [hbw 4 (by omega) (by omega)]
    have hi := (kic_ones D hp).2.2.2
    have this := wd_mid (b1 d.kd ++ b1 0 ++ w2 X) ((if 8 < d.kd then prt d.md 0 2 ++ prt d.md 2 14 else prt d.md 0 2) ++ d.tx) (kid d) 4 (by simp [b1_size, w2_size]) hi.1 hi.2
    have e : kbx d X = b1 d.kd ++ b1 0 ++ w2 X ++ w2 (kid d) ++ ((if 8 < d.kd then prt d.md 0 2 ++ prt d.md 2 14 else prt d.md 0 2) ++ d.tx) := by
      unfold kbx kbp kbs
      rw [if_neg (by omega), if_neg (by omega), if_neg (by omega), if_neg (by omega)]
      split <;> simp only [ByteArray.append_assoc]
    rw [e]
    exact this
/-- two datagrams that differ in their ends alone -/
structure Ends (d e : Dg) : Prop where
  pr : e.pr = d.pr
  kd : e.kd = d.kd
  ba : e.ba = d.ba
  tl : e.tl = d.tl
  bi : e.bi = d.bi
  sr : e.sr = d.sr
  op : e.op = d.op
  md : e.md = d.md
  tx : e.tx = d.tx
  ta : e.ta = d.ta
theorem Ends.khp {d e : Dg} (E : Ends d e) (n : Nat) : khp e n = khp d n := by unfold Go.Proofs.YthiljpbodmajaaaGreat.khp; rw [E.op, E.bi, E.tl, E.pr]
theorem Ends.kn {d e : Dg} (E : Ends d e) : kn e = kn d := by unfold Go.Proofs.YthiljpbodmajaaaGreat.kn; rw [E.tx, E.sr]
theorem Ends.kt0 {d e : Dg} (E : Ends d e) : (kt0 e).size = (kt0 d).size := by unfold Go.Proofs.YthiljpbodmajaaaGreat.kt0; simp only [ByteArray.size_append, w2_size, b1_size]; rw [E.md, E.tx]
theorem Ends.kbq {d e : Dg} (E : Ends d e) : kbq e = kbq d := by unfold Go.Proofs.YthiljpbodmajaaaGreat.kbq; rw [E.kn, E.kt0, E.pr, E.tx, E.md, E.sr]
theorem Ends.kiq {d e : Dg} (E : Ends d e) : kiq e = kiq d := by unfold Go.Proofs.YthiljpbodmajaaaGreat.kiq; rw [E.kd, E.tx, E.md]
theorem Ends.kfl {d e : Dg} (E : Ends d e) : kfl e = kfl d := by unfold Go.Proofs.YthiljpbodmajaaaGreat.kfl; rw [E.pr]
theorem Ends.kbx {d e : Dg} (E : Ends d e) (De : Dgok e) (Dd : Dgok d) (X Y : Int) : (kbx e X).size = (kbx d Y).size := by
  have h1 := kbx_size De X
  have h2 := kbx_size Dd Y
  rw [E.kfl] at h1
  have h3 : (kbs e).size = (kbs d).size := by
    unfold kbs
    rw [E.pr, E.kd, E.tx, E.md]
    split
    · rfl
    · split
      · rfl
      · split <;> simp only [ByteArray.size_append, w2_size]
  omega
/-- the quote of e, as far as k, out of that of d; of TCP's checksum a half stays -/
def rqt (d e : Dg) (k : Int) : ByteArray := if d.pr = 6 ∧ k = 37 + (d.op.size : Int) then prt (kfr e) 0 (k - 1) ++ prt (kfr d) (k - 1) k else prt (kfr e) 0 k
theorem requote {d e : Dg} (D : Dgok d) (De : Dgok e) (E : Ends d e) (k : Int) (hk0 : 28 + (d.op.size : Int) ≤ k) (hk1 : k ≤ 20 + (d.op.size : Int) + (kbd d).size) (hs : (kfr d).size ≤ 65535) (hq : d.pr = 1 → ¬ d.kd = 0 ∨ 0 < kid e) :
    fxb (prt (kfr d) 0 k) (fxh (prt (kfr d) 0 k) (prt (kfx e (kcs d (kbx d (kfd d)).size) (kfd d)) 0 k)) = rqt d e k := by
  have hbig := kbx_big D (kfd d)
  have hbx : (kbx e (kfd d)).size = (kbx d (kfd d)).size := E.kbx De D _ _
  have hbx2 : (kbx e (kfd e)).size = (kbx d (kfd d)).size := E.kbx De D _ _
  have hze : ∀ c X, (kfx e c X).size = (kfr d).size := fun c X => by
    rw [kfx_len, kfr_eq D, kfx_len, E.op, E.ta, E.kbx De D X (kfd d)]
  have hzd : (kfr d).size = 20 + d.op.size + (kbd d).size + d.ta.size := kfr_size D
  obtain ⟨n, hn⟩ : ∃ n, n = (kbx d (kfd d)).size := ⟨_, rfl⟩
  have hnb : (kbd d).size = n := by rw [kbd_eq D, hn]
  have c1b := kcs_bd d n
  have X1b : 0 ≤ kfd d ∧ kfd d < 65536 := by unfold kfd; have := kck_bd d; split <;> omega
  have X2b : 0 ≤ kfd e ∧ kfd e < 65536 := by unfold kfd; have := kck_bd e; split <;> omega
  have hkfr : kfr d = kfx d (kcs d n) (kfd d) := by rw [hn]; exact kfr_eq D
  have hkfe : kfr e = kfx e (kcs e n) (kfd e) := by rw [hn, ← hbx2]; exact kfr_eq De
  rw [← hn] at hbig hbx hbx2 ⊢
  have hop := D.op
  -- words of both
  have ww := kfx_words D (kcs d n) (kfd d) c1b.1 c1b.2 X1b.1 X1b.2 (by rw [← hkfr]; exact hs)
  have we := fun c X (c0 : 0 ≤ c) (c1 : c < 65536) (x0 : 0 ≤ X) (x1 : X < 65536) => kfx_words De c X c0 c1 x0 x1 (by rw [hze]; exact hs)
  rw [← hkfr] at ww
  have pe : ∀ c X, 0 ≤ c → c < 65536 → hdv (kfx e c X) = 20 + (d.op.size : Int) ∧ bt (kfx e c X) 9 = d.pr ∧ wd (kfx e c X) 10 = c := fun c X c0 c1 => by
    obtain ⟨F, e1, e2, e3, e4, e5, e6, e7, e8, e9, e10, e11⟩ := kfx_parts De c X c0 c1 (by rw [E.kbx De D X (kfd d), E.op, ← hn]; exact hbig.1) (by rw [hze]; exact hs)
    exact ⟨by rw [e1, E.op], by rw [e3, E.pr], e8⟩
  -- the header
  have w1 := we (kcs d n) (kfd d) c1b.1 c1b.2 X1b.1 X1b.2
  have hfba : ∀ c X x, 0 ≤ c → c < 65536 → 0 ≤ X → X < 65536 → fba x (prt (kfr d) 0 k) (prt (kfx e c X) 0 k) = fx (fx (fx (fx x (d.sa / 65536) (e.sa / 65536)) (d.sa % 65536) (e.sa % 65536)) (d.da / 65536) (e.da / 65536)) (d.da % 65536) (e.da % 65536) := fun c X x c0 c1 x0 x1 => by
    have w := we c X c0 c1 x0 x1
    unfold fba fbw
    rw [wd_prt0 _ _ _ (by omega), wd_prt0 _ _ _ (by omega), wd_prt0 _ _ _ (by omega), wd_prt0 _ _ _ (by omega), wd_prt0 _ _ _ (by omega), wd_prt0 _ _ _ (by omega), wd_prt0 _ _ _ (by omega), wd_prt0 _ _ _ (by omega)]
    rw [ww.1, ww.2.1, ww.2.2.1, ww.2.2.2.1, w.1, w.2.1, w.2.2.1, w.2.2.2.1]
  have ds := D.s0; have ds1 := D.s1; have dd := D.d0; have dd1 := D.d1
  have es := De.s0; have es1 := De.s1; have ed := De.d0; have ed1 := De.d1
  have dp := D.p0; have dp1 := D.p1; have dq := D.q0; have dq1 := D.q1
  have ep := De.p0; have ep1 := De.p1; have eq := De.q0; have eq1 := De.q1
  have hc2 : fba (kcs d n) (prt (kfr d) 0 k) (prt (kfx e (kcs d n) (kfd d)) 0 k) = kcs e n := by
    rw [hfba _ _ _ c1b.1 c1b.2 X1b.1 X1b.2, (kcs_ones D n hbig.1).1, (kcs_ones De n (by rw [E.op]; exact hbig.1)).1, E.khp]
    unfold ads
    exact fx4 _ _ _ _ _ _ _ _ _ (kcs_ones D n hbig.1).2 (by omega) (by omega) (by omega) (by omega) (by omega) (by omega) (by omega) (by omega)
  have c2b := kcs_bd e n
  have hkz : ∀ c X, k ≤ ((kfx e c X).size : Int) := fun c X => by rw [hze]; omega
  have hH : fxh (prt (kfr d) 0 k) (prt (kfx e (kcs d n) (kfd d)) 0 k) = prt (kfx e (kcs e n) (kfd d)) 0 k := by
    unfold fxh
    rw [wd_prt0 _ _ _ (by omega), (pe _ _ c1b.1 c1b.2).2.2, hc2, prt_put _ _ _ _ (by omega) (by rw [w2_size]; omega) (hkz _ _), kfx_put10]
  rw [hH]
  -- the body
  obtain ⟨p1, p2, p3⟩ := pe (kcs e n) (kfd d) c2b.1 c2b.2
  have w2' := we (kcs e n) (kfd d) c2b.1 c2b.2 X1b.1 X1b.2
  have hsp : spl (prt (kfx e (kcs e n) (kfd d)) 0 k) = 20 + (d.op.size : Int) + kfl d := by
    unfold spl kfl
    rw [hdv_prt0 _ _ (by omega), bt_prt0 _ _ _ (by omega), p1, p2]
  have hqz : ((prt (kfx e (kcs e n) (kfd d)) 0 k).size : Int) = k := by rw [prt_size]; have := hkz (kcs e n) (kfd d); omega
  unfold fxb
  rw [hsp, hqz]
  have hfl : kfl d = 6 ∨ kfl d = 16 ∨ kfl d = 2 := by unfold kfl; split <;> (try split) <;> omega
  by_cases hin : 20 + (d.op.size : Int) + kfl d + 2 ≤ k
  · rw [if_pos hin]
    have hpt := kfx_putf De (kcs e n) (kfd d) (kfd e) (20 + (d.op.size : Int) + kfl d) (by rw [E.op, E.kfl])
    have hfc : fxc (prt (kfr d) 0 k) (prt (kfx e (kcs e n) (kfd d)) 0 k) = kfd e := by
      unfold fxc
      rw [hsp, bt_prt0 _ _ _ (by omega), p2, wd_prt0 _ _ _ (by omega)]
      have hX := w2'.2.2.2.2.1
      rw [E.op, E.kfl] at hX
      rw [hX]
      have hpp : ∀ j, (j = 0 ∨ j = 2) → ¬ d.pr = 1 → ppl (prt (kfx e (kcs e n) (kfd d)) 0 k) j = 20 + (d.op.size : Int) + j := fun j hj h => by
        unfold ppl
        rw [hdv_prt0 _ _ (by omega), bt_prt0 _ _ _ (by omega), p1, p2, if_neg h]
      have hfbe : ¬ d.pr = 1 → ∀ x, fbe x (prt (kfr d) 0 k) (prt (kfx e (kcs e n) (kfd d)) 0 k) = fx (fx (fx (fx (fx (fx x (d.sa / 65536) (e.sa / 65536)) (d.sa % 65536) (e.sa % 65536)) (d.da / 65536) (e.da / 65536)) (d.da % 65536) (e.da % 65536)) d.sp e.sp) d.dp e.dp := fun h x => by
        have q1 := ww.2.2.2.2.2.1 h
        have q2 := w2'.2.2.2.2.2.1 (by rw [E.pr]; exact h)
        rw [E.op] at q2
        unfold fbe
        rw [hpp 0 (.inl rfl) h, hpp 2 (.inr rfl) h, Int.add_zero, hfba _ _ _ c2b.1 c2b.2 X1b.1 X1b.2]
        unfold fbw
        rw [wd_prt0 _ _ _ (by omega), wd_prt0 _ _ _ (by omega), wd_prt0 _ _ _ (by omega), wd_prt0 _ _ _ (by omega), q1.1, q1.2, q2.1, q2.2]
      by_cases h17 : d.pr = 17
      · rw [if_pos h17]
        unfold fud
        have e17 : e.pr = 17 := by rw [E.pr]; exact h17
        by_cases hba : d.ba = true
        · have : kfd d = 0 := by unfold kfd; rw [if_pos ⟨h17, hba⟩]
          have h2 : kfd e = 0 := by unfold kfd; rw [if_pos ⟨e17, by rw [E.ba]; exact hba⟩]
          rw [this, h2, if_pos rfl]
        · have hu1 := kuc_ones D h17
          have hu2 := kuc_ones De e17
          have k1 : kfd d = if kuc d (kn d) = 0 then 65535 else kuc d (kn d) := by
            unfold kfd; rw [if_neg (by intro h; exact hba h.2)]; unfold kck; rw [if_pos h17]
          have k2 : kfd e = if kuc e (kn e) = 0 then 65535 else kuc e (kn e) := by
            unfold kfd; rw [if_neg (by intro h; rw [E.ba] at h; exact hba h.2)]; unfold kck; rw [if_pos e17]
          have hb1 := ones_bd (kbq d + ads d + d.sp + d.dp)
          have hb2 := ones_bd (kbq e + ads e + e.sp + e.dp)
          have hm1 := ones_mod (kbq d + ads d + d.sp + d.dp)
          have hm2 := ones_mod (kbq e + ads e + e.sp + e.dp)
          rw [hu1.1] at k1
          rw [hu2.1] at k2
          rw [if_neg (by rw [k1]; split <;> omega), hfbe (by omega), k2]
          have hbd := fx6_bd (kfd d) (d.sa / 65536) (d.sa % 65536) (d.da / 65536) (d.da % 65536) d.sp d.dp (e.sa / 65536) (e.sa % 65536) (e.da / 65536) (e.da % 65536) e.sp e.dp X1b.1 X1b.2
          have hmd := fx6_mod (kfd d) (d.sa / 65536) (d.sa % 65536) (d.da / 65536) (d.da % 65536) d.sp d.dp (e.sa / 65536) (e.sa % 65536) (e.da / 65536) (e.da % 65536) e.sp e.dp
          refine norm_eq hbd.1 (by omega) hb2.1 hb2.2 ?_
          rw [hmd, hm2]
          have hkm : kfd d % 65535 = (-(kbq d + ads d + d.sp + d.dp)) % 65535 := by rw [k1, ← hm1]; split <;> omega
          rw [E.kbq]
          unfold ads at hkm ⊢
          omega
      · by_cases h6 : d.pr = 6
        · rw [if_neg h17, if_pos h6]
          have e6 : e.pr = 6 := by rw [E.pr]; exact h6
          have k1 : kfd d = kck d := by unfold kfd; rw [if_neg (by intro h; exact h17 h.1)]
          have k2 : kfd e = kck e := by unfold kfd; rw [if_neg (by intro h; rw [e6] at h; exact absurd h.1 (by decide))]
          rw [hfbe (by omega), k1, k2, (ktc_ones D h6).1, (ktc_ones De e6).1, E.kbq]
          unfold ads
          exact fx6 _ _ _ _ _ _ _ _ _ _ _ _ _ (ktc_ones D h6).2 (by omega) (by omega) (by omega) (by omega) (by omega) (by omega) (by omega) (by omega) (by omega) (by omega) (by omega) (by omega)
        · have h1 : d.pr = 1 := by
            rcases D.pr with ⟨h, _⟩ | ⟨h, _⟩ | ⟨h, _⟩
            · exact absurd h h17
            · exact absurd h h6
            · exact h
          have e1 : e.pr = 1 := by rw [E.pr]; exact h1
          rw [if_neg h17, if_neg h6]
          have k1 : kfd d = kck d := by unfold kfd; rw [if_neg (by intro h; exact h17 h.1)]
          have k2 : kfd e = kck e := by unfold kfd; rw [if_neg (by intro h; rw [e1] at h; exact absurd h.1 (by decide))]
          have i1 := kic_ones D h1
          have i2 := kic_ones De e1
          have q1 := ww.2.2.2.2.2.2 h1
          have q2 := w2'.2.2.2.2.2.2 e1
          rw [E.op] at q2
          unfold fbw
          rw [hdv_prt0 _ _ (by omega), p1, wd_prt0 _ _ _ (by omega), wd_prt0 _ _ _ (by omega), q1, q2, k1, k2, i1.1, i2.1, E.kiq]
          refine fx_ones _ _ _ i1.2.1 i1.2.2.2.1 (by omega) i2.2.2.2.1 (by omega) ?_
          rcases hq h1 with h | h
          · have := i1.2.2.1 h; omega
          · omega
    rw [hfc, prt_put _ _ _ _ (by omega) (by rw [w2_size]; omega) (hkz _ _), hpt, ← hkfe]
    unfold rqt
    rw [if_neg]
    rintro ⟨h6, hk⟩
    have : kfl d = 16 := by unfold kfl; rw [if_neg (by omega), if_pos h6]
    omega
  · rw [if_neg hin]
    have h6 : d.pr = 6 := by
      have hf : ¬ kfl d = 6 ∧ ¬ kfl d = 2 := by omega
      rcases D.pr with ⟨h, _⟩ | ⟨h, _⟩ | ⟨h, _⟩
      · unfold kfl at hf; rw [if_pos h] at hf; omega
      · exact h
      · unfold kfl at hf; rw [if_neg (by omega), if_neg (by omega)] at hf; omega
    have hf : kfl d = 16 := by unfold kfl; rw [if_neg (by omega), if_pos h6]
    rw [hf] at hin
    have hoff : ∀ j, j < 36 + (d.op.size : Int) → bt (kfx e (kcs e n) (kfd d)) j = bt (kfr e) j := fun j hj => by
      have hpt := kfx_putf De (kcs e n) (kfd d) (kfd e) (36 + (d.op.size : Int)) (by rw [E.op, E.kfl, hf]; omega)
      rw [hkfe, ← hpt, bt_put_off (by omega) (by rw [w2_size]; have := hkz (kcs e n) (kfd d); rw [hze]; have := E.kbx De D (kfd d) (kfd d); have := kbx_size D (kfd d); rw [hf] at this; omega) (.inl hj)]
    have hzk : k ≤ ((kfr e).size : Int) := by rw [hkfe]; exact hkz _ _
    unfold rqt
    by_cases hk : k = 37 + (d.op.size : Int)
    · rw [if_pos ⟨h6, hk⟩]
      have z1 : ((prt (kfr e) 0 (k - 1)).size : Int) = k - 1 := by rw [prt_size]; omega
      have z2 : ((prt (kfr d) (k - 1) k).size : Int) = 1 := by rw [prt_size]; omega
      apply bt_ext
      · rw [ByteArray.size_append]; omega
      · intro j hj
        have hj' : (j : Int) < k := by omega
        rw [bt_prt0 _ _ _ hj']
        by_cases hl : (j : Int) < k - 1
        · rw [bt_append_l _ _ _ (by omega), bt_prt0 _ _ _ hl]
          exact hoff _ (by omega)
        · rw [bt_append_r _ _ _ (by omega), z1, bt_prt _ _ _ _ (by omega) (by omega) (by omega)]
          rw [show (j : Int) - (k - 1) = 0 by omega, Int.add_zero]
          have a1 := w2'.2.2.2.2.1
          have a2 := ww.2.2.2.2.1
          rw [E.op, E.kfl, hf] at a1
          rw [hf] at a2
          have b1 := bt_bd (kfx e (kcs e n) (kfd d)) (20 + (d.op.size : Int) + 16)
          have b2 := bt_bd (kfx e (kcs e n) (kfd d)) (20 + (d.op.size : Int) + 16 + 1)
          have b3 := bt_bd (kfr d) (20 + (d.op.size : Int) + 16)
          have b4 := bt_bd (kfr d) (20 + (d.op.size : Int) + 16 + 1)
          unfold wd at a1 a2
          rw [show (j : Int) = 20 + (d.op.size : Int) + 16 by omega, show k - 1 = 20 + (d.op.size : Int) + 16 by omega]
          omega
    · rw [if_neg (fun h => hk h.2)]
      apply bt_ext
      · have h1 : ((prt (kfr e) 0 k).size : Int) = k := by rw [prt_size]; omega
        omega
      · intro j hj
        have hj' : (j : Int) < k := by omega
        rw [bt_prt0 _ _ _ hj', bt_prt0 _ _ _ hj']
        exact hoff _ (by omega)
end Go.Proofs.YthiljpbodmajaaaGreat
