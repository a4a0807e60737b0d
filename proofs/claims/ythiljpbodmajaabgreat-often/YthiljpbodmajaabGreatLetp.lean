/-
  PLAIN MATHEMATICS: error messages: what they hold; the box's own one about a TTL.
-/
import Derived.Test.YthiljpbodmajaabGreatLetf
import Derived.Test.YthiljpbodmajaabGreatBoxr
namespace Go.Proofs.YthiljpbodmajaabGreat
open Plain
set_option linter.unusedVariables false

theorem Hdok.hv {d : Dg} (D : Hdok d) (o4 : d.op.size % 4 = 0) : (64 + (20 + (d.op.size : Int)) / 4) % 16 * 4 = 20 + (d.op.size : Int) ∧ 64 ≤ 64 + (20 + (d.op.size : Int)) / 4 ∧ 64 + (20 + (d.op.size : Int)) / 4 < 73 := by
  have := D.op; omega
/-- a frame of a header and a body of one's own -/
theorem khx_parts {d : Dg} (D : Hdok d) (o4 : d.op.size % 4 = 0) (b : ByteArray) (c : Int) (c0 : 0 ≤ c) (c1 : c < 65536) (hb : d.op.size + b.size ≤ 65515) (hs : (kh d b.size c ++ (b ++ d.ta)).size ≤ 65535) :
    Fits (kh d b.size c ++ (b ++ d.ta)) ∧ hdv (kh d b.size c ++ (b ++ d.ta)) = 20 + (d.op.size : Int) ∧ bdy (kh d b.size c ++ (b ++ d.ta)) = b ∧ bt (kh d b.size c ++ (b ++ d.ta)) 9 = d.pr ∧ bt (kh d b.size c ++ (b ++ d.ta)) 8 = d.tl ∧ wd (kh d b.size c ++ (b ++ d.ta)) 2 = 20 + (d.op.size : Int) + b.size ∧ lg (kh d b.size c ++ (b ++ d.ta)) 12 = d.sa ∧ lg (kh d b.size c ++ (b ++ d.ta)) 16 = d.da ∧ wd (kh d b.size c ++ (b ++ d.ta)) 10 = c ∧ hsv (kh d b.size c ++ (b ++ d.ta)) = kcs d b.size ∧ partB (kh d b.size c ++ (b ++ d.ta)) = false ∧ prt (kh d b.size c ++ (b ++ d.ta)) 12 20 = l4 d.sa ++ l4 d.da := by
  have hv := D.hv o4
  have hp := D.pr
  have ho := D.op
  have ht2 := top2_ok (d.bi / 16777216)
  have e0 : bt (kh d b.size c ++ (b ++ d.ta)) 0 = 64 + (20 + (d.op.size : Int)) / 4 := hd_bt0 _ _ _ _ _ _ _ _ _ _ _ _ (by omega) (by omega)
  have e2 : wd (kh d b.size c ++ (b ++ d.ta)) 2 = 20 + (d.op.size : Int) + b.size := hd_tot _ _ _ _ _ _ _ _ _ _ _ _ (by omega) (by omega)
  have eh : hdv (kh d b.size c ++ (b ++ d.ta)) = 20 + (d.op.size : Int) := by unfold hdv; rw [e0]; exact hv.1
  have ez : (kh d b.size c ++ (b ++ d.ta)).size = 20 + d.op.size + b.size + d.ta.size := by simp only [ByteArray.size_append]; unfold kh; rw [hd_size]; omega
  have ev : ver (kh d b.size c ++ (b ++ d.ta)) = 4 := by unfold ver; rw [e0]; omega
  refine ⟨⟨by omega, hs, ev, by omega, by omega, by omega⟩, eh, ?_, ?_, ?_, e2, ?_, ?_, ?_, ?_, ?_, ?_⟩
  · unfold bdy
    rw [eh, e2]
    exact hd_body _ _ _ _ _ _ _ _ _ _ _ b d.ta _ _ rfl rfl
  · exact hd_bt9 _ _ _ _ _ _ _ _ _ _ _ _ hp.1 hp.2
  · exact hd_bt8 _ _ _ _ _ _ _ _ _ _ _ _ D.t0 D.t1
  · exact hd_lg12 _ _ _ _ _ _ _ _ _ _ _ _ D.s0 D.s1
  · exact hd_lg16 _ _ _ _ _ _ _ _ _ _ _ _ D.d0 D.d1
  · exact hd_wd10 _ _ _ _ _ _ _ _ _ _ _ _ c0 c1
  · exact hd_hsv _ _ _ _ _ _ _ _ _ _ _ _ hv.1 (by omega) (by omega) (by omega)
  · have h6 : wd (kh d b.size c ++ (b ++ d.ta)) 6 = top2 (d.bi / 16777216) := hd_wd6 _ _ _ _ _ _ _ _ _ _ _ _ ht2.1 ht2.2.1
    unfold partB; rw [h6, ht2.2.2]; rfl
  · exact hd_ends _ _ _ _ _ _ _ _ _ _ _ _
theorem lb0_blk (m : Lt) : blk (lb0 m) 2 = lb0 m := by
  unfold lb0
  have := w2_zero_blk (b1 (m.ki % 256) ++ b1 (m.co % 256)) (m.re ++ m.qu) 0 2 (by simp [b1_size])
  simpa [ByteArray.append_assoc] using this
/-- a message with x in its checksum field -/
def lbx (m : Lt) (x : Int) : ByteArray := b1 (m.ki % 256) ++ b1 (m.co % 256) ++ w2 x ++ m.re ++ m.qu
theorem lbx_put (m : Lt) (x y : Int) : put (lbx m x) 2 (w2 y) = lbx m y := by
  unfold lbx
  have := put_mid (b1 (m.ki % 256) ++ b1 (m.co % 256)) (w2 x) (m.re ++ m.qu) (w2 y) 2 (by simp [b1_size]) (by simp [w2_size])
  simpa [ByteArray.append_assoc] using this
theorem lbd_eq (m : Lt) : lbd m = lbx m (65535 - ksm (lb0 m)) := lbx_put m 0 _
theorem lbx_size (m : Lt) (x : Int) : (lbx m x).size = 4 + m.re.size + m.qu.size := by
  unfold lbx; simp only [ByteArray.size_append, b1_size, w2_size]
theorem lbx_sum (m : Lt) (x : Int) (h : m.re.size + m.qu.size ≤ 65531) : sumv (blk (lbx m x) 2) = 65535 - ksm (lb0 m) := by
  have : blk (lbx m x) 2 = lb0 m := lbx_put m x 0
  rw [this]
  unfold sumv
  rw [if_pos (by rw [lb0_size]; omega)]
  rfl
/-- the box's own message about a TTL -/
def mnl (f t : Int) (q : ByteArray) : Lt := ⟨{ dg0 with pr := 1, sa := f, da := t, tl := 64 }, 11, 0, l4 0, q⟩
theorem mnl_hd (f t : Int) (q : ByteArray) (f0 : 0 ≤ f) (f1 : f < 4294967296) (t0 : 0 ≤ t) (t1 : t < 4294967296) : Hdok (mnl f t q).d :=
  ⟨⟨(by decide : (0 : Int) ≤ 1), (by decide : (1 : Int) < 256)⟩, f0, f1, t0, t1, (by decide : (0 : Int) ≤ 64), (by decide : (64 : Int) < 256), (by decide : (ByteArray.mk #[]).size ≤ 12), (by decide : (ByteArray.mk #[]).size ≤ 65535)⟩
theorem mine_eq (s : ByteArray) (f : Int) (f0 : 0 ≤ f) (f1 : f < 4294967296) (hQ : (prt s 0 (hdv s + 8)).size ≤ 1000) : tld s f 2816 0 = lfr (mnl f (lg s 12) (prt s 0 (hdv s + 8))) := by
  have ha := lg_bd s 12
  unfold tld tlm
  generalize lg s 12 = a at *
  generalize prt s 0 (hdv s + 8) = Q at *
  have H := mnl_hd f a Q f0 f1 ha.1 ha.2
  have e1 : w2 2816 = b1 11 ++ b1 0 := by decide
  have e2 : l4 0 = w2 0 ++ w2 0 := by decide
  have eb : w2 2816 ++ l4 0 ++ w2 0 ++ Q = lbx (mnl f a Q) 0 := by
    unfold lbx mnl
    rw [e1, e2]
    simp [ByteArray.append_assoc]
  have zop : (mnl f a Q).d.op.size = 0 := rfl
  have zta : (mnl f a Q).d.ta = ByteArray.empty := rfl
  have zre : (mnl f a Q).re.size = 4 := l4_size 0
  have zqu : (mnl f a Q).qu.size = Q.size := rfl
  have ez : ∀ x, (lbx (mnl f a Q) x).size = 8 + Q.size := fun x => by rw [lbx_size, zre, zqu]
  have et : top2 0 = 0 := by decide
  have ek : ∀ c, hd 69 0 (20 + (8 + (Q.size : Int))) 0 0 64 1 c f a ByteArray.empty = kh (mnl f a Q).d (8 + Q.size) c := fun c => by
    unfold kh
    rw [zop]
    show _ = hd (64 + (20 + ((0 : Nat) : Int)) / 4) (0 % 256) (20 + ((0 : Nat) : Int) + ((8 + Q.size : Nat) : Int)) (0 / 256 % 65536) (top2 (0 / 16777216)) 64 1 c f a ByteArray.empty
    rw [show (0 : Int) / 16777216 = 0 by rfl, et, show (64 + (20 + ((0 : Nat) : Int)) / 4 : Int) = 69 by rfl, show (0 % 256 : Int) = 0 by rfl, show (0 / 256 % 65536 : Int) = 0 by rfl, show (20 + ((0 : Nat) : Int) + ((8 + Q.size : Nat) : Int)) = 20 + (8 + (Q.size : Int)) by omega]
  have es : ∀ x c, (kh (mnl f a Q).d (lbx (mnl f a Q) x).size c ++ (lbx (mnl f a Q) x ++ (mnl f a Q).d.ta)).size ≤ 65535 := fun x c => by
    simp only [ByteArray.size_append, zta]; unfold kh; rw [hd_size, ez, zop]; simp; omega
  have hb : ∀ x, (mnl f a Q).d.op.size + (lbx (mnl f a Q) x).size ≤ 65515 := fun x => by rw [ez, zop]; omega
  have P0 := khx_parts H (by rw [zop]) (lbx (mnl f a Q) 0) 0 (by decide) (by decide) (hb 0) (es 0 0)
  have hc := kcs_bd (mnl f a Q).d (lbx (mnl f a Q) 0).size
  have P1 := khx_parts H (by rw [zop]) (lbx (mnl f a Q) 0) _ hc.1 hc.2 (hb 0) (es 0 _)
  have e0 : hd 69 0 (20 + (8 + (Q.size : Int))) 0 0 64 1 0 f a ByteArray.empty ++ (w2 2816 ++ l4 0 ++ w2 0 ++ Q) = kh (mnl f a Q).d (lbx (mnl f a Q) 0).size 0 ++ (lbx (mnl f a Q) 0 ++ (mnl f a Q).d.ta) := by
    rw [eb, ek, zta, ez]; simp
  have ep : ∀ c c' (r : ByteArray), put (kh (mnl f a Q).d (lbx (mnl f a Q) 0).size c ++ r) 10 (w2 c') = kh (mnl f a Q).d (lbx (mnl f a Q) 0).size c' ++ r := fun c c' r => hd_put10 _ _ _ _ _ _ _ _ _ _ _ r c'
  rw [e0, P0.2.2.2.2.2.2.2.2.2.1, ep]
  generalize hC : kcs (mnl f a Q).d (lbx (mnl f a Q) 0).size = C at *
  have e20 : 20 + ((mnl f a Q).d.op.size : Int) + 2 = ((kh (mnl f a Q).d (lbx (mnl f a Q) 0).size C).size : Int) + 2 := by unfold kh; rw [hd_size]; omega
  unfold sld
  rw [P1.2.2.2.1, if_neg (by show ¬ (1 : Int) = 17; decide), if_neg (by show ¬ (1 : Int) = 6; decide), if_pos (by show (1 : Int) = 1; rfl), P1.2.2.1, P1.2.1, e20, put_append _ _ _ _ (by decide), put_append_l _ _ _ _ (by decide) (by rw [ez, w2_size]; omega), lbx_put, lbx_sum _ _ (by rw [zre, zqu]; omega), ← lbd_eq]
  unfold lfr
  rw [kwh_eq, lbd_size, ez, zre, zqu, ← hC, ez]
  unfold kcs
  rw [show 4 + 4 + Q.size = 8 + Q.size by omega]
end Go.Proofs.YthiljpbodmajaabGreat
