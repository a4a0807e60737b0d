/-
  PLAIN MATHEMATICS: a datagram's frame is one that Check lets pass; what the box makes of it is the frame of the datagram that the box would have sent.
-/
import Derived.Test.YthiljpbodmajaaaGreatKepb
import Derived.Test.YthiljpbodmajaaaGreatPlain
import Derived.Test.YthiljpbodmajaaaGreatKepk
import Derived.Deep.DeepCutAuto
namespace Go.Proofs.YthiljpbodmajaaaGreat
open Plain
set_option linter.unusedVariables false

theorem w2_zero_blk (a c : ByteArray) (x i : Int) (hi : i = (a.size : Int)) : blk (a ++ w2 x ++ c) i = a ++ w2 0 ++ c := put_mid a (w2 x) c (w2 0) i hi (by simp [w2_size])
theorem bt_hole (P T : ByteArray) (X Y i : Int) (h : i < (P.size : Int) ∨ (P.size : Int) + 2 ≤ i) : bt (P ++ w2 X ++ T) i = bt (P ++ w2 Y ++ T) i := by
  rcases h with h | h
  · rw [bt_append_l _ T _ (by rw [ByteArray.size_append]; omega), bt_append_l P _ _ h, bt_append_l _ T _ (by rw [ByteArray.size_append]; omega), bt_append_l P _ _ h]
  · rw [bt_append_r _ T _ (by rw [ByteArray.size_append, w2_size]; omega), bt_append_r _ T _ (by rw [ByteArray.size_append, w2_size]; omega)]
    simp only [ByteArray.size_append, w2_size]
/-- a header's checksum is what it must be -/
theorem hd_hsv (v u n x f t p c sa da : Int) (o r : ByteArray) (hv : v % 16 * 4 = 20 + (o.size : Int)) (v0 : 0 ≤ v) (v1 : v < 256) (ho : o.size ≤ 40) : hsv (hd v u n x f t p c sa da o ++ r) = 65535 - ksm (hd v u n x f t p 0 sa da o) := by
  have e0 : bt (hd v u n x f t p c sa da o ++ r) 0 = v := hd_bt0 v u n x f t p c sa da o r v0 v1
  have e1 : hdv (hd v u n x f t p c sa da o ++ r) = 20 + (o.size : Int) := by unfold hdv; rw [e0, hv]
  unfold hsv
  rw [e1, hd_self v u n x f t p c sa da o r _ rfl]
  have e2 : blk (hd v u n x f t p c sa da o) 10 = hd v u n x f t p 0 sa da o := hd_put10' v u n x f t p c sa da o 0
  rw [e2]
  unfold sumv
  rw [if_pos (by rw [hd_size]; omega)]
  rfl
section
variable {d : Dg} (D : Dgok d)
include D
theorem Dgok.prb : 0 ≤ d.pr ∧ d.pr < 256 := by rcases D.pr with ⟨h, _⟩ | ⟨h, _⟩ | ⟨h, _⟩ <;> omega
theorem Dgok.hv : (64 + (20 + (d.op.size : Int)) / 4) % 16 * 4 = 20 + (d.op.size : Int) ∧ 64 ≤ 64 + (20 + (d.op.size : Int)) / 4 ∧ 64 + (20 + (d.op.size : Int)) / 4 < 73 := by
  have := D.op; have := D.o4; omega
end
/-- the frame of a body b -/
theorem kwh_eq (d : Dg) (b : ByteArray) : kwh d b = kh d b.size (65535 - ksm (kh d b.size 0)) ++ (b ++ d.ta) := by unfold kwh; rw [ByteArray.append_assoc]
theorem kwh_parts {d : Dg} (D : Dgok d) (b : ByteArray) (hb : d.op.size + b.size ≤ 65515) (hs : (kwh d b).size ≤ 65535) :
    Fits (kwh d b) ∧ hdv (kwh d b) = 20 + (d.op.size : Int) ∧ bdy (kwh d b) = b ∧ bt (kwh d b) 9 = d.pr ∧ bt (kwh d b) 8 = d.tl ∧ wd (kwh d b) 2 = 20 + (d.op.size : Int) + b.size ∧ lg (kwh d b) 12 = d.sa ∧ lg (kwh d b) 16 = d.da ∧ wd (kwh d b) 10 = hsv (kwh d b) ∧ partB (kwh d b) = false ∧ prt (kwh d b) 12 20 = l4 d.sa ++ l4 d.da := by
  have hv := D.hv
  have hp := D.prb
  have ho := D.op
  have hk := ksm_bd (kh d b.size 0)
  have ht2 := top2_ok (d.bi / 16777216)
  have e0 : bt (kwh d b) 0 = 64 + (20 + (d.op.size : Int)) / 4 := by rw [kwh_eq]; exact hd_bt0 _ _ _ _ _ _ _ _ _ _ _ _ (by omega) (by omega)
  have e2 : wd (kwh d b) 2 = 20 + (d.op.size : Int) + b.size := by rw [kwh_eq]; exact hd_tot _ _ _ _ _ _ _ _ _ _ _ _ (by omega) (by omega)
  have eh : hdv (kwh d b) = 20 + (d.op.size : Int) := by unfold hdv; rw [e0]; exact hv.1
  have ez : (kwh d b).size = 20 + d.op.size + b.size + d.ta.size := by unfold kwh; simp only [ByteArray.size_append]; unfold kh; rw [hd_size]
  have ev : ver (kwh d b) = 4 := by unfold ver; rw [e0]; omega
  have eb : bdy (kwh d b) = b := by
    unfold bdy
    rw [eh, e2, kwh_eq]
    exact hd_body _ _ _ _ _ _ _ _ _ _ _ b d.ta _ _ rfl rfl
  refine ⟨⟨by omega, hs, ev, by omega, by omega, by omega⟩, eh, eb, ?_, ?_, e2, ?_, ?_, ?_, ?_, ?_⟩
  · rw [kwh_eq]; exact hd_bt9 _ _ _ _ _ _ _ _ _ _ _ _ hp.1 hp.2
  · rw [kwh_eq]; exact hd_bt8 _ _ _ _ _ _ _ _ _ _ _ _ D.t0 D.t1
  · rw [kwh_eq]; exact hd_lg12 _ _ _ _ _ _ _ _ _ _ _ _ D.s0 D.s1
  · rw [kwh_eq]; exact hd_lg16 _ _ _ _ _ _ _ _ _ _ _ _ D.d0 D.d1
  · rw [kwh_eq]
    have h1 : wd (kh d b.size (65535 - ksm (kh d b.size 0)) ++ (b ++ d.ta)) 10 = 65535 - ksm (kh d b.size 0) := hd_wd10 _ _ _ _ _ _ _ _ _ _ _ _ (by omega) (by omega)
    rw [h1]
    exact (hd_hsv _ _ _ _ _ _ _ _ _ _ _ _ hv.1 (by omega) (by omega) (by omega)).symm
  · have h6 : wd (kwh d b) 6 = top2 (d.bi / 16777216) := by rw [kwh_eq]; exact hd_wd6 _ _ _ _ _ _ _ _ _ _ _ _ ht2.1 ht2.2.1
    unfold partB; rw [h6, ht2.2.2]; rfl
  · rw [kwh_eq]; exact hd_ends _ _ _ _ _ _ _ _ _ _ _ _
theorem kwh_hdrv {d : Dg} (D : Dgok d) (b : ByteArray) (hb : d.op.size + b.size ≤ 65515) (hs : (kwh d b).size ≤ 65535) (us : usB d.sa = true) (ud : usB d.da = true) : hdrv (kwh d b) = 0 := by
  obtain ⟨F, e1, e2, e3, e4, e5, e6, e7, e8, e9, e10⟩ := kwh_parts D b hb hs
  have hf : fitsB (kwh d b) = true := by simp only [fitsB, decide_eq_true_eq]; exact ⟨F.n20, F.n64, F.v4, F.h20, F.ht, F.tn⟩
  unfold hdrv
  rw [hf, e6, e7, us, ud, e9, e8]
  simp
/-- UDP's checksum field, and the rest -/
theorem kud_check (d : Dg) (n : Int) (s : ByteArray) (F : Fits s) (hE : prt s 12 20 = l4 d.sa ++ l4 d.da) (h0 : 8 ≤ n) (h1 : n ≤ 8 + (d.tx.size : Int)) (ht : d.tx.size ≤ 65495) (hB : bdy s = kud d n) :
    wd (bdy s) 4 = n ∧ ((bdy s).size : Int) = 8 + d.tx.size ∧ (d.ba = true → wd (bdy s) 6 = 0) ∧ (d.ba = false → wd (bdy s) 6 = uds s ∧ ¬ wd (bdy s) 6 = 0) ∧ uds s = (if kuc d n = 0 then 65535 else kuc d n) := by
  have hs := ksm_bd (l4 d.sa ++ l4 d.da ++ w2 17 ++ w2 n ++ prt (ku0 d n) 0 n)
  have hc : 0 ≤ (if kuc d n = 0 then 65535 else kuc d n) ∧ (if kuc d n = 0 then 65535 else kuc d n) < 65536 ∧ ¬ (if kuc d n = 0 then 65535 else kuc d n) = 0 := by unfold kuc; split <;> omega
  generalize hC : (if kuc d n = 0 then 65535 else kuc d n) = C at hc
  -- the body, whatever stands in its field
  obtain ⟨X, hX, hx⟩ : ∃ X, kud d n = w2 d.sp ++ w2 d.dp ++ w2 n ++ w2 X ++ d.tx ∧ ((d.ba = true ∧ X = 0) ∨ (d.ba = false ∧ X = C)) := by
    unfold kud
    cases d.ba
    · refine ⟨C, ?_, .inr ⟨rfl, rfl⟩⟩
      rw [if_neg (by simp), hC]
      have := put_mid (w2 d.sp ++ w2 d.dp ++ w2 n) (w2 0) d.tx (w2 C) 6 (by simp [w2_size]) (by simp [w2_size])
      exact this
    · exact ⟨0, by rw [if_pos rfl]; rfl, .inl ⟨rfl, rfl⟩⟩
  have x0 : 0 ≤ X ∧ X < 65536 := by rcases hx with ⟨_, h⟩ | ⟨_, h⟩ <;> omega
  have e4 : wd (bdy s) 4 = n := by
    rw [hB, hX]
    have := wd_mid (w2 d.sp ++ w2 d.dp) (w2 X ++ d.tx) n 4 (by simp [w2_size]) (by omega) (by omega)
    simpa [ByteArray.append_assoc] using this
  have e6 : wd (bdy s) 6 = X := by
    rw [hB, hX]
    exact wd_mid (w2 d.sp ++ w2 d.dp ++ w2 n) d.tx X 6 (by simp [w2_size]) x0.1 x0.2
  have ez : ((bdy s).size : Int) = 8 + d.tx.size := by rw [hB, hX]; simp only [ByteArray.size_append, w2_size]; omega
  have eu : uds s = C := by
    have hz : (prt (bdy s) 0 n).size = n.toNat := by rw [prt_size]; omega
    have hblk : blk (prt (bdy s) 0 n) 6 = prt (ku0 d n) 0 n := by
      apply bt_ext
      · rw [blk_size _ _ (by omega) (by rw [hz]; omega), hz, prt_size, ku0_size]; omega
      · intro i hi
        rw [blk_size _ _ (by omega) (by rw [hz]; omega), hz] at hi
        unfold blk
        rw [bt_put _ _ _ _ (by omega) (by rw [hz, w2_size]; omega), w2_size, bt_prt (ku0 d n) 0 n i (by omega) (by omega) (by omega)]
        have hku : ku0 d n = w2 d.sp ++ w2 d.dp ++ w2 n ++ w2 0 ++ d.tx := rfl
        have hsz : ((w2 d.sp ++ w2 d.dp ++ w2 n).size : Int) = 6 := by simp [w2_size]
        split
        · rename_i h
          rw [hku, bt_mid _ (w2 0) _ (0 + (i : Int)) ((i : Int) - 6) (by rw [hsz]; omega) (by omega) (by rw [w2_size]; omega)]
        · rename_i h
          rw [bt_prt (bdy s) 0 n i (by omega) (by omega) (by omega), hB, hX, hku]
          exact bt_hole _ _ X 0 _ (by rw [hsz]; omega)
    have hck : cks s (prt (bdy s) 0 n) 17 6 = kuc d n := by
      unfold cks
      rw [hblk, hz, show ((n.toNat : Nat) : Int) = n by omega]
      unfold ahd
      rw [hE]
      rfl
    unfold uds udpv
    rw [e4, hck, hC]
  refine ⟨e4, ez, fun h => ?_, fun h => ?_, by rw [eu]⟩
  · rcases hx with ⟨_, e⟩ | ⟨g, _⟩
    · rw [e6, e]
    · rw [h] at g; cases g
  · rcases hx with ⟨g, _⟩ | ⟨_, e⟩
    · rw [h] at g; cases g
    · rw [e6, e, eu]; exact ⟨rfl, hc.2.2⟩
end Go.Proofs.YthiljpbodmajaaaGreat
namespace Go.Proofs.YthiljpbodmajaaaGreat
open Plain
set_option linter.unusedVariables false

theorem put_append_l (s z t : ByteArray) (i : Int) (h0 : 0 ≤ i) (h1 : i + (t.size : Int) ≤ s.size) : put (s ++ z) i t = put s i t ++ z := by
  apply bt_ext
  · rw [put_size _ _ _ h0 (by rw [ByteArray.size_append]; omega), ByteArray.size_append, ByteArray.size_append, put_size _ _ _ h0 h1]
  · intro j hj
    rw [bt_put _ _ _ _ h0 (by rw [ByteArray.size_append]; omega)]
    have hz := put_size s i t h0 h1
    by_cases c : (j : Int) < s.size
    · rw [bt_append_l (put s i t) z _ (by rw [hz]; exact c), bt_put _ _ _ _ h0 h1, bt_append_l s z _ c]
    · rw [if_neg (by omega), bt_append_r s z _ (by omega), bt_append_r (put s i t) z _ (by rw [hz]; omega), hz]
/-- into the body of a frame -/
theorem put_body (H b z t : ByteArray) (i j : Int) (hi : i = (H.size : Int) + j) (h0 : 0 ≤ j) (h1 : j + (t.size : Int) ≤ b.size) : put (H ++ (b ++ z)) i t = H ++ (put b j t ++ z) := by
  subst hi
  rw [put_append H (b ++ z) j t h0, put_append_l b z t j h0 h1]
/-- UDP's length -/
def kn (d : Dg) : Int := 8 + (d.tx.size : Int) - d.sr
/-- what stands ahead of and behind the checksum field of a body -/
def kbp (d : Dg) : ByteArray := if d.pr = 17 then w2 d.sp ++ w2 d.dp ++ w2 (kn d) else if d.pr = 6 then w2 d.sp ++ w2 d.dp ++ prt d.md 0 8 ++ b1 ((5 + d.sr) * 16 + bt d.md 8 % 16) ++ prt d.md 9 12 else b1 d.kd ++ b1 0
def kbs (d : Dg) : ByteArray := if d.pr = 17 then d.tx else if d.pr = 6 then prt d.md 12 14 ++ d.tx else (if 8 < d.kd then w2 (kid d) ++ prt d.md 0 2 ++ prt d.md 2 14 else w2 (kid d) ++ prt d.md 0 2) ++ d.tx
def kbx (d : Dg) (X : Int) : ByteArray := kbp d ++ w2 X ++ kbs d
/-- the checksum that a body must have -/
def kck (d : Dg) : Int := if d.pr = 17 then (if kuc d (kn d) = 0 then 65535 else kuc d (kn d)) else if d.pr = 6 then 65535 - ksm (l4 d.sa ++ l4 d.da ++ w2 6 ++ w2 (kt0 d).size ++ kt0 d) else 65535 - ksm (ki0 d)
def kfd (d : Dg) : Int := if d.pr = 17 ∧ d.ba = true then 0 else kck d
/-- where the field stands -/
def kfl (d : Dg) : Int := if d.pr = 17 then 6 else if d.pr = 6 then 16 else 2
theorem kck_bd (d : Dg) : 0 ≤ kck d ∧ kck d < 65536 := by
  have h1 := ksm_bd (l4 d.sa ++ l4 d.da ++ w2 17 ++ w2 (kn d) ++ prt (ku0 d (kn d)) 0 (kn d))
  have h2 := ksm_bd (l4 d.sa ++ l4 d.da ++ w2 6 ++ w2 (kt0 d).size ++ kt0 d)
  have h3 := ksm_bd (ki0 d)
  unfold kck kuc
  split
  · split <;> omega
  · split <;> omega
section
variable {d : Dg} (D : Dgok d)
include D
theorem kbp_size : ((kbp d).size : Int) = kfl d := by
  have h := D.md
  have zM : (prt d.md 0 8).size = 8 := by rw [prt_size]; omega
  have zN : (prt d.md 9 12).size = 3 := by rw [prt_size]; omega
  unfold kbp kfl
  split
  · simp [w2_size]
  · split
    · simp [w2_size, b1_size, zM, zN]
    · simp [b1_size]
theorem kbd_eq : kbd d = kbx d (kfd d) := by
  by_cases c1 : d.pr = 17
  · have e0 : kbd d = kud d (kn d) := by unfold kbd; rw [if_pos c1]; rfl
    have e3 : kbp d = w2 d.sp ++ w2 d.dp ++ w2 (kn d) := by unfold kbp; rw [if_pos c1]
    have e4 : kbs d = d.tx := by unfold kbs; rw [if_pos c1]
    have e5 : kck d = (if kuc d (kn d) = 0 then 65535 else kuc d (kn d)) := by unfold kck; rw [if_pos c1]
    unfold kbx
    rw [e0, e3, e4]
    cases hb : d.ba
    · have e2 : kfd d = kck d := by unfold kfd; rw [if_neg (by rw [hb]; simp)]
      have e1 : kud d (kn d) = put (ku0 d (kn d)) 6 (w2 (kck d)) := by unfold kud; rw [hb, e5]; rfl
      rw [e1, e2]
      exact put_mid (w2 d.sp ++ w2 d.dp ++ w2 (kn d)) (w2 0) d.tx (w2 (kck d)) 6 (by simp [w2_size]) (by simp [w2_size])
    · have e2 : kfd d = 0 := by unfold kfd; rw [if_pos ⟨c1, hb⟩]
      have e1 : kud d (kn d) = ku0 d (kn d) := by unfold kud; rw [hb]; rfl
      rw [e1, e2]
      rfl
  · by_cases c2 : d.pr = 6
    · have e0 : kbd d = ktc d := by unfold kbd; rw [if_neg c1, if_pos c2]
      have e3 : kbp d = w2 d.sp ++ w2 d.dp ++ prt d.md 0 8 ++ b1 ((5 + d.sr) * 16 + bt d.md 8 % 16) ++ prt d.md 9 12 := by unfold kbp; rw [if_neg c1, if_pos c2]
      have e4 : kbs d = prt d.md 12 14 ++ d.tx := by unfold kbs; rw [if_neg c1, if_pos c2]
      have e5 : kfd d = 65535 - ksm (l4 d.sa ++ l4 d.da ++ w2 6 ++ w2 (kt0 d).size ++ kt0 d) := by unfold kfd kck; rw [if_neg (by omega), if_neg c1, if_pos c2]
      have e6 : kt0 d = kbp d ++ w2 0 ++ kbs d := by rw [e3, e4]; unfold kt0; simp only [ByteArray.append_assoc]
      unfold kbx
      rw [e0, e5]
      unfold ktc
      generalize 65535 - ksm (l4 d.sa ++ l4 d.da ++ w2 6 ++ w2 (kt0 d).size ++ kt0 d) = C
      rw [e6]
      exact put_mid (kbp d) (w2 0) (kbs d) (w2 C) 16 (by rw [kbp_size D]; unfold kfl; rw [if_neg c1, if_pos c2]) (by simp [w2_size])
    · have e0 : kbd d = kic d := by unfold kbd; rw [if_neg c1, if_neg c2]
      have e3 : kbp d = b1 d.kd ++ b1 0 := by unfold kbp; rw [if_neg c1, if_neg c2]
      have e4 : kbs d = (if 8 < d.kd then w2 (kid d) ++ prt d.md 0 2 ++ prt d.md 2 14 else w2 (kid d) ++ prt d.md 0 2) ++ d.tx := by unfold kbs; rw [if_neg c1, if_neg c2]
      have e5 : kfd d = 65535 - ksm (ki0 d) := by unfold kfd kck; rw [if_neg (by omega), if_neg c1, if_neg c2]
      have e6 : ki0 d = kbp d ++ w2 0 ++ kbs d := by rw [e3, e4]; unfold ki0; split <;> simp only [ByteArray.append_assoc]
      unfold kbx
      rw [e0, e5]
      unfold kic
      generalize 65535 - ksm (ki0 d) = C
      rw [e6]
      exact put_mid (kbp d) (w2 0) (kbs d) (w2 C) 2 (by rw [kbp_size D]; unfold kfl; rw [if_neg c1, if_neg c2]) (by simp [w2_size])
/-- a frame's bytes: the datagram's, with c and X in the checksum fields -/
def kfx (d : Dg) (c X : Int) : ByteArray := kh d (kbx d X).size c ++ (kbx d X ++ d.ta)
theorem kbx_size (X : Int) : ((kbx d X).size : Int) = kfl d + 2 + (kbs d).size := by unfold kbx; rw [ByteArray.size_append, ByteArray.size_append, w2_size]; have := kbp_size D; omega
end
end Go.Proofs.YthiljpbodmajaaaGreat
namespace Go.Proofs.YthiljpbodmajaaaGreat
open Plain
set_option linter.unusedVariables false

/-- a header's checksum as it must be -/
def kcs (d : Dg) (n : Nat) : Int := 65535 - ksm (kh d n 0)
theorem kcs_bd (d : Dg) (n : Nat) : 0 ≤ kcs d n ∧ kcs d n < 65536 := by have := ksm_bd (kh d n 0); unfold kcs; omega
theorem kbx_len (d : Dg) (X Y : Int) : (kbx d X).size = (kbx d Y).size := by unfold kbx; simp only [ByteArray.size_append, w2_size]
theorem kfr_eq {d : Dg} (D : Dgok d) : kfr d = kfx d (kcs d (kbx d (kfd d)).size) (kfd d) := by
  unfold kfr kfx kcs
  rw [kwh_eq, kbd_eq D]
theorem kfx_parts {d : Dg} (D : Dgok d) (c X : Int) (c0 : 0 ≤ c) (c1 : c < 65536) (hb : d.op.size + (kbx d X).size ≤ 65515) (hs : (kfx d c X).size ≤ 65535) :
    Fits (kfx d c X) ∧ hdv (kfx d c X) = 20 + (d.op.size : Int) ∧ bdy (kfx d c X) = kbx d X ∧ bt (kfx d c X) 9 = d.pr ∧ bt (kfx d c X) 8 = d.tl ∧ wd (kfx d c X) 2 = 20 + (d.op.size : Int) + (kbx d X).size ∧ lg (kfx d c X) 12 = d.sa ∧ lg (kfx d c X) 16 = d.da ∧ wd (kfx d c X) 10 = c ∧ hsv (kfx d c X) = kcs d (kbx d X).size ∧ partB (kfx d c X) = false ∧ prt (kfx d c X) 12 20 = l4 d.sa ++ l4 d.da := by
  have hv := D.hv
  have hp := D.prb
  have ho := D.op
  have ht2 := top2_ok (d.bi / 16777216)
  generalize hB : kbx d X = b at *
  have hK : kfx d c X = kh d b.size c ++ (b ++ d.ta) := by unfold kfx; rw [hB]
  rw [hK] at hs ⊢
  have e0 : bt (kh d b.size c ++ (b ++ d.ta)) 0 = 64 + (20 + (d.op.size : Int)) / 4 := hd_bt0 _ _ _ _ _ _ _ _ _ _ _ _ (by omega) (by omega)
  have e2 : wd (kh d b.size c ++ (b ++ d.ta)) 2 = 20 + (d.op.size : Int) + b.size := hd_tot _ _ _ _ _ _ _ _ _ _ _ _ (by omega) (by omega)
  have eh : hdv (kh d b.size c ++ (b ++ d.ta)) = 20 + (d.op.size : Int) := by unfold hdv; rw [e0]; exact hv.1
  have ez : (kh d b.size c ++ (b ++ d.ta)).size = 20 + d.op.size + b.size + d.ta.size := by simp only [ByteArray.size_append]; unfold kh; rw [hd_size]; omega
  have ev : ver (kh d b.size c ++ (b ++ d.ta)) = 4 := by unfold ver; rw [e0]; omega
  refine ⟨⟨by omega, hs, ev, by omega, by omega, by omega⟩, eh, ?_, ?_, ?_, e2, ?_, ?_, ?_, ?_, ?_, ?_⟩
  · unfold bdy
    rw [eh, e2]
    exact hd_body _ _ _ _ _ _ _ _ _ _ _ b d.ta _ _ rfl rfl
  · exact hd_bt9 _ _ _ _ _ _ _ _ _ _ _ _ hp.1 hp.2
  · exact hd_bt8 _ _ _ _ _ _ _ _ _ _ _ _ D.t0 D.t1
  · exact hd_lg12 _ _ _ _ _ _ _ _ _ _ _ _ D.s0 D.s1
  · exact hd_lg16 _ _ _ _ _ _ _ _ _ _ _ _ D.d0 D.d1
  · exact hd_wd10 _ _ _ _ _ _ _ _ _ _ _ _ c0 c1
  · exact hd_hsv _ _ _ _ _ _ _ _ _ _ _ _ hv.1 (by omega) (by omega) (by omega)
  · have h6 : wd (kh d b.size c ++ (b ++ d.ta)) 6 = top2 (d.bi / 16777216) := hd_wd6 _ _ _ _ _ _ _ _ _ _ _ _ ht2.1 ht2.2.1
    unfold partB; rw [h6, ht2.2.2]; rfl
  · exact hd_ends _ _ _ _ _ _ _ _ _ _ _ _

/-- UDP's checksum, whatever stands in its field -/
theorem uds_of (d : Dg) (n X : Int) (s : ByteArray) (hE : prt s 12 20 = l4 d.sa ++ l4 d.da) (h0 : 8 ≤ n) (h1 : n ≤ 8 + (d.tx.size : Int)) (ht : d.tx.size ≤ 65495) (x0 : 0 ≤ X) (x1 : X < 65536) (hB : bdy s = w2 d.sp ++ w2 d.dp ++ w2 n ++ w2 X ++ d.tx) :
    wd (bdy s) 4 = n ∧ wd (bdy s) 6 = X ∧ uds s = (if kuc d n = 0 then 65535 else kuc d n) := by
  have e4 : wd (bdy s) 4 = n := by
    rw [hB]
    have := wd_mid (w2 d.sp ++ w2 d.dp) (w2 X ++ d.tx) n 4 (by simp [w2_size]) (by omega) (by omega)
    simpa [ByteArray.append_assoc] using this
  have e6 : wd (bdy s) 6 = X := by
    rw [hB]
    exact wd_mid (w2 d.sp ++ w2 d.dp ++ w2 n) d.tx X 6 (by simp [w2_size]) x0 x1
  have ez : ((bdy s).size : Int) = 8 + d.tx.size := by rw [hB]; simp only [ByteArray.size_append, w2_size]; omega
  refine ⟨e4, e6, ?_⟩
  have hz : (prt (bdy s) 0 n).size = n.toNat := by rw [prt_size]; omega
  have hblk : blk (prt (bdy s) 0 n) 6 = prt (ku0 d n) 0 n := by
    apply bt_ext
    · rw [blk_size _ _ (by omega) (by rw [hz]; omega), hz, prt_size, ku0_size]; omega
    · intro i hi
      rw [blk_size _ _ (by omega) (by rw [hz]; omega), hz] at hi
      unfold blk
      rw [bt_put _ _ _ _ (by omega) (by rw [hz, w2_size]; omega), w2_size, bt_prt (ku0 d n) 0 n i (by omega) (by omega) (by omega)]
      have hku : ku0 d n = w2 d.sp ++ w2 d.dp ++ w2 n ++ w2 0 ++ d.tx := rfl
      have hsz : ((w2 d.sp ++ w2 d.dp ++ w2 n).size : Int) = 6 := by simp [w2_size]
      split
      · rename_i h
        rw [hku, bt_mid _ (w2 0) _ (0 + (i : Int)) ((i : Int) - 6) (by rw [hsz]; omega) (by omega) (by rw [w2_size]; omega)]
      · rename_i h
        rw [bt_prt (bdy s) 0 n i (by omega) (by omega) (by omega), hB, hku]
        exact bt_hole _ _ X 0 _ (by rw [hsz]; omega)
  have hck : cks s (prt (bdy s) 0 n) 17 6 = kuc d n := by
    unfold cks
    rw [hblk, hz, show ((n.toNat : Nat) : Int) = n by omega]
    unfold ahd
    rw [hE]
    rfl
  unfold uds udpv
  rw [e4, hck]
section
variable {d : Dg} (D : Dgok d)
include D
/-- the checksum of a body is what kck says -/
theorem kfx_udp (c X : Int) (c0 : 0 ≤ c) (c1 : c < 65536) (x0 : 0 ≤ X) (x1 : X < 65536) (hb : d.op.size + (kbx d X).size ≤ 65515) (hs : (kfx d c X).size ≤ 65535) (hp : d.pr = 17) :
    wd (bdy (kfx d c X)) 4 = kn d ∧ wd (bdy (kfx d c X)) 6 = X ∧ uds (kfx d c X) = kck d := by
  obtain ⟨F, e1, e2, e3, e4, e5, e6, e7, e8, e9, e10, e11⟩ := kfx_parts D c X c0 c1 hb hs
  have hr : 0 ≤ d.sr ∧ d.sr ≤ d.tx.size := by rcases D.pr with ⟨_, h, h'⟩ | ⟨h, _⟩ | ⟨h, _⟩ <;> first | exact ⟨h, h'⟩ | omega
  have ek : kck d = (if kuc d (kn d) = 0 then 65535 else kuc d (kn d)) := by unfold kck; rw [if_pos hp]
  rw [ek]
  refine uds_of d (kn d) X _ e11 (by unfold kn; omega) (by unfold kn; omega) (by have := D.tx; omega) x0 x1 ?_
  rw [e2]; unfold kbx kbp kbs; rw [if_pos hp, if_pos hp]
theorem kfx_tcp (c X : Int) (c0 : 0 ≤ c) (c1 : c < 65536) (hb : d.op.size + (kbx d X).size ≤ 65515) (hs : (kfx d c X).size ≤ 65535) (hp : d.pr = 6) : cks (kfx d c X) (bdy (kfx d c X)) 6 16 = kck d := by
  obtain ⟨F, e1, e2, e3, e4, e5, e6, e7, e8, e9, e10, e11⟩ := kfx_parts D c X c0 c1 hb hs
  have ek : kck d = 65535 - ksm (l4 d.sa ++ l4 d.da ++ w2 6 ++ w2 (kt0 d).size ++ kt0 d) := by unfold kck; rw [if_neg (by omega), if_pos hp]
  have e3' : kbp d = w2 d.sp ++ w2 d.dp ++ prt d.md 0 8 ++ b1 ((5 + d.sr) * 16 + bt d.md 8 % 16) ++ prt d.md 9 12 := by unfold kbp; rw [if_neg (by omega), if_pos hp]
  have e4' : kbs d = prt d.md 12 14 ++ d.tx := by unfold kbs; rw [if_neg (by omega), if_pos hp]
  have e6' : kt0 d = kbp d ++ w2 0 ++ kbs d := by rw [e3', e4']; unfold kt0; simp only [ByteArray.append_assoc]
  have ez : (kbx d X).size = (kt0 d).size := by rw [e6']; unfold kbx; simp only [ByteArray.size_append, w2_size]
  have eb : blk (kbx d X) 16 = kt0 d := by
    rw [e6']
    exact w2_zero_blk (kbp d) (kbs d) X 16 (by rw [kbp_size D]; unfold kfl; rw [if_neg (by omega), if_pos hp])
  rw [e2, ek]
  unfold cks ahd
  rw [e11, eb, ez]
  rfl
theorem kfx_icmp (c X : Int) (c0 : 0 ≤ c) (c1 : c < 65536) (hb : d.op.size + (kbx d X).size ≤ 65515) (hs : (kfx d c X).size ≤ 65535) (hp : d.pr = 1) : sumv (blk (bdy (kfx d c X)) 2) = kck d := by
  obtain ⟨F, e1, e2, e3, e4, e5, e6, e7, e8, e9, e10, e11⟩ := kfx_parts D c X c0 c1 hb hs
  have ek : kck d = 65535 - ksm (ki0 d) := by unfold kck; rw [if_neg (by omega), if_neg (by omega)]
  have e3' : kbp d = b1 d.kd ++ b1 0 := by unfold kbp; rw [if_neg (by omega), if_neg (by omega)]
  have e4' : kbs d = (if 8 < d.kd then w2 (kid d) ++ prt d.md 0 2 ++ prt d.md 2 14 else w2 (kid d) ++ prt d.md 0 2) ++ d.tx := by unfold kbs; rw [if_neg (by omega), if_neg (by omega)]
  have e6' : ki0 d = kbp d ++ w2 0 ++ kbs d := by rw [e3', e4']; unfold ki0; split <;> simp only [ByteArray.append_assoc]
  have eb : blk (kbx d X) 2 = ki0 d := by
    rw [e6']
    exact w2_zero_blk (kbp d) (kbs d) X 2 (by rw [kbp_size D]; unfold kfl; rw [if_neg (by omega), if_neg (by omega)])
  have ez : (kbx d X).size = (ki0 d).size := by rw [e6']; unfold kbx; simp only [ByteArray.size_append, w2_size]
  rw [e2, ek, eb]
  unfold sumv
  rw [if_pos (by omega)]
  rfl
end
end Go.Proofs.YthiljpbodmajaaaGreat
namespace Go.Proofs.YthiljpbodmajaaaGreat
open Plain
set_option linter.unusedVariables false

section
variable {d : Dg} (D : Dgok d)
include D
theorem kbx_big (X : Int) : d.op.size + (kbx d X).size ≤ 65515 ∧ 8 ≤ (kbx d X).size := by
  have := kbd_size D
  rw [kbd_eq D] at this
  rw [kbx_len d X (kfd d)]
  exact this
theorem kfx_hdrv (X : Int) (hs : (kfx d (kcs d (kbx d X).size) X).size ≤ 65535) (us : usB d.sa = true) (ud : usB d.da = true) : hdrv (kfx d (kcs d (kbx d X).size) X) = 0 := by
  have hc := kcs_bd d (kbx d X).size
  obtain ⟨F, e1, e2, e3, e4, e5, e6, e7, e8, e9, e10, e11⟩ := kfx_parts D _ X hc.1 hc.2 (kbx_big D X).1 hs
  have hf : fitsB (kfx d (kcs d (kbx d X).size) X) = true := by simp only [fitsB, decide_eq_true_eq]; exact ⟨F.n20, F.n64, F.v4, F.h20, F.ht, F.tn⟩
  unfold hdrv
  rw [hf, e6, e7, us, ud, e10, e8, e9]
  simp
/-- what stands in ICMP's body -/
theorem kfx_query (X : Int) (hp : d.pr = 1) : bt (kbx d X) 0 = d.kd ∧ bt (kbx d X) 1 = 0 ∧ (kbx d X).size = (if 8 < d.kd then 20 else 8) + d.tx.size := by
  have hk : d.kd = 8 ∨ d.kd = 13 ∨ d.kd = 0 ∨ d.kd = 14 := by rcases D.pr with ⟨h, _⟩ | ⟨h, _⟩ | ⟨_, h⟩ <;> first | exact h | omega
  have e3 : kbp d = b1 d.kd ++ b1 0 := by unfold kbp; rw [if_neg (by omega), if_neg (by omega)]
  have e4 : kbs d = (if 8 < d.kd then w2 (kid d) ++ prt d.md 0 2 ++ prt d.md 2 14 else w2 (kid d) ++ prt d.md 0 2) ++ d.tx := by unfold kbs; rw [if_neg (by omega), if_neg (by omega)]
  have h := D.md
  have z1 : (prt d.md 0 2).size = 2 := by rw [prt_size]; omega
  have z2 : (prt d.md 2 14).size = 12 := by rw [prt_size]; omega
  refine ⟨?_, ?_, ?_⟩
  · have := bt_mid1 ByteArray.empty (b1 0 ++ w2 X ++ kbs d) d.kd 0 (by simp) (by omega) (by omega)
    unfold kbx; rw [e3]
    simpa [ByteArray.append_assoc] using this
  · have := bt_mid1 (b1 d.kd) (w2 X ++ kbs d) 0 1 (by simp [b1_size]) (by omega) (by omega)
    unfold kbx; rw [e3]
    simpa [ByteArray.append_assoc] using this
  · unfold kbx; rw [e3, e4]
    split <;> simp only [ByteArray.size_append, b1_size, w2_size, z1, z2] <;> omega
theorem kfr_chk (hs : (kfr d).size ≤ 65535) (us : usB d.sa = true) (ud : usB d.da = true) : chk (kfr d) = 0 := by
  rw [kfr_eq D] at hs ⊢
  have hh := kfx_hdrv D (kfd d) hs us ud
  have hc := kcs_bd d (kbx d (kfd d)).size
  have hk := kck_bd d
  have hf : 0 ≤ kfd d ∧ kfd d < 65536 := by unfold kfd; split <;> omega
  have hbb := kbx_big D (kfd d)
  have hP := kfx_parts D _ (kfd d) hc.1 hc.2 hbb.1 hs
  generalize kcs d (kbx d (kfd d)).size = C at *
  obtain ⟨F, e1, e2, e3, e4, e5, e6, e7, e8, e9, e10, e11⟩ := hP
  unfold chk
  rw [if_pos hh, e3]
  rcases D.pr with ⟨hp, r0, r1⟩ | ⟨hp, r0, r1, r2⟩ | ⟨hp, hkd⟩
  · rw [if_pos hp]
    obtain ⟨u1, u2, u3⟩ := kfx_udp D C (kfd d) hc.1 hc.2 hf.1 hf.2 hbb.1 hs hp
    have ez : ((kbx d (kfd d)).size : Int) = 8 + d.tx.size := by rw [kbx_size D]; unfold kfl kbs; rw [if_pos hp, if_pos hp]; omega
    unfold udc ucase
    rw [show udpv (kfx d C (kfd d)) (prt (bdy (kfx d C (kfd d))) 0 (wd (bdy (kfx d C (kfd d))) 4)) = uds (kfx d C (kfd d)) from rfl, u1, u2, u3, e2]
    rw [if_neg (by omega), if_neg (by unfold kn; omega)]
    by_cases hb : d.ba = true
    · have : kfd d = 0 := by unfold kfd; rw [if_pos ⟨hp, hb⟩]
      rw [this]; simp
    · have : kfd d = kck d := by unfold kfd; rw [if_neg (fun h => hb h.2)]
      rw [this]; simp
  · rw [if_neg (by omega), if_pos hp]
    have u3 := kfx_tcp D C (kfd d) hc.1 hc.2 hbb.1 hs hp
    have e3' : kbp d = w2 d.sp ++ w2 d.dp ++ prt d.md 0 8 ++ b1 ((5 + d.sr) * 16 + bt d.md 8 % 16) ++ prt d.md 9 12 := by unfold kbp; rw [if_neg (by omega), if_pos hp]
    have ek : kfd d = kck d := by unfold kfd; rw [if_neg (by omega)]
    have zM : (prt d.md 0 8).size = 8 := by rw [prt_size]; have := D.md; omega
    have zN : (prt d.md 9 12).size = 3 := by rw [prt_size]; have := D.md; omega
    have zO : (prt d.md 12 14).size = 2 := by rw [prt_size]; have := D.md; omega
    have ez : ((kbx d (kfd d)).size : Int) = 20 + d.tx.size := by rw [kbx_size D]; unfold kfl kbs; rw [if_neg (by omega), if_pos hp, if_neg (by omega), if_pos hp, ByteArray.size_append, zO]; omega
    have hm := bt_bd d.md 8
    have e12 : bt (kbx d (kfd d)) 12 = (5 + d.sr) * 16 + bt d.md 8 % 16 := by
      have := bt_mid1 (w2 d.sp ++ w2 d.dp ++ prt d.md 0 8) (prt d.md 9 12 ++ w2 (kfd d) ++ kbs d) ((5 + d.sr) * 16 + bt d.md 8 % 16) 12 (by simp [w2_size, zM]) (by omega) (by omega)
      unfold kbx; rw [e3']
      simpa [ByteArray.append_assoc] using this
    have e16 : wd (kbx d (kfd d)) 16 = kfd d := wd_mid (kbp d) (kbs d) (kfd d) 16 (by rw [kbp_size D]; unfold kfl; rw [if_neg (by omega), if_pos hp]) hf.1 hf.2
    unfold tcc tcase
    rw [u3, e2, e12, e16]
    rw [if_neg (by omega), if_neg (by omega), ek]
    simp
  · rw [if_neg (by omega), if_neg (by omega), if_pos hp]
    have u3 := kfx_icmp D C (kfd d) hc.1 hc.2 hbb.1 hs hp
    have ek : kfd d = kck d := by unfold kfd; rw [if_neg (by omega)]
    obtain ⟨q1, q2, q3⟩ := kfx_query D (kfd d) hp
    have e16 : wd (kbx d (kfd d)) 2 = kfd d := wd_mid (kbp d) (kbs d) (kfd d) 2 (by rw [kbp_size D]; unfold kfl; rw [if_neg (by omega), if_neg (by omega)]) hf.1 hf.2
    rw [e2] at u3 ⊢
    unfold icv icase
    rw [q1, q2, e16, u3, q3]
    rw [if_neg (by split <;> omega), ek]
    rcases hkd with e | e | e | e <;> simp [e, errB, reqB, repB]
end
end Go.Proofs.YthiljpbodmajaaaGreat
namespace Go.Proofs.YthiljpbodmajaaaGreat
open Plain
set_option linter.unusedVariables false

theorem kfx_put12 (d : Dg) (c X a : Int) : put (kfx d c X) 12 (l4 a) = kfx { d with sa := a } c X := hd_put12 _ _ _ _ _ _ _ _ _ _ _ _ a
theorem kfx_put16 (d : Dg) (c X a : Int) : put (kfx d c X) 16 (l4 a) = kfx { d with da := a } c X := hd_put16 _ _ _ _ _ _ _ _ _ _ _ _ a
theorem kfx_put8 (d : Dg) (c X t : Int) : put (kfx d c X) 8 (b1 t) = kfx { d with tl := t } c X := hd_put8 _ _ _ _ _ _ _ _ _ _ _ _ t
theorem kfx_put10 (d : Dg) (c X c' : Int) : put (kfx d c X) 10 (w2 c') = kfx d c' X := hd_put10 _ _ _ _ _ _ _ _ _ _ _ _ c'
theorem kfx_len (d : Dg) (c X : Int) : (kfx d c X).size = 20 + d.op.size + (kbx d X).size + d.ta.size := by unfold kfx; simp only [ByteArray.size_append]; unfold kh; rw [hd_size]; omega
theorem kh_size (d : Dg) (n : Nat) (c : Int) : ((kh d n c).size : Int) = 20 + d.op.size := by unfold kh; rw [hd_size]; omega
section
variable {d : Dg} (D : Dgok d)
include D
theorem kfx_putf (c X Y i : Int) (hi : i = 20 + (d.op.size : Int) + kfl d) : put (kfx d c X) i (w2 Y) = kfx d c Y := by
  have hb := kbx_size D X
  unfold kfx
  rw [put_body _ (kbx d X) d.ta (w2 Y) i (kfl d) (by rw [kh_size]; exact hi) (by unfold kfl; split <;> (try split) <;> omega) (by rw [w2_size]; omega)]
  have : put (kbx d X) (kfl d) (w2 Y) = kbx d Y := by
    unfold kbx
    exact put_mid (kbp d) (w2 X) (kbs d) (w2 Y) _ (kbp_size D).symm (by simp [w2_size])
  rw [this, kbx_len d X Y]
/-- the source's port -/
theorem kfx_puts (c X x i : Int) (hk : d.pr = 1 → d.kd = 8 ∨ d.kd = 13) (hi : i = 20 + (d.op.size : Int) + (if d.pr = 1 then 4 else 0)) : put (kfx d c X) i (w2 x) = kfx { d with sp := x } c X := by
  have hbig := kbx_big D X
  have key : put (kbx d X) (if d.pr = 1 then 4 else 0) (w2 x) = kbx { d with sp := x } X := by
    rcases D.pr with ⟨hp, r0, r1⟩ | ⟨hp, r0, r1, r2⟩ | ⟨hp, hkd⟩
    · rw [if_neg (by omega)]
      unfold kbx kbp kbs
      simp only [hp, if_pos]
      have := put_mid ByteArray.empty (w2 d.sp) (w2 d.dp ++ w2 (kn d) ++ w2 X ++ d.tx) (w2 x) 0 (by simp) (by simp [w2_size])
      simpa [ByteArray.append_assoc, kn] using this
    · rw [if_neg (by omega)]
      unfold kbx kbp kbs
      simp only [hp]
      have := put_mid ByteArray.empty (w2 d.sp) (w2 d.dp ++ prt d.md 0 8 ++ b1 ((5 + d.sr) * 16 + bt d.md 8 % 16) ++ prt d.md 9 12 ++ w2 X ++ (prt d.md 12 14 ++ d.tx)) (w2 x) 0 (by simp) (by simp [w2_size])
      simpa [ByteArray.append_assoc] using this
    · rw [if_pos hp]
      have h8 := hk hp
      have i1 : kid d = d.sp := by unfold kid; rw [if_pos h8]
      have i2 : kid { d with sp := x } = x := by unfold kid; rw [if_pos h8]
      unfold kbx kbp kbs
      rw [i2, i1]
      simp only [hp]
      rcases h8 with e | e
      · have := put_mid (b1 d.kd ++ b1 0 ++ w2 X) (w2 d.sp) (prt d.md 0 2 ++ d.tx) (w2 x) 4 (by simp [b1_size, w2_size]) (by simp [w2_size])
        simpa [ByteArray.append_assoc, e] using this
      · have := put_mid (b1 d.kd ++ b1 0 ++ w2 X) (w2 d.sp) (prt d.md 0 2 ++ prt d.md 2 14 ++ d.tx) (w2 x) 4 (by simp [b1_size, w2_size]) (by simp [w2_size])
        simpa [ByteArray.append_assoc, e] using this
  have hz : (kbx d X).size = (kbx { d with sp := x } X).size := by
    rw [← key, put_size _ _ _ (by split <;> omega) (by rw [w2_size]; split <;> omega)]
  unfold kfx
  rw [put_body _ (kbx d X) d.ta (w2 x) i (if d.pr = 1 then 4 else 0) (by rw [kh_size]; exact hi) (by split <;> omega) (by rw [w2_size]; split <;> omega), key, hz]
  rfl
/-- the destination's port -/
theorem kfx_putd (c X x i : Int) (hk : d.pr = 1 → d.kd = 0 ∨ d.kd = 14) (hi : i = 20 + (d.op.size : Int) + (if d.pr = 1 then 4 else 2)) : put (kfx d c X) i (w2 x) = kfx { d with dp := x } c X := by
  have hbig := kbx_big D X
  have key : put (kbx d X) (if d.pr = 1 then 4 else 2) (w2 x) = kbx { d with dp := x } X := by
    rcases D.pr with ⟨hp, r0, r1⟩ | ⟨hp, r0, r1, r2⟩ | ⟨hp, hkd⟩
    · rw [if_neg (by omega)]
      unfold kbx kbp kbs
      simp only [hp, if_pos]
      have := put_mid (w2 d.sp) (w2 d.dp) (w2 (kn d) ++ w2 X ++ d.tx) (w2 x) 2 (by simp [w2_size]) (by simp [w2_size])
      simpa [ByteArray.append_assoc, kn] using this
    · rw [if_neg (by omega)]
      unfold kbx kbp kbs
      simp only [hp]
      have := put_mid (w2 d.sp) (w2 d.dp) (prt d.md 0 8 ++ b1 ((5 + d.sr) * 16 + bt d.md 8 % 16) ++ prt d.md 9 12 ++ w2 X ++ (prt d.md 12 14 ++ d.tx)) (w2 x) 2 (by simp [w2_size]) (by simp [w2_size])
      simpa [ByteArray.append_assoc] using this
    · rw [if_pos hp]
      have h8 := hk hp
      have i1 : kid d = d.dp := by unfold kid; rw [if_neg (by omega)]
      have i2 : kid { d with dp := x } = x := by unfold kid; rw [if_neg (by show ¬ (d.kd = 8 ∨ d.kd = 13); omega)]
      unfold kbx kbp kbs
      rw [i2, i1]
      simp only [hp]
      rcases h8 with e | e
      · have := put_mid (b1 d.kd ++ b1 0 ++ w2 X) (w2 d.dp) (prt d.md 0 2 ++ d.tx) (w2 x) 4 (by simp [b1_size, w2_size]) (by simp [w2_size])
        simpa [ByteArray.append_assoc, e] using this
      · have := put_mid (b1 d.kd ++ b1 0 ++ w2 X) (w2 d.dp) (prt d.md 0 2 ++ prt d.md 2 14 ++ d.tx) (w2 x) 4 (by simp [b1_size, w2_size]) (by simp [w2_size])
        simpa [ByteArray.append_assoc, e] using this
  have hz : (kbx d X).size = (kbx { d with dp := x } X).size := by
    rw [← key, put_size _ _ _ (by split <;> omega) (by rw [w2_size]; split <;> omega)]
  unfold kfx
  rw [put_body _ (kbx d X) d.ta (w2 x) i (if d.pr = 1 then 4 else 2) (by rw [kh_size]; exact hi) (by split <;> omega) (by rw [w2_size]; split <;> omega), key, hz]
  rfl
/-- carried on: the TTL one less, the checksums made anew -/
theorem kfx_snt (c X : Int) (c0 : 0 ≤ c) (c1 : c < 65536) (x0 : 0 ≤ X) (x1 : X < 65536) (hx : X = 0 ↔ (d.pr = 17 ∧ d.ba = true) ∨ (¬ d.pr = 17 ∧ X = 0)) (ht : 1 ≤ d.tl) (hs : (kfx d c X).size ≤ 65535) : snt (kfx d c X) = kfr { d with tl := d.tl - 1 } := by
  have hbig := kbx_big D X
  obtain ⟨F, e1, e2, e3, e4, e5, e6, e7, e8, e9, e10, e11⟩ := kfx_parts D c X c0 c1 hbig.1 hs
  have D' : Dgok { d with tl := d.tl - 1 } := ⟨D.pr, D.s0, D.s1, D.d0, D.d1, D.p0, D.p1, D.q0, D.q1, by show 0 ≤ d.tl - 1; omega, by show d.tl - 1 < 256; have := D.t1; omega, D.md, D.op, D.o4, D.tx, D.ta⟩
  have h1 : snt1 (kfx d c X) = kfx { d with tl := d.tl - 1 } c X := by unfold snt1; rw [e4]; exact kfx_put8 d c X _
  have hz : (kfx { d with tl := d.tl - 1 } c X).size = (kfx d c X).size := by rw [kfx_len, kfx_len]; rfl
  have hP := kfx_parts D' c X c0 c1 hbig.1 (by rw [hz]; exact hs)
  have h2 : snt2 (kfx d c X) = kfx { d with tl := d.tl - 1 } (kcs { d with tl := d.tl - 1 } (kbx d X).size) X := by
    unfold snt2; rw [h1, hP.2.2.2.2.2.2.2.2.2.1]; exact kfx_put10 _ c X _
  have hc := kcs_bd { d with tl := d.tl - 1 } (kbx d X).size
  have hz2 : (kfx { d with tl := d.tl - 1 } (kcs { d with tl := d.tl - 1 } (kbx d X).size) X).size = (kfx d c X).size := by rw [kfx_len, kfx_len]; rfl
  have hP2 := kfx_parts D' (kcs { d with tl := d.tl - 1 } (kbx d X).size) X hc.1 hc.2 hbig.1 (by rw [hz2]; exact hs)
  have hs2 : (kfx { d with tl := d.tl - 1 } (kcs { d with tl := d.tl - 1 } (kbx d X).size) X).size ≤ 65535 := by rw [hz2]; exact hs
  have hcs : kcs { d with tl := d.tl - 1 } (kbx d X).size = kcs { d with tl := d.tl - 1 } (kbx { d with tl := d.tl - 1 } (kfd { d with tl := d.tl - 1 })).size := by
    rw [kbx_len d X (kfd { d with tl := d.tl - 1 })]; rfl
  rw [kfr_eq D', ← hcs]
  unfold snt
  rw [h2]
  generalize kcs { d with tl := d.tl - 1 } (kbx d X).size = C at *
  obtain ⟨F', f1, f2, f3, f4, f5, f6, f7, f8, f9, f10, f11⟩ := hP2
  unfold sld
  rw [f3, f1]
  rcases D.pr with ⟨hp, r0, r1⟩ | ⟨hp, r0, r1, r2⟩ | ⟨hp, hkd⟩
  · obtain ⟨u1, u2, u3⟩ := kfx_udp D' C X hc.1 hc.2 x0 x1 hbig.1 hs2 hp
    have hw : wd (kfx { d with tl := d.tl - 1 } C X) (20 + (d.op.size : Int) + 6) = X := by
      have h8 : 8 ≤ (kbx d X).size := hbig.2
      have := bdy_wd F' 6 (by omega) (by rw [f2]; show 6 + 1 < ((kbx d X).size : Int); omega)
      rw [u2, f1] at this
      exact this.symm
    rw [if_pos hp, u3]
    show (if wd (kfx { d with tl := d.tl - 1 } C X) (20 + (d.op.size : Int) + 6) = 0 then _ else _) = _
    rw [hw]
    by_cases hb : d.ba = true
    · have x00 : X = 0 := hx.2 (.inl ⟨hp, hb⟩)
      have k0 : kfd { d with tl := d.tl - 1 } = 0 := by unfold kfd; rw [if_pos ⟨hp, hb⟩]
      rw [if_pos x00, k0, x00]
    · have x00 : ¬ X = 0 := fun h => by
        rcases hx.1 h with g | g
        · exact hb g.2
        · exact g.1 hp
      have k0 : kfd { d with tl := d.tl - 1 } = kck { d with tl := d.tl - 1 } := by unfold kfd; rw [if_neg (fun h => hb h.2)]
      rw [if_neg x00, k0]
      exact kfx_putf D' C X _ _ (by unfold kfl; rw [if_pos hp])
  · have u3 := kfx_tcp D' C X hc.1 hc.2 hbig.1 hs2 hp
    have k0 : kfd { d with tl := d.tl - 1 } = kck { d with tl := d.tl - 1 } := by unfold kfd; rw [if_neg (fun h => by have : d.pr = 17 := h.1; omega)]
    rw [if_neg (by show ¬ d.pr = 17; omega), if_pos hp, u3, k0]
    exact kfx_putf D' C X _ _ (by unfold kfl; rw [if_neg (by show ¬ d.pr = 17; omega), if_pos hp])
  · have u3 := kfx_icmp D' C X hc.1 hc.2 hbig.1 hs2 hp
    have k0 : kfd { d with tl := d.tl - 1 } = kck { d with tl := d.tl - 1 } := by unfold kfd; rw [if_neg (fun h => by have : d.pr = 17 := h.1; omega)]
    rw [if_neg (by show ¬ d.pr = 17; omega), if_neg (by show ¬ d.pr = 6; omega), if_pos hp, u3, k0]
    exact kfx_putf D' C X _ _ (by unfold kfl; rw [if_neg (by show ¬ d.pr = 17; omega), if_neg (by show ¬ d.pr = 6; omega)])
end
end Go.Proofs.YthiljpbodmajaaaGreat
namespace Go.Proofs.YthiljpbodmajaaaGreat
open Go.RowKit Plain
set_option linter.unusedVariables false

/-- what somebody wants to say -/
structure Pk where
  kd : Int
  sa : Int
  sp : Int
  da : Int
  dp : Int
  tl : Int
  op : Int
  bi : Int
  sr : Int
  md : ByteArray
  tx : ByteArray
  ta : ByteArray
def pkl (p : Pk) : Array Value := #[.int .i64 p.kd, .int .i64 p.sa, .int .i64 p.sp, .int .i64 p.da, .int .i64 p.dp, .int .i64 p.tl, .int .i64 p.op, .int .i64 p.bi, .int .i64 p.sr, .string p.md, .string p.tx, .string p.ta]
def dg0 : Dg := ⟨0, 0, false, 0, 0, 0, 0, 0, 0, 0, ⟨#[]⟩, ⟨#[]⟩, ⟨#[]⟩, ⟨#[]⟩⟩
/-- the pack's, the configuration's and the answer's blocks, laid in w, stand in w' -/
def Pok (p : Pk) (c : Cf) (w w' : World) : Prop := Below (w.heap.size + 1 + 1 + 1) (((w.alloc (.cells (pkl p) 30)).alloc (.cells (cfl c) 28)).alloc (.cells (dgl dg0) 33)) w'
theorem Pok.start (p : Pk) (c : Cf) (w : World) : Pok p c w (((w.alloc (.cells (pkl p) 30)).alloc (.cells (cfl c) 28)).alloc (.cells (dgl dg0) 33)) := Below.refl _ _
theorem Pok.drew {p : Pk} {c : Cf} {w w' : World} (h : Pok p c w w') : Pok p c w w'.drew := Below.drew h
theorem Pok.lt {p : Pk} {c : Cf} {w w' : World} (h : Pok p c w w') : w.heap.size + 1 + 1 + 1 ≤ w'.heap.size := Nat.le_trans (by simp) h.size
theorem Pok.next {p : Pk} {c : Cf} {w w1 w2 : World} (h : Pok p c w w1) (k : Below w1.heap.size w1 w2) : Pok p c w w2 := Below.trans h (k.mono h.lt)
theorem Pok.alloc {p : Pk} {c : Cf} {w w1 : World} (h : Pok p c w w1) (o : Obj) : Pok p c w (w1.alloc o) := Below.alloc h h.lt o
theorem Pok.store {p : Pk} {c : Cf} {w w1 : World} (h : Pok p c w w1) {a : Addr} (ha : w.heap.size + 1 + 1 + 1 ≤ a.block) (u : Value) : Pok p c w (w1.setCell a u) := Below.setCell h ha u
theorem Pok.below {p : Pk} {c : Cf} {w w' : World} (h : Pok p c w w') : Below w.heap.size w w' := ((((Below.refl w.heap.size w).alloc (Nat.le_refl _) _).alloc (by simp) _).alloc (by simp; omega) _).trans (Below.mono h (by omega))
theorem Pok.at {p : Pk} {c : Cf} {w : World} (i : Nat) {u : Value} (h : (pkl p)[i]? = some u) : ∀ w', Pok p c w w' → w'.cell? ⟨w.heap.size, i, none⟩ = some u := fun w' hb =>
  (Below.cell hb (p := ⟨w.heap.size, i, none⟩) (by show w.heap.size < _; omega)).trans ((cell_of_row _ _ _ _ _ _ (alloc3 w _ _ _).1).trans h)
theorem Pok.cf {p : Pk} {c : Cf} {w : World} (i : Nat) {u : Value} (h : (cfl c)[i]? = some u) : ∀ w', Pok p c w w' → w'.cell? ⟨w.heap.size + 1, i, none⟩ = some u := fun w' hb =>
  (Below.cell hb (p := ⟨w.heap.size + 1, i, none⟩) (by show w.heap.size + 1 < _; omega)).trans ((cell_of_row _ _ _ _ _ _ (alloc3 w _ _ _).2.1).trans h)
theorem Pok.res {p : Pk} {c : Cf} {w w' : World} (h : Pok p c w w') : w'.heap[w.heap.size + 1 + 1]? = some (.cells (dgl dg0) 33 (0, 0)) :=
  (Below.block h _ (by omega)).trans (alloc3 w _ _ _).2.2

theorem Pok.chain14 {p : Pk} {c : Cf} {w w1 : World} {D : Nat} {ua ub uc ud ue uf ug uh ui uj uk ul um un : Value} (h : Pok p c w w1) (hD : w.heap.size + 1 + 1 + 1 ≤ D) : Pok p c w ((((((((((((((w1.setCell ⟨D, 0, none⟩ ua).setCell ⟨D, 1, none⟩ ub).setCell ⟨D, 2, none⟩ uc).setCell ⟨D, 3, none⟩ ud).setCell ⟨D, 4, none⟩ ue).setCell ⟨D, 5, none⟩ uf).setCell ⟨D, 6, none⟩ ug).setCell ⟨D, 7, none⟩ uh).setCell ⟨D, 8, none⟩ ui).setCell ⟨D, 9, none⟩ uj).setCell ⟨D, 10, none⟩ uk).setCell ⟨D, 11, none⟩ ul).setCell ⟨D, 12, none⟩ um).setCell ⟨D, 13, none⟩ un) :=
  Pok.store (Pok.store (Pok.store (Pok.store (Pok.store (Pok.store (Pok.store (Pok.store (Pok.store (Pok.store (Pok.store (Pok.store (Pok.store (Pok.store (h) hD _) hD _) hD _) hD _) hD _) hD _) hD _) hD _) hD _) hD _) hD _) hD _) hD _) hD _
theorem store14 {w : World} {g : Nat} {t : TypeId} {fr : Nat × Nat} {v0 v1 v2 v3 v4 v5 v6 v7 v8 v9 v10 v11 v12 v13 ua ub uc ud ue uf ug uh ui uj uk ul um un : Value} (h : w.heap[g]? = some (.cells #[v0, v1, v2, v3, v4, v5, v6, v7, v8, v9, v10, v11, v12, v13] t fr)) : ((((((((((((((w.setCell ⟨g, 0, none⟩ ua).setCell ⟨g, 1, none⟩ ub).setCell ⟨g, 2, none⟩ uc).setCell ⟨g, 3, none⟩ ud).setCell ⟨g, 4, none⟩ ue).setCell ⟨g, 5, none⟩ uf).setCell ⟨g, 6, none⟩ ug).setCell ⟨g, 7, none⟩ uh).setCell ⟨g, 8, none⟩ ui).setCell ⟨g, 9, none⟩ uj).setCell ⟨g, 10, none⟩ uk).setCell ⟨g, 11, none⟩ ul).setCell ⟨g, 12, none⟩ um).setCell ⟨g, 13, none⟩ un).heap[g]? = some (.cells #[ua, ub, uc, ud, ue, uf, ug, uh, ui, uj, uk, ul, um, un] t fr) := by
  have h0 := heap_setCell_same (o := 0) ua h
  have h1 := heap_setCell_same (o := 1) ub h0
  have h2 := heap_setCell_same (o := 2) uc h1
  have h3 := heap_setCell_same (o := 3) ud h2
  have h4 := heap_setCell_same (o := 4) ue h3
  have h5 := heap_setCell_same (o := 5) uf h4
  have h6 := heap_setCell_same (o := 6) ug h5
  have h7 := heap_setCell_same (o := 7) uh h6
  have h8 := heap_setCell_same (o := 8) ui h7
  have h9 := heap_setCell_same (o := 9) uj h8
  have h10 := heap_setCell_same (o := 10) uk h9
  have h11 := heap_setCell_same (o := 11) ul h10
  have h12 := heap_setCell_same (o := 12) um h11
  have h13 := heap_setCell_same (o := 13) un h12
  simpa using h13
/-- a kind's protocol -/
def kpr (k : Int) : Int := if k ≤ 1 then 17 else if k = 2 then 6 else 1
/-- what sent gives -/
structure Sentok (d : Dg) (A B sp dp tl most k8 : Int) : Prop where
  ok : Dgok d
  sa : d.sa = A
  da : d.da = B
  sp : d.sp = sp
  dp : d.dp = dp
  tl : d.tl = tl
  kd : d.pr = 1 → d.kd = 8 ∨ d.kd = 13
  len : 20 + (d.op.size : Int) + (kbd d).size ≤ most
  all : (kfr d).size ≤ 65535
  pr : d.pr = kpr k8
theorem kfr_size {d : Dg} (D : Dgok d) : (kfr d).size = 20 + d.op.size + (kbd d).size + d.ta.size := by
  unfold kfr kwh; simp only [ByteArray.size_append]; unfold kh; rw [hd_size]
theorem kbd_ta (d : Dg) (t : ByteArray) : kbd { d with ta := t } = kbd d := rfl
theorem kbd_len {d : Dg} (D : Dgok d) : ((kbd d).size : Int) ≤ 20 + d.tx.size := by
  rw [kbd_eq D, kbx_size D]
  have h := D.md
  have z1 : (prt d.md 0 2).size = 2 := by rw [prt_size]; omega
  have z2 : (prt d.md 2 14).size = 12 := by rw [prt_size]; omega
  have z3 : (prt d.md 12 14).size = 2 := by rw [prt_size]; omega
  unfold kfl kbs
  split
  · omega
  · split
    · rw [ByteArray.size_append, z3]; omega
    · split <;> simp only [ByteArray.size_append, w2_size, z1, z2] <;> omega
theorem prt_zero_le (s : ByteArray) (n : Int) (h : 0 ≤ n) : ((prt s 0 n).size : Int) ≤ n := by rw [prt_size]; omega
theorem blk4 {w wa : World} {A B C Z : Obj} (h : Below ((((w.alloc A).alloc B).alloc C).alloc Z).drew.heap.size ((((w.alloc A).alloc B).alloc C).alloc Z).drew wa) : wa.heap[w.heap.size + 1 + 1 + 1]? = some Z :=
  (h.block _ (by simp)).trans (push_at _ _ _ (by simp))
theorem blk1 {wa wb : World} {Z : Obj} (h : Below (wa.alloc Z).heap.size (wa.alloc Z) wb) : wb.heap[wa.heap.size]? = some Z := (h.block _ (by simp)).trans (alloc1 wa _)
theorem blkn {wa wb : World} {g : Nat} {Z : Obj} (e : wa.heap[g]? = some Z) (h : Below wa.heap.size wa wb) : wb.heap[g]? = some Z := (h.block _ (Array.getElem?_eq_some_iff.1 e).1).trans e
end Go.Proofs.YthiljpbodmajaaaGreat
