/-
  CONTRACTS: package frames: ownHeader, about, Told, MayBeCut.
-/
import Derived.Test.YthiljpbodmajaabGreatSntw
import Derived.Test.YthiljpbodmajaabGreatBoxo
namespace Go.Proofs.YthiljpbodmajaabGreat
open Go.RowKit Plain
set_option linter.unusedVariables false

theorem ownHeader_core (A1 A2 L0 A3 A4 X Y : ByteArray) (f t n k : Int) (w : World) (n0 : 0 ≤ n) (n1 : n ≤ 60000) (hk : 20 + n = k)
    (c1 : RetB 180 #[.int .i64 17664] (.string A1)) (c2 : RetB 180 #[.int .i64 k] (.string A2)) (c3 : RetB 217 #[.int .i64 0] (.string L0)) (c4 : RetB 180 #[.int .i64 16385] (.string A3)) (c5 : RetB 180 #[.int .i64 0] (.string A4)) (c6 : RetB 217 #[.int .i64 f] (.string X)) (c7 : RetB 217 #[.int .i64 t] (.string Y))
    (z1 : A1.size = 2) (z2 : A2.size = 2) (z3 : L0.size = 4) (z4 : A3.size = 2) (z5 : A4.size = 2) (z6 : X.size = 4) (z7 : Y.size = 4) :
    Calls Tryz.prog 222 #[.int .i64 f, .int .i64 t, .int .i64 n] w fun e w' => e = .returned (.string (A1 ++ A2 ++ L0 ++ (A3 ++ A4) ++ X ++ Y)) ∧ Below w.heap.size w w' := by
  go_enter Tryz.func222, Tryz.ntmps222
  go_wp2_with fail
  refine Calls.mono (c1.at _) ?_; rintro e w1 ⟨rfl, h1⟩
  go_wp2_with fail
  refine Calls.mono (c2.at _) ?_; rintro e w2 ⟨rfl, h2⟩
  go_wp2_with fail
  refine Calls.mono (c3.at _) ?_; rintro e w3 ⟨rfl, h3⟩
  go_wp2_with fail
  refine Calls.mono (c4.at _) ?_; rintro e w4 ⟨rfl, h4⟩
  go_wp2_with fail
  refine Calls.mono (c5.at _) ?_; rintro e w5 ⟨rfl, h5⟩
  go_wp2_with fail
  refine Calls.mono (c6.at _) ?_; rintro e w6 ⟨rfl, h6⟩
  go_wp2_with fail
  refine Calls.mono (c7.at _) ?_; rintro e w7 ⟨rfl, h7⟩
  go_wp2
  go_ret
  have s1 := h1.size
  have s2 := h2.size
  have s3 := h3.size
  have s4 := h4.size
  have s5 := h5.size
  have s6 := h6.size
  refine ⟨ret_string (by simp [ByteArray.append_assoc]), ?_⟩
  exact (((((h1.trans (h2.mono (by omega))).trans (h3.mono (by omega))).trans (h4.mono (by omega))).trans (h5.mono (by omega))).trans (h6.mono (by omega))).trans (h7.mono (by omega))
theorem own_hd (f t k : Int) : w2 17664 ++ w2 k ++ l4 0 ++ (w2 16385 ++ w2 0) ++ l4 f ++ l4 t = hd 69 0 k 0 0 64 1 0 f t ByteArray.empty := by
  have e1 : w2 17664 = b1 69 ++ b1 0 := by decide
  have e2 : l4 0 = w2 0 ++ w2 0 := by decide
  have e3 : w2 16385 = b1 64 ++ b1 1 := by decide
  rw [e1, e2, e3]
  simp [hd, ByteArray.append_assoc]
theorem ownHeader_any (f t n : Int) (n0 : 0 ≤ n) (n1 : n ≤ 60000) (f0 : 0 ≤ f) (f1 : f < 4294967296) (t0 : 0 ≤ t) (t1 : t < 4294967296) : RetB 222 #[.int .i64 f, .int .i64 t, .int .i64 n] (.string (hd 69 0 (20 + n) 0 0 64 1 0 f t ByteArray.empty)) := fun w => by
  have := ownHeader_core _ _ _ _ _ _ _ f t n (20 + n) w n0 n1 rfl (fun w => fromWord_any 17664 w (by decide) (by decide)) (fun w => fromWord_any (20 + n) w (by omega) (by omega)) (fromLong_in 0 (by decide) (by decide)) (fun w => fromWord_any 16385 w (by decide) (by decide)) (fun w => fromWord_any 0 w (by decide) (by decide)) (fromLong_in f f0 f1) (fromLong_in t t0 t1) (w2_size _) (w2_size _) (l4_size _) (w2_size _) (w2_size _) (l4_size _) (l4_size _)
  rw [own_hd] at this
  exact this
theorem about_core (s Q K L H O Z : ByteArray) (f d a n kd cd h W : Int) (w : World) (d0 : 0 ≤ d) (d1 : d ≤ 60) (hq : Q.size ≤ 1000) (zK : K.size = 2) (zL : L.size = 4) (zH : H.size = 2) (zO : O.size = 20) (hn : 8 + (Q.size : Int) = n)
    (hk : (kd = 3 ∧ cd = 3 ∧ W = 771) ∨ (kd = 3 ∧ cd = 4 ∧ W = 772) ∨ (kd = 11 ∧ cd = 0 ∧ W = 2816))
    (c1 : Ret 115 #[.string s] (.int .i64 d)) (c2 : Ret 169 #[.string s, .int .i64 0, .int .i64 (d + 8)] (.string Q)) (c3 : RetB 180 #[.int .i64 W] (.string K)) (c4 : RetB 217 #[.int .i64 0] (.string L)) (c5 : RetB 180 #[.int .i64 h] (.string H)) (c6 : Ret 111 #[.string s] (.int .i64 a))
    (c7 : RetB 222 #[.int .i64 f, .int .i64 a, .int .i64 n] (.string O)) (c8 : RetB 133 #[.string (O ++ (K ++ L ++ H ++ Q))] (.string Z)) :
    Calls Tryz.prog 179 #[.string s, .int .i64 f, .int .i64 kd, .int .i64 cd, .int .i64 h] w fun e w' => e = .returned (.string Z) ∧ Below w.heap.size w w' := by
  have hbits : bits .or .i64 768 3 = 771 := by decide
  have hbits' : bits .or .i64 768 4 = 772 := by decide
  have hbits'' : bits .or .i64 2816 0 = 2816 := by decide
  rcases hk with ⟨rfl, rfl, rfl⟩ | ⟨rfl, rfl, rfl⟩ | ⟨rfl, rfl, rfl⟩
  all_goals
    go_enter Tryz.func179, Tryz.ntmps179
    go_wp2_with fail
    refine Calls.mono (c1.at _) ?_; rintro e w' ⟨rfl, hw⟩; replace hw := hw.symm; subst hw
    go_wp2_with fail
    refine Calls.mono (c2.at _) ?_; rintro e w' ⟨rfl, hw⟩; replace hw := hw.symm; subst hw
    go_wp2_with fail
    refine Calls.mono (c3.at _) ?_; rintro e w1 ⟨rfl, h1⟩
    go_wp2_with fail
    refine Calls.mono (c4.at _) ?_; rintro e w2 ⟨rfl, h2⟩
    go_wp2_with fail
    refine Calls.mono (c5.at _) ?_; rintro e w3 ⟨rfl, h3⟩
    have hsz : ((K ++ L ++ H ++ Q).size : Int) = n := by simp only [ByteArray.size_append]; omega
    have hX : (K ++ L ++ H ++ Q).size ≤ 2000 := by omega
    go_wp2_with fail
    generalize K ++ L ++ H ++ Q = X at hsz hX c8 ⊢
    refine Calls.mono (c6.at _) ?_; rintro e w' ⟨rfl, hw⟩; replace hw := hw.symm; subst hw
    go_wp2_with fail
    refine Calls.mono (c7.at _) ?_; rintro e w4 ⟨rfl, h4⟩
    go_wp2_with fail
    refine Calls.mono (c8.at _) ?_; rintro e w5 ⟨rfl, h5⟩
    go_wp2
    go_ret
    have s1 := h1.size
    have s2 := h2.size
    have s3 := h3.size
    have s4 := h4.size
    exact ⟨rfl, (((h1.trans (h2.mono (by omega))).trans (h3.mono (by omega))).trans (h4.mono (by omega))).trans (h5.mono (by omega))⟩
/-- the box's own message ahead of its checksums: from f, type and code in W, the word h -/
def tlm (s : ByteArray) (f W h : Int) : ByteArray := hd 69 0 (20 + (8 + ((prt s 0 (hdv s + 8)).size : Int))) 0 0 64 1 0 f (lg s 12) ByteArray.empty ++ (w2 W ++ l4 0 ++ w2 h ++ prt s 0 (hdv s + 8))
/-- the box's own message about a frame -/
def tld (s : ByteArray) (f W h : Int) : ByteArray := sld (put (tlm s f W h) 10 (w2 (hsv (tlm s f W h))))
theorem tlm_sok (s : ByteArray) (f W h : Int) (hQ : (prt s 0 (hdv s + 8)).size ≤ 1000) : Sok (tlm s f W h) ∧ bt (tlm s f W h) 9 = 1 := by
  unfold tlm
  generalize lg s 12 = a
  generalize prt s 0 (hdv s + 8) = Q at *
  have e0 := hd_bt0 69 0 (20 + (8 + (Q.size : Int))) 0 0 64 1 0 f a ByteArray.empty (w2 W ++ l4 0 ++ w2 h ++ Q) (by decide) (by decide)
  have e2 := hd_tot 69 0 (20 + (8 + (Q.size : Int))) 0 0 64 1 0 f a ByteArray.empty (w2 W ++ l4 0 ++ w2 h ++ Q) (by omega) (by omega)
  have e9 := hd_bt9 69 0 (20 + (8 + (Q.size : Int))) 0 0 64 1 0 f a ByteArray.empty (w2 W ++ l4 0 ++ w2 h ++ Q) (by decide) (by decide)
  have ez : (hd 69 0 (20 + (8 + (Q.size : Int))) 0 0 64 1 0 f a ByteArray.empty ++ (w2 W ++ l4 0 ++ w2 h ++ Q)).size = 28 + Q.size := by
    rw [ByteArray.size_append, hd_size]; simp only [ByteArray.size_append, w2_size, l4_size]; simp; omega
  generalize hd 69 0 (20 + (8 + (Q.size : Int))) 0 0 64 1 0 f a ByteArray.empty ++ (w2 W ++ l4 0 ++ w2 h ++ Q) = s at *
  have eh : hdv s = 20 := by unfold hdv; rw [e0]; decide
  have F : Fits s := ⟨by omega, by omega, by unfold ver; rw [e0]; decide, by omega, by omega, by omega⟩
  have hb := bdy_size F
  exact ⟨⟨F, fun h => by omega, fun h => by omega, fun _ => by omega⟩, e9⟩
theorem lg_bd (s : ByteArray) (i : Int) : 0 ≤ lg s i ∧ lg s i < 4294967296 := by
  have h1 := wd_bd s i
  have h2 := wd_bd s (i + 2)
  unfold lg; omega
theorem about_any (s : ByteArray) (f kd cd h W : Int) (hk : (kd = 3 ∧ cd = 3 ∧ W = 771) ∨ (kd = 3 ∧ cd = 4 ∧ W = 772) ∨ (kd = 11 ∧ cd = 0 ∧ W = 2816)) (h0 : 0 ≤ h) (h1 : h < 65536) (n64 : s.size ≤ 65535) (hb : hdv s + 8 ≤ s.size) (f0 : 0 ≤ f) (f1 : f < 4294967296) : RetB 179 #[.string s, .int .i64 f, .int .i64 kd, .int .i64 cd, .int .i64 h] (.string (tld s f W h)) := fun w => by
  have hd := hdv_bd s
  have hl : s.size ≤ maxLen := size_le n64
  have hq : (prt s 0 (hdv s + 8)).size ≤ 1000 := by rw [prt_size]; omega
  have ha := lg_bd s 12
  have M := tlm_sok s f W h hq
  have c8 := sealed_any _ M.1 (.inr (.inr M.2))
  have hW : 0 ≤ W ∧ W < 65536 := by omega
  exact about_core s (prt s 0 (hdv s + 8)) (w2 W) (l4 0) (w2 h) _ _ f (hdv s) (lg s 12) _ kd cd h W w hd.1 hd.2 hq (w2_size _) (l4_size _) (w2_size _) (by rw [hd_size]; rfl) rfl hk (fun w => headerLength_any s w hl) (fun w => octPart_in s 0 _ w (by decide) (by omega) hb) (fun w => fromWord_any W w hW.1 hW.2) (fromLong_in 0 (by decide) (by decide)) (fun w => fromWord_any h w h0 h1) (fun w => source_any s w hl) (ownHeader_any f (lg s 12) _ (by omega) (by omega) f0 f1 ha.1 ha.2) c8
theorem told_core (s Z : ByteArray) (k f u kd cd h : Int) (w : World) (hk : (k = 9 ∧ kd = 11 ∧ cd = 0 ∧ h = 0) ∨ (k = 10 ∧ kd = 3 ∧ cd = 4 ∧ h = u) ∨ (k = 11 ∧ kd = 3 ∧ cd = 3 ∧ h = 0)) (c : RetB 179 #[.string s, .int .i64 f, .int .i64 kd, .int .i64 cd, .int .i64 h] (.string Z)) :
    Calls Tryz.prog 129 #[.int .i64 k, .int .i64 f, .int .i64 u, .string s] w fun e w' => e = .returned (.string Z) ∧ Below w.heap.size w w' := by
  rcases hk with ⟨rfl, rfl, rfl, rfl⟩ | ⟨rfl, rfl, rfl, rfl⟩ | ⟨rfl, rfl, rfl, rfl⟩
  all_goals
    go_enter Tryz.func129, Tryz.ntmps129
    go_wp2_with fail
    refine Calls.mono (c.at _) ?_; rintro e w1 ⟨rfl, h1⟩
    go_wp2
    go_ret
    exact ⟨rfl, h1⟩
/-- type and code; the word behind the checksum -/
def twd (k : Int) : Int := if k = 9 then 2816 else if k = 10 then 772 else 771
def thn (k u : Int) : Int := if k = 10 then u else 0
theorem told_any (s : ByteArray) (k f u : Int) (hk : k = 9 ∨ k = 10 ∨ k = 11) (u0 : 0 ≤ u) (u1 : u < 65536) (n64 : s.size ≤ 65535) (hb : hdv s + 8 ≤ s.size) (f0 : 0 ≤ f) (f1 : f < 4294967296) : RetB 129 #[.int .i64 k, .int .i64 f, .int .i64 u, .string s] (.string (tld s f (twd k) (thn k u))) := fun w => by
  rcases hk with rfl | rfl | rfl
  · exact told_core s _ 9 f u 11 0 0 w (.inl ⟨rfl, rfl, rfl, rfl⟩) (about_any s f 11 0 0 2816 (.inr (.inr ⟨rfl, rfl, rfl⟩)) (by decide) (by decide) n64 hb f0 f1)
  · exact told_core s _ 10 f u 3 4 u w (.inr (.inl ⟨rfl, rfl, rfl, rfl⟩)) (about_any s f 3 4 u 772 (.inr (.inl ⟨rfl, rfl, rfl⟩)) u0 u1 n64 hb f0 f1)
  · exact told_core s _ 11 f u 3 3 0 w (.inr (.inr ⟨rfl, rfl, rfl, rfl⟩)) (about_any s f 3 3 0 771 (.inl ⟨rfl, rfl, rfl⟩) (by decide) (by decide) n64 hb f0 f1)
theorem and16384 (a : Int) (h0 : 0 ≤ a) (h1 : a < 65536) : bits .and .i64 a 16384 = 16384 * (a / 16384 % 2) := by
  obtain ⟨n, rfl⟩ := Int.eq_ofNat_of_zero_le h0
  have := i64_and_nat n 16384 (by omega) (by decide)
  rw [show (16384 : Int) = ((16384 : Nat) : Int) by rfl, this]
  have h2 : n &&& 16384 = 16384 * (n / 16384 % 2) := by
    apply Nat.eq_of_testBit_eq
    intro i
    rw [show (16384 : Nat) = 2 ^ 14 by decide, Nat.testBit_and, Nat.testBit_two_pow, Nat.testBit_two_pow_mul]
    by_cases hi : i = 14
    · subst hi
      simp [Nat.testBit, Nat.shiftRight_eq_div_pow]
    · by_cases hg : 14 ≤ i
      · have h3 : (n / 2 ^ 14 % 2).testBit (i - 14) = false := by
          apply Nat.testBit_lt_two_pow
          have : n / 2 ^ 14 % 2 < 2 := Nat.mod_lt _ (by decide)
          have h4 : 2 ^ 1 ≤ 2 ^ (i - 14) := Nat.pow_le_pow_right (by decide) (by omega)
          omega
        rw [h3]
        simp; omega
      · simp [hg]; omega
  omega
/-- may a frame go on in parts? -/
def mbc (s : ByteArray) : Bool := decide (wd s 6 / 16384 % 2 = 0)
theorem mayBeCut_any (s : ByteArray) (hs : s.size ≤ maxLen) : Ret 178 #[.string s] (.bool (mbc s)) := fun w => by
  have hb := wd_bd s 6
  have ha := and16384 (wd s 6) hb.1 (by omega)
  unfold mbc
  obtain ⟨x, hx⟩ : ∃ x, wd s 6 = x := ⟨_, rfl⟩
  have c : Ret 162 #[.string s, .int .i64 6] (.int .i64 x) := fun w => by rw [← hx]; exact word_any s 6 w hs (by decide) (by decide)
  rw [hx] at ha hb ⊢
  by_cases h : x / 16384 % 2 = 0
  · have e : bits .and .i64 x 16384 = 0 := by rw [ha, h]; rfl
    have hr : Hid (decide (x / 16384 % 2 = 0) = true) := by show _ = _; simpa using h
    clear ha h hx hb
    generalize decide (x / 16384 % 2 = 0) = r at hr ⊢
    go_enter Tryz.func178, Tryz.ntmps178
    go_wp2_with fail
    refine Calls.mono (c.at _) ?_; rintro e w' ⟨rfl, hw⟩; replace hw := hw.symm; subst hw
    go_wp2
    go_ret
    exact ⟨ret_bool (by rw [hr.out]), rfl⟩
  · have e : bits .and .i64 x 16384 = 16384 := by rw [ha]; omega
    have hr : Hid (decide (x / 16384 % 2 = 0) = false) := by show _ = _; simpa using h
    clear ha h hx hb
    generalize decide (x / 16384 % 2 = 0) = r at hr ⊢
    go_enter Tryz.func178, Tryz.ntmps178
    go_wp2_with fail
    refine Calls.mono (c.at _) ?_; rintro e w' ⟨rfl, hw⟩; replace hw := hw.symm; subst hw
    go_wp2
    go_ret
    exact ⟨ret_bool (by rw [hr.out]), rfl⟩
end Go.Proofs.YthiljpbodmajaabGreat
namespace Go.Proofs.YthiljpbodmajaabGreat
open Go.RowKit Plain
set_option linter.unusedVariables false

/-- does the box tell of an error? -/
def telB (k tk : Int) (s : ByteArray) : Bool := decide (1 ≤ tk) && (!(k == 10) || !(mbc s))
theorem tells_core {w : World} (b : Nat) (s : ByteArray) (k tk : Int) (q : Bool) (h16 : w.cell? ⟨b, 16, none⟩ = some (.int .i64 tk)) (cE : Ret 178 #[.string s] (.bool q)) (r : Bool) (hr : r = (decide (1 ≤ tk) && (!(k == 10) || !q))) :
    Calls Tryz.prog 128 #[.pointer (some ⟨b, 0, none⟩), .int .i64 k, .string s] w fun e w' => e = .returned (.bool r) ∧ w' = w := by
  by_cases h : tk < 1
  · have hr' : Hid (r = false) := by show _ = _; rw [hr]; simp; omega
    clear hr
    go_enter Tryz.func128, Tryz.ntmps128
    go_wp2
    go_ret
    exact ⟨ret_bool (by rw [hr'.out]), rfl⟩
  · have h' : decide (tk < 1) = false := by simpa using h
    have h1 : decide (1 ≤ tk) = true := by simp; omega
    rw [h1, Bool.true_and] at hr
    by_cases hk : k = 10
    · subst hk
      have hr' : Hid (r = !q) := by show _ = _; rw [hr]; rfl
      clear hr h h1
      go_enter Tryz.func128, Tryz.ntmps128
      go_wp2_with fail
      refine Calls.mono (cE.at _) ?_; rintro e w' ⟨rfl, hw⟩; replace hw := hw.symm; subst hw
      go_wp2
      go_ret
      exact ⟨ret_bool (by rw [hr'.out]), rfl⟩
    · have hk' : (k != 10) = true := by simpa using hk
      have hr' : Hid (r = true) := by show _ = _; rw [hr]; simp [hk]
      clear hr h h1 hk
      go_enter Tryz.func128, Tryz.ntmps128
      go_wp2
      go_ret
      exact ⟨ret_bool (by rw [hr'.out]), rfl⟩
/-- the box's address on a side -/
def adS (c : Cf) (d : Int) : Int := if d = 1 then c.oa else c.ia
theorem address_any {w : World} {base b : Nat} {c : Cf} {tk ti : Int} {v : Value} {ms : List Mp} (T : Bat w base b c tk ti v ms) (d : Int) :
    Calls Tryz.prog 130 #[.pointer (some ⟨b, 0, none⟩), .int .i64 d] w fun e w' => e = .returned (.int .i64 (adS c d)) ∧ w' = w := by
  have h0 : w.cell? ⟨b, 0, none⟩ = some (.int .i64 c.ia) := T.at 0 rfl
  have h1 : w.cell? ⟨b, 1, none⟩ = some (.int .i64 c.oa) := T.at 1 rfl
  clear T
  by_cases h : d = 1
  · subst h
    have hr : Hid (adS c 1 = c.oa) := rfl
    generalize adS c 1 = r at hr ⊢
    go_enter Tryz.func130, Tryz.ntmps130
    go_wp2
    go_ret
    exact ⟨ret_int (by rw [hr.out]), rfl⟩
  · have h' : (d == 1) = false := by simpa using h
    have hr : Hid (adS c d = c.ia) := if_neg h
    generalize adS c d = r at hr ⊢
    clear h
    go_enter Tryz.func130, Tryz.ntmps130
    go_wp2
    go_ret
    exact ⟨ret_int (by rw [hr.out]), rfl⟩
theorem refusal_no {w : World} (b : Nat) (s : ByteArray) (k d u : Int) (cT : ∀ wx, Below w.heap.size w wx → Calls Tryz.prog 128 #[.pointer (some ⟨b, 0, none⟩), .int .i64 k, .string s] wx fun e w' => e = .returned (.bool false) ∧ w' = wx) :
    Calls Tryz.prog 85 #[.pointer (some ⟨b, 0, none⟩), .int .i64 k, .int .i64 d, .string s, .int .i64 u] w fun e w' => e = .returned (rpv k 0 ⟨#[]⟩) ∧ Below w.heap.size w w' := by
  have CT : Hid _ := cT
  clear cT
  go_enter Tryz.func85, Tryz.ntmps85
  go_wp2_with fail
  refine Calls.mono (CT.out _ ((Below.refl _ _).alloc (Nat.le_refl _) _)) ?_; rintro e w' ⟨rfl, hw⟩; replace hw := hw.symm; subst hw
  go_wp2
  exact bodyPost_ret (v := rpv k 0 ⟨#[]⟩) (by simp [results, Tryz.results85, go_sem, rpv]) rfl ⟨rfl, (Below.refl _ _).alloc (Nat.le_refl _) _⟩
set_option maxHeartbeats 4000000 in
theorem refusal_yes {w : World} {base b : Nat} {c : Cf} {tk ti : Int} {v : Value} {ms : List Mp} (T : Bat w base b c tk ti v ms) (s Z : ByteArray) (k d A u : Int) (k1 : 1 ≤ tk) (k2 : tk ≤ 100) (cT : ∀ wx, Below w.heap.size w wx → Calls Tryz.prog 128 #[.pointer (some ⟨b, 0, none⟩), .int .i64 k, .string s] wx fun e w' => e = .returned (.bool true) ∧ w' = wx)
    (cA : ∀ wx, Bat wx base b c (tk - 1) ti v ms → Calls Tryz.prog 130 #[.pointer (some ⟨b, 0, none⟩), .int .i64 d] wx fun e w' => e = .returned (.int .i64 A) ∧ w' = wx)
    (cZ : RetB 129 #[.int .i64 k, .int .i64 A, .int .i64 u, .string s] (.string Z)) :
    Calls Tryz.prog 85 #[.pointer (some ⟨b, 0, none⟩), .int .i64 k, .int .i64 d, .string s, .int .i64 u] w fun e w' => e = .returned (rpv k d Z) ∧ BL w w' base b c v v (tk - 1) ti ms := by
  have CT : Hid _ := cT
  have CA : Hid _ := cA
  have hb := T.lt
  have h16 : w.cell? ⟨b, 16, none⟩ = some (.int .i64 tk) := T.at 16 rfl
  have hf := T.frz
  have HT : Hid _ := T
  clear cT T cA
  go_enter Tryz.func85, Tryz.ntmps85
  go_wp2_with fail
  refine Calls.mono (CT.out _ ((Below.refl _ _).alloc (Nat.le_refl _) _)) ?_; rintro e w' ⟨rfl, hw⟩; replace hw := hw.symm; subst hw
  go_wp2_with fail
  have L1 : Hid (BL w ((w.setCell ⟨b, 16, none⟩ (.int .i64 (tk - 1))).alloc (.cells #[.int .i64 0, .int .i64 0, .string ⟨#[]⟩] 42)) base b c v v (tk - 1) ti ms) :=
    BL.grow ⟨HT.out.put 16 (by decide) _, fun k hk => .inl hk.symm, (Chg.refl w b v.ownBlock).put 16 _⟩ ((Below.refl _ _).alloc (Nat.le_refl _) _)
  have R1 : Hid (((w.setCell ⟨b, 16, none⟩ (.int .i64 (tk - 1))).alloc (.cells #[.int .i64 0, .int .i64 0, .string ⟨#[]⟩] 42)).heap[w.heap.size]? = some (.cells #[.int .i64 0, .int .i64 0, .string ⟨#[]⟩] 42 (0, 0))) := by
    have := alloc1 (w.setCell ⟨b, 16, none⟩ (.int .i64 (tk - 1))) (.cells #[.int .i64 0, .int .i64 0, .string ⟨#[]⟩] 42)
    have hs : (w.setCell ⟨b, 16, none⟩ (.int .i64 (tk - 1))).heap.size = w.heap.size := by simp [World.setCell]
    rw [hs] at this
    exact this
  have hl1 : w.heap.size < ((w.setCell ⟨b, 16, none⟩ (.int .i64 (tk - 1))).alloc (.cells #[.int .i64 0, .int .i64 0, .string ⟨#[]⟩] 42)).heap.size := by simp [World.setCell]
  generalize (w.setCell ⟨b, 16, none⟩ (.int .i64 (tk - 1))).alloc (.cells #[.int .i64 0, .int .i64 0, .string ⟨#[]⟩] 42) = W1 at L1 R1 hl1 ⊢
  refine Calls.mono (CA.out _ L1.out.bat) ?_; rintro e w' ⟨rfl, hw⟩; replace hw := hw.symm; subst hw
  go_wp2_with fail
  refine Calls.mono (cZ.at _) ?_; rintro e w3 ⟨rfl, hb3⟩
  have R3' := (hb3.block _ hl1).trans R1.out
  obtain ⟨d0, d1, d2⟩ := cell3 R3'
  have f0 := nofrz R3'
  have L3 : Hid _ := L1.out.grow hb3
  have ho : Hid (v.ownBlock ≠ some w.heap.size) := fun e => by have := HT.out.own_lt _ e; omega
  clear hb3 R3' R1 L1 h16 hf
  go_wp2
  exact bodyPost_ret (v := rpv k d Z) (by simp [results, Tryz.results85, go_sem, rpv, d0, d1, d2]) rfl ⟨rfl, ((L3.out.new (p := ⟨w.heap.size, 0, none⟩) (Nat.le_refl _) hb ho.out _).new (p := ⟨w.heap.size, 1, none⟩) (Nat.le_refl _) hb ho.out _).new (p := ⟨w.heap.size, 2, none⟩) (Nat.le_refl _) hb ho.out _⟩
/-- an answer: error, side, what comes out; tokens and table behind it -/
structure Rp where
  er : Int
  sd : Int
  fr : ByteArray
  tk : Int
  ms : List Mp
def Rp.val (r : Rp) : Value := rpv r.er r.sd r.fr
/-- the answer of refusal -/
def rfs (c : Cf) (k d u tk : Int) (ms : List Mp) (s : ByteArray) : Rp :=
  if telB k tk s then ⟨k, d, tld s (adS c d) (twd k) (thn k u), tk - 1, ms⟩ else ⟨k, 0, ⟨#[]⟩, tk, ms⟩
theorem rfs_er (c : Cf) (k d u tk : Int) (ms : List Mp) (s : ByteArray) : (rfs c k d u tk ms s).er = k := by unfold rfs; split <;> rfl
theorem rfs_ms (c : Cf) (k d u tk : Int) (ms : List Mp) (s : ByteArray) : (rfs c k d u tk ms s).ms = ms := by unfold rfs; split <;> rfl
theorem rfs_val (c : Cf) (k d u tk : Int) (ms : List Mp) (s : ByteArray) : (rfs c k d u tk ms s).val = rpv k (rfs c k d u tk ms s).sd (rfs c k d u tk ms s).fr := by unfold Rp.val; rw [rfs_er]
theorem refusal_any {w : World} {base b : Nat} {c : Cf} {tk ti : Int} {v : Value} {ms : List Mp} (T : Bat w base b c tk ti v ms) (a0 : 0 ≤ c.ia ∧ c.ia < 4294967296) (a1 : 0 ≤ c.oa ∧ c.oa < 4294967296) (s : ByteArray) (hs : s.size ≤ 65535) (h8 : hdv s + 8 ≤ s.size) (k2 : tk ≤ 100) (k d u : Int) (hk : k = 9 ∨ k = 10 ∨ k = 11) (u0 : 0 ≤ u) (u1 : u < 65536) :
    Calls Tryz.prog 85 #[.pointer (some ⟨b, 0, none⟩), .int .i64 k, .int .i64 d, .string s, .int .i64 u] w fun e w' => e = .returned (rfs c k d u tk ms s).val ∧ BL w w' base b c v v (rfs c k d u tk ms s).tk ti (rfs c k d u tk ms s).ms := by
  have hl : s.size ≤ maxLen := size_le hs
  have hA : 0 ≤ adS c d ∧ adS c d < 4294967296 := by unfold adS; split <;> assumption
  have cT : ∀ wx, Below w.heap.size w wx → Calls Tryz.prog 128 #[.pointer (some ⟨b, 0, none⟩), .int .i64 k, .string s] wx fun e w' => e = .returned (.bool (telB k tk s)) ∧ w' = wx := fun wx hx => tells_core b s k tk (mbc s) ((T.below hx).at 16 rfl) (mayBeCut_any s hl) _ rfl
  unfold rfs
  by_cases h : telB k tk s = true
  · rw [if_pos h]
    rw [h] at cT
    have h1 : 1 ≤ tk := by unfold telB at h; simp at h; omega
    have cZ := told_any s k (adS c d) u hk u0 u1 hs h8 hA.1 hA.2
    generalize tld s (adS c d) (twd k) (thn k u) = Z at cZ ⊢
    have q := refusal_yes T s Z k d (adS c d) u h1 k2 cT (fun wx Tx => address_any Tx d) cZ
    simp only [Rp.val]
    exact q
  · rw [if_neg h]
    rw [Bool.not_eq_true] at h
    rw [h] at cT
    simp only [Rp.val]
    exact (refusal_no b s k d u cT).mono fun e w' q => ⟨q.1, T.bl q.2⟩
end Go.Proofs.YthiljpbodmajaabGreat
