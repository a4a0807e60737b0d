/-
  CONTRACTS: octets.FromWord of any number, PutLong, PutByte, PutWord at any place; package frames: TTL, portPlace, Source, Destination, Peer, WithSource, WithDestination.
-/
import Derived.Test.YthiljpbodmajaabGreatFrmc
import Derived.Test.YthiljpbodmajaabGreatPlain
import Derived.Test.YthiljpbodmajaabGreatTabm
namespace Go.Proofs.YthiljpbodmajaabGreat
open Go.RowKit Plain
set_option linter.unusedVariables false

theorem fromWord_mod (n : Int) (w : World) (h0 : 0 ≤ n) (h1 : n < 9223372036854775808) :
    Calls Tryz.prog 180 #[.int .i64 n] w fun e w' => e = .returned (.string (w2 (n % 65536))) ∧ Below w.heap.size w w' := by
  have hcv := conv2 w (n / 256 % 256) (n % 256)
  go_enter Tryz.func180, Tryz.ntmps180
  go_wp2
  go_ret
  refine ⟨ret_string ?_, (Below.refl _ _).alloc (Nat.le_refl _) _⟩
  unfold w2
  rw [show n % 65536 / 256 = n / 256 % 256 by omega, show n % 65536 % 256 = n % 256 by omega]

theorem fromLong_core (A B : ByteArray) (n x : Int) (w : World) (g0 : 0 ≤ n) (g1 : n < 4294967296) (hx : n / 65536 = x) (zA : A.size = 2) (zB : B.size = 2)
    (c1 : RetB 180 #[.int .i64 x] (.string A)) (c2 : RetB 180 #[.int .i64 n] (.string B)) :
    Calls Tryz.prog 217 #[.int .i64 n] w fun e w' => e = .returned (.string (A ++ B)) ∧ Below w.heap.size w w' := by
  go_enter Tryz.func217, Tryz.ntmps217
  go_wp2_with fail
  refine Calls.mono (c1.at _) ?_; rintro e w1 ⟨rfl, hb⟩
  go_wp2_with fail
  refine Calls.mono (c2.at _) ?_; rintro e w2 ⟨rfl, hb'⟩
  go_wp2
  go_ret
  refine ⟨ret_string (by simp), ?_⟩
  exact hb.trans (hb'.mono hb.size)
theorem fromLong_in (n : Int) (g0 : 0 ≤ n) (g1 : n < 4294967296) : RetB 217 #[.int .i64 n] (.string (l4 n)) := fun w => by
  have := fromLong_core (w2 (n / 65536 % 65536)) (w2 (n % 65536)) n (n / 65536) w g0 g1 rfl (w2_size _) (w2_size _) (fun w => fromWord_mod _ w (by omega) (by omega)) (fun w => fromWord_mod _ w (by omega) (by omega))
  rw [show n / 65536 % 65536 = n / 65536 by omega] at this
  exact this
set_option maxHeartbeats 1000000 in
theorem putLong_core (s A : ByteArray) (I : Nat) (n : Int) (w : World) (h1 : I + 4 ≤ s.size) (h2 : s.size ≤ 65535) (zA : A.size = 4)
    (c1 : RetB 217 #[.int .i64 n] (.string A)) :
    Calls Tryz.prog 173 #[.string s, .int .i64 (I : Int), .int .i64 n] w fun e w' => e = .returned (.string (s.extract 0 I ++ A ++ s.extract (I + 4) s.size)) ∧ Below w.heap.size w w' := by
  have hy : (0 : Int) ≤ (I : Int) + 4 := by omega
  have hxx : (I : Int) ≤ (s.size : Int) := by omega
  have hv : (I : Int) ≤ (s.size : Int) - 4 := by omega
  have hwr : IntKind.i64.wrap ((I : Int) + 4) = (I : Int) + 4 := by rw [IntKind.wrap_i64]; omega
  go_enter Tryz.func173, Tryz.ntmps173
  go_wp2
  go_region_with (go_at_call 217; refine Calls.mono (c1.at _) ?_; rintro e w1 ⟨rfl, hb⟩)
  all_goals
    go_wp2
    go_ret
    refine ⟨ret_string (by simp), ?_⟩
    exact Below.trans (Below.drew (Below.refl w.heap.size w)) hb
theorem putLong_in (s : ByteArray) (i n : Int) (w : World) (h0 : 0 ≤ i) (h1 : i + 4 ≤ s.size) (h2 : s.size ≤ 65535) (g0 : 0 ≤ n) (g1 : n < 4294967296) :
    Calls Tryz.prog 173 #[.string s, .int .i64 i, .int .i64 n] w fun e w' => e = .returned (.string (put s i (l4 n))) ∧ Below w.heap.size w w' := by
  obtain ⟨I, rfl⟩ := Int.eq_ofNat_of_zero_le h0
  have := putLong_core s (l4 n) I n w (by omega) h2 (l4_size _) (fromLong_in n g0 g1)
  refine this.mono fun e w' h => ⟨h.1.trans (ret_string ?_), h.2⟩
  simp only [put, prt, l4_size]
  rw [show ((I : Int) + ((4 : Nat) : Int)).toNat = I + 4 by omega]
  simp only [ByteArray.append_assoc, Int.toNat_natCast, Int.toNat_zero]

theorem putByte_in (s : ByteArray) (i n : Int) (w : World) (h0 : 0 ≤ i) (h1 : i + 1 ≤ s.size) (h2 : s.size ≤ 65535) (g0 : 0 ≤ n) (g1 : n < 256) :
    Calls Tryz.prog 134 #[.string s, .int .i64 i, .int .i64 n] w fun e w' => e = .returned (.string (put s i (b1 n))) ∧ Below w.heap.size w w' := by
  obtain ⟨I, rfl⟩ := Int.eq_ofNat_of_zero_le h0
  have hz := b1_size n
  have hz' : (strOfNums [n]).size = 1 := strOfNums_size _
  have hy : (0 : Int) ≤ (I : Int) + 1 := by omega
  have hx : (I : Int) ≤ (s.size : Int) := by omega
  have hv : (I : Int) < (s.size : Int) := by omega
  have hwr : IntKind.i64.wrap ((I : Int) + 1) = (I : Int) + 1 := by rw [IntKind.wrap_i64]; omega
  have hcv := conv1_at n
  have e4 : IntKind.u8.wrap n = n := by rw [IntKind.wrap_u8']; omega
  go_enter Tryz.func134, Tryz.ntmps134
  go_wp2
  go_region
  all_goals
    go_wp2
    go_ret
    refine ⟨ret_string ?_, ?_⟩
    · simp only [put, prt, hz]
      rw [show ((I : Int) + ((1 : Nat) : Int)).toNat = I + 1 by omega]
      simp [b1]
    · first
      | exact ((Below.refl _ _).alloc (Nat.le_refl _) _).drew
      | exact ((Below.refl _ _).drew).alloc (Nat.le_refl _) _

theorem ttl_any (s : ByteArray) (w : World) (hs : s.size ≤ maxLen) :
    Calls Tryz.prog 126 #[.string s] w fun e w' => e = .returned (.int .i64 (bt s 8)) ∧ w' = w := by
  go_enter Tryz.func126, Tryz.ntmps126
  go_wp2_with fail
  refine (byte_any s 8 _ hs).mono ?_; rintro e w' ⟨rfl, rfl⟩
  go_wp2
  go_ret
  exact ⟨rfl, rfl⟩
theorem portPlace_core (s : ByteArray) (k p d : Int) (w : World) (k0 : 0 ≤ k) (k1 : k ≤ 4) (d0 : 0 ≤ d) (d1 : d ≤ 60) (cP : Ret 77 #[.string s] (.int .i64 p)) (cH : Ret 115 #[.string s] (.int .i64 d)) (r : Int)
    (hr : r = d + (if p = 1 then 4 else k)) :
    Calls Tryz.prog 132 #[.string s, .int .i64 k] w fun e w' => e = .returned (.int .i64 r) ∧ w' = w := by
  have HR : Hid _ := hr
  clear hr
  by_cases c : p = 1
  · subst c
    go_enter Tryz.func132, Tryz.ntmps132
    go_wp2_with fail
    refine Calls.mono (cP.at _) ?_; rintro e w' ⟨rfl, rfl⟩
    go_wp2_with fail
    refine Calls.mono (cH.at _) ?_; rintro e w' ⟨rfl, rfl⟩
    go_wp2
    go_ret
    exact ⟨ret_int (by rw [HR.out]; rfl), rfl⟩
  · have c' : (p == 1) = false := by simpa using c
    have C : Hid _ := c
    clear c
    go_enter Tryz.func132, Tryz.ntmps132
    go_wp2_with fail
    refine Calls.mono (cP.at _) ?_; rintro e w' ⟨rfl, rfl⟩
    go_wp2_with fail
    refine Calls.mono (cH.at _) ?_; rintro e w' ⟨rfl, rfl⟩
    go_wp2
    go_ret
    exact ⟨ret_int (by rw [HR.out, if_neg C.out]), rfl⟩
theorem portPlace_any (s : ByteArray) (k : Int) (w : World) (hs : s.size ≤ maxLen) (k0 : 0 ≤ k) (k1 : k ≤ 4) :
    Calls Tryz.prog 132 #[.string s, .int .i64 k] w fun e w' => e = .returned (.int .i64 (ppl s k)) ∧ w' = w :=
  portPlace_core s k (bt s 9) (hdv s) w k0 k1 (hdv_bd s).1 (hdv_bd s).2 (fun w => protocol_any s w hs) (fun w => headerLength_any s w hs) _ rfl

theorem source_core (s : ByteArray) (a p o : Int) (w : World) (cA : Ret 111 #[.string s] (.int .i64 a)) (cO : Ret 132 #[.string s, .int .i64 0] (.int .i64 o)) (cW : Ret 162 #[.string s, .int .i64 o] (.int .i64 p)) :
    Calls Tryz.prog 136 #[.string s] w fun e w' => e = .returned (.agg #[.int .i64 a, .int .i64 p]) ∧ Below w.heap.size w w' := by
  go_enter Tryz.func136, Tryz.ntmps136
  go_wp2_with fail
  refine Calls.mono (cA.at _) ?_; rintro e w' ⟨rfl, rfl⟩
  go_wp2_with fail
  refine Calls.mono (cO.at _) ?_; rintro e w' ⟨rfl, rfl⟩
  go_wp2_with fail
  refine Calls.mono (cW.at _) ?_; rintro e w' ⟨rfl, rfl⟩
  go_wp2
  exact bodyPost_ret (v := .agg #[.int .i64 a, .int .i64 p]) (by simp [results, Tryz.results136, go_sem]) rfl ⟨rfl, (Below.refl _ _).alloc (Nat.le_refl _) _⟩
theorem source2_any (s : ByteArray) (w : World) (hs : s.size ≤ maxLen) :
    Calls Tryz.prog 136 #[.string s] w fun e w' => e = .returned (.agg #[.int .i64 (lg s 12), .int .i64 (wd s (ppl s 0))]) ∧ Below w.heap.size w w' :=
  source_core s _ _ (ppl s 0) w (fun w => source_any s w hs) (fun w => portPlace_any s 0 w hs (by decide) (by decide)) (fun w => word_any s _ w hs (ppl_bd s 0 (by decide) (by decide)).1 (by have := (ppl_bd s 0 (by decide) (by decide)).2; omega))
theorem dest_core (s : ByteArray) (a p o : Int) (w : World) (cA : Ret 88 #[.string s] (.int .i64 a)) (cO : Ret 132 #[.string s, .int .i64 2] (.int .i64 o)) (cW : Ret 162 #[.string s, .int .i64 o] (.int .i64 p)) :
    Calls Tryz.prog 124 #[.string s] w fun e w' => e = .returned (.agg #[.int .i64 a, .int .i64 p]) ∧ Below w.heap.size w w' := by
  go_enter Tryz.func124, Tryz.ntmps124
  go_wp2_with fail
  refine Calls.mono (cA.at _) ?_; rintro e w' ⟨rfl, rfl⟩
  go_wp2_with fail
  refine Calls.mono (cO.at _) ?_; rintro e w' ⟨rfl, rfl⟩
  go_wp2_with fail
  refine Calls.mono (cW.at _) ?_; rintro e w' ⟨rfl, rfl⟩
  go_wp2
  exact bodyPost_ret (v := .agg #[.int .i64 a, .int .i64 p]) (by simp [results, Tryz.results124, go_sem]) rfl ⟨rfl, (Below.refl _ _).alloc (Nat.le_refl _) _⟩
theorem dest2_any (s : ByteArray) (w : World) (hs : s.size ≤ maxLen) :
    Calls Tryz.prog 124 #[.string s] w fun e w' => e = .returned (.agg #[.int .i64 (lg s 16), .int .i64 (wd s (ppl s 2))]) ∧ Below w.heap.size w w' :=
  dest_core s _ _ (ppl s 2) w (fun w => destination_any s w hs) (fun w => portPlace_any s 2 w hs (by decide) (by decide)) (fun w => word_any s _ w hs (ppl_bd s 2 (by decide) (by decide)).1 (by have := (ppl_bd s 2 (by decide) (by decide)).2; omega))
theorem peer_core (s : ByteArray) (p a q r : Int) (w : World) (cP : Ret 77 #[.string s] (.int .i64 p)) (cA : Ret 88 #[.string s] (.int .i64 a)) (cD : RetB 124 #[.string s] (.agg #[.int .i64 a, .int .i64 q])) (hr : r = if p = 1 then 0 else q) :
    Calls Tryz.prog 118 #[.string s] w fun e w' => e = .returned (.agg #[.int .i64 a, .int .i64 r]) ∧ Below w.heap.size w w' := by
  by_cases h : p = 1
  · subst h
    have hr' : r = 0 := hr
    subst hr'
    clear hr
    go_enter Tryz.func118, Tryz.ntmps118
    go_wp2_with fail
    refine Calls.mono (cP.at _) ?_; rintro e w' ⟨rfl, rfl⟩
    go_wp2_with fail
    refine Calls.mono (cA.at _) ?_; rintro e w' ⟨rfl, rfl⟩
    go_wp2
    exact bodyPost_ret (v := .agg #[.int .i64 a, .int .i64 0]) (by simp [results, Tryz.results118, go_sem]) rfl ⟨rfl, (Below.refl _ _).alloc (Nat.le_refl _) _⟩
  · have h' : (p == 1) = false := by simpa using h
    rw [if_neg h] at hr
    subst hr
    clear h
    go_enter Tryz.func118, Tryz.ntmps118
    go_wp2_with fail
    refine Calls.mono (cP.at _) ?_; rintro e w' ⟨rfl, rfl⟩
    go_wp2_with fail
    refine Calls.mono (cD.at _) ?_; rintro e w1 ⟨rfl, hb⟩
    have B0 := (hb.block w.heap.size (by simp)).trans (alloc1 w _)
    obtain ⟨d0, d1⟩ := cell2 B0
    have f0 := nofrz B0
    have hz : w.heap.size < w1.heap.size := by have := hb.size; simp at this; omega
    clear B0
    go_wp2
    refine bodyPost_ret (v := .agg #[.int .i64 a, .int .i64 r]) (by simp [results, Tryz.results118, go_sem, d0, d1]) rfl ⟨rfl, ?_⟩
    repeat refine Below.setCell ?_ (by simp <;> omega) _
    exact ((Below.refl _ _).alloc (Nat.le_refl _) _).trans (hb.mono (by simp))
theorem peer_any (s : ByteArray) (w : World) (hs : s.size ≤ maxLen) :
    Calls Tryz.prog 118 #[.string s] w fun e w' => e = .returned (.agg #[.int .i64 (lg s 16), .int .i64 (if bt s 9 = 1 then 0 else wd s (ppl s 2))]) ∧ Below w.heap.size w w' :=
  peer_core s (bt s 9) _ _ _ w (fun w => protocol_any s w hs) (fun w => destination_any s w hs) (fun w => dest2_any s w hs) rfl
theorem wsa_core (s s1 : ByteArray) (a : Int) (w : World) (cL : RetB 173 #[.string s, .int .i64 12, .int .i64 a] (.string s1)) :
    Calls Tryz.prog 123 #[.string s, .int .i64 a] w fun e w' => e = .returned (.string s1) ∧ Below w.heap.size w w' := by
  go_enter Tryz.func123, Tryz.ntmps123
  go_wp2_with fail
  refine Calls.mono (cL.at _) ?_; rintro e w1 ⟨rfl, hb⟩
  go_wp2
  go_ret
  exact ⟨rfl, hb⟩
theorem wda_core (s s1 : ByteArray) (a : Int) (w : World) (cL : RetB 173 #[.string s, .int .i64 16, .int .i64 a] (.string s1)) :
    Calls Tryz.prog 119 #[.string s, .int .i64 a] w fun e w' => e = .returned (.string s1) ∧ Below w.heap.size w w' := by
  go_enter Tryz.func119, Tryz.ntmps119
  go_wp2_with fail
  refine Calls.mono (cL.at _) ?_; rintro e w1 ⟨rfl, hb⟩
  go_wp2
  go_ret
  exact ⟨rfl, hb⟩
/-- the source's address alone -/
theorem wsa_any (s : ByteArray) (a : Int) (n20 : 20 ≤ (s.size : Int)) (n64 : s.size ≤ 65535) (a0 : 0 ≤ a) (a1 : a < 4294967296) : RetB 123 #[.string s, .int .i64 a] (.string (put s 12 (l4 a))) := fun w =>
  wsa_core s _ a w (fun w => putLong_in s 12 a w (by decide) (by omega) n64 a0 a1)
/-- the destination's address alone -/
theorem wda_any (s : ByteArray) (a : Int) (n20 : 20 ≤ (s.size : Int)) (n64 : s.size ≤ 65535) (a0 : 0 ≤ a) (a1 : a < 4294967296) : RetB 119 #[.string s, .int .i64 a] (.string (put s 16 (l4 a))) := fun w =>
  wda_core s _ a w (fun w => putLong_in s 16 a w (by decide) (by omega) n64 a0 a1)
theorem wsrc_core (s s1 s2 : ByteArray) (a p o : Int) (w : World) (cL : RetB 123 #[.string s, .int .i64 a] (.string s1)) (cO : Ret 132 #[.string s1, .int .i64 0] (.int .i64 o)) (cW : RetB 131 #[.string s1, .int .i64 o, .int .i64 p] (.string s2)) :
    Calls Tryz.prog 121 #[.string s, .agg #[.int .i64 a, .int .i64 p]] w fun e w' => e = .returned (.string s2) ∧ Below w.heap.size w w' := by
  go_enter Tryz.func121, Tryz.ntmps121
  go_wp2_with fail
  refine Calls.mono (cL.at _) ?_; rintro e w1 ⟨rfl, hb⟩
  have B0 := (hb.block w.heap.size (by simp)).trans (alloc1 w _)
  obtain ⟨d0, d1⟩ := cell2 B0
  have HB : Hid _ := hb
  have hz : w.heap.size ≤ w1.heap.size := by have := hb.size; simp at this; omega
  clear B0 hb
  go_wp2
  go_region_with (first
    | (go_at_call 132; refine Calls.mono (cO.at _) ?_; rintro e w' ⟨rfl, rfl⟩)
    | (go_at_call 131; refine Calls.mono (cW.at _) ?_; rintro e w2 ⟨rfl, hb2⟩))
  all_goals
    go_wp2
    go_ret
    exact ⟨rfl, (((Below.refl _ _).alloc (Nat.le_refl _) _).trans (HB.out.mono (by simp))).trans (Below.trans (Below.drew (Below.refl w.heap.size _)) (hb2.mono hz))⟩
theorem wdst_core (s s1 s2 : ByteArray) (a p o : Int) (w : World) (cL : RetB 119 #[.string s, .int .i64 a] (.string s1)) (cO : Ret 132 #[.string s1, .int .i64 2] (.int .i64 o)) (cW : RetB 131 #[.string s1, .int .i64 o, .int .i64 p] (.string s2)) :
    Calls Tryz.prog 86 #[.string s, .agg #[.int .i64 a, .int .i64 p]] w fun e w' => e = .returned (.string s2) ∧ Below w.heap.size w w' := by
  go_enter Tryz.func86, Tryz.ntmps86
  go_wp2_with fail
  refine Calls.mono (cL.at _) ?_; rintro e w1 ⟨rfl, hb⟩
  have B0 := (hb.block w.heap.size (by simp)).trans (alloc1 w _)
  obtain ⟨d0, d1⟩ := cell2 B0
  have HB : Hid _ := hb
  have hz : w.heap.size ≤ w1.heap.size := by have := hb.size; simp at this; omega
  clear B0 hb
  go_wp2
  go_region_with (first
    | (go_at_call 132; refine Calls.mono (cO.at _) ?_; rintro e w' ⟨rfl, rfl⟩)
    | (go_at_call 131; refine Calls.mono (cW.at _) ?_; rintro e w2 ⟨rfl, hb2⟩))
  all_goals
    go_wp2
    go_ret
    exact ⟨rfl, (((Below.refl _ _).alloc (Nat.le_refl _) _).trans (HB.out.mono (by simp))).trans (Below.trans (Below.drew (Below.refl w.heap.size _)) (hb2.mono hz))⟩
theorem wsrc_any (s : ByteArray) (a p : Int) (w : World) (F : Fits s) (hp : ppl s 0 + 2 ≤ s.size) (a0 : 0 ≤ a) (a1 : a < 4294967296) (p0 : 0 ≤ p) (p1 : p < 65536) :
    Calls Tryz.prog 121 #[.string s, .agg #[.int .i64 a, .int .i64 p]] w fun e w' => e = .returned (.string (wsrc s a p)) ∧ Below w.heap.size w w' := by
  have h20 := F.n20
  have h64 := F.n64
  have z1 : (put s 12 (l4 a)).size = s.size := put_size s 12 _ (by decide) (by rw [l4_size]; omega)
  have e1 : ppl (put s 12 (l4 a)) 0 = ppl s 0 := by
    unfold ppl; rw [hdv_put (by decide) (by rw [l4_size]; omega), bt_put_off (by decide) (by rw [l4_size]; omega) (by omega)]
  have hpp := ppl_bd s 0 (by decide) (by decide)
  exact wsrc_core s (put s 12 (l4 a)) _ a p (ppl (put s 12 (l4 a)) 0) w (wsa_any s a (by omega) h64 a0 a1) (fun w => portPlace_any _ 0 w (size_le (by omega)) (by decide) (by decide))
    (fun w => putWord_in _ _ p w (by omega) (by omega) (by omega) p0 p1)
theorem wdst_any (s : ByteArray) (a p : Int) (w : World) (F : Fits s) (hp : ppl s 2 + 2 ≤ s.size) (a0 : 0 ≤ a) (a1 : a < 4294967296) (p0 : 0 ≤ p) (p1 : p < 65536) :
    Calls Tryz.prog 86 #[.string s, .agg #[.int .i64 a, .int .i64 p]] w fun e w' => e = .returned (.string (wdst s a p)) ∧ Below w.heap.size w w' := by
  have h20 := F.n20
  have h64 := F.n64
  have z1 : (put s 16 (l4 a)).size = s.size := put_size s 16 _ (by decide) (by rw [l4_size]; omega)
  have e1 : ppl (put s 16 (l4 a)) 2 = ppl s 2 := by
    unfold ppl; rw [hdv_put (by decide) (by rw [l4_size]; omega), bt_put_off (by decide) (by rw [l4_size]; omega) (by omega)]
  have hpp := ppl_bd s 2 (by decide) (by decide)
  exact wdst_core s (put s 16 (l4 a)) _ a p (ppl (put s 16 (l4 a)) 2) w (wda_any s a (by omega) h64 a0 a1) (fun w => portPlace_any _ 2 w (size_le (by omega)) (by decide) (by decide))
    (fun w => putWord_in _ _ p w (by omega) (by omega) (by omega) p0 p1)
end Go.Proofs.YthiljpbodmajaabGreat
