/-
  CONTRACTS: package natboxref: mirrored, walked.
-/
import Derived.Test.YthiljpbodmajaabGreatVrdz
import Derived.Deep.DeepCutAuto
namespace Go.Proofs.YthiljpbodmajaabGreat
open Go.RowKit Plain
set_option linter.unusedVariables false

set_option maxHeartbeats 4000000 in
set_option maxRecDepth 2000 in
theorem rmir_icmp (b : Nat) (f q : ByteArray) (p x da dp hv kv : Int) (w : World) (c9 : Ret 141 #[.string q, .int .i64 9, .int .i64 1] (.int .i64 p)) (cs : Ret 207 #[.string q] (.int .i64 x)) (c16 : Ret 141 #[.string q, .int .i64 16, .int .i64 4] (.int .i64 da)) (cd : Ret 204 #[.string q] (.int .i64 dp))
    (ch : ∀ wx, Below w.heap.size w wx → Calls Tryz.prog 203 #[.pointer (some ⟨b, 0, none⟩), .int .i64 p, .int .i64 x] wx fun e w' => e = .returned (.int .i64 hv) ∧ Below wx.heap.size wx w')
    (ce : ∀ wx, Below w.heap.size w wx → Calls Tryz.prog 226 #[.pointer (some ⟨b, 0, none⟩), .int .i64 p, .int .i64 da, .int .i64 dp] wx fun e w' => e = .returned (.int .i64 kv) ∧ Below wx.heap.size wx w') (hp : p = 1) :
    Calls Tryz.prog 198 #[.pointer (some ⟨b, 0, none⟩), .string f, .string q] w fun e w' => e = .returned (.tuple #[.string ⟨#[]⟩, .string ⟨#[]⟩]) ∧ Below w.heap.size w w' := by
  subst hp
  have CH : Hid _ := ch
  clear ch
  have CE : Hid _ := ce
  clear ce
  go_enter Tryz.func198, Tryz.ntmps198
  go_wp2_with fail
  refine Calls.mono (c9.at _) ?_; rintro e w' ⟨rfl, hw⟩; replace hw := hw.symm; subst hw
  go_wp2_with fail
  refine Calls.mono (cs.at _) ?_; rintro e w' ⟨rfl, hw⟩; replace hw := hw.symm; subst hw
  go_wp2_with fail
  refine Calls.mono (CH.out _ (Below.refl w.heap.size w)) ?_; rintro e w1 ⟨rfl, hb1⟩
  have B1 : Hid (Below w.heap.size w w1) := (Below.refl w.heap.size w).trans (hb1.mono (Below.refl w.heap.size w).size)
  clear hb1
  go_wp2_with fail
  refine Calls.mono (c16.at _) ?_; rintro e w' ⟨rfl, hw⟩; replace hw := hw.symm; subst hw
  go_wp2_with fail
  refine Calls.mono (cd.at _) ?_; rintro e w' ⟨rfl, hw⟩; replace hw := hw.symm; subst hw
  go_wp2_with fail
  refine Calls.mono (CE.out _ B1.out) ?_; rintro e w2 ⟨rfl, hb2⟩
  have B2 : Hid (Below w.heap.size w w2) := B1.out.trans (hb2.mono B1.out.size)
  clear hb2
  clear CH CE
  go_upto_region 4 with fail
  try go_frame
  obtain ⟨SX, hSX⟩ : ∃ SX : World → Prop, ∀ w', Sof SX w' ↔ True := ⟨_, fun _ => Iff.rfl⟩
  have HSX : Hid _ := hSX
  clear hSX
  have ss : Hid (Sof SX w2.drew) := (HSX.out _).2 trivial
  refine wp_region_held_drew (S := fun w' => Sof SX w') (by kernel_rfl) ss.out (fun hHeld => ?_)
  refine takeR (i := 0) (v := .int .i64 1) rfl (by kernel_rfl) (by kernel_rfl) (by kernel_rfl) (fun _ _ _ h => h) (yieldr_mv (by rfl) (.inl rfl) rfl) (by assumption) ?_
  try go_frame
  refine takeR (i := 1) (v := .bool true) rfl (by kernel_rfl) (by kernel_rfl) (by kernel_rfl) (fun _ _ _ h => h) (Or.inl ⟨by rfl, fun w' hSw => by first | rfl | go_simp⟩) (by assumption) ?_
  try go_frame
  refine takeR (i := 2) (v := .bool true) rfl (by kernel_rfl) (by kernel_rfl) (by kernel_rfl) (fun _ _ _ h => h) (yieldr_mv (by rfl) (.inl rfl) rfl) (by assumption) ?_
  try go_frame
  refine takeR (i := 3) (v := undef) rfl (by kernel_rfl) (by kernel_rfl) (by kernel_rfl) (fun _ _ _ h => h) (skipR (by rfl)) (by assumption) ?_
  try go_frame
  refine takeR (i := 4) (v := undef) rfl (by kernel_rfl) (by kernel_rfl) (by kernel_rfl) (fun _ _ _ h => h) (skipR (by rfl)) (by assumption) ?_
  try go_frame
  refine takeR (i := 5) (v := .bool true) rfl (by kernel_rfl) (by kernel_rfl) (by kernel_rfl) (fun _ _ _ h => h) (Or.inl ⟨by rfl, fun w' hSw => by first | rfl | go_simp⟩) (by assumption) ?_
  try go_frame
  refine takeR (i := 6) (v := .bool true) rfl (by kernel_rfl) (by kernel_rfl) (by kernel_rfl) (fun _ _ _ h => h) (yieldr_mv (by rfl) (.inl rfl) rfl) (by assumption) ?_
  try go_frame
  refine takeR (i := 7) (v := undef) rfl (by kernel_rfl) (by kernel_rfl) (by kernel_rfl) (fun _ _ _ h => h) (skipR (by rfl)) (by assumption) ?_
  try go_frame
  refine takeR (i := 8) (v := undef) rfl (by kernel_rfl) (by kernel_rfl) (by kernel_rfl) (fun _ _ _ h => h) (skipR (by rfl)) (by assumption) ?_
  try go_frame
  refine takeR (i := 9) (v := .bool true) rfl (by kernel_rfl) (by kernel_rfl) (by kernel_rfl) (fun _ _ _ h => h) (Or.inl ⟨by rfl, fun w' hSw => by first | rfl | go_simp⟩) (by assumption) ?_
  try go_frame
  refine takeR (i := 10) (v := .bool true) rfl (by kernel_rfl) (by kernel_rfl) (by kernel_rfl) (fun _ _ _ h => h) (yieldr_mv (by rfl) (.inl rfl) rfl) (by assumption) ?_
  try go_frame
  refine takeR (i := 11) (v := undef) rfl (by kernel_rfl) (by kernel_rfl) (by kernel_rfl) (fun _ _ _ h => h) (skipR (by rfl)) (by assumption) ?_
  try go_frame
  refine takeR (i := 12) (v := undef) rfl (by kernel_rfl) (by kernel_rfl) (by kernel_rfl) (fun _ _ _ h => h) (skipR (by rfl)) (by assumption) ?_
  try go_frame
  refine takeR (i := 13) (v := undef) rfl (by kernel_rfl) (by kernel_rfl) (by kernel_rfl) (fun _ _ _ h => h) (skipR (by rfl)) (by assumption) ?_
  try go_frame
  refine takeR (i := 14) (v := undef) rfl (by kernel_rfl) (by kernel_rfl) (by kernel_rfl) (fun _ _ _ h => h) (skipR (by rfl)) (by assumption) ?_
  try go_frame
  refine takeR (i := 15) (v := undef) rfl (by kernel_rfl) (by kernel_rfl) (by kernel_rfl) (fun _ _ _ h => h) (skipR (by rfl)) (by assumption) ?_
  try go_frame
  refine takeR (i := 16) (v := undef) rfl (by kernel_rfl) (by kernel_rfl) (by kernel_rfl) (fun _ _ _ h => h) (skipR (by rfl)) (by assumption) ?_
  try go_frame
  refine takeR (i := 17) (v := undef) rfl (by kernel_rfl) (by kernel_rfl) (by kernel_rfl) (fun _ _ _ h => h) (skipR (by rfl)) (by assumption) ?_
  try go_frame
  refine takeR (i := 18) (v := undef) rfl (by kernel_rfl) (by kernel_rfl) (by kernel_rfl) (fun _ _ _ h => h) (skipR (by rfl)) (by assumption) ?_
  try go_frame
  refine takeR (i := 19) (v := .bool true) rfl (by kernel_rfl) (by kernel_rfl) (by kernel_rfl) (fun _ _ _ h => h) (Or.inl ⟨by rfl, fun w' hSw => by first | rfl | go_simp⟩) (by assumption) ?_
  try go_frame
  refine wpAnyH_done (by kernel_rfl) ?_ _
  go_wp2
  exact bodyPost_ret (v := .tuple #[.string ⟨#[]⟩, .string ⟨#[]⟩]) (by simp [results, Tryz.results198, go_sem]) rfl ⟨rfl, B2.out.drew⟩

set_option maxHeartbeats 4000000 in
set_option maxRecDepth 2000 in
theorem rmir_none (b : Nat) (f q : ByteArray) (p x da dp hv kv : Int) (w : World) (c9 : Ret 141 #[.string q, .int .i64 9, .int .i64 1] (.int .i64 p)) (cs : Ret 207 #[.string q] (.int .i64 x)) (c16 : Ret 141 #[.string q, .int .i64 16, .int .i64 4] (.int .i64 da)) (cd : Ret 204 #[.string q] (.int .i64 dp))
    (ch : ∀ wx, Below w.heap.size w wx → Calls Tryz.prog 203 #[.pointer (some ⟨b, 0, none⟩), .int .i64 p, .int .i64 x] wx fun e w' => e = .returned (.int .i64 hv) ∧ Below wx.heap.size wx w')
    (ce : ∀ wx, Below w.heap.size w wx → Calls Tryz.prog 226 #[.pointer (some ⟨b, 0, none⟩), .int .i64 p, .int .i64 da, .int .i64 dp] wx fun e w' => e = .returned (.int .i64 kv) ∧ Below wx.heap.size wx w') (hp : (p == 1) = false) (h0 : hv < 0) :
    Calls Tryz.prog 198 #[.pointer (some ⟨b, 0, none⟩), .string f, .string q] w fun e w' => e = .returned (.tuple #[.string ⟨#[]⟩, .string ⟨#[]⟩]) ∧ Below w.heap.size w w' := by
  have CH : Hid _ := ch
  clear ch
  have CE : Hid _ := ce
  clear ce
  go_enter Tryz.func198, Tryz.ntmps198
  go_wp2_with fail
  refine Calls.mono (c9.at _) ?_; rintro e w' ⟨rfl, hw⟩; replace hw := hw.symm; subst hw
  go_wp2_with fail
  refine Calls.mono (cs.at _) ?_; rintro e w' ⟨rfl, hw⟩; replace hw := hw.symm; subst hw
  go_wp2_with fail
  refine Calls.mono (CH.out _ (Below.refl w.heap.size w)) ?_; rintro e w1 ⟨rfl, hb1⟩
  have B1 : Hid (Below w.heap.size w w1) := (Below.refl w.heap.size w).trans (hb1.mono (Below.refl w.heap.size w).size)
  clear hb1
  go_wp2_with fail
  refine Calls.mono (c16.at _) ?_; rintro e w' ⟨rfl, hw⟩; replace hw := hw.symm; subst hw
  go_wp2_with fail
  refine Calls.mono (cd.at _) ?_; rintro e w' ⟨rfl, hw⟩; replace hw := hw.symm; subst hw
  go_wp2_with fail
  refine Calls.mono (CE.out _ B1.out) ?_; rintro e w2 ⟨rfl, hb2⟩
  have B2 : Hid (Below w.heap.size w w2) := B1.out.trans (hb2.mono B1.out.size)
  clear hb2
  clear CH CE
  go_upto_region 4 with fail
  try go_frame
  obtain ⟨SX, hSX⟩ : ∃ SX : World → Prop, ∀ w', Sof SX w' ↔ True := ⟨_, fun _ => Iff.rfl⟩
  have HSX : Hid _ := hSX
  clear hSX
  have ss : Hid (Sof SX w2.drew) := (HSX.out _).2 trivial
  refine wp_region_held_drew (S := fun w' => Sof SX w') (by kernel_rfl) ss.out (fun hHeld => ?_)
  refine takeR (i := 0) (v := .int .i64 p) rfl (by kernel_rfl) (by kernel_rfl) (by kernel_rfl) (fun _ _ _ h => h) (yieldr_mv (by rfl) (.inl rfl) rfl) (by assumption) ?_
  try go_frame
  refine takeR (i := 1) (v := .bool false) rfl (by kernel_rfl) (by kernel_rfl) (by kernel_rfl) (fun _ _ _ h => h) (Or.inl ⟨by rfl, fun w' hSw => by first | rfl | go_simp⟩) (by assumption) ?_
  try go_frame
  refine takeR (i := 2) (v := .bool false) rfl (by kernel_rfl) (by kernel_rfl) (by kernel_rfl) (fun _ _ _ h => h) (yieldr_mv (by rfl) (.inl rfl) rfl) (by assumption) ?_
  try go_frame
  refine takeR (i := 3) (v := .int .i64 hv) rfl (by kernel_rfl) (by kernel_rfl) (by kernel_rfl) (fun _ _ _ h => h) (yieldr_mv (by rfl) (.inl rfl) rfl) (by assumption) ?_
  try go_frame
  refine takeR (i := 4) (v := .bool true) rfl (by kernel_rfl) (by kernel_rfl) (by kernel_rfl) (fun _ _ _ h => h) (Or.inl ⟨by rfl, fun w' hSw => by first | rfl | go_simp⟩) (by assumption) ?_
  try go_frame
  refine takeR (i := 5) (v := .bool true) rfl (by kernel_rfl) (by kernel_rfl) (by kernel_rfl) (fun _ _ _ h => h) (Or.inl ⟨by rfl, fun w' hSw => by first | rfl | go_simp⟩) (by assumption) ?_
  try go_frame
  refine takeR (i := 6) (v := .bool true) rfl (by kernel_rfl) (by kernel_rfl) (by kernel_rfl) (fun _ _ _ h => h) (yieldr_mv (by rfl) (.inl rfl) rfl) (by assumption) ?_
  try go_frame
  refine takeR (i := 7) (v := undef) rfl (by kernel_rfl) (by kernel_rfl) (by kernel_rfl) (fun _ _ _ h => h) (skipR (by rfl)) (by assumption) ?_
  try go_frame
  refine takeR (i := 8) (v := undef) rfl (by kernel_rfl) (by kernel_rfl) (by kernel_rfl) (fun _ _ _ h => h) (skipR (by rfl)) (by assumption) ?_
  try go_frame
  refine takeR (i := 9) (v := .bool true) rfl (by kernel_rfl) (by kernel_rfl) (by kernel_rfl) (fun _ _ _ h => h) (Or.inl ⟨by rfl, fun w' hSw => by first | rfl | go_simp⟩) (by assumption) ?_
  try go_frame
  refine takeR (i := 10) (v := .bool true) rfl (by kernel_rfl) (by kernel_rfl) (by kernel_rfl) (fun _ _ _ h => h) (yieldr_mv (by rfl) (.inl rfl) rfl) (by assumption) ?_
  try go_frame
  refine takeR (i := 11) (v := undef) rfl (by kernel_rfl) (by kernel_rfl) (by kernel_rfl) (fun _ _ _ h => h) (skipR (by rfl)) (by assumption) ?_
  try go_frame
  refine takeR (i := 12) (v := undef) rfl (by kernel_rfl) (by kernel_rfl) (by kernel_rfl) (fun _ _ _ h => h) (skipR (by rfl)) (by assumption) ?_
  try go_frame
  refine takeR (i := 13) (v := undef) rfl (by kernel_rfl) (by kernel_rfl) (by kernel_rfl) (fun _ _ _ h => h) (skipR (by rfl)) (by assumption) ?_
  try go_frame
  refine takeR (i := 14) (v := undef) rfl (by kernel_rfl) (by kernel_rfl) (by kernel_rfl) (fun _ _ _ h => h) (skipR (by rfl)) (by assumption) ?_
  try go_frame
  refine takeR (i := 15) (v := undef) rfl (by kernel_rfl) (by kernel_rfl) (by kernel_rfl) (fun _ _ _ h => h) (skipR (by rfl)) (by assumption) ?_
  try go_frame
  refine takeR (i := 16) (v := undef) rfl (by kernel_rfl) (by kernel_rfl) (by kernel_rfl) (fun _ _ _ h => h) (skipR (by rfl)) (by assumption) ?_
  try go_frame
  refine takeR (i := 17) (v := undef) rfl (by kernel_rfl) (by kernel_rfl) (by kernel_rfl) (fun _ _ _ h => h) (skipR (by rfl)) (by assumption) ?_
  try go_frame
  refine takeR (i := 18) (v := undef) rfl (by kernel_rfl) (by kernel_rfl) (by kernel_rfl) (fun _ _ _ h => h) (skipR (by rfl)) (by assumption) ?_
  try go_frame
  refine takeR (i := 19) (v := .bool true) rfl (by kernel_rfl) (by kernel_rfl) (by kernel_rfl) (fun _ _ _ h => h) (Or.inl ⟨by rfl, fun w' hSw => by first | rfl | go_simp⟩) (by assumption) ?_
  try go_frame
  refine wpAnyH_done (by kernel_rfl) ?_ _
  go_wp2
  exact bodyPost_ret (v := .tuple #[.string ⟨#[]⟩, .string ⟨#[]⟩]) (by simp [results, Tryz.results198, go_sem]) rfl ⟨rfl, B2.out.drew⟩

set_option maxHeartbeats 4000000 in
set_option maxRecDepth 2000 in
theorem rmir_nobody (b : Nat) (f q : ByteArray) (p x da dp hv kv : Int) (w : World) (c9 : Ret 141 #[.string q, .int .i64 9, .int .i64 1] (.int .i64 p)) (cs : Ret 207 #[.string q] (.int .i64 x)) (c16 : Ret 141 #[.string q, .int .i64 16, .int .i64 4] (.int .i64 da)) (cd : Ret 204 #[.string q] (.int .i64 dp))
    (ch : ∀ wx, Below w.heap.size w wx → Calls Tryz.prog 203 #[.pointer (some ⟨b, 0, none⟩), .int .i64 p, .int .i64 x] wx fun e w' => e = .returned (.int .i64 hv) ∧ Below wx.heap.size wx w')
    (ce : ∀ wx, Below w.heap.size w wx → Calls Tryz.prog 226 #[.pointer (some ⟨b, 0, none⟩), .int .i64 p, .int .i64 da, .int .i64 dp] wx fun e w' => e = .returned (.int .i64 kv) ∧ Below wx.heap.size wx w') (hp : (p == 1) = false) (h0 : 0 ≤ hv) (h1 : kv < 0) :
    Calls Tryz.prog 198 #[.pointer (some ⟨b, 0, none⟩), .string f, .string q] w fun e w' => e = .returned (.tuple #[.string ⟨#[]⟩, .string ⟨#[]⟩]) ∧ Below w.heap.size w w' := by
  have CH : Hid _ := ch
  clear ch
  have CE : Hid _ := ce
  clear ce
  go_enter Tryz.func198, Tryz.ntmps198
  go_wp2_with fail
  refine Calls.mono (c9.at _) ?_; rintro e w' ⟨rfl, hw⟩; replace hw := hw.symm; subst hw
  go_wp2_with fail
  refine Calls.mono (cs.at _) ?_; rintro e w' ⟨rfl, hw⟩; replace hw := hw.symm; subst hw
  go_wp2_with fail
  refine Calls.mono (CH.out _ (Below.refl w.heap.size w)) ?_; rintro e w1 ⟨rfl, hb1⟩
  have B1 : Hid (Below w.heap.size w w1) := (Below.refl w.heap.size w).trans (hb1.mono (Below.refl w.heap.size w).size)
  clear hb1
  go_wp2_with fail
  refine Calls.mono (c16.at _) ?_; rintro e w' ⟨rfl, hw⟩; replace hw := hw.symm; subst hw
  go_wp2_with fail
  refine Calls.mono (cd.at _) ?_; rintro e w' ⟨rfl, hw⟩; replace hw := hw.symm; subst hw
  go_wp2_with fail
  refine Calls.mono (CE.out _ B1.out) ?_; rintro e w2 ⟨rfl, hb2⟩
  have B2 : Hid (Below w.heap.size w w2) := B1.out.trans (hb2.mono B1.out.size)
  clear hb2
  clear CH CE
  go_upto_region 4 with fail
  try go_frame
  obtain ⟨SX, hSX⟩ : ∃ SX : World → Prop, ∀ w', Sof SX w' ↔ True := ⟨_, fun _ => Iff.rfl⟩
  have HSX : Hid _ := hSX
  clear hSX
  have ss : Hid (Sof SX w2.drew) := (HSX.out _).2 trivial
  refine wp_region_held_drew (S := fun w' => Sof SX w') (by kernel_rfl) ss.out (fun hHeld => ?_)
  refine takeR (i := 0) (v := .int .i64 p) rfl (by kernel_rfl) (by kernel_rfl) (by kernel_rfl) (fun _ _ _ h => h) (yieldr_mv (by rfl) (.inl rfl) rfl) (by assumption) ?_
  try go_frame
  refine takeR (i := 1) (v := .bool false) rfl (by kernel_rfl) (by kernel_rfl) (by kernel_rfl) (fun _ _ _ h => h) (Or.inl ⟨by rfl, fun w' hSw => by first | rfl | go_simp⟩) (by assumption) ?_
  try go_frame
  refine takeR (i := 2) (v := .bool false) rfl (by kernel_rfl) (by kernel_rfl) (by kernel_rfl) (fun _ _ _ h => h) (yieldr_mv (by rfl) (.inl rfl) rfl) (by assumption) ?_
  try go_frame
  refine takeR (i := 3) (v := .int .i64 hv) rfl (by kernel_rfl) (by kernel_rfl) (by kernel_rfl) (fun _ _ _ h => h) (yieldr_mv (by rfl) (.inl rfl) rfl) (by assumption) ?_
  try go_frame
  refine takeR (i := 4) (v := .bool false) rfl (by kernel_rfl) (by kernel_rfl) (by kernel_rfl) (fun _ _ _ h => h) (Or.inl ⟨by rfl, fun w' hSw => by first | rfl | go_simp⟩) (by assumption) ?_
  try go_frame
  refine takeR (i := 5) (v := .bool false) rfl (by kernel_rfl) (by kernel_rfl) (by kernel_rfl) (fun _ _ _ h => h) (Or.inl ⟨by rfl, fun w' hSw => by first | rfl | go_simp⟩) (by assumption) ?_
  try go_frame
  refine takeR (i := 6) (v := .bool false) rfl (by kernel_rfl) (by kernel_rfl) (by kernel_rfl) (fun _ _ _ h => h) (yieldr_mv (by rfl) (.inl rfl) rfl) (by assumption) ?_
  try go_frame
  refine takeR (i := 7) (v := .int .i64 kv) rfl (by kernel_rfl) (by kernel_rfl) (by kernel_rfl) (fun _ _ _ h => h) (yieldr_mv (by rfl) (.inl rfl) rfl) (by assumption) ?_
  try go_frame
  refine takeR (i := 8) (v := .bool true) rfl (by kernel_rfl) (by kernel_rfl) (by kernel_rfl) (fun _ _ _ h => h) (Or.inl ⟨by rfl, fun w' hSw => by first | rfl | go_simp⟩) (by assumption) ?_
  try go_frame
  refine takeR (i := 9) (v := .bool true) rfl (by kernel_rfl) (by kernel_rfl) (by kernel_rfl) (fun _ _ _ h => h) (Or.inl ⟨by rfl, fun w' hSw => by first | rfl | go_simp⟩) (by assumption) ?_
  try go_frame
  refine takeR (i := 10) (v := .bool true) rfl (by kernel_rfl) (by kernel_rfl) (by kernel_rfl) (fun _ _ _ h => h) (yieldr_mv (by rfl) (.inl rfl) rfl) (by assumption) ?_
  try go_frame
  refine takeR (i := 11) (v := undef) rfl (by kernel_rfl) (by kernel_rfl) (by kernel_rfl) (fun _ _ _ h => h) (skipR (by rfl)) (by assumption) ?_
  try go_frame
  refine takeR (i := 12) (v := undef) rfl (by kernel_rfl) (by kernel_rfl) (by kernel_rfl) (fun _ _ _ h => h) (skipR (by rfl)) (by assumption) ?_
  try go_frame
  refine takeR (i := 13) (v := undef) rfl (by kernel_rfl) (by kernel_rfl) (by kernel_rfl) (fun _ _ _ h => h) (skipR (by rfl)) (by assumption) ?_
  try go_frame
  refine takeR (i := 14) (v := undef) rfl (by kernel_rfl) (by kernel_rfl) (by kernel_rfl) (fun _ _ _ h => h) (skipR (by rfl)) (by assumption) ?_
  try go_frame
  refine takeR (i := 15) (v := undef) rfl (by kernel_rfl) (by kernel_rfl) (by kernel_rfl) (fun _ _ _ h => h) (skipR (by rfl)) (by assumption) ?_
  try go_frame
  refine takeR (i := 16) (v := undef) rfl (by kernel_rfl) (by kernel_rfl) (by kernel_rfl) (fun _ _ _ h => h) (skipR (by rfl)) (by assumption) ?_
  try go_frame
  refine takeR (i := 17) (v := undef) rfl (by kernel_rfl) (by kernel_rfl) (by kernel_rfl) (fun _ _ _ h => h) (skipR (by rfl)) (by assumption) ?_
  try go_frame
  refine takeR (i := 18) (v := undef) rfl (by kernel_rfl) (by kernel_rfl) (by kernel_rfl) (fun _ _ _ h => h) (skipR (by rfl)) (by assumption) ?_
  try go_frame
  refine takeR (i := 19) (v := .bool true) rfl (by kernel_rfl) (by kernel_rfl) (by kernel_rfl) (fun _ _ _ h => h) (Or.inl ⟨by rfl, fun w' hSw => by first | rfl | go_simp⟩) (by assumption) ?_
  try go_frame
  refine wpAnyH_done (by kernel_rfl) ?_ _
  go_wp2
  exact bodyPost_ret (v := .tuple #[.string ⟨#[]⟩, .string ⟨#[]⟩]) (by simp [results, Tryz.results198, go_sem]) rfl ⟨rfl, B2.out.drew⟩

set_option maxHeartbeats 4000000 in
set_option maxRecDepth 2000 in
theorem rmir_else (b : Nat) (f q : ByteArray) (p x da dp hv kv : Int) (w : World) (c9 : Ret 141 #[.string q, .int .i64 9, .int .i64 1] (.int .i64 p)) (cs : Ret 207 #[.string q] (.int .i64 x)) (c16 : Ret 141 #[.string q, .int .i64 16, .int .i64 4] (.int .i64 da)) (cd : Ret 204 #[.string q] (.int .i64 dp))
    (ch : ∀ wx, Below w.heap.size w wx → Calls Tryz.prog 203 #[.pointer (some ⟨b, 0, none⟩), .int .i64 p, .int .i64 x] wx fun e w' => e = .returned (.int .i64 hv) ∧ Below wx.heap.size wx w')
    (ce : ∀ wx, Below w.heap.size w wx → Calls Tryz.prog 226 #[.pointer (some ⟨b, 0, none⟩), .int .i64 p, .int .i64 da, .int .i64 dp] wx fun e w' => e = .returned (.int .i64 kv) ∧ Below wx.heap.size wx w') (hp : (p == 1) = false) (i k : Nat) (hi : hv = (i : Int)) (hk : kv = (k : Int)) (sa oa : Int) (c12 : Ret 141 #[.string q, .int .i64 12, .int .i64 4] (.int .i64 sa)) (cb : ∀ wx, Below w.heap.size w wx → wx.cell? ⟨b, 1, none⟩ = some (.int .i64 oa)) (hd : (sa != oa) = true) :
    Calls Tryz.prog 198 #[.pointer (some ⟨b, 0, none⟩), .string f, .string q] w fun e w' => e = .returned (.tuple #[.string ⟨#[]⟩, .string ⟨#[]⟩]) ∧ Below w.heap.size w w' := by
  subst hi
  subst hk
  have CH : Hid _ := ch
  clear ch
  have CE : Hid _ := ce
  clear ce
  have CB : Hid _ := cb
  clear cb
  go_enter Tryz.func198, Tryz.ntmps198
  go_wp2_with fail
  refine Calls.mono (c9.at _) ?_; rintro e w' ⟨rfl, hw⟩; replace hw := hw.symm; subst hw
  go_wp2_with fail
  refine Calls.mono (cs.at _) ?_; rintro e w' ⟨rfl, hw⟩; replace hw := hw.symm; subst hw
  go_wp2_with fail
  refine Calls.mono (CH.out _ (Below.refl w.heap.size w)) ?_; rintro e w1 ⟨rfl, hb1⟩
  have B1 : Hid (Below w.heap.size w w1) := (Below.refl w.heap.size w).trans (hb1.mono (Below.refl w.heap.size w).size)
  clear hb1
  go_wp2_with fail
  refine Calls.mono (c16.at _) ?_; rintro e w' ⟨rfl, hw⟩; replace hw := hw.symm; subst hw
  go_wp2_with fail
  refine Calls.mono (cd.at _) ?_; rintro e w' ⟨rfl, hw⟩; replace hw := hw.symm; subst hw
  go_wp2_with fail
  refine Calls.mono (CE.out _ B1.out) ?_; rintro e w2 ⟨rfl, hb2⟩
  have B2 : Hid (Below w.heap.size w w2) := B1.out.trans (hb2.mono B1.out.size)
  clear hb2
  clear CH CE
  have q1 := CB.out _ B2.out
  have hin : decide ((i : Int) < 0) = false := by simp
  have hkn : decide ((k : Int) < 0) = false := by simp
  have BD : Hid (Below w.heap.size w w2.drew) := B2.out.drew
  go_upto_region 4 with fail
  try go_frame
  go_region_held (fun w' => w'.cell? ⟨b, 1, none⟩ = some (.int .i64 oa)) (first | (with_reducible assumption) | simp [*]) (first | (go_at_call 141; refine Calls.mono (c12.at _) ?_; rintro e w' ⟨rfl, hw⟩; replace hw := hw.symm; subst hw))
  clear q1
  go_wp2
  exact bodyPost_ret (v := .tuple #[.string ⟨#[]⟩, .string ⟨#[]⟩]) (by simp [results, Tryz.results198, go_sem]) rfl ⟨rfl, BD.out⟩

set_option maxHeartbeats 4000000 in
set_option maxRecDepth 2000 in
theorem rmir_no (b : Nat) (f q : ByteArray) (p x da dp hv kv : Int) (w : World) (c9 : Ret 141 #[.string q, .int .i64 9, .int .i64 1] (.int .i64 p)) (cs : Ret 207 #[.string q] (.int .i64 x)) (c16 : Ret 141 #[.string q, .int .i64 16, .int .i64 4] (.int .i64 da)) (cd : Ret 204 #[.string q] (.int .i64 dp))
    (ch : ∀ wx, Below w.heap.size w wx → Calls Tryz.prog 203 #[.pointer (some ⟨b, 0, none⟩), .int .i64 p, .int .i64 x] wx fun e w' => e = .returned (.int .i64 hv) ∧ Below wx.heap.size wx w')
    (ce : ∀ wx, Below w.heap.size w wx → Calls Tryz.prog 226 #[.pointer (some ⟨b, 0, none⟩), .int .i64 p, .int .i64 da, .int .i64 dp] wx fun e w' => e = .returned (.int .i64 kv) ∧ Below wx.heap.size wx w') (hp : (p == 1) = false) (i k : Nat) (hi : hv = (i : Int)) (hk : kv = (k : Int)) (sa oa : Int) (c12 : Ret 141 #[.string q, .int .i64 12, .int .i64 4] (.int .i64 sa)) (cb : ∀ wx, Below w.heap.size w wx → wx.cell? ⟨b, 1, none⟩ = some (.int .i64 oa)) (hd : (sa != oa) = false) (kn : Bool) (ex : Int) (g n cap : Nat) (hin' : i < n) (hkn' : k < n) (hnc : n ≤ cap) (hcm : cap ≤ 9223372036854775807)
    (cP : ∀ wx, Below w.heap.size w wx → Calls Tryz.prog 212 #[.pointer (some ⟨b, 0, none⟩), .int .i64 (i : Int)] wx fun e w' => ∃ lv, e = .returned lv ∧ (Calls Tryz.prog 225 #[lv, .int .i64 oa, .int .i64 ex] w' fun e w2 => e = .returned (.bool kn) ∧ w2 = w') ∧ Below wx.heap.size wx w')
    (cx : ∀ wx, Below w.heap.size w wx → wx.cell? ⟨b, 13, none⟩ = some (.slice (some ⟨g, 0, none⟩) n cap) ∧ wx.cell? ⟨g, k * 7 + 3, none⟩ = some (.int .i64 ex)) (hq : kn = false) :
    Calls Tryz.prog 198 #[.pointer (some ⟨b, 0, none⟩), .string f, .string q] w fun e w' => e = .returned (.tuple #[.string ⟨#[]⟩, .string ⟨#[]⟩]) ∧ Below w.heap.size w w' := by
  subst hq
  have CP : Hid _ := cP
  clear cP
  subst hi
  subst hk
  have CH : Hid _ := ch
  clear ch
  have CE : Hid _ := ce
  clear ce
  have CB : Hid _ := cb
  clear cb
  have CX : Hid _ := cx
  clear cx
  go_enter Tryz.func198, Tryz.ntmps198
  go_wp2_with fail
  refine Calls.mono (c9.at _) ?_; rintro e w' ⟨rfl, hw⟩; replace hw := hw.symm; subst hw
  go_wp2_with fail
  refine Calls.mono (cs.at _) ?_; rintro e w' ⟨rfl, hw⟩; replace hw := hw.symm; subst hw
  go_wp2_with fail
  refine Calls.mono (CH.out _ (Below.refl w.heap.size w)) ?_; rintro e w1 ⟨rfl, hb1⟩
  have B1 : Hid (Below w.heap.size w w1) := (Below.refl w.heap.size w).trans (hb1.mono (Below.refl w.heap.size w).size)
  clear hb1
  go_wp2_with fail
  refine Calls.mono (c16.at _) ?_; rintro e w' ⟨rfl, hw⟩; replace hw := hw.symm; subst hw
  go_wp2_with fail
  refine Calls.mono (cd.at _) ?_; rintro e w' ⟨rfl, hw⟩; replace hw := hw.symm; subst hw
  go_wp2_with fail
  refine Calls.mono (CE.out _ B1.out) ?_; rintro e w2 ⟨rfl, hb2⟩
  have B2 : Hid (Below w.heap.size w w2) := B1.out.trans (hb2.mono B1.out.size)
  clear hb2
  clear CH CE
  have q1 := CB.out _ B2.out
  have hin : decide ((i : Int) < 0) = false := by simp
  have hkn : decide ((k : Int) < 0) = false := by simp
  have BD : Hid (Below w.heap.size w w2.drew) := B2.out.drew
  go_upto_region 4 with fail
  try go_frame
  go_region_held (fun w' => w'.cell? ⟨b, 1, none⟩ = some (.int .i64 oa)) (first | (with_reducible assumption) | simp [*]) (first | (go_at_call 141; refine Calls.mono (c12.at _) ?_; rintro e w' ⟨rfl, hw⟩; replace hw := hw.symm; subst hw))
  clear q1
  go_wp2_with fail
  refine Calls.mono (CP.out _ BD.out) ?_; rintro e w3 ⟨lv, rfl, cA, hb3⟩
  have B3 : Hid (Below w.heap.size w w3) := BD.out.trans (hb3.mono BD.out.size)
  clear hb3
  have CA : Hid _ := cA
  clear cA CP
  obtain ⟨x13, x3⟩ := CX.out _ B3.out
  have q1 := CB.out _ B3.out
  go_wp2_with fail
  refine Calls.mono (CA.out) ?_; rintro e w' ⟨rfl, hw⟩; replace hw := hw.symm; subst hw
  clear CA x13 x3 q1 CX
  go_wp2
  exact bodyPost_ret (v := .tuple #[.string ⟨#[]⟩, .string ⟨#[]⟩]) (by simp [results, Tryz.results198, go_sem]) rfl ⟨rfl, B3.out⟩

end Go.Proofs.YthiljpbodmajaabGreat
namespace Go.Proofs.YthiljpbodmajaabGreat
open Go.RowKit Plain
set_option linter.unusedVariables false

set_option maxHeartbeats 4000000 in
set_option maxRecDepth 2000 in
theorem rmir_yes (b : Nat) (f q : ByteArray) (p x da dp hv kv : Int) (w : World) (c9 : Ret 141 #[.string q, .int .i64 9, .int .i64 1] (.int .i64 p)) (cs : Ret 207 #[.string q] (.int .i64 x)) (c16 : Ret 141 #[.string q, .int .i64 16, .int .i64 4] (.int .i64 da)) (cd : Ret 204 #[.string q] (.int .i64 dp))
    (ch : ∀ wx, Below w.heap.size w wx → Calls Tryz.prog 203 #[.pointer (some ⟨b, 0, none⟩), .int .i64 p, .int .i64 x] wx fun e w' => e = .returned (.int .i64 hv) ∧ Below wx.heap.size wx w')
    (ce : ∀ wx, Below w.heap.size w wx → Calls Tryz.prog 226 #[.pointer (some ⟨b, 0, none⟩), .int .i64 p, .int .i64 da, .int .i64 dp] wx fun e w' => e = .returned (.int .i64 kv) ∧ Below wx.heap.size wx w') (hp : (p == 1) = false) (i k : Nat) (hi : hv = (i : Int)) (hk : kv = (k : Int)) (sa oa : Int) (c12 : Ret 141 #[.string q, .int .i64 12, .int .i64 4] (.int .i64 sa)) (cb : ∀ wx, Below w.heap.size w wx → wx.cell? ⟨b, 1, none⟩ = some (.int .i64 oa)) (hd : (sa != oa) = false) (kn : Bool) (ex : Int) (g n cap : Nat) (hin' : i < n) (hkn' : k < n) (hnc : n ≤ cap) (hcm : cap ≤ 9223372036854775807)
    (cP : ∀ wx, Below w.heap.size w wx → Calls Tryz.prog 212 #[.pointer (some ⟨b, 0, none⟩), .int .i64 (i : Int)] wx fun e w' => ∃ lv, e = .returned lv ∧ (Calls Tryz.prog 225 #[lv, .int .i64 oa, .int .i64 ex] w' fun e w2 => e = .returned (.bool kn) ∧ w2 = w') ∧ Below wx.heap.size wx w')
    (cx : ∀ wx, Below w.heap.size w wx → wx.cell? ⟨b, 13, none⟩ = some (.slice (some ⟨g, 0, none⟩) n cap) ∧ wx.cell? ⟨g, k * 7 + 3, none⟩ = some (.int .i64 ex)) (hq : kn = true) (u : Us) (cu : ∀ wx, Below w.heap.size w wx → wx.cell? ⟨b, 13, none⟩ = some (.slice (some ⟨g, 0, none⟩) n cap) ∧ (wx.cell? ⟨g, i * 7, none⟩ = some (.int .i64 u.pr) ∧ wx.cell? ⟨g, i * 7 + 1, none⟩ = some (.int .i64 u.ad) ∧ wx.cell? ⟨g, i * 7 + 2, none⟩ = some (.int .i64 u.po) ∧ wx.cell? ⟨g, i * 7 + 3, none⟩ = some (.int .i64 u.ex) ∧ wx.cell? ⟨g, i * 7 + 4, none⟩ = some (.int .i64 u.pa) ∧ wx.cell? ⟨g, i * 7 + 5, none⟩ = some (.int .i64 u.pp) ∧ wx.cell? ⟨g, i * 7 + 6, none⟩ = some (.int .i64 u.ti))) (X1 G1 X2 G2 Q1 Q2 : ByteArray) (cT1 : RetB 191 #[.int .i64 oa, .int .i64 4] (.string X1)) (cW1 : Ret 190 #[.string f, .int .i64 12, .string X1] (.string G1)) (cT2 : RetB 191 #[.int .i64 u.ad, .int .i64 4] (.string X2)) (cW2 : Ret 190 #[.string G1, .int .i64 16, .string X2] (.string G2)) (cS : RetB 210 #[.string q, .int .i64 u.ad, .int .i64 u.po] (.string Q1)) (cD : RetB 206 #[.string Q1, .int .i64 oa, .int .i64 ex] (.string Q2)) :
    Calls Tryz.prog 198 #[.pointer (some ⟨b, 0, none⟩), .string f, .string q] w fun e w' => e = .returned (.tuple #[.string G2, .string Q2]) ∧ Below w.heap.size w w' := by
  subst hq
  have CU : Hid _ := cu
  clear cu
  have CP : Hid _ := cP
  clear cP
  subst hi
  subst hk
  have CH : Hid _ := ch
  clear ch
  have CE : Hid _ := ce
  clear ce
  have CB : Hid _ := cb
  clear cb
  have CX : Hid _ := cx
  clear cx
  go_enter Tryz.func198, Tryz.ntmps198
  go_wp2_with fail
  refine Calls.mono (c9.at _) ?_; rintro e w' ⟨rfl, hw⟩; replace hw := hw.symm; subst hw
  go_wp2_with fail
  refine Calls.mono (cs.at _) ?_; rintro e w' ⟨rfl, hw⟩; replace hw := hw.symm; subst hw
  go_wp2_with fail
  refine Calls.mono (CH.out _ (Below.refl w.heap.size w)) ?_; rintro e w1 ⟨rfl, hb1⟩
  have B1 : Hid (Below w.heap.size w w1) := (Below.refl w.heap.size w).trans (hb1.mono (Below.refl w.heap.size w).size)
  clear hb1
  go_wp2_with fail
  refine Calls.mono (c16.at _) ?_; rintro e w' ⟨rfl, hw⟩; replace hw := hw.symm; subst hw
  go_wp2_with fail
  refine Calls.mono (cd.at _) ?_; rintro e w' ⟨rfl, hw⟩; replace hw := hw.symm; subst hw
  go_wp2_with fail
  refine Calls.mono (CE.out _ B1.out) ?_; rintro e w2 ⟨rfl, hb2⟩
  have B2 : Hid (Below w.heap.size w w2) := B1.out.trans (hb2.mono B1.out.size)
  clear hb2
  clear CH CE
  have q1 := CB.out _ B2.out
  have hin : decide ((i : Int) < 0) = false := by simp
  have hkn : decide ((k : Int) < 0) = false := by simp
  have BD : Hid (Below w.heap.size w w2.drew) := B2.out.drew
  go_upto_region 4 with fail
  try go_frame
  go_region_held (fun w' => w'.cell? ⟨b, 1, none⟩ = some (.int .i64 oa)) (first | (with_reducible assumption) | simp [*]) (first | (go_at_call 141; refine Calls.mono (c12.at _) ?_; rintro e w' ⟨rfl, hw⟩; replace hw := hw.symm; subst hw))
  clear q1
  go_wp2_with fail
  refine Calls.mono (CP.out _ BD.out) ?_; rintro e w3 ⟨lv, rfl, cA, hb3⟩
  have B3 : Hid (Below w.heap.size w w3) := BD.out.trans (hb3.mono BD.out.size)
  clear hb3
  have CA : Hid _ := cA
  clear cA CP
  obtain ⟨x13, x3⟩ := CX.out _ B3.out
  have q1 := CB.out _ B3.out
  go_wp2_with fail
  refine Calls.mono (CA.out) ?_; rintro e w' ⟨rfl, hw⟩; replace hw := hw.symm; subst hw
  clear CA x13 x3 q1 CX
  clear c9 cs c16 cd c12 hd hp
  obtain ⟨a13, a0, a1, a2, a3, a4, a5, a6⟩ := CU.out _ B3.out
  clear CU
  go_upto_region 12 with fail
  try go_frame
  have BU : Hid (Below w.heap.size w (w3.alloc (.cells #[.int .i64 u.pr, .int .i64 u.ad, .int .i64 u.po, .int .i64 u.ex, .int .i64 u.pa, .int .i64 u.pp, .int .i64 u.ti] 134))) := B3.out.alloc B3.out.size _
  have AU : Hid ((w3.alloc (.cells #[.int .i64 u.pr, .int .i64 u.ad, .int .i64 u.po, .int .i64 u.ex, .int .i64 u.pa, .int .i64 u.pp, .int .i64 u.ti] 134)).heap[w3.heap.size]? = some (.cells #[.int .i64 u.pr, .int .i64 u.ad, .int .i64 u.po, .int .i64 u.ex, .int .i64 u.pa, .int .i64 u.pp, .int .i64 u.ti] 134 (0, 0))) := alloc1 _ _
  generalize (w3.alloc (.cells #[.int .i64 u.pr, .int .i64 u.ad, .int .i64 u.po, .int .i64 u.ex, .int .i64 u.pa, .int .i64 u.pp, .int .i64 u.ti] 134)) = wu at BU AU ⊢
  clear a13 a0 a1 a2 a3 a4 a5 a6
  clear hin hkn hin' hkn' hnc hcm
  have q1 := CB.out _ BU.out
  have BD2 : Hid (Below w.heap.size w wu.drew) := BU.out.drew
  have u1 := (cell7 AU.out).2.1
  have hlu : w3.heap.size < wu.drew.heap.size := (Array.getElem?_eq_some_iff.1 AU.out).1
  go_region_held (fun w' => w'.cell? ⟨b, 1, none⟩ = some (.int .i64 oa) ∧ w'.cell? ⟨w3.heap.size, 1, none⟩ = some (.int .i64 u.ad)) (first | (with_reducible assumption) | simp [*]) (first | (go_at_call_of 191 (Value.int .i64 oa); refine Calls.mono (cT1.at _) ?_; rintro e wt ⟨rfl, hbt⟩; have z0 : wt.cell? ⟨b, 1, none⟩ = some (.int .i64 oa) := CB.out wt (BD2.out.trans (hbt.mono BD2.out.size)); have z1 : wt.cell? ⟨w3.heap.size, 1, none⟩ = some (.int .i64 u.ad) := (cell7 ((hbt.block _ hlu).trans AU.out)).2.1) | (go_at_call_of 190 (Value.string X1); refine Calls.mono (cW1.at _) ?_; rintro e w' ⟨rfl, hw⟩; replace hw := hw.symm; subst hw) | (go_at_call_of 191 (Value.int .i64 u.ad); refine Calls.mono (cT2.at _) ?_; rintro e wv ⟨rfl, hbv⟩; have hbq := hbt.trans (hbv.mono hbt.size); have z0 : wv.cell? ⟨b, 1, none⟩ = some (.int .i64 oa) := CB.out wv (BD2.out.trans (hbq.mono BD2.out.size)); have z1 : wv.cell? ⟨w3.heap.size, 1, none⟩ = some (.int .i64 u.ad) := (cell7 ((hbq.block _ hlu).trans AU.out)).2.1) | (go_at_call_of 190 (Value.string X2); refine Calls.mono (cW2.at _) ?_; rintro e w' ⟨rfl, hw⟩; replace hw := hw.symm; subst hw))
  go_upto_region 13 with fail
  try go_frame
  have B3 : Hid (Below w.heap.size w wv) := BD2.out.trans (hbq.mono BD2.out.size)
  have A3 : Hid _ := (hbq.block _ hlu).trans AU.out
  clear hbt hbv hbq q1 u1 hlu
  have q1 := CB.out _ B3.out
  have u1 := (cell7 A3.out).2.1
  have u2 := (cell7 A3.out).2.2.1
  clear BD2
  have BD2 : Hid (Below w.heap.size w wv.drew) := B3.out.drew
  have hlu : w3.heap.size < wv.drew.heap.size := (Array.getElem?_eq_some_iff.1 A3.out).1
  clear AU
  have AU : Hid _ := A3.out
  clear A3
  try clear z0
  try clear z1
  try clear z0
  try clear z1
  go_region_held (fun w' => w'.cell? ⟨b, 1, none⟩ = some (.int .i64 oa) ∧ w'.cell? ⟨w3.heap.size, 1, none⟩ = some (.int .i64 u.ad) ∧ w'.cell? ⟨w3.heap.size, 2, none⟩ = some (.int .i64 u.po)) (first | (with_reducible assumption) | simp [*]) (first | (go_at_call 210; refine Calls.mono (cS.at _) ?_; rintro e ws ⟨rfl, hbs⟩; have z0 : ws.cell? ⟨b, 1, none⟩ = some (.int .i64 oa) := CB.out ws (BD2.out.trans (hbs.mono BD2.out.size)); have z1 : ws.cell? ⟨w3.heap.size, 1, none⟩ = some (.int .i64 u.ad) := (cell7 ((hbs.block _ hlu).trans AU.out)).2.1; have z2 : ws.cell? ⟨w3.heap.size, 2, none⟩ = some (.int .i64 u.po) := (cell7 ((hbs.block _ hlu).trans AU.out)).2.2.1) | (go_at_call 206; refine Calls.mono (cD.at _) ?_; rintro e wd ⟨rfl, hbd⟩; have hbq := hbs.trans (hbd.mono hbs.size); have z0 : wd.cell? ⟨b, 1, none⟩ = some (.int .i64 oa) := CB.out wd (BD2.out.trans (hbq.mono BD2.out.size)); have z1 : wd.cell? ⟨w3.heap.size, 1, none⟩ = some (.int .i64 u.ad) := (cell7 ((hbq.block _ hlu).trans AU.out)).2.1; have z2 : wd.cell? ⟨w3.heap.size, 2, none⟩ = some (.int .i64 u.po) := (cell7 ((hbq.block _ hlu).trans AU.out)).2.2.1))
  go_wp2
  exact bodyPost_ret (v := .tuple #[.string G2, .string Q2]) (by simp [results, Tryz.results198, go_sem]) rfl ⟨rfl, BD2.out.trans (hbq.mono BD2.out.size)⟩

end Go.Proofs.YthiljpbodmajaabGreat
