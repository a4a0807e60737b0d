/-
  CONTRACTS: package natboxref: told, telling, walked.
-/
import Derived.Test.YthiljpbodmajaabGreatVrdz
import Derived.Deep.DeepCutAuto
namespace Go.Proofs.YthiljpbodmajaabGreat
open Go.RowKit Plain
set_option linter.unusedVariables false

set_option maxHeartbeats 4000000 in
set_option maxRecDepth 2000 in
theorem rtold_none (b : Nat) (f q : ByteArray) (p x hv : Int) (w : World) (c9 : Ret 141 #[.string q, .int .i64 9, .int .i64 1] (.int .i64 p)) (cs : Ret 207 #[.string q] (.int .i64 x))
    (ch : ∀ wx, Below w.heap.size w wx → Calls Tryz.prog 203 #[.pointer (some ⟨b, 0, none⟩), .int .i64 p, .int .i64 x] wx fun e w' => e = .returned (.int .i64 hv) ∧ Below wx.heap.size wx w') (h0 : hv < 0) :
    Calls Tryz.prog 197 #[.pointer (some ⟨b, 0, none⟩), .string f, .string q] w fun e w' => e = .returned (.tuple #[.string ⟨#[]⟩, .string ⟨#[]⟩]) ∧ Below w.heap.size w w' := by
  have CH : Hid _ := ch
  clear ch
  go_enter Tryz.func197, Tryz.ntmps197
  go_wp2_with fail
  refine Calls.mono (c9.at _) ?_; rintro e w' ⟨rfl, hw⟩; replace hw := hw.symm; subst hw
  go_wp2_with fail
  refine Calls.mono (cs.at _) ?_; rintro e w' ⟨rfl, hw⟩; replace hw := hw.symm; subst hw
  go_wp2_with fail
  refine Calls.mono (CH.out _ (Below.refl w.heap.size w)) ?_; rintro e w1 ⟨rfl, hb1⟩
  have B1 : Hid (Below w.heap.size w w1) := (Below.refl w.heap.size w).trans (hb1.mono (Below.refl w.heap.size w).size)
  clear hb1
  go_upto_region 3 with fail
  try go_frame
  obtain ⟨SX, hSX⟩ : ∃ SX : World → Prop, ∀ w', Sof SX w' ↔ True := ⟨_, fun _ => Iff.rfl⟩
  have HSX : Hid _ := hSX
  clear hSX
  have ss : Hid (Sof SX w1.drew) := (HSX.out _).2 trivial
  refine wp_region_held_drew (S := fun w' => Sof SX w') (by kernel_rfl) ss.out (fun hHeld => ?_)
  refine takeR (i := 0) (v := .int .i64 hv) rfl (by kernel_rfl) (by kernel_rfl) (by kernel_rfl) (fun _ _ _ h => h) (yieldr_mv (by rfl) (.inl rfl) rfl) (by assumption) ?_
  try go_frame
  refine takeR (i := 1) (v := .bool true) rfl (by kernel_rfl) (by kernel_rfl) (by kernel_rfl) (fun _ _ _ h => h) (Or.inl ⟨by rfl, fun w' hSw => by first | rfl | go_simp⟩) (by assumption) ?_
  try go_frame
  refine takeR (i := 2) (v := .bool true) rfl (by kernel_rfl) (by kernel_rfl) (by kernel_rfl) (fun _ _ _ h => h) (yieldr_mv (by rfl) (.inl rfl) rfl) (by assumption) ?_
  try go_frame
  refine takeR (i := 3) (v := undef) rfl (by kernel_rfl) (by kernel_rfl) (by kernel_rfl) (fun _ _ _ h => h) (skipR (by rfl)) (by assumption) ?_
  try go_frame
  refine takeR (i := 4) (v := undef) rfl (by kernel_rfl) (by kernel_rfl) (by kernel_rfl) (fun _ _ _ h => h) (skipR (by rfl)) (by assumption) ?_
  try go_frame
  refine takeR (i := 5) (v := undef) rfl (by kernel_rfl) (by kernel_rfl) (by kernel_rfl) (fun _ _ _ h => h) (skipR (by rfl)) (by assumption) ?_
  try go_frame
  refine takeR (i := 6) (v := undef) rfl (by kernel_rfl) (by kernel_rfl) (by kernel_rfl) (fun _ _ _ h => h) (skipR (by rfl)) (by assumption) ?_
  try go_frame
  refine takeR (i := 7) (v := undef) rfl (by kernel_rfl) (by kernel_rfl) (by kernel_rfl) (fun _ _ _ h => h) (skipR (by rfl)) (by assumption) ?_
  try go_frame
  refine takeR (i := 8) (v := undef) rfl (by kernel_rfl) (by kernel_rfl) (by kernel_rfl) (fun _ _ _ h => h) (skipR (by rfl)) (by assumption) ?_
  try go_frame
  refine takeR (i := 9) (v := undef) rfl (by kernel_rfl) (by kernel_rfl) (by kernel_rfl) (fun _ _ _ h => h) (skipR (by rfl)) (by assumption) ?_
  try go_frame
  refine takeR (i := 10) (v := undef) rfl (by kernel_rfl) (by kernel_rfl) (by kernel_rfl) (fun _ _ _ h => h) (skipR (by rfl)) (by assumption) ?_
  try go_frame
  refine takeR (i := 11) (v := .bool true) rfl (by kernel_rfl) (by kernel_rfl) (by kernel_rfl) (fun _ _ _ h => h) (Or.inl ⟨by rfl, fun w' hSw => by first | rfl | go_simp⟩) (by assumption) ?_
  try go_frame
  refine wpAnyH_done (by kernel_rfl) ?_ _
  go_wp2
  exact bodyPost_ret (v := .tuple #[.string ⟨#[]⟩, .string ⟨#[]⟩]) (by simp [results, Tryz.results197, go_sem]) rfl ⟨rfl, B1.out.drew⟩

set_option maxHeartbeats 4000000 in
set_option maxRecDepth 2000 in
theorem rtold_else (b : Nat) (f q : ByteArray) (p x hv : Int) (w : World) (c9 : Ret 141 #[.string q, .int .i64 9, .int .i64 1] (.int .i64 p)) (cs : Ret 207 #[.string q] (.int .i64 x))
    (ch : ∀ wx, Below w.heap.size w wx → Calls Tryz.prog 203 #[.pointer (some ⟨b, 0, none⟩), .int .i64 p, .int .i64 x] wx fun e w' => e = .returned (.int .i64 hv) ∧ Below wx.heap.size wx w') (i : Nat) (hi : hv = (i : Int)) (sa oa : Int) (c12 : Ret 141 #[.string q, .int .i64 12, .int .i64 4] (.int .i64 sa)) (cb : ∀ wx, Below w.heap.size w wx → wx.cell? ⟨b, 1, none⟩ = some (.int .i64 oa)) (hd : (sa != oa) = true) :
    Calls Tryz.prog 197 #[.pointer (some ⟨b, 0, none⟩), .string f, .string q] w fun e w' => e = .returned (.tuple #[.string ⟨#[]⟩, .string ⟨#[]⟩]) ∧ Below w.heap.size w w' := by
  subst hi
  have CH : Hid _ := ch
  clear ch
  have CB : Hid _ := cb
  clear cb
  go_enter Tryz.func197, Tryz.ntmps197
  go_wp2_with fail
  refine Calls.mono (c9.at _) ?_; rintro e w' ⟨rfl, hw⟩; replace hw := hw.symm; subst hw
  go_wp2_with fail
  refine Calls.mono (cs.at _) ?_; rintro e w' ⟨rfl, hw⟩; replace hw := hw.symm; subst hw
  go_wp2_with fail
  refine Calls.mono (CH.out _ (Below.refl w.heap.size w)) ?_; rintro e w1 ⟨rfl, hb1⟩
  have B1 : Hid (Below w.heap.size w w1) := (Below.refl w.heap.size w).trans (hb1.mono (Below.refl w.heap.size w).size)
  clear hb1
  clear CH
  have q1 := CB.out _ B1.out
  have hin : decide ((i : Int) < 0) = false := by simp
  have BD : Hid (Below w.heap.size w w1.drew) := B1.out.drew
  go_wp2_with fail
  go_region_held (fun w' => w'.cell? ⟨b, 1, none⟩ = some (.int .i64 oa)) (first | (with_reducible assumption) | simp [*]) (first | (go_at_call 141; refine Calls.mono (c12.at _) ?_; rintro e w' ⟨rfl, hw⟩; replace hw := hw.symm; subst hw))
  clear q1
  go_wp2
  exact bodyPost_ret (v := .tuple #[.string ⟨#[]⟩, .string ⟨#[]⟩]) (by simp [results, Tryz.results197, go_sem]) rfl ⟨rfl, BD.out⟩

set_option maxHeartbeats 4000000 in
set_option maxRecDepth 2000 in
theorem rtold_no (b : Nat) (f q : ByteArray) (p x hv : Int) (w : World) (c9 : Ret 141 #[.string q, .int .i64 9, .int .i64 1] (.int .i64 p)) (cs : Ret 207 #[.string q] (.int .i64 x))
    (ch : ∀ wx, Below w.heap.size w wx → Calls Tryz.prog 203 #[.pointer (some ⟨b, 0, none⟩), .int .i64 p, .int .i64 x] wx fun e w' => e = .returned (.int .i64 hv) ∧ Below wx.heap.size wx w') (i : Nat) (hi : hv = (i : Int)) (sa oa : Int) (c12 : Ret 141 #[.string q, .int .i64 12, .int .i64 4] (.int .i64 sa)) (cb : ∀ wx, Below w.heap.size w wx → wx.cell? ⟨b, 1, none⟩ = some (.int .i64 oa)) (hd : (sa != oa) = false) (da dp fp : Int) (kn : Bool) (c16 : Ret 141 #[.string q, .int .i64 16, .int .i64 4] (.int .i64 da)) (cd : Ret 204 #[.string q] (.int .i64 dp)) (cf : Ret 208 #[.int .i64 p, .int .i64 dp] (.int .i64 fp))
    (cP : ∀ wx, Below w.heap.size w wx → Calls Tryz.prog 212 #[.pointer (some ⟨b, 0, none⟩), .int .i64 (i : Int)] wx fun e w' => ∃ lv, e = .returned lv ∧ (Calls Tryz.prog 225 #[lv, .int .i64 da, .int .i64 fp] w' fun e w2 => e = .returned (.bool kn) ∧ w2 = w') ∧ Below wx.heap.size wx w') (hk : kn = false) :
    Calls Tryz.prog 197 #[.pointer (some ⟨b, 0, none⟩), .string f, .string q] w fun e w' => e = .returned (.tuple #[.string ⟨#[]⟩, .string ⟨#[]⟩]) ∧ Below w.heap.size w w' := by
  subst hk
  have CP : Hid _ := cP
  clear cP
  subst hi
  have CH : Hid _ := ch
  clear ch
  have CB : Hid _ := cb
  clear cb
  go_enter Tryz.func197, Tryz.ntmps197
  go_wp2_with fail
  refine Calls.mono (c9.at _) ?_; rintro e w' ⟨rfl, hw⟩; replace hw := hw.symm; subst hw
  go_wp2_with fail
  refine Calls.mono (cs.at _) ?_; rintro e w' ⟨rfl, hw⟩; replace hw := hw.symm; subst hw
  go_wp2_with fail
  refine Calls.mono (CH.out _ (Below.refl w.heap.size w)) ?_; rintro e w1 ⟨rfl, hb1⟩
  have B1 : Hid (Below w.heap.size w w1) := (Below.refl w.heap.size w).trans (hb1.mono (Below.refl w.heap.size w).size)
  clear hb1
  clear CH
  have q1 := CB.out _ B1.out
  have hin : decide ((i : Int) < 0) = false := by simp
  have BD : Hid (Below w.heap.size w w1.drew) := B1.out.drew
  go_wp2_with fail
  go_region_held (fun w' => w'.cell? ⟨b, 1, none⟩ = some (.int .i64 oa)) (first | (with_reducible assumption) | simp [*]) (first | (go_at_call 141; refine Calls.mono (c12.at _) ?_; rintro e w' ⟨rfl, hw⟩; replace hw := hw.symm; subst hw))
  clear q1
  go_wp2_with fail
  refine Calls.mono (CP.out _ BD.out) ?_; rintro e w2 ⟨lv, rfl, cA, hb2⟩
  have B2 : Hid (Below w.heap.size w w2) := BD.out.trans (hb2.mono BD.out.size)
  clear hb2
  have CA : Hid _ := cA
  clear cA CP
  go_wp2_with fail
  refine Calls.mono (c16.at _) ?_; rintro e w' ⟨rfl, hw⟩; replace hw := hw.symm; subst hw
  go_wp2_with fail
  refine Calls.mono (cd.at _) ?_; rintro e w' ⟨rfl, hw⟩; replace hw := hw.symm; subst hw
  go_wp2_with fail
  refine Calls.mono (cf.at _) ?_; rintro e w' ⟨rfl, hw⟩; replace hw := hw.symm; subst hw
  go_wp2_with fail
  refine Calls.mono (CA.out) ?_; rintro e w' ⟨rfl, hw⟩; replace hw := hw.symm; subst hw
  clear CA
  go_wp2
  exact bodyPost_ret (v := .tuple #[.string ⟨#[]⟩, .string ⟨#[]⟩]) (by simp [results, Tryz.results197, go_sem]) rfl ⟨rfl, B2.out⟩

set_option maxHeartbeats 4000000 in
set_option maxRecDepth 2000 in
theorem rtold_yes (b : Nat) (f q : ByteArray) (p x hv : Int) (w : World) (c9 : Ret 141 #[.string q, .int .i64 9, .int .i64 1] (.int .i64 p)) (cs : Ret 207 #[.string q] (.int .i64 x))
    (ch : ∀ wx, Below w.heap.size w wx → Calls Tryz.prog 203 #[.pointer (some ⟨b, 0, none⟩), .int .i64 p, .int .i64 x] wx fun e w' => e = .returned (.int .i64 hv) ∧ Below wx.heap.size wx w') (i : Nat) (hi : hv = (i : Int)) (sa oa : Int) (c12 : Ret 141 #[.string q, .int .i64 12, .int .i64 4] (.int .i64 sa)) (cb : ∀ wx, Below w.heap.size w wx → wx.cell? ⟨b, 1, none⟩ = some (.int .i64 oa)) (hd : (sa != oa) = false) (da dp fp : Int) (kn : Bool) (c16 : Ret 141 #[.string q, .int .i64 16, .int .i64 4] (.int .i64 da)) (cd : Ret 204 #[.string q] (.int .i64 dp)) (cf : Ret 208 #[.int .i64 p, .int .i64 dp] (.int .i64 fp))
    (cP : ∀ wx, Below w.heap.size w wx → Calls Tryz.prog 212 #[.pointer (some ⟨b, 0, none⟩), .int .i64 (i : Int)] wx fun e w' => ∃ lv, e = .returned lv ∧ (Calls Tryz.prog 225 #[lv, .int .i64 da, .int .i64 fp] w' fun e w2 => e = .returned (.bool kn) ∧ w2 = w') ∧ Below wx.heap.size wx w') (hk : kn = true) (u : Us) (g n cap : Nat) (hin' : i < n) (hnc : n ≤ cap) (hcm : cap ≤ 9223372036854775807) (cu : ∀ wx, Below w.heap.size w wx → wx.cell? ⟨b, 13, none⟩ = some (.slice (some ⟨g, 0, none⟩) n cap) ∧ (wx.cell? ⟨g, i * 7, none⟩ = some (.int .i64 u.pr) ∧ wx.cell? ⟨g, i * 7 + 1, none⟩ = some (.int .i64 u.ad) ∧ wx.cell? ⟨g, i * 7 + 2, none⟩ = some (.int .i64 u.po) ∧ wx.cell? ⟨g, i * 7 + 3, none⟩ = some (.int .i64 u.ex) ∧ wx.cell? ⟨g, i * 7 + 4, none⟩ = some (.int .i64 u.pa) ∧ wx.cell? ⟨g, i * 7 + 5, none⟩ = some (.int .i64 u.pp) ∧ wx.cell? ⟨g, i * 7 + 6, none⟩ = some (.int .i64 u.ti))) (X G Q : ByteArray) (cT : RetB 191 #[.int .i64 u.ad, .int .i64 4] (.string X)) (cW : Ret 190 #[.string f, .int .i64 16, .string X] (.string G)) (cS : RetB 210 #[.string q, .int .i64 u.ad, .int .i64 u.po] (.string Q)) :
    Calls Tryz.prog 197 #[.pointer (some ⟨b, 0, none⟩), .string f, .string q] w fun e w' => e = .returned (.tuple #[.string G, .string Q]) ∧ Below w.heap.size w w' := by
  subst hk
  have CU : Hid _ := cu
  clear cu
  have CP : Hid _ := cP
  clear cP
  subst hi
  have CH : Hid _ := ch
  clear ch
  have CB : Hid _ := cb
  clear cb
  go_enter Tryz.func197, Tryz.ntmps197
  go_wp2_with fail
  refine Calls.mono (c9.at _) ?_; rintro e w' ⟨rfl, hw⟩; replace hw := hw.symm; subst hw
  go_wp2_with fail
  refine Calls.mono (cs.at _) ?_; rintro e w' ⟨rfl, hw⟩; replace hw := hw.symm; subst hw
  go_wp2_with fail
  refine Calls.mono (CH.out _ (Below.refl w.heap.size w)) ?_; rintro e w1 ⟨rfl, hb1⟩
  have B1 : Hid (Below w.heap.size w w1) := (Below.refl w.heap.size w).trans (hb1.mono (Below.refl w.heap.size w).size)
  clear hb1
  clear CH
  have q1 := CB.out _ B1.out
  have hin : decide ((i : Int) < 0) = false := by simp
  have BD : Hid (Below w.heap.size w w1.drew) := B1.out.drew
  go_wp2_with fail
  go_region_held (fun w' => w'.cell? ⟨b, 1, none⟩ = some (.int .i64 oa)) (first | (with_reducible assumption) | simp [*]) (first | (go_at_call 141; refine Calls.mono (c12.at _) ?_; rintro e w' ⟨rfl, hw⟩; replace hw := hw.symm; subst hw))
  clear q1
  go_wp2_with fail
  refine Calls.mono (CP.out _ BD.out) ?_; rintro e w2 ⟨lv, rfl, cA, hb2⟩
  have B2 : Hid (Below w.heap.size w w2) := BD.out.trans (hb2.mono BD.out.size)
  clear hb2
  have CA : Hid _ := cA
  clear cA CP
  go_wp2_with fail
  refine Calls.mono (c16.at _) ?_; rintro e w' ⟨rfl, hw⟩; replace hw := hw.symm; subst hw
  go_wp2_with fail
  refine Calls.mono (cd.at _) ?_; rintro e w' ⟨rfl, hw⟩; replace hw := hw.symm; subst hw
  go_wp2_with fail
  refine Calls.mono (cf.at _) ?_; rintro e w' ⟨rfl, hw⟩; replace hw := hw.symm; subst hw
  go_wp2_with fail
  refine Calls.mono (CA.out) ?_; rintro e w' ⟨rfl, hw⟩; replace hw := hw.symm; subst hw
  clear CA
  obtain ⟨a13, a0, a1, a2, a3, a4, a5, a6⟩ := CU.out _ B2.out
  clear CU
  go_upto_region 10 with fail
  try go_frame
  have BU : Hid (Below w.heap.size w (w2.alloc (.cells #[.int .i64 u.pr, .int .i64 u.ad, .int .i64 u.po, .int .i64 u.ex, .int .i64 u.pa, .int .i64 u.pp, .int .i64 u.ti] 134))) := B2.out.alloc B2.out.size _
  have AU : Hid ((w2.alloc (.cells #[.int .i64 u.pr, .int .i64 u.ad, .int .i64 u.po, .int .i64 u.ex, .int .i64 u.pa, .int .i64 u.pp, .int .i64 u.ti] 134)).heap[w2.heap.size]? = some (.cells #[.int .i64 u.pr, .int .i64 u.ad, .int .i64 u.po, .int .i64 u.ex, .int .i64 u.pa, .int .i64 u.pp, .int .i64 u.ti] 134 (0, 0))) := alloc1 _ _
  generalize (w2.alloc (.cells #[.int .i64 u.pr, .int .i64 u.ad, .int .i64 u.po, .int .i64 u.ex, .int .i64 u.pa, .int .i64 u.pp, .int .i64 u.ti] 134)) = wu at BU AU ⊢
  clear a13 a0 a1 a2 a3 a4 a5 a6
  have BD2 : Hid (Below w.heap.size w wu.drew) := BU.out.drew
  have u1 := (cell7 AU.out).2.1
  have u2 := (cell7 AU.out).2.2.1
  have hlu : w2.heap.size < wu.drew.heap.size := (Array.getElem?_eq_some_iff.1 AU.out).1
  go_region_held (fun w' => w'.cell? ⟨w2.heap.size, 1, none⟩ = some (.int .i64 u.ad) ∧ w'.cell? ⟨w2.heap.size, 2, none⟩ = some (.int .i64 u.po)) (first | (with_reducible assumption) | simp [*]) (first | (go_at_call 191; refine Calls.mono (cT.at _) ?_; rintro e wt ⟨rfl, hbt⟩; have z1 : wt.cell? ⟨w2.heap.size, 1, none⟩ = some (.int .i64 u.ad) := (cell7 ((hbt.block _ hlu).trans AU.out)).2.1; have z2 : wt.cell? ⟨w2.heap.size, 2, none⟩ = some (.int .i64 u.po) := (cell7 ((hbt.block _ hlu).trans AU.out)).2.2.1) | (go_at_call 190; refine Calls.mono (cW.at _) ?_; rintro e w' ⟨rfl, hw⟩; replace hw := hw.symm; subst hw) | (go_at_call 210; refine Calls.mono (cS.at _) ?_; rintro e ws ⟨rfl, hbs⟩; have hbq := hbt.trans (hbs.mono hbt.size); have z1 : ws.cell? ⟨w2.heap.size, 1, none⟩ = some (.int .i64 u.ad) := (cell7 ((hbq.block _ hlu).trans AU.out)).2.1; have z2 : ws.cell? ⟨w2.heap.size, 2, none⟩ = some (.int .i64 u.po) := (cell7 ((hbq.block _ hlu).trans AU.out)).2.2.1))
  go_wp2
  exact bodyPost_ret (v := .tuple #[.string G, .string Q]) (by simp [results, Tryz.results197, go_sem]) rfl ⟨rfl, BD2.out.trans (hbq.mono BD2.out.size)⟩

set_option maxHeartbeats 4000000 in
set_option maxRecDepth 2000 in
theorem rtell_none (b : Nat) (f q : ByteArray) (p da dp hv : Int) (w : World) (c9 : Ret 141 #[.string q, .int .i64 9, .int .i64 1] (.int .i64 p)) (c16 : Ret 141 #[.string q, .int .i64 16, .int .i64 4] (.int .i64 da)) (cd : Ret 204 #[.string q] (.int .i64 dp))
    (ch : ∀ wx, Below w.heap.size w wx → Calls Tryz.prog 226 #[.pointer (some ⟨b, 0, none⟩), .int .i64 p, .int .i64 da, .int .i64 dp] wx fun e w' => e = .returned (.int .i64 hv) ∧ Below wx.heap.size wx w') (h0 : hv < 0) :
    Calls Tryz.prog 199 #[.pointer (some ⟨b, 0, none⟩), .string f, .string q] w fun e w' => e = .returned (.tuple #[.string ⟨#[]⟩, .string ⟨#[]⟩]) ∧ Below w.heap.size w w' := by
  have CH : Hid _ := ch
  clear ch
  go_enter Tryz.func199, Tryz.ntmps199
  go_wp2_with fail
  refine Calls.mono (c9.at _) ?_; rintro e w' ⟨rfl, hw⟩; replace hw := hw.symm; subst hw
  go_wp2_with fail
  refine Calls.mono (c16.at _) ?_; rintro e w' ⟨rfl, hw⟩; replace hw := hw.symm; subst hw
  go_wp2_with fail
  refine Calls.mono (cd.at _) ?_; rintro e w' ⟨rfl, hw⟩; replace hw := hw.symm; subst hw
  go_wp2_with fail
  refine Calls.mono (CH.out _ (Below.refl w.heap.size w)) ?_; rintro e w1 ⟨rfl, hb1⟩
  have B1 : Hid (Below w.heap.size w w1) := (Below.refl w.heap.size w).trans (hb1.mono (Below.refl w.heap.size w).size)
  clear hb1
  go_wp2
  exact bodyPost_ret (v := .tuple #[.string ⟨#[]⟩, .string ⟨#[]⟩]) (by simp [results, Tryz.results199, go_sem]) rfl ⟨rfl, B1.out⟩

set_option maxHeartbeats 4000000 in
set_option maxRecDepth 2000 in
theorem rtell_else (b : Nat) (f q : ByteArray) (p da dp hv : Int) (w : World) (c9 : Ret 141 #[.string q, .int .i64 9, .int .i64 1] (.int .i64 p)) (c16 : Ret 141 #[.string q, .int .i64 16, .int .i64 4] (.int .i64 da)) (cd : Ret 204 #[.string q] (.int .i64 dp))
    (ch : ∀ wx, Below w.heap.size w wx → Calls Tryz.prog 226 #[.pointer (some ⟨b, 0, none⟩), .int .i64 p, .int .i64 da, .int .i64 dp] wx fun e w' => e = .returned (.int .i64 hv) ∧ Below wx.heap.size wx w') (i : Nat) (hi : hv = (i : Int)) (P1 P2 : ByteArray) (c1 : Ret 146 #[.string f, .int .i64 16, .int .i64 20] (.string P1)) (c2 : Ret 146 #[.string q, .int .i64 12, .int .i64 16] (.string P2)) (hd : (!(P1.toList == P2.toList)) = true) :
    Calls Tryz.prog 199 #[.pointer (some ⟨b, 0, none⟩), .string f, .string q] w fun e w' => e = .returned (.tuple #[.string ⟨#[]⟩, .string ⟨#[]⟩]) ∧ Below w.heap.size w w' := by
  subst hi
  have CH : Hid _ := ch
  clear ch
  go_enter Tryz.func199, Tryz.ntmps199
  go_wp2_with fail
  refine Calls.mono (c9.at _) ?_; rintro e w' ⟨rfl, hw⟩; replace hw := hw.symm; subst hw
  go_wp2_with fail
  refine Calls.mono (c16.at _) ?_; rintro e w' ⟨rfl, hw⟩; replace hw := hw.symm; subst hw
  go_wp2_with fail
  refine Calls.mono (cd.at _) ?_; rintro e w' ⟨rfl, hw⟩; replace hw := hw.symm; subst hw
  go_wp2_with fail
  refine Calls.mono (CH.out _ (Below.refl w.heap.size w)) ?_; rintro e w1 ⟨rfl, hb1⟩
  have B1 : Hid (Below w.heap.size w w1) := (Below.refl w.heap.size w).trans (hb1.mono (Below.refl w.heap.size w).size)
  clear hb1
  have hin : decide ((i : Int) < 0) = false := by simp
  go_wp2_with fail
  refine Calls.mono (c1.at _) ?_; rintro e w' ⟨rfl, hw⟩; replace hw := hw.symm; subst hw
  go_wp2_with fail
  refine Calls.mono (c2.at _) ?_; rintro e w' ⟨rfl, hw⟩; replace hw := hw.symm; subst hw
  go_wp2
  exact bodyPost_ret (v := .tuple #[.string ⟨#[]⟩, .string ⟨#[]⟩]) (by simp [results, Tryz.results199, go_sem]) rfl ⟨rfl, B1.out⟩

set_option maxHeartbeats 4000000 in
set_option maxRecDepth 2000 in
theorem rtell_yes (b : Nat) (f q : ByteArray) (p da dp hv : Int) (w : World) (c9 : Ret 141 #[.string q, .int .i64 9, .int .i64 1] (.int .i64 p)) (c16 : Ret 141 #[.string q, .int .i64 16, .int .i64 4] (.int .i64 da)) (cd : Ret 204 #[.string q] (.int .i64 dp))
    (ch : ∀ wx, Below w.heap.size w wx → Calls Tryz.prog 226 #[.pointer (some ⟨b, 0, none⟩), .int .i64 p, .int .i64 da, .int .i64 dp] wx fun e w' => e = .returned (.int .i64 hv) ∧ Below wx.heap.size wx w') (i : Nat) (hi : hv = (i : Int)) (P1 : ByteArray) (c1 : Ret 146 #[.string f, .int .i64 16, .int .i64 20] (.string P1)) (c2 : Ret 146 #[.string q, .int .i64 12, .int .i64 16] (.string P1)) (ex oa : Int) (g n cap : Nat) (hin' : i < n) (hnc : n ≤ cap) (hcm : cap ≤ 9223372036854775807) (cu : ∀ wx, Below w.heap.size w wx → wx.cell? ⟨b, 13, none⟩ = some (.slice (some ⟨g, 0, none⟩) n cap) ∧ wx.cell? ⟨g, i * 7 + 3, none⟩ = some (.int .i64 ex)) (cb : ∀ wx, Below w.heap.size w wx → wx.cell? ⟨b, 1, none⟩ = some (.int .i64 oa)) (X G Q : ByteArray) (cT : RetB 191 #[.int .i64 oa, .int .i64 4] (.string X)) (cW : Ret 190 #[.string f, .int .i64 12, .string X] (.string G)) (cD : RetB 206 #[.string q, .int .i64 oa, .int .i64 ex] (.string Q)) :
    Calls Tryz.prog 199 #[.pointer (some ⟨b, 0, none⟩), .string f, .string q] w fun e w' => e = .returned (.tuple #[.string G, .string Q]) ∧ Below w.heap.size w w' := by
  subst hi
  have CH : Hid _ := ch
  clear ch
  have CU : Hid _ := cu
  clear cu
  have CB : Hid _ := cb
  clear cb
  go_enter Tryz.func199, Tryz.ntmps199
  go_wp2_with fail
  refine Calls.mono (c9.at _) ?_; rintro e w' ⟨rfl, hw⟩; replace hw := hw.symm; subst hw
  go_wp2_with fail
  refine Calls.mono (c16.at _) ?_; rintro e w' ⟨rfl, hw⟩; replace hw := hw.symm; subst hw
  go_wp2_with fail
  refine Calls.mono (cd.at _) ?_; rintro e w' ⟨rfl, hw⟩; replace hw := hw.symm; subst hw
  go_wp2_with fail
  refine Calls.mono (CH.out _ (Below.refl w.heap.size w)) ?_; rintro e w1 ⟨rfl, hb1⟩
  have B1 : Hid (Below w.heap.size w w1) := (Below.refl w.heap.size w).trans (hb1.mono (Below.refl w.heap.size w).size)
  clear hb1
  have hin : decide ((i : Int) < 0) = false := by simp
  go_wp2_with fail
  refine Calls.mono (c1.at _) ?_; rintro e w' ⟨rfl, hw⟩; replace hw := hw.symm; subst hw
  go_wp2_with fail
  refine Calls.mono (c2.at _) ?_; rintro e w' ⟨rfl, hw⟩; replace hw := hw.symm; subst hw
  obtain ⟨a13, a3⟩ := CU.out _ B1.out
  have q1 := CB.out _ B1.out
  have BD : Hid (Below w.heap.size w w1.drew) := B1.out.drew
  go_wp2_with fail
  go_region_held (fun w' => w'.cell? ⟨b, 1, none⟩ = some (.int .i64 oa) ∧ w'.cell? ⟨b, 13, none⟩ = some (.slice (some ⟨g, 0, none⟩) n cap) ∧ w'.cell? ⟨g, i * 7 + 3, none⟩ = some (.int .i64 ex)) (first | (with_reducible assumption) | simp [*]) (first | (go_at_call 191; refine Calls.mono (cT.at _) ?_; rintro e wt ⟨rfl, hbt⟩; have z1 := CB.out wt (BD.out.trans (hbt.mono BD.out.size)); obtain ⟨z2, z3⟩ := CU.out wt (BD.out.trans (hbt.mono BD.out.size))) | (go_at_call 190; refine Calls.mono (cW.at _) ?_; rintro e w' ⟨rfl, hw⟩; replace hw := hw.symm; subst hw) | (go_at_call 206; refine Calls.mono (cD.at _) ?_; rintro e ws ⟨rfl, hbs⟩; have hbq := hbt.trans (hbs.mono hbt.size); have z1 := CB.out ws (BD.out.trans (hbq.mono BD.out.size)); obtain ⟨z2, z3⟩ := CU.out ws (BD.out.trans (hbq.mono BD.out.size))))
  go_wp2
  exact bodyPost_ret (v := .tuple #[.string G, .string Q]) (by simp [results, Tryz.results199, go_sem]) rfl ⟨rfl, BD.out.trans (hbq.mono BD.out.size)⟩

end Go.Proofs.YthiljpbodmajaabGreat
