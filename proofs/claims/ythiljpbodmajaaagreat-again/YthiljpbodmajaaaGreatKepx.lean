/-
  PLAIN MATHEMATICS: what a host sends, as the box sees it, and what comes out.
-/
import Derived.Test.YthiljpbodmajaaaGreatKepz
import Derived.Test.YthiljpbodmajaaaGreatBoxa
import Derived.Test.YthiljpbodmajaaaGreatKepy
namespace Go.Proofs.YthiljpbodmajaaaGreat
open Plain
set_option linter.unusedVariables false

/-- what must hold of a datagram that goes out through a box -/
structure Outok (d : Dg) (c : Cf) : Prop where
  ok : Dgok d
  all : (kfr d).size ≤ 65535
  us : usB d.sa = true
  ud : usB d.da = true
  n1 : ¬ d.sa = c.ia
  n2 : ¬ d.sa = c.oa
  n3 : ¬ d.da = c.ia
  n4 : ¬ d.da = c.oa
  kd : d.pr = 1 → d.kd = 8 ∨ d.kd = 13
  tl : 2 ≤ d.tl
  len : 20 + (d.op.size : Int) + (kbd d).size ≤ c.om
theorem kfd_zero (d : Dg) : kfd d = 0 ↔ (d.pr = 17 ∧ d.ba = true) ∨ (¬ d.pr = 17 ∧ kfd d = 0) := by
  by_cases hp : d.pr = 17
  · by_cases hb : d.ba = true
    · simp [kfd, hp, hb]
    · have : kfd d = kck d := by unfold kfd; rw [if_neg (fun h => hb h.2)]
      rw [this]
      have h2 : ¬ kck d = 0 := by
        unfold kck; rw [if_pos hp]
        have := ksm_bd (l4 d.sa ++ l4 d.da ++ w2 17 ++ w2 (kn d) ++ prt (ku0 d (kn d)) 0 (kn d))
        unfold kuc; split <;> omega
      constructor
      · intro h; exact absurd h h2
      · rintro (h | h)
        · exact absurd h.2 hb
        · exact absurd hp h.1
  · constructor
    · intro h; exact .inr ⟨hp, h⟩
    · rintro (h | h)
      · exact absurd h.1 hp
      · exact h.2
section
variable {d : Dg} {c : Cf} (O : Outok d c)
include O
theorem Outok.parts : Fits (kfr d) ∧ hdv (kfr d) = 20 + (d.op.size : Int) ∧ bdy (kfr d) = kbx d (kfd d) ∧ bt (kfr d) 9 = d.pr ∧ bt (kfr d) 8 = d.tl ∧ wd (kfr d) 2 = 20 + (d.op.size : Int) + (kbd d).size ∧ lg (kfr d) 12 = d.sa ∧ lg (kfr d) 16 = d.da := by
  have h := O.all
  rw [kfr_eq O.ok] at h ⊢
  have hc := kcs_bd d (kbx d (kfd d)).size
  obtain ⟨F, e1, e2, e3, e4, e5, e6, e7, _⟩ := kfx_parts O.ok _ (kfd d) hc.1 hc.2 (kbx_big O.ok (kfd d)).1 h
  exact ⟨F, e1, e2, e3, e4, by rw [e5, kbd_eq O.ok], e6, e7⟩
theorem Outok.chk : chk (kfr d) = 0 := kfr_chk O.ok O.all O.us O.ud
theorem Outok.type (hp : d.pr = 1) : bt (kfr d) (hdv (kfr d)) = d.kd := by
  obtain ⟨F, e1, e2, e3, e4, e5, e6, e7⟩ := O.parts
  have h8 : 8 ≤ (bdy (kfr d)).size := by rw [e2]; exact (kbx_big O.ok (kfd d)).2
  rw [← bdy_bt0 F h8, e2]
  exact (kfx_query O.ok (kfd d) hp).1
theorem Outok.kinds : isReq (kfr d) = (d.pr == 1) ∧ isRep (kfr d) = false ∧ isErr (kfr d) = false := by
  obtain ⟨F, e1, e2, e3, e4, e5, e6, e7⟩ := O.parts
  unfold isReq isRep isErr
  rw [e3]
  by_cases hp : d.pr = 1
  · rw [O.type hp]
    rcases O.kd hp with e | e <;> simp [hp, e, reqB, repB, errB]
  · have : (d.pr == 1) = false := by simpa using hp
    simp [this]
theorem Outok.exam : exam c 0 (kfr d) = 0 := by
  obtain ⟨F, e1, e2, e3, e4, e5, e6, e7⟩ := O.parts
  obtain ⟨k1, k2, k3⟩ := O.kinds
  have a1 : (d.sa == c.ia) = false := by simpa using O.n1
  have a2 : (d.sa == c.oa) = false := by simpa using O.n2
  have a3 : (d.da == c.ia) = false := by simpa using O.n3
  have a4 : (d.da == c.oa) = false := by simpa using O.n4
  unfold Plain.exam
  rw [if_neg (by omega), if_neg (by rw [O.chk]; simp)]
  have h1 : addrB c 0 (kfr d) = true := by unfold addrB; rw [e6, e7, a1, a2, a3]; rfl
  have h2 : kindB c 0 (kfr d) = true := by unfold kindB; rw [if_neg (by omega), k2, e7, a4]; simp
  rw [h1, h2]; rfl
theorem Outok.pss : pss (kfr d) c.om = 0 := by
  obtain ⟨F, e1, e2, e3, e4, e5, e6, e7⟩ := O.parts
  have := O.tl; have := O.len
  unfold Plain.pss
  rw [e4, e5, if_neg (by omega), if_neg (by omega)]
theorem Outok.place : ppl (kfr d) 0 = 20 + (d.op.size : Int) + (if d.pr = 1 then 4 else 0) := by
  obtain ⟨F, e1, e2, e3, e4, e5, e6, e7⟩ := O.parts
  unfold ppl; rw [e1, e3]
theorem Outok.sport : wd (kfr d) (ppl (kfr d) 0) = d.sp := by
  obtain ⟨F, e1, e2, e3, e4, e5, e6, e7⟩ := O.parts
  have hb := kbx_big O.ok (kfd d)
  have D := O.ok
  rw [O.place, ← e1]
  have := bdy_wd F (if d.pr = 1 then 4 else 0) (by split <;> omega) (by rw [e2]; split <;> omega)
  rw [← this, e2]
  rcases D.pr with ⟨hp, r0, r1⟩ | ⟨hp, r0, r1, r2⟩ | ⟨hp, hkd⟩
  · rw [if_neg (by omega)]
    have := wd_mid ByteArray.empty (w2 d.dp ++ w2 (kn d) ++ w2 (kfd d) ++ d.tx) d.sp 0 (by simp) D.p0 D.p1
    unfold kbx kbp kbs
    simpa [ByteArray.append_assoc, hp] using this
  · rw [if_neg (by omega)]
    have := wd_mid ByteArray.empty (w2 d.dp ++ prt d.md 0 8 ++ b1 ((5 + d.sr) * 16 + bt d.md 8 % 16) ++ prt d.md 9 12 ++ w2 (kfd d) ++ (prt d.md 12 14 ++ d.tx)) d.sp 0 (by simp) D.p0 D.p1
    unfold kbx kbp kbs
    simpa [ByteArray.append_assoc, hp] using this
  · rw [if_pos hp]
    have h8 := O.kd hp
    have i1 : kid d = d.sp := by unfold kid; rw [if_pos h8]
    unfold kbx kbp kbs
    rw [i1]
    simp only [hp]
    rcases h8 with e | e
    · have := wd_mid (b1 d.kd ++ b1 0 ++ w2 (kfd d)) (prt d.md 0 2 ++ d.tx) d.sp 4 (by simp [b1_size, w2_size]) D.p0 D.p1
      simpa [ByteArray.append_assoc, e] using this
    · have := wd_mid (b1 d.kd ++ b1 0 ++ w2 (kfd d)) (prt d.md 0 2 ++ prt d.md 2 14 ++ d.tx) d.sp 4 (by simp [b1_size, w2_size]) D.p0 D.p1
      simpa [ByteArray.append_assoc, e] using this
theorem Outok.goes (x : Int) (x0 : 0 ≤ x) (x1 : x < 65536) (a0 : 0 ≤ c.oa) (a1 : c.oa < 4294967296) : snt (wsrc (kfr d) c.oa x) = kfr { d with sa := c.oa, sp := x, tl := d.tl - 1 } := by
  have D := O.ok
  have hall := O.all
  have hpl := O.place
  have hc := kcs_bd d (kbx d (kfd d)).size
  have hkb := kck_bd d
  have hf : 0 ≤ kfd d ∧ kfd d < 65536 := by unfold kfd; split <;> omega
  have hz0 := kfd_zero d
  obtain ⟨F, e1, e2, e3, e4, e5, e6, e7⟩ := O.parts
  have hd12 : hdv (put (kfr d) 12 (l4 c.oa)) = hdv (kfr d) := hdv_put (by decide) (by rw [l4_size]; have := F.n20; omega)
  have hb9 : bt (put (kfr d) 12 (l4 c.oa)) 9 = bt (kfr d) 9 := bt_put_off (by decide) (by rw [l4_size]; have := F.n20; omega) (by omega)
  have hpp : ppl (put (kfr d) 12 (l4 c.oa)) 0 = ppl (kfr d) 0 := by unfold ppl; rw [hd12, hb9]
  unfold wsrc
  rw [hpp, hpl]
  rw [kfr_eq D] at hall ⊢
  generalize kcs d (kbx d (kfd d)).size = C at *
  generalize hK : kfd d = K at *
  rw [kfx_put12]
  have D1 : Dgok { d with sa := c.oa } := ⟨D.pr, a0, a1, D.d0, D.d1, D.p0, D.p1, D.q0, D.q1, D.t0, D.t1, D.md, D.op, D.o4, D.tx, D.ta⟩
  rw [kfx_puts D1 C K x _ O.kd rfl]
  have D2 : Dgok { d with sa := c.oa, sp := x } := ⟨D.pr, a0, a1, D.d0, D.d1, x0, x1, D.q0, D.q1, D.t0, D.t1, D.md, D.op, D.o4, D.tx, D.ta⟩
  have hs2 : (kfx { d with sa := c.oa, sp := x } C K).size ≤ 65535 := by
    have q := kfx_len d C K
    have q2 := kfx_len { d with sa := c.oa, sp := x } C K
    have b1' := kbx_size D K
    have b2' := kbx_size D2 K
    have : (kbs { d with sa := c.oa, sp := x }).size = (kbs d).size := by
      unfold kbs kid
      split
      · rfl
      · split
        · rfl
        · split <;> simp only [ByteArray.size_append, w2_size]
    have hfl : kfl { d with sa := c.oa, sp := x } = kfl d := rfl
    rw [q2]
    show 20 + d.op.size + (kbx { d with sa := c.oa, sp := x } K).size + d.ta.size ≤ 65535
    omega
  exact kfx_snt D2 C K hc.1 hc.2 hf.1 hf.2 hz0 (by show 1 ≤ d.tl; have := O.tl; omega) hs2
end
theorem chs_gvn (c : Cf) (C : Cok c) (p own : Int) (h : 0 ≤ own) : chs c [] p own = (if c.lo ≤ own ∧ own ≤ c.hi ∧ ¬ own = -1 then own else if ¬ c.lo = -1 then c.lo else c.lo + 1) := by
  have := C.l1
  rw [chs_nil]
  by_cases g : c.lo ≤ own ∧ own ≤ c.hi
  · rw [if_pos g, if_pos ⟨g.1, g.2, by omega⟩]
  · rw [if_neg g, if_neg (fun h => g ⟨h.1, h.2.1⟩), if_pos (by omega)]
end Go.Proofs.YthiljpbodmajaaaGreat
namespace Go.Proofs.YthiljpbodmajaaaGreat
open Go.RowKit Plain
set_option linter.unusedVariables false

theorem cell12 {w : World} {g : Nat} {t : TypeId} {fr : Nat × Nat} {v0 v1 v2 v3 v4 v5 v6 v7 v8 v9 v10 v11 : Value} (h : w.heap[g]? = some (.cells #[v0, v1, v2, v3, v4, v5, v6, v7, v8, v9, v10, v11] t fr)) : w.cell? ⟨g, 0, none⟩ = some v0 ∧ w.cell? ⟨g, 1, none⟩ = some v1 ∧ w.cell? ⟨g, 2, none⟩ = some v2 ∧ w.cell? ⟨g, 3, none⟩ = some v3 ∧ w.cell? ⟨g, 4, none⟩ = some v4 ∧ w.cell? ⟨g, 5, none⟩ = some v5 ∧ w.cell? ⟨g, 6, none⟩ = some v6 ∧ w.cell? ⟨g, 7, none⟩ = some v7 ∧ w.cell? ⟨g, 8, none⟩ = some v8 ∧ w.cell? ⟨g, 9, none⟩ = some v9 ∧ w.cell? ⟨g, 10, none⟩ = some v10 ∧ w.cell? ⟨g, 11, none⟩ = some v11 :=
  ⟨cell_of_row w g 0 _ t fr h, cell_of_row w g 1 _ t fr h, cell_of_row w g 2 _ t fr h, cell_of_row w g 3 _ t fr h, cell_of_row w g 4 _ t fr h, cell_of_row w g 5 _ t fr h, cell_of_row w g 6 _ t fr h, cell_of_row w g 7 _ t fr h, cell_of_row w g 8 _ t fr h, cell_of_row w g 9 _ t fr h, cell_of_row w g 10 _ t fr h, cell_of_row w g 11 _ t fr h⟩
theorem holdsM {w : World} {base b : Nat} {c : Cf} {tk ti ext id : Int} {v : Value} {m : Mp} {d : Dg} (T : Bat w base b c tk ti v [m]) (hm : m.pr = d.pr ∧ m.ea = d.sa ∧ m.ep = d.sp ∧ m.ex = ext ∧ m.le = id ∧ m.kn = 1) {wx : World} (hx : Below w.heap.size w wx) : Hid (Calls Tryz.prog 32 #[.pointer (some ⟨b, 0, none⟩), .int .i64 (0 : Int)] wx fun e w' => e = .returned (.tuple #[.agg #[.int .i64 d.pr, .int .i64 d.sa, .int .i64 d.sp, .int .i64 ext, .int .i64 id, .int .i64 1], .int .i64 0]) ∧ Below wx.heap.size wx w') := by
  obtain ⟨h1, h2, h3, h4, h5, h6⟩ := hm
  have := mapping_at (k := 0) (Tb.below T hx) (by simp) (m := m) (by simp)
  rw [h1, h2, h3, h4, h5, h6] at this
  exact this
/-- the configuration stands in block A, the datagram in block B, and nothing that stood in w has changed -/
def Tst (g : Cf) (d : Dg) (A B : Nat) (w w' : World) : Prop := Below w.heap.size w w' ∧ w'.heap[A]? = some (.cells (cfl g) 28 (0, 0)) ∧ w'.heap[B]? = some (.cells (dgl d) 33 (0, 0))
theorem Tst.cf {g : Cf} {d : Dg} {A B : Nat} {w : World} (i : Nat) {u : Value} (h : (cfl g)[i]? = some u) : ∀ w', Tst g d A B w w' → w'.cell? ⟨A, i, none⟩ = some u := fun w' hs => (cell_of_row _ _ _ _ _ _ hs.2.1).trans h
theorem Tst.dg {g : Cf} {d : Dg} {A B : Nat} {w : World} (i : Nat) {u : Value} (h : (dgl d)[i]? = some u) : ∀ w', Tst g d A B w w' → w'.cell? ⟨B, i, none⟩ = some u := fun w' hs => (cell_of_row _ _ _ _ _ _ hs.2.2).trans h
theorem Tst.drew {g : Cf} {d : Dg} {A B : Nat} {w w' : World} (h : Tst g d A B w w') : Tst g d A B w w'.drew := ⟨Below.drew h.1, h.2.1, h.2.2⟩
theorem Tst.next {g : Cf} {d : Dg} {A B : Nat} {w w1 w2 : World} (h : Tst g d A B w w1) (k : Below w1.heap.size w1 w2) : Tst g d A B w w2 := ⟨h.1.trans (k.mono h.1.size), (k.block _ (Array.getElem?_eq_some_iff.1 h.2.1).1).trans h.2.1, (k.block _ (Array.getElem?_eq_some_iff.1 h.2.2).1).trans h.2.2⟩
set_option maxHeartbeats 8000000 in
theorem there_core (c g : Cf) (P : Dg → Prop) (k0 k1 k2 k3 k4 k5 k6 k7 k8 : Int) (m0 m1 m2 : ByteArray) (w : World) (cC : RetB 12 #[.agg (cfl c)] (.agg (cfl g)))
    (cS : ∀ wx, Calls Tryz.prog 13 #[.agg #[.int .i64 k0, .int .i64 k1, .int .i64 k2, .int .i64 k3, .int .i64 k4, .int .i64 k5, .int .i64 k6, .int .i64 k7, .int .i64 k8, .string m0, .string m1, .string m2], .agg (cfl g), .int .i64 g.om] wx fun e w' => ∃ d, e = .returned (.agg (dgl d)) ∧ P d ∧ Below wx.heap.size wx w')
    (cT : ∀ d, P d → ∃ ext m, (m.pr = d.pr ∧ m.ea = d.sa ∧ m.ep = d.sp ∧ m.ex = ext ∧ m.le = g.idle d.pr ∧ m.kn = 1) ∧ ∀ wx, Calls Tryz.prog 14 #[.agg (cfl g), .agg (dgl d)] wx fun e w' => ∃ b v', e = .returned (.tuple #[.pointer (some ⟨b, 0, none⟩), .int .i64 ext]) ∧ Bat w' wx.heap.size b g g.bu 0 v' [m] ∧ Below wx.heap.size wx w' ∧ wx.heap.size ≤ b) :
    Calls Tryz.prog 4 #[.agg (cfl c), .agg #[.int .i64 k0, .int .i64 k1, .int .i64 k2, .int .i64 k3, .int .i64 k4, .int .i64 k5, .int .i64 k6, .int .i64 k7, .int .i64 k8, .string m0, .string m1, .string m2]] w fun e w' => e = .returned (.bool true) ∧ Below w.heap.size w w' := by
  have CT : Hid _ := cT
  have cI : ∀ p, RetB 16 #[.agg (cfl g), .int .i64 p] (.int .i64 (g.idle p)) := fun p w => kidle_any g p w
  have CI : Hid _ := cI
  clear cT cI
  unfold cfl at cC cS ⊢
  unfold dgl at cS
  have CS : Hid _ := cS
  clear cS
  go_enter Tryz.func4, Tryz.ntmps4
  go_wp2_with fail
  refine Calls.mono (cC.at _) ?_; rintro e w1 ⟨rfl, hb1⟩
  have B1 := (hb1.block (w.heap.size + 1) (by simp)).trans (alloc2 w _ _).2
  obtain ⟨p0, p1, p2, p3, p4, p5, p6, p7, p8, p9, p10, p11⟩ := cell12 B1
  have HW1 : Hid (Below w.heap.size w w1) := (((Below.refl w.heap.size w).alloc (Nat.le_refl _) _).alloc (by simp) _).trans (hb1.mono (by simp; omega))
  have hz1 : w.heap.size + 1 < w1.heap.size := by have := hb1.size; simp at this; omega
  clear hb1 B1
  go_wp2_with fail
  refine Calls.mono (CS.out _) ?_; rintro e w2 ⟨d, rfl, hP, hb2⟩
  obtain ⟨ext, m, hm, cT⟩ := CT.out d hP
  have cI := CI.out d.pr
  have HM : Hid _ := hm
  have CT1 : Hid _ := cT
  clear CT cT CS hm hP CI
  generalize g.idle d.pr = id at cI HM
  unfold cfl at cI
  have B2 := (hb2.block w1.heap.size (by simp)).trans (alloc1 w1 _)
  obtain ⟨g0, g1, g2, g3, g4, g5, g6, g7, g8, g9, g10, g11⟩ := cell12 B2
  have HB2 : Hid _ := B2
  have HW2 : Hid (Below w.heap.size w w2) := HW1.out.trans (((Below.refl w1.heap.size w1).alloc (Nat.le_refl _) _ |>.trans (hb2.mono (by simp))).mono (by omega))
  have hz2 : w1.heap.size < w2.heap.size := by have := hb2.size; simp at this; omega
  clear hb2 B2 p0 p1 p2 p3 p4 p5 p6 p7 p8 p9 p10 p11
  go_wp2_with fail
  refine Calls.mono (CT1.out _) ?_; rintro e w3 ⟨b, v', rfl, hT, hb3, _⟩
  have E3 := (hb3.block w2.heap.size (by simp)).trans (alloc1 w2 _)
  have G3 := (hb3.block w1.heap.size (by simp; omega)).trans ((Below.heap_alloc w2 _ _ hz2).trans HB2.out)
  have HW3 : Hid (Below w.heap.size w w3) := HW2.out.trans (((Below.refl w2.heap.size w2).alloc (Nat.le_refl _) _ |>.trans (hb3.mono (by simp))).mono (by omega))
  have hz3 : w2.heap.size < w3.heap.size := by have := hb3.size; simp at this; omega
  have HT : Hid _ := hT
  clear hb3 hT g0 g1 g2 g3 g4 g5 g6 g7 g8 g9 g10 g11
  go_wp2
  have s0 := Tst.cf (g := g) (d := d) (A := w1.heap.size) (B := w2.heap.size) (w := w3) 0 (u := (.int .i64 g.ia)) rfl
  have s1 := Tst.cf (g := g) (d := d) (A := w1.heap.size) (B := w2.heap.size) (w := w3) 1 (u := (.int .i64 g.oa)) rfl
  have s2 := Tst.cf (g := g) (d := d) (A := w1.heap.size) (B := w2.heap.size) (w := w3) 2 (u := (.int .i64 g.lo)) rfl
  have s3 := Tst.cf (g := g) (d := d) (A := w1.heap.size) (B := w2.heap.size) (w := w3) 3 (u := (.int .i64 g.hi)) rfl
  have s4 := Tst.cf (g := g) (d := d) (A := w1.heap.size) (B := w2.heap.size) (w := w3) 4 (u := (.int .i64 g.cp)) rfl
  have s5 := Tst.cf (g := g) (d := d) (A := w1.heap.size) (B := w2.heap.size) (w := w3) 5 (u := (.int .i64 g.im)) rfl
  have s6 := Tst.cf (g := g) (d := d) (A := w1.heap.size) (B := w2.heap.size) (w := w3) 6 (u := (.int .i64 g.om)) rfl
  have s7 := Tst.cf (g := g) (d := d) (A := w1.heap.size) (B := w2.heap.size) (w := w3) 7 (u := (.int .i64 g.iu)) rfl
  have s8 := Tst.cf (g := g) (d := d) (A := w1.heap.size) (B := w2.heap.size) (w := w3) 8 (u := (.int .i64 g.it)) rfl
  have s9 := Tst.cf (g := g) (d := d) (A := w1.heap.size) (B := w2.heap.size) (w := w3) 9 (u := (.int .i64 g.iq)) rfl
  have s10 := Tst.cf (g := g) (d := d) (A := w1.heap.size) (B := w2.heap.size) (w := w3) 10 (u := (.int .i64 g.bu)) rfl
  have s11 := Tst.cf (g := g) (d := d) (A := w1.heap.size) (B := w2.heap.size) (w := w3) 11 (u := (.int .i64 g.ra)) rfl
  have z0 := Tst.dg (g := g) (d := d) (A := w1.heap.size) (B := w2.heap.size) (w := w3) 0 (u := (.int .i64 d.pr)) rfl
  have z1 := Tst.dg (g := g) (d := d) (A := w1.heap.size) (B := w2.heap.size) (w := w3) 1 (u := (.int .i64 d.kd)) rfl
  have z2 := Tst.dg (g := g) (d := d) (A := w1.heap.size) (B := w2.heap.size) (w := w3) 2 (u := (.bool d.ba)) rfl
  have z3 := Tst.dg (g := g) (d := d) (A := w1.heap.size) (B := w2.heap.size) (w := w3) 3 (u := (.int .i64 d.sa)) rfl
  have z4 := Tst.dg (g := g) (d := d) (A := w1.heap.size) (B := w2.heap.size) (w := w3) 4 (u := (.int .i64 d.sp)) rfl
  have z5 := Tst.dg (g := g) (d := d) (A := w1.heap.size) (B := w2.heap.size) (w := w3) 5 (u := (.int .i64 d.da)) rfl
  have z6 := Tst.dg (g := g) (d := d) (A := w1.heap.size) (B := w2.heap.size) (w := w3) 6 (u := (.int .i64 d.dp)) rfl
  have z7 := Tst.dg (g := g) (d := d) (A := w1.heap.size) (B := w2.heap.size) (w := w3) 7 (u := (.int .i64 d.tl)) rfl
  have z8 := Tst.dg (g := g) (d := d) (A := w1.heap.size) (B := w2.heap.size) (w := w3) 8 (u := (.int .i64 d.bi)) rfl
  have z9 := Tst.dg (g := g) (d := d) (A := w1.heap.size) (B := w2.heap.size) (w := w3) 9 (u := (.int .i64 d.sr)) rfl
  have z10 := Tst.dg (g := g) (d := d) (A := w1.heap.size) (B := w2.heap.size) (w := w3) 10 (u := (.string d.op)) rfl
  have z11 := Tst.dg (g := g) (d := d) (A := w1.heap.size) (B := w2.heap.size) (w := w3) 11 (u := (.string d.md)) rfl
  have z12 := Tst.dg (g := g) (d := d) (A := w1.heap.size) (B := w2.heap.size) (w := w3) 12 (u := (.string d.tx)) rfl
  have z13 := Tst.dg (g := g) (d := d) (A := w1.heap.size) (B := w2.heap.size) (w := w3) 13 (u := (.string d.ta)) rfl
  have ss : Hid (Tst g d w1.heap.size w2.heap.size w3 w3.drew) := Tst.drew ⟨Below.refl _ _, G3, E3⟩
  have HTa : Hid _ := HT.out.below (Below.drew (Below.refl w3.heap.size w3))
  clear G3 E3
  go_region_held (fun w' => Tst g d w1.heap.size w2.heap.size w3 w') (first | (with_reducible assumption) | (with_reducible exact ss.out)) (first
    | (go_at_call 16; refine Calls.mono (cI.at _) ?_; rintro e wy ⟨rfl, hby⟩; have hky := Tst.next (g := g) (d := d) ss.out hby; have HTy : Hid _ := Tb.below HTa.out hby)
    | (go_at_call 15; refine Calls.mono (holds_yes b 0 id 1 ext d (fun wx hx => Hid.out (holdsM HTy.out HM.out hx))) ?_; rintro e wz ⟨rfl, hbz⟩; have hkz := Tst.next (g := g) (d := d) hky hbz; have HTz : Hid _ := Tb.below HTy.out hbz))
  all_goals
    go_wp2_with fail
    refine Calls.mono (live_any HTz.out (by simp)) ?_; rintro e w' ⟨rfl, hw⟩; replace hw := hw.symm; subst hw
    simp only [List.length_cons, List.length_nil]
    go_wp2
    go_ret
    exact ⟨rfl, HW3.out.trans (hkz.1.mono HW3.out.size)⟩
end Go.Proofs.YthiljpbodmajaaaGreat
namespace Go.Proofs.YthiljpbodmajaaaGreat
open Go.RowKit Plain
set_option linter.unusedVariables false

theorem used_new (p a q x b r i : Int) : ((Mp.new p a q x).used b r i).pr = p ∧ ((Mp.new p a q x).used b r i).ea = a ∧ ((Mp.new p a q x).used b r i).ep = q ∧ ((Mp.new p a q x).used b r i).ex = x ∧ ((Mp.new p a q x).used b r i).le = i ∧ ((Mp.new p a q x).used b r i).kn = 1 := by
  simp [Mp.used, Mp.new, Mp.knows]
theorem start_out (g : Cf) (hg : g.ok = true) (d : Dg) (O : Outok d g) : ∃ ext m, (m.pr = d.pr ∧ m.ea = d.sa ∧ m.ep = d.sp ∧ m.ex = ext ∧ m.le = g.idle d.pr ∧ m.kn = 1) ∧ (1 ≤ ext ∧ ext ≤ 65535) ∧ ∀ wx, Calls Tryz.prog 14 #[.agg (cfl g), .agg (dgl d)] wx fun e w' => ∃ b v', e = .returned (.tuple #[.pointer (some ⟨b, 0, none⟩), .int .i64 ext]) ∧ Bat w' wx.heap.size b g g.bu 0 v' [m] ∧ Below wx.heap.size wx w' ∧ wx.heap.size ≤ b := by
  have C := cok_of hg
  have D := O.ok
  have hoa := us_bd C.oa
  have l1 := C.l1
  have l2 := C.l2
  have h2 := C.h2
  obtain ⟨ext, hext⟩ : ∃ ext, ext = chs g [] d.pr d.sp := ⟨_, rfl⟩
  have xb : 1 ≤ ext ∧ ext ≤ 65535 := by rw [hext, chs_nil]; split <;> omega
  have hgv : gvn g.lo g.hi d.sp (-1) = ext := by rw [hext, chs_gvn g C d.pr d.sp D.p0]; rfl
  obtain ⟨F, e1, e2, e3, e4, e5, e6, e7⟩ := O.parts
  have D2 : Dgok { d with sa := g.oa, sp := ext, tl := d.tl - 1 } := ⟨D.pr, hoa.1, hoa.2, D.d0, D.d1, by show 0 ≤ ext; omega, by show ext < 65536; omega, D.q0, D.q1, by show 0 ≤ d.tl - 1; have := O.tl; omega, by show d.tl - 1 < 256; have := D.t1; omega, D.md, D.op, D.o4, D.tx, D.ta⟩
  refine ⟨ext, (Mp.new d.pr d.sa d.sp ext).used d.da (if d.pr = 1 then 0 else wd (kfr d) (ppl (kfr d) 2)) (g.idle d.pr), used_new _ _ _ _ _ _ _, xb, fun wx => ?_⟩
  refine start_core g d ext (kfr d) (kfr { d with sa := g.oa, sp := ext, tl := d.tl - 1 }) _ wx hg (fun w => ?_) (fun w => out_any d g ext w D.t0 (by have := D.t1; omega)) (kframe_any d D) (kframe_any _ D2) (fun wy b T => ?_)
  · have := given_any g d.sp (-1) w (by omega) (by omega)
    rw [hgv] at this
    exact this
  · have := frame_first T hg (kfr d) O.all O.exam O.chk O.kinds.2.2 (by rw [e7]; simpa using O.n4) O.pss ext (by rw [e3, O.sport]; exact hext)
    rw [O.goes ext (by omega) (by omega) hoa.1 hoa.2, e3, e6, e7, O.sport] at this
    exact this
end Go.Proofs.YthiljpbodmajaaaGreat
