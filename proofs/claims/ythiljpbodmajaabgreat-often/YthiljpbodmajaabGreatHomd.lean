/-
  PLAIN MATHEMATICS: what comes back from the outside, as the box sees it, and what comes in.
-/
import Derived.Test.YthiljpbodmajaabGreatKepj
import Derived.Test.YthiljpbodmajaabGreatBoxa
import Derived.Test.YthiljpbodmajaabGreatAgeb
import Derived.Test.YthiljpbodmajaabGreatSana
import Derived.Test.YthiljpbodmajaabGreatKfrm
import Derived.Test.YthiljpbodmajaabGreatTick
namespace Go.Proofs.YthiljpbodmajaabGreat
open Plain
set_option linter.unusedVariables false

/-- what must hold of a datagram that comes in through a box -/
structure Inok (d : Dg) (c : Cf) : Prop where
  ok : Dgok d
  all : (kfr d).size ≤ 65535
  us : usB d.sa = true
  ud : usB d.da = true
  n1 : ¬ d.sa = c.ia
  n2 : ¬ d.sa = c.oa
  n3 : ¬ d.da = c.ia
  n4 : d.da = c.oa
  kd : d.pr = 1 → d.kd = 0 ∨ d.kd = 14
  tl : 2 ≤ d.tl
  len : 20 + (d.op.size : Int) + (kbd d).size ≤ c.im
section
variable {d : Dg} {c : Cf} (O : Inok d c)
include O
theorem Inok.parts : Fits (kfr d) ∧ hdv (kfr d) = 20 + (d.op.size : Int) ∧ bdy (kfr d) = kbx d (kfd d) ∧ bt (kfr d) 9 = d.pr ∧ bt (kfr d) 8 = d.tl ∧ wd (kfr d) 2 = 20 + (d.op.size : Int) + (kbd d).size ∧ lg (kfr d) 12 = d.sa ∧ lg (kfr d) 16 = d.da := by
  have h := O.all
  rw [kfr_eq O.ok] at h ⊢
  have hc := kcs_bd d (kbx d (kfd d)).size
  obtain ⟨F, e1, e2, e3, e4, e5, e6, e7, _⟩ := kfx_parts O.ok _ (kfd d) hc.1 hc.2 (kbx_big O.ok (kfd d)).1 h
  exact ⟨F, e1, e2, e3, e4, by rw [e5, kbd_eq O.ok], e6, e7⟩
theorem Inok.chk : chk (kfr d) = 0 := kfr_chk O.ok O.all O.us O.ud
theorem Inok.type (hp : d.pr = 1) : bt (kfr d) (hdv (kfr d)) = d.kd := by
  obtain ⟨F, e1, e2, e3, e4, e5, e6, e7⟩ := O.parts
  have h8 : 8 ≤ (bdy (kfr d)).size := by rw [e2]; exact (kbx_big O.ok (kfd d)).2
  rw [← bdy_bt0 F h8, e2]
  exact (kfx_query O.ok (kfd d) hp).1
theorem Inok.kinds : isReq (kfr d) = false ∧ isErr (kfr d) = false := by
  obtain ⟨F, e1, e2, e3, e4, e5, e6, e7⟩ := O.parts
  unfold isReq isErr
  rw [e3]
  by_cases hp : d.pr = 1
  · rw [O.type hp]
    rcases O.kd hp with e | e <;> simp [hp, e, reqB, errB]
  · have : (d.pr == 1) = false := by simpa using hp
    simp [this]
theorem Inok.exam : exam c 1 (kfr d) = 0 := by
  obtain ⟨F, e1, e2, e3, e4, e5, e6, e7⟩ := O.parts
  obtain ⟨k1, k3⟩ := O.kinds
  have a1 : (d.sa == c.ia) = false := by simpa using O.n1
  have a2 : (d.sa == c.oa) = false := by simpa using O.n2
  have a3 : (d.da == c.ia) = false := by simpa using O.n3
  have a4 : (d.da == c.oa) = true := by simpa using O.n4
  unfold Plain.exam
  rw [if_neg (by omega), if_neg (by rw [O.chk]; simp)]
  have h1 : addrB c 1 (kfr d) = true := by unfold addrB; rw [e6, e7, a1, a2, a3, a4]; rfl
  have h2 : kindB c 1 (kfr d) = true := by unfold kindB; rw [if_pos rfl, k1]; rfl
  rw [h1, h2]; rfl
theorem Inok.pss : pss (kfr d) c.im = 0 := by
  obtain ⟨F, e1, e2, e3, e4, e5, e6, e7⟩ := O.parts
  have := O.tl; have := O.len
  unfold Plain.pss
  rw [e4, e5, if_neg (by omega), if_neg (by omega)]
theorem Inok.place : ppl (kfr d) 2 = 20 + (d.op.size : Int) + (if d.pr = 1 then 4 else 2) := by
  obtain ⟨F, e1, e2, e3, e4, e5, e6, e7⟩ := O.parts
  unfold ppl; rw [e1, e3]
theorem Inok.dport : wd (kfr d) (ppl (kfr d) 2) = d.dp := by
  obtain ⟨F, e1, e2, e3, e4, e5, e6, e7⟩ := O.parts
  have hb := kbx_big O.ok (kfd d)
  have D := O.ok
  rw [O.place, ← e1]
  have := bdy_wd F (if d.pr = 1 then 4 else 2) (by split <;> omega) (by rw [e2]; split <;> omega)
  rw [← this, e2]
  rcases D.pr with ⟨hp, r0, r1⟩ | ⟨hp, r0, r1, r2⟩ | ⟨hp, hkd⟩
  · rw [if_neg (by omega)]
    have := wd_mid (w2 d.sp) (w2 (kn d) ++ w2 (kfd d) ++ d.tx) d.dp 2 (by simp [w2_size]) D.q0 D.q1
    unfold kbx kbp kbs
    simpa [ByteArray.append_assoc, hp] using this
  · rw [if_neg (by omega)]
    have := wd_mid (w2 d.sp) (prt d.md 0 8 ++ b1 ((5 + d.sr) * 16 + bt d.md 8 % 16) ++ prt d.md 9 12 ++ w2 (kfd d) ++ (prt d.md 12 14 ++ d.tx)) d.dp 2 (by simp [w2_size]) D.q0 D.q1
    unfold kbx kbp kbs
    simpa [ByteArray.append_assoc, hp] using this
  · rw [if_pos hp]
    have h8 := O.kd hp
    have i1 : kid d = d.dp := by unfold kid; rw [if_neg (by omega)]
    unfold kbx kbp kbs
    rw [i1]
    simp only [hp]
    rcases h8 with e | e
    · have := wd_mid (b1 d.kd ++ b1 0 ++ w2 (kfd d)) (prt d.md 0 2 ++ d.tx) d.dp 4 (by simp [b1_size, w2_size]) D.q0 D.q1
      simpa [ByteArray.append_assoc, e] using this
    · have := wd_mid (b1 d.kd ++ b1 0 ++ w2 (kfd d)) (prt d.md 0 2 ++ prt d.md 2 14 ++ d.tx) d.dp 4 (by simp [b1_size, w2_size]) D.q0 D.q1
      simpa [ByteArray.append_assoc, e] using this
theorem Inok.comes (a x : Int) (x0 : 0 ≤ x) (x1 : x < 65536) (a0 : 0 ≤ a) (a1 : a < 4294967296) : snt (wdst (kfr d) a x) = kfr { d with da := a, dp := x, tl := d.tl - 1 } := by
  have D := O.ok
  have hall := O.all
  have hpl := O.place
  have hc := kcs_bd d (kbx d (kfd d)).size
  have hkb := kck_bd d
  have hf : 0 ≤ kfd d ∧ kfd d < 65536 := by unfold kfd; split <;> omega
  have hz0 := kfd_zero d
  obtain ⟨F, e1, e2, e3, e4, e5, e6, e7⟩ := O.parts
  have hd12 : hdv (put (kfr d) 16 (l4 a)) = hdv (kfr d) := hdv_put (by decide) (by rw [l4_size]; have := F.n20; omega)
  have hb9 : bt (put (kfr d) 16 (l4 a)) 9 = bt (kfr d) 9 := bt_put_off (by decide) (by rw [l4_size]; have := F.n20; omega) (by omega)
  have hpp : ppl (put (kfr d) 16 (l4 a)) 2 = ppl (kfr d) 2 := by unfold ppl; rw [hd12, hb9]
  unfold wdst
  rw [hpp, hpl]
  rw [kfr_eq D] at hall ⊢
  generalize kcs d (kbx d (kfd d)).size = C at *
  generalize hK : kfd d = K at *
  rw [kfx_put16]
  have D1 : Dgok { d with da := a } := ⟨D.pr, D.s0, D.s1, a0, a1, D.p0, D.p1, D.q0, D.q1, D.t0, D.t1, D.md, D.op, D.o4, D.tx, D.ta⟩
  rw [kfx_putd D1 C K x _ O.kd rfl]
  have D2 : Dgok { d with da := a, dp := x } := ⟨D.pr, D.s0, D.s1, a0, a1, D.p0, D.p1, x0, x1, D.t0, D.t1, D.md, D.op, D.o4, D.tx, D.ta⟩
  have hs2 : (kfx { d with da := a, dp := x } C K).size ≤ 65535 := by
    have q := kfx_len d C K
    have q2 := kfx_len { d with da := a, dp := x } C K
    have b1' := kbx_size D K
    have b2' := kbx_size D2 K
    have : (kbs { d with da := a, dp := x }).size = (kbs d).size := by
      unfold kbs kid
      split
      · rfl
      · split
        · rfl
        · split <;> simp only [ByteArray.size_append, w2_size]
    have hfl : kfl { d with da := a, dp := x } = kfl d := rfl
    rw [q2]
    show 20 + d.op.size + (kbx { d with da := a, dp := x } K).size + d.ta.size ≤ 65535
    omega
  exact kfx_snt D2 C K hc.1 hc.2 hf.1 hf.2 hz0 (by show 1 ≤ d.tl; have := O.tl; omega) hs2
end
end Go.Proofs.YthiljpbodmajaabGreat
namespace Go.Proofs.YthiljpbodmajaabGreat
open Go.RowKit Plain
set_option linter.unusedVariables false

end Go.Proofs.YthiljpbodmajaabGreat
namespace Go.Proofs.YthiljpbodmajaabGreat
open Go.RowKit Plain
set_option linter.unusedVariables false

/-- what comes from the outside, by what sent gives -/
def frm (a : Dg) (oa ext : Int) : Dg := { a with da := oa, dp := ext, kd := akd a.kd }
theorem kbd_frm {a : Dg} (D : Dgok a) (hk : a.pr = 1 → a.kd = 8 ∨ a.kd = 13) (oa ext : Int) (D' : Dgok (frm a oa ext)) : (kbd (frm a oa ext)).size = (kbd a).size := by
  rw [kbd_eq D, kbd_eq D']
  have h1 := kbx_size D (kfd a)
  have h2 := kbx_size D' (kfd (frm a oa ext))
  have h3 : kfl (frm a oa ext) = kfl a := rfl
  have hm := D.md
  have z1 : (prt a.md 0 2).size = 2 := by rw [prt_size]; omega
  have z2 : (prt a.md 2 14).size = 12 := by rw [prt_size]; omega
  have h4 : (kbs (frm a oa ext)).size = (kbs a).size := by
    unfold kbs
    show (if a.pr = 17 then _ else if a.pr = 6 then _ else _ : ByteArray).size = _
    by_cases p17 : a.pr = 17
    · rw [if_pos p17, if_pos p17]; rfl
    · by_cases p6 : a.pr = 6
      · rw [if_neg p17, if_neg p17, if_pos p6, if_pos p6]; rfl
      · have p1 : a.pr = 1 := by rcases D.pr with ⟨h, _⟩ | ⟨h, _⟩ | ⟨h, _⟩ <;> omega
        rw [if_neg p17, if_neg p17, if_neg p6, if_neg p6]
        show ((if 8 < akd a.kd then _ else _ : ByteArray) ++ a.tx).size = _
        rcases hk p1 with e | e
        · simp [e, akd, frm, ByteArray.size_append, w2_size, z1]
        · simp [e, akd, frm, ByteArray.size_append, w2_size, z1, z2]
  omega
theorem frm_ok {a : Dg} {g : Cf} {sa da sp dp tl k8 ext : Int} (G : g.ok = true) (S : Sentok a (oth sa g.ia g.oa) da sp dp tl g.im k8) (ht : 2 ≤ tl) (e0 : 1 ≤ ext) (e1 : ext ≤ 65535) : Inok (frm a g.oa ext) g := by
  have C := cok_of G
  have hoa := us_bd C.oa
  have D := S.ok
  have D' : Dgok (frm a g.oa ext) := by
    refine ⟨?_, D.s0, D.s1, hoa.1, hoa.2, D.p0, D.p1, by show 0 ≤ ext; omega, by show ext < 65536; omega, D.t0, D.t1, D.md, D.op, D.o4, D.tx, D.ta⟩
    rcases D.pr with h | h | ⟨h, h'⟩
    · exact .inl h
    · exact .inr (.inl h)
    · refine .inr (.inr ⟨h, ?_⟩)
      show akd a.kd = 8 ∨ akd a.kd = 13 ∨ akd a.kd = 0 ∨ akd a.kd = 14
      rcases S.kd h with e | e <;> simp [akd, e]
  have hz := kbd_frm D S.kd g.oa ext D'
  have hall := S.all
  rw [kfr_size D] at hall
  refine ⟨D', ?_, by show usB a.sa = true; rw [S.sa]; exact oth_us _ _ _, C.oa, by show ¬ a.sa = g.ia; rw [S.sa]; exact (oth_ne _ _ _).1, by show ¬ a.sa = g.oa; rw [S.sa]; exact (oth_ne _ _ _).2, fun e => C.ne (Eq.symm e), rfl, ?_, by show 2 ≤ a.tl; rw [S.tl]; exact ht, ?_⟩
  · rw [kfr_size D', hz]; exact hall
  · intro h
    show akd a.kd = 0 ∨ akd a.kd = 14
    rcases S.kd h with e | e <;> simp [akd, e]
  · show 20 + (a.op.size : Int) + (kbd (frm a g.oa ext)).size ≤ g.im
    rw [hz]; exact S.len
theorem aged_one (n : Int) (m : Mp) (h : n < m.le) : aged n [m] = [{ m with le := m.le - n }] := by simp [aged, h]
theorem tick_one {g : Cf} (G : g.ok = true) {wx : World} {base b : Nat} {v : Value} {m : Mp} {n : Int} (T : Bat wx base b g g.bu 0 v [m]) (n0 : 0 ≤ n) (n1 : n < m.le) (hl : m.le ≤ 100000) :
    Calls Tryz.prog 17 #[.pointer (some ⟨b, 0, none⟩), .int .i64 n] wx fun e w' => e = .returned (.int .i64 0) ∧ ∃ v' tk, BL wx w' base b g v v' tk n [{ m with le := m.le - n }] := by
  have h := cok_rest G
  have := tick_yes T n _ n0 (by omega) (by omega) (by omega) h.1.1 h.1.2 h.2.1.1 h.2.1.2 h.1.2 rfl (fun wy cur Ty => age_any Ty (by simp) n n0 (by omega) (by simp; omega))
  rw [aged_one n m n1] at this
  refine this.mono fun e w' h => ⟨h.1, ?_⟩
  obtain ⟨v', hv⟩ := h.2
  rw [show (0 : Int) + n = n by omega] at hv
  exact ⟨v', _, hv⟩
theorem home_frame {g : Cf} {wx : World} {base b : Nat} {v : Value} {tk ti : Int} {m : Mp} {a d : Dg} (I : Inok a g) (T : Bat wx base b g tk ti v [m]) (D : Dgok d) (h1 : m.pr = a.pr) (h2 : m.ea = d.sa) (h3 : m.ep = d.sp) (h4 : m.ex = a.dp) :
    Calls Tryz.prog 18 #[.pointer (some ⟨b, 0, none⟩), .int .i64 1, .string (kfr a)] wx fun e w' => e = .returned (rpv 0 0 (kfr { a with da := d.sa, dp := d.sp, tl := a.tl - 1 })) ∧ Below wx.heap.size wx w' := by
  obtain ⟨F, e1, e2, e3, e4, e5, e6, e7⟩ := I.parts
  have hh : m.has (bt (kfr a) 9) (wd (kfr a) (ppl (kfr a) 2)) = true := by rw [e3, I.dport]; simp [Mp.has, h1, h4]
  have := frame_home T (by simp) (kfr a) I.all I.exam I.chk I.kinds.2 m (by rw [List.findIdx_cons, hh]; rfl) I.pss (by rw [h2]; exact D.s0) (by rw [h2]; exact D.s1) (by rw [h3]; exact D.p0) (by rw [h3]; exact D.p1)
  rw [I.comes m.ea m.ep (by rw [h3]; exact D.p0) (by rw [h3]; exact D.p1) (by rw [h2]; exact D.s0) (by rw [h2]; exact D.s1), h2, h3] at this
  exact this
end Go.Proofs.YthiljpbodmajaabGreat
