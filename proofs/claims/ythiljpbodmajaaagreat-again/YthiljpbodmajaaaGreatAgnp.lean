/-
  PLAIN MATHEMATICS: what comes back from the outside, as the box sees it, and what comes in.
-/
import Derived.Test.YthiljpbodmajaaaGreatKepx
import Derived.Test.YthiljpbodmajaaaGreatBoxa
import Derived.Test.YthiljpbodmajaaaGreatAgeb
import Derived.Test.YthiljpbodmajaaaGreatSana
import Derived.Test.YthiljpbodmajaaaGreatKfrm
import Derived.Test.YthiljpbodmajaaaGreatTick
import Derived.Test.YthiljpbodmajaaaGreatCfgn
import Derived.ProofKit
import Derived.Deep.Slices
namespace Go.Proofs.YthiljpbodmajaaaGreat
open Plain
set_option linter.unusedVariables false

/-- what must hold of a datagram that comes in through a box -/
structure Inok (d : Dg) (c : Cf) : Prop where
  ok : Dgok d
  all : (kfr d).size ≤ 65535
  us : usB d.sa = true
  ud : usB d.da = true
  n1 : ¬ d.sa = c.ia
  n2 : ¬ d.sa = c.oa
  n3 : ¬ d.da = c.ia
  n4 : d.da = c.oa
  kd : d.pr = 1 → d.kd = 0 ∨ d.kd = 14
  tl : 2 ≤ d.tl
  len : 20 + (d.op.size : Int) + (kbd d).size ≤ c.im
section
variable {d : Dg} {c : Cf} (O : Inok d c)
include O
theorem Inok.parts : Fits (kfr d) ∧ hdv (kfr d) = 20 + (d.op.size : Int) ∧ bdy (kfr d) = kbx d (kfd d) ∧ bt (kfr d) 9 = d.pr ∧ bt (kfr d) 8 = d.tl ∧ wd (kfr d) 2 = 20 + (d.op.size : Int) + (kbd d).size ∧ lg (kfr d) 12 = d.sa ∧ lg (kfr d) 16 = d.da := by
  have h := O.all
  rw [kfr_eq O.ok] at h ⊢
  have hc := kcs_bd d (kbx d (kfd d)).size
  obtain ⟨F, e1, e2, e3, e4, e5, e6, e7, _⟩ := kfx_parts O.ok _ (kfd d) hc.1 hc.2 (kbx_big O.ok (kfd d)).1 h
  exact ⟨F, e1, e2, e3, e4, by rw [e5, kbd_eq O.ok], e6, e7⟩
theorem Inok.chk : chk (kfr d) = 0 := kfr_chk O.ok O.all O.us O.ud
theorem Inok.type (hp : d.pr = 1) : bt (kfr d) (hdv (kfr d)) = d.kd := by
  obtain ⟨F, e1, e2, e3, e4, e5, e6, e7⟩ := O.parts
  have h8 : 8 ≤ (bdy (kfr d)).size := by rw [e2]; exact (kbx_big O.ok (kfd d)).2
  rw [← bdy_bt0 F h8, e2]
  exact (kfx_query O.ok (kfd d) hp).1
theorem Inok.kinds : isReq (kfr d) = false ∧ isErr (kfr d) = false := by
  obtain ⟨F, e1, e2, e3, e4, e5, e6, e7⟩ := O.parts
  unfold isReq isErr
  rw [e3]
  by_cases hp : d.pr = 1
  · rw [O.type hp]
    rcases O.kd hp with e | e <;> simp [hp, e, reqB, errB]
  · have : (d.pr == 1) = false := by simpa using hp
    simp [this]
theorem Inok.exam : exam c 1 (kfr d) = 0 := by
  obtain ⟨F, e1, e2, e3, e4, e5, e6, e7⟩ := O.parts
  obtain ⟨k1, k3⟩ := O.kinds
  have a1 : (d.sa == c.ia) = false := by simpa using O.n1
  have a2 : (d.sa == c.oa) = false := by simpa using O.n2
  have a3 : (d.da == c.ia) = false := by simpa using O.n3
  have a4 : (d.da == c.oa) = true := by simpa using O.n4
  unfold Plain.exam
  rw [if_neg (by omega), if_neg (by rw [O.chk]; simp)]
  have h1 : addrB c 1 (kfr d) = true := by unfold addrB; rw [e6, e7, a1, a2, a3, a4]; rfl
  have h2 : kindB c 1 (kfr d) = true := by unfold kindB; rw [if_pos rfl, k1]; rfl
  rw [h1, h2]; rfl
theorem Inok.pss : pss (kfr d) c.im = 0 := by
  obtain ⟨F, e1, e2, e3, e4, e5, e6, e7⟩ := O.parts
  have := O.tl; have := O.len
  unfold Plain.pss
  rw [e4, e5, if_neg (by omega), if_neg (by omega)]
theorem Inok.place : ppl (kfr d) 2 = 20 + (d.op.size : Int) + (if d.pr = 1 then 4 else 2) := by
  obtain ⟨F, e1, e2, e3, e4, e5, e6, e7⟩ := O.parts
  unfold ppl; rw [e1, e3]
theorem Inok.dport : wd (kfr d) (ppl (kfr d) 2) = d.dp := by
  obtain ⟨F, e1, e2, e3, e4, e5, e6, e7⟩ := O.parts
  have hb := kbx_big O.ok (kfd d)
  have D := O.ok
  rw [O.place, ← e1]
  have := bdy_wd F (if d.pr = 1 then 4 else 2) (by split <;> omega) (by rw [e2]; split <;> omega)
  rw [← this, e2]
  rcases D.pr with ⟨hp, r0, r1⟩ | ⟨hp, r0, r1, r2⟩ | ⟨hp, hkd⟩
  · rw [if_neg (by omega)]
    have := wd_mid (w2 d.sp) (w2 (kn d) ++ w2 (kfd d) ++ d.tx) d.dp 2 (by simp [w2_size]) D.q0 D.q1
    unfold kbx kbp kbs
    simpa [ByteArray.append_assoc, hp] using this
  · rw [if_neg (by omega)]
    have := wd_mid (w2 d.sp) (prt d.md 0 8 ++ b1 ((5 + d.sr) * 16 + bt d.md 8 % 16) ++ prt d.md 9 12 ++ w2 (kfd d) ++ (prt d.md 12 14 ++ d.tx)) d.dp 2 (by simp [w2_size]) D.q0 D.q1
    unfold kbx kbp kbs
    simpa [ByteArray.append_assoc, hp] using this
  · rw [if_pos hp]
    have h8 := O.kd hp
    have i1 : kid d = d.dp := by unfold kid; rw [if_neg (by omega)]
    unfold kbx kbp kbs
    rw [i1]
    simp only [hp]
    rcases h8 with e | e
    · have := wd_mid (b1 d.kd ++ b1 0 ++ w2 (kfd d)) (prt d.md 0 2 ++ d.tx) d.dp 4 (by simp [b1_size, w2_size]) D.q0 D.q1
      simpa [ByteArray.append_assoc, e] using this
    · have := wd_mid (b1 d.kd ++ b1 0 ++ w2 (kfd d)) (prt d.md 0 2 ++ prt d.md 2 14 ++ d.tx) d.dp 4 (by simp [b1_size, w2_size]) D.q0 D.q1
      simpa [ByteArray.append_assoc, e] using this
theorem Inok.comes (a x : Int) (x0 : 0 ≤ x) (x1 : x < 65536) (a0 : 0 ≤ a) (a1 : a < 4294967296) : snt (wdst (kfr d) a x) = kfr { d with da := a, dp := x, tl := d.tl - 1 } := by
  have D := O.ok
  have hall := O.all
  have hpl := O.place
  have hc := kcs_bd d (kbx d (kfd d)).size
  have hkb := kck_bd d
  have hf : 0 ≤ kfd d ∧ kfd d < 65536 := by unfold kfd; split <;> omega
  have hz0 := kfd_zero d
  obtain ⟨F, e1, e2, e3, e4, e5, e6, e7⟩ := O.parts
  have hd12 : hdv (put (kfr d) 16 (l4 a)) = hdv (kfr d) := hdv_put (by decide) (by rw [l4_size]; have := F.n20; omega)
  have hb9 : bt (put (kfr d) 16 (l4 a)) 9 = bt (kfr d) 9 := bt_put_off (by decide) (by rw [l4_size]; have := F.n20; omega) (by omega)
  have hpp : ppl (put (kfr d) 16 (l4 a)) 2 = ppl (kfr d) 2 := by unfold ppl; rw [hd12, hb9]
  unfold wdst
  rw [hpp, hpl]
  rw [kfr_eq D] at hall ⊢
  generalize kcs d (kbx d (kfd d)).size = C at *
  generalize hK : kfd d = K at *
  rw [kfx_put16]
  have D1 : Dgok { d with da := a } := ⟨D.pr, D.s0, D.s1, a0, a1, D.p0, D.p1, D.q0, D.q1, D.t0, D.t1, D.md, D.op, D.o4, D.tx, D.ta⟩
  rw [kfx_putd D1 C K x _ O.kd rfl]
  have D2 : Dgok { d with da := a, dp := x } := ⟨D.pr, D.s0, D.s1, a0, a1, D.p0, D.p1, x0, x1, D.t0, D.t1, D.md, D.op, D.o4, D.tx, D.ta⟩
  have hs2 : (kfx { d with da := a, dp := x } C K).size ≤ 65535 := by
    have q := kfx_len d C K
    have q2 := kfx_len { d with da := a, dp := x } C K
    have b1' := kbx_size D K
    have b2' := kbx_size D2 K
    have : (kbs { d with da := a, dp := x }).size = (kbs d).size := by
      unfold kbs kid
      split
      · rfl
      · split
        · rfl
        · split <;> simp only [ByteArray.size_append, w2_size]
    have hfl : kfl { d with da := a, dp := x } = kfl d := rfl
    rw [q2]
    show 20 + d.op.size + (kbx { d with da := a, dp := x } K).size + d.ta.size ≤ 65535
    omega
  exact kfx_snt D2 C K hc.1 hc.2 hf.1 hf.2 hz0 (by show 1 ≤ d.tl; have := O.tl; omega) hs2
end
end Go.Proofs.YthiljpbodmajaaaGreat
namespace Go.Proofs.YthiljpbodmajaaaGreat
open Go.RowKit Plain
set_option linter.unusedVariables false

end Go.Proofs.YthiljpbodmajaaaGreat
namespace Go.Proofs.YthiljpbodmajaaaGreat
open Go.RowKit Plain
set_option linter.unusedVariables false

/-- what comes from the outside, by what sent gives -/
def frm (a : Dg) (oa ext : Int) : Dg := { a with da := oa, dp := ext, kd := akd a.kd }
theorem kbd_frm {a : Dg} (D : Dgok a) (hk : a.pr = 1 → a.kd = 8 ∨ a.kd = 13) (oa ext : Int) (D' : Dgok (frm a oa ext)) : (kbd (frm a oa ext)).size = (kbd a).size := by
  rw [kbd_eq D, kbd_eq D']
  have h1 := kbx_size D (kfd a)
  have h2 := kbx_size D' (kfd (frm a oa ext))
  have h3 : kfl (frm a oa ext) = kfl a := rfl
  have hm := D.md
  have z1 : (prt a.md 0 2).size = 2 := by rw [prt_size]; omega
  have z2 : (prt a.md 2 14).size = 12 := by rw [prt_size]; omega
  have h4 : (kbs (frm a oa ext)).size = (kbs a).size := by
    unfold kbs
    show (if a.pr = 17 then _ else if a.pr = 6 then _ else _ : ByteArray).size = _
    by_cases p17 : a.pr = 17
    · rw [if_pos p17, if_pos p17]; rfl
    · by_cases p6 : a.pr = 6
      · rw [if_neg p17, if_neg p17, if_pos p6, if_pos p6]; rfl
      · have p1 : a.pr = 1 := by rcases D.pr with ⟨h, _⟩ | ⟨h, _⟩ | ⟨h, _⟩ <;> omega
        rw [if_neg p17, if_neg p17, if_neg p6, if_neg p6]
        show ((if 8 < akd a.kd then _ else _ : ByteArray) ++ a.tx).size = _
        rcases hk p1 with e | e
        · simp [e, akd, frm, ByteArray.size_append, w2_size, z1]
        · simp [e, akd, frm, ByteArray.size_append, w2_size, z1, z2]
  omega
theorem frm_ok {a : Dg} {g : Cf} {sa da sp dp tl k8 ext : Int} (G : g.ok = true) (S : Sentok a (oth sa g.ia g.oa) da sp dp tl g.im k8) (ht : 2 ≤ tl) (e0 : 1 ≤ ext) (e1 : ext ≤ 65535) : Inok (frm a g.oa ext) g := by
  have C := cok_of G
  have hoa := us_bd C.oa
  have D := S.ok
  have D' : Dgok (frm a g.oa ext) := by
    refine ⟨?_, D.s0, D.s1, hoa.1, hoa.2, D.p0, D.p1, by show 0 ≤ ext; omega, by show ext < 65536; omega, D.t0, D.t1, D.md, D.op, D.o4, D.tx, D.ta⟩
    rcases D.pr with h | h | ⟨h, h'⟩
    · exact .inl h
    · exact .inr (.inl h)
    · refine .inr (.inr ⟨h, ?_⟩)
      show akd a.kd = 8 ∨ akd a.kd = 13 ∨ akd a.kd = 0 ∨ akd a.kd = 14
      rcases S.kd h with e | e <;> simp [akd, e]
  have hz := kbd_frm D S.kd g.oa ext D'
  have hall := S.all
  rw [kfr_size D] at hall
  refine ⟨D', ?_, by show usB a.sa = true; rw [S.sa]; exact oth_us _ _ _, C.oa, by show ¬ a.sa = g.ia; rw [S.sa]; exact (oth_ne _ _ _).1, by show ¬ a.sa = g.oa; rw [S.sa]; exact (oth_ne _ _ _).2, fun e => C.ne (Eq.symm e), rfl, ?_, by show 2 ≤ a.tl; rw [S.tl]; exact ht, ?_⟩
  · rw [kfr_size D', hz]; exact hall
  · intro h
    show akd a.kd = 0 ∨ akd a.kd = 14
    rcases S.kd h with e | e <;> simp [akd, e]
  · show 20 + (a.op.size : Int) + (kbd (frm a g.oa ext)).size ≤ g.im
    rw [hz]; exact S.len
theorem aged_one (n : Int) (m : Mp) (h : n < m.le) : aged n [m] = [{ m with le := m.le - n }] := by simp [aged, h]
theorem tick_one {g : Cf} (G : g.ok = true) {wx : World} {base b : Nat} {v : Value} {m : Mp} {n : Int} (T : Bat wx base b g g.bu 0 v [m]) (n0 : 0 ≤ n) (n1 : n < m.le) (hl : m.le ≤ 100000) :
    Calls Tryz.prog 19 #[.pointer (some ⟨b, 0, none⟩), .int .i64 n] wx fun e w' => e = .returned (.int .i64 0) ∧ ∃ v' tk, BL wx w' base b g v v' tk n [{ m with le := m.le - n }] := by
  have h := cok_rest G
  have := tick_yes T n _ n0 (by omega) (by omega) (by omega) h.1.1 h.1.2 h.2.1.1 h.2.1.2 h.1.2 rfl (fun wy cur Ty => age_any Ty (by simp) n n0 (by omega) (by simp; omega))
  rw [aged_one n m n1] at this
  refine this.mono fun e w' h => ⟨h.1, ?_⟩
  obtain ⟨v', hv⟩ := h.2
  rw [show (0 : Int) + n = n by omega] at hv
  exact ⟨v', _, hv⟩
theorem home_frame {g : Cf} {wx : World} {base b : Nat} {v : Value} {tk ti : Int} {m : Mp} {a d : Dg} (I : Inok a g) (T : Bat wx base b g tk ti v [m]) (D : Dgok d) (h1 : m.pr = a.pr) (h2 : m.ea = d.sa) (h3 : m.ep = d.sp) (h4 : m.ex = a.dp) :
    Calls Tryz.prog 25 #[.pointer (some ⟨b, 0, none⟩), .int .i64 1, .string (kfr a)] wx fun e w' => e = .returned (rpv 0 0 (kfr { a with da := d.sa, dp := d.sp, tl := a.tl - 1 })) ∧ Below wx.heap.size wx w' := by
  obtain ⟨F, e1, e2, e3, e4, e5, e6, e7⟩ := I.parts
  have hh : m.has (bt (kfr a) 9) (wd (kfr a) (ppl (kfr a) 2)) = true := by rw [e3, I.dport]; simp [Mp.has, h1, h4]
  have := frame_home T (by simp) (kfr a) I.all I.exam I.chk I.kinds.2 m (by rw [List.findIdx_cons, hh]; rfl) I.pss (by rw [h2]; exact D.s0) (by rw [h2]; exact D.s1) (by rw [h3]; exact D.p0) (by rw [h3]; exact D.p1)
  rw [I.comes m.ea m.ep (by rw [h3]; exact D.p0) (by rw [h3]; exact D.p1) (by rw [h2]; exact D.s0) (by rw [h2]; exact D.s1), h2, h3] at this
  exact this
end Go.Proofs.YthiljpbodmajaaaGreat
namespace Go.Proofs.YthiljpbodmajaaaGreat
open Go.RowKit Plain
set_option linter.unusedVariables false
theorem kbd_sp {d : Dg} (D : Dgok d) (x : Int) (x0 : 0 ≤ x) (x1 : x < 65536) : Dgok { d with sp := x } ∧ (kbd { d with sp := x }).size = (kbd d).size := by
  have D2 : Dgok { d with sp := x } := ⟨D.pr, D.s0, D.s1, D.d0, D.d1, x0, x1, D.q0, D.q1, D.t0, D.t1, D.md, D.op, D.o4, D.tx, D.ta⟩
  refine ⟨D2, ?_⟩
  rw [kbd_eq D, kbd_eq D2]
  have h1 := kbx_size D (kfd d)
  have h2 := kbx_size D2 (kfd { d with sp := x })
  have h3 : kfl { d with sp := x } = kfl d := rfl
  have h4 : (kbs { d with sp := x }).size = (kbs d).size := by
    unfold kbs kid
    split
    · rfl
    · split
      · rfl
      · split <;> simp only [ByteArray.size_append, w2_size]
  omega
theorem Outok.withsp {d : Dg} {c : Cf} (O : Outok d c) (x : Int) (x0 : 0 ≤ x) (x1 : x < 65536) : Outok { d with sp := x } c := by
  obtain ⟨D2, hz⟩ := kbd_sp O.ok x x0 x1
  have ha := O.all
  rw [kfr_size O.ok] at ha
  refine ⟨D2, ?_, O.us, O.ud, O.n1, O.n2, O.n3, O.n4, O.kd, O.tl, ?_⟩
  · rw [kfr_size D2, hz]; exact ha
  · rw [hz]; exact O.len
theorem Outok.dport {d : Dg} {c : Cf} (O : Outok d c) (hp : ¬ d.pr = 1) : wd (kfr d) (ppl (kfr d) 2) = d.dp := by
  obtain ⟨F, e1, e2, e3, e4, e5, e6, e7⟩ := O.parts
  have hb := kbx_big O.ok (kfd d)
  have D := O.ok
  have hpl : ppl (kfr d) 2 = hdv (kfr d) + 2 := by unfold ppl; rw [e3, if_neg hp]
  rw [hpl]
  have := bdy_wd F 2 (by decide) (by rw [e2]; omega)
  rw [← this, e2]
  rcases D.pr with ⟨hp', r0, r1⟩ | ⟨hp', r0, r1, r2⟩ | ⟨hp', hkd⟩
  · have := wd_mid (w2 d.sp) (w2 (kn d) ++ w2 (kfd d) ++ d.tx) d.dp 2 (by simp [w2_size]) D.q0 D.q1
    unfold kbx kbp kbs
    simpa [ByteArray.append_assoc, hp'] using this
  · have := wd_mid (w2 d.sp) (prt d.md 0 8 ++ b1 ((5 + d.sr) * 16 + bt d.md 8 % 16) ++ prt d.md 9 12 ++ w2 (kfd d) ++ (prt d.md 12 14 ++ d.tx)) d.dp 2 (by simp [w2_size]) D.q0 D.q1
    unfold kbx kbp kbs
    simpa [ByteArray.append_assoc, hp'] using this
  · exact absurd hp' hp
theorem Outok.ppr {d : Dg} {c : Cf} (O : Outok d c) : ppr (kfr d) = if d.pr = 1 then 0 else d.dp := by
  obtain ⟨F, e1, e2, e3, e4, e5, e6, e7⟩ := O.parts
  unfold Go.Proofs.YthiljpbodmajaaaGreat.ppr
  rw [e3]
  by_cases h : d.pr = 1
  · rw [if_pos h, if_pos h]
  · rw [if_neg h, if_neg h, O.dport h]
/-- what becomes of a datagram's source -/
theorem Outok.fromB {d : Dg} {c : Cf} (O : Outok d c) (ms : List Mp) : fromB c ms (kfr d) = use c ms d.pr d.sa d.sp d.da (if d.pr = 1 then 0 else d.dp) (c.idle d.pr) := by
  obtain ⟨F, e1, e2, e3, e4, e5, e6, e7⟩ := O.parts
  unfold Go.Proofs.YthiljpbodmajaaaGreat.fromB
  rw [O.ppr, e3, e6, e7, O.sport]
theorem start_m (g : Cf) (hg : g.ok = true) (d : Dg) (O : Outok d g) : ∃ ext m, (m = (Mp.new d.pr d.sa d.sp ext).used d.da (if d.pr = 1 then 0 else d.dp) (g.idle d.pr)) ∧ (1 ≤ ext ∧ ext ≤ 65535 ∧ ext = chs g [] d.pr d.sp) ∧ ∀ wx, Calls Tryz.prog 14 #[.agg (cfl g), .agg (dgl d)] wx fun e w' => ∃ b v', e = .returned (.tuple #[.pointer (some ⟨b, 0, none⟩), .int .i64 ext]) ∧ Bat w' wx.heap.size b g g.bu 0 v' [m] ∧ Below wx.heap.size wx w' ∧ wx.heap.size ≤ b := by
  have C := cok_of hg
  have D := O.ok
  have hoa := us_bd C.oa
  have l1 := C.l1
  have l2 := C.l2
  have h2 := C.h2
  obtain ⟨ext, hext⟩ : ∃ ext, ext = chs g [] d.pr d.sp := ⟨_, rfl⟩
  have xb : 1 ≤ ext ∧ ext ≤ 65535 := by rw [hext, chs_nil]; split <;> omega
  have hgv : gvn g.lo g.hi d.sp (-1) = ext := by rw [hext, chs_gvn g C d.pr d.sp D.p0]; rfl
  obtain ⟨F, e1, e2, e3, e4, e5, e6, e7⟩ := O.parts
  have D2 : Dgok { d with sa := g.oa, sp := ext, tl := d.tl - 1 } := ⟨D.pr, hoa.1, hoa.2, D.d0, D.d1, by show 0 ≤ ext; omega, by show ext < 65536; omega, D.q0, D.q1, by show 0 ≤ d.tl - 1; have := O.tl; omega, by show d.tl - 1 < 256; have := D.t1; omega, D.md, D.op, D.o4, D.tx, D.ta⟩
  refine ⟨ext, _, rfl, ⟨xb.1, xb.2, hext⟩, fun wx => ?_⟩
  refine start_core g d ext (kfr d) (kfr { d with sa := g.oa, sp := ext, tl := d.tl - 1 }) _ wx hg (fun w => ?_) (fun w => out_any d g ext w D.t0 (by have := D.t1; omega)) (kframe_any d D) (kframe_any _ D2) (fun wy b T => ?_)
  · have := given_any g d.sp (-1) w (by omega) (by omega)
    rw [hgv] at this
    exact this
  · have hu : Go.Proofs.YthiljpbodmajaaaGreat.fromB g [] (kfr d) = some (ext, [(Mp.new d.pr d.sa d.sp ext).used d.da (if d.pr = 1 then 0 else d.dp) (g.idle d.pr)]) := by
      have := fromB_nil C (kfr d) ext (by rw [e3, O.sport]; exact hext)
      have hp := O.ppr
      unfold Go.Proofs.YthiljpbodmajaaaGreat.ppr at hp
      rw [hp, e3, e6, e7, O.sport] at this
      exact this
    have := frame_sends T hg (tok_nil g (by have := C.c1; omega)) (kfr d) O.exam O.kinds.2.2 (by rw [e7]; exact O.n4) O.pss ext _ hu
    rw [O.goes ext (by omega) (by omega) hoa.1 hoa.2] at this
    exact this
/-- the table of one mapping -/
theorem tok_one {c : Cf} {m : Mp} (h : 1 ≤ c.cp) (M : Mok m) : Tok c [m] := ⟨by simpa using h, by simpa using M⟩
theorem used_one (p a q x b r i b' r' i' : Int) : (((Mp.new p a q x).used b r i).used b' r' i').pr = p ∧ (((Mp.new p a q x).used b r i).used b' r' i').ea = a ∧ (((Mp.new p a q x).used b r i).used b' r' i').ep = q ∧ (((Mp.new p a q x).used b r i).used b' r' i').ex = x ∧ (((Mp.new p a q x).used b r i).used b' r' i').le = i' ∧ (((Mp.new p a q x).used b r i).used b' r' i').kn = if b = b' ∧ r = r' then 1 else 2 := by
  rw [new_used]
  by_cases h : b = b' ∧ r = r'
  · obtain ⟨rfl, rfl⟩ := h
    simp [Mp.used, Mp.knows]
  · rw [if_neg h]
    have : Mp.knows ⟨p, a, q, x, i, b, r, 0, 0, 0, 0, 0, 0, 1⟩ b' r' = false := by
      simp [Mp.knows]
      intro e; exact fun e2 => h ⟨e, e2⟩
    simp [Mp.used, this]
theorem new_mok {p a q x b r i : Int} (x1 : 1 ≤ x) (x2 : x ≤ 65535) (a0 : 0 ≤ a) (a1 : a < 4294967296) (q0 : 0 ≤ q) (q1 : q < 65536) (i0 : 1 ≤ i) (i1 : i ≤ 100000) : Mok ((Mp.new p a q x).used b r i) := by
  rw [new_used]
  exact ⟨(by decide : (0 : Int) ≤ 1), (by decide : (1 : Int) ≤ 4), x1, x2, a0, a1, q0, q1, i0, i1⟩
/-- a second endpoint's port -/
theorem chs_one (g : Cf) (C : Cok g) (m : Mp) (p own : Int) (hp : m.pr = p) (x1 : g.lo ≤ m.ex) : chs g [m] p own = gvn g.lo g.hi own m.ex := by
  unfold chs gvn
  have hf : fidx (·.has p own) [m] < 0 ↔ ¬ own = m.ex := by
    rw [fidx_neg_iff]
    simp [Mp.has, hp]
    exact ⟨fun h e => h e.symm, fun h e => h e.symm⟩
  have hgap : gap p [m] g.lo = if m.ex = g.lo then g.lo + 1 else g.lo := by
    simp [gap, Mp.has, hp]
  rw [hgap]
  by_cases h : g.lo ≤ own ∧ own ≤ g.hi ∧ ¬ own = m.ex
  · rw [if_pos ⟨h.1, h.2.1, hf.2 h.2.2⟩]
    simp [h]
  · rw [if_neg (fun k => h ⟨k.1, k.2.1, hf.1 k.2.2⟩), if_neg h]
    by_cases e : m.ex = g.lo
    · rw [if_pos e, if_neg (by omega)]
    · rw [if_neg e, if_pos (by omega)]
theorem of_ne {m : Mp} {p a q : Int} (h : ¬ (m.ea = a ∧ m.ep = q)) : m.of p a q = false := by
  cases hf : m.of p a q
  · rfl
  · exfalso
    simp [Mp.of] at hf
    exact h ⟨hf.2.1, hf.2.2⟩
theorem use_hit {c : Cf} {m : Mp} {p a q pa pp i : Int} (ho : m.of p a q = true) (ht : m.takes pa pp = true) : use c [m] p a q pa pp i = some (m.ex, [m.used pa pp i]) := by
  unfold use
  simp [List.findIdx_cons, ho, ht]
theorem use_miss {c : Cf} {m : Mp} {p a q pa pp i : Int} (ho : m.of p a q = false) : use c [m] p a q pa pp i = if c.cp ≤ 1 ∨ c.hi < chs c [m] p q then none else some (chs c [m] p q, ins ((Mp.new p a q (chs c [m] p q)).used pa pp i) [m]) := by
  unfold use
  simp [List.findIdx_cons, ho]
section
variable {g : Cf} {d a s : Dg} {ext : Int} {m : Mp} {wx : World} {base b : Nat} {v : Value}
theorem again_known (G : g.ok = true) (O : Outok d g) (A : Outok a g) (hp : a.pr = d.pr) (hs : a.sa = d.sa) (hq : a.sp = d.sp) (hm : m = (Mp.new d.pr d.sa d.sp ext).used d.da (if d.pr = 1 then 0 else d.dp) (g.idle d.pr)) (x1 : 1 ≤ ext) (x2 : ext ≤ 65535) (T : Bat wx base b g g.bu 0 v [m]) :
    ∃ m2, (m2.pr = d.pr ∧ m2.ea = d.sa ∧ m2.ep = d.sp ∧ m2.ex = ext ∧ m2.le = g.idle d.pr ∧ m2.kn = (if a.da = d.da ∧ (a.dp = d.dp ∨ d.pr = 1) then 1 else 2)) ∧ Calls Tryz.prog 25 #[.pointer (some ⟨b, 0, none⟩), .int .i64 0, .string (kfr a)] wx fun e w' => e = .returned (rpv 0 1 (kfr { a with sa := g.oa, sp := ext, tl := a.tl - 1 })) ∧ ∃ v', Left wx w' base b 12 90 (bxc g v g.bu 0) v v' [m2] := by
  have C := cok_of G
  have hoa := us_bd C.oa
  have D := O.ok
  have hi := idle_bd G d.pr
  obtain ⟨F, e1, e2, e3, e4, e5, e6, e7⟩ := A.parts
  have U := used_one d.pr d.sa d.sp ext d.da (if d.pr = 1 then 0 else d.dp) (g.idle d.pr) a.da (if a.pr = 1 then 0 else a.dp) (g.idle a.pr)
  have N := new_used d.pr d.sa d.sp ext d.da (if d.pr = 1 then 0 else d.dp) (g.idle d.pr)
  rw [← hm] at U N
  have ho : m.of a.pr a.sa a.sp = true := by rw [N]; simp [Mp.of, hp, hs, hq]
  have ht : m.takes a.da (if a.pr = 1 then 0 else a.dp) = true := by rw [N]; simp [Mp.takes]
  have hx : m.ex = ext := by rw [N]
  have hu : fromB g [m] (kfr a) = some (ext, [m.used a.da (if a.pr = 1 then 0 else a.dp) (g.idle a.pr)]) := by rw [A.fromB, use_hit ho ht, hx]
  refine ⟨m.used a.da (if a.pr = 1 then 0 else a.dp) (g.idle a.pr), ⟨U.1, U.2.1, U.2.2.1, U.2.2.2.1, by rw [U.2.2.2.2.1, hp], ?_⟩, ?_⟩
  · rw [U.2.2.2.2.2, hp]
    by_cases h1 : d.pr = 1
    · simp [h1]
      by_cases h2 : a.da = d.da
      · simp [h2]
      · rw [if_neg (fun e => h2 e.symm), if_neg h2]
    · simp [h1]
      by_cases h2 : a.da = d.da ∧ a.dp = d.dp
      · rw [if_pos ⟨h2.1.symm, h2.2.symm⟩, if_pos h2]
      · rw [if_neg (fun e => h2 ⟨e.1.symm, e.2.symm⟩), if_neg h2]
  · have M : Mok m := by rw [hm]; exact new_mok x1 x2 D.s0 D.s1 D.p0 D.p1 hi.1 hi.2
    have := frame_sends T G (tok_one C.c1 M) (kfr a) A.exam A.kinds.2.2 (by rw [e7]; exact A.n4) A.pss ext _ hu
    rw [A.goes ext (by omega) (by omega) hoa.1 hoa.2] at this
    exact this
/-- the port of a second endpoint, or none -/
theorem again_third (G : g.ok = true) (O : Outok d g) (S : Outok s g) (hp : s.pr = d.pr) (hne : ¬ (s.sa = d.sa ∧ s.sp = d.sp)) (hx : ext = chs g [] d.pr d.sp) (hm : m.pr = d.pr ∧ m.ea = d.sa ∧ m.ep = d.sp ∧ m.ex = ext) :
    (g.cp = 1 ∨ g.lo = g.hi → fromB g [m] (kfr s) = none) ∧ (¬ (g.cp = 1 ∨ g.lo = g.hi) → ∃ ms', ms'.length = 2 ∧ fromB g [m] (kfr s) = some (gvn g.lo g.hi s.sp ext, ms') ∧ 1 ≤ gvn g.lo g.hi s.sp ext ∧ gvn g.lo g.hi s.sp ext ≤ 65535) := by
  have C := cok_of G
  have l1 := C.l1; have l2 := C.l2; have h2 := C.h2; have c1 := C.c1
  have xr : g.lo ≤ ext ∧ ext ≤ g.hi := by rw [hx, chs_nil]; split <;> omega
  have ho : m.of s.pr s.sa s.sp = false := of_ne (fun e => hne ⟨by rw [← e.1, hm.2.1], by rw [← e.2, hm.2.2.1]⟩)
  have hc : chs g [m] s.pr s.sp = gvn g.lo g.hi s.sp ext := by rw [chs_one g C m s.pr s.sp (by rw [hm.1, hp]) (by rw [hm.2.2.2]; exact xr.1), hm.2.2.2]
  rw [S.fromB, use_miss ho, hc]
  refine ⟨fun h => ?_, fun h => ?_⟩
  · rw [if_pos]
    rcases h with h | h
    · exact .inl (by omega)
    · right
      unfold gvn
      rw [if_neg (by omega), if_neg (by omega)]
      omega
  · have hg : g.lo ≤ gvn g.lo g.hi s.sp ext ∧ gvn g.lo g.hi s.sp ext ≤ g.hi := by
      unfold gvn
      split
      · omega
      · split <;> omega
    rw [if_neg (by omega)]
    exact ⟨_, by rw [ins_len]; rfl, rfl, by omega, by omega⟩
end
theorem m2_ok {g : Cf} {d : Dg} {m2 : Mp} {ext : Int} (G : g.ok = true) (D : Dgok d) (x1 : 1 ≤ ext) (x2 : ext ≤ 65535) (hm : m2.pr = d.pr ∧ m2.ea = d.sa ∧ m2.ep = d.sp ∧ m2.ex = ext ∧ m2.le = g.idle d.pr ∧ (m2.kn = 1 ∨ m2.kn = 2)) : Mok m2 := by
  have hi := idle_bd G d.pr
  have := D.s0; have := D.s1; have := D.p0; have := D.p1
  obtain ⟨h1, h2, h3, h4, h5, h6⟩ := hm
  exact ⟨by omega, by omega, by omega, by omega, by omega, by omega, by omega, by omega, by omega, by omega⟩
end Go.Proofs.YthiljpbodmajaaaGreat
namespace Go.Proofs.YthiljpbodmajaaaGreat
open Go.RowKit Plain
set_option linter.unusedVariables false
theorem new_bat (g : Cf) (G : g.ok = true) (wx : World) : Calls Tryz.prog 27 #[.agg (cfl g)] wx fun e w' => ∃ b, e = .returned (.tuple #[.pointer (some ⟨b, 0, none⟩), .int .i64 0]) ∧ Bat w' wx.heap.size b g g.bu 0 (.slice none 0 0) [] ∧ Below wx.heap.size wx w' ∧ wx.heap.size ≤ b := by
  have hconf : confB g.ia g.oa g.lo g.hi g.cp g.im g.om g.iu g.it g.iq g.bu g.ra = true := by rw [confB_valid]; exact G
  refine (new_yes g.ia g.oa g.lo g.hi g.cp g.im g.om g.iu g.it g.iq g.bu g.ra wx hconf).mono ?_
  rintro e w1 ⟨b, rfl, hb1, hbl, hbb⟩
  exact ⟨b, rfl, ⟨hbb, rfl, Row.nil _ _, by simp [Value.ownBlock], hb1.size⟩, hb1, hbl⟩
theorem ne_empty {s : ByteArray} (h : ¬ s.size = 0) : s.toList.isEmpty = false := by
  rw [ByteArray.toList_eq]
  cases e : s.data.toList with
  | nil =>
    have : s.data.toList.length = s.size := by simp
    rw [e] at this
    simp at this
    omega
  | cons x xs => rfl
theorem size_ne {s : ByteArray} (h : s.toList.isEmpty = false) : ¬ s.size = 0 := by
  intro h0
  rw [ByteArray.toList_eq] at h
  have : s.data.toList.length = s.size := by simp
  rw [h0] at this
  rw [List.eq_nil_of_length_eq_zero this] at h
  cases h
end Go.Proofs.YthiljpbodmajaaaGreat
namespace Go.Proofs.YthiljpbodmajaaaGreat
open Go.ChangeShapes Go.WideShapes Go.RowKit Go.Deep
set_option linter.unusedVariables false
section
variable {H : Type} {enc : TypeId × Value → H} {P : Program} {w : World} {base : Nat} {spare : Nat → Bool} {held : Bool} {r : Reach} {b0 : Nat}
/-- a slice of ints -/
theorem open_slice_ints {t e : TypeId} {v : Value} {d : DataW H} {p : List MemPlace} (ht : P.underlying t = some (.slice e)) (he : P.underlying e = some (.int .i64)) (hc : P.cellsOf e = 1)
    (hv : Value.okWide P w r b0 t v) (h : DataW.Trod enc P w base (fun _ => true) held t v d p) (hlt : ∀ x ∈ p, x.block < w.heap.size) :
    ∃ (A off len cap : Nat) (ao : Option Addr) (zs : List Int), v = .slice ao len cap ∧ (0 < len → ao = some ⟨A, off, none⟩) ∧ (0 < len → A < w.heap.size) ∧ zs.length = len ∧ (∀ (j : Nat) z, zs[j]? = some z → w.cell? ⟨A, off + j, none⟩ = some (.int .i64 z)) ∧ (∀ z ∈ zs, (Lit.int .i64 z).wf = true) ∧
      ((d = .nil ∧ len = 0) ∨ ∃ el sp, d = .slice el sp ∧ el.length = len) := by
  obtain ⟨ao, len, cap, rfl⟩ := okWide_slice ht hv
  obtain ⟨fuel, hf⟩ := h
  rcases open_ints ht he hc hf with ⟨hcs, hx⟩ | ⟨a, len', cap', zs, hcs, _, hl, _, hz, hx, hcell, hwz⟩
  · simp [Value.cells] at hcs
    obtain ⟨rfl, rfl, rfl⟩ := hcs
    simp only [Prod.mk.injEq] at hx
    exact ⟨0, 0, 0, 0, none, [], rfl, by simp, by simp, rfl, by simp, by simp, .inl ⟨hx.1, rfl⟩⟩
  · simp [Value.cells] at hcs
    obtain ⟨rfl, rfl, rfl⟩ := hcs
    simp only [Prod.mk.injEq] at hx
    obtain ⟨rfl, rfl⟩ := hx
    simp only [if_true] at hz
    have hd : (lits (H := H) .i64 (zs.take len)).length = len := by simp [lits]; omega
    rcases Nat.eq_zero_or_pos len with h0 | hp
    · subst h0
      exact ⟨0, 0, 0, cap, some a, [], rfl, by simp, by simp, rfl, by simp, by simp, .inr ⟨_, _, rfl, hd⟩⟩
    · obtain ⟨A, off, spot⟩ := a
      have hspot : spot = none := by simpa [Addr.add] using World.cell?_spot (hcell 0 (by omega))
      subst hspot
      refine ⟨A, off, len, cap, _, zs.take len, rfl, fun _ => rfl, fun _ => ?_, by simp; omega, fun j z hj => ?_, fun z hz => hwz z (List.mem_of_mem_take hz), .inr ⟨_, _, rfl, hd⟩⟩
      · exact hlt (.cell A (off + 0)) (MemPlace.mem_row.2 ⟨0, by omega, rfl⟩)
      · have hj' := (List.getElem?_eq_some_iff.1 hj).1
        simp at hj'
        rw [← add_plain, hcell j (by omega)]
        rw [List.getElem?_take] at hj
        rw [if_pos (by omega)] at hj
        simp [List.getD, hj]
/-- a slice of structs: 'Q' is what is said of an element's cells -/
theorem open_slice_of {t e : TypeId} {v : Value} {d : DataW H} {p : List MemPlace} {α : Type} [Inhabited α] (k : Nat) (Q : List Value → α → Prop) (ht : P.underlying t = some (.slice e)) (hc : P.cellsOf e = k) (hk : 0 < k)
    (hQ : ∀ n cs x, DataW.trod enc P w base (fun _ => true) held n e cs = some x → ∃ z, Q cs z)
    (hv : Value.okWide P w r b0 t v) (h : DataW.Trod enc P w base (fun _ => true) held t v d p) (hlt : ∀ x ∈ p, x.block < w.heap.size) :
    ∃ (A off len cap : Nat) (ao : Option Addr) (zs : List α), v = .slice ao len cap ∧ (0 < len → ao = some ⟨A, off, none⟩) ∧ (0 < len → A < w.heap.size) ∧ zs.length = len ∧ (∀ (j : Nat) z, zs[j]? = some z → ∃ cs, cs.length = k ∧ Q cs z ∧ ∀ i, i < k → w.cell? ⟨A, off + j * k + i, none⟩ = cs[i]?) ∧ len ≤ maxLen ∧
      ((d = .nil ∧ len = 0) ∨ ∃ el sp, d = .slice el sp ∧ el.length = len) := by
  obtain ⟨ao, len, cap, rfl⟩ := okWide_slice ht hv
  obtain ⟨fuel, hf⟩ := h
  rcases open_slice ht hf with ⟨hcs, hx⟩ | ⟨a, len', cap', m, n, D, Pl, hcs, _, hl, hm, hmm, hx, hel⟩
  · simp [Value.cells] at hcs
    obtain ⟨rfl, rfl, rfl⟩ := hcs
    simp only [Prod.mk.injEq] at hx
    exact ⟨0, 0, 0, 0, none, [], rfl, by simp, by simp, rfl, by simp, by simp, .inl ⟨hx.1, rfl⟩⟩
  · simp [Value.cells] at hcs
    obtain ⟨rfl, rfl, rfl⟩ := hcs
    simp only [Prod.mk.injEq] at hx
    obtain ⟨rfl, rfl⟩ := hx
    simp only [if_true] at hmm
    have hml : len ≤ maxLen := Nat.le_trans hl hm
    rcases Nat.eq_zero_or_pos len with h0 | hp
    · subst h0
      exact ⟨0, 0, 0, cap, some a, [], rfl, by simp, by simp, rfl, by simp, hml, .inr ⟨_, _, rfl, by simp⟩⟩
    · rw [hc] at hel hlt
      obtain ⟨A, off, spot⟩ := a
      have hspot : spot = none := by
        obtain ⟨cs', h1, _⟩ := hel 0 (by omega)
        obtain ⟨_, hlen, h2⟩ := World.cells?_some h1
        have h3 := h2 0 hk
        rw [List.getElem?_eq_getElem (by omega)] at h3
        simpa [Addr.add] using World.cell?_spot h3
      subst hspot
      obtain ⟨Z, hZ⟩ := choose_lt (α := α) (p := fun j z => ∃ cs, cs.length = k ∧ Q cs z ∧ ∀ i, i < k → w.cell? ⟨A, off + j * k + i, none⟩ = cs[i]?) (n := len) (fun j hj => by
        obtain ⟨cs', h1, h2⟩ := hel j (by omega)
        obtain ⟨_, hlen, h3⟩ := World.cells?_some h1
        obtain ⟨z, hz⟩ := hQ _ _ _ h2
        refine ⟨z, cs', hlen, hz, fun i hi => ?_⟩
        rw [← h3 i hi, add_plain, add_plain])
      refine ⟨A, off, len, cap, _, (List.range len).map Z, rfl, fun _ => rfl, fun _ => ?_, by simp, fun j z hj => ?_, hml, .inr ⟨_, _, rfl, by simp⟩⟩
      · refine hlt (.cell A (off + 0)) (List.mem_append_left _ (MemPlace.mem_row.2 ⟨0, ?_, rfl⟩))
        have : 1 * 1 ≤ m * k := Nat.mul_le_mul (by omega) hk
        omega
      · have hj' := (List.getElem?_eq_some_iff.1 hj).1
        simp at hj'
        rw [List.getElem?_map, List.getElem?_range (by omega)] at hj
        simp at hj
        subst hj
        exact hZ j hj'
/-- a struct's field of one cell -/
theorem field1 {t : TypeId} {fs : Array Field} {cs : List Value} {x : DataW H × List MemPlace} {fuel : Nat} (hs : P.underlying t = some (.struct fs)) (h : DataW.trod enc P w base spare held fuel t cs = some x) (i o : Nat) (ty : TypeId) (hf : (fs[i]?).map (fun f => (f.type, f.offset)) = some (ty, o)) (hc : P.cellsOf ty = 1) :
    (P.underlying ty = some (.int .i64) → ∃ z, cs[o]? = some (.int .i64 z) ∧ (Lit.int .i64 z).wf = true) ∧ (P.underlying ty = some .string → ∃ s : ByteArray, cs[o]? = some (.string s) ∧ s.size ≤ maxLen) ∧ (P.underlying ty = some .bool → ∃ b, cs[o]? = some (.bool b)) := by
  obtain ⟨xs, n, rfl, hx, hl, hlen, hff⟩ := DataW.trod_struct hs h
  obtain ⟨f, hfi, hfe⟩ := Option.map_eq_some_iff.1 hf
  simp only [Prod.mk.injEq] at hfe
  obtain ⟨rfl, rfl⟩ := hfe
  have hlt : i < fs.size := (Array.getElem?_eq_some_iff.1 hfi).1
  have e := hff i f hfi
  rw [hc] at e
  have hxi : i < xs.length := by omega
  rw [List.getElem?_eq_getElem hxi] at e
  have key : ∀ u, (cs.drop f.offset).take 1 = [u] → cs[f.offset]? = some u := fun u hd => by
    have h0 : ((cs.drop f.offset).take 1)[0]? = some u := by rw [hd]; rfl
    simpa using h0
  refine ⟨fun hi => ?_, fun hi => ?_, fun hi => ?_⟩
  · obtain ⟨z, hz, _, hwz⟩ := DataW.trod_int hi e
    exact ⟨z, key _ hz, hwz⟩
  · obtain ⟨z, hz, _, hwz⟩ := DataW.trod_string hi e
    exact ⟨z, key _ hz, hwz⟩
  · obtain ⟨z, hz, _⟩ := DataW.trod_bool hi e
    exact ⟨z, key _ hz⟩
end
end Go.Proofs.YthiljpbodmajaaaGreat
