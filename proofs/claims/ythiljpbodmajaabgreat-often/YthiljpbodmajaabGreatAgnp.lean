/-
  PLAIN MATHEMATICS for natboxkeep.Again: datagrams with another source port, tables of one mapping.
-/
import Derived.Test.YthiljpbodmajaabGreatHomd
import Derived.Test.YthiljpbodmajaabGreatSana
namespace Go.Proofs.YthiljpbodmajaabGreat
open Go.RowKit Plain
set_option linter.unusedVariables false
theorem kbd_sp {d : Dg} (D : Dgok d) (x : Int) (x0 : 0 ≤ x) (x1 : x < 65536) : Dgok { d with sp := x } ∧ (kbd { d with sp := x }).size = (kbd d).size := by
  have D2 : Dgok { d with sp := x } := ⟨D.pr, D.s0, D.s1, D.d0, D.d1, x0, x1, D.q0, D.q1, D.t0, D.t1, D.md, D.op, D.o4, D.tx, D.ta⟩
  refine ⟨D2, ?_⟩
  rw [kbd_eq D, kbd_eq D2]
  have h1 := kbx_size D (kfd d)
  have h2 := kbx_size D2 (kfd { d with sp := x })
  have h3 : kfl { d with sp := x } = kfl d := rfl
  have h4 : (kbs { d with sp := x }).size = (kbs d).size := by
    unfold kbs kid
    split
    · rfl
    · split
      · rfl
      · split <;> simp only [ByteArray.size_append, w2_size]
  omega
theorem Outok.withsp {d : Dg} {c : Cf} (O : Outok d c) (x : Int) (x0 : 0 ≤ x) (x1 : x < 65536) : Outok { d with sp := x } c := by
  obtain ⟨D2, hz⟩ := kbd_sp O.ok x x0 x1
  have ha := O.all
  rw [kfr_size O.ok] at ha
  refine ⟨D2, ?_, O.us, O.ud, O.n1, O.n2, O.n3, O.n4, O.kd, O.tl, ?_⟩
  · rw [kfr_size D2, hz]; exact ha
  · rw [hz]; exact O.len
theorem Outok.dport {d : Dg} {c : Cf} (O : Outok d c) (hp : ¬ d.pr = 1) : wd (kfr d) (ppl (kfr d) 2) = d.dp := by
  obtain ⟨F, e1, e2, e3, e4, e5, e6, e7⟩ := O.parts
  have hb := kbx_big O.ok (kfd d)
  have D := O.ok
  have hpl : ppl (kfr d) 2 = hdv (kfr d) + 2 := by unfold ppl; rw [e3, if_neg hp]
  rw [hpl]
  have := bdy_wd F 2 (by decide) (by rw [e2]; omega)
  rw [← this, e2]
  rcases D.pr with ⟨hp', r0, r1⟩ | ⟨hp', r0, r1, r2⟩ | ⟨hp', hkd⟩
  · have := wd_mid (w2 d.sp) (w2 (kn d) ++ w2 (kfd d) ++ d.tx) d.dp 2 (by simp [w2_size]) D.q0 D.q1
    unfold kbx kbp kbs
    simpa [ByteArray.append_assoc, hp'] using this
  · have := wd_mid (w2 d.sp) (prt d.md 0 8 ++ b1 ((5 + d.sr) * 16 + bt d.md 8 % 16) ++ prt d.md 9 12 ++ w2 (kfd d) ++ (prt d.md 12 14 ++ d.tx)) d.dp 2 (by simp [w2_size]) D.q0 D.q1
    unfold kbx kbp kbs
    simpa [ByteArray.append_assoc, hp'] using this
  · exact absurd hp' hp
theorem Outok.ppr {d : Dg} {c : Cf} (O : Outok d c) : ppr (kfr d) = if d.pr = 1 then 0 else d.dp := by
  obtain ⟨F, e1, e2, e3, e4, e5, e6, e7⟩ := O.parts
  unfold Go.Proofs.YthiljpbodmajaabGreat.ppr
  rw [e3]
  by_cases h : d.pr = 1
  · rw [if_pos h, if_pos h]
  · rw [if_neg h, if_neg h, O.dport h]
/-- what becomes of a datagram's source -/
theorem Outok.fromB {d : Dg} {c : Cf} (O : Outok d c) (ms : List Mp) : fromB c ms (kfr d) = use c ms d.pr d.sa d.sp d.da (if d.pr = 1 then 0 else d.dp) (c.idle d.pr) := by
  obtain ⟨F, e1, e2, e3, e4, e5, e6, e7⟩ := O.parts
  unfold Go.Proofs.YthiljpbodmajaabGreat.fromB
  rw [O.ppr, e3, e6, e7, O.sport]
theorem start_m (g : Cf) (hg : g.ok = true) (d : Dg) (O : Outok d g) : ∃ ext m, (m = (Mp.new d.pr d.sa d.sp ext).used d.da (if d.pr = 1 then 0 else d.dp) (g.idle d.pr)) ∧ (1 ≤ ext ∧ ext ≤ 65535 ∧ ext = chs g [] d.pr d.sp) ∧ ∀ wx, Calls Tryz.prog 23 #[.agg (cfl g), .agg (dgl d)] wx fun e w' => ∃ b v', e = .returned (.tuple #[.pointer (some ⟨b, 0, none⟩), .int .i64 ext]) ∧ Bat w' wx.heap.size b g g.bu 0 v' [m] ∧ Below wx.heap.size wx w' ∧ wx.heap.size ≤ b := by
  have C := cok_of hg
  have D := O.ok
  have hoa := us_bd C.oa
  have l1 := C.l1
  have l2 := C.l2
  have h2 := C.h2
  obtain ⟨ext, hext⟩ : ∃ ext, ext = chs g [] d.pr d.sp := ⟨_, rfl⟩
  have xb : 1 ≤ ext ∧ ext ≤ 65535 := by rw [hext, chs_nil]; split <;> omega
  have hgv : gvn g.lo g.hi d.sp (-1) = ext := by rw [hext, chs_gvn g C d.pr d.sp D.p0]; rfl
  obtain ⟨F, e1, e2, e3, e4, e5, e6, e7⟩ := O.parts
  have D2 : Dgok { d with sa := g.oa, sp := ext, tl := d.tl - 1 } := ⟨D.pr, hoa.1, hoa.2, D.d0, D.d1, by show 0 ≤ ext; omega, by show ext < 65536; omega, D.q0, D.q1, by show 0 ≤ d.tl - 1; have := O.tl; omega, by show d.tl - 1 < 256; have := D.t1; omega, D.md, D.op, D.o4, D.tx, D.ta⟩
  refine ⟨ext, _, rfl, ⟨xb.1, xb.2, hext⟩, fun wx => ?_⟩
  refine start_core g d ext (kfr d) (kfr { d with sa := g.oa, sp := ext, tl := d.tl - 1 }) _ wx hg (fun w => ?_) (fun w => out_any d g ext w D.t0 (by have := D.t1; omega)) (kframe_any d D) (kframe_any _ D2) (fun wy b T => ?_)
  · have := given_any g d.sp (-1) w (by omega) (by omega)
    rw [hgv] at this
    exact this
  · have hu : Go.Proofs.YthiljpbodmajaabGreat.fromB g [] (kfr d) = some (ext, [(Mp.new d.pr d.sa d.sp ext).used d.da (if d.pr = 1 then 0 else d.dp) (g.idle d.pr)]) := by
      have := fromB_nil C (kfr d) ext (by rw [e3, O.sport]; exact hext)
      have hp := O.ppr
      unfold Go.Proofs.YthiljpbodmajaabGreat.ppr at hp
      rw [hp, e3, e6, e7, O.sport] at this
      exact this
    have := frame_sends T hg (tok_nil g (by have := C.c1; omega)) (kfr d) O.exam O.kinds.2.2 (by rw [e7]; exact O.n4) O.pss ext _ hu
    rw [O.goes ext (by omega) (by omega) hoa.1 hoa.2] at this
    exact this
/-- the table of one mapping -/
theorem tok_one {c : Cf} {m : Mp} (h : 1 ≤ c.cp) (M : Mok m) : Tok c [m] := ⟨by simpa using h, by simpa using M⟩
theorem used_one (p a q x b r i b' r' i' : Int) : (((Mp.new p a q x).used b r i).used b' r' i').pr = p ∧ (((Mp.new p a q x).used b r i).used b' r' i').ea = a ∧ (((Mp.new p a q x).used b r i).used b' r' i').ep = q ∧ (((Mp.new p a q x).used b r i).used b' r' i').ex = x ∧ (((Mp.new p a q x).used b r i).used b' r' i').le = i' ∧ (((Mp.new p a q x).used b r i).used b' r' i').kn = if b = b' ∧ r = r' then 1 else 2 := by
  rw [new_used]
  by_cases h : b = b' ∧ r = r'
  · obtain ⟨rfl, rfl⟩ := h
    simp [Mp.used, Mp.knows]
  · rw [if_neg h]
    have : Mp.knows ⟨p, a, q, x, i, b, r, 0, 0, 0, 0, 0, 0, 1⟩ b' r' = false := by
      simp [Mp.knows]
      intro e; exact fun e2 => h ⟨e, e2⟩
    simp [Mp.used, this]
theorem new_mok {p a q x b r i : Int} (x1 : 1 ≤ x) (x2 : x ≤ 65535) (a0 : 0 ≤ a) (a1 : a < 4294967296) (q0 : 0 ≤ q) (q1 : q < 65536) (i0 : 1 ≤ i) (i1 : i ≤ 100000) : Mok ((Mp.new p a q x).used b r i) := by
  rw [new_used]
  exact ⟨(by decide : (0 : Int) ≤ 1), (by decide : (1 : Int) ≤ 4), x1, x2, a0, a1, q0, q1, i0, i1⟩
/-- a second endpoint's port -/
theorem chs_one (g : Cf) (C : Cok g) (m : Mp) (p own : Int) (hp : m.pr = p) (x1 : g.lo ≤ m.ex) : chs g [m] p own = gvn g.lo g.hi own m.ex := by
  unfold chs gvn
  have hf : fidx (·.has p own) [m] < 0 ↔ ¬ own = m.ex := by
    rw [fidx_neg_iff]
    simp [Mp.has, hp]
    exact ⟨fun h e => h e.symm, fun h e => h e.symm⟩
  have hgap : gap p [m] g.lo = if m.ex = g.lo then g.lo + 1 else g.lo := by
    simp [gap, Mp.has, hp]
  rw [hgap]
  by_cases h : g.lo ≤ own ∧ own ≤ g.hi ∧ ¬ own = m.ex
  · rw [if_pos ⟨h.1, h.2.1, hf.2 h.2.2⟩]
    simp [h]
  · rw [if_neg (fun k => h ⟨k.1, k.2.1, hf.1 k.2.2⟩), if_neg h]
    by_cases e : m.ex = g.lo
    · rw [if_pos e, if_neg (by omega)]
    · rw [if_neg e, if_pos (by omega)]
theorem of_ne {m : Mp} {p a q : Int} (h : ¬ (m.ea = a ∧ m.ep = q)) : m.of p a q = false := by
  cases hf : m.of p a q
  · rfl
  · exfalso
    simp [Mp.of] at hf
    exact h ⟨hf.2.1, hf.2.2⟩
theorem use_hit {c : Cf} {m : Mp} {p a q pa pp i : Int} (ho : m.of p a q = true) (ht : m.takes pa pp = true) : use c [m] p a q pa pp i = some (m.ex, [m.used pa pp i]) := by
  unfold use
  simp [List.findIdx_cons, ho, ht]
theorem use_miss {c : Cf} {m : Mp} {p a q pa pp i : Int} (ho : m.of p a q = false) : use c [m] p a q pa pp i = if c.cp ≤ 1 ∨ c.hi < chs c [m] p q then none else some (chs c [m] p q, ins ((Mp.new p a q (chs c [m] p q)).used pa pp i) [m]) := by
  unfold use
  simp [List.findIdx_cons, ho]
section
variable {g : Cf} {d a s : Dg} {ext : Int} {m : Mp} {wx : World} {base b : Nat} {v : Value}
theorem again_known (G : g.ok = true) (O : Outok d g) (A : Outok a g) (hp : a.pr = d.pr) (hs : a.sa = d.sa) (hq : a.sp = d.sp) (hm : m = (Mp.new d.pr d.sa d.sp ext).used d.da (if d.pr = 1 then 0 else d.dp) (g.idle d.pr)) (x1 : 1 ≤ ext) (x2 : ext ≤ 65535) (T : Bat wx base b g g.bu 0 v [m]) :
    ∃ m2, (m2.pr = d.pr ∧ m2.ea = d.sa ∧ m2.ep = d.sp ∧ m2.ex = ext ∧ m2.le = g.idle d.pr ∧ m2.kn = (if a.da = d.da ∧ (a.dp = d.dp ∨ d.pr = 1) then 1 else 2)) ∧ Calls Tryz.prog 18 #[.pointer (some ⟨b, 0, none⟩), .int .i64 0, .string (kfr a)] wx fun e w' => e = .returned (rpv 0 1 (kfr { a with sa := g.oa, sp := ext, tl := a.tl - 1 })) ∧ ∃ v', Left wx w' base b 12 81 (bxc g v g.bu 0) v v' [m2] := by
  have C := cok_of G
  have hoa := us_bd C.oa
  have D := O.ok
  have hi := idle_bd G d.pr
  obtain ⟨F, e1, e2, e3, e4, e5, e6, e7⟩ := A.parts
  have U := used_one d.pr d.sa d.sp ext d.da (if d.pr = 1 then 0 else d.dp) (g.idle d.pr) a.da (if a.pr = 1 then 0 else a.dp) (g.idle a.pr)
  have N := new_used d.pr d.sa d.sp ext d.da (if d.pr = 1 then 0 else d.dp) (g.idle d.pr)
  rw [← hm] at U N
  have ho : m.of a.pr a.sa a.sp = true := by rw [N]; simp [Mp.of, hp, hs, hq]
  have ht : m.takes a.da (if a.pr = 1 then 0 else a.dp) = true := by rw [N]; simp [Mp.takes]
  have hx : m.ex = ext := by rw [N]
  have hu : fromB g [m] (kfr a) = some (ext, [m.used a.da (if a.pr = 1 then 0 else a.dp) (g.idle a.pr)]) := by rw [A.fromB, use_hit ho ht, hx]
  refine ⟨m.used a.da (if a.pr = 1 then 0 else a.dp) (g.idle a.pr), ⟨U.1, U.2.1, U.2.2.1, U.2.2.2.1, by rw [U.2.2.2.2.1, hp], ?_⟩, ?_⟩
  · rw [U.2.2.2.2.2, hp]
    by_cases h1 : d.pr = 1
    · simp [h1]
      by_cases h2 : a.da = d.da
      · simp [h2]
      · rw [if_neg (fun e => h2 e.symm), if_neg h2]
    · simp [h1]
      by_cases h2 : a.da = d.da ∧ a.dp = d.dp
      · rw [if_pos ⟨h2.1.symm, h2.2.symm⟩, if_pos h2]
      · rw [if_neg (fun e => h2 ⟨e.1.symm, e.2.symm⟩), if_neg h2]
  · have M : Mok m := by rw [hm]; exact new_mok x1 x2 D.s0 D.s1 D.p0 D.p1 hi.1 hi.2
    have := frame_sends T G (tok_one C.c1 M) (kfr a) A.exam A.kinds.2.2 (by rw [e7]; exact A.n4) A.pss ext _ hu
    rw [A.goes ext (by omega) (by omega) hoa.1 hoa.2] at this
    exact this
/-- the port of a second endpoint, or none -/
theorem again_third (G : g.ok = true) (O : Outok d g) (S : Outok s g) (hp : s.pr = d.pr) (hne : ¬ (s.sa = d.sa ∧ s.sp = d.sp)) (hx : ext = chs g [] d.pr d.sp) (hm : m.pr = d.pr ∧ m.ea = d.sa ∧ m.ep = d.sp ∧ m.ex = ext) :
    (g.cp = 1 ∨ g.lo = g.hi → fromB g [m] (kfr s) = none) ∧ (¬ (g.cp = 1 ∨ g.lo = g.hi) → ∃ ms', ms'.length = 2 ∧ fromB g [m] (kfr s) = some (gvn g.lo g.hi s.sp ext, ms') ∧ 1 ≤ gvn g.lo g.hi s.sp ext ∧ gvn g.lo g.hi s.sp ext ≤ 65535) := by
  have C := cok_of G
  have l1 := C.l1; have l2 := C.l2; have h2 := C.h2; have c1 := C.c1
  have xr : g.lo ≤ ext ∧ ext ≤ g.hi := by rw [hx, chs_nil]; split <;> omega
  have ho : m.of s.pr s.sa s.sp = false := of_ne (fun e => hne ⟨by rw [← e.1, hm.2.1], by rw [← e.2, hm.2.2.1]⟩)
  have hc : chs g [m] s.pr s.sp = gvn g.lo g.hi s.sp ext := by rw [chs_one g C m s.pr s.sp (by rw [hm.1, hp]) (by rw [hm.2.2.2]; exact xr.1), hm.2.2.2]
  rw [S.fromB, use_miss ho, hc]
  refine ⟨fun h => ?_, fun h => ?_⟩
  · rw [if_pos]
    rcases h with h | h
    · exact .inl (by omega)
    · right
      unfold gvn
      rw [if_neg (by omega), if_neg (by omega)]
      omega
  · have hg : g.lo ≤ gvn g.lo g.hi s.sp ext ∧ gvn g.lo g.hi s.sp ext ≤ g.hi := by
      unfold gvn
      split
      · omega
      · split <;> omega
    rw [if_neg (by omega)]
    exact ⟨_, by rw [ins_len]; rfl, rfl, by omega, by omega⟩
end
theorem m2_ok {g : Cf} {d : Dg} {m2 : Mp} {ext : Int} (G : g.ok = true) (D : Dgok d) (x1 : 1 ≤ ext) (x2 : ext ≤ 65535) (hm : m2.pr = d.pr ∧ m2.ea = d.sa ∧ m2.ep = d.sp ∧ m2.ex = ext ∧ m2.le = g.idle d.pr ∧ (m2.kn = 1 ∨ m2.kn = 2)) : Mok m2 := by
  have hi := idle_bd G d.pr
  have := D.s0; have := D.s1; have := D.p0; have := D.p1
  obtain ⟨h1, h2, h3, h4, h5, h6⟩ := hm
  exact ⟨by omega, by omega, by omega, by omega, by omega, by omega, by omega, by omega, by omega, by omega⟩
end Go.Proofs.YthiljpbodmajaabGreat
