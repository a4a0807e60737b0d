/-
  PLAIN MATHEMATICS: frames whose TTL has run out, and what the box says to them.
-/
import Derived.Test.YthiljpbodmajaabGreatKepj
import Derived.Test.YthiljpbodmajaabGreatLetp
import Derived.Test.YthiljpbodmajaabGreatBoxa
namespace Go.Proofs.YthiljpbodmajaabGreat
open Plain
set_option linter.unusedVariables false

/-- as Outok, of a TTL that has run out -/
structure Lowok (d : Dg) (c : Cf) : Prop where
  ok : Dgok d
  all : (kfr d).size ≤ 65535
  us : usB d.sa = true
  ud : usB d.da = true
  n1 : ¬ d.sa = c.ia
  n2 : ¬ d.sa = c.oa
  n3 : ¬ d.da = c.ia
  n4 : ¬ d.da = c.oa
  kd : d.pr = 1 → d.kd = 8 ∨ d.kd = 13
  tl : d.tl ≤ 1
theorem Outok.low {d : Dg} {c : Cf} (O : Outok d c) (x : Int) (x0 : 0 ≤ x) (x1 : x ≤ 1) : Lowok { d with tl := x } c := by
  have D := O.ok
  have D2 : Dgok { d with tl := x } := ⟨D.pr, D.s0, D.s1, D.d0, D.d1, D.p0, D.p1, D.q0, D.q1, x0, by show x < 256; omega, D.md, D.op, D.o4, D.tx, D.ta⟩
  have h1 := kfr_size D
  have h2 : (kfr { d with tl := x }).size = 20 + d.op.size + (kbd { d with tl := x }).size + d.ta.size := kfr_size D2
  have h3 : kbd { d with tl := x } = kbd d := rfl
  have h4 := O.all
  exact ⟨D2, by rw [h2, h3]; omega, O.us, O.ud, O.n1, O.n2, O.n3, O.n4, O.kd, x1⟩
section
variable {d : Dg} {c : Cf} (O : Lowok d c)
include O
theorem Lowok.parts : Fits (kfr d) ∧ hdv (kfr d) = 20 + (d.op.size : Int) ∧ bdy (kfr d) = kbx d (kfd d) ∧ bt (kfr d) 9 = d.pr ∧ bt (kfr d) 8 = d.tl ∧ wd (kfr d) 2 = 20 + (d.op.size : Int) + (kbd d).size ∧ lg (kfr d) 12 = d.sa ∧ lg (kfr d) 16 = d.da := by
  have h := O.all
  rw [kfr_eq O.ok] at h ⊢
  have hc := kcs_bd d (kbx d (kfd d)).size
  obtain ⟨F, e1, e2, e3, e4, e5, e6, e7, _⟩ := kfx_parts O.ok _ (kfd d) hc.1 hc.2 (kbx_big O.ok (kfd d)).1 h
  exact ⟨F, e1, e2, e3, e4, by rw [e5, kbd_eq O.ok], e6, e7⟩
theorem Lowok.chk : chk (kfr d) = 0 := kfr_chk O.ok O.all O.us O.ud
theorem Lowok.type (hp : d.pr = 1) : bt (kfr d) (hdv (kfr d)) = d.kd := by
  obtain ⟨F, e1, e2, e3, e4, e5, e6, e7⟩ := O.parts
  have h8 : 8 ≤ (bdy (kfr d)).size := by rw [e2]; exact (kbx_big O.ok (kfd d)).2
  rw [← bdy_bt0 F h8, e2]
  exact (kfx_query O.ok (kfd d) hp).1
theorem Lowok.kinds : isReq (kfr d) = (d.pr == 1) ∧ isRep (kfr d) = false ∧ isErr (kfr d) = false := by
  obtain ⟨F, e1, e2, e3, e4, e5, e6, e7⟩ := O.parts
  unfold isReq isRep isErr
  rw [e3]
  by_cases hp : d.pr = 1
  · rw [O.type hp]
    rcases O.kd hp with e | e <;> simp [hp, e, reqB, repB, errB]
  · have : (d.pr == 1) = false := by simpa using hp
    simp [this]
theorem Lowok.exam : exam c 0 (kfr d) = 0 := by
  obtain ⟨F, e1, e2, e3, e4, e5, e6, e7⟩ := O.parts
  obtain ⟨k1, k2, k3⟩ := O.kinds
  have a1 : (d.sa == c.ia) = false := by simpa using O.n1
  have a2 : (d.sa == c.oa) = false := by simpa using O.n2
  have a3 : (d.da == c.ia) = false := by simpa using O.n3
  have a4 : (d.da == c.oa) = false := by simpa using O.n4
  unfold Plain.exam
  rw [if_neg (by omega), if_neg (by rw [O.chk]; simp)]
  have h1 : addrB c 0 (kfr d) = true := by unfold addrB; rw [e6, e7, a1, a2, a3]; rfl
  have h2 : kindB c 0 (kfr d) = true := by unfold kindB; rw [if_neg (by omega), k2, e7, a4]; simp
  rw [h1, h2]; rfl
end
theorem low_frame {d : Dg} {g : Cf} {wx : World} {base b : Nat} {tk ti : Int} {v : Value} (G : g.ok = true) (O : Lowok d g) (T : Bat wx base b g tk ti v []) (t0 : 0 ≤ tk) (t1 : tk ≤ 100) :
    Calls Tryz.prog 18 #[.pointer (some ⟨b, 0, none⟩), .int .i64 0, .string (kfr d)] wx fun e w' => e = .returned (rpv 9 0 (if 1 ≤ tk then lfr (mnl g.ia d.sa (prt (kfr d) 0 (28 + (d.op.size : Int)))) else ⟨#[]⟩)) ∧ ∃ v', BL wx w' base b g v v' (if 1 ≤ tk then tk - 1 else tk) ti [] := by
  have C := cok_of G
  have hi := us_bd C.ia
  have D := O.ok
  obtain ⟨F, e1, e2, e3, e4, e5, e6, e7⟩ := O.parts
  have fr := frame_goes T G (tok_nil g (by have := C.c1; omega)) 0 (kfr d) O.exam O.kinds.2.2 t1
  have hp : pss (kfr d) g.om = 9 := by unfold pss; rw [e4, if_pos O.tl]
  have hgo : goR g tk [] 0 (kfr d) = rfs g 9 0 g.om tk [] (kfr d) := by
    unfold goR outR
    rw [if_neg (by decide), if_neg (by rw [e7]; exact O.n4), if_neg (by rw [hp]; decide), hp]
  have hq : (prt (kfr d) 0 (hdv (kfr d) + 8)).size ≤ 1000 := by rw [prt_size, e1]; have := D.op; omega
  have hm := mine_eq (kfr d) g.ia hi.1 hi.2 hq
  rw [e6, e1, show 20 + (d.op.size : Int) + 8 = 28 + (d.op.size : Int) by omega] at hm
  have ht : telB 9 tk (kfr d) = decide (1 ≤ tk) := by unfold telB; simp
  rw [hgo] at fr
  unfold rfs at fr
  rw [ht] at fr
  have ha : tld (kfr d) (adS g 0) (twd 9) (thn 9 g.om) = lfr (mnl g.ia d.sa (prt (kfr d) 0 (28 + (d.op.size : Int)))) := by
    rw [show adS g 0 = g.ia by unfold adS; rw [if_neg (by decide)], show twd 9 = 2816 by rfl, show thn 9 g.om = 0 by unfold thn; rw [if_neg (by decide)]]
    exact hm
  rw [ha] at fr
  clear ha hm hgo
  generalize lfr (mnl g.ia d.sa (prt (kfr d) 0 (28 + (d.op.size : Int)))) = L at fr ⊢
  generalize kfr d = X at fr ⊢
  by_cases h : 1 ≤ tk
  · rw [if_pos (by simpa using h)] at fr
    rw [if_pos h, if_pos h]
    simp only [Rp.val] at fr
    exact fr
  · rw [if_neg (by simpa using h)] at fr
    rw [if_neg h, if_neg h]
    simp only [Rp.val] at fr
    exact fr
end Go.Proofs.YthiljpbodmajaabGreat
