/-
  CONTRACTS: natboxkeep.Home, of any input.
-/
import Derived.Test.YtgpbajpeldjomaaGreatKepl
import Derived.Test.YtgpbajpeldjomaaGreatBoxh
import Derived.Test.YtgpbajpeldjomaaGreatAgeb
import Derived.Test.YtgpbajpeldjomaaGreatKepf
import Derived.Test.YtgpbajpeldjomaaGreatKfrm
import Derived.Test.YtgpbajpeldjomaaGreatTick
namespace Go.Proofs.YtgpbajpeldjomaaGreat
open Go.RowKit Plain
set_option linter.unusedVariables false

/-- what comes from the outside, by what sent gives -/
def frm (a : Dg) (oa ext : Int) : Dg := { a with da := oa, dp := ext, kd := akd a.kd }
theorem kbd_frm {a : Dg} (D : Dgok a) (hk : a.pr = 1 → a.kd = 8 ∨ a.kd = 13) (oa ext : Int) (D' : Dgok (frm a oa ext)) : (kbd (frm a oa ext)).size = (kbd a).size := by
  rw [kbd_eq D, kbd_eq D']
  have h1 := kbx_size D (kfd a)
  have h2 := kbx_size D' (kfd (frm a oa ext))
  have h3 : kfl (frm a oa ext) = kfl a := rfl
  have hm := D.md
  have z1 : (prt a.md 0 2).size = 2 := by rw [prt_size]; omega
  have z2 : (prt a.md 2 14).size = 12 := by rw [prt_size]; omega
  have h4 : (kbs (frm a oa ext)).size = (kbs a).size := by
    unfold kbs
    show (if a.pr = 17 then _ else if a.pr = 6 then _ else _ : ByteArray).size = _
    by_cases p17 : a.pr = 17
    · rw [if_pos p17, if_pos p17]; rfl
    · by_cases p6 : a.pr = 6
      · rw [if_neg p17, if_neg p17, if_pos p6, if_pos p6]; rfl
      · have p1 : a.pr = 1 := by rcases D.pr with ⟨h, _⟩ | ⟨h, _⟩ | ⟨h, _⟩ <;> omega
        rw [if_neg p17, if_neg p17, if_neg p6, if_neg p6]
        show ((if 8 < akd a.kd then _ else _ : ByteArray) ++ a.tx).size = _
        rcases hk p1 with e | e
        · simp [e, akd, frm, ByteArray.size_append, w2_size, z1]
        · simp [e, akd, frm, ByteArray.size_append, w2_size, z1, z2]
  omega
theorem frm_ok {a : Dg} {g : Cf} {sa da sp dp tl k8 ext : Int} (G : g.ok = true) (S : Sentok a (oth sa g.ia g.oa) da sp dp tl g.im k8) (ht : 2 ≤ tl) (e0 : 1 ≤ ext) (e1 : ext ≤ 65535) : Inok (frm a g.oa ext) g := by
  have C := cok_of G
  have hoa := us_bd C.oa
  have D := S.ok
  have D' : Dgok (frm a g.oa ext) := by
    refine ⟨?_, D.s0, D.s1, hoa.1, hoa.2, D.p0, D.p1, by show 0 ≤ ext; omega, by show ext < 65536; omega, D.t0, D.t1, D.md, D.op, D.o4, D.tx, D.ta⟩
    rcases D.pr with h | h | ⟨h, h'⟩
    · exact .inl h
    · exact .inr (.inl h)
    · refine .inr (.inr ⟨h, ?_⟩)
      show akd a.kd = 8 ∨ akd a.kd = 13 ∨ akd a.kd = 0 ∨ akd a.kd = 14
      rcases S.kd h with e | e <;> simp [akd, e]
  have hz := kbd_frm D S.kd g.oa ext D'
  have hall := S.all
  rw [kfr_size D] at hall
  refine ⟨D', ?_, by show usB a.sa = true; rw [S.sa]; exact oth_us _ _ _, C.oa, by show ¬ a.sa = g.ia; rw [S.sa]; exact (oth_ne _ _ _).1, by show ¬ a.sa = g.oa; rw [S.sa]; exact (oth_ne _ _ _).2, fun e => C.ne (Eq.symm e), rfl, ?_, by show 2 ≤ a.tl; rw [S.tl]; exact ht, ?_⟩
  · rw [kfr_size D', hz]; exact hall
  · intro h
    show akd a.kd = 0 ∨ akd a.kd = 14
    rcases S.kd h with e | e <;> simp [akd, e]
  · show 20 + (a.op.size : Int) + (kbd (frm a g.oa ext)).size ≤ g.im
    rw [hz]; exact S.len
theorem aged_one (n : Int) (m : Mp) (h : n < m.le) : aged n [m] = [{ m with le := m.le - n }] := by simp [aged, h]
theorem cok_rest {c : Cf} (h : c.ok = true) : (0 ≤ c.bu ∧ c.bu ≤ 100) ∧ (0 ≤ c.ra ∧ c.ra ≤ 100) ∧ (1 ≤ c.iu ∧ c.iu ≤ 100000) ∧ (1 ≤ c.it ∧ c.it ≤ 100000) ∧ (1 ≤ c.iq ∧ c.iq ≤ 100000) := by
  simp [Cf.ok, validB, endsB, portsB, mtusB, idlesB, tailB, inB, leB, neB] at h
  omega
theorem idle_bd {c : Cf} (h : c.ok = true) (p : Int) : 1 ≤ c.idle p ∧ c.idle p ≤ 100000 := by
  have := cok_rest h
  unfold Cf.idle
  split
  · exact this.2.2.1
  · split
    · exact this.2.2.2.1
    · exact this.2.2.2.2
theorem tick_one {g : Cf} (G : g.ok = true) {wx : World} {base b : Nat} {v : Value} {m : Mp} {n : Int} (T : Bat wx base b g g.bu 0 v [m]) (n0 : 0 ≤ n) (n1 : n < m.le) (hl : m.le ≤ 100000) :
    Calls Tryz.prog 19 #[.pointer (some ⟨b, 0, none⟩), .int .i64 n] wx fun e w' => e = .returned (.int .i64 0) ∧ ∃ v' tk, BL wx w' base b g v v' tk n [{ m with le := m.le - n }] := by
  have h := cok_rest G
  have := tick_yes T n _ n0 (by omega) (by omega) (by omega) h.1.1 h.1.2 h.2.1.1 h.2.1.2 h.1.2 rfl (fun wy cur Ty => age_any Ty (by simp) n n0 (by omega) (by simp; omega))
  rw [aged_one n m n1] at this
  refine this.mono fun e w' h => ⟨h.1, ?_⟩
  obtain ⟨v', hv⟩ := h.2
  rw [show (0 : Int) + n = n by omega] at hv
  exact ⟨v', _, hv⟩
theorem home_frame {g : Cf} {wx : World} {base b : Nat} {v : Value} {tk ti : Int} {m : Mp} {a d : Dg} (I : Inok a g) (T : Bat wx base b g tk ti v [m]) (D : Dgok d) (h1 : m.pr = a.pr) (h2 : m.ea = d.sa) (h3 : m.ep = d.sp) (h4 : m.ex = a.dp) :
    Calls Tryz.prog 25 #[.pointer (some ⟨b, 0, none⟩), .int .i64 1, .string (kfr a)] wx fun e w' => e = .returned (rpv 0 0 (kfr { a with da := d.sa, dp := d.sp, tl := a.tl - 1 })) ∧ Below wx.heap.size wx w' := by
  obtain ⟨F, e1, e2, e3, e4, e5, e6, e7⟩ := I.parts
  have hh : m.has (bt (kfr a) 9) (wd (kfr a) (ppl (kfr a) 2)) = true := by rw [e3, I.dport]; simp [Mp.has, h1, h4]
  have := frame_home T (by simp) (kfr a) I.all I.exam I.chk I.kinds.2 m (by rw [List.findIdx_cons, hh]; rfl) I.pss (by rw [h2]; exact D.s0) (by rw [h2]; exact D.s1) (by rw [h3]; exact D.p0) (by rw [h3]; exact D.p1)
  rw [I.comes m.ea m.ep (by rw [h3]; exact D.p0) (by rw [h3]; exact D.p1) (by rw [h2]; exact D.s0) (by rw [h2]; exact D.s1), h2, h3] at this
  exact this
end Go.Proofs.YtgpbajpeldjomaaGreat
