/-
  PLAIN MATHEMATICS: Rooms: a table that grows by endpoints of one address.
-/
import Derived.Test.YthiljpbodmajaaaGreatRomp
import Derived.Test.YthiljpbodmajaaaGreatBoxa
namespace Go.Proofs.YthiljpbodmajaaaGreat
open Plain
set_option linter.unusedVariables false

theorem findIdx_out {f : Mp → Bool} {ms : List Mp} (h : ∀ m ∈ ms, f m = false) : ms[ms.findIdx f]? = none := by
  rw [List.getElem?_eq_none_iff]
  have : ¬ ms.findIdx f < ms.length := by
    rw [List.findIdx_lt_length]
    rintro ⟨m, hm, hf⟩
    rw [h m hm] at hf
    cases hf
  omega
/-- the table behind i endpoints -/
structure Rm (g : Cf) (p a bs : Int) (i : Nat) (ms : List Mp) : Prop where
  len : ms.length = i
  srt : Srt ms
  all : ∀ m ∈ ms, m.pr = p ∧ m.ea = a ∧ (∃ j : Nat, j < i ∧ m.ep = (bs + j) % 65536) ∧ g.lo ≤ m.ex ∧ m.ex ≤ g.hi
  tok : Tok g ms
theorem rm_nil (g : Cf) (p a bs : Int) (h : 0 ≤ g.cp) : Rm g p a bs 0 [] := ⟨rfl, srt_nil, by simp, tok_nil g h⟩
theorem rm_miss {g : Cf} {p a bs : Int} {i n : Nat} {ms : List Mp} (R : Rm g p a bs i ms) (h1 : i ≤ n) (h2 : n < 73) : ms[ms.findIdx (·.of p a ((bs + n) % 65536))]? = none := by
  apply findIdx_out
  intro m hm
  obtain ⟨hp, he, ⟨j, hj, hq⟩, _⟩ := R.all m hm
  cases hf : m.of p a ((bs + n) % 65536)
  · rfl
  · exfalso
    simp [Mp.of] at hf
    have := hf.2.2
    omega
theorem rooms_yes {g : Cf} {p a bs pa pp il : Int} {i : Nat} {ms : List Mp} (C : Cok g) (R : Rm g p a bs i ms) (hi : i < 72) (h1 : (i : Int) < g.cp) (h2 : (i : Int) < g.hi - g.lo + 1) (a0 : 0 ≤ a) (a1 : a < 4294967296) (i0 : 1 ≤ il) (i1 : il ≤ 100000) :
    ∃ x ms', use g ms p a ((bs + i) % 65536) pa pp il = some (x, ms') ∧ Rm g p a bs (i + 1) ms' := by
  have l1 := C.l1; have l2 := C.l2; have hh := C.h2
  have hm := rm_miss R (Nat.le_refl i) (by omega)
  have hl : g.lo ≤ chs g ms p ((bs + i) % 65536) := chs_bd g ms p _
  have hu : chs g ms p ((bs + i) % 65536) ≤ g.hi := by
    unfold chs
    split
    · rename_i k; exact k.2.1
    · have := (gap_bd p ms g.lo).2; have := R.len; omega
  have e : use g ms p a ((bs + i) % 65536) pa pp il = some (chs g ms p ((bs + i) % 65536), ins ((Mp.new p a ((bs + i) % 65536) (chs g ms p ((bs + i) % 65536))).used pa pp il) ms) := by
    unfold use
    simp only [hm]
    rw [if_neg (by have := R.len; omega)]
  refine ⟨_, _, e, ?_⟩
  have T := (use_tok R.tok l1 hh a0 a1 (by omega) (by omega) i0 i1 e).1
  have N := new_used p a ((bs + i) % 65536) (chs g ms p ((bs + i) % 65536)) pa pp il
  refine ⟨by rw [ins_len, R.len], srt_ins _ ms R.srt (fun x hx => ?_), fun y hy => ?_, T⟩
  · rw [N]; exact chs_free g ms p _ R.srt x hx
  · rcases mem_ins.1 hy with q | q
    · rw [q, N]
      exact ⟨rfl, rfl, ⟨i, by omega, rfl⟩, hl, hu⟩
    · obtain ⟨k1, k2, ⟨j, k3, k4⟩, k5⟩ := R.all y q
      exact ⟨k1, k2, ⟨j, by omega, k4⟩, k5⟩
theorem rooms_no {g : Cf} {p a bs pa pp il : Int} {i n : Nat} {ms : List Mp} (C : Cok g) (R : Rm g p a bs i ms) (hn : i ≤ n) (h72 : n < 73) (h : g.cp ≤ (i : Int) ∨ g.hi - g.lo + 1 ≤ (i : Int)) : use g ms p a ((bs + n) % 65536) pa pp il = none := by
  have hm := rm_miss R hn h72
  have hl : g.lo ≤ chs g ms p ((bs + n) % 65536) := chs_bd g ms p _
  unfold use
  simp only [hm]
  rw [if_pos]
  rcases h with h | h
  · left; have := R.len; omega
  · right
    exact chs_over g ms p _ R.srt (fun m hm => by obtain ⟨k1, _, _, k5⟩ := R.all m hm; exact ⟨k1, k5⟩) (by have := R.len; omega) hl
end Go.Proofs.YthiljpbodmajaaaGreat
