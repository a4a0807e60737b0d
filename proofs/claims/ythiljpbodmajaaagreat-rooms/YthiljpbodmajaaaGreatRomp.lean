/-
  PLAIN MATHEMATICS: tables of one protocol: when all ports are taken.
-/
import Derived.Test.YthiljpbodmajaaaGreatPlain
namespace Go.Proofs.YthiljpbodmajaaaGreat.Plain

theorem srt_lower (p : Int) : ∀ (ms : List Mp) (lo : Int), Srt ms → (∀ m ∈ ms, m.pr = p ∧ lo ≤ m.ex) → ∀ (i : Nat) (m : Mp), ms[i]? = some m → lo + i ≤ m.ex
  | [], _, _, _, i, m, h => by simp at h
  | x :: xs, lo, hs, ha, i, m, h => by
    have hx := List.pairwise_cons.1 hs
    have h0 := ha x List.mem_cons_self
    match i, h with
    | 0, h => simp at h; subst h; omega
    | i + 1, h =>
      simp only [List.getElem?_cons_succ] at h
      have := srt_lower p xs (lo + 1) hx.2 (fun y hy => by
        have h1 := ha y (List.mem_cons_of_mem _ hy)
        have h2 := hx.1 y hy
        unfold lt2 at h2
        exact ⟨h1.1, by omega⟩) i m h
      omega
/-- as many mappings as ports: each port is taken -/
theorem srt_all (p : Int) : ∀ (ms : List Mp) (lo hi : Int), Srt ms → (∀ m ∈ ms, m.pr = p ∧ lo ≤ m.ex ∧ m.ex ≤ hi) → hi < lo + ms.length → ∀ k, lo ≤ k → k ≤ hi → ∃ m ∈ ms, m.pr = p ∧ m.ex = k
  | [], lo, hi, _, _, h, k, h1, h2 => by simp at h; omega
  | x :: xs, lo, hi, hs, ha, h, k, h1, h2 => by
    have hx := List.pairwise_cons.1 hs
    have h0 := ha x List.mem_cons_self
    have hl : (x.ex : Int) ≤ lo := by
      by_cases hn : xs.length = 0
      · simp [hn] at h; omega
      · obtain ⟨m, hm⟩ : ∃ m, xs[xs.length - 1]? = some m := ⟨xs[xs.length - 1]'(by omega), List.getElem?_eq_getElem (by omega)⟩
        have := srt_lower p xs (x.ex + 1) hx.2 (fun y hy => by
          have h3 := ha y (List.mem_cons_of_mem _ hy)
          have h4 := hx.1 y hy
          unfold lt2 at h4
          exact ⟨h3.1, by omega⟩) (xs.length - 1) m hm
        have h5 := ha m (List.mem_cons_of_mem _ (List.mem_of_getElem? hm))
        simp at h
        omega
    by_cases hk : k = lo
    · exact ⟨x, List.mem_cons_self, h0.1, by omega⟩
    · obtain ⟨m, hm, hq⟩ := srt_all p xs (lo + 1) hi hx.2 (fun y hy => by
        have h3 := ha y (List.mem_cons_of_mem _ hy)
        have h4 := hx.1 y hy
        unfold lt2 at h4
        exact ⟨h3.1, by omega, h3.2.2⟩) (by simp at h; omega) k (by omega) h2
      exact ⟨m, List.mem_cons_of_mem _ hm, hq⟩
/-- no port is left -/
theorem chs_over (c : Cf) (ms : List Mp) (p own : Int) (h : Srt ms) (ha : ∀ m ∈ ms, m.pr = p ∧ c.lo ≤ m.ex ∧ m.ex ≤ c.hi) (hl : c.hi < c.lo + ms.length) (hb : c.lo ≤ chs c ms p own) : c.hi < chs c ms p own := by
  by_cases k : chs c ms p own ≤ c.hi
  · obtain ⟨m, hm, h1, h2⟩ := srt_all p ms c.lo c.hi h ha hl _ hb k
    exact absurd ⟨h1, h2⟩ (chs_free c ms p own h m hm)
  · omega
end Go.Proofs.YthiljpbodmajaaaGreat.Plain
