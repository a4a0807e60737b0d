/-
  PLAIN MATHEMATICS: the table, and the list of all that has gone out.
-/
import Derived.Test.YthiljpbodmajaabGreatUsea
import Derived.Test.YthiljpbodmajaabGreatToks
namespace Go.Proofs.YthiljpbodmajaabGreat
open Plain
set_option linter.unusedVariables false

/-- an endpoint has sent to a peer, at a time, through an external port -/
structure Us where
  pr : Int
  ad : Int
  po : Int
  ex : Int
  pa : Int
  pp : Int
  ti : Int
/-- of the same endpoint -/
def Us.like (u v : Us) : Bool := v.pr == u.pr && v.ad == u.ad && v.po == u.po
theorem like_iff {u v : Us} : u.like v = true ↔ v.pr = u.pr ∧ v.ad = u.ad ∧ v.po = u.po := by simp [Us.like, and_assoc]
theorem like_self (u : Us) : u.like u = true := like_iff.2 ⟨rfl, rfl, rfl⟩
/-- use i is the last one of its endpoint, and not too long ago -/
def lastB (c : Cf) (now : Int) (us : List Us) (i : Nat) : Bool :=
  match us[i]? with
  | none => false
  | some u => !((us.drop (i + 1)).any u.like) && decide (now - u.ti < c.idle u.pr)
theorem last_iff {c : Cf} {now : Int} {us : List Us} {i : Nat} {u : Us} (h : us[i]? = some u) : lastB c now us i = true ↔ (∀ j v, i < j → us[j]? = some v → u.like v = false) ∧ now - u.ti < c.idle u.pr := by
  unfold lastB
  rw [h]
  simp only [Bool.and_eq_true, Bool.not_eq_true', decide_eq_true_eq, List.any_eq_false]
  refine ⟨fun ⟨h1, h2⟩ => ⟨fun j v hj hv => ?_, h2⟩, fun ⟨h1, h2⟩ => ⟨fun v hv => ?_, h2⟩⟩
  · have := h1 v (List.mem_of_getElem? (i := j - (i + 1)) (by rw [List.getElem?_drop, show i + 1 + (j - (i + 1)) = j by omega]; exact hv))
    simpa using this
  · obtain ⟨j, hj⟩ := List.getElem?_of_mem hv
    rw [List.getElem?_drop] at hj
    have := h1 (i + 1 + j) v (by omega) hj
    simpa using this
/-- the first of n places -/
def fst? (f : Nat → Bool) : Nat → Option Nat
  | 0 => none
  | n + 1 => match fst? f n with
    | some i => some i
    | none => if f n then some n else none
theorem fst_none {f : Nat → Bool} : ∀ {n : Nat}, fst? f n = none ↔ ∀ i, i < n → f i = false
  | 0 => by simp [fst?]
  | n + 1 => by
    unfold fst?
    cases h : fst? f n with
    | some i =>
      simp only [reduceCtorEq, false_iff]
      intro k
      have := (fst_none (n := n)).2 (fun j hj => k j (by omega))
      rw [h] at this
      cases this
    | none =>
      have ih := fst_none.1 h
      by_cases q : f n = true
      · simp only [q, if_true, reduceCtorEq, false_iff]
        intro k
        rw [k n (by omega)] at q
        cases q
      · simp only [q]
        refine ⟨fun _ i hi => ?_, fun _ => rfl⟩
        by_cases e : i = n
        · rw [e]; simpa using q
        · exact ih i (by omega)
theorem fst_some {f : Nat → Bool} : ∀ {n i : Nat}, fst? f n = some i → i < n ∧ f i = true ∧ ∀ j, j < i → f j = false
  | 0, i, h => by simp [fst?] at h
  | n + 1, i, h => by
    unfold fst? at h
    cases q : fst? f n with
    | some k =>
      rw [q] at h
      simp only [Option.some.injEq] at h
      subst h
      have := fst_some q
      exact ⟨by omega, this.2⟩
    | none =>
      rw [q] at h
      simp only [] at h
      split at h
      · simp only [Option.some.injEq] at h
        subst h
        rename_i hf
        exact ⟨by omega, hf, fst_none.1 q⟩
      · cases h
theorem fst_step {f : Nat → Bool} {i : Nat} (h0 : ∀ j, j < i → f j = false) (h : f i = true) : ∀ n, i < n → fst? f n = some i
  | 0, hn => by omega
  | n + 1, hn => by
    unfold fst?
    by_cases e : i = n
    · subst e
      rw [fst_none.2 h0, h]; rfl
    · rw [fst_step h0 h n (by omega)]
/-- the peers that the endpoint of u has sent to, from place k on back to where it was idle for too long -/
def prs (c : Cf) (us : List Us) (u : Us) : Nat → Int → List (Int × Int) → List (Int × Int)
  | 0, _, l => l
  | k + 1, t, l => match us[k]? with
    | none => l
    | some v => if u.like v then (if c.idle u.pr ≤ t - v.ti then l else prs c us u k v.ti (if l.contains (v.pa, v.pp) then l else l ++ [(v.pa, v.pp)])) else prs c us u k t l
def peersL (c : Cf) (us : List Us) (i : Nat) : List (Int × Int) :=
  match us[i]? with
  | none => []
  | some u => prs c us u (i + 1) u.ti []
theorem mem_addp {l : List (Int × Int)} {x y : Int × Int} : y ∈ (if l.contains x then l else l ++ [x]) ↔ y = x ∨ y ∈ l := by
  by_cases h : l.contains x = true
  · rw [if_pos h]
    refine ⟨.inr, fun k => ?_⟩
    rcases k with e | e
    · subst e; simpa using h
    · exact e
  · rw [if_neg h, List.mem_append]
    simp [or_comm]
theorem nodup_addp {l : List (Int × Int)} {x : Int × Int} (h : l.Nodup) : (if l.contains x then l else l ++ [x]).Nodup := by
  by_cases k : l.contains x = true
  · rw [if_pos k]; exact h
  · rw [if_neg k]
    have k' : ¬ x ∈ l := by simpa using k
    rw [List.nodup_append]
    refine ⟨h, by simp, fun a ha b hb => ?_⟩
    have : b = x := by simpa using hb
    rw [this]
    exact fun e => k' (e ▸ ha)
theorem prs_nodup (c : Cf) (us : List Us) (u : Us) : ∀ (k : Nat) (t : Int) (l : List (Int × Int)), l.Nodup → (prs c us u k t l).Nodup
  | 0, _, _, h => h
  | k + 1, t, l, h => by
    unfold prs
    split
    · exact h
    · split
      · split
        · exact h
        · exact prs_nodup c us u k _ _ (nodup_addp h)
      · exact prs_nodup c us u k _ _ h
theorem prs_mem (c : Cf) (us : List Us) (u : Us) : ∀ (k : Nat) (t : Int) (l : List (Int × Int)) (y : Int × Int), y ∈ prs c us u k t l ↔ y ∈ l ∨ y ∈ prs c us u k t []
  | 0, _, l, y => by simp [prs]
  | k + 1, t, l, y => by
    unfold prs
    split
    · simp
    · rename_i v hv
      split
      · split
        · simp
        · rw [prs_mem c us u k v.ti (if l.contains (v.pa, v.pp) then l else l ++ [(v.pa, v.pp)]) y, prs_mem c us u k v.ti (if ([] : List (Int × Int)).contains (v.pa, v.pp) then [] else [] ++ [(v.pa, v.pp)]) y, mem_addp, mem_addp]
          simp only [List.not_mem_nil, or_false]
          constructor
          · rintro ((h | h) | h)
            · exact .inr (.inl h)
            · exact .inl h
            · exact .inr (.inr h)
          · rintro (h | h | h)
            · exact .inl (.inr h)
            · exact .inl (.inl h)
            · exact .inr h
      · exact prs_mem c us u k t l y
theorem prs_app (c : Cf) (us e : List Us) (u : Us) : ∀ (k : Nat) (t : Int) (l : List (Int × Int)), k ≤ us.length → prs c (us ++ e) u k t l = prs c us u k t l
  | 0, _, _, _ => rfl
  | k + 1, t, l, h => by
    unfold prs
    rw [List.getElem?_append_left (by omega)]
    split
    · rfl
    · split
      · split
        · rfl
        · exact prs_app c us e u k _ _ (by omega)
      · exact prs_app c us e u k _ _ (by omega)
theorem prs_like (c : Cf) (us : List Us) {u u' : Us} (h1 : u'.pr = u.pr) (h2 : u'.ad = u.ad) (h3 : u'.po = u.po) : ∀ (k : Nat) (t : Int) (l : List (Int × Int)), prs c us u' k t l = prs c us u k t l
  | 0, _, _ => rfl
  | k + 1, t, l => by
    have hl : ∀ v, u'.like v = u.like v := fun v => by unfold Us.like; rw [h1, h2, h3]
    unfold prs
    split
    · rfl
    · rename_i v hv
      rw [hl, h1]
      split
      · split
        · rfl
        · exact prs_like c us h1 h2 h3 k _ _
      · exact prs_like c us h1 h2 h3 k _ _
theorem prs_skip (c : Cf) (us : List Us) (u : Us) (i : Nat) (h : ∀ j v, i < j → us[j]? = some v → u.like v = false) (t : Int) (l : List (Int × Int)) : ∀ k, i < k → k ≤ us.length → prs c us u k t l = prs c us u (i + 1) t l
  | 0, h0, _ => by omega
  | k + 1, h0, h1 => by
    by_cases e : i = k
    · rw [e]
    · have ih := prs_skip c us u i h t l k (by omega) (by omega)
      rw [← ih]
      have hk : us[k]? = some us[k] := List.getElem?_eq_getElem (by omega)
      show prs c us u (k + 1) t l = _
      rw [prs, hk]
      simp only []
      rw [h k _ (by omega) hk]
      rfl
theorem prs_stop (c : Cf) (us : List Us) (u : Us) (t : Int) (l : List (Int × Int)) (hl : ∀ (i : Nat) v, us[i]? = some v → u.like v = true → (∀ (j : Nat) v', i < j → us[j]? = some v' → u.like v' = false) → c.idle u.pr ≤ t - v.ti) :
    ∀ k, k ≤ us.length → (∀ j v, k ≤ j → us[j]? = some v → u.like v = false) → prs c us u k t l = l
  | 0, _, _ => rfl
  | k + 1, h1, h2 => by
    have hk : us[k]? = some us[k] := List.getElem?_eq_getElem (by omega)
    rw [prs, hk]
    simp only []
    by_cases q : u.like us[k] = true
    · rw [if_pos q, if_pos (hl k _ hk q (fun j v' hj hv => h2 j v' (by omega) hv))]
    · rw [if_neg q]
      refine prs_stop c us u t l hl k (by omega) (fun j v hj hv => ?_)
      by_cases e : j = k
      · subst e
        rw [hk] at hv
        cases hv
        simpa using q
      · exact h2 j v (by omega) hv
/-- two lists without doubles with the same members are of one length -/
theorem nodup_le {α : Type} [DecidableEq α] : ∀ (l m : List α), l.Nodup → (∀ x, x ∈ l → x ∈ m) → l.length ≤ m.length
  | [], _, _, _ => by simp
  | x :: l, m, h, hs => by
    have hx := List.nodup_cons.1 h
    have hm : x ∈ m := hs x List.mem_cons_self
    have := nodup_le l (m.erase x) hx.2 (fun y hy => (List.mem_erase_of_ne (a := y) (b := x) (fun e => hx.1 (by rw [← e]; exact hy))).2 (hs y (List.mem_cons_of_mem _ hy)))
    rw [List.length_erase_of_mem hm] at this
    have hpos : 0 < m.length := List.length_pos_of_mem hm
    simp only [List.length_cons]
    omega
theorem nodup_eq {α : Type} [DecidableEq α] (l m : List α) (h : l.Nodup) (k : m.Nodup) (hs : ∀ x, x ∈ l ↔ x ∈ m) : l.length = m.length :=
  Nat.le_antisymm (nodup_le l m h fun x hx => (hs x).1 hx) (nodup_le m l k fun x hx => (hs x).2 hx)
/-- the peers of a mapping -/
structure Pe (l : List (Int × Int)) (m : Mp) : Prop where
  nd : l.Nodup
  len : (l.length : Int) = m.kn
  mem : ∀ a p, (a, p) ∈ l ↔ m.knows a p = true
/-- the mapping of a use -/
structure Mt (c : Cf) (now : Int) (us : List Us) (i : Nat) (u : Us) (m : Mp) : Prop where
  pr : m.pr = u.pr
  ea : m.ea = u.ad
  ep : m.ep = u.po
  ex : m.ex = u.ex
  le : m.le = c.idle u.pr - (now - u.ti)
  pe : Pe (peersL c us i) m
/-- what holds of a table and of the list of uses that it stands for -/
structure Sim (c : Cf) (now : Int) (us : List Us) (ms : List Mp) : Prop where
  srt : Srt ms
  tok : Tok c ms
  ti : ∀ u ∈ us, u.ti ≤ now
  fwd : ∀ m ∈ ms, ∃ i u, us[i]? = some u ∧ lastB c now us i = true ∧ Mt c now us i u m
  bwd : ∀ i u, us[i]? = some u → lastB c now us i = true → ∃ m ∈ ms, Mt c now us i u m
theorem last_one {c : Cf} {now : Int} {us : List Us} {i j : Nat} {u v : Us} (hi : us[i]? = some u) (hj : us[j]? = some v) (li : lastB c now us i = true) (lj : lastB c now us j = true) (h : u.like v = true) : i = j := by
  have h1 := (last_iff hi).1 li
  have h2 := (last_iff hj).1 lj
  have h' : v.like u = true := by have := like_iff.1 h; exact like_iff.2 ⟨this.1.symm, this.2.1.symm, this.2.2.symm⟩
  by_cases e : i < j
  · rw [h1.1 j v e hj] at h; cases h
  · by_cases e' : j < i
    · rw [h2.1 i u e' hi] at h'; cases h'
    · omega
theorem srt_one {ms : List Mp} (h : Srt ms) {m o : Mp} (hm : m ∈ ms) (ho : o ∈ ms) (e1 : m.pr = o.pr) (e2 : m.ex = o.ex) : m = o := by
  induction ms with
  | nil => cases hm
  | cons x xs ih =>
    have hx := List.pairwise_cons.1 h
    rcases List.mem_cons.1 hm with e | e
    · rcases List.mem_cons.1 ho with k | k
      · rw [e, k]
      · have := hx.1 o k; rw [← e] at this; unfold lt2 at this; omega
    · rcases List.mem_cons.1 ho with k | k
      · have := hx.1 m e; rw [← k] at this; unfold lt2 at this; omega
      · exact ih hx.2 e k
theorem sim_start (c : Cf) (h : 0 ≤ c.cp) : Sim c 0 [] [] := ⟨srt_nil, tok_nil c h, by simp, by simp, by simp⟩
/-- one endpoint has one mapping -/
theorem Sim.one {c : Cf} {now : Int} {us : List Us} {ms : List Mp} (S : Sim c now us ms) {m o : Mp} (hm : m ∈ ms) (ho : o ∈ ms) (h1 : m.pr = o.pr) (h2 : m.ea = o.ea) (h3 : m.ep = o.ep) : m = o := by
  obtain ⟨i, u, hu, hl, M⟩ := S.fwd m hm
  obtain ⟨j, v, hv, hl', M'⟩ := S.fwd o ho
  have e := last_one hu hv hl hl' (like_iff.2 ⟨by rw [← M.pr, ← M'.pr, h1], by rw [← M.ea, ← M'.ea, h2], by rw [← M.ep, ← M'.ep, h3]⟩)
  subst e
  rw [hu] at hv
  cases hv
  exact srt_one S.srt hm ho (by rw [M.pr, M'.pr]) (by rw [M.ex, M'.ex])
theorem last_later {c : Cf} {now n : Int} {us : List Us} {i : Nat} {u : Us} (hn : 0 ≤ n) (h : us[i]? = some u) : lastB c (now + n) us i = true ↔ lastB c now us i = true ∧ n < c.idle u.pr - (now - u.ti) := by
  rw [last_iff h, last_iff h]
  constructor
  · rintro ⟨h1, h2⟩; exact ⟨⟨h1, by omega⟩, by omega⟩
  · rintro ⟨⟨h1, h2⟩, h3⟩; exact ⟨h1, by omega⟩
theorem mem_aged {n : Int} {ms : List Mp} {y : Mp} : y ∈ aged n ms ↔ ∃ m ∈ ms, n < m.le ∧ y = { m with le := m.le - n } := by
  unfold aged
  simp only [List.mem_map, List.mem_filter, decide_eq_true_eq]
  constructor
  · rintro ⟨m, ⟨h1, h2⟩, h3⟩; exact ⟨m, h1, h2, h3.symm⟩
  · rintro ⟨m, h1, h2, h3⟩; exact ⟨m, ⟨h1, h2⟩, h3.symm⟩
theorem srt_aged {n : Int} {ms : List Mp} (h : Srt ms) : Srt (aged n ms) := by
  unfold aged
  exact List.Pairwise.map _ (fun a b h => h) (List.Pairwise.filter _ h)
theorem aged_tok {c : Cf} {n : Int} {ms : List Mp} (hn : 0 ≤ n) (K : Tok c ms) : Tok c (aged n ms) := by
  refine ⟨?_, fun y hy => ?_⟩
  · have h1 : (aged n ms).length ≤ ms.length := by unfold aged; rw [List.length_map]; exact List.length_filter_le _ _
    have := K.len
    omega
  · obtain ⟨m, hm, hl, rfl⟩ := mem_aged.1 hy
    have M := K.all m hm
    exact ⟨M.k0, M.k4, M.x1, M.x2, M.a0, M.a1, M.p0, M.p1, by show 1 ≤ m.le - n; omega, by show m.le - n ≤ 100000; have := M.l1; omega⟩
/-- TICKS -/
theorem sim_tick {c : Cf} {now n : Int} {us : List Us} {ms : List Mp} (S : Sim c now us ms) (hn : 0 ≤ n) : Sim c (now + n) us (aged n ms) := by
  refine ⟨srt_aged S.srt, aged_tok hn S.tok, fun u hu => by have := S.ti u hu; omega, fun y hy => ?_, fun i u hu hl => ?_⟩
  · obtain ⟨m, hm, hl, rfl⟩ := mem_aged.1 hy
    obtain ⟨i, u, hu, hl', M⟩ := S.fwd m hm
    have := M.le
    exact ⟨i, u, hu, (last_later hn hu).2 ⟨hl', by omega⟩, ⟨M.pr, M.ea, M.ep, M.ex, by show m.le - n = _; omega, ⟨M.pe.nd, M.pe.len, M.pe.mem⟩⟩⟩
  · obtain ⟨h1, h2⟩ := (last_later hn hu).1 hl
    obtain ⟨m, hm, M⟩ := S.bwd i u hu h1
    have := M.le
    exact ⟨_, mem_aged.2 ⟨m, hm, by omega, rfl⟩, ⟨M.pr, M.ea, M.ep, M.ex, by show m.le - n = _; omega, ⟨M.pe.nd, M.pe.len, M.pe.mem⟩⟩⟩
theorem fi_some {f : Mp → Bool} : ∀ {ms : List Mp} {m : Mp}, ms[ms.findIdx f]? = some m → m ∈ ms ∧ f m = true
  | [], m, h => by simp at h
  | x :: xs, m, h => by
    rw [List.findIdx_cons] at h
    cases q : f x with
    | true => rw [q] at h; simp at h; subst h; exact ⟨List.mem_cons_self, q⟩
    | false =>
      rw [q] at h
      have h' : xs[xs.findIdx f]? = some m := by simpa using h
      have := fi_some h'
      exact ⟨List.mem_cons_of_mem _ this.1, this.2⟩
theorem fi_none {f : Mp → Bool} : ∀ {ms : List Mp}, ms[ms.findIdx f]? = none → ∀ m ∈ ms, f m = false
  | [], _, m, hm => by cases hm
  | x :: xs, h, m, hm => by
    rw [List.findIdx_cons] at h
    cases q : f x with
    | true => rw [q] at h; simp at h
    | false =>
      rw [q] at h
      have h' : xs[xs.findIdx f]? = none := by simpa using h
      rcases List.mem_cons.1 hm with e | e
      · rw [e]; exact q
      · exact fi_none h' m e
theorem last_old {c : Cf} {now : Int} {us : List Us} {n : Us} {i : Nat} {u : Us} (h : us[i]? = some u) : lastB c now (us ++ [n]) i = true ↔ lastB c now us i = true ∧ u.like n = false := by
  have hi : i < us.length := (List.getElem?_eq_some_iff.1 h).1
  have h' : (us ++ [n])[i]? = some u := by rw [List.getElem?_append_left hi]; exact h
  rw [last_iff h', last_iff h]
  constructor
  · rintro ⟨h1, h2⟩
    refine ⟨⟨fun j v hj hv => h1 j v hj (by rw [List.getElem?_append_left (List.getElem?_eq_some_iff.1 hv).1]; exact hv), h2⟩, h1 us.length n hi (by simp)⟩
  · rintro ⟨⟨h1, h2⟩, h3⟩
    refine ⟨fun j v hj hv => ?_, h2⟩
    by_cases e : j < us.length
    · rw [List.getElem?_append_left e] at hv; exact h1 j v hj hv
    · rw [List.getElem?_append_right (by omega)] at hv
      by_cases e' : j - us.length = 0
      · rw [e'] at hv; simp at hv; rw [← hv]; exact h3
      · rw [List.getElem?_eq_none (by simp; omega)] at hv; cases hv
theorem at_new (us : List Us) (n : Us) : (us ++ [n])[us.length]? = some n := by simp
theorem last_new {c : Cf} {now : Int} {us : List Us} {n : Us} (h : now - n.ti < c.idle n.pr) : lastB c now (us ++ [n]) us.length = true := by
  rw [last_iff (at_new us n)]
  refine ⟨fun j v hj hv => ?_, h⟩
  rw [List.getElem?_eq_none (by simp; omega)] at hv
  cases hv
theorem peers_old {c : Cf} {us : List Us} {n : Us} {i : Nat} {u : Us} (h : us[i]? = some u) : peersL c (us ++ [n]) i = peersL c us i := by
  have hi : i < us.length := (List.getElem?_eq_some_iff.1 h).1
  unfold peersL
  rw [List.getElem?_append_left hi, h]
  exact prs_app c us [n] u (i + 1) u.ti [] (by omega)
theorem peers_new {c : Cf} {us : List Us} {n : Us} (h1 : 1 ≤ c.idle n.pr) : peersL c (us ++ [n]) us.length = prs c us n us.length n.ti [(n.pa, n.pp)] := by
  unfold peersL
  rw [at_new]
  simp only []
  rw [prs, at_new]
  simp only []
  rw [if_pos (like_self n), if_neg (by omega)]
  simp only [List.contains_nil, Bool.false_eq_true, if_false, List.nil_append]
  exact prs_app c us [n] n us.length n.ti _ (Nat.le_refl _)
theorem peers_live {c : Cf} {now : Int} {us : List Us} {n u : Us} {i : Nat} (hid : 1 ≤ c.idle n.pr) (hi : us[i]? = some u) (hl : lastB c now us i = true) (hn : n.ti = now) (e1 : n.pr = u.pr) (e2 : n.ad = u.ad) (e3 : n.po = u.po) :
    (peersL c (us ++ [n]) us.length).Nodup ∧ ∀ y, y ∈ peersL c (us ++ [n]) us.length ↔ y = (n.pa, n.pp) ∨ y ∈ peersL c us i := by
  have hlt : i < us.length := (List.getElem?_eq_some_iff.1 hi).1
  have hL := (last_iff hi).1 hl
  rw [peers_new hid]
  refine ⟨prs_nodup c us n _ _ _ (by simp), fun y => ?_⟩
  rw [prs_mem]
  have hlk : ∀ v, n.like v = u.like v := fun v => by unfold Us.like; rw [e1, e2, e3]
  rw [prs_skip c us n i (fun j v hj hv => by rw [hlk]; exact hL.1 j v hj hv) n.ti [] us.length hlt (Nat.le_refl _)]
  have s1 : prs c us n (i + 1) n.ti [] = prs c us n i u.ti (if ([] : List (Int × Int)).contains (u.pa, u.pp) then [] else [] ++ [(u.pa, u.pp)]) := by
    rw [prs, hi]
    simp only []
    rw [if_pos (by rw [hlk]; exact like_self u), if_neg (by rw [e1, hn]; omega)]
  have s2 : peersL c us i = prs c us u i u.ti (if ([] : List (Int × Int)).contains (u.pa, u.pp) then [] else [] ++ [(u.pa, u.pp)]) := by
    unfold peersL
    rw [hi]
    simp only []
    rw [prs, hi]
    simp only []
    rw [if_pos (like_self u), if_neg (by rw [← e1]; omega)]
  rw [s1, s2, prs_like c us e1 e2 e3]
  simp
theorem peers_dead {c : Cf} {now : Int} {us : List Us} {n : Us} (hid : 1 ≤ c.idle n.pr) (hn : n.ti = now) (hd : ∀ i u, us[i]? = some u → n.like u = true → lastB c now us i = false) : peersL c (us ++ [n]) us.length = [(n.pa, n.pp)] := by
  rw [peers_new hid]
  refine prs_stop c us n n.ti _ (fun i v hv hl hno => ?_) us.length (Nat.le_refl _) (fun j v hj hv => by rw [List.getElem?_eq_none hj] at hv; cases hv)
  have hk := like_iff.1 hl
  by_cases q : c.idle n.pr ≤ n.ti - v.ti
  · exact q
  · exfalso
    have := (last_iff (c := c) (now := now) hv).2 ⟨fun j w hj hw => by
      have := hno j w hj hw
      have e : v.like w = n.like w := by unfold Us.like; rw [hk.1, hk.2.1, hk.2.2]
      rw [e]; exact this, by rw [hk.1]; omega⟩
    rw [hd i v hv hl] at this
    cases this
theorem used_mem {m : Mp} {a p i a' p' : Int} (k0 : 0 ≤ m.kn) (k4 : m.kn ≤ 4) (ht : m.takes a p = true) : (m.used a p i).knows a' p' = true ↔ (a' = a ∧ p' = p) ∨ m.knows a' p' = true := by
  unfold Mp.used
  by_cases h : m.kn < 4 ∧ m.knows a p = false
  · rw [if_pos h]
    have hk : m.kn = 0 ∨ m.kn = 1 ∨ m.kn = 2 ∨ m.kn = 3 := by omega
    rcases hk with e | e | e | e
    · simp [e, Mp.knows] <;> omega
    · simp [e, Mp.knows] <;> omega
    · simp [e, Mp.knows] <;> omega
    · simp [e, Mp.knows] <;> omega
  · rw [if_neg h]
    have h2 : m.knows a p = true := by
      cases hk : m.knows a p
      · exfalso
        simp [Mp.takes, hk] at ht
        exact h ⟨ht, hk⟩
      · rfl
    have e : ({ m with le := i } : Mp).knows a' p' = m.knows a' p' := rfl
    rw [e]
    refine ⟨.inr, fun k => ?_⟩
    rcases k with ⟨e1, e2⟩ | k
    · rw [e1, e2]; exact h2
    · exact k
theorem used_kn {m : Mp} {a p i : Int} (k0 : 0 ≤ m.kn) (k4 : m.kn ≤ 4) (ht : m.takes a p = true) : (m.used a p i).kn = if m.knows a p = true then m.kn else m.kn + 1 := by
  unfold Mp.used
  by_cases h : m.kn < 4 ∧ m.knows a p = false
  · have hn : ¬ m.knows a p = true := by rw [h.2]; simp
    rw [if_pos h, if_neg hn]
    have hk : m.kn = 0 ∨ m.kn = 1 ∨ m.kn = 2 ∨ m.kn = 3 := by omega
    rcases hk with e | e | e | e <;> simp [e]
  · rw [if_neg h]
    have h2 : m.knows a p = true := by
      cases hk : m.knows a p
      · exfalso
        simp [Mp.takes, hk] at ht
        exact h ⟨ht, hk⟩
      · rfl
    rw [if_pos h2]
theorem used_rest (m : Mp) (a p i : Int) : (m.used a p i).pr = m.pr ∧ (m.used a p i).ea = m.ea ∧ (m.used a p i).ep = m.ep ∧ (m.used a p i).ex = m.ex ∧ (m.used a p i).le = i := by
  unfold Mp.used
  repeat (first | exact ⟨rfl, rfl, rfl, rfl, rfl⟩ | split)
theorem srt_set : ∀ {ms : List Mp} {k : Nat} {m m' : Mp}, Srt ms → ms[k]? = some m → m'.pr = m.pr → m'.ex = m.ex → Srt (ms.set k m')
  | [], _, _, _, _, h, _, _ => by simp at h
  | x :: xs, 0, m, m', hs, h, e1, e2 => by
    simp at h
    subst h
    have hx := List.pairwise_cons.1 hs
    exact List.Pairwise.cons (fun y hy => by have := hx.1 y hy; unfold lt2 at *; rw [e1, e2]; exact this) hx.2
  | x :: xs, k + 1, m, m', hs, h, e1, e2 => by
    have h' : xs[k]? = some m := by simpa using h
    have hx := List.pairwise_cons.1 hs
    refine List.Pairwise.cons (fun y hy => ?_) (srt_set hx.2 h' e1 e2)
    obtain ⟨j, hj⟩ := List.getElem?_of_mem hy
    rw [List.getElem?_set] at hj
    split at hj
    · split at hj
      · cases hj
        have := hx.1 m (List.mem_of_getElem? h')
        unfold lt2 at *; rw [e1, e2]; exact this
      · cases hj
    · exact hx.1 y (List.mem_of_getElem? hj)
theorem mem_set_iff {ms : List Mp} {k : Nat} {m m' y : Mp} (hs : Srt ms) (hk : ms[k]? = some m) : y ∈ ms.set k m' ↔ y = m' ∨ (y ∈ ms ∧ y ≠ m) := by
  have hlt : k < ms.length := (List.getElem?_eq_some_iff.1 hk).1
  constructor
  · intro hy
    obtain ⟨j, hj⟩ := List.getElem?_of_mem hy
    rw [List.getElem?_set] at hj
    split at hj
    · exact .inl (Option.some.inj hj).symm
    · rename_i hne
      refine .inr ⟨List.mem_of_getElem? hj, fun e => ?_⟩
      subst e
      have hp := List.pairwise_iff_getElem.1 hs
      obtain ⟨l1, e1⟩ := List.getElem?_eq_some_iff.1 hj
      obtain ⟨l2, e2⟩ := List.getElem?_eq_some_iff.1 hk
      rcases Nat.lt_or_gt_of_ne hne with h | h
      · have := hp k j l2 l1 h
        rw [e1, e2] at this; unfold lt2 at this; omega
      · have := hp j k l1 l2 h
        rw [e1, e2] at this; unfold lt2 at this; omega
  · rintro (h | ⟨h, hne⟩)
    · rw [h]; exact List.mem_of_getElem? (i := k) (by rw [List.getElem?_set]; simp [hlt])
    · obtain ⟨j, hj⟩ := List.getElem?_of_mem h
      refine List.mem_of_getElem? (i := j) ?_
      rw [List.getElem?_set, if_neg (fun e => ?_)]
      · exact hj
      · subst e; rw [hk] at hj; cases hj; exact hne rfl
/-- A USE -/
theorem sim_use {c : Cf} {now : Int} {us : List Us} {ms ms' : List Mp} {p a q pa pp x : Int} (hid : 1 ≤ c.idle p) (S : Sim c now us ms) (T : Tok c ms') (h : use c ms p a q pa pp (c.idle p) = some (x, ms')) : Sim c now (us ++ [⟨p, a, q, x, pa, pp, now⟩]) ms' := by
  unfold use at h
  simp only [] at h
  have hti : ∀ u ∈ us ++ [(⟨p, a, q, x, pa, pp, now⟩ : Us)], u.ti ≤ now := fun u hu => by
    rcases List.mem_append.1 hu with k | k
    · exact S.ti u k
    · have : u = ⟨p, a, q, x, pa, pp, now⟩ := by simpa using k
      rw [this]; exact Int.le_refl _
  have hnew : lastB c now (us ++ [(⟨p, a, q, x, pa, pp, now⟩ : Us)]) us.length = true := last_new (by show now - now < c.idle p; omega)
  cases hm : ms[ms.findIdx (·.of p a q)]? with
  | some m =>
    rw [hm] at h
    simp only [] at h
    split at h
    case isFalse => cases h
    rename_i ht
    simp only [Option.some.injEq, Prod.mk.injEq] at h
    obtain ⟨rfl, rfl⟩ := h
    obtain ⟨hmem, hof⟩ := fi_some hm
    have hof' : m.pr = p ∧ m.ea = a ∧ m.ep = q := by simpa [Mp.of] using hof
    have Mo := S.tok.all m hmem
    obtain ⟨i, u, hu, hl, M⟩ := S.fwd m hmem
    obtain ⟨r1, r2, r3, r4, r5⟩ := used_rest m pa pp (c.idle p)
    have PL := peers_live (n := ⟨p, a, q, m.ex, pa, pp, now⟩) hid hu hl rfl (by rw [← hof'.1]; exact M.pr) (by rw [← hof'.2.1]; exact M.ea) (by rw [← hof'.2.2]; exact M.ep)
    have Pn : Pe (peersL c (us ++ [(⟨p, a, q, m.ex, pa, pp, now⟩ : Us)]) us.length) (m.used pa pp (c.idle p)) := by
      refine ⟨PL.1, ?_, fun a' p' => ?_⟩
      · rw [used_kn Mo.k0 Mo.k4 ht]
        by_cases hk : m.knows pa pp = true
        · rw [if_pos hk, ← M.pe.len]
          congr 1
          exact nodup_eq _ _ PL.1 M.pe.nd (fun y => by
            rw [PL.2]
            refine ⟨fun k => ?_, .inr⟩
            rcases k with e | e
            · rw [e]; exact (M.pe.mem pa pp).2 hk
            · exact e)
        · rw [if_neg hk, ← M.pe.len]
          have hni : ¬ (pa, pp) ∈ peersL c us i := fun k => hk ((M.pe.mem pa pp).1 k)
          have := nodup_eq _ ((pa, pp) :: peersL c us i) PL.1 (List.nodup_cons.2 ⟨hni, M.pe.nd⟩) (fun y => by rw [PL.2, List.mem_cons])
          rw [this]
          simp
      · rw [PL.2, used_mem Mo.k0 Mo.k4 ht, M.pe.mem]
        simp
    have Mn : Mt c now (us ++ [(⟨p, a, q, m.ex, pa, pp, now⟩ : Us)]) us.length ⟨p, a, q, m.ex, pa, pp, now⟩ (m.used pa pp (c.idle p)) :=
      ⟨by rw [r1]; exact hof'.1, by rw [r2]; exact hof'.2.1, by rw [r3]; exact hof'.2.2, r4, by rw [r5]; show c.idle p = c.idle p - (now - now); omega, Pn⟩
    refine ⟨srt_set S.srt hm r1 r4, T, hti, fun y hy => ?_, fun j v hv hlj => ?_⟩
    · rcases (mem_set_iff S.srt hm).1 hy with e | ⟨e, hne⟩
      · rw [e]; exact ⟨us.length, _, at_new _ _, hnew, Mn⟩
      · obtain ⟨j, v, hv, hlj, M'⟩ := S.fwd y e
        have hnl : v.like ⟨p, a, q, m.ex, pa, pp, now⟩ = false := by
          cases k : v.like ⟨p, a, q, m.ex, pa, pp, now⟩
          · rfl
          · exfalso
            have k' := like_iff.1 k
            exact hne (S.one e hmem (by rw [M'.pr, hof'.1]; exact k'.1.symm) (by rw [M'.ea, hof'.2.1]; exact k'.2.1.symm) (by rw [M'.ep, hof'.2.2]; exact k'.2.2.symm))
        exact ⟨j, v, by rw [List.getElem?_append_left (List.getElem?_eq_some_iff.1 hv).1]; exact hv, (last_old hv).2 ⟨hlj, hnl⟩, ⟨M'.pr, M'.ea, M'.ep, M'.ex, M'.le, by rw [peers_old hv]; exact M'.pe⟩⟩
    · by_cases hj : j < us.length
      · rw [List.getElem?_append_left hj] at hv
        obtain ⟨h1, h2⟩ := (last_old hv).1 hlj
        obtain ⟨y, hy, M'⟩ := S.bwd j v hv h1
        refine ⟨y, (mem_set_iff S.srt hm).2 (.inr ⟨hy, fun e => ?_⟩), ⟨M'.pr, M'.ea, M'.ep, M'.ex, M'.le, by rw [peers_old hv]; exact M'.pe⟩⟩
        subst e
        rw [like_iff.2 ⟨by rw [← M'.pr]; exact hof'.1.symm, by rw [← M'.ea]; exact hof'.2.1.symm, by rw [← M'.ep]; exact hof'.2.2.symm⟩] at h2
        cases h2
      · have e : j = us.length := by have := (List.getElem?_eq_some_iff.1 hv).1; simp at this; omega
        subst e
        rw [at_new] at hv
        cases hv
        exact ⟨_, (mem_set_iff S.srt hm).2 (.inl rfl), Mn⟩
  | none =>
    rw [hm] at h
    simp only [] at h
    split at h
    · cases h
    simp only [Option.some.injEq, Prod.mk.injEq] at h
    obtain ⟨hx, rfl⟩ := h
    have hno := fi_none hm
    have hfree := chs_free c ms p q S.srt
    rw [hx] at hfree T ⊢
    have N := new_used p a q x pa pp (c.idle p)
    have hdead : ∀ i u, us[i]? = some u → (⟨p, a, q, x, pa, pp, now⟩ : Us).like u = true → lastB c now us i = false := fun i u hu hk => by
      cases hl : lastB c now us i
      · rfl
      · exfalso
        obtain ⟨m, hmm, M⟩ := S.bwd i u hu hl
        have k := like_iff.1 hk
        have := hno m hmm
        have e : m.of p a q = true := by simp [Mp.of, M.pr, M.ea, M.ep, k.1, k.2.1, k.2.2]
        rw [e] at this
        cases this
    have Pn : Pe (peersL c (us ++ [(⟨p, a, q, x, pa, pp, now⟩ : Us)]) us.length) ((Mp.new p a q x).used pa pp (c.idle p)) := by
      rw [peers_dead (n := ⟨p, a, q, x, pa, pp, now⟩) hid rfl hdead, N]
      refine ⟨by simp, by simp, fun a' p' => ?_⟩
      simp [Mp.knows] <;> omega
    have Mn : Mt c now (us ++ [(⟨p, a, q, x, pa, pp, now⟩ : Us)]) us.length ⟨p, a, q, x, pa, pp, now⟩ ((Mp.new p a q x).used pa pp (c.idle p)) :=
      ⟨by rw [N], by rw [N], by rw [N], by rw [N], by rw [N]; show c.idle p = c.idle p - (now - now); omega, Pn⟩
    refine ⟨srt_ins _ ms S.srt (fun y hy => by rw [N]; exact hfree y hy), T, hti, fun y hy => ?_, fun j v hv hlj => ?_⟩
    · rcases mem_ins.1 hy with e | e
      · rw [e]; exact ⟨us.length, _, at_new _ _, hnew, Mn⟩
      · obtain ⟨j, v, hv, hlj, M'⟩ := S.fwd y e
        have hnl : v.like ⟨p, a, q, x, pa, pp, now⟩ = false := by
          cases k : v.like ⟨p, a, q, x, pa, pp, now⟩
          · rfl
          · exfalso
            have k' := like_iff.1 k
            have := hdead j v hv (like_iff.2 ⟨k'.1.symm, k'.2.1.symm, k'.2.2.symm⟩)
            rw [hlj] at this
            cases this
        exact ⟨j, v, by rw [List.getElem?_append_left (List.getElem?_eq_some_iff.1 hv).1]; exact hv, (last_old hv).2 ⟨hlj, hnl⟩, ⟨M'.pr, M'.ea, M'.ep, M'.ex, M'.le, by rw [peers_old hv]; exact M'.pe⟩⟩
    · by_cases hj : j < us.length
      · rw [List.getElem?_append_left hj] at hv
        obtain ⟨h1, h2⟩ := (last_old hv).1 hlj
        obtain ⟨y, hy, M'⟩ := S.bwd j v hv h1
        exact ⟨y, mem_ins.2 (.inr hy), ⟨M'.pr, M'.ea, M'.ep, M'.ex, M'.le, by rw [peers_old hv]; exact M'.pe⟩⟩
      · have e : j = us.length := by have := (List.getElem?_eq_some_iff.1 hv).1; simp at this; omega
        subst e
        rw [at_new] at hv
        cases hv
        exact ⟨_, mem_ins.2 (.inl rfl), Mn⟩
end Go.Proofs.YthiljpbodmajaabGreat
namespace Go.Proofs.YthiljpbodmajaabGreat
open Plain
set_option linter.unusedVariables false

def hasI (c : Cf) (now : Int) (us : List Us) (p x : Int) (i : Nat) : Bool :=
  match us[i]? with
  | none => false
  | some u => u.pr == p && u.ex == x && lastB c now us i
def ofI (c : Cf) (now : Int) (us : List Us) (p a q : Int) (i : Nat) : Bool :=
  match us[i]? with
  | none => false
  | some u => u.pr == p && u.ad == a && u.po == q && lastB c now us i
theorem hasI_iff {c : Cf} {now : Int} {us : List Us} {p x : Int} {i : Nat} : hasI c now us p x i = true ↔ ∃ u, us[i]? = some u ∧ u.pr = p ∧ u.ex = x ∧ lastB c now us i = true := by
  unfold hasI
  cases h : us[i]? with
  | none => simp
  | some u => simp [and_assoc]
theorem ofI_iff {c : Cf} {now : Int} {us : List Us} {p a q : Int} {i : Nat} : ofI c now us p a q i = true ↔ ∃ u, us[i]? = some u ∧ u.pr = p ∧ u.ad = a ∧ u.po = q ∧ lastB c now us i = true := by
  unfold ofI
  cases h : us[i]? with
  | none => simp
  | some u => simp [and_assoc]
theorem fst_of {f : Nat → Bool} {n i : Nat} (hi : i < n) (h : f i = true) (h1 : ∀ j, j < n → f j = true → j = i) : fst? f n = some i := by
  cases k : fst? f n with
  | none => have := fst_none.1 k i hi; rw [h] at this; cases this
  | some j => have := fst_some k; rw [h1 j this.1 this.2.1]
section
variable {c : Cf} {now : Int} {us : List Us} {ms : List Mp}
/-- the holder of an external port -/
theorem Sim.holder0 (S : Sim c now us ms) {p x : Int} (h : ms[ms.findIdx (·.has p x)]? = none) : fst? (hasI c now us p x) us.length = none := by
  rw [fst_none]
  intro i hi
  cases k : hasI c now us p x i
  · rfl
  · exfalso
    obtain ⟨u, hu, h1, h2, hl⟩ := hasI_iff.1 k
    obtain ⟨m, hm, M⟩ := S.bwd i u hu hl
    have := fi_none h m hm
    rw [show m.has p x = true by simp [Mp.has, M.pr, M.ex, h1, h2]] at this
    cases this
theorem Sim.holder1 (S : Sim c now us ms) {p x : Int} {m : Mp} (h : ms[ms.findIdx (·.has p x)]? = some m) : ∃ i u, fst? (hasI c now us p x) us.length = some i ∧ us[i]? = some u ∧ lastB c now us i = true ∧ Mt c now us i u m := by
  obtain ⟨hm, hh⟩ := fi_some h
  have hh' : m.pr = p ∧ m.ex = x := by simpa [Mp.has] using hh
  obtain ⟨i, u, hu, hl, M⟩ := S.fwd m hm
  refine ⟨i, u, fst_of (List.getElem?_eq_some_iff.1 hu).1 (hasI_iff.2 ⟨u, hu, by rw [← M.pr]; exact hh'.1, by rw [← M.ex]; exact hh'.2, hl⟩) (fun j hj hf => ?_), hu, hl, M⟩
  obtain ⟨v, hv, h1, h2, hl'⟩ := hasI_iff.1 hf
  obtain ⟨o, ho, M'⟩ := S.bwd j v hv hl'
  have e : o = m := srt_one S.srt ho hm (by rw [M'.pr, h1, hh'.1]) (by rw [M'.ex, h2, hh'.2])
  subst e
  exact last_one hv hu hl' hl (like_iff.2 ⟨by rw [← M.pr, ← M'.pr], by rw [← M.ea, ← M'.ea], by rw [← M.ep, ← M'.ep]⟩)
/-- the mapping of an endpoint -/
theorem Sim.endpoint0 (S : Sim c now us ms) {p a q : Int} (h : ms[ms.findIdx (·.of p a q)]? = none) : fst? (ofI c now us p a q) us.length = none := by
  rw [fst_none]
  intro i hi
  cases k : ofI c now us p a q i
  · rfl
  · exfalso
    obtain ⟨u, hu, h1, h2, h3, hl⟩ := ofI_iff.1 k
    obtain ⟨m, hm, M⟩ := S.bwd i u hu hl
    have := fi_none h m hm
    rw [show m.of p a q = true by simp [Mp.of, M.pr, M.ea, M.ep, h1, h2, h3]] at this
    cases this
theorem Sim.endpoint1 (S : Sim c now us ms) {p a q : Int} {m : Mp} (h : ms[ms.findIdx (·.of p a q)]? = some m) : ∃ i u, fst? (ofI c now us p a q) us.length = some i ∧ us[i]? = some u ∧ lastB c now us i = true ∧ Mt c now us i u m := by
  obtain ⟨hm, hh⟩ := fi_some h
  have hh' : m.pr = p ∧ m.ea = a ∧ m.ep = q := by simpa [Mp.of] using hh
  obtain ⟨i, u, hu, hl, M⟩ := S.fwd m hm
  refine ⟨i, u, fst_of (List.getElem?_eq_some_iff.1 hu).1 (ofI_iff.2 ⟨u, hu, by rw [← M.pr]; exact hh'.1, by rw [← M.ea]; exact hh'.2.1, by rw [← M.ep]; exact hh'.2.2, hl⟩) (fun j hj hf => ?_), hu, hl, M⟩
  obtain ⟨v, hv, h1, h2, h3, hl'⟩ := ofI_iff.1 hf
  exact last_one hv hu hl' hl (like_iff.2 ⟨by rw [h1, ← M.pr, hh'.1], by rw [h2, ← M.ea, hh'.2.1], by rw [h3, ← M.ep, hh'.2.2]⟩)
end
/-- the places of n where f holds, in their order -/
def lvI (f : Nat → Bool) : Nat → List Nat
  | 0 => []
  | n + 1 => if f n then lvI f n ++ [n] else lvI f n
theorem mem_lvI {f : Nat → Bool} : ∀ {n i : Nat}, i ∈ lvI f n ↔ i < n ∧ f i = true
  | 0, i => by simp [lvI]
  | n + 1, i => by
    unfold lvI
    split
    · rename_i h
      rw [List.mem_append, mem_lvI (n := n), List.mem_singleton]
      constructor
      · rintro (⟨h1, h2⟩ | e)
        · exact ⟨by omega, h2⟩
        · subst e; exact ⟨by omega, h⟩
      · rintro ⟨h1, h2⟩
        by_cases e : i = n
        · exact .inr e
        · exact .inl ⟨by omega, h2⟩
    · rename_i h
      rw [mem_lvI (n := n)]
      constructor
      · rintro ⟨h1, h2⟩; exact ⟨by omega, h2⟩
      · rintro ⟨h1, h2⟩
        by_cases e : i = n
        · subst e; exact absurd h2 h
        · exact ⟨by omega, h2⟩
theorem nodup_lvI (f : Nat → Bool) : ∀ n, (lvI f n).Nodup
  | 0 => by simp [lvI]
  | n + 1 => by
    unfold lvI
    split
    · rw [List.nodup_append]
      refine ⟨nodup_lvI f n, by simp, fun a ha b hb => ?_⟩
      have h1 := (mem_lvI.1 ha).1
      have h2 : b = n := by simpa using hb
      omega
    · exact nodup_lvI f n
theorem nodup_map {α β : Type} (g : α → β) : ∀ (l : List α), l.Nodup → (∀ a, a ∈ l → ∀ b, b ∈ l → g a = g b → a = b) → (l.map g).Nodup
  | [], _, _ => by simp
  | x :: l, h, hi => by
    have hx := List.nodup_cons.1 h
    rw [List.map_cons, List.nodup_cons]
    refine ⟨fun k => ?_, nodup_map g l hx.2 (fun a ha b hb => hi a (List.mem_cons_of_mem _ ha) b (List.mem_cons_of_mem _ hb))⟩
    obtain ⟨y, hy, e⟩ := List.mem_map.1 k
    have := hi y (List.mem_cons_of_mem _ hy) x List.mem_cons_self e
    subst this
    exact hx.1 hy
/-- what is to be seen of a mapping -/
structure Vw where
  pr : Int
  ad : Int
  po : Int
  ex : Int
  le : Int
  kn : Int
def decVw : DecidableEq Vw := fun a b =>
  if h : a.pr = b.pr ∧ a.ad = b.ad ∧ a.po = b.po ∧ a.ex = b.ex ∧ a.le = b.le ∧ a.kn = b.kn then isTrue (by
    obtain ⟨h1, h2, h3, h4, h5, h6⟩ := h
    cases a
    cases b
    simp only at h1 h2 h3 h4 h5 h6
    subst h1 h2 h3 h4 h5 h6
    rfl)
  else isFalse (fun e => h (by subst e; exact ⟨rfl, rfl, rfl, rfl, rfl, rfl⟩))
def Mp.vw (m : Mp) : Vw := ⟨m.pr, m.ea, m.ep, m.ex, m.le, m.kn⟩
/-- what is to be seen of a use -/
def seenV (c : Cf) (now : Int) (us : List Us) (i : Nat) : Vw :=
  match us[i]? with
  | none => ⟨0, 0, 0, 0, 0, 0⟩
  | some u => ⟨u.pr, u.ad, u.po, u.ex, c.idle u.pr - (now - u.ti), (peersL c us i).length⟩
theorem Mt.seen {c : Cf} {now : Int} {us : List Us} {i : Nat} {u : Us} {m : Mp} (h : us[i]? = some u) (M : Mt c now us i u m) : seenV c now us i = Mp.vw m := by
  unfold seenV Mp.vw
  rw [h]
  simp only []
  rw [M.pr, M.ea, M.ep, M.ex, M.le, M.pe.len]
theorem srt_nodup : ∀ {ms : List Mp}, Srt ms → ms.Nodup
  | [], _ => by simp
  | x :: xs, h => by
    have hx := List.pairwise_cons.1 h
    rw [List.nodup_cons]
    exact ⟨fun k => by have := hx.1 x k; unfold lt2 at this; omega, srt_nodup hx.2⟩
section
variable {c : Cf} {now : Int} {us : List Us} {ms : List Mp}
/-- what is seen of the live uses is what is seen of the table, but for the order -/
theorem Sim.seen (S : Sim c now us ms) : ((lvI (lastB c now us) us.length).map (seenV c now us)).Nodup ∧ (∀ v, v ∈ (lvI (lastB c now us) us.length).map (seenV c now us) ↔ v ∈ ms.map Mp.vw) ∧ (lvI (lastB c now us) us.length).length = ms.length := by
  have hn : ((lvI (lastB c now us) us.length).map (seenV c now us)).Nodup := by
    refine nodup_map _ _ (nodup_lvI _ _) (fun i hi j hj e => ?_)
    obtain ⟨h1, h2⟩ := mem_lvI.1 hi
    obtain ⟨k1, k2⟩ := mem_lvI.1 hj
    have hu : us[i]? = some us[i] := List.getElem?_eq_getElem h1
    have hv : us[j]? = some us[j] := List.getElem?_eq_getElem k1
    unfold seenV at e
    rw [hu, hv] at e
    simp only [Vw.mk.injEq] at e
    exact last_one hu hv h2 k2 (like_iff.2 ⟨e.1.symm, e.2.1.symm, e.2.2.1.symm⟩)
  have hm : (ms.map Mp.vw).Nodup := by
    refine nodup_map _ _ (srt_nodup S.srt) (fun m hm o ho e => ?_)
    unfold Mp.vw at e
    simp only [Vw.mk.injEq] at e
    exact srt_one S.srt hm ho e.1 e.2.2.2.1
  have hs : ∀ v, v ∈ (lvI (lastB c now us) us.length).map (seenV c now us) ↔ v ∈ ms.map Mp.vw := fun v => by
    rw [List.mem_map, List.mem_map]
    constructor
    · rintro ⟨i, hi, rfl⟩
      obtain ⟨h1, h2⟩ := mem_lvI.1 hi
      have hu : us[i]? = some us[i] := List.getElem?_eq_getElem h1
      obtain ⟨m, hm, M⟩ := S.bwd i _ hu h2
      exact ⟨m, hm, (M.seen hu).symm⟩
    · rintro ⟨m, hm, rfl⟩
      obtain ⟨i, u, hu, hl, M⟩ := S.fwd m hm
      exact ⟨i, mem_lvI.2 ⟨(List.getElem?_eq_some_iff.1 hu).1, hl⟩, M.seen hu⟩
  refine ⟨hn, hs, ?_⟩
  have := @nodup_eq Vw decVw _ _ hn hm hs
  simpa using this
end
/-- THE TOKENS, by what all runs of ticks leave -/
def sinceR (own : List Int) (t : Int) : Nat := own.countP (fun x => decide (t ≤ x))
def tokR (c : Cf) (now : Int) (own : List Int) : Int :=
  own.foldl (fun n t => if c.bu + (now - t) * c.ra - sinceR own t < n then c.bu + (now - t) * c.ra - sinceR own t else n) (c.bu - sinceR own now)
theorem qr_iff (B R now : Int) : ∀ (r : List Int) (k : Int), Qr B R now (r.map fun t => (t, true)) k ↔ ∀ (i : Nat) (t : Int), r[i]? = some t → k + i + 1 ≤ B + R * (now - t)
  | [], k => by simp [Qr]
  | x :: r, k => by
    have ih := qr_iff B R now r (k + 1)
    show ((if true = true then k + 1 else k) ≤ B + R * (now - x) ∧ Qr B R now (r.map fun t => (t, true)) (if true = true then k + 1 else k)) ↔ _
    simp only [if_true]
    rw [ih]
    constructor
    · rintro ⟨h1, h2⟩ i t ht
      cases i with
      | zero => simp at ht; subst ht; simpa using h1
      | succ i =>
        have := h2 i t (by simpa using ht)
        simp only [Int.natCast_add, Int.cast_ofNat_Int]
        omega
    · intro h
      refine ⟨by have := h 0 x (by simp); simpa using this, fun i t ht => ?_⟩
      have := h (i + 1) t (by simpa using ht)
      simp only [Int.natCast_add, Int.cast_ofNat_Int] at this
      omega
theorem foldl_min {α : Type} (f : α → Int) : ∀ (l : List α) (n k : Int), k ≤ l.foldl (fun n t => if f t < n then f t else n) n ↔ k ≤ n ∧ ∀ t ∈ l, k ≤ f t
  | [], n, k => by simp
  | x :: l, n, k => by
    rw [List.foldl_cons, foldl_min f l]
    constructor
    · rintro ⟨h1, h2⟩
      split at h1
      · exact ⟨by omega, fun t ht => by rcases List.mem_cons.1 ht with e | e; subst e; exact h1; exact h2 t e⟩
      · exact ⟨h1, fun t ht => by rcases List.mem_cons.1 ht with e | e; subst e; omega; exact h2 t e⟩
    · rintro ⟨h1, h2⟩
      refine ⟨?_, fun t ht => h2 t (List.mem_cons_of_mem _ ht)⟩
      have := h2 x List.mem_cons_self
      split <;> omega
/-- in a falling list the places of what is not below t are the first ones -/
theorem count_fall : ∀ (r : List Int) (t : Int), r.Pairwise (fun a b => b ≤ a) → ∀ i x, r[i]? = some x → (t ≤ x ↔ i < r.countP (fun y => decide (t ≤ y)))
  | [], t, _, i, x, h => by simp at h
  | y :: r, t, hp, i, x, h => by
    have hy := List.pairwise_cons.1 hp
    rw [List.countP_cons]
    cases i with
    | zero =>
      simp at h
      subst h
      by_cases q : t ≤ y
      · simp [q]
      · simp only [q, decide_false, Bool.false_eq_true, if_false, false_iff]
        have : r.countP (fun y => decide (t ≤ y)) = 0 := by
          rw [List.countP_eq_zero]
          intro z hz
          have := hy.1 z hz
          simp; omega
        omega
    | succ i =>
      have h' : r[i]? = some x := by simpa using h
      have ih := count_fall r t hy.2 i x h'
      have hx : x ≤ y := hy.1 x (List.mem_of_getElem? h')
      by_cases q : t ≤ y
      · simp only [q, decide_true, if_true]
        rw [ih]; omega
      · simp only [q, decide_false, Bool.false_eq_true, if_false]
        rw [ih]; omega
theorem countP_rev (f : Int → Bool) (l : List Int) : l.reverse.countP f = l.countP f := by simp
/-- what the document says the tokens are is what they are by refilling -/
theorem tok_eq {c : Cf} {now tk : Int} {own : List Int} (hr : 0 ≤ c.ra) (hs : own.Pairwise (fun a b => a ≤ b)) (hn : ∀ t ∈ own, t ≤ now) (I : Inv c.bu c.ra now (own.reverse.map fun t => (t, true)) tk) : tokR c now own = tk := by
  have hfall : own.reverse.Pairwise (fun a b => b ≤ a) := List.pairwise_reverse.2 hs
  have key : ∀ k, k ≤ tokR c now own ↔ k ≤ tk := fun k => by
    rw [I k]
    unfold tokR
    rw [foldl_min (fun t => c.bu + (now - t) * c.ra - (sinceR own t : Int)), qr_iff]
    have hsr : ∀ t, sinceR own t = own.reverse.countP (fun y => decide (t ≤ y)) := fun t => (countP_rev _ _).symm
    constructor
    · rintro ⟨h1, h2⟩
      refine ⟨by omega, fun i t ht => ?_⟩
      have hm : t ∈ own := by have := List.mem_of_getElem? ht; simpa using this
      have h3 := h2 t hm
      have h4 := (count_fall own.reverse t hfall i t ht).1 (Int.le_refl _)
      rw [← hsr] at h4
      have e : (now - t) * c.ra = c.ra * (now - t) := Int.mul_comm _ _
      omega
    · rintro ⟨h1, h2⟩
      have main : ∀ t ∈ own, k ≤ c.bu + (now - t) * c.ra - (sinceR own t : Int) := fun t hm => by
        obtain ⟨i, hi⟩ := List.getElem?_of_mem (List.mem_reverse.2 hm)
        have h4 := (count_fall own.reverse t hfall i t hi).1 (Int.le_refl _)
        have hle : sinceR own t ≤ own.reverse.length := by rw [hsr]; exact List.countP_le_length
        rw [← hsr] at h4
        have hj : sinceR own t - 1 < own.reverse.length := by omega
        have hx : own.reverse[sinceR own t - 1]? = some (own.reverse[sinceR own t - 1]) := List.getElem?_eq_getElem hj
        have h5 := (count_fall own.reverse t hfall _ _ hx).2 (by rw [← hsr]; omega)
        have h6 : own.reverse[sinceR own t - 1] ≤ t := by
          by_cases e : i = sinceR own t - 1
          · rw [e, hx] at hi; exact Int.le_of_eq (Option.some.inj hi)
          · have hp := List.pairwise_iff_getElem.1 hfall
            obtain ⟨l1, e1⟩ := List.getElem?_eq_some_iff.1 hi
            have := hp i (sinceR own t - 1) l1 hj (by omega)
            rw [e1] at this
            exact this
        have h7 : own.reverse[sinceR own t - 1] = t := by omega
        have h8 := h2 _ _ hx
        rw [h7] at h8
        have e : (now - t) * c.ra = c.ra * (now - t) := Int.mul_comm _ _
        omega
      refine ⟨?_, main⟩
      by_cases q : ∃ t ∈ own, t = now
      · obtain ⟨t, ht, rfl⟩ := q
        have := main t ht
        rw [Int.sub_self, Int.zero_mul] at this
        omega
      · have : sinceR own now = 0 := by
          unfold sinceR
          rw [List.countP_eq_zero]
          intro x hx
          have h3 := hn x hx
          have h4 : ¬ x = now := fun e => q ⟨x, hx, e⟩
          simp; omega
        rw [this]; simpa using h1
  have h1 := (key tk).2 (Int.le_refl _)
  have h2 := (key (tokR c now own)).1 (Int.le_refl _)
  omega
end Go.Proofs.YthiljpbodmajaabGreat
namespace Go.Proofs.YthiljpbodmajaabGreat
open Plain
set_option linter.unusedVariables false

/-- the external port for a use; 0: there is none -/
def gvP (c : Cf) (ms : List Mp) (p a q pa pp : Int) : Int :=
  match ms[ms.findIdx (·.of p a q)]? with
  | some m => if m.takes pa pp then m.ex else 0
  | none => if c.cp ≤ (ms.length : Int) then 0 else if c.lo ≤ q ∧ q ≤ c.hi ∧ ms[ms.findIdx (·.has p q)]? = none then q else if gap p ms c.lo ≤ c.hi then gap p ms c.lo else 0
theorem fidx_lt_iff {f : Mp → Bool} {ms : List Mp} : fidx f ms < 0 ↔ ms[ms.findIdx f]? = none := by
  constructor
  · intro h
    cases k : ms[ms.findIdx f]? with
    | none => rfl
    | some m => have := fidx_at k; omega
  · intro h
    have := fidx_out h
    omega
theorem gvP_none {c : Cf} {ms : List Mp} {p a q pa pp i : Int} (h : use c ms p a q pa pp i = none) : gvP c ms p a q pa pp = 0 := by
  unfold use at h
  unfold gvP
  simp only [] at h
  cases hm : ms[ms.findIdx (·.of p a q)]? with
  | some m =>
    rw [hm] at h
    simp only [] at h ⊢
    split at h
    · cases h
    · rename_i k; rw [if_neg k]
  | none =>
    rw [hm] at h
    simp only [] at h ⊢
    split at h
    · rename_i k
      by_cases k1 : c.cp ≤ (ms.length : Int)
      · rw [if_pos k1]
      · rw [if_neg k1]
        have k2 : c.hi < chs c ms p q := by rcases k with k | k; exact absurd k k1; exact k
        unfold chs at k2
        by_cases k3 : c.lo ≤ q ∧ q ≤ c.hi ∧ ms[ms.findIdx (·.has p q)]? = none
        · rw [if_pos ⟨k3.1, k3.2.1, fidx_lt_iff.2 k3.2.2⟩] at k2
          omega
        · rw [if_neg (fun z => k3 ⟨z.1, z.2.1, fidx_lt_iff.1 z.2.2⟩)] at k2
          rw [if_neg k3, if_neg (by omega)]
    · cases h
theorem gvP_some {c : Cf} {ms ms' : List Mp} {p a q pa pp i x : Int} (h : use c ms p a q pa pp i = some (x, ms')) : gvP c ms p a q pa pp = x := by
  unfold use at h
  unfold gvP
  simp only [] at h
  cases hm : ms[ms.findIdx (·.of p a q)]? with
  | some m =>
    rw [hm] at h
    simp only [] at h ⊢
    split at h
    · rename_i k
      rw [if_pos k]
      simp only [Option.some.injEq, Prod.mk.injEq] at h
      exact h.1
    · cases h
  | none =>
    rw [hm] at h
    simp only [] at h ⊢
    split at h
    · cases h
    · rename_i k
      simp only [Option.some.injEq, Prod.mk.injEq] at h
      have hx := h.1
      rw [if_neg (fun z => k (.inl z))]
      have k2 : ¬ c.hi < chs c ms p q := fun z => k (.inr z)
      unfold chs at k2 hx
      by_cases k3 : c.lo ≤ q ∧ q ≤ c.hi ∧ ms[ms.findIdx (·.has p q)]? = none
      · rw [if_pos ⟨k3.1, k3.2.1, fidx_lt_iff.2 k3.2.2⟩] at hx
        rw [if_pos k3]; exact hx
      · rw [if_neg (fun z => k3 ⟨z.1, z.2.1, fidx_lt_iff.1 z.2.2⟩)] at hx k2
        rw [if_neg k3, if_pos (by omega)]; exact hx
/-- the first free port from lo on -/
theorem gap_first {p : Int} {ms : List Mp} (S : Srt ms) {lo k : Int} (h0 : lo ≤ k) (h : ∀ j, lo ≤ j → j < k → ¬ ms[ms.findIdx (·.has p j)]? = none) (hk : ms[ms.findIdx (·.has p k)]? = none) : gap p ms lo = k := by
  obtain ⟨g1, g2⟩ := gap_free p ms lo S
  have hge := (gap_bd p ms lo).1
  by_cases e1 : gap p ms lo < k
  · exfalso
    refine h _ hge e1 ?_
    cases q : ms[ms.findIdx (·.has p (gap p ms lo))]? with
    | none => rfl
    | some m =>
      exfalso
      obtain ⟨hm, hh⟩ := fi_some q
      have hh' : m.pr = p ∧ m.ex = gap p ms lo := by simpa [Mp.has] using hh
      exact g1 m hm hh'.1 hh'.2
  · by_cases e2 : k < gap p ms lo
    · exfalso
      obtain ⟨m, hm, h1, h2⟩ := g2 k h0 e2
      have := fi_none hk m hm
      rw [show m.has p k = true by simp [Mp.has, h1, h2]] at this
      cases this
    · omega
theorem gap_over {p : Int} {ms : List Mp} (S : Srt ms) {lo hi : Int} (h : ∀ j, lo ≤ j → j ≤ hi → ¬ ms[ms.findIdx (·.has p j)]? = none) : ¬ gap p ms lo ≤ hi := fun k => by
  obtain ⟨g1, g2⟩ := gap_free p ms lo S
  refine h _ (gap_bd p ms lo).1 k ?_
  cases q : ms[ms.findIdx (·.has p (gap p ms lo))]? with
  | none => rfl
  | some m =>
    exfalso
    obtain ⟨hm, hh⟩ := fi_some q
    have hh' : m.pr = p ∧ m.ex = gap p ms lo := by simpa [Mp.has] using hh
    exact g1 m hm hh'.1 hh'.2
/-- THE TABLE: each time the least of those that are greater than the one before -/
def rnk (v : Vw) : Int := v.pr * 65536 + v.ex
def selI (r : Nat → Int) (least : Int) : Nat → Option Nat
  | 0 => none
  | k + 1 => match selI r least k with
    | none => if least < r k then some k else none
    | some a => if least < r k ∧ r k < r a then some k else some a
theorem sel_none {r : Nat → Int} {least : Int} : ∀ {n : Nat}, selI r least n = none → ∀ k, k < n → r k ≤ least
  | 0, _, k, hk => by omega
  | n + 1, h, k, hk => by
    unfold selI at h
    cases q : selI r least n with
    | some a => rw [q] at h; simp only [] at h; split at h <;> cases h
    | none =>
      rw [q] at h
      simp only [] at h
      split at h
      · cases h
      · rename_i h1
        by_cases e : k = n
        · subst e; omega
        · exact sel_none q k (by omega)
theorem sel_some {r : Nat → Int} {least : Int} : ∀ {n a : Nat}, selI r least n = some a → a < n ∧ least < r a ∧ ∀ k, k < n → least < r k → r a ≤ r k
  | 0, a, h => by simp [selI] at h
  | n + 1, a, h => by
    unfold selI at h
    cases q : selI r least n with
    | none =>
      rw [q] at h
      simp only [] at h
      split at h
      · rename_i h1
        simp only [Option.some.injEq] at h
        subst h
        refine ⟨by omega, h1, fun k hk hl => ?_⟩
        by_cases e : k = n
        · subst e; exact Int.le_refl _
        · have := sel_none q k (by omega); omega
      · cases h
    | some b =>
      obtain ⟨i1, i2, i3⟩ := sel_some q
      rw [q] at h
      simp only [] at h
      split at h
      · rename_i h1
        simp only [Option.some.injEq] at h
        subst h
        refine ⟨by omega, h1.1, fun k hk hl => ?_⟩
        by_cases e : k = n
        · subst e; exact Int.le_refl _
        · have := i3 k (by omega) hl; omega
      · rename_i h1
        simp only [Option.some.injEq] at h
        subst h
        refine ⟨by omega, i2, fun k hk hl => ?_⟩
        by_cases e : k = n
        · subst e; omega
        · exact i3 k (by omega) hl
/-- the next one is the next of the table -/
theorem sel_next {live TB : List Vw} (hm : ∀ v, v ∈ live ↔ v ∈ TB) (hr : TB.Pairwise (fun a b => rnk a < rnk b)) {j : Nat} {v : Vw} (hj : TB[j]? = some v) {least : Int} (h1 : ∀ i w, i < j → TB[i]? = some w → rnk w ≤ least) (h2 : ∀ i w, j ≤ i → TB[i]? = some w → least < rnk w) :
    ∃ a, selI (fun k => match live[k]? with | some v => rnk v | none => 0) least live.length = some a ∧ live[a]? = some v := by
  have hp := List.pairwise_iff_getElem.1 hr
  have hv : v ∈ live := (hm v).2 (List.mem_of_getElem? hj)
  obtain ⟨b, hb⟩ := List.getElem?_of_mem hv
  have hbl : b < live.length := (List.getElem?_eq_some_iff.1 hb).1
  cases q : selI (fun k => match live[k]? with | some v => rnk v | none => 0) least live.length with
  | none =>
    exfalso
    have := sel_none q b hbl
    simp only [hb] at this
    have := h2 j v (Nat.le_refl _) hj
    omega
  | some a =>
    refine ⟨a, rfl, ?_⟩
    obtain ⟨s1, s2, s3⟩ := sel_some q
    have ha : live[a]? = some live[a] := List.getElem?_eq_getElem s1
    simp only [ha] at s2
    have s4 := s3 b hbl (by simp only [hb]; exact h2 j v (Nat.le_refl _) hj)
    simp only [ha, hb] at s4
    obtain ⟨i, hi⟩ := List.getElem?_of_mem ((hm live[a]).1 (List.mem_of_getElem? ha))
    rw [ha]
    congr 1
    by_cases e : i = j
    · subst e; rw [hi] at hj; exact Option.some.inj hj
    · exfalso
      obtain ⟨l1, e1⟩ := List.getElem?_eq_some_iff.1 hi
      obtain ⟨l2, e2⟩ := List.getElem?_eq_some_iff.1 hj
      by_cases k : i < j
      · have := h1 i _ k hi; omega
      · have := hp j i l2 l1 (by omega)
        rw [e1, e2] at this
        omega
theorem srt_rnk {c : Cf} {ms : List Mp} (S : Srt ms) (K : Tok c ms) : (ms.map Mp.vw).Pairwise (fun a b => rnk a < rnk b) := by
  rw [List.pairwise_map]
  refine List.Pairwise.imp_of_mem (fun {a b} ha hb h => ?_) S
  have A := K.all a ha
  have B := K.all b hb
  have := A.x1; have := A.x2; have := B.x1; have := B.x2
  unfold lt2 at h
  unfold rnk Mp.vw
  simp only []
  omega
end Go.Proofs.YthiljpbodmajaabGreat
