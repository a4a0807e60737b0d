/-
  THE BOX BY A PLAIN MODEL: error messages that are carried, and Frame whole.
-/
import Derived.Test.YthiljpbodmajaabGreatMsgi
import Derived.Test.YthiljpbodmajaabGreatBoxa
namespace Go.Proofs.YthiljpbodmajaabGreat
open Go.RowKit Plain
set_option linter.unusedVariables false

/-- what holds of a quote -/
structure Qok (q : ByteArray) : Prop where
  n64 : q.size ≤ 65535
  n28 : 28 ≤ q.size
  h20 : 20 ≤ hdv q
  h8 : hdv q + 8 ≤ q.size
  pr : bt q 9 = 17 ∨ bt q 9 = 6 ∨ bt q 9 = 1
theorem chk_quote {s : ByteArray} (hk : chk s = 0) (he : isErr s = true) : Qok (quo s) ∧ (quo s).size = (bdy s).size - 8 ∧ bt s 9 = 1 := by
  have S := chk_sok hk
  have h8 := chk_b8 hk
  have h9 : bt s 9 = 1 ∧ errB (bt s (hdv s)) = true := by unfold isErr at he; simpa using he
  have hz : (quo s).size = (bdy s).size - 8 := by unfold quo; rw [prt_size]; omega
  have hb := bdy_size S.fit
  have hn := S.fit.n64
  have ht := S.fit.tn
  have hh20 := S.fit.h20
  have hh := chk_hdrv hk
  have hi : icv (bdy s) = 0 := by
    unfold chk at hk
    rw [if_pos hh, if_neg (by omega), if_neg (by omega), if_pos h9.1] at hk
    exact hk
  have hq : quotev (quo s) = 0 := by
    unfold icv icase at hi
    rw [if_neg (by omega)] at hi
    split at hi
    · omega
    · rw [bdy_bt0 S.fit h8, if_pos h9.2] at hi
      exact hi
  unfold quotev qcase at hq
  split at hq
  · rename_i c
    split at hq
    · omega
    · refine ⟨⟨by omega, by omega, c.2.2.1, c.2.2.2, ?_⟩, hz, h9.1⟩
      by_cases e17 : bt (quo s) 9 = 17
      · exact .inl e17
      · by_cases e6 : bt (quo s) 9 = 6
        · exact .inr (.inl e6)
        · by_cases e1 : bt (quo s) 9 = 1
          · exact .inr (.inr e1)
          · simp [e17, e6, e1] at hq
  · omega
theorem quote_any (s : ByteArray) (hk : chk s = 0) : Ret 116 #[.string s] (.string (quo s)) := fun w => by
  have S := chk_sok hk
  have h8 := chk_b8 hk
  have hb := bdy_size S.fit
  have hn := S.fit.n64
  have ht := S.fit.tn
  have hh20 := S.fit.h20
  exact quote_core s (bdy s) (quo s) w (by omega) (fun w => body_fits s w S.fit) (fun w => octPart_in (bdy s) 8 _ w (by decide) (by omega) (by omega))
theorem wsrc_raw (s : ByteArray) (a p : Int) (n20 : 20 ≤ s.size) (n64 : s.size ≤ 65535) (hp : ppl s 0 + 2 ≤ s.size) (a0 : 0 ≤ a) (a1 : a < 4294967296) (p0 : 0 ≤ p) (p1 : p < 65536) :
    RetB 121 #[.string s, .agg #[.int .i64 a, .int .i64 p]] (.string (wsrc s a p)) := fun w => by
  have z1 : (put s 12 (l4 a)).size = s.size := put_size s 12 _ (by decide) (by rw [l4_size]; omega)
  have e1 : ppl (put s 12 (l4 a)) 0 = ppl s 0 := by
    unfold ppl; rw [hdv_put (by decide) (by rw [l4_size]; omega), bt_put_off (by decide) (by rw [l4_size]; omega) (by omega)]
  have hpp := ppl_bd s 0 (by decide) (by decide)
  exact wsrc_core s (put s 12 (l4 a)) _ a p (ppl (put s 12 (l4 a)) 0) w (wsa_any s a (by omega) n64 a0 a1) (fun w => portPlace_any _ 0 w (size_le (by omega)) (by decide) (by decide))
    (fun w => putWord_in _ _ p w (by omega) (by omega) (by omega) p0 p1)
theorem wdst_raw (s : ByteArray) (a p : Int) (n20 : 20 ≤ s.size) (n64 : s.size ≤ 65535) (hp : ppl s 2 + 2 ≤ s.size) (a0 : 0 ≤ a) (a1 : a < 4294967296) (p0 : 0 ≤ p) (p1 : p < 65536) :
    RetB 86 #[.string s, .agg #[.int .i64 a, .int .i64 p]] (.string (wdst s a p)) := fun w => by
  have z1 : (put s 16 (l4 a)).size = s.size := put_size s 16 _ (by decide) (by rw [l4_size]; omega)
  have e1 : ppl (put s 16 (l4 a)) 2 = ppl s 2 := by
    unfold ppl; rw [hdv_put (by decide) (by rw [l4_size]; omega), bt_put_off (by decide) (by rw [l4_size]; omega) (by omega)]
  have hpp := ppl_bd s 2 (by decide) (by decide)
  exact wdst_core s (put s 16 (l4 a)) _ a p (ppl (put s 16 (l4 a)) 2) w (wda_any s a (by omega) n64 a0 a1) (fun w => portPlace_any _ 2 w (size_le (by omega)) (by decide) (by decide))
    (fun w => putWord_in _ _ p w (by omega) (by omega) (by omega) p0 p1)
theorem Qok.pp {q : ByteArray} (Q : Qok q) (k : Int) (k0 : 0 ≤ k) (k1 : k ≤ 4) : ppl q k + 2 ≤ q.size ∧ 20 ≤ ppl q k := by
  have := Q.h8; have := Q.h20
  unfold ppl; split <;> omega
/-- a quote with another source is one -/
theorem Qok.src {q : ByteArray} (Q : Qok q) (a x : Int) : Qok (wsrc q a x) ∧ (wsrc q a x).size = q.size := by
  have n28 := Q.n28
  have pp := Q.pp 0 (by decide) (by decide)
  have z1 : (put q 12 (l4 a)).size = q.size := put_size q 12 _ (by decide) (by rw [l4_size]; omega)
  have h1 : hdv (put q 12 (l4 a)) = hdv q := hdv_put (by decide) (by rw [l4_size]; omega)
  have g9 : bt (put q 12 (l4 a)) 9 = bt q 9 := bt_put_off (by decide) (by rw [l4_size]; omega) (by omega)
  have p1 : ppl (put q 12 (l4 a)) 0 = ppl q 0 := by unfold ppl; rw [h1, g9]
  have z2 : (wsrc q a x).size = q.size := by unfold Plain.wsrc; rw [p1, put_size _ _ _ (by omega) (by rw [w2_size, z1]; omega), z1]
  have h2 : hdv (wsrc q a x) = hdv q := by unfold Plain.wsrc; rw [p1, hdv_put (by omega) (by rw [w2_size, z1]; omega), h1]
  have g2 : bt (wsrc q a x) 9 = bt q 9 := by unfold Plain.wsrc; rw [p1, bt_put_off (by omega) (by rw [w2_size, z1]; omega) (by omega), g9]
  exact ⟨⟨by rw [z2]; exact Q.n64, by rw [z2]; exact n28, by rw [h2]; exact Q.h20, by rw [h2, z2]; exact Q.h8, by rw [g2]; exact Q.pr⟩, z2⟩
theorem Qok.dst {q : ByteArray} (Q : Qok q) (a x : Int) : Qok (wdst q a x) ∧ (wdst q a x).size = q.size := by
  have n28 := Q.n28
  have pp := Q.pp 2 (by decide) (by decide)
  have z1 : (put q 16 (l4 a)).size = q.size := put_size q 16 _ (by decide) (by rw [l4_size]; omega)
  have h1 : hdv (put q 16 (l4 a)) = hdv q := hdv_put (by decide) (by rw [l4_size]; omega)
  have g9 : bt (put q 16 (l4 a)) 9 = bt q 9 := bt_put_off (by decide) (by rw [l4_size]; omega) (by omega)
  have p1 : ppl (put q 16 (l4 a)) 2 = ppl q 2 := by unfold ppl; rw [h1, g9]
  have z2 : (wdst q a x).size = q.size := by unfold Plain.wdst; rw [p1, put_size _ _ _ (by omega) (by rw [w2_size, z1]; omega), z1]
  have h2 : hdv (wdst q a x) = hdv q := by unfold Plain.wdst; rw [p1, hdv_put (by omega) (by rw [w2_size, z1]; omega), h1]
  have g2 : bt (wdst q a x) 9 = bt q 9 := by unfold Plain.wdst; rw [p1, bt_put_off (by omega) (by rw [w2_size, z1]; omega) (by omega), g9]
  exact ⟨⟨by rw [z2]; exact Q.n64, by rw [z2]; exact n28, by rw [h2]; exact Q.h20, by rw [h2, z2]; exact Q.h8, by rw [g2]; exact Q.pr⟩, z2⟩
theorem fxh_ok {q : ByteArray} (b : ByteArray) (Q : Qok q) : Qok (fxh b q) ∧ (fxh b q).size = q.size := by
  have n28 := Q.n28
  have z : (fxh b q).size = q.size := by unfold fxh; exact put_size q 10 _ (by decide) (by rw [w2_size]; omega)
  have h : hdv (fxh b q) = hdv q := by unfold fxh; exact hdv_put (by decide) (by rw [w2_size]; omega)
  have g : bt (fxh b q) 9 = bt q 9 := by unfold fxh; exact bt_put_off (by decide) (by rw [w2_size]; omega) (by omega)
  exact ⟨⟨by rw [z]; exact Q.n64, by rw [z]; exact n28, by rw [h]; exact Q.h20, by rw [h, z]; exact Q.h8, by rw [g]; exact Q.pr⟩, z⟩
theorem fxb_size (b q : ByteArray) : (fxb b q).size = q.size := by
  have := spl_bd q
  unfold fxb
  split
  · exact put_size q _ _ this.1 (by rw [w2_size]; omega)
  · rfl
theorem withQuote_any (s q : ByteArray) (S : Sok s) (h8 : 8 ≤ (bdy s).size) (cQ : Ret 116 #[.string s] (.string (quo s))) (Q0 : Qok (quo s)) (Q : Qok q) (hz : q.size = (quo s).size) (hq : (quo s).size = (bdy s).size - 8) :
    RetB 120 #[.string s, .string q] (.string (wqu s q)) ∧ (fxb (quo s) (fxh (quo s) q)).size = (bdy s).size - 8 := by
  have F := S.fit
  have hd := hdv_bd s
  have hb := bdy_size F
  have ht := F.tn
  have hn := F.n64
  have X := fxh_ok (quo s) Q
  have zB := fxb_size (quo s) (fxh (quo s) q)
  refine ⟨fun w => ?_, by rw [zB, X.2, hz, hq]⟩
  have c1 : RetB 174 #[.string (quo s), .string q] (.string (fxh (quo s) q)) := fixedHeader_any (quo s) q Q0.n64 Q.n64 (by have := Q.n28; omega)
  have c2 : RetB 175 #[.string (quo s), .string (fxh (quo s) q)] (.string (fxb (quo s) (fxh (quo s) q))) := fixedBody_any (quo s) (fxh (quo s) q) Q0.n64 X.1.n64 X.1.pr
  have e : wqu s q = prt s 0 (hdv s + 8) ++ fxb (quo s) (fxh (quo s) q) ++ prt s (hdv s + 8 + ((fxb (quo s) (fxh (quo s) q)).size : Int)) s.size := rfl
  rw [e]
  have hlen : ((fxb (quo s) (fxh (quo s) q)).size : Int) = (bdy s).size - 8 := by rw [zB, X.2, hz, hq]; omega
  have hle : (fxb (quo s) (fxh (quo s) q)).size ≤ 65535 := by omega
  generalize fxb (quo s) (fxh (quo s) q) = q2 at c2 hlen hle ⊢
  exact withQuote_core s (quo s) q (fxh (quo s) q) q2 _ _ (hdv s) (hdv s + 8 + (q2.size : Int)) w hd.1 hd.2 hn hle (by rw [prt_size]; omega) (by rw [prt_size]; omega) rfl cQ c1 c2 (fun w => headerLength_any s w (size_le hn)) (fun w => octPart_in s 0 _ w (by decide) (by omega) (by omega)) (fun w => octPart_in s _ _ w (by omega) (by omega) (by omega))
theorem prt_put_off {s t : ByteArray} {i a b : Int} (h0 : 0 ≤ i) (h1 : i + (t.size : Int) ≤ s.size) (h : i + (t.size : Int) ≤ a) : prt (put s i t) a b = prt s a b := by
  have hz := put_size s i t h0 h1
  apply bt_ext
  · rw [prt_size, prt_size, hz]
  · intro k hk
    rw [prt_size] at hk
    rw [bt_prt _ _ _ _ (by omega) (by omega) (by omega), bt_prt _ _ _ _ (by omega) (by omega) (by omega), bt_put_off h0 h1 (by omega)]
/-- a message with other addresses is one, with the same quote -/
theorem msg_put {s t : ByteArray} {i : Int} (S : Sok s) (h9 : bt s 9 = 1) (h8 : 8 ≤ (bdy s).size) (hi : i = 12 ∨ i = 16) (ht : t.size = 4) : Sok (put s i t) ∧ bt (put s i t) 9 = 1 ∧ bt (put s i t) 8 = bt s 8 ∧ (bdy (put s i t)).size = (bdy s).size ∧ quo (put s i t) = quo s ∧ (put s i t).size = s.size := by
  have F := S.fit
  have n20 := F.n20
  have h20 := F.h20
  have hle : i + (t.size : Int) ≤ s.size := by omega
  have z : (put s i t).size = s.size := put_size s i t (by omega) hle
  have hh : hdv (put s i t) = hdv s := hdv_put (by omega) hle
  have hw : wd (put s i t) 2 = wd s 2 := wd_put_off (by omega) hle (by omega)
  have hb : bdy (put s i t) = bdy s := by
    unfold bdy
    rw [hh, hw]
    apply prt_put_off
    · omega
    · exact hle
    · omega
  exact ⟨sok_put S (by omega) hle (by omega) (fun e => by omega), by rw [bt_put_off (by omega) hle (by omega)]; exact h9, bt_put_off (by omega) hle (by omega), by rw [hb], by unfold quo; rw [hb], z⟩
/-- a message with another quote can be sent -/
theorem wqu_ok {s q : ByteArray} (S : Sok s) (h9 : bt s 9 = 1) (h8 : 8 ≤ (bdy s).size) (hz : (fxb (quo s) (fxh (quo s) q)).size = (bdy s).size - 8) : Sok (wqu s q) ∧ bt (wqu s q) 9 = 1 ∧ bt (wqu s q) 8 = bt s 8 := by
  have F := S.fit
  have h20 := F.h20
  have hb := bdy_size F
  have ht := F.tn
  have hle : hdv s + 8 + ((fxb (quo s) (fxh (quo s) q)).size : Int) ≤ s.size := by omega
  unfold wqu
  exact ⟨sok_put S (by omega) hle (by omega) (fun e => by omega), by rw [bt_put_off (by omega) hle (by omega)]; exact h9, bt_put_off (by omega) hle (by omega)⟩
/-- the mapping from which a quoted frame has gone to a peer -/
def sndM (c : Cf) (ms : List Mp) (q : ByteArray) (pa pp : Int) : Option Mp :=
  if lg q 12 = c.oa then
    match ms[ms.findIdx (·.has (bt q 9) (wd q (ppl q 0)))]? with
    | some m => if m.knows pa pp then some m else none
    | none => none
  else none
/-- the mapping to whose endpoint a quoted frame has come -/
def rcvM (ms : List Mp) (q : ByteArray) : Option Mp := ms[ms.findIdx (·.of (bt q 9) (lg q 16) (wd q (ppl q 2)))]?
theorem sndM_ok {c : Cf} {ms : List Mp} {q : ByteArray} {pa pp : Int} {m : Mp} (K : Tok c ms) (h : sndM c ms q pa pp = some m) : Mok m := by
  unfold sndM at h
  split at h
  · split at h
    · rename_i m' hm
      split at h
      · cases h; exact K.at hm
      · cases h
    · cases h
  · cases h
def mInR (c : Cf) (tk : Int) (ms : List Mp) (s : ByteArray) : Rp :=
  match sndM c ms (quo s) (lg (quo s) 16) (ppr (quo s)) with
  | none => ⟨8, 0, ⟨#[]⟩, tk, ms⟩
  | some m => if pss s c.im = 0 then ⟨0, 0, snt (wqu (put s 16 (l4 m.ea)) (wsrc (quo s) m.ea m.ep)), tk, ms⟩ else ⟨pss s c.im, 0, ⟨#[]⟩, tk, ms⟩
def mOutR (c : Cf) (tk : Int) (ms : List Mp) (s : ByteArray) : Rp :=
  match rcvM ms (quo s) with
  | none => ⟨8, 0, ⟨#[]⟩, tk, ms⟩
  | some m =>
    if lg s 16 = lg (quo s) 12 then
      if pss s c.om = 0 then ⟨0, 1, snt (wqu (put s 12 (l4 c.oa)) (wdst (quo s) c.oa m.ex)), tk, ms⟩ else ⟨pss s c.om, 0, ⟨#[]⟩, tk, ms⟩
    else ⟨8, 0, ⟨#[]⟩, tk, ms⟩
def mBackR (c : Cf) (tk : Int) (ms : List Mp) (s : ByteArray) : Rp :=
  if bt (quo s) 9 = 1 then ⟨8, 0, ⟨#[]⟩, tk, ms⟩
  else match rcvM ms (quo s) with
    | none => ⟨8, 0, ⟨#[]⟩, tk, ms⟩
    | some r =>
      match sndM c ms (quo s) c.oa r.ex with
      | none => ⟨8, 0, ⟨#[]⟩, tk, ms⟩
      | some m => if pss s c.im = 0 then ⟨0, 0, snt (wqu (put (put s 12 (l4 c.oa)) 16 (l4 m.ea)) (wsrc (wdst (quo s) c.oa r.ex) m.ea m.ep)), tk, ms⟩ else ⟨pss s c.im, 0, ⟨#[]⟩, tk, ms⟩
/-- the answer to an error message -/
def msgR (c : Cf) (tk : Int) (ms : List Mp) (d : Int) (s : ByteArray) : Rp := if d = 1 then mInR c tk ms s else if lg s 16 = c.oa then mBackR c tk ms s else mOutR c tk ms s
/-- THE ANSWER to a frame -/
def frR (c : Cf) (tk : Int) (ms : List Mp) (d : Int) (s : ByteArray) : Rp :=
  if exam c d s = 0 then if isErr s then msgR c tk ms d s else goR c tk ms d s else ⟨exam c d s, 0, ⟨#[]⟩, tk, ms⟩
section
variable {w : World} {base b : Nat} {c : Cf} {tk ti : Int} {v : Value} {ms : List Mp}
theorem bsender_none (T : Bat w base b c tk ti v ms) (hz : ms.length ≤ 64) (q : ByteArray) (hl : q.size ≤ maxLen) (pa pp : Int) (h : sndM c ms q pa pp = none) :
    Calls Tryz.prog 117 #[.pointer (some ⟨b, 0, none⟩), .string q, .agg #[.int .i64 pa, .int .i64 pp]] w fun e w' => e = .returned (.tuple #[.agg #[.int .i64 0, .int .i64 0], .bool false]) ∧ Below w.heap.size w w' := by
  have cS := fun w => source2_any q w hl
  by_cases h1 : lg q 12 = c.oa
  · rw [h1] at cS
    refine bsender_in b q pa pp (wd q (ppl q 0)) c.oa (bt q 9) 0 0 false T.lt (T.at 1 rfl) cS (fun w => protocol_any q w hl) (fun wx hx => ?_)
    unfold sndM at h
    rw [if_pos h1] at h
    split at h
    · rename_i m hm
      split at h
      · cases h
      · rename_i hk
        rw [Bool.not_eq_true] at hk
        have := sender_at (T.below hx) hz _ m (bt q 9) (wd q (ppl q 0)) pa pp (fidx_at hm) hm false hk
        exact this
    · rename_i hm
      exact sender_no (T.below hx) hz (bt q 9) (wd q (ppl q 0)) pa pp (fidx_out hm)
  · exact bsender_out b q pa pp (lg q 12) (wd q (ppl q 0)) c.oa T.lt (T.at 1 rfl) cS (by simpa using h1)
theorem bsender_some (T : Bat w base b c tk ti v ms) (hz : ms.length ≤ 64) (q : ByteArray) (hl : q.size ≤ maxLen) (pa pp : Int) (m : Mp) (h : sndM c ms q pa pp = some m) :
    Calls Tryz.prog 117 #[.pointer (some ⟨b, 0, none⟩), .string q, .agg #[.int .i64 pa, .int .i64 pp]] w fun e w' => e = .returned (.tuple #[.agg #[.int .i64 m.ea, .int .i64 m.ep], .bool true]) ∧ Below w.heap.size w w' := by
  have cS := fun w => source2_any q w hl
  unfold sndM at h
  split at h
  · rename_i h1
    rw [h1] at cS
    refine bsender_in b q pa pp (wd q (ppl q 0)) c.oa (bt q 9) m.ea m.ep true T.lt (T.at 1 rfl) cS (fun w => protocol_any q w hl) (fun wx hx => ?_)
    split at h
    · rename_i m' hm
      split at h
      · rename_i hk
        cases h
        exact sender_at (T.below hx) hz _ m (bt q 9) (wd q (ppl q 0)) pa pp (fidx_at hm) hm true hk
      · cases h
    · cases h
  · cases h
theorem receiver_none (T : Bat w base b c tk ti v ms) (hz : ms.length ≤ 64) (q : ByteArray) (hl : q.size ≤ maxLen) (h : rcvM ms q = none) :
    Calls Tryz.prog 122 #[.pointer (some ⟨b, 0, none⟩), .string q] w fun e w' => e = .returned (.tuple #[.agg #[.int .i64 c.oa, .int .i64 0], .bool false]) ∧ Below w.heap.size w w' :=
  receiver_core b q (lg q 16) (wd q (ppl q 2)) c.oa (bt q 9) 0 false T.lt (T.at 1 rfl) (fun w => dest2_any q w hl) (fun w => protocol_any q w hl) (fun wx hx => external_no (T.below hx) hz (bt q 9) (lg q 16) (wd q (ppl q 2)) (fidx_out h))
theorem receiver_some (T : Bat w base b c tk ti v ms) (hz : ms.length ≤ 64) (q : ByteArray) (hl : q.size ≤ maxLen) (m : Mp) (h : rcvM ms q = some m) :
    Calls Tryz.prog 122 #[.pointer (some ⟨b, 0, none⟩), .string q] w fun e w' => e = .returned (.tuple #[.agg #[.int .i64 c.oa, .int .i64 m.ex], .bool true]) ∧ Below w.heap.size w w' :=
  receiver_core b q (lg q 16) (wd q (ppl q 2)) c.oa (bt q 9) m.ex true T.lt (T.at 1 rfl) (fun w => dest2_any q w hl) (fun w => protocol_any q w hl) (fun wx hx => external_yes (T.below hx) hz _ m (bt q 9) (lg q 16) (wd q (ppl q 2)) (fidx_at h) h)
theorem mIn_all (T : Bat w base b c tk ti v ms) (G : c.ok = true) (K : Tok c ms) (s : ByteArray) (hk : chk s = 0) (he : isErr s = true) :
    Calls Tryz.prog 80 #[.pointer (some ⟨b, 0, none⟩), .string s] w fun e w' => e = .returned (mInR c tk ms s).val ∧ Below w.heap.size w w' := by
  have C := cok_of G
  have S := chk_sok hk
  have h8 := chk_b8 hk
  obtain ⟨Q, hq, h9⟩ := chk_quote hk he
  have cQ := quote_any s hk
  have hl : s.size ≤ maxLen := size_le S.fit.n64
  have hlq : (quo s).size ≤ maxLen := size_le Q.n64
  have hM := passes_any s hl c.im
  have hz : ms.length ≤ 64 := by have := K.len; have := C.c2; omega
  have cP : RetB 118 #[.string (quo s)] (.agg #[.int .i64 (lg (quo s) 16), .int .i64 (ppr (quo s))]) := fun w => peer_any (quo s) w hlq
  unfold mInR
  cases hs : sndM c ms (quo s) (lg (quo s) 16) (ppr (quo s)) with
  | none =>
    simp only [Rp.val]
    exact msgIn_none b s (quo s) T.lt _ _ 0 0 c.im (T.at 5 rfl) cQ cP (fun wx hx => bsender_none (T.below hx) hz _ hlq _ _ hs)
  | some m =>
    have M := sndM_ok K hs
    simp only
    by_cases hp : pss s c.im = 0
    · rw [if_pos hp]
      rw [hp] at hM
      obtain ⟨S1, i9, i8, ib, iq, iz⟩ := msg_put S h9 h8 (i := 16) (.inr rfl) (l4_size m.ea)
      obtain ⟨Q1, zq⟩ := Q.src m.ea m.ep
      have cQ1 : Ret 116 #[.string (put s 16 (l4 m.ea))] (.string (quo (put s 16 (l4 m.ea)))) := fun w => by
        have hb := bdy_size S1.fit
        have hn := S1.fit.n64
        have ht := S1.fit.tn; have hh20 := S1.fit.h20
        exact quote_core _ (bdy (put s 16 (l4 m.ea))) _ w (by omega) (fun w => body_fits _ w S1.fit) (fun w => octPart_in _ 8 _ w (by decide) (by omega) (by omega))
      obtain ⟨c3, hw⟩ := withQuote_any (put s 16 (l4 m.ea)) (wsrc (quo s) m.ea m.ep) S1 (by omega) cQ1 (by rw [iq]; exact Q) Q1 (by rw [iq]; exact zq) (by rw [iq, ib]; exact hq)
      obtain ⟨S2, j9, j8⟩ := wqu_ok S1 i9 (by omega) hw
      have c4 : RetB 87 #[.string (wqu (put s 16 (l4 m.ea)) (wsrc (quo s) m.ea m.ep))] (.string (snt (wqu (put s 16 (l4 m.ea)) (wsrc (quo s) m.ea m.ep)))) := fun w => sent_any _ w S2 (by rw [j8, i8]; have := pss_ttl hp; omega) (.inr (.inr j9))
      have c1 := wda_any s m.ea (by have := S.fit.n20; omega) S.fit.n64 M.a0 M.a1
      have c2 := wsrc_raw (quo s) m.ea m.ep (by have := Q.n28; omega) Q.n64 (Q.pp 0 (by decide) (by decide)).1 M.a0 M.a1 M.p0 M.p1
      generalize snt (wqu (put s 16 (l4 m.ea)) (wsrc (quo s) m.ea m.ep)) = Z at c4 ⊢
      generalize wqu (put s 16 (l4 m.ea)) (wsrc (quo s) m.ea m.ep) = Y at c3 c4
      generalize put s 16 (l4 m.ea) = X at c1 c3
      generalize wsrc (quo s) m.ea m.ep = V at c2 c3
      simp only [Rp.val]
      exact msgIn_yes b s (quo s) T.lt _ _ m.ea m.ep c.im (T.at 5 rfl) cQ cP (fun wx hx => bsender_some (T.below hx) hz _ hlq _ _ m hs) hM X V Y Z c1 c2 c3 c4
    · rw [if_neg hp]
      simp only [Rp.val]
      exact msgIn_bad b s (quo s) T.lt _ _ m.ea m.ep c.im (T.at 5 rfl) cQ cP (fun wx hx => bsender_some (T.below hx) hz _ hlq _ _ m hs) (pss s c.im) (by simpa using hp) hM
theorem mOut_all (T : Bat w base b c tk ti v ms) (G : c.ok = true) (K : Tok c ms) (s : ByteArray) (hk : chk s = 0) (he : isErr s = true) :
    Calls Tryz.prog 82 #[.pointer (some ⟨b, 0, none⟩), .string s] w fun e w' => e = .returned (mOutR c tk ms s).val ∧ Below w.heap.size w w' := by
  have C := cok_of G
  have hoa := us_bd C.oa
  have S := chk_sok hk
  have h8 := chk_b8 hk
  obtain ⟨Q, hq, h9⟩ := chk_quote hk he
  have cQ := quote_any s hk
  have hl : s.size ≤ maxLen := size_le S.fit.n64
  have hlq : (quo s).size ≤ maxLen := size_le Q.n64
  have hM := passes_any s hl c.om
  have hz : ms.length ≤ 64 := by have := K.len; have := C.c2; omega
  have cD : Ret 88 #[.string s] (.int .i64 (lg s 16)) := fun w => destination_any s w hl
  have cA : Ret 111 #[.string (quo s)] (.int .i64 (lg (quo s) 12)) := fun w => source_any (quo s) w hlq
  unfold mOutR
  cases hs : rcvM ms (quo s) with
  | none =>
    simp only [Rp.val]
    exact msgOut_none b s (quo s) T.lt c.oa 0 c.om _ _ (T.at 6 rfl) (T.at 1 rfl) cQ cD cA (fun wx hx => receiver_none (T.below hx) hz _ hlq hs)
  | some m =>
    have M := K.at hs
    simp only
    by_cases he2 : lg s 16 = lg (quo s) 12
    · rw [if_pos he2]
      have hne : (lg s 16 != lg (quo s) 12) = false := by simpa using he2
      by_cases hp : pss s c.om = 0
      · rw [if_pos hp]
        rw [hp] at hM
        obtain ⟨S1, i9, i8, ib, iq, iz⟩ := msg_put S h9 h8 (i := 12) (.inl rfl) (l4_size c.oa)
        obtain ⟨Q1, zq⟩ := Q.dst c.oa m.ex
        have cQ1 : Ret 116 #[.string (put s 12 (l4 c.oa))] (.string (quo (put s 12 (l4 c.oa)))) := fun w => by
          have hb := bdy_size S1.fit
          have hn := S1.fit.n64
          have ht := S1.fit.tn; have hh20 := S1.fit.h20
          exact quote_core _ (bdy (put s 12 (l4 c.oa))) _ w (by omega) (fun w => body_fits _ w S1.fit) (fun w => octPart_in _ 8 _ w (by decide) (by omega) (by omega))
        obtain ⟨c3, hw⟩ := withQuote_any (put s 12 (l4 c.oa)) (wdst (quo s) c.oa m.ex) S1 (by omega) cQ1 (by rw [iq]; exact Q) Q1 (by rw [iq]; exact zq) (by rw [iq, ib]; exact hq)
        obtain ⟨S2, j9, j8⟩ := wqu_ok S1 i9 (by omega) hw
        have c4 : RetB 87 #[.string (wqu (put s 12 (l4 c.oa)) (wdst (quo s) c.oa m.ex))] (.string (snt (wqu (put s 12 (l4 c.oa)) (wdst (quo s) c.oa m.ex)))) := fun w => sent_any _ w S2 (by rw [j8, i8]; have := pss_ttl hp; omega) (.inr (.inr j9))
        have c1 := wsa_any s c.oa (by have := S.fit.n20; omega) S.fit.n64 hoa.1 hoa.2
        have c2 := wdst_raw (quo s) c.oa m.ex (by have := Q.n28; omega) Q.n64 (Q.pp 2 (by decide) (by decide)).1 hoa.1 hoa.2 (by have := M.x1; omega) (by have := M.x2; omega)
        generalize snt (wqu (put s 12 (l4 c.oa)) (wdst (quo s) c.oa m.ex)) = Z at c4 ⊢
        generalize wqu (put s 12 (l4 c.oa)) (wdst (quo s) c.oa m.ex) = Y at c3 c4
        generalize put s 12 (l4 c.oa) = X at c1 c3
        generalize wdst (quo s) c.oa m.ex = V at c2 c3
        simp only [Rp.val]
        exact msgOut_yes b s (quo s) T.lt c.oa m.ex c.om _ _ (T.at 6 rfl) (T.at 1 rfl) cQ cD cA (fun wx hx => receiver_some (T.below hx) hz _ hlq m hs) hne hM X V Y Z c1 c2 c3 c4
      · rw [if_neg hp]
        simp only [Rp.val]
        exact msgOut_bad b s (quo s) T.lt c.oa m.ex c.om _ _ (T.at 6 rfl) (T.at 1 rfl) cQ cD cA (fun wx hx => receiver_some (T.below hx) hz _ hlq m hs) hne (pss s c.om) (by simpa using hp) hM
    · rw [if_neg he2]
      simp only [Rp.val]
      exact msgOut_other b s (quo s) T.lt c.oa m.ex c.om _ _ (T.at 6 rfl) (T.at 1 rfl) cQ cD cA (fun wx hx => receiver_some (T.below hx) hz _ hlq m hs) (by simpa using he2)
theorem mBack_all (T : Bat w base b c tk ti v ms) (G : c.ok = true) (K : Tok c ms) (s : ByteArray) (hk : chk s = 0) (he : isErr s = true) :
    Calls Tryz.prog 81 #[.pointer (some ⟨b, 0, none⟩), .string s] w fun e w' => e = .returned (mBackR c tk ms s).val ∧ Below w.heap.size w w' := by
  have C := cok_of G
  have hoa := us_bd C.oa
  have S := chk_sok hk
  have h8 := chk_b8 hk
  obtain ⟨Q, hq, h9⟩ := chk_quote hk he
  have cQ := quote_any s hk
  have hl : s.size ≤ maxLen := size_le S.fit.n64
  have hlq : (quo s).size ≤ maxLen := size_le Q.n64
  have hM := passes_any s hl c.im
  have hz : ms.length ≤ 64 := by have := K.len; have := C.c2; omega
  have cP : Ret 77 #[.string (quo s)] (.int .i64 (bt (quo s) 9)) := fun w => protocol_any (quo s) w hlq
  have cS : ∀ x, ∃ ea ep f, ∀ wx, Below w.heap.size w wx → Calls Tryz.prog 117 #[.pointer (some ⟨b, 0, none⟩), .string (quo s), .agg #[.int .i64 c.oa, .int .i64 x]] wx fun e w' => e = .returned (.tuple #[.agg #[.int .i64 ea, .int .i64 ep], .bool f]) ∧ Below wx.heap.size wx w' := fun x => by
    cases hs : sndM c ms (quo s) c.oa x with
    | none => exact ⟨0, 0, false, fun wx hx => bsender_none (T.below hx) hz _ hlq _ _ hs⟩
    | some m => exact ⟨m.ea, m.ep, true, fun wx hx => bsender_some (T.below hx) hz _ hlq _ _ m hs⟩
  have cR : ∃ x f, ∀ wx, Below w.heap.size w wx → Calls Tryz.prog 122 #[.pointer (some ⟨b, 0, none⟩), .string (quo s)] wx fun e w' => e = .returned (.tuple #[.agg #[.int .i64 c.oa, .int .i64 x], .bool f]) ∧ Below wx.heap.size wx w' := by
    cases hs : rcvM ms (quo s) with
    | none => exact ⟨0, false, fun wx hx => receiver_none (T.below hx) hz _ hlq hs⟩
    | some m => exact ⟨m.ex, true, fun wx hx => receiver_some (T.below hx) hz _ hlq m hs⟩
  unfold mBackR
  by_cases h1 : bt (quo s) 9 = 1
  · rw [if_pos h1]
    rw [h1] at cP
    obtain ⟨x, f, cR⟩ := cR
    obtain ⟨ea, ep, g, cS⟩ := cS x
    simp only [Rp.val]
    exact msgBack_icmp b s (quo s) T.lt f g c.oa x c.im ea ep (T.at 5 rfl) (T.at 1 rfl) cQ cP cR cS
  · rw [if_neg h1]
    have hp1 : (bt (quo s) 9 == 1) = false := by simpa using h1
    cases hr : rcvM ms (quo s) with
    | none =>
      obtain ⟨ea, ep, g, cS⟩ := cS 0
      simp only [Rp.val]
      exact msgBack_norec b s (quo s) T.lt g c.oa 0 c.im ea ep _ (T.at 5 rfl) (T.at 1 rfl) cQ cP (fun wx hx => receiver_none (T.below hx) hz _ hlq hr) cS hp1
    | some r =>
      have R := K.at hr
      simp only
      cases hs : sndM c ms (quo s) c.oa r.ex with
      | none =>
        simp only [Rp.val]
        exact msgBack_nosend b s (quo s) T.lt c.oa r.ex c.im 0 0 _ (T.at 5 rfl) (T.at 1 rfl) cQ cP (fun wx hx => receiver_some (T.below hx) hz _ hlq r hr) (fun wx hx => bsender_none (T.below hx) hz _ hlq _ _ hs) hp1
      | some m =>
        have M := sndM_ok K hs
        simp only
        by_cases hp : pss s c.im = 0
        · rw [if_pos hp]
          rw [hp] at hM
          obtain ⟨S0, k9, k8, kb, kq, kz⟩ := msg_put S h9 h8 (i := 12) (.inl rfl) (l4_size c.oa)
          obtain ⟨S1, i9, i8, ib, iq, iz⟩ := msg_put S0 k9 (by omega) (i := 16) (.inr rfl) (l4_size m.ea)
          obtain ⟨Q0, zq0⟩ := Q.dst c.oa r.ex
          obtain ⟨Q1, zq⟩ := Q0.src m.ea m.ep
          have cQ1 : Ret 116 #[.string (put (put s 12 (l4 c.oa)) 16 (l4 m.ea))] (.string (quo (put (put s 12 (l4 c.oa)) 16 (l4 m.ea)))) := fun w => by
            have hb := bdy_size S1.fit
            have hn := S1.fit.n64
            have ht := S1.fit.tn; have hh20 := S1.fit.h20
            exact quote_core _ (bdy (put (put s 12 (l4 c.oa)) 16 (l4 m.ea))) _ w (by omega) (fun w => body_fits _ w S1.fit) (fun w => octPart_in _ 8 _ w (by decide) (by omega) (by omega))
          obtain ⟨c3, hw⟩ := withQuote_any (put (put s 12 (l4 c.oa)) 16 (l4 m.ea)) (wsrc (wdst (quo s) c.oa r.ex) m.ea m.ep) S1 (by omega) cQ1 (by rw [iq, kq]; exact Q) Q1 (by rw [iq, kq, zq]; exact zq0) (by rw [iq, kq, ib, kb]; exact hq)
          obtain ⟨S2, j9, j8⟩ := wqu_ok S1 i9 (by omega) hw
          have c4 : RetB 87 #[.string (wqu (put (put s 12 (l4 c.oa)) 16 (l4 m.ea)) (wsrc (wdst (quo s) c.oa r.ex) m.ea m.ep))] (.string (snt (wqu (put (put s 12 (l4 c.oa)) 16 (l4 m.ea)) (wsrc (wdst (quo s) c.oa r.ex) m.ea m.ep)))) := fun w => sent_any _ w S2 (by rw [j8, i8, k8]; have := pss_ttl hp; omega) (.inr (.inr j9))
          have c1 := wsa_any s c.oa (by have := S.fit.n20; omega) S.fit.n64 hoa.1 hoa.2
          have c1b := wda_any (put s 12 (l4 c.oa)) m.ea (by have := S.fit.n20; omega) (by rw [kz]; exact S.fit.n64) M.a0 M.a1
          have c2 := wdst_raw (quo s) c.oa r.ex (by have := Q.n28; omega) Q.n64 (Q.pp 2 (by decide) (by decide)).1 hoa.1 hoa.2 (by have := R.x1; omega) (by have := R.x2; omega)
          have c2b := wsrc_raw (wdst (quo s) c.oa r.ex) m.ea m.ep (by have := Q0.n28; omega) Q0.n64 (Q0.pp 0 (by decide) (by decide)).1 M.a0 M.a1 M.p0 M.p1
          generalize snt (wqu (put (put s 12 (l4 c.oa)) 16 (l4 m.ea)) (wsrc (wdst (quo s) c.oa r.ex) m.ea m.ep)) = Z at c4 ⊢
          generalize wqu (put (put s 12 (l4 c.oa)) 16 (l4 m.ea)) (wsrc (wdst (quo s) c.oa r.ex) m.ea m.ep) = Y at c3 c4
          generalize put (put s 12 (l4 c.oa)) 16 (l4 m.ea) = X at c1b c3
          generalize put s 12 (l4 c.oa) = X0 at c1 c1b
          generalize wsrc (wdst (quo s) c.oa r.ex) m.ea m.ep = V at c2b c3
          generalize wdst (quo s) c.oa r.ex = V0 at c2 c2b
          simp only [Rp.val]
          exact msgBack_yes b s (quo s) T.lt c.oa r.ex c.im m.ea m.ep _ (T.at 5 rfl) (T.at 1 rfl) cQ cP (fun wx hx => receiver_some (T.below hx) hz _ hlq r hr) (fun wx hx => bsender_some (T.below hx) hz _ hlq _ _ m hs) hp1 hM X0 V0 X V Y Z c1 c1b c2 c2b c3 c4
        · rw [if_neg hp]
          simp only [Rp.val]
          exact msgBack_bad b s (quo s) T.lt c.oa r.ex c.im m.ea m.ep _ (T.at 5 rfl) (T.at 1 rfl) cQ cP (fun wx hx => receiver_some (T.below hx) hz _ hlq r hr) (fun wx hx => bsender_some (T.below hx) hz _ hlq _ _ m hs) hp1 (pss s c.im) (by simpa using hp) hM
theorem msgR_same (c : Cf) (tk : Int) (ms : List Mp) (d : Int) (s : ByteArray) : (msgR c tk ms d s).tk = tk ∧ (msgR c tk ms d s).ms = ms := by
  unfold msgR
  split
  · unfold mInR; split
    · exact ⟨rfl, rfl⟩
    · split <;> exact ⟨rfl, rfl⟩
  · split
    · unfold mBackR; split
      · exact ⟨rfl, rfl⟩
      · split
        · exact ⟨rfl, rfl⟩
        · split
          · exact ⟨rfl, rfl⟩
          · split <;> exact ⟨rfl, rfl⟩
    · unfold mOutR; split
      · exact ⟨rfl, rfl⟩
      · split
        · split <;> exact ⟨rfl, rfl⟩
        · exact ⟨rfl, rfl⟩
/-- FRAME, of any box and any bytes -/
theorem frame_all (T : Bat w base b c tk ti v ms) (G : c.ok = true) (K : Tok c ms) (d : Int) (s : ByteArray) (hl : s.size ≤ maxLen) (k2 : tk ≤ 100) :
    Calls Tryz.prog 18 #[.pointer (some ⟨b, 0, none⟩), .int .i64 d, .string s] w fun e w' => e = .returned (frR c tk ms d s).val ∧ ∃ v', BL w w' base b c v v' (frR c tk ms d s).tk ti (frR c tk ms d s).ms := by
  unfold frR
  by_cases hx : exam c d s = 0
  · rw [if_pos hx]
    cases he : isErr s with
    | false => exact frame_goes T G K d s hx he k2
    | true =>
      simp only [if_true]
      obtain ⟨hk, hd⟩ := exam_chk hx
      obtain ⟨e1, e2⟩ := msgR_same c tk ms d s
      rw [e1, e2]
      have cX : ∀ wx, Below w.heap.size w wx → Calls Tryz.prog 47 #[.pointer (some ⟨b, 0, none⟩), .int .i64 d, .string s] wx fun e w' => e = .returned (.int .i64 0) ∧ Below wx.heap.size wx w' := fun wx hb => by
        have := examine_any (T.below hb) d s hl; rw [hx] at this; exact this
      have cE : Ret 48 #[.string s] (.bool true) := by have := isErr_any s hl; rw [he] at this; exact this
      have cF : ∀ wx, Below w.heap.size w wx → Calls Tryz.prog 51 #[.pointer (some ⟨b, 0, none⟩), .string s] wx fun e w' => e = .returned (.bool (lg s 16 == c.oa)) ∧ Below wx.heap.size wx w' := fun wx hb =>
        isForBox_core b s (lg s 16) c.oa wx (T.below hb).lt ((T.below hb).at 1 rfl) (fun w => destination_any s w hl)
      have main : ∀ wx, Below w.heap.size w wx → Calls Tryz.prog 49 #[.pointer (some ⟨b, 0, none⟩), .int .i64 d, .string s] wx fun e w' => e = .returned (msgR c tk ms d s).val ∧ Below wx.heap.size wx w' := fun wx hb => by
        have Tx := T.below hb
        unfold msgR
        by_cases h1 : d = 1
        · rw [if_pos h1]
          subst h1
          unfold Rp.val
          exact message_in b s _ _ _ (fun wy hy => mIn_all (Tx.below hy) G K s hk he)
        · have h0 : d = 0 := by omega
          rw [if_neg h1]
          subst h0
          by_cases h2 : lg s 16 = c.oa
          · rw [if_pos h2]
            have h2' : (lg s 16 == c.oa) = true := by simpa using h2
            rw [h2'] at cF
            unfold Rp.val
            exact message_back b s _ _ _ (fun wy hy => cF wy (hb.trans (hy.mono hb.size))) (fun wy hy => mBack_all (Tx.below hy) G K s hk he)
          · rw [if_neg h2]
            have h2' : (lg s 16 == c.oa) = false := by simpa using h2
            rw [h2'] at cF
            unfold Rp.val
            exact message_out b s _ _ _ (fun wy hy => cF wy (hb.trans (hy.mono hb.size))) (fun wy hy => mOut_all (Tx.below hy) G K s hk he)
      unfold Rp.val at main ⊢
      exact frame_msg b s _ _ _ d cX cE (fun wx w' => Below wx.heap.size wx w') main
        (fun wx w' h k q1 q2 => h.block k q2) _ (fun wx w1 hx hlt h u0 u1 u2 => ⟨v, T.bl (below_three hx h u0 u1 u2)⟩)
  · rw [if_neg hx]
    simp only [Rp.val]
    exact (frame_exam T d s hl hx).mono fun e w' h => ⟨h.1, v, T.bl h.2⟩
end
end Go.Proofs.YthiljpbodmajaabGreat
