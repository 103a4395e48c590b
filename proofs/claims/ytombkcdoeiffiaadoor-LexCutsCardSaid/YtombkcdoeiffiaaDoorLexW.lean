/- The document's answers of layer 3: Tokens. -/
import Derived.Test.YtombkcdoeiffiaaDoorLexV
import Derived.Test.YtombkcdoeiffiaaDoorLexE
import Derived.Test.YtombkcdoeiffiaaDoorLexQ
import Derived.Test.YtombkcdoeiffiaaDoorLexS
namespace Go.Proofs.YtombkcdoeiffiaaDoor
open Go.RowKit Go.Maps
set_option linter.unusedVariables false
set_option linter.unusedSimpArgs false

theorem lexed_skip {c : UInt8} {r : List UInt8} {line col ts f} (hc : c.toNat = 35) (h : Lexed ((c :: r).drop (runOf isOfLine (c :: r))) line (col + runOf isOfLine (c :: r)) ts f) : Lexed (c :: r) line col ts f := by
  obtain ⟨h1, _, _⟩ := hash_not hc
  have hp : passed (c :: r) = runOf isOfLine (c :: r) := by
    unfold passed
    rw [runOf_cons isBlank, if_neg (by simp [h1])]
    simp only [List.drop_zero]
    rw [if_pos hc, Nat.zero_add]
  obtain ⟨R, eR⟩ : ∃ R, R = runOf isOfLine (c :: r) := ⟨_, rfl⟩
  rw [← eR] at h hp
  have hz : passed ((c :: r).drop R) = 0 := by
    cases hd : (c :: r).drop R with
    | nil => rfl
    | cons d t =>
      have hlt : R < (c :: r).length := by
        rcases Nat.lt_or_ge R (c :: r).length with h | h
        · exact h
        · rw [List.drop_eq_nil_of_le h] at hd; cases hd
      have h2 := runOf_end isOfLine (c :: r) (by rw [← eR]; exact hlt)
      simp only [← eR] at h2
      rw [List.drop_eq_getElem_cons hlt] at hd
      injection hd with e1 e2
      rw [e1] at h2
      have h10 : d.toNat = 10 := by unfold isOfLine at h2; simpa using h2
      obtain ⟨b1, _, _⟩ := nl_not h10
      unfold passed
      rw [runOf_cons, if_neg (by simp [b1])]
      simp [h10]
  have hd : ∀ l, (c :: r).drop R = l → (c :: r).drop (passed (c :: r)) = l := fun l h => by rw [hp]; exact h
  cases h with
  | done h2 =>
    rw [hz, List.drop_zero] at h2
    exact .done (hd _ h2)
  | bad h2 h3 =>
    rw [hz, List.drop_zero] at h2
    have := Lexed.bad (line := line) (col := col) (hd _ h2) h3
    rw [hp] at this
    rw [hz]; exact this
  | step h2 h3 h4 =>
    rw [hz, List.drop_zero] at h2
    rw [hz] at h4
    have := Lexed.step (line := line) (col := col) (hd _ h2) h3 (by rw [hp]; exact h4)
    rw [hp] at this
    rw [hz]; exact this
theorem piece_size {l : List UInt8} {k b s} (h : first l = .ok k b s) : s = offOf k + b.length + (if k = 6 then 1 else 0) := by
  have h1 := first_text h
  have h2 := first_size h
  have h3 : (headOf k ++ b).length = s := by rw [h1, List.length_take]; omega
  rw [List.length_append] at h3
  rw [← h3]
  unfold headOf offOf
  by_cases h3 : k = 3
  · subst h3; simp
  · by_cases h4 : k = 4
    · subst h4; simp
    · by_cases h6 : k = 6
      · subst h6; rcases first_bytes h with ⟨_, _, e, _⟩ | ⟨e, _⟩
        · subst e; simp
        · exact absurd rfl e
      · simp [h3, h4, h6]
theorem piece_text {l : List UInt8} {k b s} (h : first l = .ok k b s) : (l.drop (offOf k)).take b.length = b := by
  have h1 := first_text h
  have h2 := first_size h
  by_cases h6 : k = 6
  · subst h6
    rcases first_bytes h with ⟨_, _, e, _⟩ | ⟨e, _⟩
    · subst e; simp
    · exact absurd rfl e
  · have e : (headOf k).length = offOf k := by unfold headOf offOf; by_cases h3 : k = 3 <;> by_cases h4 : k = 4 <;> simp [h3, h4, h6]
    have hs := piece_size h
    rw [if_neg h6, Nat.add_zero] at hs
    have h3 : (l.take s).drop (offOf k) = b := by rw [← h1, ← e, List.drop_left]
    rw [List.drop_take, hs, Nat.add_sub_cancel_left] at h3
    exact h3
theorem passed_none {c : UInt8} {r : List UInt8} (h1 : isBlank c = false) (h2 : c.toNat ≠ 35) : passed (c :: r) = 0 := by
  unfold passed
  rw [runOf_cons, if_neg (by simp [h1])]
  simp [h2]
def fCode : Option Flt → Int | some x => x.code | none => 0
def fLine : Option Flt → Int | some x => x.line | none => 0
def fCol : Option Flt → Int | some x => x.col | none => 0
/-- How the document's Tokens ends. -/
def RefEnds (W : World) (l : List UInt8) (e : Ending) (w : World) : Prop :=
  ∃ (ts : List Tok) (f : Option Flt) (v : Value), Toks l ts f ∧ e = .returned (.tuple #[v, .int .i64 (fCode f), .int .i64 (fLine f), .int .i64 (fCol f)]) ∧ Below W.heap.size W w ∧ w.ownsRow W.heap.size 33 4 v ts.length (ts.flatMap tokC)

set_option maxRecDepth 100000 in
set_option maxHeartbeats 4000000 in
theorem rTokens_short (s : ByteArray) (hs : s.size ≤ 65536) (W : World) : Calls Tryd.prog 10 #[.string s] W (RefEnds W s.data.toList) := by
  obtain ⟨iT, hiT, hz0, hz1, hz2⟩ := info_parts infoT
  have HI := Lib.hid (And.intro hiT (And.intro hz0 (And.intro hz1 hz2)))
  clear hiT hz0 hz1 hz2
  have h1 : decide ((65536 : Int) < (s.size : Int)) = false := by simp; omega
  have hlen : s.data.toList.length = s.size := (Lib.size_eq s).symm
  go_enter Tryd.func10, Tryd.ntmps10
  go_wp2_with fail
  go_loopw [6, 7, 8, 9] (fun pv a b t wr => ∃ (k line fr : Nat) (acc : List Tok), k ≤ s.size ∧ fr ≤ k ∧ line ≤ k + 1 ∧ acc.length ≤ k ∧ a = .int .i64 line ∧ b = .int .i64 fr ∧ t = .int .i64 k ∧ Past W.heap.size W wr ∧
    wr.ownsRow W.heap.size 33 4 pv acc.length (acc.flatMap tokC) ∧ (∀ ts f, Lexed (s.data.toList.drop k) line (k - fr + 1) ts f → Lexed s.data.toList 1 1 (acc ++ ts) f)) (fun _ _ _ t _ => s.size - (intOf t).toNat)
  case atStart => exact ⟨0, 1, 0, [], Nat.zero_le _, Nat.le_refl _, Nat.le_refl _, Nat.le_refl _, rfl, rfl, rfl, Past.refl (Nat.le_refl _), World.ownsRow_nil _ _ _ _, fun ts f h => h⟩
  case round =>
    obtain ⟨k, line, fr, acc, hk, hfr, hline, hacc, rfl, rfl, rfl, hp, hrow, hcont⟩ := hrel
    have HC := Lib.hid hcont
    clear hcont
    by_cases hks : k < s.size
    · have hcons := cons_of s k hks
      by_cases hb : isBlank s[k] = true
      · have hc2 : ∀ ts f, Lexed (s.data.toList.drop (k + 1)) line (k + 1 - fr + 1) ts f → Lexed s.data.toList 1 1 (acc ++ ts) f := by
          intro ts f h
          refine HC.out ts f ?_
          rw [hcons]
          refine lexed_blank hb ?_
          have e : k + 1 - fr + 1 = k - fr + 1 + 1 := by omega
          rw [← e]; exact h
        have HC2 := Lib.hid hc2
        have hv : s[k].toNat = 32 ∨ s[k].toNat = 9 ∨ s[k].toNat = 13 := by unfold isBlank at hb; simp at hb; omega
        clear hc2 hcons hb
        rcases hv with hv | hv | hv
        · have f1 : ((s[k].toNat : Int) == 32) = true := by rw [hv]; rfl
          go_wp2_with fail
          exact ⟨⟨k + 1, line, fr, acc, by omega, by omega, by omega, by omega, by go_num, by go_num, by go_num, hp, hrow, HC2.out⟩, by simp [intOf]; omega⟩
        · have f1 : ((s[k].toNat : Int) == 32) = false := by rw [hv]; rfl
          have f2 : ((s[k].toNat : Int) == 9) = true := by rw [hv]; rfl
          go_wp2_with fail
          exact ⟨⟨k + 1, line, fr, acc, by omega, by omega, by omega, by omega, by go_num, by go_num, by go_num, hp, hrow, HC2.out⟩, by simp [intOf]; omega⟩
        · have f1 : ((s[k].toNat : Int) == 32) = false := by rw [hv]; rfl
          have f2 : ((s[k].toNat : Int) == 9) = false := by rw [hv]; rfl
          have f3 : ((s[k].toNat : Int) == 13) = true := by rw [hv]; rfl
          go_wp2_with fail
          exact ⟨⟨k + 1, line, fr, acc, by omega, by omega, by omega, by omega, by go_num, by go_num, by go_num, hp, hrow, HC2.out⟩, by simp [intOf]; omega⟩
      · have hv : s[k].toNat ≠ 32 ∧ s[k].toNat ≠ 9 ∧ s[k].toNat ≠ 13 := by unfold isBlank at hb; simp at hb; omega
        have f1 : ((s[k].toNat : Int) == 32) = false := beq_false_of_ne (by omega)
        have f2 : ((s[k].toNat : Int) == 9) = false := beq_false_of_ne (by omega)
        have f3 : ((s[k].toNat : Int) == 13) = false := beq_false_of_ne (by omega)
        by_cases h35 : s[k].toNat = 35
        · have f4 : ((s[k].toNat : Int) == 35) = true := by rw [h35]; rfl
          have hrl := runOf_le isOfLine (s.data.toList.drop k)
          rw [List.length_drop, ← Lib.size_eq] at hrl
          have hrp : 0 < runOf isOfLine (s.data.toList.drop k) := by rw [hcons, runOf_cons, if_pos (hash_not h35).2.1]; omega
          obtain ⟨R, eR⟩ : ∃ R, R = runOf isOfLine (s.data.toList.drop k) := ⟨_, rfl⟩
          have hc2 : ∀ ts f, Lexed (s.data.toList.drop (k + R)) line (k + R - fr + 1) ts f → Lexed s.data.toList 1 1 (acc ++ ts) f := by
            intro ts f h
            refine HC.out ts f ?_
            rw [hcons]
            refine lexed_skip h35 ?_
            rw [← hcons, ← eR, List.drop_drop]
            have e : k + R - fr + 1 = k - fr + 1 + R := by omega
            rw [← e]; exact h
          have hin : ∀ m, k ≤ m → m < k + R → ∃ h : m < s.size, s[m].toNat ≠ 10 := fun m hm h => by
            obtain ⟨n, rfl⟩ : ∃ n, m = k + n := ⟨m - k, by omega⟩
            obtain ⟨h3, h4⟩ := run_drop isOfLine s k n (by rw [← eR]; omega)
            exact ⟨h3, by unfold isOfLine at h4; simpa using h4⟩
          have hout : ∀ h : k + R < s.size, s[k + R].toNat = 10 := fun h => by
            have h4 := run_past isOfLine s k (by rw [← eR]; exact h)
            simp only [← eR] at h4
            unfold isOfLine at h4; simpa using h4
          rw [← eR] at hrl hrp
          have HC2 := Lib.hid hc2
          have HIN := Lib.hid hin
          have HOUT := Lib.hid hout
          clear hc2 hin hout eR hcons hb h35 hv
          go_wp2_with fail
          obtain ⟨m1, em⟩ : ∃ m, m = k + R := ⟨_, rfl⟩
          rw [← em] at HIN HOUT HC2
          have hm1 : m1 ≤ s.size := by omega
          have hm2 : k < m1 := by omega
          clear em hrl hrp
          go_loop [9] (fun a => ∃ m : Nat, k ≤ m ∧ m ≤ m1 ∧ a = .int .i64 m) (fun a => m1 - (intOf a).toNat)
          case atStart => exact ⟨k, Nat.le_refl _, by omega, rfl⟩
          case round =>
            obtain ⟨m, hm, hmm, rfl⟩ := hrel
            by_cases hnR : m < m1
            · obtain ⟨h3, h4⟩ := HIN.out m hm hnR
              have g1 : ((s[m].toNat : Int) != 10) = true := by simp; omega
              clear h4
              go_wp2_with fail
              go_round
              case rel => exact ⟨m + 1, by omega, by omega, by go_num⟩
              case measure => simp [intOf]; omega
            · obtain rfl : m = m1 := by omega
              by_cases h3 : m < s.size
              · have g1 : ((s[m].toNat : Int) != 10) = false := by rw [HOUT.out h3]; rfl
                go_wp2_with fail
                exact ⟨⟨m, line, fr, acc, by omega, by omega, by omega, by omega, by go_num, by go_num, by go_num, hp, hrow, HC2.out⟩, by simp [intOf]; omega⟩
              · go_wp2_with fail
                exact ⟨⟨m, line, fr, acc, by omega, by omega, by omega, by omega, by go_num, by go_num, by go_num, hp, hrow, HC2.out⟩, by simp [intOf]; omega⟩
        · have f4 : ((s[k].toNat : Int) == 35) = false := beq_false_of_ne (by omega)
          have hpz : passed (s.data.toList.drop k) = 0 := by rw [hcons]; exact passed_none (by simpa using hb) h35
          have hdz : (s.data.toList.drop k).drop (passed (s.data.toList.drop k)) = s[k] :: s.data.toList.drop (k + 1) := by rw [hpz, List.drop_zero]; exact hcons
          have cp := piece_any s (by omega) k hks
          have hcol : ((k - fr + 1 : Nat) : Int) = (k : Int) - fr + 1 := by omega
          cases hq : first (s.data.toList.drop k) with
          | bad e =>
            rw [hq] at cp
            unfold pieceV at cp
            have he := first_bad hq
            have f5 : ((e : Int) != 0) = true := by simp; omega
            have hc2 : Toks s.data.toList [] (some ⟨e, line, k - fr + 1⟩) := by
              have h := Lexed.bad (line := line) (col := k - fr + 1) hdz (by rw [← hcons]; exact hq)
              rw [hpz] at h
              exact .inr ⟨by omega, _, HC.out _ _ h, rfl⟩
            have HC2 := Lib.hid hc2
            clear hc2 hcons hdz hb h35 hq he
            go_wp2_with ((with_reducible refine (cp _).mono ?_); rintro e' w' ⟨rfl, rfl⟩)
            refine bodyPost_ret (v := .tuple #[.slice none 0 0, .int .i64 e, .int .i64 line, .int .i64 ((k : Int) - fr + 1)]) (by simp [results, Tryd.results10, go_sem]) rfl ⟨[], _, _, HC2.out, by simp only [fCode, fLine, fCol, hcol], hp.2, World.ownsRow_nil _ _ _ _⟩
          | ok kd b sz =>
            rw [hq] at cp
            have hsz := piece_size hq
            have htx := piece_text hq
            have hfs := first_size hq
            have hle : sz ≤ s.size - k := by rw [Lib.size_eq, ← List.length_drop]; exact hfs.2.1
            have hspos := hfs.1
            have hnext : ∀ l' c' ts f, l' = (if kd = 6 then line + 1 else line) → c' = (if kd = 6 then 1 else k - fr + 1 + sz) → Lexed (s.data.toList.drop (k + sz)) l' c' ts f → Lexed s.data.toList 1 1 ((acc ++ [⟨kd, b, line, k - fr + 1⟩]) ++ ts) f := by
              intro l' c' ts f e1 e2 h
              subst e1 e2
              rw [List.append_assoc]
              have h2 := Lexed.step (line := line) (col := k - fr + 1) hdz (by rw [← hcons]; exact hq) (ts := ts) (f := f) (by rw [← hcons, List.drop_drop, hpz]; exact h)
              rw [hpz] at h2
              exact HC.out _ _ h2
            have hcells : (acc ++ [(⟨kd, b, line, k - fr + 1⟩ : Tok)]).flatMap tokC = acc.flatMap tokC ++ [.int .i64 kd, .string (str b), .int .i64 line, .int .i64 ((k : Int) - fr + 1)] := by
              rw [List.flatMap_append]
              simp [tokC, hcol]
            unfold pieceV at cp
            have hoff : offOf kd ≤ 1 := by unfold offOf; split; omega; split <;> omega
            have hex : s.extract (k + offOf kd) (k + offOf kd + b.length) = str b := by
              apply str_of
              rw [mid_data, Nat.add_sub_cancel_left, ← List.drop_drop]
              exact htx
            have H63 : Hid (acc.length + 1 ≤ maxLen) := Lib.hid (by unfold maxLen; omega)
            have HB1 : Hid ((acc.length + 1) * 40 ≤ 140737488355328) := Lib.hid (by omega)
            have HN := Lib.hid hnext
            have HCE := Lib.hid hcells
            clear hnext hcells hcons hdz hb h35 hq htx hfs hcol
            obtain ⟨o, eo⟩ : ∃ o, o = offOf kd := ⟨_, rfl⟩
            obtain ⟨n, en⟩ : ∃ n, n = b.length := ⟨_, rfl⟩
            simp only [← eo, ← en] at cp hex hsz hoff
            clear eo en
            have hnb : n ≤ 65536 := by split at hsz <;> omega
            by_cases h6 : kd = 6
            · subst h6
              rw [if_pos rfl] at hsz
              go_wp2_with (first
                | ((with_reducible refine (cp _).mono ?_); rintro e' w' ⟨rfl, rfl⟩)
                | (at_builtin; refine wpList_append_own _ rfl (.tmp 67) (.tmp 81) 23 rfl W.heap.size 33 iT _ 4 40 Tryd.underlying23 HI.out.1 HI.out.2.1 HI.out.2.2.1 HI.out.2.2.2 rfl (by decide) _ _ _ rfl (hrow.alloc _) ⟨w'.heap.size, 0, none⟩ 1 1 [.int .i64 6, .string (str b), .int .i64 line, .int .i64 ((k : Int) - fr + 1)] rfl rfl (lit_cells _ _ _) (tokC_one' _ _ _ _) H63.out HB1.out (Past.size (hp.alloc _)) ?_; intro pv2 w3 hown3 hgrow3 _))
              have P3 := (hp.alloc (.cells #[.int .i64 6, .string (str b), .int .i64 line, .int .i64 ((k : Int) - fr + 1)] 33)).grownRow hgrow3 (fun j hj => (hrow.lt j hj).1)
              exact ⟨⟨k + sz, line + 1, k + sz, acc ++ [⟨6, b, line, k - fr + 1⟩], by omega, by omega, by omega, by rw [List.length_append]; simp; omega, by go_num, by go_num, by go_num, P3, by rw [HCE.out, List.length_append]; exact hown3, fun ts f h => HN.out (line + 1) 1 ts f (by first | rfl | exact (if_pos rfl).symm) (by first | rfl | exact (if_pos rfl).symm) (by rw [Nat.sub_self] at h; exact h)⟩, by simp [intOf]; omega⟩
            · rw [if_neg h6] at hsz
              have hk6 : ((kd : Int) == 6) = false := beq_false_of_ne (by omega)
              have HK6 := Lib.hid h6
              clear h6
              go_wp2_with (first
                | ((with_reducible refine (cp _).mono ?_); rintro e' w' ⟨rfl, rfl⟩)
                | (at_builtin; refine wpList_append_own _ rfl (.tmp 67) (.tmp 81) 23 rfl W.heap.size 33 iT _ 4 40 Tryd.underlying23 HI.out.1 HI.out.2.1 HI.out.2.2.1 HI.out.2.2.2 rfl (by decide) _ _ _ rfl (hrow.alloc _) ⟨w'.heap.size, 0, none⟩ 1 1 [.int .i64 kd, .string (str b), .int .i64 line, .int .i64 ((k : Int) - fr + 1)] rfl rfl (lit_cells _ _ _) (tokC_one' _ _ _ _) H63.out HB1.out (Past.size (hp.alloc _)) ?_; intro pv2 w3 hown3 hgrow3 _))
              have P3 := (hp.alloc (.cells #[.int .i64 kd, .string (str b), .int .i64 line, .int .i64 ((k : Int) - fr + 1)] 33)).grownRow hgrow3 (fun j hj => (hrow.lt j hj).1)
              exact ⟨⟨k + sz, line, fr, acc ++ [⟨kd, b, line, k - fr + 1⟩], by omega, by omega, by omega, by rw [List.length_append]; simp; omega, by go_num, by go_num, by go_num, P3, by rw [HCE.out, List.length_append]; exact hown3, fun ts f h => HN.out _ _ ts f (by rw [if_neg HK6.out]) (by rw [if_neg HK6.out]; omega) h⟩, by simp [intOf]; omega⟩
    · obtain rfl : k = s.size := by omega
      have hT : Toks s.data.toList acc none := by
        refine .inr ⟨by omega, acc, ?_, rfl⟩
        have h := HC.out [] none (.done (List.drop_eq_nil_of_le (by rw [List.length_drop]; omega)))
        rwa [List.append_nil] at h
      have HT := Lib.hid hT
      clear hT
      go_wp2_with fail
      refine bodyPost_ret (v := .tuple #[u6, .int .i64 0, .int .i64 0, .int .i64 0]) (by simp [results, Tryd.results10, go_sem]) rfl ⟨acc, none, _, HT.out, rfl, hp.2, hrow⟩
theorem rTokens_any (s : ByteArray) (hs : s.size ≤ 281474976710656) (W : World) : Calls Tryd.prog 10 #[.string s] W (RefEnds W s.data.toList) := by
  by_cases h : s.size ≤ 65536
  · exact rTokens_short s h W
  · have h1 : (65536 : Int) < (s.size : Int) := by omega
    go_enter Tryd.func10, Tryd.ntmps10
    go_wp2_with fail
    refine bodyPost_ret (v := .tuple #[.slice none 0 0, .int .i64 6, .int .i64 0, .int .i64 0]) (by simp [results, Tryd.results10, go_sem]) rfl ⟨[], some ⟨6, 0, 0⟩, .slice none 0 0, .inl ⟨by rw [← Lib.size_eq]; omega, rfl, rfl⟩, rfl, Below.refl _ _, World.ownsRow_nil _ _ _ _⟩
end Go.Proofs.YtombkcdoeiffiaaDoor
