/- lathelaw03.LexJoins: its walk. -/
import Derived.Test.YtombkcdoeiffiaaDoorSame
import Derived.Test.YtombkcdoeiffiaaDoorLexP
import Derived.Test.YtombkcdoeiffiaaDoorLexQ
import Derived.Test.YtombkcdoeiffiaaDoorLexR
namespace Go.Proofs.YtombkcdoeiffiaaDoor
open Go.RowKit Go.Maps
set_option linter.unusedVariables false
set_option linter.unusedSimpArgs false

/-- The pieces of two texts with a newline between. -/
def joined (l : List UInt8) (ts us : List Tok) : List Tok := ts ++ ⟨6, [], (place l 1 1).1, (place l 1 1).2⟩ :: us.map (Tok.down (place l 1 1).1)
theorem toks_join {a b : List UInt8} {ts us : List Tok} (h : Toks a ts none) (h' : Toks b us none) (x : UInt8) (hx : x.toNat = 10) (hl : (a ++ x :: b).length ≤ 65536) : Toks (a ++ x :: b) (joined a ts us) none := by
  rcases h with ⟨_, _, h1⟩ | ⟨_, t, h2, h3⟩
  · cases h1
  rcases h' with ⟨_, _, h4⟩ | ⟨_, u, h5, h6⟩
  · cases h4
  simp at h3 h6
  subst h3 h6
  have h7 := lexed_down h5 (place a 1 1).1
  rw [Nat.add_comm 1] at h7
  exact .inr ⟨hl, _, lexed_join h2 rfl x hx b _ _ h7, rfl⟩
theorem place_next (s : ByteArray) (k : Nat) (h : k < s.size) : place (s.data.toList.take (k + 1)) 1 1 = if s[k].toNat = 10 then ((place (s.data.toList.take k) 1 1).1 + 1, 1) else ((place (s.data.toList.take k) 1 1).1, (place (s.data.toList.take k) 1 1).2 + 1) := by
  have h' : k < s.data.toList.length := by rw [← Lib.size_eq]; exact h
  rw [List.take_succ_eq_append_getElem h', place_append]
  have e : s.data.toList[k] = s[k] := rfl
  rw [e]
  simp [place]
set_option maxRecDepth 100000 in
set_option maxHeartbeats 4000000 in
theorem joins_walk (s r : ByteArray) (hs : s.size ≤ 281474976710656) (hr : r.size ≤ 281474976710656) (W : World) (hE : Errs W) :
    Calls Tryd.prog 5 #[.string s, .string r] W fun e w' => e = .returned (.bool true) ∧ Below W.heap.size W w' := by
  have hP := Past.refl (Nat.le_refl W.heap.size)
  have cl := lives_any W hE
  obtain ⟨iT, hiT, hz0, hz1, hz2⟩ := info_parts infoT
  have HI := Lib.hid (And.intro hiT (And.intro hz0 (And.intro hz1 hz2)))
  clear hiT hz0 hz1 hz2
  go_enter Tryd.func5, Tryd.ntmps5
  go_wp2_with ((with_reducible refine cl.mono ?_); rintro e w1 ⟨rfl, hb1⟩)
  have P1 := hP.on hb1
  refine (Tokens_any s (by omega) _ (hE.below hb1 (Nat.le_refl _))).mono ?_
  rintro e w2 ⟨ts, f, v, ht, rfl, hb2, hr2⟩
  have P2 := P1.on hb2
  obtain ⟨c0, c1, c2, ef⟩ : ∃ c0 c1 c2 : Int, fltV f = .agg #[.int .i64 c0, .int .i64 c1, .int .i64 c2] := by cases f <;> exact ⟨_, _, _, rfl⟩
  have EF := Lib.hid ef
  rw [ef]
  clear ef
  go_wp2_with fail
  refine (Tokens_any r (by omega) _ (hE.below (P2.alloc _).2 (Nat.le_refl _))).mono ?_
  rintro e w3 ⟨us, g, v2, hu, rfl, hb3, hr3⟩
  have P3 := (P2.alloc _).on hb3
  obtain ⟨d0, d1, d2, eg⟩ : ∃ d0 d1 d2 : Int, fltV g = .agg #[.int .i64 d0, .int .i64 d1, .int .i64 d2] := by cases g <;> exact ⟨_, _, _, rfl⟩
  have EG := Lib.hid eg
  rw [eg]
  clear eg
  obtain ⟨s1, a0, a1, a2, _⟩ := (Three.new w2 (.int .i64 c0) (.int .i64 c1) (.int .i64 c2) 26).below hb3 (by simp)
  by_cases h0 : (c0 == 0) = true
  · by_cases h1 : (d0 == 0) = true
    · by_cases h2 : (65536 : Int) ≤ (s.size : Int) + (r.size : Int)
      · have h0' : (c0 != 0) = false := by simpa using h0
        have h1' : (d0 != 0) = false := by simpa using h1
        go_wp2_with fail
        go_ret
        exact ⟨rfl, (P3.alloc _).2⟩
      · have h0' : (c0 != 0) = false := by simpa using h0
        have h1' : (d0 != 0) = false := by simpa using h1
        have e0 : c0 = 0 := by simpa using h0
        have e1 : d0 = 0 := by simpa using h1
        have hf : f = none := by
          cases f with
          | none => rfl
          | some x => have := (toks_codes ht).1; have h := EF.out; simp [fltV] at h; omega
        have hg : g = none := by
          cases g with
          | none => rfl
          | some x => have := (toks_codes hu).1; have h := EG.out; simp [fltV] at h; omega
        subst hf hg
        clear e0 e1 h0 h1 EF EG
        have H3 : Hid (s.size + r.size ≤ 65535) := Lib.hid (by omega)
        have h3 : decide ((65536 : Int) ≤ (s.size : Int) + (r.size : Int)) = false := by simp; omega
        clear h2
        go_wp2_with fail
        have h3 := H3.out
        have ht3 : Toks (s ++ ⟨#[10]⟩ ++ r).data.toList (joined s.data.toList ts us) none := by
          have e : (s ++ ⟨#[10]⟩ ++ r).data.toList = s.data.toList ++ 10 :: r.data.toList := by simp
          rw [e]
          exact toks_join ht hu 10 rfl (by simp; omega)
        have z2 : (s ++ ⟨#[10]⟩ ++ r).size < 9223372036854775807 := by rw [ByteArray.size_append, ByteArray.size_append]; have : (⟨#[10]⟩ : ByteArray).size = 1 := rfl; omega
        refine (Tokens_any _ z2 _ (hE.below (P3.alloc _).2 (Nat.le_refl _))).mono ?_
        rintro e w4 ⟨zs, f', v3, hz, rfl, hb4, hr4⟩
        obtain ⟨rfl, rfl⟩ := hz.unique ht3
        have P4 := (P3.alloc _).on hb4
        unfold fltV
        go_wp2_with fail
        have hlen : s.size ≤ 65535 := by omega
        have H3' := Lib.hid h3
        clear h3
        go_loop [11, 12, 13] (fun a b c => ∃ k fr L : Nat, k ≤ s.size ∧ fr ≤ k ∧ L ≤ k + 1 ∧ a = .int .i64 L ∧ b = .int .i64 fr ∧ c = .int .i64 k ∧ place (s.data.toList.take k) 1 1 = (L, k - fr + 1)) (fun _ _ c => s.size - (intOf c).toNat)
        case atStart => exact ⟨0, 0, 1, Nat.zero_le _, Nat.le_refl _, Nat.le_refl _, rfl, rfl, rfl, rfl⟩
        case round =>
          obtain ⟨k, fr, L, hk, hfr, hL, rfl, rfl, rfl, hpl⟩ := hrel
          have HPL := Lib.hid hpl
          clear hpl
          by_cases hks : k < s.size
          · have hn := place_next s k hks
            rw [HPL.out] at hn
            by_cases h10 : s[k].toNat = 10
            · have e10 : ((s[k].toNat : Int) == 10) = true := by rw [h10]; rfl
              rw [if_pos h10] at hn
              have HN := Lib.hid hn
              clear hn h10
              go_wp2_with fail
              go_round
              case rel => exact ⟨k + 1, k + 1, L + 1, by omega, by omega, by omega, by go_num, by go_num, by go_num, by rw [HN.out, Nat.sub_self]⟩
              case measure => simp [intOf]; omega
            · have e10 : ((s[k].toNat : Int) == 10) = false := by simp; omega
              rw [if_neg h10] at hn
              have HN := Lib.hid hn
              clear hn h10
              go_wp2_with fail
              go_round
              case rel => exact ⟨k + 1, fr, L, by omega, by omega, by omega, rfl, rfl, by go_num, by rw [HN.out]; congr 1; omega⟩
              case measure => simp [intOf]; omega
          · obtain rfl : k = s.size := by omega
            have hpl : place s.data.toList 1 1 = (L, s.size - fr + 1) := by
              have h := HPL.out
              rw [Lib.size_eq, List.take_length] at h
              rw [Lib.size_eq]; exact h
            have HPP := Lib.hid hpl
            clear hpl HPL
            have rA := (ownsRow_below ((ownsRow_below (hr2.alloc (.cells #[.int .i64 c0, .int .i64 c1, .int .i64 c2] 26)) hb3).alloc (.cells #[.int .i64 d0, .int .i64 d1, .int .i64 d2] 26)) hb4).alloc (.cells #[.int .i64 0, .int .i64 0, .int .i64 0] 26)
            have rB := (ownsRow_below (hr3.alloc (.cells #[.int .i64 d0, .int .i64 d1, .int .i64 d2] 26)) hb4).alloc (.cells #[.int .i64 0, .int .i64 0, .int .i64 0] 26)
            have rZ := hr4.alloc (.cells #[.int .i64 0, .int .i64 0, .int .i64 0] 26)
            have P5 := P4.alloc (.cells #[.int .i64 0, .int .i64 0, .int .i64 0] 26)
            have hl1 := toks_len ht
            have hl2 := toks_len hu
            have HL1 := Lib.hid (show 0 + ts.length ≤ maxLen by unfold maxLen; omega)
            have HL2 := Lib.hid (show (0 + ts.length) * 40 ≤ 140737488355328 by omega)
            obtain ⟨p2, cc2, ev2⟩ := row_shape hr3
            subst ev2
            have HL3 := Lib.hid (show 0 + ts.length + 1 ≤ maxLen by unfold maxLen; omega)
            have HL4 := Lib.hid (show (0 + ts.length + 1) * 40 ≤ 140737488355328 by omega)
            go_wp2_with (first
              | (at_builtin; refine wpList_append_row rfl (.tmp 67) (.tmp 68) 23 rfl (w4.alloc (.cells #[.int .i64 0, .int .i64 0, .int .i64 0] 26)).heap.size 33 iT _ 4 40 Tryd.underlying23 HI.out.1 HI.out.2.1 HI.out.2.2.1 HI.out.2.2.2 rfl (by decide) (.slice none 0 0) 0 [] rfl (World.ownsRow_nil _ _ _ _) _ v ts.length _ rfl rA (flat_one ts) HL1.out HL2.out (Nat.le_refl _) ?_; intro v5 w5 hown5 hgrow5; have Q5 := (Past.refl (Nat.le_refl (w4.alloc (.cells #[.int .i64 0, .int .i64 0, .int .i64 0] 26)).heap.size)).grownRow hgrow5 (fun j hj => by cases hj))
              | (at_builtin; refine wpList_append_own _ rfl (.tmp 69) (.tmp 77) 23 rfl (w4.alloc (.cells #[.int .i64 0, .int .i64 0, .int .i64 0] 26)).heap.size 33 iT _ 4 40 Tryd.underlying23 HI.out.1 HI.out.2.1 HI.out.2.2.1 HI.out.2.2.2 rfl (by decide) _ _ _ rfl (hown5.alloc _) ⟨w5.heap.size, 0, none⟩ 1 1 [.int .i64 6, .string ⟨#[]⟩, .int .i64 L, .int .i64 ((s.size : Int) - fr + 1)] rfl rfl (lit_cells _ _ _) (tokC_one' _ _ _ _) HL3.out HL4.out (Past.size (Q5.alloc _)) ?_; intro v6 w6 hown6 hgrow6 _))
            have Q6 := (Q5.alloc (.cells #[.int .i64 6, .string ⟨#[]⟩, .int .i64 L, .int .i64 ((s.size : Int) - fr + 1)] 33)).grownRow hgrow6 (fun j hj => (hown5.lt j hj).1)
            have hlines := toks_lines hu
            go_loopw [14, 81] (fun vw t wr => ∃ k : Nat, k ≤ us.length ∧ t = .int .i64 k ∧ Past (w4.alloc (.cells #[.int .i64 0, .int .i64 0, .int .i64 0] 26)).heap.size (w4.alloc (.cells #[.int .i64 0, .int .i64 0, .int .i64 0] 26)) wr ∧ wr.ownsRow (w4.alloc (.cells #[.int .i64 0, .int .i64 0, .int .i64 0] 26)).heap.size 33 4 vw (0 + ts.length + 1 + k) (([] ++ ts.flatMap tokC ++ [.int .i64 6, .string ⟨#[]⟩, .int .i64 L, .int .i64 ((s.size : Int) - fr + 1)]) ++ ((us.take k).map (Tok.down L)).flatMap tokC)) (fun _ t _ => us.length - (intOf t).toNat)
            case atStart => exact ⟨0, Nat.zero_le _, rfl, Q6, by simp only [List.take_zero, List.map_nil, List.flatMap_nil, List.append_nil, Nat.add_zero]; exact hown6⟩
            case round =>
              obtain ⟨k, hk, rfl, hp, hrow⟩ := hrel
              by_cases hkn : k < us.length
              · have r2 := ownsRow_below rB hp.2
                obtain ⟨g, c9, e1, _, _⟩ := r2.form (by omega)
                injection e1 with e1 _ e3
                subst e1 e3
                have q := row_at r2 k hkn
                have hli := hlines us[k] (List.getElem_mem hkn)
                have htk : us.take (k + 1) = us.take k ++ [us[k]] := List.take_succ_eq_append_getElem hkn
                have HTK := Lib.hid htk
                clear htk
                generalize us[k] = u at q hli HTK
                obtain ⟨x0, x1, x2, x3⟩ := q
                have HL5 := Lib.hid (show 0 + ts.length + 1 + k + 1 ≤ maxLen by unfold maxLen; omega)
                have HL6 := Lib.hid (show (0 + ts.length + 1 + k + 1) * 40 ≤ 140737488355328 by omega)
                clear r2
                go_wp2_with (at_builtin; refine wpList_append_own _ rfl (.tmp 90) (.tmp 92) 23 rfl (w4.alloc (.cells #[.int .i64 0, .int .i64 0, .int .i64 0] 26)).heap.size 33 iT _ 4 40 Tryd.underlying23 HI.out.1 HI.out.2.1 HI.out.2.2.1 HI.out.2.2.2 rfl (by decide) _ _ _ rfl ((hrow.alloc _).alloc _) ⟨wr.heap.size + 1, 0, none⟩ 1 1 [.int .i64 u.kind, .string (str u.body), .int .i64 ((u.line : Int) + L), .int .i64 u.col] rfl rfl (lit_cells2 _ _ _ _) (tokC_one' _ _ _ _) HL5.out HL6.out (Past.size ((hp.alloc _).alloc _)) ?_; intro v7 w7 hown7 hgrow7 _)
                have Q7 := ((hp.alloc (.cells #[.int .i64 u.kind, .string (str u.body), .int .i64 ((u.line : Int) + L), .int .i64 u.col] 33)).alloc (.cells #[.int .i64 u.kind, .string (str u.body), .int .i64 ((u.line : Int) + L), .int .i64 u.col] 33)).grownRow hgrow7 (fun j hj => (hrow.lt j hj).1)
                exact ⟨⟨k + 1, by omega, by go_num, Q7, by
                  rw [HTK.out, List.map_append, List.flatMap_append, ← List.append_assoc]
                  exact hown7⟩, by simp [intOf]; omega⟩
              · obtain rfl : k = us.length := by omega
                rw [List.take_length] at hrow
                have hjl : (joined s.data.toList ts us).length = 0 + ts.length + 1 + us.length := by simp [joined]; omega
                have hjc : (joined s.data.toList ts us).flatMap tokC = ([] ++ ts.flatMap tokC ++ [.int .i64 6, .string ⟨#[]⟩, .int .i64 L, .int .i64 ((s.size : Int) - fr + 1)]) ++ (us.map (Tok.down L)).flatMap tokC := by
                  have hc : ((s.size - fr + 1 : Nat) : Int) = (s.size : Int) - fr + 1 := by omega
                  unfold joined
                  rw [HPP.out, List.flatMap_append, List.flatMap_cons]
                  simp only [tokC, hc, List.nil_append, List.append_assoc]
                  rfl
                rw [← hjl, ← hjc] at hrow
                have rY := ownsRow_below rZ hp.2
                have hj1 : (joined s.data.toList ts us).length < 9223372036854775807 := by omega
                clear hjl hjc
                obtain ⟨_, t0, _⟩ := (Three.new w4 (.int .i64 0) (.int .i64 0) (.int .i64 0) 26).below hp.2 (by simp)
                go_wp2_with fail
                refine (same_eq _ v3 _ _ _ _ rY hrow hj1).mono ?_
                rintro e w8 ⟨rfl, hb8⟩
                go_wp2_with fail
                go_ret
                exact ⟨rfl, ((P5.trans (hp.mono (Past.size P5))).on hb8).2⟩
    · have h0' : (c0 != 0) = false := by simpa using h0
      have h1' : (d0 != 0) = true := by simpa using h1
      go_wp2_with fail
      go_ret
      exact ⟨rfl, (P3.alloc _).2⟩
  · have h0' : (c0 != 0) = true := by simpa using h0
    go_wp2_with fail
    go_ret
    exact ⟨rfl, (P3.alloc _).2⟩
end Go.Proofs.YtombkcdoeiffiaaDoor
