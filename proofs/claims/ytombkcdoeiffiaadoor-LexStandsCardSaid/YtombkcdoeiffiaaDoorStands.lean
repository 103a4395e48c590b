/- lathelaw03.LexStands: its walk. -/
import Derived.Test.YtombkcdoeiffiaaDoorSame
import Derived.Test.YtombkcdoeiffiaaDoorLexS
import Derived.Test.YtombkcdoeiffiaaDoorLexQ
import Derived.Deep.AppendLies
import Derived.RegionTactic
namespace Go.Proofs.YtombkcdoeiffiaaDoor
open Go.RowKit Go.Maps
set_option linter.unusedVariables false
set_option linter.unusedSimpArgs false

def intsC (l : List Nat) : List Value := l.map fun n => .int .i64 (n : Nat)
theorem ints_one (n : Int) : ∀ u ∈ [Value.int .i64 n], u.oneCell' = true := by intro u hu; simp at hu; subst hu; rfl
theorem infoN : (Tryd.prog.info? 3).map (fun i => (i.zero, i.size, i.bytes)) = some (some (.int .i64 0), 1, 8) := by kernel_rfl

set_option maxRecDepth 100000 in
set_option maxHeartbeats 4000000 in
theorem stands_walk (s : ByteArray) (hs : s.size ≤ 281474976710656) (W : World) (hE : Errs W) :
    Calls Tryd.prog 4 #[.string s] W fun e w' => e = .returned (.bool true) ∧ Below W.heap.size W w' := by
  have hP := Past.refl (Nat.le_refl W.heap.size)
  have cl := lives_any W hE
  obtain ⟨iN, hiN, hz0, hz1, hz2⟩ := info_parts infoN
  have HI := Lib.hid (And.intro hiN (And.intro hz0 (And.intro hz1 hz2)))
  clear hiN hz0 hz1 hz2
  go_enter Tryd.func4, Tryd.ntmps4
  go_wp2_with ((with_reducible refine cl.mono ?_); rintro e w1 ⟨rfl, hb1⟩)
  have P1 := hP.on hb1
  refine (Tokens_any s (by omega) _ (hE.below hb1 (Nat.le_refl _))).mono ?_
  rintro e w2 ⟨ts, f, v, ht, rfl, hb2, hr2⟩
  have P2 := P1.on hb2
  cases f with
  | some x =>
    obtain ⟨hc, rfl, hc6⟩ := toks_codes ht
    obtain ⟨pp, cap, rfl⟩ := row_shape hr2
    have hiff : ((x.code : Int) == 6) = decide ((65536 : Int) < (s.size : Int)) := by
      rcases ht with ⟨h1, _, h2⟩ | ⟨h1, t, h2, _⟩
      · injection h2 with h2; subst h2
        rw [← Lib.size_eq] at h1
        simp; omega
      · rw [← Lib.size_eq] at h1
        rcases lexed_codes h2 x rfl with h3 | h3 <;> simp [h3] <;> omega
    unfold fltV
    have hc0 : ((x.code : Int) != 0) = true := by simp; omega
    go_wp2_with fail
    go_ret
    exact ⟨rfl, (P2.alloc _).2⟩
  | none =>
    have hls : s.size ≤ 65536 := by
      rcases ht with ⟨_, _, h2⟩ | ⟨h1, _⟩
      · cases h2
      · rw [Lib.size_eq]; exact h1
    have hB := Nat.le_refl (w2.alloc (.cells #[.int .i64 0, .int .i64 0, .int .i64 0] 26)).heap.size
    unfold fltV
    go_wp2_with (at_builtin; refine wpList_append_own _ rfl (.tmp 36) (.tmp 37) 35 rfl (w2.alloc (.cells #[.int .i64 0, .int .i64 0, .int .i64 0] 26)).heap.size 3 iN _ 1 8 Tryd.underlying35 HI.out.1 HI.out.2.1 HI.out.2.2.1 HI.out.2.2.2 rfl (by decide) (.slice none 0 0) 0 [] rfl (World.ownsRow_nil _ _ _ _) ⟨w2.heap.size + 1, 0, none⟩ 1 1 [.int .i64 0] rfl rfl (lit_cells2 w2 (.cells #[.int .i64 0, .int .i64 0, .int .i64 0] 26) _ _) (ints_one 0) (by unfold maxLen; omega) (by omega) (Past.size ((Past.refl hB).alloc _)) ?_; intro v3 w3 hown3 hgrow3 _)
    have Q3 := ((Past.refl hB).alloc (.cells #[.int .i64 0] 3)).grownRow hgrow3 (fun j hj => by cases hj)
    go_loopw [5, 6] (fun vs t wr => ∃ k : Nat, k ≤ s.size ∧ t = .int .i64 k ∧ Past (w2.alloc (.cells #[.int .i64 0, .int .i64 0, .int .i64 0] 26)).heap.size (w2.alloc (.cells #[.int .i64 0, .int .i64 0, .int .i64 0] 26)) wr ∧ wr.ownsRow (w2.alloc (.cells #[.int .i64 0, .int .i64 0, .int .i64 0] 26)).heap.size 3 1 vs (startsTo s.data.toList k).length (intsC (startsTo s.data.toList k))) (fun _ t _ => s.size - (intOf t).toNat)
    case atStart => exact ⟨0, Nat.zero_le _, rfl, Q3, hown3⟩
    case round =>
      obtain ⟨k, hk, rfl, hp, hrow⟩ := hrel
      by_cases hks : k < s.size
      · have hst : startsTo s.data.toList (k + 1) = if s[k].toNat = 10 then startsTo s.data.toList k ++ [k + 1] else startsTo s.data.toList k := by
          have h' : k < s.data.toList.length := by rw [← Lib.size_eq]; exact hks
          have e : s.data.toList[k] = s[k] := rfl
          simp only [startsTo, List.getElem?_eq_getElem h', Option.map_some, Option.some.injEq, e]
        have hsb := (starts_bound s.data.toList k).1
        by_cases h10 : s[k].toNat = 10
        · have e10 : ((s[k].toNat : Int) == 10) = true := by rw [h10]; rfl
          rw [if_pos h10] at hst
          have HST := Lib.hid hst
          clear hst h10
          have HL1 := Lib.hid (show (startsTo s.data.toList k).length + 1 ≤ maxLen by unfold maxLen; omega)
          have HL2 := Lib.hid (show ((startsTo s.data.toList k).length + 1) * 8 ≤ 140737488355328 by omega)
          go_wp2_with (at_builtin; refine wpList_append_own _ rfl (.tmp 49) (.tmp 52) 35 rfl (w2.alloc (.cells #[.int .i64 0, .int .i64 0, .int .i64 0] 26)).heap.size 3 iN _ 1 8 Tryd.underlying35 HI.out.1 HI.out.2.1 HI.out.2.2.1 HI.out.2.2.2 rfl (by decide) _ _ _ rfl (hrow.alloc _) ⟨wr.heap.size, 0, none⟩ 1 1 [.int .i64 ((k : Int) + 1)] rfl rfl (lit_cells _ _ _) (ints_one _) HL1.out HL2.out (Past.size (hp.alloc _)) ?_; intro v7 w7 hown7 hgrow7 _)
          have Q7 := (hp.alloc (.cells #[.int .i64 ((k : Int) + 1)] 3)).grownRow hgrow7 (fun j hj => (hrow.lt j hj).1)
          exact ⟨⟨k + 1, by omega, by go_num, Q7, by
            rw [HST.out, List.length_append]
            have e : intsC (startsTo s.data.toList k ++ [k + 1]) = intsC (startsTo s.data.toList k) ++ [.int .i64 ((k : Int) + 1)] := by simp [intsC]
            rw [e]
            exact hown7⟩, by simp [intOf]; omega⟩
        · have e10 : ((s[k].toNat : Int) == 10) = false := by simp; omega
          rw [if_neg h10] at hst
          have HST := Lib.hid hst
          clear hst h10
          go_wp2_with fail
          exact ⟨⟨k + 1, by omega, by go_num, hp, by rw [HST.out]; exact hrow⟩, by simp [intOf]; omega⟩
      · obtain rfl : k = s.size := by omega
        rw [show startsTo s.data.toList s.size = startsTo s.data.toList s.data.toList.length by rw [← Lib.size_eq]] at hrow
        have hr4 := ownsRow_below (hr2.alloc (.cells #[.int .i64 0, .int .i64 0, .int .i64 0] 26)) hp.2
        obtain ⟨pp, cap, ev⟩ := row_shape hr4
        subst ev
        go_wp2_with fail
        have hg0 : Gone s.data.toList ts 0 1 := by
          rcases ht with ⟨_, _, h2⟩ | ⟨h1, t, h2, h3⟩
          · cases h2
          · simp at h3; subst h3
            exact ⟨Nat.zero_le _, 1, h2, rfl⟩
        have htl := toks_len ht
        go_loopw [7, 8, 56] (fun x y t wr' => ∃ (k a j : Nat) (la : Int), k ≤ ts.length ∧ t = .int .i64 k ∧ x = .int .i64 la ∧ y = .int .i64 j ∧ la < a ∧ -1 ≤ la ∧ Past wr.heap.size wr wr' ∧ Gone s.data.toList (ts.drop k) a (j + 1)) (fun _ _ t _ => ts.length - (intOf t).toNat)
        case atStart => exact ⟨0, 0, 0, -1, Nat.zero_le _, rfl, rfl, rfl, by decide, by decide, Past.refl (Nat.le_refl _), hg0⟩
        case round =>
          obtain ⟨k, a, j, la, hk, rfl, rfl, rfl, hla, hla1, hp2, hgone⟩ := hrel
          by_cases hkn : k < ts.length
          · have rT := ownsRow_below hr4 hp2.2
            have rS := ownsRow_below hrow hp2.2
            obtain ⟨g, c9, e1, _, _⟩ := rT.form (by omega)
            injection e1 with e1 _ e3
            subst e1 e3
            obtain ⟨x0, x1, x2, x3⟩ := row_at rT k hkn
            have hdr : ts.drop k = ts[k] :: ts.drop (k + 1) := List.drop_eq_getElem_cons hkn
            rw [hdr] at hgone
            have hcols := (toks_cols ht).1 ts[k] (List.getElem_mem hkn)
            generalize ts[k] = t at x0 x1 x2 x3 hgone hcols
            obtain ⟨p, hap, htl1, _, hjl, hc1, hc2, hstart, hn0, hpn, htext, hgn⟩ := hgone.next
            obtain ⟨gs, cs, e5, _, hgs⟩ := rS.form (by omega)
            have hS := rS
            rw [e5] at hS
            have hcell := hS.cellAt j (by omega)
            have hcell2 : wr.cell? ⟨gs, j, none⟩ = some (.int .i64 ((p : Int) + 1 - t.col)) := by
              rw [hcell]
              unfold intsC
              rw [List.getElem?_map]
              rw [Nat.add_sub_cancel] at hstart
              rw [hstart]
              have : ((p + 1 - t.col : Nat) : Int) = (p : Int) + 1 - t.col := by omega
              simp [this]
            subst e5
            have x2' : wr.cell? ⟨g, k * 4 + 2, none⟩ = some (.int .i64 ((j : Int) + 1)) := by rw [x2, htl1]; rfl
            clear x2 rT rS hS hcell hstart htl1 hdr hgone
            obtain ⟨n, en⟩ : ∃ n, n = (headOf t.kind ++ t.body).length := ⟨_, rfl⟩
            rw [← en] at hn0 hpn htext hgn
            obtain ⟨sv, hsv⟩ : ∃ sv, sv = str (headOf t.kind ++ t.body) := ⟨_, rfl⟩
            have hz : sv.size = n := by rw [hsv, en, Lib.size_eq]; rfl
            have hsvd : sv.data.toList = headOf t.kind ++ t.body := by rw [hsv]; rfl
            have hne := empty_iff sv false (by rw [hz]; exact decide_eq_false (by omega))
            rw [← Lib.size_eq] at hpn
            have hex : s.extract p (p + n) = sv := by
              rw [hsv]
              apply str_of
              rw [mid_data, Nat.add_sub_cancel_left]
              exact htext
            have hcat : ∀ hd : List UInt8, hd = headOf t.kind → (⟨hd.toArray⟩ : ByteArray) ++ str t.body = sv := by
              intro hd h
              rw [hsv, ← h]
              have := str_of ((⟨hd.toArray⟩ : ByteArray) ++ str t.body) (hd ++ t.body) (by simp [str])
              exact this
            have GN := Lib.hid hgn
            have HC := Lib.hid hcat
            have hlines : (j : Int) + 1 ≤ ((startsTo s.data.toList s.data.toList.length).length : Int) := by omega
            have hsb : (startsTo s.data.toList s.data.toList.length).length ≤ s.size + 1 := by
              have h := (starts_bound s.data.toList s.data.toList.length).1
              rw [Lib.size_eq]; exact h
            have hbz : (str t.body).size ≤ 65536 := by
              have h1 : (str t.body).size = t.body.length := Lib.size_eq _
              rw [List.length_append] at en
              omega
            have hat : (p : Int) + 1 - t.col + t.col - 1 = p := by omega
            have hjb : j ≤ 65537 := by omega
            have hpb : p ≤ 65536 := by omega
            have hnb : n ≤ 65536 := by omega
            have hj : (j : Int) < ((startsTo s.data.toList s.data.toList.length).length : Int) := by omega
            clear hgn hcat htext hsv hsvd en hjl
            generalize (startsTo s.data.toList s.data.toList.length).length = NS at *
            by_cases hk3 : t.kind = 3
            · have hcc := HC.out [37] (by rw [hk3]; rfl)
              go_wp2_with fail
              go_quiet (fail)
              go_wp2_with fail
              exact ⟨⟨k + 1, p + n, j, (p : Int) + n - 1, by omega, by go_num, by go_num, by go_num, by omega, by omega, (hp2.alloc _).drewN _, by have h := GN.out; simpa [hk3] using h⟩, by simp [intOf]; omega⟩
            · by_cases hk4 : t.kind = 4
              · have hcc := HC.out [64] (by rw [hk4]; rfl)
                go_wp2_with fail
                go_quiet (fail)
                go_wp2_with fail
                exact ⟨⟨k + 1, p + n, j, (p : Int) + n - 1, by omega, by go_num, by go_num, by go_num, by omega, by omega, (hp2.alloc _).drewN _, by have h := GN.out; simpa [hk4] using h⟩, by simp [intOf]; omega⟩
              · by_cases hk6 : t.kind = 6
                · have hcc := HC.out [10] (by rw [hk6]; rfl)
                  go_wp2_with fail
                  go_quiet (fail)
                  go_wp2_with fail
                  exact ⟨⟨k + 1, p + n, j + 1, (p : Int) + n - 1, by omega, by go_num, by go_num, by go_num, by omega, by omega, (hp2.alloc _).drewN _, by have h := GN.out; simpa [hk6] using h⟩, by simp [intOf]; omega⟩
                · have hcc := HC.out [] (by unfold headOf; rw [if_neg hk3, if_neg hk4, if_neg hk6])
                  have f3 : ((t.kind : Int) == 3) = false := by simp; omega
                  have f4 : ((t.kind : Int) == 4) = false := by simp; omega
                  have f6 : ((t.kind : Int) == 6) = false := by simp; omega
                  go_wp2_with fail
                  go_quiet (fail)
                  go_wp2_with fail
                  exact ⟨⟨k + 1, p + n, j, (p : Int) + n - 1, by omega, by go_num, by go_num, by go_num, by omega, by omega, (hp2.alloc _).drewN _, by have h := GN.out; simpa [hk6] using h⟩, by simp [intOf]; omega⟩
          · obtain rfl : k = ts.length := by omega
            rw [List.drop_length] at hgone
            have hfin := hgone.last
            have rS := ownsRow_below hrow hp2.2
            obtain ⟨ps, cs, e5⟩ := row_shape rS
            subst e5
            have hjb : j ≤ 65537 := by
              have h := (starts_bound s.data.toList s.data.toList.length).1
              rw [hfin, ← Lib.size_eq] at h
              omega
            have P5 := (P2.alloc (.cells #[.int .i64 0, .int .i64 0, .int .i64 0] 26)).trans (hp.mono (Past.size (P2.alloc _)))
            have P6 := P5.trans (hp2.mono (Past.size P5))
            rw [hfin] at *
            go_wp2_with fail
            go_ret
            exact ⟨rfl, P6.2⟩
end Go.Proofs.YtombkcdoeiffiaaDoor
