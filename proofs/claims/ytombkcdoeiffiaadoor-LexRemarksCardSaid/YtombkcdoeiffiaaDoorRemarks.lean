/- lathelaw03.LexRemarks: its walk. -/
import Derived.Test.YtombkcdoeiffiaaDoorSame
import Derived.Test.YtombkcdoeiffiaaDoorLexP
import Derived.Test.YtombkcdoeiffiaaDoorLexQ
namespace Go.Proofs.YtombkcdoeiffiaaDoor
open Go.RowKit Go.Maps
set_option linter.unusedVariables false
set_option linter.unusedSimpArgs false

theorem toks_remark {a : List UInt8} {ts f} (h : Toks a ts f) (ha : ∀ y ∈ a, y.toNat ≠ 10 ∧ y.toNat ≠ 35) (x : UInt8) (hx : x.toNat = 35) (b : List UInt8) (hb : ∀ y ∈ b, y.toNat ≠ 10) (hl : (a ++ x :: b).length ≤ 65536) : Toks (a ++ x :: b) ts f := by
  rcases h with ⟨h1, _⟩ | ⟨h1, t, h2, h3⟩
  · simp at hl; omega
  · exact .inr ⟨hl, t, lexed_remark h2 ha x hx b hb, h3⟩
theorem toks_ahead {a : List UInt8} {ts f} (h : Toks a ts f) (ha : ∀ y ∈ a, y.toNat ≠ 10 ∧ y.toNat ≠ 35) (x y : UInt8) (hx : isBlank x = true) (hy : isBlank y = true) (hl : a.length + 2 ≤ 65536) : Toks (x :: y :: a) (ts.map (Tok.right 2)) (f.map fun z => ⟨z.code, z.line, z.col + 2⟩) := by
  rcases h with ⟨h1, _⟩ | ⟨h1, t, h2, h3⟩
  · omega
  · refine .inr ⟨by simpa using hl, t.map (Tok.right 2), lexed_blank hx (lexed_blank hy (lexed_right h2 2 fun y hy => (ha y hy).1)), ?_⟩
    subst h3
    cases f <;> simp
theorem take_next (s : ByteArray) (k : Nat) (h : k < s.size) (p : UInt8 → Prop) (hp : ∀ y ∈ s.data.toList.take k, p y) (h2 : p s[k]) : ∀ y ∈ s.data.toList.take (k + 1), p y := by
  intro y hy
  have h' : k < s.data.toList.length := by rw [← Lib.size_eq]; exact h
  rw [List.take_succ_eq_append_getElem h'] at hy
  rcases List.mem_append.1 hy with hy | hy
  · exact hp y hy
  · simp at hy; rw [hy]; exact h2
theorem take_all (s : ByteArray) (p : UInt8 → Prop) (hp : ∀ y ∈ s.data.toList.take s.size, p y) : ∀ y ∈ s.data.toList, p y := by
  rw [Lib.size_eq, List.take_length] at hp
  exact hp
theorem ownsRow_low {w w2 : World} {B C e s n : Nat} {v : Value} {xs : List Value} (h : w.ownsRow B e s v n xs) (hb : Below C w w2) (hc : ∀ j, v.ownBlock = some j → j < C) : w2.ownsRow B e s v n xs := by
  refine ⟨h.1, ?_⟩
  rcases h.2 with hn | ⟨g, cap, cur, hv, hB, hg, h1, h2, h3, h4⟩
  · exact .inl hn
  · exact .inr ⟨g, cap, cur, hv, hB, (hb.block g (hc g (by rw [hv]; rfl))).trans hg, h1, h2, h3, h4⟩
/-- The first k pieces moved back. -/
def mixT (ts : List Tok) (k : Nat) : List Tok := ts.take k ++ (ts.drop k).map (Tok.right 2)
theorem mixT_length (ts : List Tok) (k : Nat) (hk : k ≤ ts.length) : (mixT ts k).length = ts.length := by unfold mixT; simp; omega
theorem mixT_0 (ts : List Tok) : mixT ts 0 = ts.map (Tok.right 2) := by simp [mixT]
theorem mixT_all (ts : List Tok) : mixT ts ts.length = ts := by simp [mixT]
theorem mixT_at (ts : List Tok) (k : Nat) (hk : k < ts.length) : (mixT ts k)[k]'(by rw [mixT_length _ _ (by omega)]; exact hk) = (ts[k]).right 2 := by
  unfold mixT
  rw [List.getElem_append_right (by simp; omega)]
  have : (ts.take k).length = k := by simp; omega
  simp [this]
theorem mixT_next (ts : List Tok) (k : Nat) (hk : k < ts.length) : (mixT ts k).set k ts[k] = mixT ts (k + 1) := by
  unfold mixT
  have h1 : (ts.take k).length = k := by simp; omega
  rw [List.set_append_right _ _ (by omega), h1, Nat.sub_self, List.drop_eq_getElem_cons hk, List.map_cons, List.set_cons_zero, List.take_succ_eq_append_getElem hk, List.append_assoc]
  rfl
theorem flat_set (ts : List Tok) (k : Nat) (t : Tok) (hk : k < ts.length) (h : ts[k].kind = t.kind ∧ ts[k].body = t.body ∧ ts[k].line = t.line) : (ts.flatMap tokC).set (k * 4 + 3) (.int .i64 t.col) = (ts.set k t).flatMap tokC := by
  induction ts generalizing k with
  | nil => simp at hk
  | cons x r ih =>
    cases k with
    | zero =>
      obtain ⟨h1, h2, h3⟩ := h
      simp at h1 h2 h3
      simp [tokC, h1, h2, h3]
    | succ k =>
      have e : (k + 1) * 4 + 3 = (k * 4 + 3) + 4 := by omega
      rw [e, List.flatMap_cons, List.set_cons_succ, List.flatMap_cons, ← ih k (by simpa using hk) (by simpa using h)]
      rfl
set_option maxRecDepth 100000 in
set_option maxHeartbeats 4000000 in
theorem remarks_walk (s r : ByteArray) (hs : s.size ≤ 281474976710656) (hr : r.size ≤ 281474976710656) (W : World) (hE : Errs W) :
    Calls Tryd.prog 6 #[.string s, .string r] W fun e w' => e = .returned (.bool true) ∧ Below W.heap.size W w' := by
  have hP := Past.refl (Nat.le_refl W.heap.size)
  have cl := lives_any W hE
  go_enter Tryd.func6, Tryd.ntmps6
  go_wp2_with ((with_reducible refine cl.mono ?_); rintro e w1 ⟨rfl, hb1⟩)
  have P1 := hP.on hb1
  go_loop [5] (fun a => ∃ k : Nat, k ≤ s.size ∧ a = .int .i64 k ∧ ∀ y ∈ s.data.toList.take k, y.toNat ≠ 10 ∧ y.toNat ≠ 35) (fun a => s.size - (intOf a).toNat)
  case atStart => exact ⟨0, Nat.zero_le _, rfl, fun y hy => by simp at hy⟩
  case round =>
    obtain ⟨k, hk, rfl, hall⟩ := hrel
    have HA := Lib.hid hall
    clear hall
    by_cases hks : k < s.size
    · by_cases h10 : s[k].toNat = 10
      · have e10 : ((s[k].toNat : Int) == 10) = true := by rw [h10]; rfl
        go_wp2_with fail
        go_ret
        exact ⟨rfl, hb1⟩
      · have e10 : ((s[k].toNat : Int) == 10) = false := by simp; omega
        by_cases h35 : s[k].toNat = 35
        · have e35 : ((s[k].toNat : Int) == 35) = true := by rw [h35]; rfl
          go_wp2_with fail
          go_ret
          exact ⟨rfl, hb1⟩
        · have e35 : ((s[k].toNat : Int) == 35) = false := by simp; omega
          have hn := take_next s k hks (fun y => y.toNat ≠ 10 ∧ y.toNat ≠ 35) HA.out ⟨h10, h35⟩
          have HN := Lib.hid hn
          clear hn h10 h35
          go_wp2_with fail
          go_round
          case rel => exact ⟨k + 1, by omega, by go_num, HN.out⟩
          case measure => simp [intOf]; omega
    · obtain rfl : k = s.size := by omega
      have hall := take_all s _ HA.out
      have HS := Lib.hid hall
      clear hall HA
      go_wp2_with fail
      go_loop [6] (fun a => ∃ k : Nat, k ≤ r.size ∧ a = .int .i64 k ∧ ∀ y ∈ r.data.toList.take k, y.toNat ≠ 10) (fun a => r.size - (intOf a).toNat)
      case atStart => exact ⟨0, Nat.zero_le _, rfl, fun y hy => by simp at hy⟩
      case round =>
        obtain ⟨k, hk, rfl, hall⟩ := hrel
        have HA := Lib.hid hall
        clear hall
        by_cases hks : k < r.size
        · by_cases h10 : r[k].toNat = 10
          · have e10 : ((r[k].toNat : Int) == 10) = true := by rw [h10]; rfl
            go_wp2_with fail
            go_ret
            exact ⟨rfl, hb1⟩
          · have e10 : ((r[k].toNat : Int) == 10) = false := by simp; omega
            have hn := take_next r k hks (fun y => y.toNat ≠ 10) HA.out h10
            have HN := Lib.hid hn
            clear hn h10
            go_wp2_with fail
            go_round
            case rel => exact ⟨k + 1, by omega, by go_num, HN.out⟩
            case measure => simp [intOf]; omega
        · obtain rfl : k = r.size := by omega
          have hall := take_all r _ HA.out
          have HR := Lib.hid hall
          clear hall HA
          by_cases hbig : (60000 : Int) < (s.size : Int) + (r.size : Int)
          · go_wp2_with fail
            go_ret
            exact ⟨rfl, hb1⟩
          · go_wp2_with fail
            refine (Tokens_any s (by omega) _ (hE.below hb1 (Nat.le_refl _))).mono ?_
            rintro e w2 ⟨ts, f, v, ht, rfl, hb2, hr2⟩
            have P2 := P1.on hb2
            have ht2 : Toks (s ++ ⟨#[35]⟩ ++ r).data.toList ts f := by
              have e : (s ++ ⟨#[35]⟩ ++ r).data.toList = s.data.toList ++ 35 :: r.data.toList := by simp
              rw [e]
              exact toks_remark ht HS.out 35 rfl _ HR.out (by simp; omega)
            have ht3 : Toks ((⟨#[32, 9]⟩ : ByteArray) ++ s).data.toList (ts.map (Tok.right 2)) (f.map fun z => ⟨z.code, z.line, z.col + 2⟩) := by
              have e : ((⟨#[32, 9]⟩ : ByteArray) ++ s).data.toList = 32 :: 9 :: s.data.toList := by simp
              rw [e]
              exact toks_ahead ht HS.out 32 9 (by decide) (by decide) (by rw [← Lib.size_eq]; omega)
            have z2 : (s ++ ⟨#[35]⟩ ++ r).size < 9223372036854775807 := by rw [ByteArray.size_append, ByteArray.size_append]; have : (⟨#[35]⟩ : ByteArray).size = 1 := rfl; omega
            have z3 : ((⟨#[32, 9]⟩ : ByteArray) ++ s).size < 9223372036854775807 := by rw [ByteArray.size_append]; have : (⟨#[32, 9]⟩ : ByteArray).size = 2 := rfl; omega
            cases f with
            | some x =>
              obtain ⟨hc, rfl, hc6⟩ := toks_codes ht
              unfold fltV
              go_wp2_with fail
              refine (Tokens_any _ z2 _ (hE.below (P2.alloc _).2 (Nat.le_refl _))).mono ?_
              rintro e w3 ⟨ts', f', v2, hu, rfl, hb3, hr3⟩
              obtain ⟨rfl, rfl⟩ := hu.unique ht2
              have P3 := (P2.alloc _).on hb3
              unfold fltV
              go_wp2_with fail
              refine (Tokens_any _ z3 _ (hE.below (P3.alloc _).2 (Nat.le_refl _))).mono ?_
              rintro e w4 ⟨ts', f', v3, hu, rfl, hb4, hr4⟩
              obtain ⟨rfl, rfl⟩ := hu.unique ht3
              have P4 := (P3.alloc _).on hb4
              obtain ⟨s1, a0, a1, a2, _⟩ := (((Three.new w2 (.int .i64 x.code) (.int .i64 x.line) (.int .i64 x.col) 26).below hb3 (by simp)).alloc (.cells #[.int .i64 x.code, .int .i64 x.line, .int .i64 x.col] 26)).below hb4 (by have := hb3.size; simp at this ⊢; omega)
              obtain ⟨s2, b0, b1, b2, _⟩ := (Three.new w3 (.int .i64 x.code) (.int .i64 x.line) (.int .i64 x.col) 26).below hb4 (by simp)
              have hcol := (toks_cols ht).2 x rfl
              have hc0 : ((x.code : Int) != 0) = true := by simp; omega
              dsimp only [Option.map_some]
              unfold fltV
              go_wp2_with fail
              have rA := (ownsRow_below ((ownsRow_below (hr2.alloc (.cells #[.int .i64 x.code, .int .i64 x.line, .int .i64 x.col] 26)) hb3).alloc (.cells #[.int .i64 x.code, .int .i64 x.line, .int .i64 x.col] 26)) hb4).alloc (.cells #[.int .i64 x.code, .int .i64 x.line, .int .i64 ((x.col : Int) + 2)] 26)
              have rB := (ownsRow_below (hr3.alloc (.cells #[.int .i64 x.code, .int .i64 x.line, .int .i64 x.col] 26)) hb4).alloc (.cells #[.int .i64 x.code, .int .i64 x.line, .int .i64 ((x.col : Int) + 2)] 26)
              refine (same_eq _ v v2 _ _ [] rA rB (by simp)).mono ?_
              rintro e w5 ⟨rfl, hb5⟩
              obtain ⟨_, d0, d1, d2, _⟩ := (Three.new w4 (.int .i64 x.code) (.int .i64 x.line) (.int .i64 ((x.col : Int) + 2)) 26).below hb5 (by simp)
              have q1 := fun (o : Nat) (u : Value) (h : w4.cell? ⟨w2.heap.size, o, none⟩ = some u) => (hb5.cell (p := ⟨w2.heap.size, o, none⟩) (by simp; omega)).trans ((((Below.refl w4.heap.size w4).alloc (Nat.le_refl _) (.cells #[.int .i64 x.code, .int .i64 x.line, .int .i64 ((x.col : Int) + 2)] 26)).cell (p := ⟨w2.heap.size, o, none⟩) s1).trans h)
              have a0' := q1 _ _ a0
              have a1' := q1 _ _ a1
              have a2' := q1 _ _ a2
              clear q1 rA rB
              go_wp2_with fail
              go_ret
              exact ⟨rfl, ((P4.alloc _).on hb5).2⟩
            | none =>
              unfold fltV
              go_wp2_with fail
              refine (Tokens_any _ z2 _ (hE.below (P2.alloc _).2 (Nat.le_refl _))).mono ?_
              rintro e w3 ⟨ts', f', v2, hu, rfl, hb3, hr3⟩
              obtain ⟨e2, rfl⟩ := hu.unique ht2
              have e2 := e2.symm
              subst e2
              have P3 := (P2.alloc _).on hb3
              unfold fltV
              go_wp2_with fail
              refine (Tokens_any _ z3 _ (hE.below (P3.alloc _).2 (Nat.le_refl _))).mono ?_
              rintro e w4 ⟨ts3, f', v3, hu, rfl, hb4, hr4⟩
              obtain ⟨e3, rfl⟩ := hu.unique ht3
              subst e3
              rw [List.length_map] at hr4
              have P4 := (P3.alloc _).on hb4
              have hcol := (toks_cols ht).1
              obtain ⟨s1, a0, a1, a2, _⟩ := (((Three.new w2 (.int .i64 0) (.int .i64 0) (.int .i64 0) 26).below hb3 (by simp)).alloc (.cells #[.int .i64 0, .int .i64 0, .int .i64 0] 26)).below hb4 (by have := hb3.size; simp at this ⊢; omega)
              obtain ⟨s2, b0, b1, b2, _⟩ := (Three.new w3 (.int .i64 0) (.int .i64 0) (.int .i64 0) 26).below hb4 (by simp)
              dsimp only [Option.map_none]
              unfold fltV
              go_wp2_with fail
              have rA := (ownsRow_below ((ownsRow_below (hr2.alloc (.cells #[.int .i64 0, .int .i64 0, .int .i64 0] 26)) hb3).alloc (.cells #[.int .i64 0, .int .i64 0, .int .i64 0] 26)) hb4).alloc (.cells #[.int .i64 0, .int .i64 0, .int .i64 0] 26)
              have rB := (ownsRow_below (hr3.alloc (.cells #[.int .i64 0, .int .i64 0, .int .i64 0] 26)) hb4).alloc (.cells #[.int .i64 0, .int .i64 0, .int .i64 0] 26)
              have hts := toks_len ht
              refine (same_eq _ v v2 _ _ ts rA rB (by omega)).mono ?_
              rintro e w5 ⟨rfl, hb5⟩
              obtain ⟨_, d0, d1, d2, _⟩ := (Three.new w4 (.int .i64 0) (.int .i64 0) (.int .i64 0) 26).below hb5 (by simp)
              have q1 := fun (o : Nat) (u : Value) (h : w4.cell? ⟨w2.heap.size, o, none⟩ = some u) => (hb5.cell (p := ⟨w2.heap.size, o, none⟩) (by simp; omega)).trans ((((Below.refl w4.heap.size w4).alloc (Nat.le_refl _) (.cells #[.int .i64 0, .int .i64 0, .int .i64 0] 26)).cell (p := ⟨w2.heap.size, o, none⟩) s1).trans h)
              have a0' := q1 _ _ a0
              have a1' := q1 _ _ a1
              have a2' := q1 _ _ a2
              have rC := ownsRow_below (hr4.alloc (.cells #[.int .i64 0, .int .i64 0, .int .i64 0] 26)) hb5
              have rA5 := ownsRow_below rA hb5
              have hvlt : ∀ j, v.ownBlock = some j → j < (w3.alloc (.cells #[.int .i64 0, .int .i64 0, .int .i64 0] 26)).heap.size := fun j hj => by have h1 := (hr2.lt j hj).2; have h2 := hb3.size; simp at h2 ⊢; omega
              clear q1 rA rB hr2 hr3
              obtain ⟨pc, cc, ev3⟩ := row_shape rC
              rw [ev3] at rC
              go_wp2_with fail
              go_loopw [94] (fun t wr => ∃ k : Nat, k ≤ ts.length ∧ t = .int .i64 k ∧ Past (w3.alloc (.cells #[.int .i64 0, .int .i64 0, .int .i64 0] 26)).heap.size w5 wr ∧ wr.ownsRow (w3.alloc (.cells #[.int .i64 0, .int .i64 0, .int .i64 0] 26)).heap.size 33 4 (.slice pc ts.length cc) ts.length ((mixT ts k).flatMap tokC)) (fun t _ => ts.length - (intOf t).toNat)
              case atStart => exact ⟨0, Nat.zero_le _, rfl, Past.refl (by have := hb4.size; have := hb5.size; simp at *; omega), by rw [mixT_0]; exact rC⟩
              case round =>
                obtain ⟨k, hk, rfl, hp, hrow⟩ := hrel
                by_cases hkn : k < ts.length
                · obtain ⟨g, c1, e1, hg, _⟩ := hrow.form (by omega)
                  injection e1 with e1 _ e3
                  subst e1 e3
                  have hml := mixT_length ts k hk
                  have hrow' := hrow
                  rw [← hml] at hrow'
                  have q := (row_at hrow' k (by rw [hml]; exact hkn)).2.2.2
                  rw [mixT_at ts k hkn] at q
                  have hct := hcol ts[k] (List.getElem_mem hkn)
                  have fz := hrow.frozenAt (k * 4 + 3)
                  have st := (hrow.stored (k * 4 + 3) (.int .i64 (ts[k].col : Nat))).1
                  rw [flat_set (mixT ts k) k ts[k] (by rw [hml]; exact hkn) (by rw [mixT_at ts k hkn]; exact ⟨rfl, rfl, rfl⟩), mixT_next ts k hkn] at st
                  have q' : wr.cell? ⟨g, k * 4 + 3, none⟩ = some (.int .i64 ((ts[k].col : Int) + 2)) := q
                  have ST := Lib.hid st
                  have PP := hp.set (a := ⟨g, k * 4 + 3, none⟩) hg (.int .i64 (ts[k].col : Nat))
                  clear q hrow' st hml
                  generalize hz : ts[k].col = z at *
                  go_wp2_with fail
                  exact ⟨⟨k + 1, by omega, by go_num, PP, ST.out⟩, by simp [intOf]; omega⟩
                · obtain rfl : k = ts.length := by omega
                  rw [mixT_all] at hrow
                  go_wp2_with fail
                  refine (same_eq _ v _ _ _ ts (ownsRow_low rA5 hp.2 hvlt) hrow (by omega)).mono ?_
                  rintro e w6 ⟨rfl, hb6⟩
                  go_wp2_with fail
                  go_ret
                  exact ⟨rfl, ((((P4.alloc _).on hb5).trans (hp.mono (by have h1 := P3.size; simp; omega))).on hb6).2⟩
end Go.Proofs.YtombkcdoeiffiaaDoor
