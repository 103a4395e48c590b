/- RefinePacks: the walk. -/
import Derived.Test.YtglkbnckfkliaaaRfN
import Derived.Test.YtglkbnckfkliaaaBaseE
namespace Go.Proofs.Ytglkbnckfkliaaa
open Go.RowKit Go.Maps
set_option linter.unusedVariables false
set_option linter.unusedSimpArgs false
set_option maxRecDepth 100000
set_option maxHeartbeats 4000000

theorem grown_none {w w' : World} (hb : Below w.heap.size w w') : w.grownBy w' none := ⟨hb.os, hb.tape, hb.output, hb.size, fun k hk _ => hb.block k hk⟩
theorem own_later {w w' : World} {B e m n : Nat} {v : Value} {xs : List Value} (h : w.ownsRow B e m v n xs) (hb : Below w.heap.size w w') : w'.ownsRow B e m v n xs := kept_none h (grown_none hb)
theorem bytes_in {B n : Nat} {w : World} {p : Option Addr} {c : Nat} {ys : List By} (h : w.ownsRow B 26 5 (.slice p n c) n (ys.flatMap byC)) (hn : n = ys.length) : BysIn w.heap.size w p n c ys := by
  subst hn
  have hc : ys.length ≤ c ∧ c ≤ maxLen := by
    rcases h.2 with ⟨e, h0⟩ | ⟨g, cap, cur, e, _, _, h1, h2, _⟩
    · injection e with e1 e2 e3; exact ⟨by omega, by rw [e3]; unfold maxLen; omega⟩
    · injection e with e1 e2 e3; subst e3; exact ⟨h1, h2⟩
  refine ⟨rfl, hc.1, hc.2, fun j u hu => ?_, fun _ _ => trivial⟩
  rcases id h.2 with ⟨e, h0⟩ | ⟨g, cap, cur, e, _⟩
  · have : ys = [] := List.eq_nil_of_length_eq_zero h0
    subst this
    simp at hu
  · injection e with e1 e2 e3
    subst e1
    exact ⟨_, rfl, (h.lt g rfl).2, h.cells rfl j u hu⟩

theorem own_front {T : TypeId} {E B : Nat} {w : World} {p : Option Addr} {n c : Nat} {xs : List Value} (h : w.ownsRow B T E (.slice p n c) n xs) : (p = none ∨ ∃ g, p = some ⟨g, 0, none⟩) := by
  rcases h.2 with ⟨h0, _⟩ | ⟨g, cap, cur, h0, _⟩
  · injection h0 with h0
    exact .inl h0
  · injection h0 with h0
    exact .inr ⟨g, h0⟩
theorem below_set5 {W w : World} {g o0 o1 o2 o3 o4 : Nat} {v0 v1 v2 v3 v4 : Value} (h : Below W.heap.size W w) (hg : W.heap.size ≤ g) : Below W.heap.size W (((((w.setCell ⟨g, o0, none⟩ v0).setCell ⟨g, o1, none⟩ v1).setCell ⟨g, o2, none⟩ v2).setCell ⟨g, o3, none⟩ v3).setCell ⟨g, o4, none⟩ v4) :=
  ((((h.setCell (p := ⟨g, o0, none⟩) hg v0).setCell (p := ⟨g, o1, none⟩) hg v1).setCell (p := ⟨g, o2, none⟩) hg v2).setCell (p := ⟨g, o3, none⟩) hg v3).setCell (p := ⟨g, o4, none⟩) hg v4
theorem Fr.two {W w : World} {bs : List (Nat × List Value)} (F : Fr W bs w) : Below W.heap.size W w := F.1
theorem refinePacks_walk (t : Int) (v w : Vl) (q q' : Option Addr) (c c' : Nat) (a b : List By) (W : World) (hv : v.ok) (hw : w.ok) (ha : BysIn W.heap.size W q a.length c a) (hb : BysIn W.heap.size W q' b.length c' b) (oa : ∀ y ∈ a, y.ok) (ob : ∀ y ∈ b, y.ok) :
    Calls Try.prog 5 #[.int .i64 t, v.val, w.val, .slice q a.length c, .slice q' b.length c'] W fun e w' => e = .returned (.bool true) ∧ Below W.heap.size W w' := by
  have c0 := fun w => lives_any w
  have cN1 : ∀ w1, Calls Try.prog 14 #[.int .i64 t, v.val] w1 fun e w' => e = .returned (norm t v).val ∧ Below w1.heap.size w1 w' := fun w1 => Norm_any t v w1 hv
  have cN2 : ∀ w1, Calls Try.prog 14 #[.int .i64 t, w.val] w1 fun e w' => e = .returned (norm t w).val ∧ Below w1.heap.size w1 w' := fun w1 => Norm_any t w w1 hw
  have cV := fun w1 => Value_any (norm t v) (norm t w) w1
  have cP1 : ∀ w1, Calls Try.prog 15 #[.int .i64 t, v.val] w1 fun e w' => ∃ p c, e = .returned (.slice p (wd t) c) ∧ BysIn w'.heap.size w' p (wd t) c (pack t v) ∧ Below w1.heap.size w1 w' := fun w1 => by
    refine (Pack_any t v w1 hv).mono ?_
    rintro e w' ⟨p, c, rfl, h, hb⟩
    exact ⟨p, c, rfl, bytes_in h (pack_len t v).symm, hb⟩
  have cP2 : ∀ w1, Calls Try.prog 15 #[.int .i64 t, w.val] w1 fun e w' => ∃ p c, e = .returned (.slice p (wd t) c) ∧ BysIn w'.heap.size w' p (wd t) c (pack t w) ∧ Below w1.heap.size w1 w' := fun w1 => by
    refine (Pack_any t w w1 hw).mono ?_
    rintro e w' ⟨p, c, rfl, h, hb⟩
    exact ⟨p, c, rfl, bytes_in h (pack_len t w).symm, hb⟩
  have hM : refV (norm t v) (norm t w) = true → ∀ i (h1 : i < (pack t v).length) (h2 : i < (pack t w).length), refY (pack t v)[i] (pack t w)[i] = true := pack_mono
  have hlv := pack_len t v
  have hlw := pack_len t w
  have hwd := wd_le t
  generalize pack t v = xv at cP1 hM hlv
  generalize pack t w = xw at cP2 hM hlw
  obtain ⟨d, ed⟩ : ∃ d, wd t = d := ⟨_, rfl⟩
  simp only [ed] at cP1 cP2 hlv hlw hwd
  clear ed
  obtain ⟨z, ez⟩ : ∃ z, refV (norm t v) (norm t w) = z := ⟨_, rfl⟩
  rw [ez] at hM
  simp only [ez] at cV
  clear ez
  generalize norm t v = nv at cN1 cV
  generalize norm t w = nw at cN2 cV
  obtain ⟨vk, vb, vbk, vo⟩ := v
  obtain ⟨wk, wb, wbk, wo⟩ := w
  obtain ⟨nk, nb, nbk, no⟩ := nv
  obtain ⟨mk, mb, mbk, mo⟩ := nw
  replace cN1 : ∀ w1, Calls Try.prog 14 #[.int .i64 t, .agg #[.int .i64 vk, .int .u64 vb, .int .i64 vbk, .int .i64 vo]] w1 fun e w' => e = .returned (.agg #[.int .i64 nk, .int .u64 nb, .int .i64 nbk, .int .i64 no]) ∧ Below w1.heap.size w1 w' := cN1
  replace cN2 : ∀ w1, Calls Try.prog 14 #[.int .i64 t, .agg #[.int .i64 wk, .int .u64 wb, .int .i64 wbk, .int .i64 wo]] w1 fun e w' => e = .returned (.agg #[.int .i64 mk, .int .u64 mb, .int .i64 mbk, .int .i64 mo]) ∧ Below w1.heap.size w1 w' := cN2
  replace cV : ∀ w1, Calls Try.prog 8 #[.agg #[.int .i64 nk, .int .u64 nb, .int .i64 nbk, .int .i64 no], .agg #[.int .i64 mk, .int .u64 mb, .int .i64 mbk, .int .i64 mo]] w1 fun e w' => e = .returned (.bool z) ∧ Below w1.heap.size w1 w' := cV
  replace cP1 : ∀ w1, Calls Try.prog 15 #[.int .i64 t, .agg #[.int .i64 vk, .int .u64 vb, .int .i64 vbk, .int .i64 vo]] w1 fun e w' => ∃ p c, e = .returned (.slice p d c) ∧ BysIn w'.heap.size w' p d c xv ∧ Below w1.heap.size w1 w' := cP1
  replace cP2 : ∀ w1, Calls Try.prog 15 #[.int .i64 t, .agg #[.int .i64 wk, .int .u64 wb, .int .i64 wbk, .int .i64 wo]] w1 fun e w' => ∃ p c, e = .returned (.slice p d c) ∧ BysIn w'.heap.size w' p d c xw ∧ Below w1.heap.size w1 w' := cP2
  have F := ((Fr.start W).push (g := W.heap.size) (by simp) [.int .i64 vk, .int .u64 vb, .int .i64 vbk, .int .i64 vo] 24).push (g := W.heap.size + 1) (by simp) [.int .i64 wk, .int .u64 wb, .int .i64 wbk, .int .i64 wo] 24
  have HF := Lib.hid F
  have HA := Lib.hid ha
  have HB := Lib.hid hb
  have k1 := ha.2.1
  have k2 := ha.2.2.1
  have k3 := hb.2.1
  have k4 := hb.2.2.1
  unfold maxLen at k2 k4
  have HOK := Lib.hid (And.intro oa ob)
  clear F ha hb oa ob
  show Calls _ _ #[.int .i64 t, .agg #[.int .i64 vk, .int .u64 vb, .int .i64 vbk, .int .i64 vo], .agg #[.int .i64 wk, .int .u64 wb, .int .i64 wbk, .int .i64 wo], .slice q a.length c, .slice q' b.length c'] W _
  by_cases g1 : 1000 < a.length
  · have g2 : decide ((a.length : Int) > 1000) = true := decide_eq_true (by omega)
    go_enter Try.func5, Try.ntmps5
    go_wp2_with ((with_reducible refine (c0 _).mono ?_); rintro e wz ⟨rfl, hb⟩; replace HF := Lib.hid (HF.out.later hb); clear hb; obtain ⟨x0, x1, x2, x3, xf⟩ := HF.out.c4 1 rfl; obtain ⟨y0, y1, y2, y3, yf⟩ := HF.out.c4 0 rfl; have xz := (HF.out.at 1 rfl).2.1; have yz := (HF.out.at 0 rfl).2.1)
    go_ret
    exact ⟨rfl, HF.out.1⟩
  · by_cases g3 : b.length = a.length
    · obtain ⟨na, ena⟩ : ∃ na, a.length = na := ⟨_, rfl⟩
      have hba : b.length = na := by rw [g3, ena]
      have GL := Lib.hid g3
      have HNA := Lib.hid ena
      rw [ena] at HA k1 g1
      rw [hba] at HB k3
      rw [ena, hba]
      clear ena hba g3
      have g4 : ¬ 1000 < (na : Int) := by omega
      obtain ⟨iV, hiV, hz0, hz1, hz2⟩ := info_parts infoBy
      have HI := Lib.hid (And.intro hiV (And.intro hz0 (And.intro hz1 hz2)))
      have h63 : Hid (0 + na ≤ maxLen) := Lib.hid (by unfold maxLen; omega)
      have hby : Hid ((0 + na) * 40 ≤ 140737488355328) := Lib.hid (by omega)
      have hfl : Hid ((a.flatMap byC).length = na * 5) := Lib.hid (by rw [flat_len byC 5 byC_len a, HNA.out])
      have HON : Hid (∀ u ∈ a.flatMap byC, u.oneCell' = true) := Lib.hid (fun u hu => by
        obtain ⟨v, _, hv⟩ := List.mem_flatMap.1 hu
        exact byC_one v u hv)
      clear hiV hz0 hz1 hz2
      go_enter Try.func5, Try.ntmps5
      go_wp2_with ((with_reducible refine (c0 _).mono ?_); rintro e wz ⟨rfl, hb⟩; replace HF := Lib.hid (HF.out.later hb); clear hb; obtain ⟨x0, x1, x2, x3, xf⟩ := HF.out.c4 1 rfl; obtain ⟨y0, y1, y2, y3, yf⟩ := HF.out.c4 0 rfl; have xz := (HF.out.at 1 rfl).2.1; have yz := (HF.out.at 0 rfl).2.1)
      go_region_law (first
        | (go_simp; (with_reducible refine (cN1 _).mono ?_); rintro e wz ⟨rfl, hb⟩; replace HF := Lib.hid (by first | exact HF.out.later hb | exact HF.out.drew.later hb); clear hb; clear x0 x1 x2 x3 xf y0 y1 y2 y3 yf xz yz; obtain ⟨x0, x1, x2, x3, xf⟩ := HF.out.c4 1 rfl; obtain ⟨y0, y1, y2, y3, yf⟩ := HF.out.c4 0 rfl; have xz := (HF.out.at 1 rfl).2.1; have yz := (HF.out.at 0 rfl).2.1)
        | (go_simp; (with_reducible refine (cN2 _).mono ?_); rintro e wz ⟨rfl, hb⟩; replace HF := Lib.hid (by first | exact HF.out.later hb | exact HF.out.drew.later hb); clear hb; clear x0 x1 x2 x3 xf y0 y1 y2 y3 yf xz yz; obtain ⟨x0, x1, x2, x3, xf⟩ := HF.out.c4 1 rfl; obtain ⟨y0, y1, y2, y3, yf⟩ := HF.out.c4 0 rfl; have xz := (HF.out.at 1 rfl).2.1; have yz := (HF.out.at 0 rfl).2.1)
        | (go_simp; (with_reducible refine (cV _).mono ?_); rintro e wz ⟨rfl, hb⟩; replace HF := Lib.hid (by first | exact HF.out.later hb | exact HF.out.drew.later hb); clear hb; clear x0 x1 x2 x3 xf y0 y1 y2 y3 yf xz yz; obtain ⟨x0, x1, x2, x3, xf⟩ := HF.out.c4 1 rfl; obtain ⟨y0, y1, y2, y3, yf⟩ := HF.out.c4 0 rfl; have xz := (HF.out.at 1 rfl).2.1; have yz := (HF.out.at 0 rfl).2.1))
      all_goals
        clear cN1 cN2 cV c0
        cases z
        · clear hM cP1 cP2
          have HO0 : Hid ((wz.alloc (.cells #[] 26)).ownsRow wz.heap.size 26 5 (.slice (some ⟨wz.heap.size, 0, none⟩) 0 0) 0 []) := Lib.hid (World.ownsRow_lit wz #[] 0 (Nat.le_refl _) (Nat.zero_le _) rfl)
          have HNW : Hid (∀ j u, (a.flatMap byC)[j]? = some u → ∃ ad, q = some ad ∧ (wz.alloc (.cells #[] 26)).cell? (ad.add j) = some u) := Lib.hid (fun j u hu => by
            obtain ⟨a, e, ha, hc⟩ := HA.out.2.2.2.1 j u hu
            exact ⟨a, e, ((HF.out.alloc _).1.cell (p := a.add j) (by rw [add_block]; exact ha)).trans hc⟩)
          have HBS : Hid (wz.heap.size ≤ (wz.alloc (.cells #[] 26)).heap.size) := Lib.hid (by simp)
          go_wp2_with (first
            | (at_builtin
               refine wpList_append_at rfl (.tmp 62) (.tmp 63) 38 rfl wz.heap.size 26 iV _ 5 40 Try.underlying38 HI.out.1 HI.out.2.1 HI.out.2.2.1 HI.out.2.2.2 rfl (by decide) (.slice (some ⟨wz.heap.size, 0, none⟩) 0 0) 0 [] rfl
                 HO0.out q na c (a.flatMap byC) rfl hfl.out HNW.out HON.out h63.out hby.out HBS.out ?_
               intro v8 w8 hown8 hgrow8 hmv8
               obtain ⟨p8, c8, rfl⟩ : ∃ p8 c8, v8 = .slice p8 na c8 := by
                 rcases hown8.2 with ⟨e, e0⟩ | ⟨g, cap, cur, e, _⟩
                 · have e0' : na = 0 := by omega
                   exact ⟨none, 0, by rw [e, e0']⟩
                 · exact ⟨_, cap, by rw [e, Nat.zero_add]⟩
               rw [Nat.zero_add, List.nil_append] at hown8))
          have hB3 : Below wz.heap.size (wz.alloc (.cells #[] 26)) w8 := (Past.grown (Past.refl (by simp)) hgrow8 (Nat.le_refl _)).2
          have hB : Below wz.heap.size wz w8 := (below1 wz _).trans hB3
          have HF8 := Lib.hid (HF.out.later hB)
          have HO8 := Lib.hid hown8
          have HW3 := Lib.hid HF.out.1.size
          clear hB3 hB hown8 hgrow8 hmv8 HO0 HNW HBS HON HI HF h63 hby hfl x0 x1 x2 x3 xf y0 y1 y2 y3 yf xz yz
          generalize wz = wq at *
          go_loopw [67] (fun u wr => ∃ k : Nat, k ≤ na ∧ u = .int .i64 k ∧ Hid (Below W.heap.size W wr) ∧ Hid (wr.ownsRow wq.heap.size 26 5 (.slice p8 na c8) na ((betR a b k).flatMap byC))) (fun u _ => na - (intOf u).toNat)
          case atStart => exact ⟨0, Nat.zero_le _, rfl, Lib.hid HF8.out.1, Lib.hid (by rw [betR_0 GL.out]; exact HO8.out)⟩
          case round =>
            obtain ⟨k, hk, rfl, hF, hO⟩ := hrel
            clear HF8 HO8
            by_cases hlt : k < na
            · have h6 : k < a.length := by rw [HNA.out]; exact hlt
              have h7 : k < b.length := by rw [GL.out]; exact h6
              obtain ⟨ax, eax, hax, u0, u1, u2, u3, u4⟩ := yy_row HA.out k h6
              obtain ⟨ay, eay, hay, v0, v1, v2, v3, v4⟩ := yy_row HB.out k h7
              subst eax
              subst eay
              have hax2 : (ax.add (k * 5)).block < W.heap.size := by rw [add_block]; exact hax
              have hay2 : (ay.add (k * 5)).block < W.heap.size := by rw [add_block]; exact hay
              have HLater : Hid (∀ w1, Below W.heap.size W w1 → w1.cell? (ay.add (k * 5)) = some (.int .i64 b[k].k) ∧ w1.cell? ⟨(ay.add (k * 5)).block, (ay.add (k * 5)).off + 1, none⟩ = some (.int .u8 b[k].b) ∧ w1.cell? ⟨(ay.add (k * 5)).block, (ay.add (k * 5)).off + 2, none⟩ = some (.int .i64 b[k].bk) ∧ w1.cell? ⟨(ay.add (k * 5)).block, (ay.add (k * 5)).off + 3, none⟩ = some (.int .i64 b[k].o) ∧ w1.cell? ⟨(ay.add (k * 5)).block, (ay.add (k * 5)).off + 4, none⟩ = some (.int .i64 b[k].i)) := Lib.hid fun w1 hb1 => ⟨(hb1.cell (p := ay.add (k * 5)) hay2).trans v0, (hb1.cell (p := ⟨(ay.add (k * 5)).block, (ay.add (k * 5)).off + 1, none⟩) hay2).trans v1, (hb1.cell (p := ⟨(ay.add (k * 5)).block, (ay.add (k * 5)).off + 2, none⟩) hay2).trans v2, (hb1.cell (p := ⟨(ay.add (k * 5)).block, (ay.add (k * 5)).off + 3, none⟩) hay2).trans v3, (hb1.cell (p := ⟨(ay.add (k * 5)).block, (ay.add (k * 5)).off + 4, none⟩) hay2).trans v4⟩
              replace u0 := (hF.out.cell (p := ax.add (k * 5)) hax2).trans u0
              replace u1 := (hF.out.cell (p := ⟨(ax.add (k * 5)).block, (ax.add (k * 5)).off + 1, none⟩) hax2).trans u1
              replace u2 := (hF.out.cell (p := ⟨(ax.add (k * 5)).block, (ax.add (k * 5)).off + 2, none⟩) hax2).trans u2
              replace u3 := (hF.out.cell (p := ⟨(ax.add (k * 5)).block, (ax.add (k * 5)).off + 3, none⟩) hax2).trans u3
              replace u4 := (hF.out.cell (p := ⟨(ax.add (k * 5)).block, (ax.add (k * 5)).off + 4, none⟩) hax2).trans u4
              replace v0 := (HLater.out wr hF.out).1
              replace v1 := (HLater.out wr hF.out).2.1
              replace v2 := (HLater.out wr hF.out).2.2.1
              replace v3 := (HLater.out wr hF.out).2.2.2.1
              replace v4 := (HLater.out wr hF.out).2.2.2.2
              have cB : ∀ w1, Calls Try.prog 10 #[.agg #[.int .i64 a[k].k, .int .u8 a[k].b, .int .i64 a[k].bk, .int .i64 a[k].o, .int .i64 a[k].i], .agg #[.int .i64 b[k].k, .int .u8 b[k].b, .int .i64 b[k].bk, .int .i64 b[k].o, .int .i64 b[k].i]] w1 fun e w' => e = .returned (.bool (refY a[k] b[k])) ∧ Below w1.heap.size w1 w' := fun w1 => Byte_any a[k] b[k] w1
              have HYes : Hid (refY a[k] b[k] = true → (betR a b k).set k b[k] = betR a b (k + 1)) := Lib.hid fun e => betR_yes GL.out k h6 e
              have HNo : Hid (refY a[k] b[k] = false → betR a b k = betR a b (k + 1)) := Lib.hid fun e => betR_no GL.out k h6 e
              have HK7 : Hid (k < (betR a b k).length) := Lib.hid (by rw [betR_len GL.out]; exact h6)
              generalize refY a[k] b[k] = rr at cB HYes HNo
              generalize a[k] = ya at u0 u1 u2 u3 u4 cB
              generalize b[k] = yb at v0 v1 v2 v3 v4 cB HYes HLater
              obtain ⟨yak, yab, yabk, yao, yai⟩ := ya
              obtain ⟨ybk, ybb, ybbk, ybo, ybi⟩ := yb
              simp only at u0 u1 u2 u3 u4 v0 v1 v2 v3 v4 cB
              go_wp2_with fail
              go_region_law (go_simp; (with_reducible refine (cB _).mono ?_); rintro e w5 ⟨rfl, hb5⟩)
              all_goals
                have hF5 : Below W.heap.size W w5 := by first | exact hF.out.trans (hb5.mono hF.out.size) | exact (below_drew hF.out).trans (hb5.mono hF.out.size)
                have hO5 := Lib.hid (by first | exact own_later hO.out hb5 | exact own_later (own_later hO.out (below_drew (Below.refl _ _))) hb5)
                have HF5 := Lib.hid hF5
                clear v0 v1 v2 v3 v4
                obtain ⟨v0, v1, v2, v3, v4⟩ := HLater.out w5 hF5
                clear hF5 hb5 cB
                cases rr
                · go_wp2_with fail
                  exact ⟨⟨k + 1, by omega, by go_num, HF5, Lib.hid (by rw [← HNo.out rfl]; exact hO5.out)⟩, by simp [intOf]; omega⟩
                · rcases own_front hO5.out with e8 | ⟨g8, e8⟩
                  · exfalso
                    have hl0 := hO5.out.2
                    rcases hl0 with ⟨_, e0⟩ | ⟨g, cap, cur, e, _⟩
                    · omega
                    · rw [e8] at e; cases e
                  · subst e8
                    have hg8 := Lib.hid (Nat.le_trans HW3.out (hO5.out.lt g8 rfl).1)
                    have hgw := (hO5.out.lt g8 rfl).2
                    have HS9 := Lib.hid (wr_store hO5.out HK7.out ⟨ybk, ybb, ybbk, ybo, ybi⟩)
                    obtain ⟨r0, r1, r2, r3, r4, rf⟩ := own_by hO5.out k HK7.out
                    go_wp2_with fail
                    exact ⟨⟨k + 1, by omega, by go_num, Lib.hid (below_set5 HF5.out hg8.out), Lib.hid (by rw [← HYes.out rfl]; exact HS9.out)⟩, by simp [intOf]; omega⟩
            · obtain rfl : k = na := by omega
              have hlb := betR_len GL.out k
              have hBI := bytes_in hO.out (by rw [hlb, HNA.out])
              have cU1 : ∀ w1, Below W.heap.size W w1 → Calls Try.prog 16 #[.int .i64 t, .slice q k c] w1 fun e w' => e = .returned (unpack t a).val ∧ Below w1.heap.size w1 w' := fun w1 hb1 => by
                have := Unpack_any t w1 q c a (by rw [HNA.out]; exact ListIn.lasts lasts_NoMem HA.out hb1 hb1.size) HOK.out.1
                rw [HNA.out] at this
                exact this
              have cU2 : ∀ w1, Below wr.heap.size wr w1 → Calls Try.prog 16 #[.int .i64 t, .slice p8 k c8] w1 fun e w' => e = .returned (unpack t (betR a b k)).val ∧ Below w1.heap.size w1 w' := fun w1 hb1 => by
                have := Unpack_any t w1 p8 c8 (betR a b k) (by rw [hlb, HNA.out]; exact BysIn.later hBI hb1) (betR_ok GL.out k HOK.out.1 HOK.out.2)
                rw [hlb, HNA.out] at this
                exact this
              have cV : ∀ w1, Calls Try.prog 8 #[(unpack t a).val, (unpack t (betR a b k)).val] w1 fun e w' => e = .returned (.bool true) ∧ Below w1.heap.size w1 w' := fun w1 => by
                have := Value_any (unpack t a) (unpack t (betR a b k)) w1
                rw [unpack_mono hlb.symm (fun i h1 h2 => betR_ref GL.out k i h1 h2)] at this
                exact this
              generalize unpack t a = ua at cU1 cV
              generalize unpack t (betR a b k) = ub at cU2 cV
              obtain ⟨uak, uab, uabk, uao⟩ := ua
              obtain ⟨ubk, ubb, ubbk, ubo⟩ := ub
              replace cU1 := cU1 wr hF.out
              replace cU1 : Calls Try.prog 16 #[.int .i64 t, .slice q k c] wr fun e w' => e = .returned (.agg #[.int .i64 uak, .int .u64 uab, .int .i64 uabk, .int .i64 uao]) ∧ Below wr.heap.size wr w' := cU1
              replace cU2 : ∀ w1, Below wr.heap.size wr w1 → Calls Try.prog 16 #[.int .i64 t, .slice p8 k c8] w1 fun e w' => e = .returned (.agg #[.int .i64 ubk, .int .u64 ubb, .int .i64 ubbk, .int .i64 ubo]) ∧ Below w1.heap.size w1 w' := cU2
              replace cV : ∀ w1, Calls Try.prog 8 #[.agg #[.int .i64 uak, .int .u64 uab, .int .i64 uabk, .int .i64 uao], .agg #[.int .i64 ubk, .int .u64 ubb, .int .i64 ubbk, .int .i64 ubo]] w1 fun e w' => e = .returned (.bool true) ∧ Below w1.heap.size w1 w' := cV
              clear hBI hlb hk hlt
              go_wp2_with (first
                | ((with_reducible refine cU1.mono ?_); rintro e w6 ⟨rfl, hb6⟩; have cU3 := cU2 w6 hb6; have hF6 := Lib.hid (hF.out.trans (hb6.mono hF.out.size)); clear hb6)
                | ((with_reducible refine cU3.mono ?_); rintro e w7 ⟨rfl, hb7⟩; have hF7 := Lib.hid (hF6.out.trans (hb7.mono hF6.out.size)); clear hb7)
                | ((with_reducible refine (cV _).mono ?_); rintro e w8' ⟨rfl, hb8⟩; have hF8 := Lib.hid (hF7.out.trans (hb8.mono hF7.out.size)); clear hb8))
              go_ret
              exact ⟨rfl, hF8.out⟩
        · have HM := Lib.hid (hM rfl)
          clear hM
          go_wp2_with fail
          go_region_law (first
            | (go_simp
               (with_reducible refine (cP1 _).mono ?_)
               rintro e wz ⟨p6, k6, rfl, hr6, hb⟩
               replace HF := Lib.hid (by first | exact HF.out.later hb | exact HF.out.drew.later hb)
               have HR6 := Lib.hid hr6
               try (replace HR7 := Lib.hid (by first | exact BysIn.later HR7.out hb | exact BysIn.later (BysIn.later HR7.out (below_drew (Below.refl _ _))) hb))
               clear hb hr6
               clear x0 x1 x2 x3 xf y0 y1 y2 y3 yf xz yz
               obtain ⟨x0, x1, x2, x3, xf⟩ := HF.out.c4 1 rfl; obtain ⟨y0, y1, y2, y3, yf⟩ := HF.out.c4 0 rfl; have xz := (HF.out.at 1 rfl).2.1; have yz := (HF.out.at 0 rfl).2.1)
            | (go_simp
               (with_reducible refine (cP2 _).mono ?_)
               rintro e wz ⟨p7, k7, rfl, hr7, hb⟩
               replace HF := Lib.hid (by first | exact HF.out.later hb | exact HF.out.drew.later hb)
               have HR7 := Lib.hid hr7
               try (replace HR6 := Lib.hid (by first | exact BysIn.later HR6.out hb | exact BysIn.later (BysIn.later HR6.out (below_drew (Below.refl _ _))) hb))
               clear hb hr7
               clear x0 x1 x2 x3 xf y0 y1 y2 y3 yf xz yz
               obtain ⟨x0, x1, x2, x3, xf⟩ := HF.out.c4 1 rfl; obtain ⟨y0, y1, y2, y3, yf⟩ := HF.out.c4 0 rfl; have xz := (HF.out.at 1 rfl).2.1; have yz := (HF.out.at 0 rfl).2.1))
          all_goals
            clear cP1 cP2
            go_wp2_with fail
            go_loopw [48] (fun u wr => ∃ k : Nat, k ≤ d ∧ u = .int .i64 k ∧ Past wz.heap.size wz wr) (fun u _ => d - (intOf u).toNat)
            case atStart => exact ⟨0, Nat.zero_le _, rfl, Past.refl (Nat.le_refl _)⟩
            case round =>
              obtain ⟨k, hk, rfl, hp⟩ := hrel
              clear x0 x1 x2 x3 xf y0 y1 y2 y3 yf xz yz
              by_cases hlt : k < d
              · have h6 : k < xv.length := by omega
                have h7 : k < xw.length := by omega
                obtain ⟨ax, eax, hax, u0, u1, u2, u3, u4⟩ := yy_row HR6.out k h6
                obtain ⟨ay, eay, hay, v0, v1, v2, v3, v4⟩ := yy_row HR7.out k h7
                subst eax
                subst eay
                have hax2 : (ax.add (k * 5)).block < wz.heap.size := by rw [add_block]; exact hax
                have hay2 : (ay.add (k * 5)).block < wz.heap.size := by rw [add_block]; exact hay
                replace u0 := (hp.2.cell (p := ax.add (k * 5)) hax2).trans u0
                replace u1 := (hp.2.cell (p := ⟨(ax.add (k * 5)).block, (ax.add (k * 5)).off + 1, none⟩) hax2).trans u1
                replace u2 := (hp.2.cell (p := ⟨(ax.add (k * 5)).block, (ax.add (k * 5)).off + 2, none⟩) hax2).trans u2
                replace u3 := (hp.2.cell (p := ⟨(ax.add (k * 5)).block, (ax.add (k * 5)).off + 3, none⟩) hax2).trans u3
                replace u4 := (hp.2.cell (p := ⟨(ax.add (k * 5)).block, (ax.add (k * 5)).off + 4, none⟩) hax2).trans u4
                replace v0 := (hp.2.cell (p := ay.add (k * 5)) hay2).trans v0
                replace v1 := (hp.2.cell (p := ⟨(ay.add (k * 5)).block, (ay.add (k * 5)).off + 1, none⟩) hay2).trans v1
                replace v2 := (hp.2.cell (p := ⟨(ay.add (k * 5)).block, (ay.add (k * 5)).off + 2, none⟩) hay2).trans v2
                replace v3 := (hp.2.cell (p := ⟨(ay.add (k * 5)).block, (ay.add (k * 5)).off + 3, none⟩) hay2).trans v3
                replace v4 := (hp.2.cell (p := ⟨(ay.add (k * 5)).block, (ay.add (k * 5)).off + 4, none⟩) hay2).trans v4
                have cB : ∀ w1, Calls Try.prog 10 #[.agg #[.int .i64 xv[k].k, .int .u8 xv[k].b, .int .i64 xv[k].bk, .int .i64 xv[k].o, .int .i64 xv[k].i], .agg #[.int .i64 xw[k].k, .int .u8 xw[k].b, .int .i64 xw[k].bk, .int .i64 xw[k].o, .int .i64 xw[k].i]] w1 fun e w' => e = .returned (.bool true) ∧ Below w1.heap.size w1 w' := fun w1 => by
                  have := Byte_any xv[k] xw[k] w1
                  rw [HM.out k h6 h7] at this
                  exact this
                have HP := Lib.hid hp
                clear hp
                go_wp2_with fail
                go_region_law (go_simp; (with_reducible refine (cB _).mono ?_); rintro e w5 ⟨rfl, hb5⟩)
                all_goals
                  go_wp2_with fail
                  exact ⟨⟨k + 1, by omega, by go_num, HP.out.trans ⟨HP.out.size, (by first | exact hb5.mono HP.out.size | exact ((below_drew (Below.refl _ _)).trans (hb5.mono (Nat.le_refl _))).mono HP.out.size)⟩⟩, by simp [intOf]; omega⟩
              · have HF2 := Lib.hid (HF.out.later hp.2)
                clear HF
                have HF := HF2
                clear HF2 hp HR6 HR7 HM
                have HO0 : Hid ((wr.alloc (.cells #[] 26)).ownsRow wr.heap.size 26 5 (.slice (some ⟨wr.heap.size, 0, none⟩) 0 0) 0 []) := Lib.hid (World.ownsRow_lit wr #[] 0 (Nat.le_refl _) (Nat.zero_le _) rfl)
                have HNW : Hid (∀ j u, (a.flatMap byC)[j]? = some u → ∃ ad, q = some ad ∧ (wr.alloc (.cells #[] 26)).cell? (ad.add j) = some u) := Lib.hid (fun j u hu => by
                  obtain ⟨a, e, ha, hc⟩ := HA.out.2.2.2.1 j u hu
                  exact ⟨a, e, ((HF.out.alloc _).1.cell (p := a.add j) (by rw [add_block]; exact ha)).trans hc⟩)
                have HBS : Hid (wr.heap.size ≤ (wr.alloc (.cells #[] 26)).heap.size) := Lib.hid (by simp)
                go_wp2_with (first
                  | (at_builtin
                     refine wpList_append_at rfl (.tmp 62) (.tmp 63) 38 rfl wr.heap.size 26 iV _ 5 40 Try.underlying38 HI.out.1 HI.out.2.1 HI.out.2.2.1 HI.out.2.2.2 rfl (by decide) (.slice (some ⟨wr.heap.size, 0, none⟩) 0 0) 0 [] rfl
                       HO0.out q na c (a.flatMap byC) rfl hfl.out HNW.out HON.out h63.out hby.out HBS.out ?_
                     intro v8 w8 hown8 hgrow8 hmv8
                     obtain ⟨p8, c8, rfl⟩ : ∃ p8 c8, v8 = .slice p8 na c8 := by
                       rcases hown8.2 with ⟨e, e0⟩ | ⟨g, cap, cur, e, _⟩
                       · have e0' : na = 0 := by omega
                         exact ⟨none, 0, by rw [e, e0']⟩
                       · exact ⟨_, cap, by rw [e, Nat.zero_add]⟩
                     rw [Nat.zero_add, List.nil_append] at hown8))
                have hB3 : Below wr.heap.size (wr.alloc (.cells #[] 26)) w8 := (Past.grown (Past.refl (by simp)) hgrow8 (Nat.le_refl _)).2
                have hB : Below wr.heap.size wr w8 := (below1 wr _).trans hB3
                have HF8 := Lib.hid (HF.out.later hB)
                have HO8 := Lib.hid hown8
                have HW3 := Lib.hid HF.out.1.size
                clear hB3 hB hown8 hgrow8 hmv8 HO0 HNW HBS HON HI HF h63 hby hfl 
                generalize wr = wq at *
                go_loopw [67] (fun u wr => ∃ k : Nat, k ≤ na ∧ u = .int .i64 k ∧ Hid (Below W.heap.size W wr) ∧ Hid (wr.ownsRow wq.heap.size 26 5 (.slice p8 na c8) na ((betR a b k).flatMap byC))) (fun u _ => na - (intOf u).toNat)
                case atStart => exact ⟨0, Nat.zero_le _, rfl, Lib.hid HF8.out.1, Lib.hid (by rw [betR_0 GL.out]; exact HO8.out)⟩
                case round =>
                  obtain ⟨k, hk, rfl, hF, hO⟩ := hrel
                  clear HF8 HO8
                  by_cases hlt : k < na
                  · have h6 : k < a.length := by rw [HNA.out]; exact hlt
                    have h7 : k < b.length := by rw [GL.out]; exact h6
                    obtain ⟨ax, eax, hax, u0, u1, u2, u3, u4⟩ := yy_row HA.out k h6
                    obtain ⟨ay, eay, hay, v0, v1, v2, v3, v4⟩ := yy_row HB.out k h7
                    subst eax
                    subst eay
                    have hax2 : (ax.add (k * 5)).block < W.heap.size := by rw [add_block]; exact hax
                    have hay2 : (ay.add (k * 5)).block < W.heap.size := by rw [add_block]; exact hay
                    have HLater : Hid (∀ w1, Below W.heap.size W w1 → w1.cell? (ay.add (k * 5)) = some (.int .i64 b[k].k) ∧ w1.cell? ⟨(ay.add (k * 5)).block, (ay.add (k * 5)).off + 1, none⟩ = some (.int .u8 b[k].b) ∧ w1.cell? ⟨(ay.add (k * 5)).block, (ay.add (k * 5)).off + 2, none⟩ = some (.int .i64 b[k].bk) ∧ w1.cell? ⟨(ay.add (k * 5)).block, (ay.add (k * 5)).off + 3, none⟩ = some (.int .i64 b[k].o) ∧ w1.cell? ⟨(ay.add (k * 5)).block, (ay.add (k * 5)).off + 4, none⟩ = some (.int .i64 b[k].i)) := Lib.hid fun w1 hb1 => ⟨(hb1.cell (p := ay.add (k * 5)) hay2).trans v0, (hb1.cell (p := ⟨(ay.add (k * 5)).block, (ay.add (k * 5)).off + 1, none⟩) hay2).trans v1, (hb1.cell (p := ⟨(ay.add (k * 5)).block, (ay.add (k * 5)).off + 2, none⟩) hay2).trans v2, (hb1.cell (p := ⟨(ay.add (k * 5)).block, (ay.add (k * 5)).off + 3, none⟩) hay2).trans v3, (hb1.cell (p := ⟨(ay.add (k * 5)).block, (ay.add (k * 5)).off + 4, none⟩) hay2).trans v4⟩
                    replace u0 := (hF.out.cell (p := ax.add (k * 5)) hax2).trans u0
                    replace u1 := (hF.out.cell (p := ⟨(ax.add (k * 5)).block, (ax.add (k * 5)).off + 1, none⟩) hax2).trans u1
                    replace u2 := (hF.out.cell (p := ⟨(ax.add (k * 5)).block, (ax.add (k * 5)).off + 2, none⟩) hax2).trans u2
                    replace u3 := (hF.out.cell (p := ⟨(ax.add (k * 5)).block, (ax.add (k * 5)).off + 3, none⟩) hax2).trans u3
                    replace u4 := (hF.out.cell (p := ⟨(ax.add (k * 5)).block, (ax.add (k * 5)).off + 4, none⟩) hax2).trans u4
                    replace v0 := (HLater.out wr hF.out).1
                    replace v1 := (HLater.out wr hF.out).2.1
                    replace v2 := (HLater.out wr hF.out).2.2.1
                    replace v3 := (HLater.out wr hF.out).2.2.2.1
                    replace v4 := (HLater.out wr hF.out).2.2.2.2
                    have cB : ∀ w1, Calls Try.prog 10 #[.agg #[.int .i64 a[k].k, .int .u8 a[k].b, .int .i64 a[k].bk, .int .i64 a[k].o, .int .i64 a[k].i], .agg #[.int .i64 b[k].k, .int .u8 b[k].b, .int .i64 b[k].bk, .int .i64 b[k].o, .int .i64 b[k].i]] w1 fun e w' => e = .returned (.bool (refY a[k] b[k])) ∧ Below w1.heap.size w1 w' := fun w1 => Byte_any a[k] b[k] w1
                    have HYes : Hid (refY a[k] b[k] = true → (betR a b k).set k b[k] = betR a b (k + 1)) := Lib.hid fun e => betR_yes GL.out k h6 e
                    have HNo : Hid (refY a[k] b[k] = false → betR a b k = betR a b (k + 1)) := Lib.hid fun e => betR_no GL.out k h6 e
                    have HK7 : Hid (k < (betR a b k).length) := Lib.hid (by rw [betR_len GL.out]; exact h6)
                    generalize refY a[k] b[k] = rr at cB HYes HNo
                    generalize a[k] = ya at u0 u1 u2 u3 u4 cB
                    generalize b[k] = yb at v0 v1 v2 v3 v4 cB HYes HLater
                    obtain ⟨yak, yab, yabk, yao, yai⟩ := ya
                    obtain ⟨ybk, ybb, ybbk, ybo, ybi⟩ := yb
                    simp only at u0 u1 u2 u3 u4 v0 v1 v2 v3 v4 cB
                    go_wp2_with fail
                    go_region_law (go_simp; (with_reducible refine (cB _).mono ?_); rintro e w5 ⟨rfl, hb5⟩)
                    all_goals
                      have hF5 : Below W.heap.size W w5 := by first | exact hF.out.trans (hb5.mono hF.out.size) | exact (below_drew hF.out).trans (hb5.mono hF.out.size)
                      have hO5 := Lib.hid (by first | exact own_later hO.out hb5 | exact own_later (own_later hO.out (below_drew (Below.refl _ _))) hb5)
                      have HF5 := Lib.hid hF5
                      clear v0 v1 v2 v3 v4
                      obtain ⟨v0, v1, v2, v3, v4⟩ := HLater.out w5 hF5
                      clear hF5 hb5 cB
                      cases rr
                      · go_wp2_with fail
                        exact ⟨⟨k + 1, by omega, by go_num, HF5, Lib.hid (by rw [← HNo.out rfl]; exact hO5.out)⟩, by simp [intOf]; omega⟩
                      · rcases own_front hO5.out with e8 | ⟨g8, e8⟩
                        · exfalso
                          have hl0 := hO5.out.2
                          rcases hl0 with ⟨_, e0⟩ | ⟨g, cap, cur, e, _⟩
                          · omega
                          · rw [e8] at e; cases e
                        · subst e8
                          have hg8 := Lib.hid (Nat.le_trans HW3.out (hO5.out.lt g8 rfl).1)
                          have hgw := (hO5.out.lt g8 rfl).2
                          have HS9 := Lib.hid (wr_store hO5.out HK7.out ⟨ybk, ybb, ybbk, ybo, ybi⟩)
                          obtain ⟨r0, r1, r2, r3, r4, rf⟩ := own_by hO5.out k HK7.out
                          go_wp2_with fail
                          exact ⟨⟨k + 1, by omega, by go_num, Lib.hid (below_set5 HF5.out hg8.out), Lib.hid (by rw [← HYes.out rfl]; exact HS9.out)⟩, by simp [intOf]; omega⟩
                  · obtain rfl : k = na := by omega
                    have hlb := betR_len GL.out k
                    have hBI := bytes_in hO.out (by rw [hlb, HNA.out])
                    have cU1 : ∀ w1, Below W.heap.size W w1 → Calls Try.prog 16 #[.int .i64 t, .slice q k c] w1 fun e w' => e = .returned (unpack t a).val ∧ Below w1.heap.size w1 w' := fun w1 hb1 => by
                      have := Unpack_any t w1 q c a (by rw [HNA.out]; exact ListIn.lasts lasts_NoMem HA.out hb1 hb1.size) HOK.out.1
                      rw [HNA.out] at this
                      exact this
                    have cU2 : ∀ w1, Below wr.heap.size wr w1 → Calls Try.prog 16 #[.int .i64 t, .slice p8 k c8] w1 fun e w' => e = .returned (unpack t (betR a b k)).val ∧ Below w1.heap.size w1 w' := fun w1 hb1 => by
                      have := Unpack_any t w1 p8 c8 (betR a b k) (by rw [hlb, HNA.out]; exact BysIn.later hBI hb1) (betR_ok GL.out k HOK.out.1 HOK.out.2)
                      rw [hlb, HNA.out] at this
                      exact this
                    have cV : ∀ w1, Calls Try.prog 8 #[(unpack t a).val, (unpack t (betR a b k)).val] w1 fun e w' => e = .returned (.bool true) ∧ Below w1.heap.size w1 w' := fun w1 => by
                      have := Value_any (unpack t a) (unpack t (betR a b k)) w1
                      rw [unpack_mono hlb.symm (fun i h1 h2 => betR_ref GL.out k i h1 h2)] at this
                      exact this
                    generalize unpack t a = ua at cU1 cV
                    generalize unpack t (betR a b k) = ub at cU2 cV
                    obtain ⟨uak, uab, uabk, uao⟩ := ua
                    obtain ⟨ubk, ubb, ubbk, ubo⟩ := ub
                    replace cU1 := cU1 wr hF.out
                    replace cU1 : Calls Try.prog 16 #[.int .i64 t, .slice q k c] wr fun e w' => e = .returned (.agg #[.int .i64 uak, .int .u64 uab, .int .i64 uabk, .int .i64 uao]) ∧ Below wr.heap.size wr w' := cU1
                    replace cU2 : ∀ w1, Below wr.heap.size wr w1 → Calls Try.prog 16 #[.int .i64 t, .slice p8 k c8] w1 fun e w' => e = .returned (.agg #[.int .i64 ubk, .int .u64 ubb, .int .i64 ubbk, .int .i64 ubo]) ∧ Below w1.heap.size w1 w' := cU2
                    replace cV : ∀ w1, Calls Try.prog 8 #[.agg #[.int .i64 uak, .int .u64 uab, .int .i64 uabk, .int .i64 uao], .agg #[.int .i64 ubk, .int .u64 ubb, .int .i64 ubbk, .int .i64 ubo]] w1 fun e w' => e = .returned (.bool true) ∧ Below w1.heap.size w1 w' := cV
                    clear hBI hlb hk hlt
                    go_wp2_with (first
                      | ((with_reducible refine cU1.mono ?_); rintro e w6 ⟨rfl, hb6⟩; have cU3 := cU2 w6 hb6; have hF6 := Lib.hid (hF.out.trans (hb6.mono hF.out.size)); clear hb6)
                      | ((with_reducible refine cU3.mono ?_); rintro e w7 ⟨rfl, hb7⟩; have hF7 := Lib.hid (hF6.out.trans (hb7.mono hF6.out.size)); clear hb7)
                      | ((with_reducible refine (cV _).mono ?_); rintro e w8' ⟨rfl, hb8⟩; have hF8 := Lib.hid (hF7.out.trans (hb8.mono hF7.out.size)); clear hb8))
                    go_ret
                    exact ⟨rfl, hF8.out⟩
    · have g4 : ((b.length : Int) != (a.length : Int)) = true := by simp; omega
      have g5 : ¬ 1000 < (a.length : Int) := by omega
      have GL := Lib.hid g3
      clear g3
      go_enter Try.func5, Try.ntmps5
      go_wp2_with ((with_reducible refine (c0 _).mono ?_); rintro e wz ⟨rfl, hb⟩; replace HF := Lib.hid (HF.out.later hb); clear hb; obtain ⟨x0, x1, x2, x3, xf⟩ := HF.out.c4 1 rfl; obtain ⟨y0, y1, y2, y3, yf⟩ := HF.out.c4 0 rfl; have xz := (HF.out.at 1 rfl).2.1; have yz := (HF.out.at 0 rfl).2.1)
      go_ret
      exact ⟨rfl, HF.out.1⟩
end Go.Proofs.Ytglkbnckfkliaaa
