/- The document's answers (package latheref02): Code. -/
import Derived.Test.YtpfeiolmkbibiaaIrL
import Derived.LoopN
namespace Go.Proofs.Ytpfeiolmkbibiaa
open Go.RowKit Go.Maps
set_option linter.unusedVariables false
set_option linter.unusedSimpArgs false

theorem infoI : (Try.prog.info? 25).map (fun i => (i.zero, i.size, i.bytes)) = some (some (.agg #[.int .i64 0, .int .i64 0, .int .i64 0, .int .i64 0, .int .i64 0, .slice none 0 0, .slice none 0 0]), 7, 88) := by kernel_rfl
theorem infoP : (Try.prog.info? 47).map (fun i => (i.zero, i.size, i.bytes)) = some (some (.agg #[.int .i64 0, .int .i64 0, .int .i64 0]), 3, 24) := by kernel_rfl

/-- An instruction's seven cells, a place's three. -/
def insC (d : Ins) : List Value := [.int .i64 d.op, .int .i64 d.reg, .int .i64 d.ty, .int .i64 d.n, .int .i64 d.fl, .slice d.ap d.al d.ac, .slice d.tp d.tl d.tc]
def plC (b k : Nat) : List Value := [.int .i64 0, .int .i64 b, .int .i64 k]
/-- The places ahead of place (b, k), as cells. -/
def placesC (l : List (List Ins)) (b k : Nat) : List Value := (List.range b).flatMap (fun i => (List.range (l.getD i []).length).flatMap (plC i)) ++ (List.range k).flatMap (plC b)
theorem placesC_next (l : List (List Ins)) (b : Nat) (h : b < l.length) : placesC l (b + 1) 0 = placesC l b l[b].length := by
  unfold placesC
  rw [List.range_succ, List.flatMap_append]
  simp [List.getD_eq_getElem?_getD, h]
theorem placesC_succ (l : List (List Ins)) (b k : Nat) : placesC l b (k + 1) = placesC l b k ++ plC b k := by
  unfold placesC
  rw [List.range_succ, List.flatMap_append, List.append_assoc]
  simp
theorem insC_snoc (l : List Ins) (d : Ins) : (l ++ [d]).flatMap insC = l.flatMap insC ++ insC d := by rw [List.flatMap_append]; simp
/-- Two rows of different types lie apart. -/
theorem rows_apart {w : World} {B e e' s s' n n' : Nat} {v v' : Value} {xs xs' : List Value} (h : w.ownsRow B e s v n xs) (h' : w.ownsRow B e' s' v' n' xs') (he : e ≠ e') : v.ownBlock = none ∨ v.ownBlock ≠ v'.ownBlock := by
  rcases h.2 with ⟨rfl, _⟩ | ⟨g, cap, cur, rfl, _, h1, _⟩
  · exact .inl rfl
  · rcases h'.2 with ⟨rfl, _⟩ | ⟨g', cap', cur', rfl, _, h2, _⟩
    · exact .inr (by simp [Value.ownBlock])
    · refine .inr fun e => ?_
      have : g = g' := by simpa [Value.ownBlock] using e
      subst this
      rw [h1] at h2
      exact he (by injection h2 with h3; injection h3)

theorem lit_cells (w : World) (cs : Array Value) (ty : TypeId) : ∀ (j : Nat) (u : Value), cs.toList[j]? = some u → (w.alloc (.cells cs ty)).cell? ((⟨w.heap.size, 0, none⟩ : Addr).add j) = some u := by
  intro j u h
  have e : (⟨w.heap.size, 0, none⟩ : Addr).add j = ⟨w.heap.size, j, none⟩ := by
    unfold Addr.add
    by_cases hj : j = 0
    · subst hj; rfl
    · rw [if_neg hj]; simp
  rw [e, World.cell?_alloc_at _ _ _ _ rfl]
  simpa using h
theorem insC_one (d : Ins) : ∀ u ∈ insC d, u.oneCell' = true := by intro u hu; unfold insC at hu; simp at hu; rcases hu with rfl | rfl | rfl | rfl | rfl | rfl | rfl <;> rfl
theorem plC_one (b k : Nat) : ∀ u ∈ plC b k, u.oneCell' = true := by intro u hu; unfold plC at hu; simp at hu; rcases hu with rfl | rfl | rfl <;> rfl
theorem Past.grownRow {B : Nat} {row : Option Nat} {W w w' : World} (h : Past B W w) (g : w.grownBy w' row) (hr : ∀ j, row = some j → B ≤ j) : Past B W w' := ⟨h.1, h.2.grown g h.size hr⟩
/-- How Code ends. -/
def CodeEnds (W : World) (l : List (List Ins)) (e : Ending) (w' : World) : Prop :=
  ∃ vl vp : Value, e = .returned (.tuple #[vl, vp]) ∧ Below W.heap.size W w' ∧ w'.ownsRow (W.heap.size + 1) 25 7 vl l.flatten.length (l.flatten.flatMap insC) ∧ w'.ownsRow (W.heap.size + 1) 47 3 vp l.flatten.length (placesC l l.length 0)

set_option maxRecDepth 100000 in
set_option maxHeartbeats 4000000 in
theorem Code_any (W : World) (s0 : ByteArray) (p1 : Option Addr) (n1 c1 : Nat) (rt : Int) (p2 : Option Addr) (n2 c2 : Nat) (l : List (List Ins)) (hl : BlocksAt W.heap.size W (.slice p2 n2 c2) l) (hn : l.flatten.length ≤ 1048576) :
    Calls Try.prog 25 #[.agg #[.string s0, .slice p1 n1 c1, .int .i64 rt, .slice p2 n2 c2]] W (CodeEnds W l) := by
  obtain ⟨iI, hiI, hz0, hz1, hz2⟩ := info_parts infoI
  obtain ⟨iP, hiP, hy0, hy1, hy2⟩ := info_parts infoP
  have HI := Lib.hid (And.intro hiI (And.intro hz0 (And.intro hz1 hz2)))
  have HP := Lib.hid (And.intro hiP (And.intro hy0 (And.intro hy1 hy2)))
  clear hiI hz0 hz1 hz2 hiP hy0 hy1 hy2
  have hl2 := (hl.below ((Past.refl (Nat.le_refl _)).alloc (.cells #[.string s0, .slice p1 n1 c1, .int .i64 rt, .slice p2 n2 c2] 41)).2).mono (Nat.le_succ W.heap.size)
  obtain ⟨p, cap, he, hc1, hc2, hbl⟩ := hl2
  injection he with he1 he2 he3
  subst he1 he2 he3
  unfold maxLen at hc2
  have HBL := Lib.hid hbl
  have HN := Lib.hid hn
  clear hbl hn
  have hP : Past (W.heap.size + 1) (W.alloc (.cells #[.string s0, .slice p1 n1 c1, .int .i64 rt, .slice p2 l.length c2] 41)) (W.alloc (.cells #[.string s0, .slice p1 n1 c1, .int .i64 rt, .slice p2 l.length c2] 41)) := Past.refl (by simp)
  go_enter Try.func25, Try.ntmps25
  go_wp2_with fail
  go_loopw [4, 5, 6] (fun vl vp t wr => ∃ b : Nat, b ≤ l.length ∧ t = .int .i64 b ∧ Past (W.heap.size + 1) (W.alloc (.cells #[.string s0, .slice p1 n1 c1, .int .i64 rt, .slice p2 l.length c2] 41)) wr ∧
    wr.ownsRow (W.heap.size + 1) 25 7 vl (ahead l b 0).length ((ahead l b 0).flatMap insC) ∧ wr.ownsRow (W.heap.size + 1) 47 3 vp (ahead l b 0).length (placesC l b 0)) (fun _ _ t _ => l.length - (intOf t).toNat)
  case atStart => exact ⟨0, Nat.zero_le _, rfl, hP, by rw [ahead_0]; exact World.ownsRow_nil _ _ _ _, by rw [ahead_0]; exact World.ownsRow_nil _ _ _ _⟩
  case round =>
    obtain ⟨b, hb, rfl, hbe, hr1, hr2⟩ := hrel
    have q : ∀ o, wr.cell? ⟨W.heap.size, o, none⟩ = (W.alloc (.cells #[.string s0, .slice p1 n1 c1, .int .i64 rt, .slice p2 l.length c2] 41)).cell? ⟨W.heap.size, o, none⟩ := fun o => hbe.2.cell (p := ⟨W.heap.size, o, none⟩) (Nat.lt_succ_self _)
    have q3 : wr.cell? ⟨W.heap.size, 3, none⟩ = some (.slice p2 l.length c2) := (q 3).trans (by rw [World.cell?_alloc_at _ _ _ _ rfl]; rfl)
    clear q
    by_cases hlt : b < l.length
    · obtain ⟨a, x, rfl, hab, hcell, hcode⟩ := HBL.out b hlt
      obtain ⟨q2, cap2, rfl, hd1, hd2, hcd⟩ := hcode
      unfold maxLen at hd2
      have HCD := Lib.hid hcd
      have HC := Lib.hid hcell
      clear hcd hcell
      go_wp2_with fail
      clear q3
      go_loopw [4, 5, 7] (fun vl vp t wi => ∃ k : Nat, k ≤ l[b].length ∧ t = .int .i64 k ∧ Past (W.heap.size + 1) (W.alloc (.cells #[.string s0, .slice p1 n1 c1, .int .i64 rt, .slice (some a) l.length c2] 41)) wi ∧
        wi.ownsRow (W.heap.size + 1) 25 7 vl (ahead l b k).length ((ahead l b k).flatMap insC) ∧ wi.ownsRow (W.heap.size + 1) 47 3 vp (ahead l b k).length (placesC l b k)) (fun _ _ t _ => l[b].length - (intOf t).toNat)
      case atStart => exact ⟨0, Nat.zero_le _, rfl, hbe, hr1, hr2⟩
      case round =>
        obtain ⟨k, hk, rfl, hbi, hs1, hs2⟩ := hrel
        have q3 : wr.cell? ⟨W.heap.size, 3, none⟩ = some (.slice (some a) l.length c2) := (hbi.2.cell (p := ⟨W.heap.size, 3, none⟩) (Nat.lt_succ_self _)).trans (by rw [World.cell?_alloc_at _ _ _ _ rfl]; rfl)
        have k1 : wr.cell? (a.add b) = some (.slice q2 l[b].length cap2) := (hbi.2.cell (p := a.add b) (by rw [add_block]; exact hab)).trans HC.out
        by_cases hkl : k < l[b].length
        · obtain ⟨a2, rfl, ha2, hins⟩ := HCD.out k hkl
          obtain ⟨z0, z1, z2, z3, z4, z5, z6⟩ := hins.below hbi.2 (by rw [add_block]; exact ha2)
          have hle := ahead_le l b k hlt hkl
          have HL : Hid ((ahead l b k).length < 1048576) := Lib.hid (by have := HN.out; omega)
          have o1 := rows_apart hs2 hs1 (by decide)
          have G1 := fun m => (hs1.lt m)
          clear hins hle
          have h63 : (ahead l b k).length + 1 ≤ maxLen := by have := HL.out; unfold maxLen; omega
          have hb1 : ((ahead l b k).length + 1) * 88 ≤ 140737488355328 := by have := HL.out; omega
          have hb2 : ((ahead l b k).length + 1) * 24 ≤ 140737488355328 := by have := HL.out; omega
          have H63 := Lib.hid h63
          have HB1 := Lib.hid hb1
          have HB2 := Lib.hid hb2
          clear h63 hb1 hb2
          go_wp2_with (first
            | (at_builtin; refine wpList_append_own _ rfl (.tmp 26) (.tmp 36) 42 rfl (W.heap.size + 1) 25 iI _ 7 88 Try.underlying42 HI.out.1 HI.out.2.1 HI.out.2.2.1 HI.out.2.2.2 rfl (by decide) _ _ _ rfl (hs1.alloc _) ⟨wr.heap.size, 0, none⟩ 1 1 (insC l[b][k]) rfl rfl (lit_cells _ _ _) (insC_one _) H63.out HB1.out (by have := hbi.size; simp; omega) ?_; intro vl2 w2 hown2 hgrow2 _)
            | (at_builtin; refine wpList_append_own _ rfl (.tmp 38) (.tmp 42) 43 rfl (W.heap.size + 1) 47 iP _ 3 24 Try.underlying43 HP.out.1 HP.out.2.1 HP.out.2.2.1 HP.out.2.2.2 rfl (by decide) _ _ _ rfl (((hs2.alloc _).kept hgrow2 o1).alloc _) ⟨w2.heap.size, 0, none⟩ 1 1 (plC b k) rfl rfl (lit_cells _ _ _) (plC_one _ _) H63.out HB2.out (by have h1 := hbi.size; have h2 := hgrow2.size; simp at h2 ⊢; omega) ?_; intro vp2 w3 hown3 hgrow3 _))
          have P1 := (hbi.alloc (.cells #[.int .i64 l[b][k].op, .int .i64 l[b][k].reg, .int .i64 l[b][k].ty, .int .i64 l[b][k].n, .int .i64 l[b][k].fl, .slice l[b][k].ap l[b][k].al l[b][k].ac, .slice l[b][k].tp l[b][k].tl l[b][k].tc] 25)).grownRow hgrow2 (fun j hj => (hs1.lt j hj).1)
          have P2 := (P1.alloc (.cells #[.int .i64 0, .int .i64 b, .int .i64 k] 47)).grownRow hgrow3 (fun j hj => (hs2.lt j hj).1)
          have s2 := ((hs2.alloc _).kept hgrow2 o1)
          have s1 := (hown2.alloc (.cells #[.int .i64 0, .int .i64 b, .int .i64 k] 47)).kept hgrow3 (rows_apart hown2 s2 (by decide))
          exact ⟨⟨k + 1, by omega, by go_num, P2, by rw [ahead_succ l b k hlt hkl, insC_snoc, List.length_append]; exact s1, by rw [ahead_succ l b k hlt hkl, placesC_succ, List.length_append]; exact hown3⟩, by simp [intOf]; omega⟩
        · obtain rfl : k = l[b].length := by omega
          go_wp2_with fail
          exact ⟨⟨b + 1, by omega, by go_num, hbi, by rw [ahead_next l b hlt]; exact hs1, by rw [ahead_next l b hlt, placesC_next l b hlt]; exact hs2⟩, by simp [intOf]; omega⟩
    · obtain rfl : b = l.length := by omega
      rw [ahead_all] at hr1 hr2
      go_wp2_with fail
      go_ret2
      exact ⟨_, _, rfl, ((Past.refl (Nat.le_refl _)).alloc _).2.trans (hbe.2.mono (Nat.le_succ _)), hr1, hr2⟩
end Go.Proofs.Ytpfeiolmkbibiaa
