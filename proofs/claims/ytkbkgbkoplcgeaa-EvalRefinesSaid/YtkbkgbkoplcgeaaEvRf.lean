/- EvalRefines: the walk. -/
import Derived.Test.YtkbkgbkoplcgeaaEvN
namespace Go.Proofs.Ytkbkgbkoplcgeaa
open Go.RowKit Go.Maps
set_option linter.unusedVariables false
set_option linter.unusedSimpArgs false
set_option maxRecDepth 100000
set_option maxHeartbeats 1000000


theorem infoVal : (Try.prog.info? 24).map (fun i => (i.zero, i.size, i.bytes)) = some (some (.agg #[.int .i64 0, .int .u64 0, .int .i64 0, .int .i64 0]), 4, 32) := by kernel_rfl
theorem vlC_one (v : Vl) : ∀ u ∈ vlC v, u.oneCell' = true := by intro u hu; unfold vlC at hu; simp at hu; rcases hu with rfl | rfl | rfl | rfl <;> rfl
theorem grown_none {w w' : World} (hb : Below w.heap.size w w') : w.grownBy w' none := ⟨hb.os, hb.tape, hb.output, hb.size, fun k hk _ => hb.block k hk⟩
theorem own_later {w w' : World} {B e m n : Nat} {v : Value} {xs : List Value} (h : w.ownsRow B e m v n xs) (hb : Below w.heap.size w w') : w'.ownsRow B e m v n xs := kept_none h (grown_none hb)
theorem vls_in {B n : Nat} {w : World} {g c : Nat} {ys : List Vl} (h : w.ownsRow B 24 4 (.slice (some ⟨g, 0, none⟩) n c) n (ys.flatMap vlC)) (hn : n = ys.length) : VlsIn w.heap.size w (some ⟨g, 0, none⟩) n c ys := by
  subst hn
  have hc : ys.length ≤ c ∧ c ≤ maxLen := by
    rcases h.2 with ⟨e, h0⟩ | ⟨g, cap, cur, e, _, _, h1, h2, _⟩
    · cases e
    · injection e with e1 e2 e3; subst e3; exact ⟨h1, h2⟩
  exact ⟨rfl, hc.1, hc.2, fun j u hu => ⟨_, rfl, (h.lt g rfl).2, h.cells rfl j u hu⟩, fun _ _ => trivial⟩
theorem own_vl {w : World} {B g n c : Nat} {L : List Vl} (h : w.ownsRow B 24 4 (.slice (some ⟨g, 0, none⟩) n c) n (L.flatMap vlC)) (k : Nat) (hk : k < L.length) :
    w.cell? ⟨g, k * 4, none⟩ = some (.int .i64 L[k].k) ∧ w.cell? ⟨g, k * 4 + 1, none⟩ = some (.int .u64 L[k].b) ∧ w.cell? ⟨g, k * 4 + 2, none⟩ = some (.int .i64 L[k].bk) ∧ w.cell? ⟨g, k * 4 + 3, none⟩ = some (.int .i64 L[k].o) ∧ ∀ i, w.frozen? ⟨g, i, none⟩ = false := by
  have hr := own_range vlC_len h k hk
  exact ⟨hr 0 _ rfl, hr 1 _ rfl, hr 2 _ rfl, hr 3 _ rfl, fun i => h.frozenAt _⟩
theorem vl_store {w : World} {B g n c k : Nat} {L : List Vl} (h : w.ownsRow B 24 4 (.slice (some ⟨g, 0, none⟩) n c) n (L.flatMap vlC)) (hk : k < L.length) (y : Vl) :
    (w.setCells g (k * 4) (vlC y)).ownsRow B 24 4 (.slice (some ⟨g, 0, none⟩) n c) n ((L.set k y).flatMap vlC) := by
  have := setCells_own (vlC y) (k * 4) h
  rwa [sets_flat vlC 4 (by decide) vlC_len _ k hk y] at this
theorem flatMap_one (l : List Int) : l.flatMap intC = l.map (fun x => Value.int .i64 x) := by induction l with | nil => rfl | cons x l ih => rw [List.flatMap_cons, ih]; rfl
theorem cell_keep {w : World} {a : Addr} {u : Value} {ob : Obj} (h : w.cell? a = some u) : (w.alloc ob).cell? a = some u := (World.cell?_alloc_some w a ob (by rw [h]; rfl)).trans h
theorem cell_drew {w : World} {a : Addr} {u : Value} (h : w.cell? a = some u) : w.drew.cell? a = some u := h
theorem cell_far4 {w : World} {a : Addr} {u v0 v1 v2 v3 : Value} {g o0 o1 o2 o3 : Nat} (hne : g ≠ a.block) (h : w.cell? a = some u) : ((((w.setCell ⟨g, o0, none⟩ v0).setCell ⟨g, o1, none⟩ v1).setCell ⟨g, o2, none⟩ v2).setCell ⟨g, o3, none⟩ v3).cell? a = some u := by
  rw [World.cell?_setCell_far _ _ _ _ hne, World.cell?_setCell_far _ _ _ _ hne, World.cell?_setCell_far _ _ _ _ hne, World.cell?_setCell_far _ _ _ _ hne]; exact h
theorem below_al {W w : World} {ob : Obj} (h : Below W.heap.size W w) : Below W.heap.size W (w.alloc ob) := h.alloc h.size _
theorem below_set4 {W w : World} {g o0 o1 o2 o3 : Nat} {v0 v1 v2 v3 : Value} (h : Below W.heap.size W w) (hg : W.heap.size ≤ g) : Below W.heap.size W ((((w.setCell ⟨g, o0, none⟩ v0).setCell ⟨g, o1, none⟩ v1).setCell ⟨g, o2, none⟩ v2).setCell ⟨g, o3, none⟩ v3) :=
  (((h.setCell (p := ⟨g, o0, none⟩) hg v0).setCell (p := ⟨g, o1, none⟩) hg v1).setCell (p := ⟨g, o2, none⟩) hg v2).setCell (p := ⟨g, o3, none⟩) hg v3
/-- A new box of four cells. -/
theorem Fr.z {W w : World} {bs : List (Nat × List Value)} (F : Fr W bs w) : Fr W ((w.heap.size, [.int .i64 0, .int .u64 0, .int .i64 0, .int .i64 0]) :: bs) (w.alloc (.cells #[.int .i64 0, .int .u64 0, .int .i64 0, .int .i64 0] 24)) := F.push rfl _ _
theorem Fr.bx {W w : World} {bs : List (Nat × List Value)} (F : Fr W bs w) {g : Nat} {cs : List Value} (h : (g, cs) ∈ bs) : Box g cs w := (F.2 _ h).2
theorem Fr.far {W w : World} {g : Nat} {bs : List (Nat × List Value)} (F : Fr W bs w) (hg : W.heap.size ≤ g) (hd : ∀ x ∈ bs, g ≠ x.1) (o : Nat) (u : Value) : Fr W bs (w.setCell ⟨g, o, none⟩ u) :=
  ⟨F.1.setCell (p := ⟨g, o, none⟩) hg u, fun x hx => ⟨(F.2 x hx).1, (F.2 x hx).2.other (hd x hx) o u⟩⟩
theorem Fr.pair {W w : World} {bs : List (Nat × List Value)} (F : Fr W bs w) {ga gb : Nat} {za zb : List Value} (ha : (ga, za) ∈ bs) (hb : (gb, zb) ∈ bs) : Fr W [(ga, za), (gb, zb)] w :=
  ⟨F.1, fun x hx => by
    rcases List.mem_cons.1 hx with rfl | hx
    · exact F.2 _ ha
    · rcases List.mem_cons.1 hx with rfl | hx
      · exact F.2 _ hb
      · cases hx⟩
theorem Fr.swap {W w : World} {x y : Nat × List Value} (F : Fr W [x, y] w) : Fr W [y, x] w := ⟨F.1, fun z hz => F.2 z (by simp at hz ⊢; exact hz.symm)⟩
theorem Fr.two {W w : World} {bs : List (Nat × List Value)} (F : Fr W bs w) {ga gb : Nat} (ha : (ga, [.int .i64 0, .int .u64 0, .int .i64 0, .int .i64 0]) ∈ bs) (hb : (gb, [.int .i64 0, .int .u64 0, .int .i64 0, .int .i64 0]) ∈ bs) (hne : ga ≠ gb) (u0 u1 u2 u3 v0 v1 v2 v3 : Value) :
    Fr W [(ga, [u0, u1, u2, u3]), (gb, [v0, v1, v2, v3])] ((((((((w.setCell ⟨ga, 0, none⟩ u0).setCell ⟨ga, 1, none⟩ u1).setCell ⟨ga, 2, none⟩ u2).setCell ⟨ga, 3, none⟩ u3).setCell ⟨gb, 0, none⟩ v0).setCell ⟨gb, 1, none⟩ v1).setCell ⟨gb, 2, none⟩ v2).setCell ⟨gb, 3, none⟩ v3) := by
  have F1 := (F.pair ha hb).put (fun x hx => by simp at hx; rw [hx]; exact hne) 0 u0 u1 u2 u3
  exact (F1.swap.put (fun x hx => by simp at hx; rw [hx]; exact hne.symm) 0 v0 v1 v2 v3).swap
theorem Fr.two' {W w : World} {bs : List (Nat × List Value)} (F : Fr W bs w) {ga gb : Nat} (ha : (ga, [.int .i64 0, .int .u64 0, .int .i64 0, .int .i64 0]) ∈ bs) (hb : (gb, [.int .i64 0, .int .u64 0, .int .i64 0, .int .i64 0]) ∈ bs) (hne : ga ≠ gb) (u0 u1 u2 u3 v0 v1 v2 v3 : Value) :
    Fr W [(ga, [u0, u1, u2, u3]), (gb, [v0, v1, v2, v3])] ((((((((w.setCell ⟨gb, 0, none⟩ v0).setCell ⟨gb, 1, none⟩ v1).setCell ⟨gb, 2, none⟩ v2).setCell ⟨gb, 3, none⟩ v3).setCell ⟨ga, 0, none⟩ u0).setCell ⟨ga, 1, none⟩ u1).setCell ⟨ga, 2, none⟩ u2).setCell ⟨ga, 3, none⟩ u3) :=
  (F.two hb ha hne.symm v0 v1 v2 v3 u0 u1 u2 u3).swap
theorem Fr.aa {W w : World} (F : Fr W [] w) (u0 u1 u2 u3 v0 v1 v2 v3 : Value) :
    Fr W [(w.heap.size, [u0, u1, u2, u3]), (w.heap.size + 1, [v0, v1, v2, v3])] ((w.alloc (.cells #[u0, u1, u2, u3] 24)).alloc (.cells #[v0, v1, v2, v3] 24)) :=
  ((F.push (g := w.heap.size) rfl [u0, u1, u2, u3] 24).push (g := w.heap.size + 1) (by simp) [v0, v1, v2, v3] 24).swap
theorem Fr.aa' {W w : World} (F : Fr W [] w) (u0 u1 u2 u3 v0 v1 v2 v3 : Value) :
    Fr W [(w.heap.size + 1, [u0, u1, u2, u3]), (w.heap.size, [v0, v1, v2, v3])] ((w.alloc (.cells #[v0, v1, v2, v3] 24)).alloc (.cells #[u0, u1, u2, u3] 24)) :=
  ((F.push (g := w.heap.size) rfl [v0, v1, v2, v3] 24).push (g := w.heap.size + 1) (by simp) [u0, u1, u2, u3] 24)
theorem Fr.sa' {W w : World} {g : Nat} {z : List Value} (F : Fr W [(g, z)] w) (hz : z = [.int .i64 0, .int .u64 0, .int .i64 0, .int .i64 0]) (u0 u1 u2 u3 v0 v1 v2 v3 : Value) :
    Fr W [(w.heap.size, [u0, u1, u2, u3]), (g, [v0, v1, v2, v3])] (((((w.setCell ⟨g, 0, none⟩ v0).setCell ⟨g, 1, none⟩ v1).setCell ⟨g, 2, none⟩ v2).setCell ⟨g, 3, none⟩ v3).alloc (.cells #[u0, u1, u2, u3] 24)) := by
  subst hz
  exact (F.put (fun x hx => absurd hx (by simp)) 0 v0 v1 v2 v3).push (g := w.heap.size) (by simp) [u0, u1, u2, u3] 24
theorem Fr.sa {W w : World} {g : Nat} {z : List Value} (F : Fr W [(g, z)] w) (hz : z = [.int .i64 0, .int .u64 0, .int .i64 0, .int .i64 0]) (u0 u1 u2 u3 v0 v1 v2 v3 : Value) :
    Fr W [(g, [u0, u1, u2, u3]), (w.heap.size, [v0, v1, v2, v3])] (((((w.setCell ⟨g, 0, none⟩ u0).setCell ⟨g, 1, none⟩ u1).setCell ⟨g, 2, none⟩ u2).setCell ⟨g, 3, none⟩ u3).alloc (.cells #[v0, v1, v2, v3] 24)) := (F.sa' hz v0 v1 v2 v3 u0 u1 u2 u3).swap
set_option maxHeartbeats 40000000 in
theorem refines_row (op rg ty n fl : Int) (ap : Option Addr) (al ac : Nat) (tp : Option Addr) (tl tc : Nat) (pa : Addr) (q : Option Addr) (c c' : Nat) (l l' : List Vl) (xk xb xbk xo E : Int) (ts : List Int) (W : World)
    (hl : VlsIn W.heap.size W (some pa) l.length c l) (hl' : VlsIn W.heap.size W q l'.length c' l') (hle : l.length ≤ l'.length) (hlt : l.length ≤ ts.length) (h0 : 1 ≤ l.length) (h3 : l.length ≤ 3) (hE : (E == 3) = false)
    (X Y : Nat → Vl) (bet : Nat → Bool)
    (c1 : ∀ w, Below W.heap.size W w → Calls Try.prog 35 #[.agg #[.int .i64 op, .int .i64 rg, .int .i64 ty, .int .i64 n, .int .i64 fl, .slice ap al ac, .slice tp tl tc], .slice (some pa) l.length c] w fun e w' => e = .returned (.tuple #[.agg #[.int .i64 xk, .int .u64 xb, .int .i64 xbk, .int .i64 xo], .int .i64 E]) ∧ Below w.heap.size w w')
    (c2 : ∀ w, Calls Try.prog 36 #[.agg #[.int .i64 op, .int .i64 rg, .int .i64 ty, .int .i64 n, .int .i64 fl, .slice ap al ac, .slice tp tl tc]] w fun e w' => ∃ g c, e = .returned (.slice (some ⟨g, 0, none⟩) ts.length c) ∧ Box g (ts.flatMap intC) w' ∧ w.heap.size ≤ g ∧ Below w.heap.size w w')
    (c3 : ∀ k (h : k < l.length), ∀ w, Calls Try.prog 37 #[.int .i64 ts[k], l[k].val] w fun e w' => e = .returned (X k).val ∧ Below w.heap.size w w')
    (c4 : ∀ k (h : k < l.length), ∀ w, Calls Try.prog 37 #[.int .i64 ts[k], l'[k].val] w fun e w' => e = .returned (Y k).val ∧ Below w.heap.size w w')
    (c5 : ∀ k (h : k < l.length), ∀ w, Calls Try.prog 38 #[(X k).val, (Y k).val] w fun e w' => e = .returned (.bool (bet k)) ∧ Below w.heap.size w w')
    (vk vb vbk vo Fo : Int)
    (c6 : ∀ g c (R : List Vl) w, R.length = l.length → (∀ i (h : i < R.length) (h1 : i < l.length) (h2 : i < l'.length), R[i] = if bet i = true then l'[i] else l[i]) → VlsIn w.heap.size w (some ⟨g, 0, none⟩) l.length c R → Calls Try.prog 35 #[.agg #[.int .i64 op, .int .i64 rg, .int .i64 ty, .int .i64 n, .int .i64 fl, .slice ap al ac, .slice tp tl tc], .slice (some ⟨g, 0, none⟩) l.length c] w fun e w' => e = .returned (.tuple #[.agg #[.int .i64 vk, .int .u64 vb, .int .i64 vbk, .int .i64 vo], .int .i64 Fo]) ∧ Below w.heap.size w w')
    (hfin : (E != 0) = true ∨ E = 0 ∧ (Fo = 4 ∨ Fo = 0 ∧ ∀ w, Calls Try.prog 38 #[.agg #[.int .i64 xk, .int .u64 xb, .int .i64 xbk, .int .i64 xo], .agg #[.int .i64 vk, .int .u64 vb, .int .i64 vbk, .int .i64 vo]] w fun e w' => e = .returned (.bool true) ∧ Below w.heap.size w w')) :
    Calls Try.prog 9 #[.agg #[.int .i64 op, .int .i64 rg, .int .i64 ty, .int .i64 n, .int .i64 fl, .slice ap al ac, .slice tp tl tc], .slice (some pa) l.length c, .slice q l'.length c'] W fun e w' => e = .returned (.bool true) ∧ Below W.heap.size W w' := by
  have cl := fun W => livesE_any W
  have G0 := Lib.hid ((Fr.start W).push (g := W.heap.size) rfl [.int .i64 op, .int .i64 rg, .int .i64 ty, .int .i64 n, .int .i64 fl, .slice ap al ac, .slice tp tl tc] 62)
  have n1 : ¬ 1000 < (l.length : Int) := by omega
  have n2 : ¬ (l'.length : Int) < (l.length : Int) := by omega
  have n3 : ¬ (ts.length : Int) < (l.length : Int) := by omega
  obtain ⟨iV, hiV, hz0, hz1, hz2⟩ := info_parts infoVal
  have HI := Lib.hid (And.intro hiV (And.intro hz0 (And.intro hz1 hz2)))
  have HL := Lib.hid hl
  have HL' := Lib.hid hl'
  have k1 := hl.2.1
  have k2 := hl.2.2.1
  have k3 := hl'.2.1
  have k4 := hl'.2.2.1
  unfold maxLen at k2 k4
  have h63 : Hid (0 + l.length ≤ maxLen) := Lib.hid (by unfold maxLen; omega)
  have hby : Hid ((0 + l.length) * 32 ≤ 140737488355328) := Lib.hid (by omega)
  have hfl : Hid ((l.flatMap vlC).length = l.length * 4) := Lib.hid (flat_len vlC 4 vlC_len l)
  have HON : Hid (∀ u ∈ l.flatMap vlC, u.oneCell' = true) := Lib.hid (fun u hu => by
    obtain ⟨v, _, hv⟩ := List.mem_flatMap.1 hu
    exact vlC_one v u hv)
  clear hiV hz0 hz1 hz2 hl hl'
  go_enter Try.func9, Try.ntmps9
  go_wp2_with (first
    | ((with_reducible refine (cl _).mono ?_); rintro e w1 ⟨rfl, hb⟩; have F := G0.out.later hb; obtain ⟨i0, i1, i2, i3, i4, i5, i6⟩ := F.c7 0 rfl; have iz := (F.at 0 rfl).2.1; have d1 := c1 _ F.1; have G1 := Lib.hid F; clear F hb)
    | ((with_reducible refine d1.mono ?_); rintro e w2 ⟨rfl, hb⟩; have F := G1.out.later hb; clear i0 i1 i2 i3 i4 i5 i6 iz; obtain ⟨i0, i1, i2, i3, i4, i5, i6⟩ := F.c7 0 rfl; have iz := (F.at 0 rfl).2.1; have G2 := Lib.hid (F.push (g := w2.heap.size) rfl [.int .i64 xk, .int .u64 xb, .int .i64 xbk, .int .i64 xo] 24); clear F hb)
    | ((with_reducible refine (c2 _).mono ?_); rintro e w3 ⟨gt, ct, rfl, hti, hgt, hb⟩; have F := G2.out.later hb; clear i0 i1 i2 i3 i4 i5 i6 iz; obtain ⟨i0, i1, i2, i3, i4, i5, i6⟩ := F.c7 1 rfl; have iz := (F.at 1 rfl).2.1; obtain ⟨x0, x1, x2, x3, xf⟩ := F.c4 0 rfl; have xz := (F.at 0 rfl).2.1; have G3 := Lib.hid (show Fr W [(gt, ts.flatMap intC), _, _] w3 from ⟨F.1, fun x hx => by
        rcases List.mem_cons.1 hx with rfl | hx
        · exact ⟨Nat.le_trans G2.out.1.size hgt, hti⟩
        · exact F.2 x hx⟩); clear F hb hti hgt
       have HO0 : Hid ((w3.alloc (.cells #[] 24)).ownsRow w3.heap.size 24 4 (.slice (some ⟨w3.heap.size, 0, none⟩) 0 0) 0 []) := Lib.hid (World.ownsRow_lit w3 #[] 0 (Nat.le_refl _) (Nat.zero_le _) rfl)
       have HNW : Hid (∀ j u, (l.flatMap vlC)[j]? = some u → ∃ ad, some pa = some ad ∧ (w3.alloc (.cells #[] 24)).cell? (ad.add j) = some u) := Lib.hid (fun j u hu => by
         obtain ⟨a, e, ha, hc⟩ := HL.out.2.2.2.1 j u hu
         exact ⟨a, e, ((G3.out.alloc _).1.cell (p := a.add j) (by rw [add_block]; exact ha)).trans hc⟩)
       have HBS : Hid (w3.heap.size ≤ (w3.alloc (.cells #[] 24)).heap.size) := Lib.hid (by simp))
    | (at_builtin
       refine wpList_append_at rfl (.tmp 46) (.tmp 47) 63 rfl w3.heap.size 24 iV _ 4 32 Try.underlying63 HI.out.1 HI.out.2.1 HI.out.2.2.1 HI.out.2.2.2 rfl (by decide) (.slice (some ⟨w3.heap.size, 0, none⟩) 0 0) 0 [] rfl
         HO0.out (some pa) l.length c (l.flatMap vlC) rfl hfl.out HNW.out HON.out h63.out hby.out HBS.out ?_
       intro v8 w8 hown8 hgrow8 hmv8
       obtain ⟨g8, c8, rfl⟩ : ∃ g8 c8, v8 = .slice (some ⟨g8, 0, none⟩) l.length c8 := by
         rcases hown8.2 with ⟨_, e0⟩ | ⟨g, cap, cur, e, _⟩
         · omega
         · exact ⟨g, cap, by rw [e, Nat.zero_add]⟩
       rw [Nat.zero_add, List.nil_append] at hown8))
  have hB3 : Below w3.heap.size (w3.alloc (.cells #[] 24)) w8 := (Past.grown (Past.refl (by simp)) hgrow8 (Nat.le_refl _)).2
  have hB : Below w3.heap.size w3 w8 := (below1 w3 _).trans hB3
  have HF8 := Lib.hid (G3.out.later hB)
  have HO8 := Lib.hid hown8
  have HGL := Lib.hid (hown8.lt g8 rfl).1
  have HW3 := Lib.hid G3.out.1.size
  have HB3 := Lib.hid (show ∀ x ∈ ([(gt, ts.flatMap intC), (w2.heap.size, [.int .i64 xk, .int .u64 xb, .int .i64 xbk, .int .i64 xo]), (W.heap.size, [.int .i64 op, .int .i64 rg, .int .i64 ty, .int .i64 n, .int .i64 fl, .slice ap al ac, .slice tp tl tc])] : List (Nat × List Value)), x.1 < w3.heap.size from fun x hx => (G3.out.2 x hx).2.1)
  clear hB3 hB hown8 hgrow8 hmv8 HO0 HNW HBS HON d1 c1 c2 cl G0 G1 G2 G3 HI iz i0 i1 i2 i3 i4 i5 i6 xz xf x0 x1 x2 x3
  go_loopw [51] (fun u wr => ∃ (k : Nat) (R : List Vl), k ≤ l.length ∧ u = .int .i64 k ∧ R.length = l.length ∧ (∀ i (h : i < R.length) (h1 : i < l.length) (h2 : i < l'.length), R[i] = if i < k ∧ bet i = true then l'[i] else l[i]) ∧ Fr W [(gt, ts.flatMap intC), (w2.heap.size, [.int .i64 xk, .int .u64 xb, .int .i64 xbk, .int .i64 xo]), (W.heap.size, [.int .i64 op, .int .i64 rg, .int .i64 ty, .int .i64 n, .int .i64 fl, .slice ap al ac, .slice tp tl tc])] wr ∧ wr.ownsRow w3.heap.size 24 4 (.slice (some ⟨g8, 0, none⟩) l.length c8) l.length (R.flatMap vlC)) (fun u _ => l.length - (intOf u).toNat)
  case atStart => exact ⟨0, l, Nat.zero_le _, rfl, rfl, fun i h h1 h2 => by rw [if_neg (fun x => absurd x.1 (Nat.not_lt_zero _))], HF8.out, HO8.out⟩
  case round =>
    clear HF8 HO8
    obtain ⟨k, R, hk, rfl, hRl, hR, hF, hO⟩ := hrel
    have HR := Lib.hid (And.intro hRl hR)
    have HF := Lib.hid hF
    have HO := Lib.hid hO
    clear hRl hR hF hO
    by_cases t1 : k < l.length
    · have t2 : k < ts.length := by omega
      have t3 : k < l'.length := by omega
      obtain ⟨qa, rfl, hqa, hy⟩ := vl_row HL'.out k t3
      obtain ⟨pa', epa, hpa, hx⟩ := vl_row HL.out k t1
      injection epa with epa
      subst epa
      have HX := Lib.hid hx
      have HY := Lib.hid hy
      have HPA := Lib.hid hpa
      have HQA := Lib.hid hqa
      obtain ⟨f0, f1, f2, f3⟩ := HX.out.below HF.out.1 (by rw [add_block]; exact hpa)
      obtain ⟨g0, g1, g2, g3⟩ := HY.out.below HF.out.1 (by rw [add_block]; exact hqa)
      have e0 : wr.cell? ⟨gt, k, none⟩ = some (.int .i64 ts[k]) := (HF.out.at 0 rfl).2.get k _ (by rw [show ts.flatMap intC = ts.map (fun x => Value.int .i64 x) from flatMap_one ts]; rw [List.getElem?_map, List.getElem?_eq_getElem t2]; rfl)
      have d3 := c3 k t1
      have d4 := c4 k t1
      have d5 := c5 k t1
      obtain ⟨⟨ak, ab, abk, ao⟩, eA⟩ : ∃ v, l[k] = v := ⟨_, rfl⟩
      obtain ⟨⟨bk, bb, bbk, bo⟩, eB⟩ : ∃ v, l'[k] = v := ⟨_, rfl⟩
      obtain ⟨⟨yk, yb, ybk, yo⟩, eY⟩ : ∃ v, X k = v := ⟨_, rfl⟩
      obtain ⟨⟨zk, zb, zbk, zo⟩, eZ⟩ : ∃ v, Y k = v := ⟨_, rfl⟩
      obtain ⟨tk, eT⟩ : ∃ v, ts[k] = v := ⟨_, rfl⟩
      have HEB := Lib.hid eB
      rw [eA] at f0 f1 f2 f3 d3
      rw [eB] at g0 g1 g2 g3 d4
      rw [eY] at d3 d5
      rw [eZ] at d4 d5
      rw [eT] at e0 d3 d4
      simp only at f0 f1 f2 f3 g0 g1 g2 g3
      replace d3 : ∀ w, Calls Try.prog 37 #[.int .i64 tk, .agg #[.int .i64 ak, .int .u64 ab, .int .i64 abk, .int .i64 ao]] w fun e w' => e = .returned (.agg #[.int .i64 yk, .int .u64 yb, .int .i64 ybk, .int .i64 yo]) ∧ Below w.heap.size w w' := d3
      replace d4 : ∀ w, Calls Try.prog 37 #[.int .i64 tk, .agg #[.int .i64 bk, .int .u64 bb, .int .i64 bbk, .int .i64 bo]] w fun e w' => e = .returned (.agg #[.int .i64 zk, .int .u64 zb, .int .i64 zbk, .int .i64 zo]) ∧ Below w.heap.size w w' := d4
      replace d5 : ∀ w, Calls Try.prog 38 #[.agg #[.int .i64 yk, .int .u64 yb, .int .i64 ybk, .int .i64 yo], .agg #[.int .i64 zk, .int .u64 zb, .int .i64 zbk, .int .i64 zo]] w fun e w' => e = .returned (.bool (bet k)) ∧ Below w.heap.size w w' := d5
      clear hx hy hpa hqa eA eB eY eZ eT c3 c4 c5
      go_wp2_with fail
      have bp : (pa.add (k * 4)).block < wr.heap.size := by rw [add_block]; exact Nat.lt_of_lt_of_le HPA.out HF.out.1.size
      have bq : (qa.add (k * 4)).block < wr.heap.size := by rw [add_block]; exact Nat.lt_of_lt_of_le HQA.out HF.out.1.size
      have bt : gt < wr.heap.size := (HF.out.at 0 rfl).2.1
      go_cut [12, 13] (fun s12 s13 wx => ∃ ga gb, s12 = .pointer (some ⟨ga, 0, none⟩) ∧ s13 = .pointer (some ⟨gb, 0, none⟩) ∧ Fr wr [(ga, [.int .i64 yk, .int .u64 yb, .int .i64 ybk, .int .i64 yo]), (gb, [.int .i64 zk, .int .u64 zb, .int .i64 zbk, .int .i64 zo])] wx)
      case first =>
        have FS := Fr.start wr
        have F0 : ∀ w', Below wr.heap.size wr w' → w'.cell? (pa.add (k * 4)) = some (.int .i64 ak) := fun w' hb => (hb.cell (p := pa.add (k * 4)) bp).trans f0
        have F1 : ∀ w', Below wr.heap.size wr w' → w'.cell? ⟨(pa.add (k * 4)).block, (pa.add (k * 4)).off + 1, none⟩ = some (.int .u64 ab) := fun w' hb => (hb.cell (p := ⟨(pa.add (k * 4)).block, (pa.add (k * 4)).off + 1, none⟩) bp).trans f1
        have F2 : ∀ w', Below wr.heap.size wr w' → w'.cell? ⟨(pa.add (k * 4)).block, (pa.add (k * 4)).off + 2, none⟩ = some (.int .i64 abk) := fun w' hb => (hb.cell (p := ⟨(pa.add (k * 4)).block, (pa.add (k * 4)).off + 2, none⟩) bp).trans f2
        have F3 : ∀ w', Below wr.heap.size wr w' → w'.cell? ⟨(pa.add (k * 4)).block, (pa.add (k * 4)).off + 3, none⟩ = some (.int .i64 ao) := fun w' hb => (hb.cell (p := ⟨(pa.add (k * 4)).block, (pa.add (k * 4)).off + 3, none⟩) bp).trans f3
        have G0 : ∀ w', Below wr.heap.size wr w' → w'.cell? (qa.add (k * 4)) = some (.int .i64 bk) := fun w' hb => (hb.cell (p := qa.add (k * 4)) bq).trans g0
        have G1 : ∀ w', Below wr.heap.size wr w' → w'.cell? ⟨(qa.add (k * 4)).block, (qa.add (k * 4)).off + 1, none⟩ = some (.int .u64 bb) := fun w' hb => (hb.cell (p := ⟨(qa.add (k * 4)).block, (qa.add (k * 4)).off + 1, none⟩) bq).trans g1
        have G2 : ∀ w', Below wr.heap.size wr w' → w'.cell? ⟨(qa.add (k * 4)).block, (qa.add (k * 4)).off + 2, none⟩ = some (.int .i64 bbk) := fun w' hb => (hb.cell (p := ⟨(qa.add (k * 4)).block, (qa.add (k * 4)).off + 2, none⟩) bq).trans g2
        have G3 : ∀ w', Below wr.heap.size wr w' → w'.cell? ⟨(qa.add (k * 4)).block, (qa.add (k * 4)).off + 3, none⟩ = some (.int .i64 bo) := fun w' hb => (hb.cell (p := ⟨(qa.add (k * 4)).block, (qa.add (k * 4)).off + 3, none⟩) bq).trans g3
        have E0 : ∀ w', Below wr.heap.size wr w' → w'.cell? ⟨gt, k, none⟩ = some (.int .i64 tk) := fun w' hb => (hb.cell (p := ⟨gt, k, none⟩) bt).trans e0
        have i0 : (0 : Int) ≤ (k : Int) := Int.natCast_nonneg k
        have i1 : (k : Int) < (l.length : Int) := by omega
        have i2 : (k : Int) < (l'.length : Int) := by omega
        have i3 : (k : Int) < (ts.length : Int) := by omega
        have sr := FS.1
        have lr := Nat.le_refl wr.heap.size
        have lrs := Nat.le_succ wr.heap.size
        clear hle hlt h0 h3 n1 n2 n3 hE HR HO HL HL' hfin c6 d5 HEB HX HY HGL HW3 HB3 h63 hby hfl HF HPA HQA f0 f1 f2 f3 g0 g1 g2 g3 e0 bp bq bt
        go_region_held3 (fun w' => Below wr.heap.size wr w')
          (((try dsimp only); (repeat (first | (with_reducible assumption) | (with_reducible apply below_drew) | (with_reducible apply below_al) | (with_reducible refine below_set4 ?_ (by with_reducible assumption))))))
          (first
          | ((with_reducible refine (d3 _).mono ?_)
             rintro e wA ⟨rfl, hbA⟩
             have FA : Fr wr _ wA := Fr.later (by repeat (first | (with_reducible exact FS) | (with_reducible apply Fr.drew) | (with_reducible apply Fr.z))) hbA
             have sA := FA.1
             have lA := FA.1.size
             have lAs := Nat.le_succ_of_le FA.1.size
             have hzA := hbA.size
             try simp only [World.size_alloc, World.size_drew] at hzA
             try (have PA0 := (FA.at 0 rfl).2
                  try simp only [World.size_drew, World.size_alloc] at PA0
                  have pA0_s := PA0.1
                  have pA0_f := PA0.2.1
                  have pA0_0 := PA0.get 0 _ rfl
                  have pA0_1 := PA0.get 1 _ rfl
                  have pA0_2 := PA0.get 2 _ rfl
                  have pA0_3 := PA0.get 3 _ rfl)
             try (have PA1 := (FA.at 1 rfl).2
                  try simp only [World.size_drew, World.size_alloc] at PA1
                  have pA1_s := PA1.1
                  have pA1_f := PA1.2.1
                  have pA1_0 := PA1.get 0 _ rfl
                  have pA1_1 := PA1.get 1 _ rfl
                  have pA1_2 := PA1.get 2 _ rfl
                  have pA1_3 := PA1.get 3 _ rfl))
          | ((with_reducible refine (d4 _).mono ?_)
             rintro e wB ⟨rfl, hbB⟩
             have FB : Fr wr _ wB := Fr.later (by repeat (first | (with_reducible exact FA) | (with_reducible apply Fr.drew) | (with_reducible apply Fr.z))) hbB
             have sB := FB.1
             have lB := FB.1.size
             have lBs := Nat.le_succ_of_le FB.1.size
             have hzB := hbB.size
             try simp only [World.size_alloc, World.size_drew] at hzB
             
             try (have PB0 := (FB.at 0 rfl).2
                  try simp only [World.size_drew, World.size_alloc] at PB0
                  have pB0_s := PB0.1
                  have pB0_f := PB0.2.1
                  have pB0_0 := PB0.get 0 _ rfl
                  have pB0_1 := PB0.get 1 _ rfl
                  have pB0_2 := PB0.get 2 _ rfl
                  have pB0_3 := PB0.get 3 _ rfl)
             try (have PB1 := (FB.at 1 rfl).2
                  try simp only [World.size_drew, World.size_alloc] at PB1
                  have pB1_s := PB1.1
                  have pB1_f := PB1.2.1
                  have pB1_0 := PB1.get 0 _ rfl
                  have pB1_1 := PB1.get 1 _ rfl
                  have pB1_2 := PB1.get 2 _ rfl
                  have pB1_3 := PB1.get 3 _ rfl)))
        all_goals (try go_wp2_with fail)
        all_goals
          go_meet
          refine ⟨_, _, rfl, rfl, ?_⟩
          first
            | (with_reducible exact Fr.aa FB _ _ _ _ _ _ _ _)
            | (with_reducible exact Fr.aa' FB _ _ _ _ _ _ _ _)
            | (with_reducible exact Fr.sa FB rfl _ _ _ _ _ _ _ _)
            | (with_reducible exact Fr.sa' FB rfl _ _ _ _ _ _ _ _)
            | (with_reducible refine Fr.two FB ?_ ?_ ?_ _ _ _ _ _ _ _ _
               · simp
               · simp
               · omega)
      case rest =>
        obtain ⟨ga, gb, rfl, rfl, hF2⟩ := hcut
        have HF2 := Lib.hid hF2
        obtain ⟨y0, y1, y2, y3, yf⟩ := hF2.c4 0 rfl
        obtain ⟨z0, z1, z2, z3, zf⟩ := hF2.c4 1 rfl
        clear hF2 f0 f1 f2 f3 g0 g1 g2 g3 e0 d3 d4
        cases hb : bet k with
        | false =>
          rw [hb] at d5
          have HBK := Lib.hid hb
          clear hb
          go_wp2_with (first
            | ((with_reducible refine (d5 _).mono ?_); rintro e w9 ⟨rfl, hb9⟩; have HB9 := Lib.hid hb9; clear hb9))
          exact ⟨⟨k + 1, R, t1, by go_num, HR.out.1, fun i h h1 h2 => by
            rw [HR.out.2 i h h1 h2]
            by_cases e : i = k
            · subst e; rw [HBK.out]; simp
            · have : i < k + 1 ↔ i < k := by omega
              simp only [this], (HF.out.later HF2.out.1).later HB9.out, own_later (own_later HO.out HF2.out.1) HB9.out⟩, by simp [intOf]; omega⟩
        | true =>
          rw [hb] at d5
          have HBK := Lib.hid hb
          clear hb
          have hkR : k < R.length := by rw [HR.out.1]; exact t1
          go_wp2_with (first
            | ((with_reducible refine (d5 _).mono ?_); rintro e w9 ⟨rfl, hb9⟩
               have HF9 := Lib.hid ((HF.out.later HF2.out.1).later hb9)
               have HO9 := Lib.hid (own_later (own_later HO.out HF2.out.1) hb9)
               obtain ⟨g0, g1, g2, g3⟩ := HY.out.below HF9.out.1 (by rw [add_block]; exact HQA.out)
               rw [HEB.out] at g0 g1 g2 g3
               simp only at g0 g1 g2 g3
               obtain ⟨r0, r1, r2, r3, rf⟩ := own_vl HO9.out k hkR
               clear hb9))
          have HS9 := Lib.hid (vl_store HO9.out hkR ⟨bk, bb, bbk, bo⟩)
          have hd : ∀ x ∈ ([(gt, ts.flatMap intC), (w2.heap.size, [.int .i64 xk, .int .u64 xb, .int .i64 xbk, .int .i64 xo]), (W.heap.size, [.int .i64 op, .int .i64 rg, .int .i64 ty, .int .i64 n, .int .i64 fl, .slice ap al ac, .slice tp tl tc])] : List (Nat × List Value)), g8 ≠ x.1 := fun x hx => by have := HB3.out x hx; have := HGL.out; omega
          have hg8 : W.heap.size ≤ g8 := Nat.le_trans HW3.out (HO9.out.lt g8 rfl).1
          exact ⟨⟨k + 1, R.set k ⟨bk, bb, bbk, bo⟩, t1, by go_num, by rw [List.length_set]; exact HR.out.1, fun i h h1 h2 => by
            rw [List.getElem_set]
            by_cases e : k = i
            · subst e; rw [if_pos rfl, if_pos ⟨Nat.lt_succ_self _, HBK.out⟩]; exact HEB.out.symm
            · rw [if_neg e, HR.out.2 i (by rw [List.length_set] at h; exact h) h1 h2]
              have : i < k + 1 ↔ i < k := by omega
              simp only [this], (((HF9.out.far hg8 hd (k * 4) _).far hg8 hd (k * 4 + 1) _).far hg8 hd (k * 4 + 2) _).far hg8 hd (k * 4 + 3) _, HS9.out⟩, by simp [intOf]; omega⟩
    · obtain rfl : k = l.length := by omega
      have hR2 : ∀ i (h : i < R.length) (h1 : i < l.length) (h2 : i < l'.length), R[i] = if bet i = true then l'[i] else l[i] := fun i h h1 h2 => by
        rw [HR.out.2 i h h1 h2]
        simp only [h1, true_and]
      have d6 := c6 g8 c8 R wr HR.out.1 hR2 (vls_in HO.out HR.out.1.symm)
      obtain ⟨i0, i1, i2, i3, i4, i5, i6⟩ := HF.out.c7 2 rfl
      clear hR2 c3 c4 c5 c6 t1 hk
      rcases hfin with hE0 | ⟨rfl, rfl | ⟨rfl, c7⟩⟩
      · go_wp2_with (first
          | ((with_reducible refine d6.mono ?_); rintro e w10 ⟨rfl, hb10⟩; have H10 := Lib.hid ((HF.out.later hb10).alloc (.cells #[.int .i64 vk, .int .u64 vb, .int .i64 vbk, .int .i64 vo] 24)); clear hb10))
        go_ret
        exact ⟨rfl, H10.out.1⟩
      · go_wp2_with (first
          | ((with_reducible refine d6.mono ?_); rintro e w10 ⟨rfl, hb10⟩; have H10 := Lib.hid ((HF.out.later hb10).alloc (.cells #[.int .i64 vk, .int .u64 vb, .int .i64 vbk, .int .i64 vo] 24)); clear hb10))
        go_ret
        exact ⟨rfl, H10.out.1⟩
      · go_wp2_with (first
          | ((with_reducible refine d6.mono ?_); rintro e w10 ⟨rfl, hb10⟩; have F10 := HF.out.later hb10; obtain ⟨x0, x1, x2, x3, xf⟩ := F10.c4 1 rfl; have xz := (F10.at 1 rfl).2.1; have H10 := Lib.hid (F10.alloc (.cells #[.int .i64 vk, .int .u64 vb, .int .i64 vbk, .int .i64 vo] 24)); clear hb10 F10)
          | ((with_reducible refine (c7 _).mono ?_); rintro e w11 ⟨rfl, hb11⟩; have H11 := Lib.hid (H10.out.later hb11); clear hb11))
        go_ret
        exact ⟨rfl, H11.out.1⟩

end Go.Proofs.Ytkbkgbkoplcgeaa
