/- Package eval: Eval. -/
import Derived.Test.YtpjfkmaceaikbaaEvIM
namespace Go.Proofs.Ytpjfkmaceaikbaa
open Go.RowKit Go.Maps
set_option linter.unusedVariables false
set_option linter.unusedSimpArgs false
set_option maxRecDepth 100000
set_option maxHeartbeats 1000000


/-- The cells of a value. -/
def VlAt (w : World) (a : Addr) (v : Vl) : Prop :=
  w.cell? a = some (.int .i64 v.k) ∧ w.cell? ⟨a.block, a.off + 1, none⟩ = some (.int .u64 v.b) ∧ w.cell? ⟨a.block, a.off + 2, none⟩ = some (.int .i64 v.bk) ∧ w.cell? ⟨a.block, a.off + 3, none⟩ = some (.int .i64 v.o)
theorem VlAt.below {B : Nat} {W w : World} {a : Addr} {v : Vl} (h : VlAt W a v) (hb : Below B W w) (ha : a.block < B) : VlAt w a v := by
  obtain ⟨h0, h1, h2, h3⟩ := h
  exact ⟨(hb.cell ha).trans h0, (hb.cell (p := ⟨a.block, a.off + 1, none⟩) ha).trans h1, (hb.cell (p := ⟨a.block, a.off + 2, none⟩) ha).trans h2, (hb.cell (p := ⟨a.block, a.off + 3, none⟩) ha).trans h3⟩
theorem vlC_len (v : Vl) : (vlC v).length = 4 := rfl
/-- A row of values. -/
abbrev VlsIn (B : Nat) (w : World) (p : Option Addr) (n c : Nat) (l : List Vl) : Prop := ListIn vlC NoMem B w p n c l
theorem vl_row {B : Nat} {w : World} {p : Option Addr} {n c : Nat} {l : List Vl} (h : VlsIn B w p n c l) (i : Nat) (hi : i < l.length) :
    ∃ a, p = some a ∧ a.block < B ∧ VlAt w (a.add (i * 4)) l[i] := by
  have hr := h.2.2.2.1
  have hx : ∀ r u, (vlC l[i])[r]? = some u → ∃ a, p = some a ∧ a.block < B ∧ w.cell? (a.add (i * 4 + r)) = some u := fun r u hu => by
    refine hr (i * 4 + r) u ?_
    rw [flat_get vlC 4 vlC_len l i hi r (by
      have := (List.getElem?_eq_some_iff.1 hu).1
      rwa [vlC_len] at this)]
    exact hu
  obtain ⟨a, e, hb, h0⟩ := hx 0 _ rfl
  obtain ⟨a1, e1, _, h1⟩ := hx 1 _ rfl
  obtain ⟨a2, e2, _, h2⟩ := hx 2 _ rfl
  obtain ⟨a3, e3, _, h3⟩ := hx 3 _ rfl
  subst e
  cases e1; cases e2; cases e3
  rw [add_add _ _ _ (by decide)] at h1 h2 h3
  exact ⟨a, rfl, hb, h0, h1, h2, h3⟩
theorem eval_no (op rg ty n fl : Int) (ap : Option Addr) (al ac : Nat) (tp : Option Addr) (tl tc : Nat) (p : Option Addr) (l c : Nat) (cF : ∀ W, Calls Try.prog 16 #[.agg #[.int .i64 op, .int .i64 rg, .int .i64 ty, .int .i64 n, .int .i64 fl, .slice ap al ac, .slice tp tl tc]] W fun e w' => e = .returned (.bool false) ∧ Below W.heap.size W w') (W : World) :
    Calls Try.prog 9 #[.agg #[.int .i64 op, .int .i64 rg, .int .i64 ty, .int .i64 n, .int .i64 fl, .slice ap al ac, .slice tp tl tc], .slice p l c] W fun e w' => e = .returned (.tuple #[.agg #[.int .i64 0, .int .u64 0, .int .i64 0, .int .i64 0], .int .i64 3]) ∧ Below W.heap.size W w' := by
  have b0 := bV0
  have F := (((Fr.start W)).push (g := W.heap.size) (by simp) [.int .i64 op, .int .i64 rg, .int .i64 ty, .int .i64 n, .int .i64 fl, .slice ap al ac, .slice tp tl tc] 25).push (g := W.heap.size + 1) (by simp) [.int .i64 0, .int .u64 0, .int .i64 0, .int .i64 0] 35
  have G := Lib.hid F
  clear F
  go_enter Try.func9, Try.ntmps9
  go_wp2_with (first
    | ((with_reducible refine (cF _).mono ?_); rintro e w1 ⟨rfl, hb⟩; have F := G.out.later hb; (try clear i0 i1 i2 i3 i4 i5 i6 r0 r1 r2 r3 rf); obtain ⟨i0, i1, i2, i3, i4, i5, i6⟩ := F.c7 1 rfl; obtain ⟨r0, r1, r2, r3, rf⟩ := F.c4 0 rfl; replace G := Lib.hid F; clear F hb))
  exact bodyPost_ret (v := .tuple #[.agg #[.int .i64 0, .int .u64 0, .int .i64 0, .int .i64 0], .int .i64 3]) (by simp [results, Try.results9, go_sem, *]) rfl ⟨rfl, G.out.set4 0 rfl _ _ _ _⟩
theorem eval_len (op rg ty n fl : Int) (ap : Option Addr) (al ac : Nat) (tp : Option Addr) (tl tc : Nat) (p : Option Addr) (l c : Nat) (cF : ∀ W, Calls Try.prog 16 #[.agg #[.int .i64 op, .int .i64 rg, .int .i64 ty, .int .i64 n, .int .i64 fl, .slice ap al ac, .slice tp tl tc]] W fun e w' => e = .returned (.bool true) ∧ Below W.heap.size W w') (m : Int) (cC : ∀ W, Calls Try.prog 17 #[.int .i64 op] W fun e w' => e = .returned (.int .i64 m) ∧ Below W.heap.size W w') (hm : ((l : Int) != m) = true) (W : World) :
    Calls Try.prog 9 #[.agg #[.int .i64 op, .int .i64 rg, .int .i64 ty, .int .i64 n, .int .i64 fl, .slice ap al ac, .slice tp tl tc], .slice p l c] W fun e w' => e = .returned (.tuple #[.agg #[.int .i64 0, .int .u64 0, .int .i64 0, .int .i64 0], .int .i64 3]) ∧ Below W.heap.size W w' := by
  have b0 := bV0
  have F := (((Fr.start W)).push (g := W.heap.size) (by simp) [.int .i64 op, .int .i64 rg, .int .i64 ty, .int .i64 n, .int .i64 fl, .slice ap al ac, .slice tp tl tc] 25).push (g := W.heap.size + 1) (by simp) [.int .i64 0, .int .u64 0, .int .i64 0, .int .i64 0] 35
  have G := Lib.hid F
  clear F
  go_enter Try.func9, Try.ntmps9
  go_wp2_with (first
    | ((with_reducible refine (cF _).mono ?_); rintro e w1 ⟨rfl, hb⟩; have F := G.out.later hb; (try clear i0 i1 i2 i3 i4 i5 i6 r0 r1 r2 r3 rf); obtain ⟨i0, i1, i2, i3, i4, i5, i6⟩ := F.c7 1 rfl; obtain ⟨r0, r1, r2, r3, rf⟩ := F.c4 0 rfl; replace G := Lib.hid F; clear F hb)
    | ((with_reducible refine (cC _).mono ?_); rintro e w1 ⟨rfl, hb⟩; have F := G.out.later hb; (try clear i0 i1 i2 i3 i4 i5 i6 r0 r1 r2 r3 rf); obtain ⟨i0, i1, i2, i3, i4, i5, i6⟩ := F.c7 1 rfl; obtain ⟨r0, r1, r2, r3, rf⟩ := F.c4 0 rfl; replace G := Lib.hid F; clear F hb))
  exact bodyPost_ret (v := .tuple #[.agg #[.int .i64 0, .int .u64 0, .int .i64 0, .int .i64 0], .int .i64 3]) (by simp [results, Try.results9, go_sem, *]) rfl ⟨rfl, G.out.set4 0 rfl _ _ _ _⟩
theorem Fr.c12 {W w : World} {bs : List (Nat × List Value)} (F : Fr W bs w) (i : Nat) {g : Nat} {v0 v1 v2 v3 v4 v5 v6 v7 v8 v9 v10 v11 : Value} (h : bs[i]? = some (g, [v0, v1, v2, v3, v4, v5, v6, v7, v8, v9, v10, v11])) :
    w.cell? ⟨g, 0, none⟩ = some v0 ∧ w.cell? ⟨g, 1, none⟩ = some v1 ∧ w.cell? ⟨g, 2, none⟩ = some v2 ∧ w.cell? ⟨g, 3, none⟩ = some v3 ∧ w.cell? ⟨g, 4, none⟩ = some v4 ∧ w.cell? ⟨g, 5, none⟩ = some v5 ∧ w.cell? ⟨g, 6, none⟩ = some v6 ∧ w.cell? ⟨g, 7, none⟩ = some v7 ∧ w.cell? ⟨g, 8, none⟩ = some v8 ∧ w.cell? ⟨g, 9, none⟩ = some v9 ∧ w.cell? ⟨g, 10, none⟩ = some v10 ∧ w.cell? ⟨g, 11, none⟩ = some v11 ∧ ∀ i, w.frozen? ⟨g, i, none⟩ = false :=
  ⟨(F.at i h).2.get 0 _ rfl, (F.at i h).2.get 1 _ rfl, (F.at i h).2.get 2 _ rfl, (F.at i h).2.get 3 _ rfl, (F.at i h).2.get 4 _ rfl, (F.at i h).2.get 5 _ rfl, (F.at i h).2.get 6 _ rfl, (F.at i h).2.get 7 _ rfl, (F.at i h).2.get 8 _ rfl, (F.at i h).2.get 9 _ rfl, (F.at i h).2.get 10 _ rfl, (F.at i h).2.get 11 _ rfl, (F.at i h).2.2.1⟩
theorem Fr.set {W w : World} {bs : List (Nat × List Value)} {g : Nat} {row : List Value} (F : Fr W ((g, row) :: bs) w) (hd : ∀ x ∈ bs, g ≠ x.1) (o : Nat) (u : Value) : Fr W ((g, row.set o u) :: bs) (w.setCell ⟨g, o, none⟩ u) := by
  have hg := (F.at 0 rfl).1
  refine ⟨F.1.setCell (p := ⟨g, o, none⟩) hg u, fun x hx => ?_⟩
  rcases List.mem_cons.1 hx with rfl | hx
  · exact ⟨hg, (F.at 0 rfl).2.set o u⟩
  · have := F.2 x (List.mem_cons_of_mem _ hx)
    exact ⟨this.1, this.2.other (hd x hx) o u⟩
theorem Fr.tail {W w : World} {bs : List (Nat × List Value)} {x : Nat × List Value} (F : Fr W (x :: bs) w) : Fr W bs w := ⟨F.1, fun y hy => F.2 y (List.mem_cons_of_mem _ hy)⟩
theorem Fr.put {W w : World} {bs : List (Nat × List Value)} {g : Nat} {row : List Value} (F : Fr W ((g, row) :: bs) w) (hd : ∀ x ∈ bs, g ≠ x.1) (o : Nat) (u0 u1 u2 u3 : Value) :
    Fr W ((g, (((row.set o u0).set (o + 1) u1).set (o + 2) u2).set (o + 3) u3) :: bs) ((((w.setCell ⟨g, o, none⟩ u0).setCell ⟨g, o + 1, none⟩ u1).setCell ⟨g, o + 2, none⟩ u2).setCell ⟨g, o + 3, none⟩ u3) :=
  (((F.set hd o u0).set hd (o + 1) u1).set hd (o + 2) u2).set hd (o + 3) u3
def r12 (x y z : Vl) : List Value := [.int .i64 x.k, .int .u64 x.b, .int .i64 x.bk, .int .i64 x.o, .int .i64 y.k, .int .u64 y.b, .int .i64 y.bk, .int .i64 y.o, .int .i64 z.k, .int .u64 z.b, .int .i64 z.bk, .int .i64 z.o]
def uptoV (k i : Nat) (x : Vl) : Vl := if i < k then x else p0
theorem eval_ok (op rg ty n fl : Int) (ap : Option Addr) (al ac : Nat) (tp : Option Addr) (tl tc : Nat) (p : Option Addr) (c m : Nat) (l : List Vl) (cF : ∀ W, Calls Try.prog 16 #[.agg #[.int .i64 op, .int .i64 rg, .int .i64 ty, .int .i64 n, .int .i64 fl, .slice ap al ac, .slice tp tl tc]] W fun e w' => e = .returned (.bool true) ∧ Below W.heap.size W w') (cC : ∀ W, Calls Try.prog 17 #[.int .i64 op] W fun e w' => e = .returned (.int .i64 m) ∧ Below W.heap.size W w')
    (hlm : l.length = m) (hm3 : m ≤ 3) (t : Nat → Int) (X0 X1 X2 : Vl) (cW : ∀ (i : Nat) W, Calls Try.prog 19 #[.agg #[.int .i64 op, .int .i64 rg, .int .i64 ty, .int .i64 n, .int .i64 fl, .slice ap al ac, .slice tp tl tc], .int .i64 i] W fun e w' => e = .returned (.int .i64 (t i)) ∧ Below W.heap.size W w')
    (cN0 : ∀ v, l[0]? = some v → ∀ W, Calls Try.prog 18 #[.int .i64 (t 0), .agg #[.int .i64 v.k, .int .u64 v.b, .int .i64 v.bk, .int .i64 v.o]] W fun e w' => e = .returned (.agg #[.int .i64 X0.k, .int .u64 X0.b, .int .i64 X0.bk, .int .i64 X0.o]) ∧ Below W.heap.size W w')
    (cN1 : ∀ v, l[1]? = some v → ∀ W, Calls Try.prog 18 #[.int .i64 (t 1), .agg #[.int .i64 v.k, .int .u64 v.b, .int .i64 v.bk, .int .i64 v.o]] W fun e w' => e = .returned (.agg #[.int .i64 X1.k, .int .u64 X1.b, .int .i64 X1.bk, .int .i64 X1.o]) ∧ Below W.heap.size W w')
    (cN2 : ∀ v, l[2]? = some v → ∀ W, Calls Try.prog 18 #[.int .i64 (t 2), .agg #[.int .i64 v.k, .int .u64 v.b, .int .i64 v.bk, .int .i64 v.o]] W fun e w' => e = .returned (.agg #[.int .i64 X2.k, .int .u64 X2.b, .int .i64 X2.bk, .int .i64 X2.o]) ∧ Below W.heap.size W w')
    (zk zb zbk zo E : Int) (cM : ∀ W, Calls Try.prog 20 #[.agg #[.int .i64 op, .int .i64 rg, .int .i64 ty, .int .i64 n, .int .i64 fl, .slice ap al ac, .slice tp tl tc], (uptoV m 0 X0).val, (uptoV m 1 X1).val, (uptoV m 2 X2).val] W fun e w' => e = .returned (.tuple #[.agg #[.int .i64 zk, .int .u64 zb, .int .i64 zbk, .int .i64 zo], .int .i64 E]) ∧ Below W.heap.size W w')
    (W : World) (hl : VlsIn W.heap.size W p m c l) :
    Calls Try.prog 9 #[.agg #[.int .i64 op, .int .i64 rg, .int .i64 ty, .int .i64 n, .int .i64 fl, .slice ap al ac, .slice tp tl tc], .slice p m c] W fun e w' => e = .returned (.tuple #[.agg #[.int .i64 zk, .int .u64 zb, .int .i64 zbk, .int .i64 zo], .int .i64 E]) ∧ Below W.heap.size W w' := by
  have F := (((Fr.start W)).push (g := W.heap.size) (by simp) [.int .i64 op, .int .i64 rg, .int .i64 ty, .int .i64 n, .int .i64 fl, .slice ap al ac, .slice tp tl tc] 25).push (g := W.heap.size + 1) (by simp) [.int .i64 0, .int .u64 0, .int .i64 0, .int .i64 0] 35
  have G := Lib.hid F
  clear F
  have H := Lib.hid hl
  have hc1 := hl.2.1
  have hc2 := hl.2.2.1
  unfold maxLen at hc2
  have hne : ((m : Int) != (m : Int)) = false := by simp
  clear hl
  go_enter Try.func9, Try.ntmps9
  go_wp2_with (first
    | ((with_reducible refine (cF _).mono ?_); rintro e w1 ⟨rfl, hb⟩; have F := G.out.later hb; (try clear i0 i1 i2 i3 i4 i5 i6 r0 r1 r2 r3 rf); obtain ⟨i0, i1, i2, i3, i4, i5, i6⟩ := F.c7 1 rfl; obtain ⟨r0, r1, r2, r3, rf⟩ := F.c4 0 rfl; replace G := Lib.hid F; clear F hb)
    | ((with_reducible refine (cC _).mono ?_); rintro e w1 ⟨rfl, hb⟩; have F := G.out.later hb; (try clear i0 i1 i2 i3 i4 i5 i6 r0 r1 r2 r3 rf); obtain ⟨i0, i1, i2, i3, i4, i5, i6⟩ := F.c7 1 rfl; obtain ⟨r0, r1, r2, r3, rf⟩ := F.c4 0 rfl; replace G := Lib.hid F; clear F hb))
  have F2 := Fr.push (g := w1.heap.size) G.out rfl (r12 p0 p0 p0) 45
  have HF2 := Lib.hid F2
  have hd : ∀ x ∈ ([(W.heap.size + 1, [.int .i64 0, .int .u64 0, .int .i64 0, .int .i64 0]), (W.heap.size, [.int .i64 op, .int .i64 rg, .int .i64 ty, .int .i64 n, .int .i64 fl, .slice ap al ac, .slice tp tl tc])] : List (Nat × List Value)), w1.heap.size ≠ x.1 := fun x hx => by
    have h1 := (G.out.2 x hx).2.1
    omega
  have HD := Lib.hid hd
  clear F2 hd G
  go_loopw [23] (fun u wr => ∃ k : Nat, k ≤ m ∧ u = .int .i64 k ∧ Fr W [(w1.heap.size, r12 (uptoV k 0 X0) (uptoV k 1 X1) (uptoV k 2 X2)), (W.heap.size + 1, [.int .i64 0, .int .u64 0, .int .i64 0, .int .i64 0]), (W.heap.size, [.int .i64 op, .int .i64 rg, .int .i64 ty, .int .i64 n, .int .i64 fl, .slice ap al ac, .slice tp tl tc])] wr) (fun u _ => m - (intOf u).toNat)
  case atStart => exact ⟨0, Nat.zero_le _, rfl, HF2.out⟩
  case round =>
    clear HF2
    obtain ⟨k, hk, rfl, hF⟩ := hrel
    have G := Lib.hid hF
    clear hF
    by_cases hkm : k < m
    · have hk3 : k = 0 ∨ k = 1 ∨ k = 2 := by omega
      rcases hk3 with rfl | rfl | rfl
      · have G1 : Fr W [(w1.heap.size, [.int .i64 0, .int .u64 0, .int .i64 0, .int .i64 0, .int .i64 0, .int .u64 0, .int .i64 0, .int .i64 0, .int .i64 0, .int .u64 0, .int .i64 0, .int .i64 0]), (W.heap.size + 1, [.int .i64 0, .int .u64 0, .int .i64 0, .int .i64 0]), (W.heap.size, [.int .i64 op, .int .i64 rg, .int .i64 ty, .int .i64 n, .int .i64 fl, .slice ap al ac, .slice tp tl tc])] wr := G.out
        obtain ⟨a, rfl, ha, hy⟩ := vl_row H.out 0 (by omega)
        have hlk : l[0]? = some l[0] := List.getElem?_eq_getElem (by omega)
        have cN := cN0 _ hlk
        obtain ⟨⟨vk, vb, vbk, vo⟩, ev⟩ : ∃ v, l[0] = v := ⟨_, rfl⟩
        rw [ev] at hy cN
        have hy2 := VlAt.below hy G1.1 (by rw [add_block]; exact ha)
        rw [Nat.zero_mul, add_zero] at hy2
        obtain ⟨f0, f1, f2, f3⟩ := hy2
        simp only at f0 f1 f2 f3 cN
        have G2 : Fr W (_ :: _ :: _ :: [_]) (wr.alloc (.cells #[.int .i64 vk, .int .u64 vb, .int .i64 vbk, .int .i64 vo] 35)) := G1.push (g := wr.heap.size) rfl [.int .i64 vk, .int .u64 vb, .int .i64 vbk, .int .i64 vo] 35
        obtain ⟨i0, i1, i2, i3, i4, i5, i6⟩ := G2.c7 3 rfl
        obtain ⟨v0, v1, v2, v3, vf⟩ := G2.c4 0 rfl
        have HG := Lib.hid G2
        have ab := Nat.lt_of_lt_of_le ha G1.1.size
        have cW0 : ∀ W, Calls Try.prog 19 #[.agg #[.int .i64 op, .int .i64 rg, .int .i64 ty, .int .i64 n, .int .i64 fl, .slice ap al ac, .slice tp tl tc], .int .i64 0] W fun e w' => e = .returned (.int .i64 (t 0)) ∧ Below W.heap.size W w' := cW 0
        clear G1 G2 hy hlk ev G cN0 cN1 cN2 cW
        go_wp2_with fail
        go_region_law (first
          | (go_simp; (with_reducible refine (cW0 _).mono ?_); rintro e w5 ⟨rfl, hb⟩; have F := HG.out.drew.later hb; obtain ⟨v0, v1, v2, v3, vf⟩ := F.c4 0 rfl; have HF5 := Lib.hid F; clear F hb)
          | (go_simp; (with_reducible refine (cN _).mono ?_); rintro e w6 ⟨rfl, hb⟩; have F := HF5.out.later hb; obtain ⟨q0, q1, q2, q3, q4, q5, q6, q7, q8, q9, q10, q11, qf⟩ := F.c12 1 rfl; have HF6 := Lib.hid F; clear F hb))
        all_goals
          go_wp2_with fail
          exact ⟨⟨1, by omega, rfl, HF6.out.tail.put HD.out 0 _ _ _ _⟩, by simp [intOf]; omega⟩
      · have G1 : Fr W [(w1.heap.size, [.int .i64 X0.k, .int .u64 X0.b, .int .i64 X0.bk, .int .i64 X0.o, .int .i64 0, .int .u64 0, .int .i64 0, .int .i64 0, .int .i64 0, .int .u64 0, .int .i64 0, .int .i64 0]), (W.heap.size + 1, [.int .i64 0, .int .u64 0, .int .i64 0, .int .i64 0]), (W.heap.size, [.int .i64 op, .int .i64 rg, .int .i64 ty, .int .i64 n, .int .i64 fl, .slice ap al ac, .slice tp tl tc])] wr := G.out
        obtain ⟨a, rfl, ha, hy⟩ := vl_row H.out 1 (by omega)
        have hlk : l[1]? = some l[1] := List.getElem?_eq_getElem (by omega)
        have cN := cN1 _ hlk
        obtain ⟨⟨vk, vb, vbk, vo⟩, ev⟩ : ∃ v, l[1] = v := ⟨_, rfl⟩
        rw [ev] at hy cN
        have hy2 := VlAt.below hy G1.1 (by rw [add_block]; exact ha)
        rw [show a.add (1 * 4) = ⟨a.block, a.off + 4, none⟩ from rfl] at hy2
        obtain ⟨f0, f1, f2, f3⟩ := hy2
        simp only at f0 f1 f2 f3 cN
        have G2 : Fr W (_ :: _ :: _ :: [_]) (wr.alloc (.cells #[.int .i64 vk, .int .u64 vb, .int .i64 vbk, .int .i64 vo] 35)) := G1.push (g := wr.heap.size) rfl [.int .i64 vk, .int .u64 vb, .int .i64 vbk, .int .i64 vo] 35
        obtain ⟨i0, i1, i2, i3, i4, i5, i6⟩ := G2.c7 3 rfl
        obtain ⟨v0, v1, v2, v3, vf⟩ := G2.c4 0 rfl
        have HG := Lib.hid G2
        have ab := Nat.lt_of_lt_of_le ha G1.1.size
        have cW1 : ∀ W, Calls Try.prog 19 #[.agg #[.int .i64 op, .int .i64 rg, .int .i64 ty, .int .i64 n, .int .i64 fl, .slice ap al ac, .slice tp tl tc], .int .i64 1] W fun e w' => e = .returned (.int .i64 (t 1)) ∧ Below W.heap.size W w' := cW 1
        clear G1 G2 hy hlk ev G cN0 cN1 cN2 cW
        go_wp2_with fail
        go_region_law (first
          | (go_simp; (with_reducible refine (cW1 _).mono ?_); rintro e w5 ⟨rfl, hb⟩; have F := HG.out.drew.later hb; obtain ⟨v0, v1, v2, v3, vf⟩ := F.c4 0 rfl; have HF5 := Lib.hid F; clear F hb)
          | (go_simp; (with_reducible refine (cN _).mono ?_); rintro e w6 ⟨rfl, hb⟩; have F := HF5.out.later hb; obtain ⟨q0, q1, q2, q3, q4, q5, q6, q7, q8, q9, q10, q11, qf⟩ := F.c12 1 rfl; have HF6 := Lib.hid F; clear F hb))
        all_goals
          go_wp2_with fail
          exact ⟨⟨2, by omega, rfl, HF6.out.tail.put HD.out 4 _ _ _ _⟩, by simp [intOf]; omega⟩
      · have G1 : Fr W [(w1.heap.size, [.int .i64 X0.k, .int .u64 X0.b, .int .i64 X0.bk, .int .i64 X0.o, .int .i64 X1.k, .int .u64 X1.b, .int .i64 X1.bk, .int .i64 X1.o, .int .i64 0, .int .u64 0, .int .i64 0, .int .i64 0]), (W.heap.size + 1, [.int .i64 0, .int .u64 0, .int .i64 0, .int .i64 0]), (W.heap.size, [.int .i64 op, .int .i64 rg, .int .i64 ty, .int .i64 n, .int .i64 fl, .slice ap al ac, .slice tp tl tc])] wr := G.out
        obtain ⟨a, rfl, ha, hy⟩ := vl_row H.out 2 (by omega)
        have hlk : l[2]? = some l[2] := List.getElem?_eq_getElem (by omega)
        have cN := cN2 _ hlk
        obtain ⟨⟨vk, vb, vbk, vo⟩, ev⟩ : ∃ v, l[2] = v := ⟨_, rfl⟩
        rw [ev] at hy cN
        have hy2 := VlAt.below hy G1.1 (by rw [add_block]; exact ha)
        rw [show a.add (2 * 4) = ⟨a.block, a.off + 8, none⟩ from rfl] at hy2
        obtain ⟨f0, f1, f2, f3⟩ := hy2
        simp only at f0 f1 f2 f3 cN
        have G2 : Fr W (_ :: _ :: _ :: [_]) (wr.alloc (.cells #[.int .i64 vk, .int .u64 vb, .int .i64 vbk, .int .i64 vo] 35)) := G1.push (g := wr.heap.size) rfl [.int .i64 vk, .int .u64 vb, .int .i64 vbk, .int .i64 vo] 35
        obtain ⟨i0, i1, i2, i3, i4, i5, i6⟩ := G2.c7 3 rfl
        obtain ⟨v0, v1, v2, v3, vf⟩ := G2.c4 0 rfl
        have HG := Lib.hid G2
        have ab := Nat.lt_of_lt_of_le ha G1.1.size
        have cW2 : ∀ W, Calls Try.prog 19 #[.agg #[.int .i64 op, .int .i64 rg, .int .i64 ty, .int .i64 n, .int .i64 fl, .slice ap al ac, .slice tp tl tc], .int .i64 2] W fun e w' => e = .returned (.int .i64 (t 2)) ∧ Below W.heap.size W w' := cW 2
        clear G1 G2 hy hlk ev G cN0 cN1 cN2 cW
        go_wp2_with fail
        go_region_law (first
          | (go_simp; (with_reducible refine (cW2 _).mono ?_); rintro e w5 ⟨rfl, hb⟩; have F := HG.out.drew.later hb; obtain ⟨v0, v1, v2, v3, vf⟩ := F.c4 0 rfl; have HF5 := Lib.hid F; clear F hb)
          | (go_simp; (with_reducible refine (cN _).mono ?_); rintro e w6 ⟨rfl, hb⟩; have F := HF5.out.later hb; obtain ⟨q0, q1, q2, q3, q4, q5, q6, q7, q8, q9, q10, q11, qf⟩ := F.c12 1 rfl; have HF6 := Lib.hid F; clear F hb))
        all_goals
          go_wp2_with fail
          exact ⟨⟨3, by omega, rfl, HF6.out.tail.put HD.out 8 _ _ _ _⟩, by simp [intOf]; omega⟩
    · obtain rfl : k = m := by omega
      clear cW cN0 cN1 cN2 hk hkm
      obtain ⟨⟨ak, ab, abk, ao⟩, ea⟩ : ∃ Y, uptoV k 0 X0 = Y := ⟨_, rfl⟩
      obtain ⟨⟨bk, bb, bbk, bo⟩, eb⟩ : ∃ Y, uptoV k 1 X1 = Y := ⟨_, rfl⟩
      obtain ⟨⟨ck, cb, cbk, co⟩, ec⟩ : ∃ Y, uptoV k 2 X2 = Y := ⟨_, rfl⟩
      rw [ea, eb, ec] at G cM
      have cM2 : ∀ W, Calls Try.prog 20 #[.agg #[.int .i64 op, .int .i64 rg, .int .i64 ty, .int .i64 n, .int .i64 fl, .slice ap al ac, .slice tp tl tc], .agg #[.int .i64 ak, .int .u64 ab, .int .i64 abk, .int .i64 ao], .agg #[.int .i64 bk, .int .u64 bb, .int .i64 bbk, .int .i64 bo], .agg #[.int .i64 ck, .int .u64 cb, .int .i64 cbk, .int .i64 co]] W fun e w' => e = .returned (.tuple #[.agg #[.int .i64 zk, .int .u64 zb, .int .i64 zbk, .int .i64 zo], .int .i64 E]) ∧ Below W.heap.size W w' := cM
      have G1 : Fr W [(w1.heap.size, [.int .i64 ak, .int .u64 ab, .int .i64 abk, .int .i64 ao, .int .i64 bk, .int .u64 bb, .int .i64 bbk, .int .i64 bo, .int .i64 ck, .int .u64 cb, .int .i64 cbk, .int .i64 co]), (W.heap.size + 1, [.int .i64 0, .int .u64 0, .int .i64 0, .int .i64 0]), (W.heap.size, [.int .i64 op, .int .i64 rg, .int .i64 ty, .int .i64 n, .int .i64 fl, .slice ap al ac, .slice tp tl tc])] wr := G.out
      obtain ⟨q0, q1, q2, q3, q4, q5, q6, q7, q8, q9, q10, q11, qf⟩ := G1.c12 0 rfl
      obtain ⟨r0, r1, r2, r3, rf⟩ := G1.c4 1 rfl
      obtain ⟨i0, i1, i2, i3, i4, i5, i6⟩ := G1.c7 2 rfl
      have HG := Lib.hid G1
      clear G1 G cM ea eb ec hm3 hlm H HD
      go_wp2_with (first
        | ((with_reducible refine (cM2 _).mono ?_); rintro e w7 ⟨rfl, hb⟩; have F := HG.out.later hb; clear r0 r1 r2 r3 rf; obtain ⟨r0, r1, r2, r3, rf⟩ := F.c4 1 rfl; have HF := Lib.hid F; clear F hb))
      exact bodyPost_ret (v := .tuple #[.agg #[.int .i64 zk, .int .u64 zb, .int .i64 zbk, .int .i64 zo], .int .i64 E]) (by simp [results, Try.results9, go_sem, *]) rfl ⟨rfl, HF.out.set4 1 rfl _ _ _ _⟩
end Go.Proofs.Ytpjfkmaceaikbaa
