/- The laws' steps: opened; the closure of MemApart. -/
import Derived.Test.YtkbkgbkoplcgeaaMX
namespace Go.Proofs.Ytkbkgbkoplcgeaa
open Go.RowKit Go.Maps Go.ChangeShapes Go.WideShapes Go.Deep
set_option linter.unusedVariables false
set_option linter.unusedSimpArgs false
set_option maxRecDepth 100000

/-- A step. -/
structure Sp where
  kind : Int
  a : Int
  b : Int
  t : Int
  v : Vl
  at' : Vl
  y : Int
def spC (s : Sp) : List Value := [.int .i64 s.kind, .int .i64 s.a, .int .i64 s.b, .int .i64 s.t, .int .i64 s.v.k, .int .u64 s.v.b, .int .i64 s.v.bk, .int .i64 s.v.o, .int .i64 s.at'.k, .int .u64 s.at'.b, .int .i64 s.at'.bk, .int .i64 s.at'.o, .int .u8 s.y]
theorem spC_len (s : Sp) : (spC s).length = 13 := rfl
def SpOk (s : Sp) : Prop := wf64 s.kind ∧ wf64 s.a ∧ wf64 s.b ∧ wf64 s.t ∧ VlOk s.v ∧ VlOk s.at' ∧ 0 ≤ s.y ∧ s.y ≤ 255
instance : Inhabited Sp := ⟨⟨0, 0, 0, 0, p0, p0, 0⟩⟩
section
variable {H : Type} {enc : TypeId × Value → H} {W : World} {sp : Nat → Bool} {held : Bool}
theorem cellsStep : Try.prog.cellsOf 43 = 13 := by kernel_rfl
theorem sp_cells {n : Nat} {cs : List Value} {y : DataW H × List MemPlace} (hlen : cs.length = 13) (h : DataW.trod enc Try.prog W 0 sp held n 43 cs = some y) : ∃ x : Sp, cs = spC x ∧ SpOk x := by
  obtain ⟨xs, k, _, hx, _, hxl, hg⟩ := DataW.trod_struct Try.underlying43 h
  have c3 := cellsInt
  have c4 := cellsU8
  have c5 := cellsVal4
  match cs, hlen with
  | [v0, v1, v2, v3, v4, v5, v6, v7, v8, v9, v10, v11, v12], _ =>
    match xs, hxl with
    | [y0, y1, y2, y3, y4, y5, y6], _ =>
      have g0 := hg 0 _ rfl
      have g1 := hg 1 _ rfl
      have g2 := hg 2 _ rfl
      have g3 := hg 3 _ rfl
      have g4 := hg 4 _ rfl
      have g5 := hg 5 _ rfl
      have g6 := hg 6 _ rfl
      simp [c3, c4, c5] at g0 g1 g2 g3 g4 g5 g6
      obtain ⟨k0, rfl, w0⟩ := tr_w Try.underlying3 g0
      obtain ⟨k1, rfl, w1⟩ := tr_w Try.underlying3 g1
      obtain ⟨k2, rfl, w2⟩ := tr_w Try.underlying3 g2
      obtain ⟨k3, rfl, w3⟩ := tr_w Try.underlying3 g3
      obtain ⟨x4, e4, w4⟩ := val_cells rfl g4
      obtain ⟨x5, e5, w5⟩ := val_cells rfl g5
      obtain ⟨k6, rfl, w6⟩ := tr_w Try.underlying5 g6
      unfold vlC at e4 e5
      simp only [List.cons.injEq, and_true] at e4 e5
      obtain ⟨rfl, rfl, rfl, rfl⟩ := e4
      obtain ⟨rfl, rfl, rfl, rfl⟩ := e5
      exact ⟨⟨k0, k1, k2, k3, x4, x5, k6⟩, rfl, wf_in w0, wf_in w1, wf_in w2, wf_in w3, w4, w5, (wf_u8 w6).1, (wf_u8 w6).2⟩
theorem steps_shape {r : Reach} {b0 : Nat} {v : Value} {d : DataW H} {p : List MemPlace} (hk : Value.okWide Try.prog W r b0 36 v) (h : DataW.Trod enc Try.prog W 0 sp held 36 v d p) :
    ∃ (q : Option Addr) (c : Nat) (l : List Sp), v = .slice q l.length c ∧ ListIn spC NoMem W.heap.size W q l.length c l ∧ ∀ y ∈ l, SpOk y := by
  obtain ⟨a0, n0, c0, rfl⟩ := okWide_slice Try.underlying36 hk
  obtain ⟨fuel, hf⟩ := h
  rw [show (Value.slice a0 n0 c0).cells = #[Value.slice a0 n0 c0] from rfl] at hf
  obtain ⟨q, c, xs, e, hl, hp, _, _⟩ := open_list (α := Sp) (m := 13) (by decide) spC spC_len NoMem SpOk (fun _ => 1) Try.underlying36 cellsStep (fun n cs y hlen h2 => by
    obtain ⟨x, e, ho⟩ := sp_cells hlen h2
    exact ⟨x, e, trivial, ho, bulk_pos _⟩) hf
  exact ⟨q, c, xs, e, hl, hp⟩
theorem ints_shape {r : Reach} {b0 : Nat} {v : Value} {d : DataW H} {p : List MemPlace} (hk : Value.okWide Try.prog W r b0 35 v) (h : DataW.Trod enc Try.prog W 0 sp held 35 v d p) :
    ∃ (q : Option Addr) (c : Nat) (l : List Int), v = .slice q l.length c ∧ ListIn intC NoMem W.heap.size W q l.length c l ∧ ∀ y ∈ l, wf64 y := by
  obtain ⟨a0, n0, c0, rfl⟩ := okWide_slice Try.underlying35 hk
  obtain ⟨fuel, hf⟩ := h
  rw [show (Value.slice a0 n0 c0).cells = #[Value.slice a0 n0 c0] from rfl] at hf
  obtain ⟨q, c, xs, e, hl, hp, _, _⟩ := open_list (α := Int) (m := 1) (by decide) intC (fun _ => rfl) NoMem (fun x => wf64 x) (fun _ => 1) Try.underlying35 cellsInt (fun n cs y hlen h2 => by
    match cs, hlen with
    | [v0], _ =>
      obtain ⟨k, rfl, w1⟩ := tr_w Try.underlying3 h2
      exact ⟨k, rfl, trivial, wf_in w1, bulk_pos _⟩) hf
  exact ⟨q, c, xs, e, hl, hp⟩
end
/-- A step's cells in a row. -/
def SpAt (w : World) (a : Addr) (s : Sp) : Prop :=
  w.cell? a = some (.int .i64 s.kind) ∧ w.cell? ⟨a.block, a.off + 1, none⟩ = some (.int .i64 s.a) ∧ w.cell? ⟨a.block, a.off + 2, none⟩ = some (.int .i64 s.b) ∧ w.cell? ⟨a.block, a.off + 3, none⟩ = some (.int .i64 s.t) ∧
  w.cell? ⟨a.block, a.off + 4, none⟩ = some (.int .i64 s.v.k) ∧ w.cell? ⟨a.block, a.off + 5, none⟩ = some (.int .u64 s.v.b) ∧ w.cell? ⟨a.block, a.off + 6, none⟩ = some (.int .i64 s.v.bk) ∧ w.cell? ⟨a.block, a.off + 7, none⟩ = some (.int .i64 s.v.o) ∧
  w.cell? ⟨a.block, a.off + 8, none⟩ = some (.int .i64 s.at'.k) ∧ w.cell? ⟨a.block, a.off + 9, none⟩ = some (.int .u64 s.at'.b) ∧ w.cell? ⟨a.block, a.off + 10, none⟩ = some (.int .i64 s.at'.bk) ∧ w.cell? ⟨a.block, a.off + 11, none⟩ = some (.int .i64 s.at'.o) ∧
  w.cell? ⟨a.block, a.off + 12, none⟩ = some (.int .u8 s.y)
theorem sp_row {B : Nat} {W w : World} {p : Option Addr} {n c : Nat} {l : List Sp} (h : ListIn spC NoMem B W p n c l) (hb : Below B W w) (i : Nat) (hi : i < l.length) :
    ∃ a, p = some a ∧ a.block < B ∧ SpAt w (a.add (i * 13)) l[i] := by
  have hr := h.2.2.2.1
  have hx : ∀ r u, (spC l[i])[r]? = some u → ∃ a, p = some a ∧ a.block < B ∧ w.cell? (a.add (i * 13 + r)) = some u := fun r u hu => by
    obtain ⟨a, e, ha, hc⟩ := hr (i * 13 + r) u (by
      rw [flat_get spC 13 spC_len l i hi r (by
        have := (List.getElem?_eq_some_iff.1 hu).1
        rwa [spC_len] at this)]
      exact hu)
    exact ⟨a, e, ha, (hb.cell (p := a.add (i * 13 + r)) (by rw [add_block]; exact ha)).trans hc⟩
  obtain ⟨a, e, hb', h0⟩ := hx 0 _ rfl
  subst e
  have hy : ∀ r, r ≠ 0 → ∀ u, (spC l[i])[r]? = some u → w.cell? ⟨(a.add (i * 13)).block, (a.add (i * 13)).off + r, none⟩ = some u := fun r h0 u hu => by
    obtain ⟨a', e, _, hc⟩ := hx r u hu
    cases e
    rwa [add_add _ _ _ h0] at hc
  exact ⟨a, rfl, hb', h0, hy 1 (by decide) _ rfl, hy 2 (by decide) _ rfl, hy 3 (by decide) _ rfl, hy 4 (by decide) _ rfl, hy 5 (by decide) _ rfl, hy 6 (by decide) _ rfl, hy 7 (by decide) _ rfl, hy 8 (by decide) _ rfl, hy 9 (by decide) _ rfl, hy 10 (by decide) _ rfl, hy 11 (by decide) _ rfl, hy 12 (by decide) _ rfl⟩
def Sp.val (s : Sp) : Value := .agg #[.int .i64 s.kind, .int .i64 s.a, .int .i64 s.b, .int .i64 s.t, .int .i64 s.v.k, .int .u64 s.v.b, .int .i64 s.v.bk, .int .i64 s.v.o, .int .i64 s.at'.k, .int .u64 s.at'.b, .int .i64 s.at'.bk, .int .i64 s.at'.o, .int .u8 s.y]
/-- The memory behind a step. -/
def doD (D : Dm) (s : Sp) : Dm := if s.kind = 1 then dNew D s.a q0 else if s.kind = 2 then dFree D s.a else if s.kind = 4 then dStore D s.t s.v s.at' else if s.kind = 5 then dSet D s.a s.b s.y else D
def doN (D : Dm) (s : Sp) : Int := if s.kind = 1 then D.length else -1
theorem GoesD.pre {o : Nat → Nat} {mb : Nat} {D : Dm} {W w w' : World} (h : Below W.heap.size W w) (g : GoesD o mb D w w') : GoesD o mb D W w' := by
  obtain ⟨o', h1, h2, h3⟩ := g
  exact ⟨o', h1, (Only.of_below h).trans (Ext.refl _ _) h2, fun k hk => h3 k (Nat.lt_of_lt_of_le hk h.size)⟩
set_option maxHeartbeats 2000000 in
theorem do_any (o : Nat → Nat) (mb : Nat) (D : Dm) (W : World) (s : Sp) (hs : SpOk s) (hl : D.length < 1000000) (h : MemD o mb D W) :
    Calls Try.prog 33 #[.pointer (some ⟨mb, 0, none⟩), s.val] W fun e w' => e = .returned (.int .i64 (doN D s)) ∧ GoesD o mb (doD D s) W w' := by
  obtain ⟨kd, a, b, t, ⟨vk, vb, vbk, vo⟩, ⟨ak, ab, abk, ao⟩, y⟩ := s
  obtain ⟨hs0, hs1, hs2, hs3, hs4, hs5, hs6, hs7⟩ := hs
  have HB := Lib.hid (below1 W (.cells #[.int .i64 kd, .int .i64 a, .int .i64 b, .int .i64 t, .int .i64 vk, .int .u64 vb, .int .i64 vbk, .int .i64 vo, .int .i64 ak, .int .u64 ab, .int .i64 abk, .int .i64 ao, .int .u8 y] 43))
  have hM := h.later HB.out
  have c1 := AllocD o mb D _ a hs1 hl hM
  have c2 := FreeD o mb D _ a hs1 hM
  have c4 : Calls Try.prog 29 #[.pointer (some ⟨mb, 0, none⟩), .int .i64 t, .agg #[.int .i64 vk, .int .u64 vb, .int .i64 vbk, .int .i64 vo], .agg #[.int .i64 ak, .int .u64 ab, .int .i64 abk, .int .i64 ao]] (W.alloc (.cells #[.int .i64 kd, .int .i64 a, .int .i64 b, .int .i64 t, .int .i64 vk, .int .u64 vb, .int .i64 vbk, .int .i64 vo, .int .i64 ak, .int .u64 ab, .int .i64 abk, .int .i64 ao, .int .u8 y] 43)) fun e w' => e = .returned (.bool (dIn D t ⟨ak, ab, abk, ao⟩)) ∧ GoesD o mb (dStore D t ⟨vk, vb, vbk, vo⟩ ⟨ak, ab, abk, ao⟩) _ w' := StoreD o mb D _ t ⟨vk, vb, vbk, vo⟩ ⟨ak, ab, abk, ao⟩ hs4.1 hs4.2.1 hs5.2.1 hs5.2.2.1 hM
  have c5 := Set_any o mb D _ a b y hs1 hs2 ⟨hs6, hs7⟩ hM
  have hG := Lib.hid (GoesD.read h HB.out)
  show Calls _ _ #[.pointer (some ⟨mb, 0, none⟩), .agg #[.int .i64 kd, .int .i64 a, .int .i64 b, .int .i64 t, .int .i64 vk, .int .u64 vb, .int .i64 vbk, .int .i64 vo, .int .i64 ak, .int .u64 ab, .int .i64 abk, .int .i64 ao, .int .u8 y]] W _
  unfold doN doD
  simp only
  clear hM h hs0 hs1 hs2 hs3 hs4 hs5 hs6 hs7
  by_cases k1 : kd = 1
  · rw [if_pos k1, if_pos k1]
    have e1 : (kd == 1) = true := by rw [k1]; rfl
    clear k1
    go_enter Try.func33, Try.ntmps33
    go_wp2_with (first | ((with_reducible refine c1.mono ?_); rintro e w5 ⟨rfl, g5⟩))
    go_ret
    exact ⟨rfl, g5.pre HB.out⟩
  · have e1 : (kd == 1) = false := by simpa using k1
    rw [if_neg k1, if_neg k1]
    by_cases k2 : kd = 2
    · rw [if_pos k2]
      have e2 : (kd == 2) = true := by rw [k2]; rfl
      clear k1 k2
      go_enter Try.func33, Try.ntmps33
      go_wp2_with (first | ((with_reducible refine c2.mono ?_); rintro e w5 ⟨rfl, g5⟩))
      go_ret
      exact ⟨rfl, g5.pre HB.out⟩
    · have e2 : (kd == 2) = false := by simpa using k2
      rw [if_neg k2]
      by_cases k4 : kd = 4
      · rw [if_pos k4]
        have e4 : (kd == 4) = true := by rw [k4]; rfl
        clear k1 k2 k4
        go_enter Try.func33, Try.ntmps33
        go_wp2_with (first | ((with_reducible refine c4.mono ?_); rintro e w5 ⟨rfl, g5⟩))
        go_ret
        exact ⟨rfl, g5.pre HB.out⟩
      · have e4 : (kd == 4) = false := by simpa using k4
        rw [if_neg k4]
        by_cases k5 : kd = 5
        · rw [if_pos k5]
          have e5 : (kd == 5) = true := by rw [k5]; rfl
          clear k1 k2 k4 k5
          go_enter Try.func33, Try.ntmps33
          go_wp2_with (first | ((with_reducible refine c5.mono ?_); rintro e w5 ⟨rfl, g5⟩))
          go_ret
          exact ⟨rfl, g5.pre HB.out⟩
        · have e5 : (kd == 5) = false := by simpa using k5
          rw [if_neg k5]
          clear k1 k2 k4 k5
          go_enter Try.func33, Try.ntmps33
          go_wp2_with fail
          go_ret
          exact ⟨rfl, hG.out⟩
end Go.Proofs.Ytkbkgbkoplcgeaa
