/- Package fold: the law's lives; an instruction that was handed in, with its operands. -/
import Derived.Test.YtpjfkmaceaikbaaFlCM
import Derived.Test.YtpjfkmaceaikbaaEvXM
namespace Go.Proofs.Ytpjfkmaceaikbaa
open Go.RowKit Go.Maps Go.ChangeShapes Go.WideShapes Go.Deep
set_option linter.unusedVariables false
set_option linter.unusedSimpArgs false
set_option maxRecDepth 100000
set_option maxHeartbeats 1000000

theorem args_lit (w : World) (l : List Arg) (h : l.length ≤ maxLen) : ListIn argC NoMem (w.alloc (.cells (l.flatMap argC).toArray 29)).heap.size (w.alloc (.cells (l.flatMap argC).toArray 29)) (some ⟨w.heap.size, 0, none⟩) l.length l.length l :=
  ⟨rfl, Nat.le_refl _, h, fun j u hu => ⟨_, rfl, by simp, lit_cells w (l.flatMap argC).toArray _ j u (by simpa using hu)⟩, fun _ _ => trivial⟩
theorem bF (w : World) (op ty : Int) (s : Option Addr) (l c : Nat) : (Instr.build 25 #[(0, .int .i64 op), (2, .int .i64 ty), (5, .slice s l c)]).run Try.prog w = .ok (.agg #[.int .i64 op, .int .i64 0, .int .i64 ty, .int .i64 0, .int .i64 0, .slice s l c, .slice none 0 0]) w := run_build _ _ _ _ (by kernel_rfl)
theorem fd1 (s : Option Addr) : foldE ⟨1, 0, 8, 0, 0, s, 2, 2, none, 0, 0, [⟨2, 0, 200⟩, ⟨2, 0, 100⟩]⟩ = (⟨2, 0, 44⟩, true) := by kernel_rfl
theorem fd2 (s : Option Addr) : foldE ⟨4, 0, 8, 0, 0, s, 2, 2, none, 0, 0, [⟨2, 0, 1⟩, ⟨2, 0, 0⟩]⟩ = (⟨0, 0, 0⟩, false) := by kernel_rfl
theorem fold_lit (op : Int) (x y : Int) (hx : 0 ≤ x ∧ x ≤ 18446744073709551615) (hy : 0 ≤ y ∧ y ≤ 18446744073709551615) (w : World) :
    Calls Try.prog 6 #[.agg #[.int .i64 op, .int .i64 0, .int .i64 8, .int .i64 0, .int .i64 0, .slice (some ⟨w.heap.size, 0, none⟩) 2 2, .slice none 0 0]] (w.alloc (.cells #[.int .i64 2, .int .i64 0, .int .u64 x, .int .i64 2, .int .i64 0, .int .u64 y] 29)) fun e w' => e = .returned (.tuple #[(foldE ⟨op, 0, 8, 0, 0, some ⟨w.heap.size, 0, none⟩, 2, 2, none, 0, 0, [⟨2, 0, x⟩, ⟨2, 0, y⟩]⟩).1.val, .bool (foldE ⟨op, 0, 8, 0, 0, some ⟨w.heap.size, 0, none⟩, 2, 2, none, 0, 0, [⟨2, 0, x⟩, ⟨2, 0, y⟩]⟩).2]) ∧ Below w.heap.size w w' := by
  refine (Fold_any ⟨op, 0, 8, 0, 0, some ⟨w.heap.size, 0, none⟩, 2, 2, none, 0, 0, [⟨2, 0, x⟩, ⟨2, 0, y⟩]⟩ (by show (-9223372036854775808 : Int) ≤ 0; decide) (by show (0 : Int) ≤ 9223372036854775807; decide) rfl (by show 2 ≤ 1048576; decide) ?_ _ (args_lit w [⟨2, 0, x⟩, ⟨2, 0, y⟩] (by show 2 ≤ maxLen; decide))).mono fun e w' ⟨h1, h2⟩ => ⟨h1, (below1 w _).trans (h2.mono (below1 w _).size)⟩
  intro a ha
  simp only [List.mem_cons, List.not_mem_nil, or_false] at ha
  rcases ha with rfl | rfl
  · exact hx
  · exact hy
theorem livesF_any (W : World) : Calls Try.prog 5 #[] W fun e w' => e = .returned (.bool true) ∧ Below W.heap.size W w' := by
  have b1 := bO1
  have b2 := bO2
  have bi := bF
  have c1 := fun w => fold_lit 1 200 100 (by decide) (by decide) w
  simp only [fd1] at c1
  replace c1 : ∀ w : World, Calls Try.prog 6 #[.agg #[.int .i64 1, .int .i64 0, .int .i64 8, .int .i64 0, .int .i64 0, .slice (some ⟨w.heap.size, 0, none⟩) 2 2, .slice none 0 0]] (w.alloc (.cells #[.int .i64 2, .int .i64 0, .int .u64 200, .int .i64 2, .int .i64 0, .int .u64 100] 29)) fun e w' => e = .returned (.tuple #[.agg #[.int .i64 2, .int .i64 0, .int .u64 44], .bool true]) ∧ Below w.heap.size w w' := c1
  have c2 := fun w => fold_lit 4 1 0 (by decide) (by decide) w
  simp only [fd2] at c2
  replace c2 : ∀ (w : World) A, Calls Try.prog 6 #[.agg #[.int .i64 4, .int .i64 0, .int .i64 8, .int .i64 0, .int .i64 0, .slice (some ⟨w.heap.size + 1, 0, none⟩) 2 2, .slice none 0 0]] ((w.alloc A).alloc (.cells #[.int .i64 2, .int .i64 0, .int .u64 1, .int .i64 2, .int .i64 0, .int .u64 0] 29)) fun e w' => e = .returned (.tuple #[.agg #[.int .i64 0, .int .i64 0, .int .u64 0], .bool false]) ∧ Below (w.alloc A).heap.size (w.alloc A) w' := fun w A => by
    have := c2 (w.alloc A)
    simp only [World.size_alloc] at this ⊢
    exact this
  go_enter Try.func5, Try.ntmps5
  go_wp2_with (first
    | ((with_reducible refine (c1 _).mono ?_); rintro e w1 ⟨rfl, hb1⟩)
    | ((with_reducible refine (c2 _ _).mono ?_); rintro e w2 ⟨rfl, hb2⟩; have F := ((Fr.start W).later hb1).push (g := w1.heap.size) rfl [.int .i64 2, .int .i64 0, .int .u64 44] 29; have F2 := F.later hb2; obtain ⟨q0, q1, q2, qf⟩ := F2.c3 0 rfl; have hz := (F2.at 0 rfl).2.1; have G := Lib.hid F2; clear F F2 hb1 hb2))
  go_ret
  exact ⟨rfl, (G.out.alloc _).1⟩
section
variable {H : Type} {enc : TypeId × Value → H} {W : World} {sp : Nat → Bool} {held : Bool}
theorem insA_shape {r : Reach} {b0 : Nat} {v : Value} {d : DataW H} {p : List MemPlace} (hv : Value.okWide Try.prog W r b0 25 v) (h : DataW.Trod enc Try.prog W 0 sp held 25 v d p) : ∃ x : Ins, v = x.val ∧ wf64 x.fl ∧ x.al = x.args.length ∧ ListIn argC NoMem W.heap.size W x.ap x.al x.ac x.args ∧ (∀ a ∈ x.args, a.ok) := by
  obtain ⟨cs, rfl, hsz⟩ := okWide_struct Try.underlying25 hv
  have hC := cellsIns
  have c3 := cellsInt
  have c22 := cellsVs
  have c23 := cellsIs
  obtain ⟨l⟩ := cs
  match l, hsz.trans hC with
  | [v0, v1, v2, v3, v4, v5, v6], _ =>
    obtain ⟨fuel, hf⟩ := h
    obtain ⟨xs, n, _, hx, _, hlen, hg⟩ := DataW.trod_struct Try.underlying25 hf
    match xs, hlen with
    | [y0, y1, y2, y3, y4, y5, y6], _ =>
      have g0 := hg 0 _ rfl
      have g1 := hg 1 _ rfl
      have g2 := hg 2 _ rfl
      have g3 := hg 3 _ rfl
      have g4 := hg 4 _ rfl
      have g5 := hg 5 _ rfl
      have g6 := hg 6 _ rfl
      simp [Value.cells, c3, c22, c23] at g0 g1 g2 g3 g4 g5 g6
      obtain ⟨k0, rfl, w0⟩ := tr_w Try.underlying3 g0
      obtain ⟨k1, rfl, w1⟩ := tr_w Try.underlying3 g1
      obtain ⟨k2, rfl, w2⟩ := tr_w Try.underlying3 g2
      obtain ⟨k3, rfl, w3⟩ := tr_w Try.underlying3 g3
      obtain ⟨k4, rfl, w4⟩ := tr_w Try.underlying3 g4
      obtain ⟨p6, l6, m6, rfl⟩ := tr_slice Try.underlying23 g6
      obtain ⟨p5, m5, ars, rfl, hl, hp, _, hn⟩ := open_list (α := Arg) (m := 3) (by decide) argC (fun _ => rfl) NoMem Arg.ok (fun _ => 1) Try.underlying22 cellsValue (fun n cs y hlen h2 => by
        obtain ⟨xs, k, _, _, _, hxl, hg⟩ := DataW.trod_struct Try.underlying29 h2
        have c3 := cellsInt
        have c4 := cellsU64
        match cs, hlen with
        | [v0, v1, v2], _ =>
          match xs, hxl with
          | [y0, y1, y2], _ =>
            have g0 := hg 0 _ rfl
            have g1 := hg 1 _ rfl
            have g2 := hg 2 _ rfl
            simp [c3, c4] at g0 g1 g2
            obtain ⟨k0, rfl, w0⟩ := tr_w Try.underlying3 g0
            obtain ⟨k1, rfl, w1⟩ := tr_w Try.underlying3 g1
            obtain ⟨k2, rfl, w2⟩ := tr_w Try.underlying27 g2
            exact ⟨⟨k0, k1, k2⟩, rfl, trivial, wf_u64 w2, bulk_pos _⟩) g5
      exact ⟨⟨k0, k1, k2, k3, k4, p5, ars.length, m5, p6, l6, m6, ars⟩, rfl, wf_in w4, rfl, hl, hp⟩
end
end Go.Proofs.Ytpjfkmaceaikbaa
