/- The law's package: lives. -/
import Derived.Test.YtkbkgbkoplcgeaaMT
import Derived.Test.YtkbkgbkoplcgeaaMU
import Derived.Test.YtkbkgbkoplcgeaaMI
namespace Go.Proofs.Ytkbkgbkoplcgeaa
open Go.RowKit Go.Maps
set_option linter.unusedVariables false
set_option linter.unusedSimpArgs false

theorem unpack_num {t : Int} {l : List By} (ht : isW t = true) (hl : l.length = wd t) (h1 : ∀ y ∈ l, y.k = 1) : unpack t l = ⟨1, num l % pw t.toNat, 0, 0⟩ := by
  have hI := isW_iff.1 ht
  have hp := (wd_pos t).2 ⟨hI.1, by omega⟩
  unfold unpack
  rw [if_neg (by omega), if_neg (by omega), if_neg (fun ⟨y, hy, x, _⟩ => x (h1 y hy)), if_neg (fun ⟨y, hy, x⟩ => by rw [h1 y hy] at x; exact absurd x (by decide))]
theorem bytes_lit (w : World) (l : List By) (h : l.length ≤ maxLen) : BysIn (w.alloc (.cells (l.flatMap byC).toArray 32)).heap.size (w.alloc (.cells (l.flatMap byC).toArray 32)) (some ⟨w.heap.size, 0, none⟩) l.length l.length l :=
  ⟨rfl, Nat.le_refl _, h, fun j u hu => ⟨_, rfl, by simp, lit_cells w (l.flatMap byC).toArray _ j u (by simpa using hu)⟩, fun _ _ => trivial⟩
theorem ints_lit (w : World) (l : List Int) (h : l.length ≤ maxLen) : ListIn intC NoMem (w.alloc (.cells (l.flatMap intC).toArray 3)).heap.size (w.alloc (.cells (l.flatMap intC).toArray 3)) (some ⟨w.heap.size, 0, none⟩) l.length l.length l :=
  ⟨rfl, Nat.le_refl _, h, fun j u hu => ⟨_, rfl, by simp, lit_cells w (l.flatMap intC).toArray _ j u (by simpa using hu)⟩, fun _ _ => trivial⟩
theorem Only.below {o : Nat → Nat} {w w' : World} {B : Nat} (h : Only o w w') (ho : ∀ k, k < B → o k = 0) (hB : B ≤ w.heap.size) : Below B w w' := ⟨h.os, h.tape, h.output, h.size, fun k hk => h.block k (Nat.lt_of_lt_of_le hk hB) (ho k hk)⟩
def aV : Vl := ⟨2, 0, 0, 3⟩
def D1 : Dm := dStore (dNews [4]) 8 ⟨1, 7, 0, 0⟩ ⟨2, 0, 0, 3⟩
theorem in0 : dIn (dNews [4]) 8 ⟨2, 0, 0, 3⟩ = true := by decide +kernel
theorem in1 : dIn D1 32 ⟨2, 0, 0, 0⟩ = true := by decide +kernel
theorem ld1 : loadV D1 32 ⟨2, 0, 0, 0⟩ = ⟨1, 117440512, 0, 0⟩ := by
  unfold loadV
  rw [if_pos in1, unpack_num (by decide) (by decide +kernel) (fun y hy => ?_)]
  · have e : num (dLoad D1 32 ⟨2, 0, 0, 0⟩) % pw (Int.toNat 32) = 117440512 := by decide +kernel
    rw [e]
  · have : (dLoad D1 32 ⟨2, 0, 0, 0⟩).all (fun y => y.k == 1) = true := by decide +kernel
    have := List.all_eq_true.1 this y hy
    simpa using this
theorem un1 : unpack 12 [nB 255, nB 255] = ⟨1, 4095, 0, 0⟩ := by
  rw [unpack_num (by decide) (by decide +kernel) (fun y hy => by simp at hy; subst hy; rfl)]
  have e : num [nB 255, nB 255] % pw (Int.toNat 12) = 4095 := by decide +kernel
  rw [e]
set_option maxHeartbeats 2000000 in
theorem lives_any (W : World) : Calls Try.prog 14 #[] W fun e w' => e = .returned (.bool true) ∧ Below W.heap.size W w' := by
  have b1 := bV1
  have b2 := bV2
  have b4 := bV4
  have b5 := bB2
  have c1 : Calls Try.prog 22 #[.slice (some ⟨W.heap.size, 0, none⟩) 1 1] (W.alloc (.cells #[.int .i64 4] 3)) fun e w' => ∃ o mb, e = .returned (.pointer (some ⟨mb, 0, none⟩)) ∧ MemD o mb (dNews [4]) w' ∧ Below (W.alloc (.cells #[.int .i64 4] 3)).heap.size (W.alloc (.cells #[.int .i64 4] 3)) w' ∧ (∀ k, k < (W.alloc (.cells #[.int .i64 4] 3)).heap.size → o k = 0) :=
    NewD _ _ 1 [4] (ints_lit W [4] (show 1 ≤ maxLen by decide)) (fun x hx => by simp at hx; subst hx; exact ⟨by decide, by decide⟩) (by decide)
  have c2 : ∀ o mb w, MemD o mb (dNews [4]) w → Calls Try.prog 29 #[.pointer (some ⟨mb, 0, none⟩), .int .i64 8, .agg #[.int .i64 1, .int .u64 7, .int .i64 0, .int .i64 0], .agg #[.int .i64 2, .int .u64 0, .int .i64 0, .int .i64 3]] w fun e w' => e = .returned (.bool true) ∧ GoesD o mb D1 w w' := fun o mb w h => by
    have := StoreD o mb (dNews [4]) w 8 ⟨1, 7, 0, 0⟩ ⟨2, 0, 0, 3⟩ ⟨by decide, by decide⟩ wf0 wf0 ⟨by decide, by decide⟩ h
    rw [in0] at this
    exact this
  have c3 : ∀ o mb w, MemD o mb D1 w → Calls Try.prog 31 #[.pointer (some ⟨mb, 0, none⟩), .int .i64 32, .agg #[.int .i64 2, .int .u64 0, .int .i64 0, .int .i64 0]] w fun e w' => e = .returned (.tuple #[.agg #[.int .i64 1, .int .u64 117440512, .int .i64 0, .int .i64 0], .bool true]) ∧ Below w.heap.size w w' := fun o mb w h => by
    have := LoadD o mb D1 w 32 ⟨2, 0, 0, 0⟩ wf0 wf0 h
    rw [in1, ld1] at this
    exact this
  have c4 : ∀ w : World, Calls Try.prog 18 #[.int .i64 12, .slice (some ⟨w.heap.size, 0, none⟩) 2 2] (w.alloc (.cells #[.int .i64 1, .int .u8 255, .int .i64 0, .int .i64 0, .int .i64 0, .int .i64 1, .int .u8 255, .int .i64 0, .int .i64 0, .int .i64 0] 32)) fun e w' => e = .returned (.agg #[.int .i64 1, .int .u64 4095, .int .i64 0, .int .i64 0]) ∧ Below (w.alloc (.cells #[.int .i64 1, .int .u8 255, .int .i64 0, .int .i64 0, .int .i64 0, .int .i64 1, .int .u8 255, .int .i64 0, .int .i64 0, .int .i64 0] 32)).heap.size (w.alloc (.cells #[.int .i64 1, .int .u8 255, .int .i64 0, .int .i64 0, .int .i64 0, .int .i64 1, .int .u8 255, .int .i64 0, .int .i64 0, .int .i64 0] 32)) w' := fun w => by
    have := Unpack_any 12 _ _ 2 [nB 255, nB 255] (bytes_lit w [nB 255, nB 255] (show 2 ≤ maxLen by decide)) (fun y hy => by simp at hy; subst hy; exact ⟨by decide, by decide⟩)
    rw [un1] at this
    exact this
  go_enter Try.func14, Try.ntmps14
  go_wp2_with (first
    | ((with_reducible refine c1.mono ?_); rintro e w1 ⟨o, mb, rfl, hM1, hb1, ho1⟩; have c5 := c2 o mb w1 hM1)
    | ((with_reducible refine c5.mono ?_); rintro e w2 ⟨rfl, o2, hM2, hO2, hE2⟩; have c6 := c3 o2 mb w2 hM2)
    | ((with_reducible refine c6.mono ?_); rintro e w3 ⟨rfl, hb3⟩; have c7 := c4 (w3.alloc (.cells #[.int .i64 1, .int .u64 117440512, .int .i64 0, .int .i64 0] 24)); simp only [World.size_alloc] at c7)
    | ((with_reducible refine c7.mono ?_); rintro e w4 ⟨rfl, hb4⟩))
  go_ret
  have B1 : Below W.heap.size W w1 := (below1 W _).trans (hb1.mono (by simp))
  have B2 := B1.trans (hO2.below (B := W.heap.size) (fun k hk => ho1 k (by simp; omega)) B1.size)
  have B3 := B2.trans (hb3.mono B2.size)
  have hs := B3.size
  have B4 := (B3.alloc hs (.cells #[.int .i64 1, .int .u64 117440512, .int .i64 0, .int .i64 0] 24)).alloc (by simp; omega) (.cells #[.int .i64 1, .int .u8 255, .int .i64 0, .int .i64 0, .int .i64 0, .int .i64 1, .int .u8 255, .int .i64 0, .int .i64 0, .int .i64 0] 32)
  exact ⟨rfl, B4.trans (hb4.mono (by omega))⟩
end Go.Proofs.Ytkbkgbkoplcgeaa
