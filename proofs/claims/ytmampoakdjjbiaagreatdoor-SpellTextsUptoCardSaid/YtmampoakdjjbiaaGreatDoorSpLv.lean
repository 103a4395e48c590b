/- The fixed facts of layer 5's statements. -/
import Derived.Test.YtmampoakdjjbiaaGreatDoorSpKl
namespace Go.Proofs.YtmampoakdjjbiaaGreatDoor
open Go.RowKit Go.Maps
set_option linter.unusedVariables false
set_option linter.unusedSimpArgs false

theorem HBx.row {k : Nat} {cs : List Value} {T : TypeId} {w : World} (h : HBx k cs T w) : RowAt w.heap.size w (some ⟨k, 0, none⟩) cs := fun j u hu => by
  refine ⟨⟨k, 0, none⟩, rfl, heap_lt h, ?_⟩
  have := h.get j u hu
  rw [Lib.add_plain, Nat.zero_add]
  exact this
/-- A list of one element in a block. -/
theorem HBx.one {α : Type} {cel : α → List Value} {E : Nat → World → α → Prop} {k : Nat} {x : α} {T : TypeId} {w : World} (h : HBx k (cel x) T w) (hE : E w.heap.size w x) : ListIn cel E w.heap.size w (some ⟨k, 0, none⟩) 1 1 [x] :=
  ⟨rfl, Nat.le_refl _, by decide, by rw [List.flatMap_cons, List.flatMap_nil, List.append_nil]; exact h.row, fun y hy => by rw [List.mem_singleton] at hy; subst hy; exact hE⟩
theorem none_in {α : Type} {cel : α → List Value} {E : Nat → World → α → Prop} {B : Nat} {w : World} : ListIn cel E B w none 0 0 [] :=
  ⟨rfl, Nat.le_refl _, Nat.zero_le _, fun j u hu => by simp at hu, fun x hx => absurd hx (by simp)⟩
def lvI : LI := (⟨34, -1, 0, 0, 0, none, 0, 0, none, 0, 0, []⟩, [])
def lvM (b0 b1 b2 b3 b4 : Nat) : LMod :=
  ⟨some ⟨b0, 0, none⟩, 1, 1, [⟨⟨#[103]⟩, 8⟩], none, 0, 0, [], some ⟨b4, 0, none⟩, 1, 1, [⟨⟨#[102]⟩, some ⟨b1, 0, none⟩, 1, 1, [8], 0, some ⟨b3, 0, none⟩, 1, 1, [⟨some ⟨b2, 0, none⟩, 1, 1, [lvI]⟩]⟩]⟩
def lvD : PMod := ⟨[⟨⟨#[103]⟩, 8⟩], [], [⟨⟨#[102]⟩, [8], 0, [[⟨34, -1, 0, 0, 0, [], []⟩]]⟩]⟩
theorem lv_same (b0 b1 b2 b3 b4 : Nat) : modD (lvM b0 b1 b2 b3 b4) = lvD := rfl
theorem lv_in {b0 b1 b2 b3 b4 : Nat} {w : World} (h0 : HBx b0 [.string ⟨#[103]⟩, .int .i64 8] 35 w) (h1 : HBx b1 [.int .i64 8] 3 w)
    (h2 : HBx b2 [.int .i64 34, .int .i64 (-1), .int .i64 0, .int .i64 0, .int .i64 0, .slice none 0 0, .slice none 0 0] 39 w) (h3 : HBx b3 [.slice (some ⟨b2, 0, none⟩) 1 1] 42 w)
    (h4 : HBx b4 [.string ⟨#[102]⟩, .slice (some ⟨b1, 0, none⟩) 1 1, .int .i64 0, .slice (some ⟨b3, 0, none⟩) 1 1] 45 w) : ModIn w.heap.size w (lvM b0 b1 b2 b3 b4) := by
  refine ⟨HBx.one (cel := varC) (x := ⟨⟨#[103]⟩, 8⟩) h0 trivial, none_in, HBx.one (cel := fnC) (x := ⟨⟨#[102]⟩, some ⟨b1, 0, none⟩, 1, 1, [8], 0, some ⟨b3, 0, none⟩, 1, 1, [⟨some ⟨b2, 0, none⟩, 1, 1, [lvI]⟩]⟩) h4 ⟨HBx.one (cel := intC) (x := (8 : Int)) h1 trivial, ?_⟩⟩
  exact HBx.one (cel := blkC) (x := ⟨some ⟨b2, 0, none⟩, 1, 1, [lvI]⟩) h3 (HBx.one (cel := liC) (x := lvI) h2 ⟨none_in, none_in⟩)
theorem lv_wf (b0 b1 b2 b3 b4 : Nat) : MWf (lvM b0 b1 b2 b3 b4) where
  vs := fun v hv => by rw [show (lvM b0 b1 b2 b3 b4).vs = [⟨⟨#[103]⟩, 8⟩] from rfl, List.mem_singleton] at hv; subst hv; decide
  xs := fun x hx => absurd hx (by simp [lvM])
  fs := fun f hf => by
    have : f.nm = ⟨#[102]⟩ := by
      simp only [lvM, List.mem_singleton] at hf
      rw [hf]
    rw [this]
    decide
  ns := fun f hf c hc x hx => by
    simp only [lvM, List.mem_singleton] at hf
    subst hf
    simp only [List.mem_singleton] at hc
    subst hc
    simp only [List.mem_singleton] at hx
    subst hx
    decide
  z := by rw [lv_same]; decide
theorem lv_num (b0 b1 b2 b3 b4 : Nat) : NumOk (lvM b0 b1 b2 b3 b4) where
  vs := fun v hv => by rw [show (lvM b0 b1 b2 b3 b4).vs = [⟨⟨#[103]⟩, 8⟩] from rfl, List.mem_singleton] at hv; subst hv; decide
  is := fun f hf c hc x hx => by
    simp only [lvM, List.mem_singleton] at hf
    subst hf
    simp only [List.mem_singleton] at hc
    subst hc
    simp only [List.mem_singleton] at hx
    subst hx
    exact ⟨by decide, fun a ha => absurd ha (by simp [lvI, insD])⟩
theorem lv_say : sayB wdB lvD = true := by decide
theorem lv_text : modT lvD = [103, 108, 111, 98, 97, 108, 32, 103, 32, 56, 10, 102, 117, 110, 99, 32, 102, 40, 105, 56, 41, 32, 118, 111, 105, 100, 10, 98, 48, 58, 10, 32, 32, 104, 97, 108, 116, 10, 101, 110, 100, 10] := by
  have d8 : Lib.decDigits 8 = [56] := by rw [Lib.decDigits_one (by omega)]; rfl
  have d0 : Lib.decDigits 0 = [48] := by rw [Lib.decDigits_one (by omega)]; rfl
  have e8 : decI 8 = [56] := d8
  have e0 : decI ((0 : Nat) : Int) = [48] := d0
  have t8 : typeT 8 = [105, 56] := by unfold typeT; rw [if_neg (by omega), if_neg (by omega), if_pos (by omega), e8]
  unfold modT lvD varT fnT headT
  simp only [List.map_cons, List.map_nil, List.flatten_cons, List.flatten_nil, List.mapIdx_cons, List.mapIdx_nil, blkT, blockT, t8, e8, e0]
  rfl
theorem build_v (w : World) (s : ByteArray) : (Instr.build 35 #[(0, .string s), (1, .int .i64 8)]).run Tryz.prog w = .ok (.agg #[.string s, .int .i64 8]) w := run_build _ _ _ _ (by kernel_rfl)
theorem build_i2 (w : World) : (Instr.build 39 #[(0, .int .i64 34), (1, .int .i64 (-1))]).run Tryz.prog w = .ok (.agg #[.int .i64 34, .int .i64 (-1), .int .i64 0, .int .i64 0, .int .i64 0, .slice none 0 0, .slice none 0 0]) w := run_build _ _ _ _ (by kernel_rfl)
theorem build_b (w : World) (p : Option Addr) (n c : Nat) : (Instr.build 42 #[(0, .slice p n c)]).run Tryz.prog w = .ok (.agg #[.slice p n c]) w := run_build _ _ _ _ (by kernel_rfl)
theorem build_f (w : World) (s : ByteArray) (p q : Option Addr) (n c n2 c2 : Nat) : (Instr.build 45 #[(0, .string s), (1, .slice p n c), (3, .slice q n2 c2)]).run Tryz.prog w = .ok (.agg #[.string s, .slice p n c, .int .i64 0, .slice q n2 c2]) w := run_build _ _ _ _ (by kernel_rfl)
theorem build_m (w : World) (p q : Option Addr) (n c n2 c2 : Nat) : (Instr.build 26 #[(0, .slice p n c), (2, .slice q n2 c2)]).run Tryz.prog w = .ok (.agg #[.slice p n c, .slice none 0 0, .slice q n2 c2]) w := run_build _ _ _ _ (by kernel_rfl)
theorem HBx.new {w : World} {k : Nat} (cs : List Value) (T : TypeId) (hk : w.heap.size = k) : HBx k cs T (w.alloc (.cells cs.toArray T)) := by subst hk; exact heap_new _ _
theorem HBx.al {k : Nat} {cs : List Value} {T : TypeId} {w : World} (h : HBx k cs T w) (o : Obj) : HBx k cs T (w.alloc o) := h.later ((Below.refl _ _).alloc (Nat.le_refl _) o)
theorem below_al {B : Nat} {W w : World} (h : Below B W w) (hB : B ≤ w.heap.size) (o : Obj) : Below B W (w.alloc o) ∧ B ≤ (w.alloc o).heap.size := ⟨h.alloc hB o, by simp; omega⟩
set_option maxRecDepth 100000 in
set_option maxHeartbeats 4000000 in
theorem lives_any (W : World) (hO : Ops W) (hT : TabOk W) : Calls Tryz.prog 5 #[] W fun e w' => e = .returned (.bool true) ∧ Below W.heap.size W w' := by
  have b1 := build_v
  have b2 := build_i2
  have b3 := build_b
  have b4 := build_f
  have b5 := build_m
  go_enter Tryz.func5, Tryz.ntmps5
  go_upto_region 2 with fail
  have h0 : HBx (W.heap.size) [.string ⟨#[103]⟩, .int .i64 8] 35 ((((((W.alloc (.cells #[.string ⟨#[103]⟩, .int .i64 8] 35)).alloc (.cells #[.int .i64 8] 3)).alloc (.cells #[.int .i64 34, .int .i64 (-1), .int .i64 0, .int .i64 0, .int .i64 0, .slice none 0 0, .slice none 0 0] 39)).alloc (.cells #[.slice (some ⟨W.heap.size + 1 + 1, 0, none⟩) 1 1] 42)).alloc (.cells #[.string ⟨#[102]⟩, .slice (some ⟨W.heap.size + 1, 0, none⟩) 1 1, .int .i64 0, .slice (some ⟨W.heap.size + 1 + 1 + 1, 0, none⟩) 1 1] 45)).alloc (.cells #[.slice (some ⟨W.heap.size, 0, none⟩) 1 1, .slice none 0 0, .slice (some ⟨W.heap.size + 1 + 1 + 1 + 1, 0, none⟩) 1 1] 26)) := (HBx.al (HBx.al (HBx.al (HBx.al (HBx.al (HBx.new (w := W) (k := W.heap.size) [.string ⟨#[103]⟩, .int .i64 8] 35 (by simp)) _) _) _) _) _)
  have h1 : HBx (W.heap.size + 1) [.int .i64 8] 3 ((((((W.alloc (.cells #[.string ⟨#[103]⟩, .int .i64 8] 35)).alloc (.cells #[.int .i64 8] 3)).alloc (.cells #[.int .i64 34, .int .i64 (-1), .int .i64 0, .int .i64 0, .int .i64 0, .slice none 0 0, .slice none 0 0] 39)).alloc (.cells #[.slice (some ⟨W.heap.size + 1 + 1, 0, none⟩) 1 1] 42)).alloc (.cells #[.string ⟨#[102]⟩, .slice (some ⟨W.heap.size + 1, 0, none⟩) 1 1, .int .i64 0, .slice (some ⟨W.heap.size + 1 + 1 + 1, 0, none⟩) 1 1] 45)).alloc (.cells #[.slice (some ⟨W.heap.size, 0, none⟩) 1 1, .slice none 0 0, .slice (some ⟨W.heap.size + 1 + 1 + 1 + 1, 0, none⟩) 1 1] 26)) := (HBx.al (HBx.al (HBx.al (HBx.al (HBx.new (w := (W.alloc (.cells #[.string ⟨#[103]⟩, .int .i64 8] 35))) (k := W.heap.size + 1) [.int .i64 8] 3 (by simp)) _) _) _) _)
  have h2 : HBx (W.heap.size + 1 + 1) [.int .i64 34, .int .i64 (-1), .int .i64 0, .int .i64 0, .int .i64 0, .slice none 0 0, .slice none 0 0] 39 ((((((W.alloc (.cells #[.string ⟨#[103]⟩, .int .i64 8] 35)).alloc (.cells #[.int .i64 8] 3)).alloc (.cells #[.int .i64 34, .int .i64 (-1), .int .i64 0, .int .i64 0, .int .i64 0, .slice none 0 0, .slice none 0 0] 39)).alloc (.cells #[.slice (some ⟨W.heap.size + 1 + 1, 0, none⟩) 1 1] 42)).alloc (.cells #[.string ⟨#[102]⟩, .slice (some ⟨W.heap.size + 1, 0, none⟩) 1 1, .int .i64 0, .slice (some ⟨W.heap.size + 1 + 1 + 1, 0, none⟩) 1 1] 45)).alloc (.cells #[.slice (some ⟨W.heap.size, 0, none⟩) 1 1, .slice none 0 0, .slice (some ⟨W.heap.size + 1 + 1 + 1 + 1, 0, none⟩) 1 1] 26)) := (HBx.al (HBx.al (HBx.al (HBx.new (w := ((W.alloc (.cells #[.string ⟨#[103]⟩, .int .i64 8] 35)).alloc (.cells #[.int .i64 8] 3))) (k := W.heap.size + 1 + 1) [.int .i64 34, .int .i64 (-1), .int .i64 0, .int .i64 0, .int .i64 0, .slice none 0 0, .slice none 0 0] 39 (by simp)) _) _) _)
  have h3 : HBx (W.heap.size + 1 + 1 + 1) [.slice (some ⟨W.heap.size + 1 + 1, 0, none⟩) 1 1] 42 ((((((W.alloc (.cells #[.string ⟨#[103]⟩, .int .i64 8] 35)).alloc (.cells #[.int .i64 8] 3)).alloc (.cells #[.int .i64 34, .int .i64 (-1), .int .i64 0, .int .i64 0, .int .i64 0, .slice none 0 0, .slice none 0 0] 39)).alloc (.cells #[.slice (some ⟨W.heap.size + 1 + 1, 0, none⟩) 1 1] 42)).alloc (.cells #[.string ⟨#[102]⟩, .slice (some ⟨W.heap.size + 1, 0, none⟩) 1 1, .int .i64 0, .slice (some ⟨W.heap.size + 1 + 1 + 1, 0, none⟩) 1 1] 45)).alloc (.cells #[.slice (some ⟨W.heap.size, 0, none⟩) 1 1, .slice none 0 0, .slice (some ⟨W.heap.size + 1 + 1 + 1 + 1, 0, none⟩) 1 1] 26)) := (HBx.al (HBx.al (HBx.new (w := (((W.alloc (.cells #[.string ⟨#[103]⟩, .int .i64 8] 35)).alloc (.cells #[.int .i64 8] 3)).alloc (.cells #[.int .i64 34, .int .i64 (-1), .int .i64 0, .int .i64 0, .int .i64 0, .slice none 0 0, .slice none 0 0] 39))) (k := W.heap.size + 1 + 1 + 1) [.slice (some ⟨W.heap.size + 1 + 1, 0, none⟩) 1 1] 42 (by simp)) _) _)
  have h4 : HBx (W.heap.size + 1 + 1 + 1 + 1) [.string ⟨#[102]⟩, .slice (some ⟨W.heap.size + 1, 0, none⟩) 1 1, .int .i64 0, .slice (some ⟨W.heap.size + 1 + 1 + 1, 0, none⟩) 1 1] 45 ((((((W.alloc (.cells #[.string ⟨#[103]⟩, .int .i64 8] 35)).alloc (.cells #[.int .i64 8] 3)).alloc (.cells #[.int .i64 34, .int .i64 (-1), .int .i64 0, .int .i64 0, .int .i64 0, .slice none 0 0, .slice none 0 0] 39)).alloc (.cells #[.slice (some ⟨W.heap.size + 1 + 1, 0, none⟩) 1 1] 42)).alloc (.cells #[.string ⟨#[102]⟩, .slice (some ⟨W.heap.size + 1, 0, none⟩) 1 1, .int .i64 0, .slice (some ⟨W.heap.size + 1 + 1 + 1, 0, none⟩) 1 1] 45)).alloc (.cells #[.slice (some ⟨W.heap.size, 0, none⟩) 1 1, .slice none 0 0, .slice (some ⟨W.heap.size + 1 + 1 + 1 + 1, 0, none⟩) 1 1] 26)) := (HBx.al (HBx.new (w := ((((W.alloc (.cells #[.string ⟨#[103]⟩, .int .i64 8] 35)).alloc (.cells #[.int .i64 8] 3)).alloc (.cells #[.int .i64 34, .int .i64 (-1), .int .i64 0, .int .i64 0, .int .i64 0, .slice none 0 0, .slice none 0 0] 39)).alloc (.cells #[.slice (some ⟨W.heap.size + 1 + 1, 0, none⟩) 1 1] 42))) (k := W.heap.size + 1 + 1 + 1 + 1) [.string ⟨#[102]⟩, .slice (some ⟨W.heap.size + 1, 0, none⟩) 1 1, .int .i64 0, .slice (some ⟨W.heap.size + 1 + 1 + 1, 0, none⟩) 1 1] 45 (by simp)) _)
  have h5 : HBx (W.heap.size + 1 + 1 + 1 + 1 + 1) [.slice (some ⟨W.heap.size, 0, none⟩) 1 1, .slice none 0 0, .slice (some ⟨W.heap.size + 1 + 1 + 1 + 1, 0, none⟩) 1 1] 26 ((((((W.alloc (.cells #[.string ⟨#[103]⟩, .int .i64 8] 35)).alloc (.cells #[.int .i64 8] 3)).alloc (.cells #[.int .i64 34, .int .i64 (-1), .int .i64 0, .int .i64 0, .int .i64 0, .slice none 0 0, .slice none 0 0] 39)).alloc (.cells #[.slice (some ⟨W.heap.size + 1 + 1, 0, none⟩) 1 1] 42)).alloc (.cells #[.string ⟨#[102]⟩, .slice (some ⟨W.heap.size + 1, 0, none⟩) 1 1, .int .i64 0, .slice (some ⟨W.heap.size + 1 + 1 + 1, 0, none⟩) 1 1] 45)).alloc (.cells #[.slice (some ⟨W.heap.size, 0, none⟩) 1 1, .slice none 0 0, .slice (some ⟨W.heap.size + 1 + 1 + 1 + 1, 0, none⟩) 1 1] 26)) := (HBx.new (w := (((((W.alloc (.cells #[.string ⟨#[103]⟩, .int .i64 8] 35)).alloc (.cells #[.int .i64 8] 3)).alloc (.cells #[.int .i64 34, .int .i64 (-1), .int .i64 0, .int .i64 0, .int .i64 0, .slice none 0 0, .slice none 0 0] 39)).alloc (.cells #[.slice (some ⟨W.heap.size + 1 + 1, 0, none⟩) 1 1] 42)).alloc (.cells #[.string ⟨#[102]⟩, .slice (some ⟨W.heap.size + 1, 0, none⟩) 1 1, .int .i64 0, .slice (some ⟨W.heap.size + 1 + 1 + 1, 0, none⟩) 1 1] 45))) (k := W.heap.size + 1 + 1 + 1 + 1 + 1) [.slice (some ⟨W.heap.size, 0, none⟩) 1 1, .slice none 0 0, .slice (some ⟨W.heap.size + 1 + 1 + 1 + 1, 0, none⟩) 1 1] 26 (by simp))
  have hb : Below W.heap.size W ((((((W.alloc (.cells #[.string ⟨#[103]⟩, .int .i64 8] 35)).alloc (.cells #[.int .i64 8] 3)).alloc (.cells #[.int .i64 34, .int .i64 (-1), .int .i64 0, .int .i64 0, .int .i64 0, .slice none 0 0, .slice none 0 0] 39)).alloc (.cells #[.slice (some ⟨W.heap.size + 1 + 1, 0, none⟩) 1 1] 42)).alloc (.cells #[.string ⟨#[102]⟩, .slice (some ⟨W.heap.size + 1, 0, none⟩) 1 1, .int .i64 0, .slice (some ⟨W.heap.size + 1 + 1 + 1, 0, none⟩) 1 1] 45)).alloc (.cells #[.slice (some ⟨W.heap.size, 0, none⟩) 1 1, .slice none 0 0, .slice (some ⟨W.heap.size + 1 + 1 + 1 + 1, 0, none⟩) 1 1] 26)) := ((fun p => below_al (And.left p) (And.right p) _) ((fun p => below_al (And.left p) (And.right p) _) ((fun p => below_al (And.left p) (And.right p) _) ((fun p => below_al (And.left p) (And.right p) _) ((fun p => below_al (And.left p) (And.right p) _) (below_al (Below.refl W.heap.size W) (Nat.le_refl _) _)))))).1
  obtain ⟨w6, e6⟩ : ∃ w6, ((((((W.alloc (.cells #[.string ⟨#[103]⟩, .int .i64 8] 35)).alloc (.cells #[.int .i64 8] 3)).alloc (.cells #[.int .i64 34, .int .i64 (-1), .int .i64 0, .int .i64 0, .int .i64 0, .slice none 0 0, .slice none 0 0] 39)).alloc (.cells #[.slice (some ⟨W.heap.size + 1 + 1, 0, none⟩) 1 1] 42)).alloc (.cells #[.string ⟨#[102]⟩, .slice (some ⟨W.heap.size + 1, 0, none⟩) 1 1, .int .i64 0, .slice (some ⟨W.heap.size + 1 + 1 + 1, 0, none⟩) 1 1] 45)).alloc (.cells #[.slice (some ⟨W.heap.size, 0, none⟩) 1 1, .slice none 0 0, .slice (some ⟨W.heap.size + 1 + 1 + 1 + 1, 0, none⟩) 1 1] 26)) = w6 := ⟨_, rfl⟩
  rw [e6] at h0 h1 h2 h3 h4 h5 hb ⊢
  clear e6
  obtain ⟨M, eM⟩ : ∃ M, lvM W.heap.size (W.heap.size + 1) (W.heap.size + 1 + 1) (W.heap.size + 1 + 1 + 1) (W.heap.size + 1 + 1 + 1 + 1) = M := ⟨_, rfl⟩
  have hin : ModIn w6.heap.size w6 M := by rw [← eM]; exact lv_in h0 h1 h2 h3 h4
  have hwf : MWf M := by rw [← eM]; exact lv_wf _ _ _ _ _
  have hnm : NumOk M := by rw [← eM]; exact lv_num _ _ _ _ _
  have hD : modD M = lvD := by rw [← eM]; rfl
  have hC : (modC M).toArray = #[.slice (some ⟨W.heap.size, 0, none⟩) 1 1, .slice none 0 0, .slice (some ⟨W.heap.size + 1 + 1 + 1 + 1, 0, none⟩) 1 1] := by rw [← eM]; rfl
  have cS : ∀ w, Below w6.heap.size w6 w → Calls Tryz.prog 8 #[.agg #[.slice (some ⟨W.heap.size, 0, none⟩) 1 1, .slice none 0 0, .slice (some ⟨W.heap.size + 1 + 1 + 1 + 1, 0, none⟩) 1 1]] w (Ans (.bool true) w) := fun w h => by
    have := Sayable_any M w (hO.later (hb.trans (h.mono hb.size))) (lasts_Mod _ _ _ _ _ h h.size hin) hwf
    rw [hD, lv_say, hC] at this
    exact this
  have cT : ∀ w, Below w6.heap.size w6 w → Calls Tryz.prog 10 #[.agg #[.slice (some ⟨W.heap.size, 0, none⟩) 1 1, .slice none 0 0, .slice (some ⟨W.heap.size + 1 + 1 + 1 + 1, 0, none⟩) 1 1]] w (StrV ⟨#[103, 108, 111, 98, 97, 108, 32, 103, 32, 56, 10, 102, 117, 110, 99, 32, 102, 40, 105, 56, 41, 32, 118, 111, 105, 100, 10, 98, 48, 58, 10, 32, 32, 104, 97, 108, 116, 10, 101, 110, 100, 10]⟩ w) := fun w h => by
    have := Text_any M w (hO.later (hb.trans (h.mono hb.size))) (hT.later (hb.trans (h.mono hb.size))) (lasts_Mod _ _ _ _ _ h h.size hin) hwf hnm
    rw [hD, lv_say, hC, lv_text] at this
    exact this
  have cY : ∀ w, Below w6.heap.size w6 w → Calls Tryz.prog 12 #[.int .i64 65] w (StrV ⟨#[112, 116, 114]⟩ w) := fun w h => sType_any 65 w (hT.later (hb.trans (h.mono hb.size)))
  have H := Lib.hid (And.intro cS (And.intro cT (And.intro cY (And.intro hb h5))))
  clear h0 h1 h2 h3 h4 h5 hb eM hin hwf hnm hD hC cS cT cY b1 b2 b3 b4 b5
  have x0 := H.out.2.2.2.2.get 0 _ rfl
  have x1 := H.out.2.2.2.2.get 1 _ rfl
  have x2 := H.out.2.2.2.2.get 2 _ rfl
  have c := H.out.1 w6 (Below.refl _ _)
  go_wp2_with fail
  refine c.mono ?_
  rintro e w7 ⟨rfl, hb7⟩
  have HB7 := Lib.hid hb7
  have y0 := (H.out.2.2.2.2.later hb7).get 0 _ rfl
  have y1 := (H.out.2.2.2.2.later hb7).get 1 _ rfl
  have y2 := (H.out.2.2.2.2.later hb7).get 2 _ rfl
  have c2 := H.out.2.1 w7 hb7
  clear c hb7 x0 x1 x2
  go_wp2_with fail
  refine c2.mono ?_
  rintro e w8 ⟨rfl, hb8⟩
  have HB8 := Lib.hid (HB7.out.trans (hb8.mono HB7.out.size))
  have c3 := H.out.2.2.1 w8 HB8.out
  clear c2 hb8 y0 y1 y2
  go_wp2_with fail
  refine c3.mono ?_
  rintro e w9 ⟨rfl, hb9⟩
  have HB9 := Lib.hid (HB8.out.trans (hb9.mono HB8.out.size))
  clear c3 hb9
  go_wp2_with fail
  go_ret
  exact ⟨rfl, H.out.2.2.2.1.trans (HB9.out.mono H.out.2.2.2.1.size)⟩
end Go.Proofs.YtmampoakdjjbiaaGreatDoor
