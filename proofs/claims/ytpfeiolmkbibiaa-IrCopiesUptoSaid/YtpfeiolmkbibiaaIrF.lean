/- Package ir: Def. -/
import Derived.Test.YtpfeiolmkbibiaaIrE
namespace Go.Proofs.Ytpfeiolmkbibiaa
open Go.RowKit
set_option linter.unusedVariables false
set_option linter.unusedSimpArgs false

/-- A block of three cells of the call's own, that may be written. -/
def Tri (B : Nat) (g : Nat) (x y z : Value) (w : World) : Prop :=
  B ≤ g ∧ g < w.heap.size ∧ w.cell? ⟨g, 0, none⟩ = some x ∧ w.cell? ⟨g, 1, none⟩ = some y ∧ w.cell? ⟨g, 2, none⟩ = some z ∧ ∀ i, w.frozen? ⟨g, i, none⟩ = false
theorem Tri.past {B g : Nat} {x y z : Value} {W w : World} (h : Tri B g x y z W) (hb : Below W.heap.size W w) : Tri B g x y z w := by
  obtain ⟨h0, h1, h2, h3, h4, h5⟩ := h
  exact ⟨h0, Nat.lt_of_lt_of_le h1 hb.size, (hb.cell (p := ⟨g, 0, none⟩) h1).trans h2, (hb.cell (p := ⟨g, 1, none⟩) h1).trans h3, (hb.cell (p := ⟨g, 2, none⟩) h1).trans h4, fun i => (hb.frozen (p := ⟨g, i, none⟩) h1).trans (h5 i)⟩
theorem Tri.alloc {B g : Nat} {x y z : Value} {w : World} (h : Tri B g x y z w) (c : Array Value) (t : TypeId) : Tri B g x y z (w.alloc (.cells c t)) := h.past ((Below.refl _ _).alloc (Nat.le_refl _) _)
theorem Tri.new {B : Nat} (w : World) (hB : B ≤ w.heap.size) (x y z : Value) (t : TypeId) : Tri B w.heap.size x y z (w.alloc (.cells #[x, y, z] t)) :=
  ⟨hB, by simp, by rw [World.cell?_alloc_at _ _ _ _ rfl]; rfl, by rw [World.cell?_alloc_at _ _ _ _ rfl]; rfl, by rw [World.cell?_alloc_at _ _ _ _ rfl]; rfl, fun i => World.frozen?_alloc_at _ _ _ _ rfl⟩
theorem Tri.other {B g : Nat} {x y z : Value} {w : World} (h : Tri B g x y z w) {d : Nat} (hd : d ≠ g) (i : Nat) (v : Value) : Tri B g x y z (w.setCell ⟨d, i, none⟩ v) := by
  obtain ⟨h0, h1, h2, h3, h4, h5⟩ := h
  exact ⟨h0, by simpa [World.setCell] using h1, by rw [World.cell?_setCell_other (h := fun e => hd (by injection e))]; exact h2, by rw [World.cell?_setCell_other (h := fun e => hd (by injection e))]; exact h3,
    by rw [World.cell?_setCell_other (h := fun e => hd (by injection e))]; exact h4, fun i => by rw [World.frozen?_setCell]; exact h5 i⟩
theorem Tri.set {B g : Nat} {x y z : Value} {w : World} (h : Tri B g x y z w) (x' y' z' : Value) : Tri B g x' y' z' (((w.setCell ⟨g, 0, none⟩ x').setCell ⟨g, 1, none⟩ y').setCell ⟨g, 2, none⟩ z') := by
  obtain ⟨h0, h1, h2, h3, h4, h5⟩ := h
  have ne : ∀ i j : Nat, i ≠ j → (⟨g, i, none⟩ : Addr) ≠ ⟨g, j, none⟩ := fun i j h h2 => h (by injection h2)
  refine ⟨h0, by simpa [World.setCell] using h1, ?_, ?_, ?_, fun i => by simp only [World.frozen?_setCell]; exact h5 i⟩
  · rw [World.cell?_setCell_other (h := ne 2 0 (by decide)), World.cell?_setCell_other (h := ne 1 0 (by decide)), World.cell?_setCell_same' _ _ _ (by rw [h2]; rfl)]
  · rw [World.cell?_setCell_other (h := ne 2 1 (by decide)), World.cell?_setCell_same' _ _ _ (by rw [World.cell?_setCell_other (h := ne 0 1 (by decide)), h3]; rfl)]
  · rw [World.cell?_setCell_same' _ _ _ (by rw [World.cell?_setCell_other (h := ne 1 2 (by decide)), World.cell?_setCell_other (h := ne 0 2 (by decide)), h4]; rfl)]
theorem One.other' {B c : Nat} {v : Value} {w : World} (h : One B c v w) {d : Nat} (hd : d ≠ c) (i : Nat) (v' : Value) : One B c v (w.setCell ⟨d, i, none⟩ v') := by
  obtain ⟨h1, h2, h3, h4⟩ := h
  exact ⟨h1, by simpa [World.setCell] using h2, by rw [World.cell?_setCell_other (h := fun e => hd (by injection e))]; exact h3, by rw [World.frozen?_setCell]; exact h4⟩

theorem Past.below {B : Nat} {W w : World} (h : Past B W w) : Below B W w := h.2
theorem Tri.set' {B g : Nat} {x y z x' y' z' : Value} {w : World} (h : Tri B g x y z w) : Tri B g x' y' z' (((w.setCell ⟨g, 0, none⟩ x').setCell ⟨g, 1, none⟩ y').setCell ⟨g, 2, none⟩ z') := h.set x' y' z'
/-- Does an instruction make the register? -/
def mk (reg : Int) (d : Ins) : Bool := d.reg == reg && resV d.op d.ty != 0

set_option maxHeartbeats 2000000 in
theorem def1_any (B cf r cp : Nat) (f : Bool) (x y z p0 p1 p2 reg : Int) (d : Ins) (w : World) (hB : B ≤ w.heap.size) (hf : One B cf (.bool f) w) (hr : One 0 r (.int .i64 reg) w) (hp : Tri B cp (.int .i64 x) (.int .i64 y) (.int .i64 z) w)
    (n1 : cf ≠ r) (n2 : cf ≠ cp) (n3 : r ≠ cp) :
    Calls Try.prog 52 #[.agg #[.int .i64 p0, .int .i64 p1, .int .i64 p2], d.val, .pointer (some ⟨cf, 0, none⟩), .pointer (some ⟨r, 0, none⟩), .pointer (some ⟨cp, 0, none⟩)] w
      fun e w' => e = .returned (.tuple #[]) ∧ Below B w w' ∧ One 0 r (.int .i64 reg) w' ∧ One B cf (.bool (f || mk reg d)) w' ∧
        Tri B cp (.int .i64 (if !f && mk reg d then p0 else x)) (.int .i64 (if !f && mk reg d then p1 else y)) (.int .i64 (if !f && mk reg d then p2 else z)) w' := by
  obtain ⟨op, rg, ty, nn, fl, ap, al, ac, tp, tl, tc, args⟩ := d
  have cr := fun W => Result_any op rg ty nn fl ap tp al ac tl tc W
  have hmk : mk reg ⟨op, rg, ty, nn, fl, ap, al, ac, tp, tl, tc, args⟩ = (rg == reg && resV op ty != 0) := rfl
  rw [hmk]
  clear hmk
  unfold Ins.val
  simp only []
  generalize resV op ty = R at *
  obtain ⟨f0, f1, f2, f3⟩ := id hf
  obtain ⟨r0, r1, r2, r3⟩ := id hr
  obtain ⟨t0, t1, t2, t3, t4, t5⟩ := id hp
  have hP : Past B w w := Past.refl hB
  have s1 : cp < w.heap.size + 1 := by omega
  have s2 : cp < w.heap.size + 1 + 1 := by omega
  have s3 : cf < w.heap.size + 1 := by omega
  have s4 : cf < w.heap.size + 1 + 1 := by omega
  by_cases hit : f = false ∧ rg = reg ∧ R ≠ 0
  · obtain ⟨rfl, rfl, hR⟩ := hit
    have e2 : (rg == rg && (R != 0)) = true := by simpa using hR
    have e3 : (R != 0) = true := by simpa using hR
    rw [e2]
    clear e2
    simp only [Bool.not_false, Bool.true_and, if_true, Bool.false_or]
    go_enter Try.func52, Try.ntmps52
    go_wp2_with ((with_reducible refine (cr _).mono ?_); rintro e w' ⟨rfl, rfl⟩)
    go_end0
    refine ⟨rfl, Past.below ?_, ?_, ?_, ?_⟩
    all_goals (repeat (first
      | (with_reducible assumption)
      | (with_reducible apply One.alloc) | (with_reducible apply Tri.alloc) | (with_reducible apply Past.alloc)
      | (with_reducible apply One.set) | (with_reducible apply Tri.set') | (with_reducible apply Past.set (ha := (by dsimp only; omega)))
      | (with_reducible apply One.other' (hd := (by omega))) | (with_reducible apply Tri.other (hd := (by omega)))))
  · have e2 : (!f && (rg == reg && (R != 0))) = false := by
      rw [Bool.eq_false_iff]; intro h; simp at h; exact hit ⟨h.1, h.2.1, h.2.2⟩
    have e4 : (f || (rg == reg && (R != 0))) = f := by cases f <;> simp_all
    rw [e2, e4]
    simp only [Bool.false_eq_true, if_false]
    clear e4
    cases f
    · by_cases hg : rg = reg
      · obtain rfl : R = 0 := by
          by_cases h : R = 0
          · exact h
          · exact absurd ⟨rfl, hg, h⟩ hit
        subst hg
        clear e2 hit
        go_enter Try.func52, Try.ntmps52
        go_wp2_with ((with_reducible refine (cr _).mono ?_); rintro e w' ⟨rfl, rfl⟩)
        go_end0
        refine ⟨rfl, Past.below ?_, ?_, ?_, ?_⟩
        all_goals (repeat (first
          | (with_reducible assumption)
          | (with_reducible apply One.alloc) | (with_reducible apply Tri.alloc) | (with_reducible apply Past.alloc)
          | (with_reducible apply One.set) | (with_reducible apply Tri.set') | (with_reducible apply Past.set (ha := (by dsimp only; omega)))
          | (with_reducible apply One.other' (hd := (by omega))) | (with_reducible apply Tri.other (hd := (by omega)))))
      · have hg' : (rg == reg) = false := by simpa using hg
        clear e2 hit
        go_enter Try.func52, Try.ntmps52
        go_wp2_with ((with_reducible refine (cr _).mono ?_); rintro e w' ⟨rfl, rfl⟩)
        go_end0
        refine ⟨rfl, Past.below ?_, ?_, ?_, ?_⟩
        all_goals (repeat (first
          | (with_reducible assumption)
          | (with_reducible apply One.alloc) | (with_reducible apply Tri.alloc) | (with_reducible apply Past.alloc)
          | (with_reducible apply One.set) | (with_reducible apply Tri.set') | (with_reducible apply Past.set (ha := (by dsimp only; omega)))
          | (with_reducible apply One.other' (hd := (by omega))) | (with_reducible apply Tri.other (hd := (by omega)))))
    · clear e2 hit
      go_enter Try.func52, Try.ntmps52
      go_wp2_with ((with_reducible refine (cr _).mono ?_); rintro e w' ⟨rfl, rfl⟩)
      go_end0
      refine ⟨rfl, Past.below ?_, ?_, ?_, ?_⟩
      all_goals (repeat (first
        | (with_reducible assumption)
        | (with_reducible apply One.alloc) | (with_reducible apply Tri.alloc) | (with_reducible apply Past.alloc)
        | (with_reducible apply One.set) | (with_reducible apply Tri.set') | (with_reducible apply Past.set (ha := (by dsimp only; omega)))
        | (with_reducible apply One.other' (hd := (by omega))) | (with_reducible apply Tri.other (hd := (by omega)))))
end Go.Proofs.Ytpfeiolmkbibiaa
