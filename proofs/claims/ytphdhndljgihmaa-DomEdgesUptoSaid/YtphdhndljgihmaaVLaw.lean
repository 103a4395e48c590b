/- The law's package: jump, Long; what lasts. -/
import Derived.Test.YtphdhndljgihmaaGReach
namespace Go.Proofs.Ytphdhndljgihmaa
open Go.RowKit Go.Maps
set_option linter.unusedVariables false
set_option linter.unusedSimpArgs false

theorem lit_in {α : Type} {cel : α → List Value} {E : Nat → World → α → Prop} (w : World) {g : Nat} (hg : g = w.heap.size) (xs : List α) (t : TypeId) (hx : xs.length ≤ maxLen) {w' : World} (hw : w' = w.alloc (.cells (xs.flatMap cel).toArray t)) (hE : ∀ x ∈ xs, E w'.heap.size w' x) :
    ListIn cel E w'.heap.size w' (some ⟨g, 0, none⟩) xs.length xs.length xs := by
  subst hw
  have B := Box.new w hg (xs.flatMap cel) t
  refine ⟨rfl, Nat.le_refl _, hx, fun j u hu => ⟨⟨g, 0, none⟩, rfl, B.1, ?_⟩, hE⟩
  rw [add0]
  exact B.get j u hu
/-- A block of one instruction, as jump makes it. -/
def jB (op : Int) (p : Option Addr) (n c G : Nat) (ts : List Int) : LB := ⟨some ⟨G, 0, none⟩, 1, 1, [(⟨op, -1, 0, 0, 0, none, 0, 0, p, n, c, []⟩, ts)]⟩
def JumpEnds (op : Int) (p : Option Addr) (n c : Nat) (ts : List Int) (W : World) (e : Ending) (w' : World) : Prop :=
  ∃ G, e = .returned (.agg #[.slice (some ⟨G, 0, none⟩) 1 1]) ∧ Past W.heap.size W w' ∧ BlkIn w'.heap.size w' (jB op p n c G ts)
theorem build_i (w : World) (op : Int) (p : Option Addr) (n c : Nat) : (Instr.build 51 #[(0, .int .i64 op), (1, .int .i64 (-1)), (6, .slice p n c)]).run Try.prog w = .ok (.agg #[.int .i64 op, .int .i64 (-1), .int .i64 0, .int .i64 0, .int .i64 0, .slice none 0 0, .slice p n c]) w := run_build _ _ _ _ (by kernel_rfl)
theorem build_b (w : World) (p : Option Addr) (n c : Nat) : (Instr.build 47 #[(0, .slice p n c)]).run Try.prog w = .ok (.agg #[.slice p n c]) w := run_build _ _ _ _ (by kernel_rfl)
theorem build_f (w : World) (p : Option Addr) (n c : Nat) : (Instr.build 25 #[(3, .slice p n c)]).run Try.prog w = .ok (.agg #[.string { data := #[] }, .slice none 0 0, .int .i64 0, .slice p n c]) w := run_build _ _ _ _ (by kernel_rfl)
theorem build_m (w : World) (p : Option Addr) (n c : Nat) : (Instr.build 72 #[(2, .slice p n c)]).run Try.prog w = .ok (.agg #[.slice none 0 0, .slice none 0 0, .slice p n c]) w := run_build _ _ _ _ (by kernel_rfl)
set_option maxRecDepth 100000 in
set_option maxHeartbeats 1000000 in
theorem jump_any (op : Int) (p : Option Addr) (n c : Nat) (ts : List Int) (W : World) (h : ListIn intC NoMem W.heap.size W p n c ts) :
    Calls Try.prog 30 #[.int .i64 op, .slice p n c] W (JumpEnds op p n c ts W) := by
  have hb1 := fun w => build_i w op p n c
  have hb2 := build_b
  have HH := Lib.hid h
  clear h
  go_enter Try.func30, Try.ntmps30
  go_wp2_with fail
  refine bodyPost_ret (v := .agg #[.slice (some ⟨W.heap.size + 1, 0, none⟩) 1 1]) (by simp [results, Try.results30, go_sem]) rfl ?_
  have hP : Past W.heap.size W ((W.alloc (.cells #[.slice (some ⟨W.heap.size + 1, 0, none⟩) 1 1] 47)).alloc (.cells #[.int .i64 op, .int .i64 (-1), .int .i64 0, .int .i64 0, .int .i64 0, .slice none 0 0, .slice p n c] 51)) := ((Past.refl (Nat.le_refl _)).alloc _).alloc _
  refine ⟨W.heap.size + 1, rfl, hP, ?_⟩
  refine lit_in (cel := liC) (W.alloc (.cells #[.slice (some ⟨W.heap.size + 1, 0, none⟩) 1 1] 47)) (by simp) [(⟨op, -1, 0, 0, 0, none, 0, 0, p, n, c, []⟩, ts)] 51 (show 1 ≤ maxLen by decide) rfl (fun x hx => ?_)
  obtain rfl := List.mem_singleton.1 hx
  exact ⟨in_nilG _ _, (HH.out.lasts lasts_NoMem hP.2 hP.size)⟩
/-- What lasts. -/
def Hold (F : List (World → Prop)) (w : World) : Prop := ∀ Q ∈ F, ∀ u, Below w.heap.size w u → Q u
theorem Hold.nil (w : World) : Hold [] w := fun Q hQ => absurd hQ (by simp)
theorem Hold.later {F : List (World → Prop)} {w w' : World} (h : Hold F w) (hb : Below w.heap.size w w') : Hold F w' := fun Q hQ u hu => h Q hQ u (hb.trans (hu.mono hb.size))
theorem Hold.alloc {F : List (World → Prop)} {w : World} (h : Hold F w) (o : Obj) : Hold F (w.alloc o) := h.later ((Below.refl _ _).alloc (Nat.le_refl _) o)
theorem Hold.drew {F : List (World → Prop)} {w : World} (h : Hold F w) : Hold F w.drew := h.later (below_drew (Below.refl _ _))
theorem Hold.cons {F : List (World → Prop)} {Q : World → Prop} {w w' : World} (h : Hold F w) (hb : Below w.heap.size w w') (hq : ∀ u, Below w'.heap.size w' u → Q u) : Hold (Q :: F) w' := fun R hR => by
  rcases List.mem_cons.1 hR with rfl | hR
  · exact hq
  · exact h.later hb R hR
theorem Hold.get {F : List (World → Prop)} {w : World} (h : Hold F w) (Q : World → Prop) (hQ : Q ∈ F) : Q w := h Q hQ w (Below.refl _ _)
theorem BlkIn.all {w : World} {b : LB} (h : BlkIn w.heap.size w b) : ∀ u, Below w.heap.size w u → BlkIn u.heap.size u b := fun u hu => lasts_Blk _ _ _ _ _ hu hu.size h
theorem ListIn.all {w : World} {p : Option Addr} {n c : Nat} {xs : List Int} (h : ListIn intC NoMem w.heap.size w p n c xs) : ∀ u, Below w.heap.size w u → ListIn intC NoMem u.heap.size u p n c xs := fun u hu => h.lasts lasts_NoMem hu hu.size
theorem FnIn.all {w : World} {f : LFn} (h : FnIn w.heap.size w f) : ∀ u, Below w.heap.size w u → FnIn u.heap.size u f := fun u hu => lasts_Fn _ _ _ _ _ hu hu.size h
theorem Long_any (f : LFn) (W : World) (h : FnIn W.heap.size W f) (hbs : f.bs.length ≤ 1048576) :
    Calls Try.prog 31 #[.agg (fnC f).toArray] W (SomeBool W) := by
  have hbm := build_m
  have cF := fun (w : World) (m : LMod) (hm : ModIn w.heap.size w m) => Few_any m 5000 w hm
  have hP := (Past.refl (Nat.le_refl W.heap.size)).alloc (.cells (fnC f).toArray 25)
  have A1 : Box W.heap.size (fnC f) (W.alloc (.cells (fnC f).toArray 25)) := Box.new W rfl _ _
  have P2 := hP.alloc (.cells (fnC f).toArray 25)
  have hM : ModIn ((W.alloc (.cells (fnC f).toArray 25)).alloc (.cells (fnC f).toArray 25)).heap.size ((W.alloc (.cells (fnC f).toArray 25)).alloc (.cells (fnC f).toArray 25)) ⟨none, 0, 0, [], none, 0, 0, [], some ⟨W.heap.size + 1, 0, none⟩, 1, 1, [f]⟩ := by
    refine ⟨in_nilG _ _, in_nilG _ _, ?_⟩
    refine lit_in (cel := fnC) (W.alloc (.cells (fnC f).toArray 25)) (by simp) [f] 25 (show 1 ≤ maxLen by decide) (by simp) (fun x hx => ?_)
    obtain rfl := List.mem_singleton.1 hx
    exact past_lasts lasts_Fn h P2
  have c1 := cF _ _ hM
  obtain ⟨nm, pp, pn, pc, ps, rt, bp, bn, bc, bs⟩ := f
  obtain rfl : bn = bs.length := h.2.1
  show Calls Try.prog 31 #[.agg #[.string nm, .slice pp pn pc, .int .i64 rt, .slice bp bs.length bc]] W _
  have hfc : fnC ⟨nm, pp, pn, pc, ps, rt, bp, bs.length, bc, bs⟩ = [.string nm, .slice pp pn pc, .int .i64 rt, .slice bp bs.length bc] := rfl
  rw [hfc] at A1 hP P2
  simp only [hfc, modC] at c1
  have a0 := A1.get 0 _ rfl
  have a1 := A1.get 1 _ rfl
  have a2 := A1.get 2 _ rfl
  have a3 := A1.get 3 _ rfl
  have HP := Lib.hid (And.intro hP P2)
  clear A1 hP P2 hM cF h hfc
  go_enter Try.func31, Try.ntmps31
  by_cases h0 : 80 < bs.length
  · have hd : decide ((80 : Int) < (bs.length : Int)) = true := by simp; omega
    clear h0 c1
    go_wp2_with fail
    go_ret
    exact ⟨true, rfl, HP.out.1.2⟩
  · have hd : decide ((80 : Int) < (bs.length : Int)) = false := by simp; omega
    clear h0
    go_wp2_with fail
    refine c1.mono ?_
    rintro e w1 ⟨b, rfl, hb⟩
    clear c1 a0 a1 a2 a3
    go_wp2_with fail
    go_ret
    exact ⟨_, rfl, HP.out.2.2.trans (hb.mono HP.out.2.size)⟩
end Go.Proofs.Ytphdhndljgihmaa
