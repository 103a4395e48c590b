/- The law's package: lives. -/
import Derived.Test.YtdfdgpobohpphaaUsJ
namespace Go.Proofs.Ytdfdgpobohpphaa
open Go.RowKit Go.Maps
set_option linter.unusedVariables false
set_option linter.unusedSimpArgs false
set_option maxRecDepth 100000
set_option maxHeartbeats 2000000

theorem lit_in {α : Type} {cel : α → List Value} {E : Nat → World → α → Prop} (w : World) {g : Nat} (hg : g = w.heap.size) (xs : List α) (t : TypeId) (hx : xs.length ≤ maxLen) {w' : World} (hw : w' = w.alloc (.cells (xs.flatMap cel).toArray t)) (hE : ∀ x ∈ xs, E w'.heap.size w' x) :
    ListIn cel E w'.heap.size w' (some ⟨g, 0, none⟩) xs.length xs.length xs := by
  subst hw
  have B := Box.new w hg (xs.flatMap cel) t
  refine ⟨rfl, Nat.le_refl _, hx, fun j u hu => ⟨⟨g, 0, none⟩, rfl, B.1, ?_⟩, hE⟩
  rw [add0]
  exact B.get j u hu
/-- A block of one instruction, as jump makes it. -/
def jB (op : Int) (p : Option Addr) (n c G : Nat) (ts : List Int) : LB := ⟨some ⟨G, 0, none⟩, 1, 1, [(⟨op, -1, 0, 0, 0, none, 0, 0, p, n, c, []⟩, ts)]⟩
def JumpEnds (op : Int) (p : Option Addr) (n c : Nat) (ts : List Int) (W : World) (e : Ending) (w' : World) : Prop :=
  ∃ G, e = .returned (.agg #[.slice (some ⟨G, 0, none⟩) 1 1]) ∧ Past W.heap.size W w' ∧ BlkIn w'.heap.size w' (jB op p n c G ts)
theorem build_i (w : World) (op : Int) (p : Option Addr) (n c : Nat) : (Instr.build 46 #[(0, .int .i64 op), (1, .int .i64 (-1)), (6, .slice p n c)]).run Try.prog w = .ok (.agg #[.int .i64 op, .int .i64 (-1), .int .i64 0, .int .i64 0, .int .i64 0, .slice none 0 0, .slice p n c]) w := run_build _ _ _ _ (by kernel_rfl)
theorem build_b (w : World) (p : Option Addr) (n c : Nat) : (Instr.build 43 #[(0, .slice p n c)]).run Try.prog w = .ok (.agg #[.slice p n c]) w := run_build _ _ _ _ (by kernel_rfl)
def i0L (g : Nat) : LI := (⟨24, 0, 8, 0, 0, some ⟨g, 0, none⟩, 1, 1, none, 0, 0, [⟨3, 0, 0⟩]⟩, [])
def i1L : LI := (⟨33, -1, 0, 0, 0, none, 0, 0, none, 0, 0, []⟩, [])
def f0L (g : Nat) : LFn := ⟨⟨#[]⟩, none, 0, 0, [], 0, some ⟨g + 1 + 1, 0, none⟩, 1, 1, [⟨some ⟨g + 1, 0, none⟩, 2, 2, [i0L g, i1L]⟩]⟩
theorem in_nilU {α : Type} {cel : α → List Value} {E : Nat → World → α → Prop} (B : Nat) (w : World) : ListIn cel E B w none 0 0 [] := ⟨rfl, Nat.le_refl _, Nat.zero_le _, fun j u hu => by simp at hu, fun x hx => by cases hx⟩
theorem f0L_in (W : World) : FnIn ((((W.alloc (.cells #[.int .i64 3, .int .i64 0, .int .u64 0] 49)).alloc (.cells #[.int .i64 24, .int .i64 0, .int .i64 8, .int .i64 0, .int .i64 0, .slice (some ⟨W.heap.size, 0, none⟩) 1 1, .slice none 0 0, .int .i64 33, .int .i64 (-1), .int .i64 0, .int .i64 0, .int .i64 0, .slice none 0 0, .slice none 0 0] 46)).alloc (.cells #[.slice (some ⟨W.heap.size + 1, 0, none⟩) 2 2] 43))).heap.size
    (((W.alloc (.cells #[.int .i64 3, .int .i64 0, .int .u64 0] 49)).alloc (.cells #[.int .i64 24, .int .i64 0, .int .i64 8, .int .i64 0, .int .i64 0, .slice (some ⟨W.heap.size, 0, none⟩) 1 1, .slice none 0 0, .int .i64 33, .int .i64 (-1), .int .i64 0, .int .i64 0, .int .i64 0, .slice none 0 0, .slice none 0 0] 46)).alloc (.cells #[.slice (some ⟨W.heap.size + 1, 0, none⟩) 2 2] 43)) (f0L W.heap.size) := by
  refine ⟨in_nilU _ _, ?_⟩
  refine lit_in (cel := blkC) _ (by simp) (f0L W.heap.size).bs 43 (show 1 ≤ maxLen by decide) rfl (fun x hx => ?_)
  obtain rfl := List.mem_singleton.1 hx
  refine lasts_Blk _ _ _ _ _ ((Below.refl _ _).alloc (Nat.le_refl _) _) (by simp) (lit_in (cel := liC) _ (by simp) [i0L W.heap.size, i1L] 46 (show 2 ≤ maxLen by decide) rfl (fun x hx => ?_))
  simp only [List.mem_cons, List.not_mem_nil, or_false] at hx
  rcases hx with rfl | rfl
  · exact lasts_Ins _ _ _ _ _ ((Below.refl _ _).alloc (Nat.le_refl _) _) (by simp) ⟨lit_in (cel := argC) W rfl [⟨3, 0, 0⟩] 49 (show 1 ≤ maxLen by decide) rfl (fun _ _ => trivial), in_nilU _ _⟩
  · exact ⟨in_nilU _ _, in_nilU _ _⟩
theorem f0L_wf (g : Nat) : FnWf (f0L g) := by
  intro c hc x hx
  obtain rfl := List.mem_singleton.1 hc
  simp only [List.mem_cons, List.not_mem_nil, or_false] at hx
  rcases hx with rfl | rfl
  · exact ⟨rfl, fun a ha => by obtain rfl := List.mem_singleton.1 ha; rfl⟩
  · exact ⟨rfl, fun a ha => by cases ha⟩
def cs0 : List (List Nf) := nfs (fnD (f0L 0))
theorem cs0_eq (g : Nat) : nfs (fnD (f0L g)) = cs0 := rfl
theorem need1 : Need cs0.flatten 1 := .busy 1 (nfP (insD i1L)) rfl rfl
theorem need0 : ¬ Need cs0.flatten 0 := by
  intro h
  cases h with
  | busy _ x e hi =>
    have e1 : cs0.flatten[0]? = some (nfP (insD (i0L 0))) := rfl
    rw [e1] at e
    injection e with e
    rw [← e] at hi
    cases hi
  | used _ j x y e hr hj ey hu =>
    have hlt := hj.lt
    have hlen : cs0.flatten.length = 2 := rfl
    have key : ∀ z ∈ cs0.flatten, ∀ r, z.use r = false := by
      intro z hz r
      have hz : z ∈ [nfP (insD (i0L 0)), nfP (insD i1L)] := hz
      simp only [List.mem_cons, List.not_mem_nil, or_false] at hz
      rcases hz with rfl | rfl
      · rfl
      · rfl
    rw [key y (List.mem_of_getElem? ey)] at hu
    cases hu
theorem ndT0 : ndT cs0 = [[false, true]] := by
  have h0 := ndF_not.2 need0
  have h1 := ndF_iff.2 need1
  show [[ndF cs0.flatten (base cs0 0 + 0), ndF cs0.flatten (base cs0 0 + 1)]] = _
  rw [base_zero, Nat.zero_add, Nat.zero_add, h0, h1]
theorem clF0 (g : Nat) : (clF (fnD (f0L g))).bs = [[insD i1L]] := by
  have h0 := ndF_not.2 need0
  have h1 := ndF_iff.2 need1
  show cut (ndF cs0.flatten) 0 [[insD (i0L g), insD i1L]] = _
  show [sel (ndF cs0.flatten) 0 [insD (i0L g), insD i1L]] = _
  show [if ndF cs0.flatten 0 then insD (i0L g) :: (if ndF cs0.flatten 1 then insD i1L :: [] else []) else (if ndF cs0.flatten 1 then insD i1L :: [] else [])] = _
  rw [h0, h1]
  rfl
theorem flat_located (y : LFn) : (located y.bs).flatten.length = (fnD y).bs.flatten.length := by
  obtain ⟨nm, pp, pn, pc, ps, rt, bp, bn, bc, bs⟩ := y
  unfold located fnD
  simp only
  induction bs with
  | nil => rfl
  | cons c bs ih => simp only [List.map_cons, List.flatten_cons, List.length_append, ih, blkD, List.length_map]
theorem lives_any (W : World) : Calls Try.prog 5 #[] W fun e w' => e = .returned (.bool true) ∧ Below W.heap.size W w' := by
  go_enter Try.func5, Try.ntmps5
  go_wp2_with fail
  have hin0 := f0L_in W
  obtain ⟨W3, eW3⟩ : ∃ W3, W3 = (((W.alloc (.cells #[.int .i64 3, .int .i64 0, .int .u64 0] 49)).alloc (.cells #[.int .i64 24, .int .i64 0, .int .i64 8, .int .i64 0, .int .i64 0, .slice (some ⟨W.heap.size, 0, none⟩) 1 1, .slice none 0 0, .int .i64 33, .int .i64 (-1), .int .i64 0, .int .i64 0, .int .i64 0, .slice none 0 0, .slice none 0 0] 46)).alloc (.cells #[.slice (some ⟨W.heap.size + 1, 0, none⟩) 2 2] 43)) := ⟨_, rfl⟩
  have hz3 : W3.heap.size = W.heap.size + 1 + 1 + 1 := by rw [eW3]; simp
  have hb3 : Below W.heap.size W W3 := by rw [eW3]; exact (((Below.refl _ _).alloc (Nat.le_refl _) _).alloc (by simp) _).alloc (by simp; omega) _
  rw [← eW3] at hin0
  rw [← eW3]
  clear eW3
  obtain ⟨W4, eW4⟩ : ∃ W4, W4 = W3.alloc (.cells #[.string ⟨#[]⟩, .slice none 0 0, .int .i64 0, .slice (some ⟨W.heap.size + 1 + 1, 0, none⟩) 1 1] 25) := ⟨_, rfl⟩
  have hb4 : Below W3.heap.size W3 W4 := by rw [eW4]; exact (Below.refl _ _).alloc (Nat.le_refl _) _
  have hx4 : Box (W.heap.size + 1 + 1 + 1) [.string ⟨#[]⟩, .slice none 0 0, .int .i64 0, .slice (some ⟨W.heap.size + 1 + 1, 0, none⟩) 1 1] W4 := by rw [eW4]; exact Box.new W3 hz3.symm _ _
  have hin : FnIn W4.heap.size W4 (f0L W.heap.size) := lasts_Fn _ _ _ _ _ hb4 hb4.size hin0
  have hbb : Below W.heap.size W W4 := hb3.trans (hb4.mono hb3.size)
  rw [← eW4]
  have hN : Calls Try.prog 8 #[.agg #[.string ⟨#[]⟩, .slice none 0 0, .int .i64 0, .slice (some ⟨W.heap.size + 1 + 1, 0, none⟩) 1 1]] W4 (NeedEnds cs0 W4) := Needed_any (f0L W.heap.size) W4 hin (f0L_wf _) (show 5 ≤ 1048576 by decide)
  have hC := fun (w : World) (hb : Below W4.heap.size W4 w) => Clean_any (f0L W.heap.size) w (lasts_Fn _ _ _ _ _ hb hb.size hin) (f0L_wf _) (show 5 ≤ 1048576 by decide)
  have H := Lib.hid (And.intro hbb (And.intro hx4 hC))
  clear hin0 hz3 hb3 hb4 eW4 hin hbb hC hx4
  refine hN.mono ?_
  rintro e w5 ⟨p, c, L, rfl, htb, hS⟩
  clear hN
  rw [ndT0] at htb
  obtain ⟨g, rfl⟩ : ∃ g, L = [(g, [false, true])] := by
    match L, htb with
    | [], h => cases h
    | [(g, bs)], h =>
      unfold tbl at h
      simp only [List.map_cons, List.map_nil, List.cons.injEq, and_true] at h
      exact ⟨g, by rw [h]⟩
    | x :: y :: r, h => unfold tbl at h; simp at h
  have hrow : rowP W4.heap.size 36 1 cB p 1 c [(g, [false, true])] w5 := hS.sat.1
  obtain ⟨R, rfl, _, hRl, hc1, hc2, hcell⟩ := row_cell hrow (fun _ => rfl) 0 (by simp)
  have r0 : w5.cell? ⟨R, 0, none⟩ = some (.slice (some ⟨g, 0, none⟩) 2 2) := by
    have := hcell 0 (by decide)
    simpa [cB] using this
  have hbr : BoolRow g [false, true] w5 := hS.sat.2.1
  have v0 : w5.cell? ⟨g, 0, none⟩ = some (.bool false) := hbr.cell 0 (by simp)
  have v1 : w5.cell? ⟨g, 1, none⟩ = some (.bool true) := hbr.cell 1 (by simp)
  have hx5 := H.out.2.1.later hS.below
  have x0 := hx5.get 0 _ rfl
  have x1 := hx5.get 1 _ rfl
  have x2 := hx5.get 2 _ rfl
  have x3 := hx5.get 3 _ rfl
  have hCl : Calls Try.prog 10 #[.agg #[.string ⟨#[]⟩, .slice none 0 0, .int .i64 0, .slice (some ⟨W.heap.size + 1 + 1, 0, none⟩) 1 1]] w5 _ := H.out.2.2 w5 hS.below
  have HB := Lib.hid hS.below
  simp only [List.length_cons, List.length_nil] at hc1
  clear hS hrow hcell hbr hx5 htb
  go_wp2_with (first | ((with_reducible refine hCl.mono ?_); rintro e w6 ⟨y, a, b, rfl, hy, hb6, ho6, ha6, hb7⟩))
  have hlies := FnOwn.lies hb7 ho6
  have hT : (located y.bs).flatten.length = 1 := by
    rw [flat_located, hy, clF0]; rfl
  obtain ⟨nm, pp, pn, pc, ps, rt, bp, bn, bc, bs⟩ := y
  have hz6 := hb6.size
  have hS := Size_any w6.heap.size (located bs) w6 (.string nm) (.slice pp pn pc) rt nm pp pn pc bp bn bc (Nat.le_refl _) (blocksAt_in hlies.2) 1 hT (by decide)
  have HE := Lib.hid (And.intro (H.out.1.trans (HB.out.mono H.out.1.size)) (And.intro hb6 hz6))
  clear hlies hT hy hb6 ho6 ha6 hb7 hz6 r0 v0 v1 x0 x1 x2 x3
  refine hS.mono ?_
  rintro e w7 ⟨rfl, hb8⟩
  have H8 := Lib.hid hb8
  clear hS hb8
  go_wp2_with fail
  go_ret
  exact ⟨rfl, (HE.out.1.trans (HE.out.2.1.mono HE.out.1.size)).trans (H8.out.mono (Nat.le_trans HE.out.1.size HE.out.2.2))⟩
end Go.Proofs.Ytdfdgpobohpphaa
