/- For any instruction: what package ir tells of it and of its operation is what the document's own answers say: lathelaw02.IrAsks returns true, and leaves its argument as it was. No conditions. -/
import Derived.Test.YtpfeiolmkbibiaaRows
import Derived.WalkKit
import Derived.ProofKit
import Derived.OpenShut
import Derived.Below
import Derived.ChangeSame
import Derived.WideKeyArgs
import Derived.Deep.Slices
import Derived.Deep.Fields
import Derived.Lib.SmallJoins
import Derived.Deep.RegionHeld3
import Derived.Deep.DeepCutAuto
import Derived.Test.YtpfeiolmkbibiaaIrJ
namespace Go.Proofs.Ytpfeiolmkbibiaa.irAsks
open Go.Joins Go.ChangeShapes Go.WideShapes Go.ChangeAt Go.RowKit Go.Deep
set_option linter.unusedVariables false
set_option linter.unusedSimpArgs false

theorem own : ownKnob Try.prog.godebug = none := by kernel_rfl
theorem laidOut : laidOutB Try.prog = true := by kernel_rfl

set_option maxHeartbeats 2000000 in
theorem walk (op rg ty n fl : Int) (ap tp : Option Addr) (al ac tl tc : Nat) (W : World) :
    Calls Try.prog 3 #[.agg #[.int .i64 op, .int .i64 rg, .int .i64 ty, .int .i64 n, .int .i64 fl, .slice ap al ac, .slice tp tl tc]] W fun e w' => e = .returned (.bool true) ∧ Below W.heap.size W w' := by
  have cl := lives_any
  have c1 := fun W => Result_any op rg ty n fl ap tp al ac tl tc W
  have c2 := fun W => rResult_any op rg ty n fl ap tp al ac tl tc W
  have c3 := Ends_any op
  have c4 := rEnds_any op
  have c5 := Idle_any op
  have c6 := rIdle_any op
  have c7 := Calm_any op
  have c8 := rCalm_any op
  generalize resV op ty = R at *
  generalize endsB op = E at *
  generalize idleB op = I at *
  generalize calmB op = C at *
  have hP : Past W.heap.size W (W.alloc (.cells #[.int .i64 op, .int .i64 rg, .int .i64 ty, .int .i64 n, .int .i64 fl, .slice ap al ac, .slice tp tl tc] 25)) := (Past.refl (Nat.le_refl _)).alloc _
  go_enter Try.func3, Try.ntmps3
  go_upto_region 3 with (first
    | ((with_reducible refine (cl _).mono ?_); rintro e w1 ⟨rfl, hb1⟩
       (have hz1 : W.heap.size < w1.heap.size := by have := hb1.size; simp at this; omega
        have P1 := hP.trans ⟨hP.size, hb1.mono hP.size⟩
        have y0 : w1.cell? ⟨W.heap.size, 0, none⟩ = some (.int .i64 op) := (hb1.cell (p := ⟨W.heap.size, 0, none⟩) (by simp)).trans (by rw [World.cell?_alloc_at _ _ _ _ rfl]; rfl)
        have y1 : w1.cell? ⟨W.heap.size, 1, none⟩ = some (.int .i64 rg) := (hb1.cell (p := ⟨W.heap.size, 1, none⟩) (by simp)).trans (by rw [World.cell?_alloc_at _ _ _ _ rfl]; rfl)
        have y2 : w1.cell? ⟨W.heap.size, 2, none⟩ = some (.int .i64 ty) := (hb1.cell (p := ⟨W.heap.size, 2, none⟩) (by simp)).trans (by rw [World.cell?_alloc_at _ _ _ _ rfl]; rfl)
        have y3 : w1.cell? ⟨W.heap.size, 3, none⟩ = some (.int .i64 n) := (hb1.cell (p := ⟨W.heap.size, 3, none⟩) (by simp)).trans (by rw [World.cell?_alloc_at _ _ _ _ rfl]; rfl)
        have y4 : w1.cell? ⟨W.heap.size, 4, none⟩ = some (.int .i64 fl) := (hb1.cell (p := ⟨W.heap.size, 4, none⟩) (by simp)).trans (by rw [World.cell?_alloc_at _ _ _ _ rfl]; rfl)
        have y5 : w1.cell? ⟨W.heap.size, 5, none⟩ = some (.slice ap al ac) := (hb1.cell (p := ⟨W.heap.size, 5, none⟩) (by simp)).trans (by rw [World.cell?_alloc_at _ _ _ _ rfl]; rfl)
        have y6 : w1.cell? ⟨W.heap.size, 6, none⟩ = some (.slice tp tl tc) := (hb1.cell (p := ⟨W.heap.size, 6, none⟩) (by simp)).trans (by rw [World.cell?_alloc_at _ _ _ _ rfl]; rfl)
        have hz2 : W.heap.size < w1.heap.size + 1 := by omega
        have hz3 : W.heap.size < w1.heap.size + 1 + 1 := by omega)))
  have hzW : W.heap.size ≤ w1.heap.size := by omega
  have dr : ∀ a, w1.drew.cell? a = w1.cell? a := fun _ => rfl
  have drs : w1.drew.heap.size = w1.heap.size := rfl
  go_region_held3 (fun w' => w'.cell? ⟨W.heap.size, 0, none⟩ = some (.int .i64 op) ∧ w'.cell? ⟨W.heap.size, 1, none⟩ = some (.int .i64 rg) ∧ w'.cell? ⟨W.heap.size, 2, none⟩ = some (.int .i64 ty) ∧ w'.cell? ⟨W.heap.size, 3, none⟩ = some (.int .i64 n) ∧ w'.cell? ⟨W.heap.size, 4, none⟩ = some (.int .i64 fl) ∧ w'.cell? ⟨W.heap.size, 5, none⟩ = some (.slice ap al ac) ∧ w'.cell? ⟨W.heap.size, 6, none⟩ = some (.slice tp tl tc) ∧ W.heap.size < w'.heap.size)
    (((try dsimp only); (repeat' apply And.intro) <;> (first | (with_reducible assumption) | ((repeat (first | rw [World.cell?_drew] | rw [World.cell?_alloc_past _ _ _ (by first | omega | (simp <;> omega))])); with_reducible assumption) | (simp <;> omega))))
    (first
      | ((with_reducible refine (c1 _).mono ?_); rintro e w' ⟨rfl, rfl⟩)
      | ((with_reducible refine (c2 _).mono ?_); rintro e w' ⟨rfl, rfl⟩)
      | ((with_reducible refine (c3 _).mono ?_); rintro e w' ⟨rfl, rfl⟩)
      | ((with_reducible refine (c4 _).mono ?_); rintro e w' ⟨rfl, rfl⟩)
      | ((with_reducible refine (c5 _).mono ?_); rintro e w' ⟨rfl, rfl⟩)
      | ((with_reducible refine (c6 _).mono ?_); rintro e w' ⟨rfl, rfl⟩)
      | ((with_reducible refine (c7 _).mono ?_); rintro e w' ⟨rfl, rfl⟩)
      | ((with_reducible refine (c8 _).mono ?_); rintro e w' ⟨rfl, rfl⟩))
  all_goals (try go_wp2)
  all_goals go_ret
  all_goals
    refine ⟨by first | rfl | (simp; done), Past.below ?_⟩
    repeat (first | (with_reducible assumption) | (with_reducible apply Past.drew) | (with_reducible apply Past.alloc))

section
variable {H : Type} {enc : TypeId × Value → H} {w : World} {base : Nat} {spare : Nat → Bool} {held : Bool}
theorem one_int {n : Nat} {c : Value} {y : DataW H × List MemPlace} (h : DataW.trod enc Try.prog w base spare held n 3 [c] = some y) : ∃ k : Int, c = .int .i64 k := by
  obtain ⟨k, h1, _, _⟩ := DataW.trod_int Try.underlying3 h
  exact ⟨k, (List.cons.inj h1).1⟩
theorem one_slice {t e : TypeId} (ht : Try.prog.underlying t = some (.slice e)) {n : Nat} {c : Value} {y : DataW H × List MemPlace} (h : DataW.trod enc Try.prog w base spare held n t [c] = some y) : ∃ (p : Option Addr) (l k : Nat), c = .slice p l k := by
  rcases open_slice ht h with ⟨h0, _⟩ | ⟨a, len, cap, _, _, _, _, h0, _⟩
  · exact ⟨none, 0, 0, (List.cons.inj h0).1⟩
  · exact ⟨some a, len, cap, (List.cons.inj h0).1⟩
theorem cells25 : Try.prog.cellsOf 25 = 7 := by kernel_rfl
theorem cells3 : Try.prog.cellsOf 3 = 1 := by kernel_rfl
theorem cells22 : Try.prog.cellsOf 22 = 1 := by kernel_rfl
theorem cells23 : Try.prog.cellsOf 23 = 1 := by kernel_rfl
set_option maxRecDepth 100000 in
/-- An argument that is an instruction: its shape. -/
theorem instr_shape {r : Reach} {b0 : Nat} {v : Value} {d : DataW H} {p : List MemPlace} (hv : Value.okWide Try.prog w r b0 25 v) (h : DataW.Trod enc Try.prog w base spare held 25 v d p) :
    ∃ (op rg ty n fl : Int) (ap tp : Option Addr) (al ac tl tc : Nat), v = .agg #[.int .i64 op, .int .i64 rg, .int .i64 ty, .int .i64 n, .int .i64 fl, .slice ap al ac, .slice tp tl tc] := by
  obtain ⟨cs, rfl, hsz⟩ := okWide_struct Try.underlying25 hv
  have hC := cells25
  have c3 := cells3
  have c22 := cells22
  have c23 := cells23
  obtain ⟨l⟩ := cs
  match l, hsz.trans hC with
  | [v0, v1, v2, v3, v4, v5, v6], _ =>
    obtain ⟨fuel, hf⟩ := h
    obtain ⟨xs, n, _, hx, _, hlen, hg⟩ := DataW.trod_struct Try.underlying25 hf
    match xs, hlen with
    | [y0, y1, y2, y3, y4, y5, y6], _ =>
      have g0 := hg 0 _ rfl
      have g1 := hg 1 _ rfl
      have g2 := hg 2 _ rfl
      have g3 := hg 3 _ rfl
      have g4 := hg 4 _ rfl
      have g5 := hg 5 _ rfl
      have g6 := hg 6 _ rfl
      simp [Value.cells, c3, c22, c23] at g0 g1 g2 g3 g4 g5 g6
      obtain ⟨k0, rfl⟩ := one_int g0
      obtain ⟨k1, rfl⟩ := one_int g1
      obtain ⟨k2, rfl⟩ := one_int g2
      obtain ⟨k3, rfl⟩ := one_int g3
      obtain ⟨k4, rfl⟩ := one_int g4
      obtain ⟨p5, l5, m5, rfl⟩ := one_slice Try.underlying22 g5
      obtain ⟨p6, l6, m6, rfl⟩ := one_slice Try.underlying23 g6
      exact ⟨k0, k1, k2, k3, k4, p5, p6, l5, m5, l6, m6, rfl⟩
end

/-- How a law's row ends where the call has made memory and has turned nothing that was there. -/
theorem ends_below {H : Type} {enc : TypeId × Value → H} {P : Program} {f : Func} {s : ChangeSpec} {apart fresh handsOn again : Bool} {W W' : World} {args : Array Value} {v : Value} {ds gs : List (DataW H)} {pa pv : List MemPlace}
    (hW : DataW.Whole enc P f.params.toList s.vars apart W args.toList ds gs (pa ++ pv)) (hb : Below W.heap.size W W')
    (hres : ∀ (b : Nat) (sp : Nat → Bool) (hd : Bool), DataW.TrodAll enc P W' b sp hd f.resultTypes.toList (v.resultList f.resultTypes.size) (s.fn H (ds ++ gs)).results [])
    (hargs : ∀ sp : Nat → Bool, (∀ p ∈ pa, sp p.block = true) → DataW.TrodAll enc P W' 0 sp true f.params.toList args.toList (s.fn H (ds ++ gs)).args pa)
    (hvars : ∀ sp : Nat → Bool, (∀ p ∈ pv, sp p.block = true) → DataW.TrodVars enc P W' sp s.vars (s.fn H (ds ++ gs)).vars pv)
    (hok : ∀ (j : Nat) (t : TypeId) (r : Value), f.resultTypes[j]? = some t → (v.resultList f.resultTypes.size)[j]? = some r → Value.okWide P W' .any 0 t r) :
    s.post enc P f apart fresh handsOn again W args v W' := by
  have low : ∀ x ∈ pa ++ pv, x.block < W.heap.size := fun x hx => hW.lt x hx
  have lowa : ∀ x ∈ pa, decide (x.block < W.heap.size) = true := fun x hx => decide_eq_true (low x (List.mem_append_left _ hx))
  have lowv : ∀ x ∈ pv, decide (x.block < W.heap.size) = true := fun x hx => decide_eq_true (low x (List.mem_append_right _ hx))
  refine ⟨ds, gs, pa ++ pv, [], pa, pv, hW, hres _ _ _, hargs (fun b => decide (b < W.heap.size)) lowa, hvars (fun b => decide (b < W.heap.size)) lowv,
    World.keptBut_mono (fun x hx => ⟨hx, Or.inr (List.mem_append.1 hx)⟩) (hb.frame (· ∈ pa ++ pv)), fun _ => ?_⟩
  obtain ⟨_, _, _, _, _, hz, hn⟩ := hW
  refine ⟨hok, _, _, ([] ++ pa) ++ pv, ⟨[] ++ pa, pv, trodAll_append (hargs _ (fun _ _ => rfl)) (hres _ _ _), hvars _ (fun _ _ => rfl), rfl, fun b off hx => ?_, fun ha => ?_⟩, fun x hx _ => ?_⟩
  · have hin : MemPlace.cell b off ∈ pa ++ pv := by simpa using hx
    exact (hb.frozen (low _ hin)).trans (hz b off hin)
  · simpa using hn ha
  · simpa using hx

set_option maxRecDepth 100000 in
theorem lifted (os : Os) (started : os.Started) (H : Type) (enc : TypeId × Value → H) :
    ReturnsInHanded {} Try.checked os 3 .any (Rows.irAsksSpec.pre6 enc Try.prog Try.f3 Rows.irAsksRow.domain false) (Rows.irAsksSpec.post enc Try.prog Try.f3 false true false false) := by
  refine returnsInHanded_of_change (C := Try.checked) own started (by kernel_rfl) Try.func3
    (ChangeSpec.witness6 (enc := enc) (C := Try.checked) false ⟨#[], #[.agg #[.int .i64 0, .int .i64 0, .int .i64 0, .int .i64 0, .int .i64 0, .slice none 0 0, .slice none 0 0]], []⟩ 8 (by kernel_rfl) (by kernel_rfl) (by kernel_rfl) (by kernel_rfl)) ?_
  intro W base args ds gs before hval0 hW hcnd _
  have hval : ∀ (j : Nat) t v, Try.f3.params[j]? = some t → args[j]? = some v → Value.okWide Try.prog W .any base t v := hval0
  have hW' := hW
  obtain ⟨p, q, hA0, hV, rfl, hfz, hnd⟩ := hW
  have hA : DataW.TrodAll enc Try.prog W 0 (fun _ => true) true Try.f3.params.toList args.toList ds p := hA0
  rw [Try.params3] at hA hval
  obtain ⟨v0, d0, rfl, rfl, h0⟩ := trodAll_one hA
  obtain ⟨rfl, rfl⟩ := trodVars_none hV
  clear hA0 hval0
  have low : ∀ x ∈ p, x.block < W.heap.size := fun x hx => hW'.lt x (List.mem_append_left _ hx)
  have again : ∀ (W' : World) (sp : Nat → Bool), Below W.heap.size W W' → (∀ x ∈ p, sp x.block = true) → DataW.Trod enc Try.prog W' 0 sp true 25 v0 d0 p := fun W' sp hb hs =>
    WideElems.Trod_stays laidOut (by kernel_rfl) (of_decide_eq_true (by kernel_rfl)) h0 (fun x hx => hb.same (low x hx)) hs
  obtain ⟨op, rg, ty, n, fl, ap, tp, al, ac, tl, tc, rfl⟩ := instr_shape (hval 0 25 v0 rfl rfl) h0
  refine (walk op rg ty n fl ap tp al ac tl tc W).mono fun e W' ⟨he, hb⟩ => ?_
  subst he
  exact ⟨_, rfl, ends_below (pv := []) hW' hb (fun _ _ _ => (trodAll_cons_mk (shut_bool Try.underlying4 _) trodAll_mk0)) (fun sp hs => trodAll_mk1 (again W' sp hb hs)) (fun _ _ => rfl)
    (ok_one (by kernel_rfl) rfl (okWide_bool_mk Try.underlying4 _))⟩

theorem over : Rows.irAsksRow.holds Try.pinned (OpenSpec.ofChange Rows.irAsksSpec) :=
  OpenClaim.holds_of_wide 3 Try.f3 rfl rfl rfl rfl rfl rfl rfl ⟨rfl, rfl, rfl, rfl, rfl⟩ rfl rfl rfl rfl rfl (by kernel_rfl) Try.func3 (by kernel_rfl)
    (of_decide_eq_true (by kernel_rfl)) (by unfold Func.isWrapper; first | (rw [if_pos (by decide +kernel)]; kernel_rfl) | (rw [if_neg (by decide +kernel)]; exact ⟨rfl, rfl⟩))
    (fun os started H enc _ => lifted os started H enc)

theorem proved : Rows.IrAsksSaid :=
  over
#print axioms proved
end Go.Proofs.Ytpfeiolmkbibiaa.irAsks
