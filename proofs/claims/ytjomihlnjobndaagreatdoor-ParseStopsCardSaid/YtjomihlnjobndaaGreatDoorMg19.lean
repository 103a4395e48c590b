/- Several texts in one: LwLaid, PsSay, PsBnM, PsSet, LwA. -/
import Derived.Test.YtjomihlnjobndaaGreatDoorRows
import Derived.ProofKit
import Derived.LaidMore
import Derived.OpenShut
import Derived.Stop.Joined
import Derived.Stop.LaidErr
import Derived.Lib.LaidTab
import Derived.MakeChecks
import Derived.Test.YtjomihlnjobndaaGreatDoorMg18
/- What the listed variables give the walks of layer 4; how a law's row ends where the call has made memory and has turned nothing that was there. -/
namespace Go.Proofs.YtjomihlnjobndaaGreatDoor
open Go.ChangeShapes Go.WideShapes Go.ChangeAt Go.RowKit
set_option linter.unusedVariables false
set_option linter.unusedSimpArgs false

/-- An array of texts as a row lists it. -/
def txtsData {H : Type} (ss : List (List UInt8)) : DataW H := .agg (ss.map fun s => .lit (.string s))
theorem cells_of_txts {H : Type} {enc : TypeId × Value → H} {P : Program} {w : World} {base : Nat} {sp : Nat → Bool} {held : Bool} {fuel : Nat} {t e : TypeId} {n : Nat} {cs : List Value} {ss : List (List UInt8)} {p : List MemPlace}
    (ht : P.underlying t = some (.array n e)) (he : P.underlying e = some .string) (hce : P.cellsOf e = 1) (hct : P.cellsOf t = n)
    (h : DataW.trod enc P w base sp held fuel t cs = some (txtsData ss, p)) : cs = ss.map fun s => Value.string ⟨s.toArray⟩ := by
  cases fuel with
  | zero => simp [DataW.trod] at h
  | succ fuel =>
    simp only [DataW.trod, ht, hce, hct, Nat.mul_one] at h
    split at h
    · rename_i hl
      obtain ⟨xs, hm, hx⟩ := Option.map_eq_some_iff.1 h
      have hxs : xs.map (·.1) = ss.map fun s => (DataW.lit (.string s) : DataW H) := by
        have := congrArg Prod.fst hx
        simpa [txtsData] using this
      have hxl : xs.length = n := by simpa using Lib.mapM_length hm
      have hzl : ss.length = n := by
        have := congrArg List.length hxs
        simp at this
        omega
      apply List.ext_getElem?
      intro i
      by_cases hi : i < n
      · obtain ⟨b, hb, hf⟩ := Lib.mapM_at hm i i (by simp [hi])
        obtain ⟨s, hc, rfl, _⟩ := DataW.trod_string he hf
        have h1 : cs[i]? = some (.string s) := by
          have := congrArg (·[0]?) hc
          simpa [List.getElem?_take, List.getElem?_drop] using this
        have h2 : (xs.map (·.1))[i]? = some (DataW.lit (.string s.data.toList) : DataW H) := by simp [hb]
        rw [hxs] at h2
        simp only [List.getElem?_map, Option.map_eq_some_iff, DataW.lit.injEq, Lit.string.injEq] at h2
        obtain ⟨s', hs', rfl⟩ := h2
        simp [h1, hs']
      · rw [List.getElem?_eq_none (by omega), List.getElem?_eq_none (by simp; omega)]
    · cases h

theorem own : ownKnob Tryz.prog.godebug = none := by kernel_rfl
theorem laidOut : laidOutB Tryz.prog = true := by kernel_rfl
theorem gOps : Tryz.prog.globalNamed "lathe/words.ops" = some 0 := by kernel_rfl
theorem tOps : (Tryz.prog.globals[0]?).map (·.type) = some 157 := by kernel_rfl
theorem cellsOps : Tryz.prog.cellsOf 157 = 35 := by kernel_rfl
theorem cellsStr1 : Tryz.prog.cellsOf 9 = 1 := by kernel_rfl
theorem gPow : Tryz.prog.globalNamed "internal/strconv.uint64pow10" = some 2 := by kernel_rfl
theorem tPow : (Tryz.prog.globals[2]?).map (·.type) = some 193 := by kernel_rfl
theorem cellsPow : Tryz.prog.cellsOf 193 = 20 := by kernel_rfl
theorem cellsU1 : Tryz.prog.cellsOf 78 = 1 := by kernel_rfl
theorem gES : Tryz.prog.globalNamed "strconv.ErrSyntax" = some 3 := by kernel_rfl
theorem gER : Tryz.prog.globalNamed "strconv.ErrRange" = some 4 := by kernel_rfl
theorem tES : (Tryz.prog.globals[3]?).map (·.type) = some 124 := by kernel_rfl
theorem tER : (Tryz.prog.globals[4]?).map (·.type) = some 124 := by kernel_rfl
theorem cellsE : Tryz.prog.cellsOf 212 = 1 := by kernel_rfl
theorem cellsS : Tryz.prog.cellsOf 9 = 1 := by kernel_rfl
theorem star : "*" ++ "errors.errorString" = "*errors.errorString" := by decide
theorem rowE (u : TypeId) (h : Tryz.prog.typeName? 3 u = some "*errors.errorString") : u = 210 :=
  typeName_ptr_named (nm := "errors.errorString") (by rw [star]; kernel_rfl) (by kernel_rfl) (by decide) u (by rw [star]; exact h)

/-- What is listed. -/
def laid6 : List (String × DataW Unit) := [("lathe/words.ops", Rows.laid_lathe_words_ops), ("math/bits.deBruijn32tab", Rows.laid_math_bits_deBruijn32tab), ("math/bits.deBruijn64tab", Rows.laid_math_bits_deBruijn64tab), ("internal/strconv.uint64pow10", Rows.laid_internal_strconv_uint64pow10), ("strconv.ErrRange", Rows.laid_strconv_ErrRange), ("strconv.ErrSyntax", Rows.laid_strconv_ErrSyntax)]
/-- The door's own heap meets the condition. -/
theorem door_met (os : Os) (args : Array Value) : laidMetH Tryz.prog laid6 ((World.doorLaid Tryz.prog 62 os).forCall (fun _ _ => 0) ⟨#[], args, []⟩).memory :=
  laidMetH_of_parts3 (fuel := 8) (laidMet_of_run' 8 (by kernel_rfl) (by kernel_rfl)) (by kernel_rfl) (by kernel_rfl)
theorem opsData : (Rows.laid_lathe_words_ops : DataW Unit) = txtsData ((List.range 35).map fun (k : Nat) => opT k) := rfl
theorem powData : (Rows.laid_internal_strconv_uint64pow10 : DataW Unit) = Lib.tabData .u64 Lib.pow10Tab := rfl
theorem stc_of_laid {W : World} (h : laidMetH Tryz.prog laid6 W) : Stc W := by
  rw [MakeChecks.laidMetH_plain _ _ _ (by kernel_rfl)] at h
  refine ⟨?_, ?_, ?_⟩
  · have h1 := h.tail.tail.tail.tail
    obtain ⟨a0, s0, hv0, -, -, -⟩ := laid_sentinel h1 gER tER Tryz.underlying124 rowE Tryz.underlying210 Tryz.underlying212 rfl rfl Tryz.underlying9 cellsE cellsS
    obtain ⟨a1, s1, hv1, -, -, -⟩ := laid_sentinel h1.tail gES tES Tryz.underlying124 rowE Tryz.underlying210 Tryz.underlying212 rfl rfl Tryz.underlying9 cellsE cellsS
    have c0 := World.var?_cell gER hv0 0
    have c1 := World.var?_cell gES hv1 0
    simp at c0 c1
    exact ⟨World.block_lt_of_cell? W _ c1, World.block_lt_of_cell? W _ c0, _, _, _, _, c1, c0⟩
  · have h1 := h.tail.tail.tail
    rw [powData] at h1
    exact Lib.tabIs_of_head gPow tPow Tryz.underlying193 Tryz.underlying78 cellsU1 cellsPow h1
  · obtain ⟨ps, ⟨g', t', cs, fuel, p, q, hg', ht', hvar, hd, _, _⟩, _⟩ := h
    obtain rfl := Option.some.inj (gOps.symm.trans hg')
    obtain rfl := Option.some.inj (tOps.symm.trans ht')
    rw [opsData] at hd
    have hc := cells_of_txts Tryz.underlying157 Tryz.underlying9 cellsStr1 cellsOps hd
    have hcs : cs = (((List.range 35).map fun (k : Nat) => opT k).map fun s => Value.string ⟨s.toArray⟩).toArray := by rw [← hc]
    rw [hcs] at hvar
    intro k hk
    have := World.var?_cell gOps hvar k
    rw [this]
    simp [hk]
/-- How a law's row ends where the call has made memory and has turned nothing that was there. -/
theorem ends_below {H : Type} {enc : TypeId × Value → H} {P : Program} {f : Func} {s : ChangeSpec} {apart fresh handsOn again : Bool} {W W' : World} {args : Array Value} {v : Value} {ds gs : List (DataW H)} {pa pv : List MemPlace}
    (hW : DataW.Whole enc P f.params.toList s.vars apart W args.toList ds gs (pa ++ pv)) (hb : Below W.heap.size W W')
    (hres : ∀ (b : Nat) (sp : Nat → Bool) (hd : Bool), DataW.TrodAll enc P W' b sp hd f.resultTypes.toList (v.resultList f.resultTypes.size) (s.fn H (ds ++ gs)).results [])
    (hargs : ∀ sp : Nat → Bool, (∀ p ∈ pa, sp p.block = true) → DataW.TrodAll enc P W' 0 sp true f.params.toList args.toList (s.fn H (ds ++ gs)).args pa)
    (hvars : ∀ sp : Nat → Bool, (∀ p ∈ pv, sp p.block = true) → DataW.TrodVars enc P W' sp s.vars (s.fn H (ds ++ gs)).vars pv)
    (hok : ∀ (j : Nat) (t : TypeId) (r : Value), f.resultTypes[j]? = some t → (v.resultList f.resultTypes.size)[j]? = some r → Value.okWide P W' .any 0 t r) :
    s.post enc P f apart fresh handsOn again W args v W' := by
  have low : ∀ x ∈ pa ++ pv, x.block < W.heap.size := fun x hx => hW.lt x hx
  have lowa : ∀ x ∈ pa, decide (x.block < W.heap.size) = true := fun x hx => decide_eq_true (low x (List.mem_append_left _ hx))
  have lowv : ∀ x ∈ pv, decide (x.block < W.heap.size) = true := fun x hx => decide_eq_true (low x (List.mem_append_right _ hx))
  refine ⟨ds, gs, pa ++ pv, [], pa, pv, hW, hres _ _ _, hargs (fun b => decide (b < W.heap.size)) lowa, hvars (fun b => decide (b < W.heap.size)) lowv,
    World.keptBut_mono (fun x hx => ⟨hx, Or.inr (List.mem_append.1 hx)⟩) (hb.frame (· ∈ pa ++ pv)), fun _ => ?_⟩
  obtain ⟨_, _, _, _, _, hz, hn⟩ := hW
  refine ⟨hok, _, _, ([] ++ pa) ++ pv, ⟨[] ++ pa, pv, trodAll_append (hargs _ (fun _ _ => rfl)) (hres _ _ _), hvars _ (fun _ _ => rfl), rfl, fun b off hx => ?_, fun ha => ?_⟩, fun x hx _ => ?_⟩
  · have hin : MemPlace.cell b off ∈ pa ++ pv := by simpa using hx
    exact (hb.frozen (low _ hin)).trans (hz b off hin)
  · simpa using hn ha
  · simpa using hx
end Go.Proofs.YtjomihlnjobndaaGreatDoor
/- What the pure parser reads of an instruction may be said, but for its names. No program here. -/
namespace Go.Proofs.YtjomihlnjobndaaGreatDoor
set_option linter.unusedVariables false
set_option linter.unusedSimpArgs false

/-- An operand as it is read. -/
def arJ (v : Arg) : Prop := (v.kind = 1 ∧ 0 ≤ v.n ∧ v.n ≤ 4095 ∧ v.bits = 0) ∨ (v.kind = 2 ∧ v.n = 0) ∨ ((v.kind = 3 ∨ v.kind = 4) ∧ v.n = 0 ∧ v.bits = 0) ∨ (v.kind = 5 ∧ 0 ≤ v.n ∧ v.bits = 0)
theorem operand_say {en : Tok} (he : Gd en) : Ens (qOperand en) arJ := by
  unfold qOperand
  refine Ens.bind (next_ens he) fun t ht => ?_
  refine Ens.ite (fun h => Ens.bind pass_ens fun _ _ => Ens.pure ?_) fun _ => Ens.ite (fun h => Ens.bind pass_ens fun _ _ => Ens.pure ?_) fun _ => Ens.ite (fun h => Ens.bind (ask_ens t) fun n hn => Ens.bind pass_ens fun _ _ => Ens.pure ?_) fun _ => Ens.ite (fun h => Ens.bind pass_ens fun _ _ => Ens.pure ?_) fun _ => Ens.ite (fun h => Ens.bind pass_ens fun _ _ => Ens.pure ?_) fun _ => Ens.bad
  · have := ht.reg (by simpa using h)
    exact .inl ⟨rfl, by show (0 : Int) ≤ numOf t; omega, by show (numOf t : Int) ≤ 4095; omega, rfl⟩
  · exact .inr (.inl ⟨rfl, rfl⟩)
  · exact .inr (.inr (.inr ⟨rfl, hn, rfl⟩))
  · exact .inr (.inr (.inl ⟨.inl rfl, rfl, rfl⟩))
  · exact .inr (.inr (.inl ⟨.inr rfl, rfl, rfl⟩))
theorem operands_say {en : Tok} (he : Gd en) : ∀ n, Ens (qOperands en n) (fun l => l.length = n ∧ ∀ a ∈ l, arJ a)
  | 0 => Ens.pure ⟨rfl, fun a h => by simp at h⟩
  | 1 => by
    unfold qOperands
    exact Ens.bind (operand_say he) fun a ha => Ens.pure ⟨rfl, fun x hx => by rw [List.mem_singleton.1 hx]; exact ha⟩
  | k + 2 => by
    unfold qOperands
    exact Ens.bind (operand_say he) fun a ha => Ens.bind (this_ens he _ _) fun _ _ => Ens.bind (operands_say he (k + 1)) fun l hl => Ens.pure ⟨by simp [hl.1], fun x hx => by
      rcases List.mem_cons.1 hx with e | hx
      · rw [e]; exact ha
      · exact hl.2 x hx⟩
/-- What may be said of an instruction, but for what a call calls and which globals there are. -/
structure SayI (x : PIns) : Prop where
  cnt : cntB x = true
  ty : x.op ≠ 30 → (x.op = 26 ∨ x.op = 29 → x.ty = 65) ∧ (x.op = 31 ∨ x.op = 32 ∨ x.op = 34 → x.ty = 0) ∧ tyI x.ty ∧ (x.op = 33 → x.args.length = 1 ∨ x.ty = 0)
  num : x.op ≠ 30 → numB x = true
  fl : flB x = true
  args : ∀ a ∈ x.args, arJ a
  big : x.op ≠ 30 → x.n ≤ 65
theorem tyB_of {t : Int} (h : tyI t) : tyB t = true := decide_eq_true h
theorem typed_say {en : Tok} (he : Gd en) {x : PIns} (n : Nat) (ho : 1 ≤ x.op ∧ x.op ≤ 34) (hn : (x.op = 23 ∧ n = 3) ∨ ((x.op = 24 ∨ x.op = 27 ∨ x.op = 33) ∧ n = 1) ∨ ((x.op ≤ 19 ∨ x.op = 28) ∧ n = 2)) (hz : x.n = 0) (hf : flB x = true) (ht : x.tg = []) : Ens (qTyped en x n) SayI := by
  unfold qTyped
  refine Ens.bind (type_ens he) fun t h1 => Ens.bind (operands_say he n) fun l hl => Ens.pure ?_
  obtain ⟨hl, ha⟩ := hl
  obtain ⟨op, rg, ty, nn, fl, ar, tg⟩ := x
  simp only at hn hz ht ho
  subst hz ht
  refine ⟨?_, fun _ => ⟨fun k => ?_, fun k => ?_, h1, fun k => ?_⟩, fun _ => ?_, hf, ha, fun _ => by dsimp only; omega⟩
  · unfold cntB
    simp only
    repeat' split
    all_goals first
      | (exfalso; omega)
      | (refine decide_eq_true ?_; refine ⟨rfl, ?_⟩; show l.length ≤ 1; omega)
      | (refine decide_eq_true ?_; refine ⟨rfl, ?_⟩; show l.length = _; omega)
  · exfalso; simp only at k; omega
  · exfalso; simp only at k; omega
  · simp only at k; left; simp only; omega
  · unfold numB
    simp only
    repeat' split
    all_goals first
      | (exfalso; omega)
      | exact decide_eq_true rfl
      | rfl
theorem form_say {en : Tok} (he : Gd en) (op r : Int) (ho : 1 ≤ op ∧ op ≤ 34) : Ens (qForm en ⟨op, r, 0, 0, 0, [], []⟩) SayI := by
  have hf0 : flB ⟨op, r, 0, 0, 0, [], []⟩ = true := by
    simp [flB]
  have fl0 : ∀ y : PIns, y.op = op → y.fl = 0 → flB y = true := fun y e1 e2 => by
    unfold flB at hf0 ⊢
    rw [e1, e2]; exact hf0
  unfold qForm
  simp only
  refine Ens.ite (fun c => Ens.bind (type_ens he) fun n hn => Ens.bind (operand_say he) fun a ha => Ens.bind (this_ens he _ _) fun _ _ => Ens.bind (type_ens he) fun t ht => Ens.pure ?_) fun _ => ?_
  · refine ⟨?_, fun _ => ⟨fun k => ?_, fun k => ?_, ht, fun k => ?_⟩, fun _ => ?_, fl0 _ rfl rfl, fun y hy => by rw [List.mem_singleton.1 hy]; exact ha, fun _ => hn.2⟩
    · unfold cntB
      simp only
      repeat' split
      all_goals first
        | (exfalso; omega)
        | (refine decide_eq_true ?_; simp)
    · exfalso; simp only at k; omega
    · exfalso; simp only at k; omega
    · exfalso; simp only at k; omega
    · unfold numB
      simp only
      rw [if_pos c]
      exact tyB_of hn
  refine Ens.ite (fun c => typed_say he 3 ho (.inl ⟨c, rfl⟩) rfl hf0 rfl) fun _ => ?_
  refine Ens.ite (fun c => typed_say he 1 ho (.inr (.inl ⟨by simp only; omega, rfl⟩)) rfl hf0 rfl) fun _ => ?_
  refine Ens.ite (fun c => Ens.bind (type_ens he) fun t ht => Ens.bind (next_ens he) fun p _ => Ens.ite (fun _ => Ens.pure ?_) fun _ => Ens.bind (commas_ens (Q := fun q : Int × Arg => arJ q.2) he fun _ => Ens.bind (block_ens he) fun b hb => Ens.bind (operand_say he) fun a ha => Ens.pure ha) fun l hl => Ens.pure ?_) fun _ => ?_
  · subst c
    exact ⟨by simp [cntB], fun _ => ⟨fun k => by simp at k, fun k => by simp at k, ht, fun k => by simp at k⟩, fun _ => by simp [numB], by simp [flB], fun y hy => by simp at hy, fun _ => by dsimp only; omega⟩
  · subst c
    refine ⟨by simp [cntB], fun _ => ⟨fun k => by simp at k, fun k => by simp at k, ht, fun k => by simp at k⟩, fun _ => by simp [numB], by simp [flB], fun y hy => ?_, fun _ => by dsimp only; omega⟩
    obtain ⟨q, hq, rfl⟩ := List.mem_map.1 hy
    exact hl q hq
  refine Ens.ite (fun c => Ens.bind (size_ens he) fun n hn => Ens.pure ?_) fun _ => ?_
  · subst c
    exact ⟨by simp [cntB], fun _ => ⟨fun k => rfl, fun k => by simp at k, ty65, fun k => by simp at k⟩, fun _ => by simp [numB]; omega, by simp [flB], fun y hy => by simp at hy, fun _ => by dsimp only; omega⟩
  refine Ens.ite (fun c => Ens.bind (operands_say he 2) fun l hl => Ens.pure ?_) fun _ => ?_
  · subst c
    exact ⟨by simp [cntB, hl.1], fun _ => ⟨fun k => rfl, fun k => by simp at k, ty65, fun k => by simp at k⟩, fun _ => by simp [numB], by simp [flB], hl.2, fun _ => by dsimp only; omega⟩
  refine Ens.ite (fun c => Ens.bind (want_ens he 1) fun t _ => Ens.bind (ask_ens t) fun n _ => Ens.bind (brackets_ens he fun _ => operand_say he) fun l hl => Ens.pure ?_) fun _ => ?_
  · subst c
    exact ⟨by simp [cntB], fun k => absurd rfl k, fun k => absurd rfl k, by simp [flB], hl, fun k => absurd rfl k⟩
  refine Ens.ite (fun c => Ens.bind (operand_say he) fun a ha => Ens.bind (this_ens he _ _) fun _ _ => Ens.bind (block_ens he) fun b hb => Ens.bind (this_ens he _ _) fun _ _ => Ens.bind (block_ens he) fun d hd => Ens.pure ?_) fun _ => ?_
  · subst c
    exact ⟨by simp [cntB], fun _ => ⟨fun k => by simp at k, fun k => rfl, ⟨by simp, by simp⟩, fun k => by simp at k⟩, fun _ => by simp [numB], by simp [flB], fun y hy => by rw [List.mem_singleton.1 hy]; exact ha, fun _ => by dsimp only; omega⟩
  refine Ens.ite (fun c => Ens.bind (block_ens he) fun b hb => Ens.pure ?_) fun _ => ?_
  · subst c
    exact ⟨by simp [cntB], fun _ => ⟨fun k => by simp at k, fun k => rfl, ⟨by simp, by simp⟩, fun k => by simp at k⟩, fun _ => by simp [numB], by simp [flB], fun y hy => by simp at hy, fun _ => by dsimp only; omega⟩
  refine Ens.ite (fun c => Ens.bind (next_ens he) fun p _ => Ens.ite (fun _ => Ens.pure ?_) fun _ => typed_say he 1 ho (.inr (.inl ⟨by simp only; omega, rfl⟩)) rfl hf0 rfl) fun _ => ?_
  · subst c
    exact ⟨by simp [cntB], fun _ => ⟨fun k => by simp at k, fun k => rfl, ⟨by simp, by simp⟩, fun k => .inr rfl⟩, fun _ => by simp [numB], by simp [flB], fun y hy => by simp at hy, fun _ => by dsimp only; omega⟩
  refine Ens.ite (fun c => Ens.pure ?_) fun _ => ?_
  · subst c
    exact ⟨by simp [cntB], fun _ => ⟨fun k => by simp at k, fun k => rfl, ⟨by simp, by simp⟩, fun k => by simp at k⟩, fun _ => by simp [numB], by simp [flB], fun y hy => by simp at hy, fun _ => by dsimp only; omega⟩
  by_cases c : op ≤ 13
  · simp only [if_pos c]
    refine Ens.bind (flags_ens he) fun fl hfl => typed_say he 2 ho (.inr (.inr ⟨by simp only; omega, rfl⟩)) rfl ?_ rfl
    unfold flB
    simp only
    rw [if_neg (by omega)]
    exact decide_eq_true hfl
  · simp only [if_neg c]
    refine Ens.bind (Ens.pure (Q := fun z : Int => z = 0) rfl) fun fl h0 => typed_say he 2 ho (.inr (.inr ⟨by simp only; omega, rfl⟩)) rfl ?_ rfl
    subst h0
    exact hf0
theorem Ens.and {α : Type} {p : PM α} {Q R : α → Prop} (h : Ens p Q) (k : Ens p R) : Ens p (fun a => Q a ∧ R a) := fun s a s' hs e => ⟨⟨(h s a s' hs e).1, (k s a s' hs e).1⟩, (h s a s' hs e).2⟩
theorem typed_keep {en : Tok} (he : Gd en) (x : PIns) (n : Nat) : Ens (qTyped en x n) (fun y => y.op = x.op ∧ y.reg = x.reg) := by
  unfold qTyped
  exact Ens.bind (type_ens he) fun t h1 => Ens.bind (operands_ens he n) fun l hl => Ens.pure ⟨rfl, rfl⟩
theorem form_keep {en : Tok} (he : Gd en) (x : PIns) : Ens (qForm en x) (fun y => y.op = x.op ∧ y.reg = x.reg) := by
  unfold qForm
  refine Ens.ite (fun _ => Ens.bind (type_ens he) fun n hn => Ens.bind (operand_ens he) fun a ha => Ens.bind (this_ens he _ _) fun _ _ => Ens.bind (type_ens he) fun t ht => Ens.pure ⟨rfl, rfl⟩) fun _ => ?_
  refine Ens.ite (fun _ => typed_keep he x 3) fun _ => ?_
  refine Ens.ite (fun _ => typed_keep he x 1) fun _ => ?_
  refine Ens.ite (fun _ => Ens.bind (type_ens he) fun t ht => Ens.bind (next_ens he) fun p _ => Ens.ite (fun _ => Ens.pure ⟨rfl, rfl⟩) fun _ => Ens.bind (commas_ens (Q := fun _ : Int × Arg => True) he fun _ => Ens.bind (block_ens he) fun b hb => Ens.bind (operand_ens he) fun a ha => Ens.pure trivial) fun l hl => Ens.pure ⟨rfl, rfl⟩) fun _ => ?_
  refine Ens.ite (fun _ => Ens.bind (size_ens he) fun n hn => Ens.pure ⟨rfl, rfl⟩) fun _ => ?_
  refine Ens.ite (fun _ => Ens.bind (operands_ens he 2) fun l hl => Ens.pure ⟨rfl, rfl⟩) fun _ => ?_
  refine Ens.ite (fun _ => Ens.bind (want_ens he 1) fun t _ => Ens.bind (ask_ens t) fun n _ => Ens.bind (brackets_ens he fun _ => operand_ens he) fun l hl => Ens.pure ⟨rfl, rfl⟩) fun _ => ?_
  refine Ens.ite (fun _ => Ens.bind (operand_ens he) fun a ha => Ens.bind (this_ens he _ _) fun _ _ => Ens.bind (block_ens he) fun b hb => Ens.bind (this_ens he _ _) fun _ _ => Ens.bind (block_ens he) fun c hc => Ens.pure ⟨rfl, rfl⟩) fun _ => ?_
  refine Ens.ite (fun _ => Ens.bind (block_ens he) fun b hb => Ens.pure ⟨rfl, rfl⟩) fun _ => ?_
  refine Ens.ite (fun _ => Ens.bind (next_ens he) fun p _ => Ens.ite (fun _ => Ens.pure ⟨rfl, rfl⟩) fun _ => typed_keep he x 1) fun _ => ?_
  refine Ens.ite (fun _ => Ens.pure ⟨rfl, rfl⟩) fun _ => ?_
  by_cases c : x.op ≤ 13
  · simp only [if_pos c]
    exact Ens.bind (flags_ens he) fun fl _ => typed_keep he { x with fl := fl } 2
  · simp only [if_neg c]
    exact Ens.bind (Ens.pure (Q := fun z : Int => z = 0) rfl) fun fl h0 => typed_keep he { x with fl := fl } 2
/-- An instruction as it is read. -/
structure InK (x : PIns) : Prop where
  in_ : InI x
  say : SayI x
  reg : hasRegB x = true
theorem instr_say {en : Tok} (he : Gd en) : Ens (qInstr en) InK := by
  unfold qInstr
  refine Ens.bind (next_ens he) fun p hp => ?_
  have hr : Ens (if p.kind == 3 then (do qPass; qMark en 61; return (numOf p : Int)) else pure (-1)) (fun r : Int => -1 ≤ r ∧ r ≤ 4095) :=
    Ens.ite (fun h => Ens.bind pass_ens fun _ _ => Ens.bind (this_ens he _ _) fun _ _ => Ens.pure (by
      have := hp.reg (by simpa using h)
      exact ⟨by omega, by omega⟩)) fun _ => Ens.pure ⟨by decide, by decide⟩
  have main : ∀ r : Int, -1 ≤ r ∧ r ≤ 4095 → Ens (do
      let w ← qNext en
      let op := opOfP w
      if ¬ (op = 30 ∨ op ≠ 0 ∧ idleB op = decide (0 ≤ r)) then qBad 3 w
      qPass
      let x ← qForm en ⟨op, r, 0, 0, 0, [], []⟩
      qLineEnd en
      return x) InK := by
    intro r hr
    refine Ens.bind (next_ens he) fun w hw => ?_
    have hop := opOf_in (w := w)
    refine Ens.ite (fun _ => Ens.bind (Q := fun _ => False) Ens.bad fun _ h => h.elim) fun hc => ?_
    have hc2 := Decidable.not_not.1 hc
    have h1 : 1 ≤ opOfP w ∧ opOfP w ≤ 34 := by
      rcases hop with e | e
      · exact absurd hc (fun k => k (by rw [e]; simp))
      · exact e
    have hoi : (1 : Int) ≤ (opOfP w : Int) ∧ ((opOfP w : Nat) : Int) ≤ 34 := by omega
    refine Ens.bind pass_ens fun _ _ => Ens.bind (((form_ens he (x := ⟨opOfP w, r, 0, 0, 0, [], []⟩) ⟨hoi, hr, ⟨by simp, by simp⟩, fun _ => rfl, fun a h => by simp at h, fun a h => by simp at h⟩).and (form_say he _ r hoi)).and (form_keep he ⟨opOfP w, r, 0, 0, 0, [], []⟩)) fun x hx => Ens.bind (lineEnd_ens he) fun _ _ => Ens.pure ⟨hx.1.1, hx.1.2, ?_⟩
    obtain ⟨e1, e2⟩ := hx.2
    simp only at e1 e2
    unfold hasRegB
    rw [e1, e2]
    by_cases c : r = -1
    · rw [if_pos c]
      rcases hc2 with k | ⟨_, k⟩
      · rw [k]; decide
      · rw [k, c]; decide
    · rw [if_neg c]
      have hrb : regB r = true := decide_eq_true ⟨by omega, hr.2⟩
      rw [hrb, Bool.true_and]
      rcases hc2 with k | ⟨_, k⟩
      · rw [k]; decide
      · rw [k, decide_eq_true (show 0 ≤ r by omega), Bool.or_true]
  by_cases c : (p.kind == 3) = true
  · simp only [if_pos c] at hr ⊢
    exact Ens.bind hr main
  · simp only [if_neg c] at hr ⊢
    exact Ens.bind hr main
end Go.Proofs.YtjomihlnjobndaaGreatDoor
/- What the pure parser answers keeps to the grammar's bounds: functions, modules, settled names. No program here. -/
namespace Go.Proofs.YtjomihlnjobndaaGreatDoor
set_option linter.unusedVariables false
set_option linter.unusedSimpArgs false

section
variable {α : Type} {P : List α → Prop} {en : Tok} {item : List α → PM α}
theorem more_ensL (he : Gd en) (hi : ∀ acc, P acc → Ens (item acc) (fun a => P (acc ++ [a]))) : ∀ (k : Nat) (acc : List α), P acc → Ens (qMore en item k acc) P
  | 0, acc, h => Ens.pure h
  | k + 1, acc, h => by
    unfold qMore
    exact Ens.bind (passed_ens he _ _) fun b _ => Ens.ite (fun _ => Ens.bind (hi acc h) fun a ha => more_ensL he hi k _ ha) (fun _ => Ens.pure h)
theorem brackets_ensL (he : Gd en) (h0 : P []) (hi : ∀ acc, P acc → Ens (item acc) (fun a => P (acc ++ [a]))) : Ens (qBrackets en item) P := by
  unfold qBrackets
  refine Ens.bind (this_ens he _ _) fun _ _ => Ens.bind (passed_ens he _ _) fun b _ => Ens.ite (fun _ => Ens.pure h0) (fun _ => Ens.bind (Q := P) ?_ fun l hl => Ens.bind (this_ens he _ _) fun _ _ => Ens.pure hl)
  unfold qCommas
  exact Ens.bind (hi [] h0) fun a ha => Ens.bind Ens.get fun s _ => more_ensL he hi _ _ ha
end
def psI (l : List Int) : Prop := l.length ≤ 8 ∧ ∀ t ∈ l, tyI t
theorem types_ens {en : Tok} (he : Gd en) : Ens (qTypes en) (fun p => psI p.1 ∧ tyI p.2) := by
  unfold qTypes
  refine Ens.bind (brackets_ensL (P := psI) he ⟨by simp, fun t h => by simp at h⟩ fun acc ha => ?_) fun l hl => Ens.bind (type_ens he) fun r hr => Ens.pure ⟨hl, hr⟩
  refine Ens.bind (next_ens he) fun p _ => Ens.bind (type_ens he) fun t ht => Ens.ite (fun _ => Ens.bind (Q := fun _ => False) Ens.bad fun _ h => h.elim) (fun hc => Ens.pure ⟨by simp; omega, fun x hx => ?_⟩)
  rcases List.mem_append.1 hx with hx | hx
  · exact ha.2 x hx
  · rw [List.mem_singleton.1 hx]; exact ht
structure BI (bs : List (List PIns)) : Prop where
  len : bs.length ≤ 64
  size : bs.flatten.length ≤ 400
  ins : ∀ c ∈ bs, ∀ x ∈ c, InK x
theorem label_ens {en front : Tok} (he : Gd en) {bs : List (List PIns)} (hb : BI bs) (n : Nat) : Ens (qLabel en front bs n) (fun _ => bs.length < 64) := by
  have := hb.len
  unfold qLabel
  refine Ens.ite (fun _ => Ens.bind (Q := fun _ => False) Ens.bad fun _ h => h.elim) fun hc => Ens.ite (fun _ => Ens.bind (Q := fun _ => False) Ens.bad fun _ h => h.elim) fun _ => ?_
  exact Ens.bind pass_ens fun _ _ => Ens.bind (this_ens he _ _) fun _ _ => (lineEnd_ens he).mono fun _ _ => by omega
theorem addLast_of {l : List (List PIns)} {c : List PIns} {x : PIns} : addLast (l ++ [c]) x = l ++ [c ++ [x]] := by
  unfold addLast
  simp
theorem addLast_BI {bs : List (List PIns)} {x : PIns} (hb : BI bs) (h0 : bs.length ≠ 0) (hs : bs.flatten.length ≠ 400) (hx : InK x) : BI (addLast bs x) := by
  obtain ⟨l, c, rfl⟩ : ∃ l c, bs = l ++ [c] := ⟨bs.dropLast, bs.getLast (fun e => h0 (by rw [e]; rfl)), (List.dropLast_concat_getLast _).symm⟩
  rw [addLast_of]
  have h1 := hb.len
  have h2 := hb.size
  simp only [List.flatten_append, List.flatten_cons, List.flatten_nil, List.append_nil, List.length_append, List.length_cons, List.length_nil] at h1 h2 hs
  refine ⟨by simp; omega, by simp only [List.flatten_append, List.flatten_cons, List.flatten_nil, List.append_nil, List.length_append, List.length_cons, List.length_nil]; omega, fun d hd y hy => ?_⟩
  rcases List.mem_append.1 hd with hd | hd
  · exact hb.ins d (List.mem_append_left _ hd) y hy
  · rw [List.mem_singleton.1 hd] at hy
    rcases List.mem_append.1 hy with hy | hy
    · exact hb.ins c (by simp) y hy
    · rw [List.mem_singleton.1 hy]; exact hx
theorem body_ens {en : Tok} (he : Gd en) : ∀ (k : Nat) (bs : List (List PIns)), BI bs → Ens (qBody en k bs) BI
  | 0, bs, hb => Ens.bad
  | k + 1, bs, hb => by
    unfold qBody
    refine Ens.bind Ens.get fun s hs => ?_
    split
    · exact Ens.bad
    rename_i front rest hts
    refine Ens.ite (fun _ => Ens.bind pass_ens fun _ _ => body_ens he k bs hb) fun _ => ?_
    split
    · rename_i n hn
      refine Ens.bind (label_ens he hb n) fun _ hl => body_ens he k _ ⟨by simp; omega, by simpa using hb.size, fun c hc x hx => ?_⟩
      rcases List.mem_append.1 hc with hc | hc
      · exact hb.ins c hc x hx
      · rw [List.mem_singleton.1 hc] at hx; simp at hx
    · refine Ens.ite (fun _ => Ens.bad) fun h0 => Ens.ite (fun _ => Ens.bind pass_ens fun _ _ => Ens.bind (lineEnd_ens he) fun _ _ => Ens.pure hb) fun _ => Ens.ite (fun _ => Ens.bad) fun h4 => ?_
      exact Ens.bind (instr_say he) fun x hx => body_ens he k _ (addLast_BI hb h0 h4 hx)
def wdI (nm : ByteArray) : Prop := 0 < (byt nm).length ∧ wordSize (byt nm) = (byt nm).length ∧ (byt nm).length ≤ 65536
theorem name_ens {en : Tok} (he : Gd en) (full told : Tx → Bool) : Ens (qName en full told) (fun nm => wdI nm ∧ full (byt nm) = false ∧ told (byt nm) = false) := by
  unfold qName
  refine Ens.bind (want_ens he 1) fun t ht => Ens.ite (fun _ => Ens.bind (Q := fun _ => False) Ens.bad fun _ h => h.elim) fun h1 => Ens.ite (fun _ => Ens.bind (Q := fun _ => False) Ens.bad fun _ h => h.elim) fun h2 => Ens.pure ?_
  exact ⟨⟨(ht.1.word ht.2).1, (ht.1.word ht.2).2, ht.1.len⟩, by simpa [byt] using h1, by simpa [byt] using h2⟩
structure FI (f : PFn) : Prop where
  nm : wdI f.nm
  ps : psI f.ps
  rt : tyI f.rt
  bs : BI f.bs
structure MI (m : PMod) : Prop where
  vl : m.vs.length ≤ 8
  xl : m.xs.length ≤ 8
  fl : m.fs.length ≤ 8
  vs : ∀ v ∈ m.vs, wdI v.nm ∧ 1 ≤ v.size ∧ v.size ≤ 64
  xs : ∀ x ∈ m.xs, wdI x.nm ∧ psI x.ps ∧ tyI x.rt
  fs : ∀ f ∈ m.fs, FI f
  one : (m.fs.map fun f => byt f.nm).Nodup
theorem mem_snoc {α : Type} {P : α → Prop} {l : List α} {a : α} (h : ∀ x ∈ l, P x) (k : P a) : ∀ x ∈ l ++ [a], P x := fun x hx => by
  rcases List.mem_append.1 hx with hx | hx
  · exact h x hx
  · rw [List.mem_singleton.1 hx]; exact k
theorem lines_ens {en : Tok} (he : Gd en) : ∀ (k : Nat) (m : PMod), MI m → Ens (qLines en k m) MI
  | 0, m, h => Ens.pure h
  | k + 1, m, h => by
    have h1 := h.vl
    have h2 := h.xl
    have h3 := h.fl
    unfold qLines
    refine Ens.bind Ens.get fun s hs => ?_
    split
    · exact Ens.pure h
    rename_i front rest hts
    refine Ens.ite (fun _ => Ens.bind pass_ens fun _ _ => lines_ens he k m h) fun _ => ?_
    refine Ens.ite (fun _ => Ens.bind pass_ens fun _ _ => Ens.bind (name_ens he _ _) fun nm hn => Ens.bind (size_ens he) fun n hz => Ens.bind (lineEnd_ens he) fun _ _ => lines_ens he k _ ?_) fun _ => ?_
    · have hl := hn.2.1
      simp only [beq_eq_false_iff_ne, ne_eq] at hl
      exact ⟨by simp; omega, h2, h3, mem_snoc h.vs ⟨hn.1, hz⟩, h.xs, h.fs, h.one⟩
    refine Ens.ite (fun _ => Ens.bind pass_ens fun _ _ => Ens.bind (name_ens he _ _) fun nm hn => Ens.bind (types_ens he) fun p hp => Ens.bind (lineEnd_ens he) fun _ _ => lines_ens he k _ ?_) fun _ => ?_
    · have hl := hn.2.1
      simp only [beq_eq_false_iff_ne, ne_eq] at hl
      exact ⟨h1, by simp; omega, h3, h.vs, mem_snoc h.xs ⟨hn.1, hp.1, hp.2⟩, h.fs, h.one⟩
    refine Ens.ite (fun _ => Ens.bind pass_ens fun _ _ => Ens.bind (name_ens he _ _) fun nm hn => Ens.bind (types_ens he) fun p hp => Ens.bind (lineEnd_ens he) fun _ _ => Ens.bind Ens.get fun s2 _ => Ens.bind (body_ens he _ [] ⟨by simp, by simp, fun c hc => by simp at hc⟩) fun bs hb => lines_ens he k _ ?_) fun _ => Ens.bad
    have hl := hn.2.1
    simp only [beq_eq_false_iff_ne, ne_eq] at hl
    refine ⟨h1, h2, by simp; omega, h.vs, h.xs, mem_snoc h.fs ⟨hn.1, hp.1, hp.2, hb⟩, ?_⟩
    have ht := hn.2.2
    unfold hasCal at ht
    rw [Bool.or_eq_false_iff] at ht
    have ht2 := ht.2
    rw [List.any_eq_false] at ht2
    show ((m.fs ++ [(⟨nm, p.1, p.2, bs⟩ : PFn)]).map fun f => byt f.nm).Nodup
    rw [List.map_append, List.nodup_append]
    refine ⟨h.one, by simp, fun a ha b hb' => ?_⟩
    obtain ⟨f, hf, rfl⟩ := List.mem_map.1 ha
    obtain rfl := List.mem_singleton.1 hb'
    have := ht2 f hf
    intro e
    exact this (by simpa using e)
end Go.Proofs.YtjomihlnjobndaaGreatDoor
/- The pure parser's names are settled: the bounds of what parseP answers (ParseBounds, without the program). No program here. -/
namespace Go.Proofs.YtjomihlnjobndaaGreatDoor
set_option linter.unusedVariables false
set_option linter.unusedSimpArgs false

/-- A list turned one by one, each with success. -/
inductive Each {α β : Type} (f : α → Except Flt β) : List α → List β → Prop
  | nil : Each f [] []
  | cons {a b l r} : f a = .ok b → Each f l r → Each f (a :: l) (b :: r)
theorem each_of {α β : Type} {f : α → Except Flt β} : ∀ {l : List α} {r : List β}, l.mapM f = .ok r → Each f l r
  | [], r, h => by
    rw [List.mapM_nil] at h
    cases h
    exact Each.nil
  | a :: l, r, h => by
    rw [List.mapM_cons] at h
    cases ha : f a with
    | error e => rw [ha] at h; cases h
    | ok b =>
      rw [ha] at h
      cases hl : l.mapM f with
      | error e => rw [hl] at h; cases h
      | ok r' =>
        rw [hl] at h
        cases h
        exact Each.cons ha (each_of hl)
section
variable {α β γ : Type} {f : α → Except Flt β} {l : List α} {r : List β}
theorem Each.len (h : Each f l r) : r.length = l.length := by
  induction h with
  | nil => rfl
  | cons _ _ ih => rw [List.length_cons, List.length_cons, ih]
theorem Each.map (h : Each f l r) {g : β → γ} {k : α → γ} (e : ∀ a ∈ l, ∀ b, f a = .ok b → g b = k a) : r.map g = l.map k := by
  induction h with
  | nil => rfl
  | cons h1 _ ih => rw [List.map_cons, List.map_cons, e _ (List.mem_cons_self ..) _ h1, ih fun a ha => e a (List.mem_cons_of_mem _ ha)]
theorem Each.all (h : Each f l r) {P : β → Prop} (e : ∀ a ∈ l, ∀ b, f a = .ok b → P b) : ∀ b ∈ r, P b := by
  induction h with
  | nil => intro b hb; simp at hb
  | cons h1 _ ih =>
    intro b hb
    rcases List.mem_cons.1 hb with rfl | hb
    · exact e _ (List.mem_cons_self ..) _ h1
    · exact ih (fun a ha => e a (List.mem_cons_of_mem _ ha)) b hb
end
theorem answer_of {en : Tok} {asked : List Tok} {find : Tx → Option Int} {n k : Int} (h : answerP en asked find n = .ok k) : ∃ w, find w = some k := by
  unfold answerP at h
  simp only at h
  split at h
  · rename_i j hj
    cases h
    exact ⟨_, hj⟩
  · cases h
theorem findVar_lt {m : PMod} {w : Tx} {k : Int} (h : findVarP m w = some k) : 0 ≤ k ∧ k < m.vs.length := by
  unfold findVarP at h
  obtain ⟨i, hi, rfl⟩ := Option.map_eq_some_iff.1 h
  obtain ⟨h1, _⟩ := List.findIdx?_eq_some_iff_getElem.1 hi
  omega
theorem findCal_some {m : PMod} {w : Tx} {k : Int} (h : findCalP m w = some k) : ∃ t, calR m.xs m.fs k = some t := by
  unfold findCalP at h
  unfold calR
  split at h
  · rename_i i hi
    injection h with h
    subst h
    obtain ⟨h1, _⟩ := List.findIdx?_eq_some_iff_getElem.1 hi
    rw [if_neg (by omega), show (-1 - (-1 - (i : Int))).toNat = i from by omega, List.getElem?_eq_getElem h1]
    exact ⟨_, rfl⟩
  · obtain ⟨i, hi, rfl⟩ := Option.map_eq_some_iff.1 h
    obtain ⟨h1, _⟩ := List.findIdx?_eq_some_iff_getElem.1 hi
    rw [if_pos (by omega), Int.toNat_natCast, List.getElem?_eq_getElem h1]
    exact ⟨_, rfl⟩
/-- An operand, settled. -/
def arS (n : Nat) (v : Arg) : Prop := arI v ∧ (v.kind = 5 → v.n < n)
theorem settleA_say {en : Tok} {m : PMod} {asked : List Tok} {a b : Arg} (h : settleA en m asked a = .ok b) (ha : arJ a) : argB m b = true := by
  unfold settleA at h
  by_cases c : a.kind = 5
  · rw [if_pos c] at h
    cases hn : answerP en asked (findVarP m) a.n with
    | error e => rw [hn] at h; cases h
    | ok n =>
      rw [hn] at h
      cases h
      obtain ⟨w, hw⟩ := answer_of hn
      have hv := findVar_lt hw
      have hb : a.bits = 0 := by
        rcases ha with h | h | h | h
        · omega
        · omega
        · omega
        · exact h.2.2
      unfold argB
      simp only [c]
      exact decide_eq_true ⟨hv.1, hv.2, hb⟩
  · rw [if_neg c] at h
    cases h
    unfold argB regB
    rcases ha with h | h | h | h
    · simp [h]
    · simp [h]
    · rcases h with ⟨h1 | h1, h2, h3⟩ <;> simp [h1, h2, h3]
    · exact absurd h.1 c
theorem cnt_congr {x y : PIns} (h1 : y.op = x.op) (h2 : y.tg = x.tg) (h3 : y.args.length = x.args.length) : cntB y = cntB x := by
  unfold cntB
  rw [h1, h2, h3]
theorem settleA_ok {en : Tok} {m : PMod} {asked : List Tok} {a b : Arg} (h : settleA en m asked a = .ok b) (ha : arI a) : arS m.vs.length b := by
  unfold settleA at h
  by_cases c : a.kind = 5
  · rw [if_pos c] at h
    cases hn : answerP en asked (findVarP m) a.n with
    | error e => rw [hn] at h; cases h
    | ok n =>
      rw [hn] at h
      cases h
      obtain ⟨w, hw⟩ := answer_of hn
      have := findVar_lt hw
      exact ⟨⟨ha.1, ha.2.1, fun k => by have k' : a.kind = 1 := k; omega, this.1⟩, fun _ => this.2⟩
  · rw [if_neg c] at h
    cases h
    exact ⟨ha, fun k => absurd k c⟩
/-- An instruction, settled. -/
structure InS (m : PMod) (x : PIns) : Prop where
  op : 1 ≤ x.op ∧ x.op ≤ 34
  reg : -1 ≤ x.reg ∧ x.reg ≤ 4095
  ty : tyI x.ty
  fl : 13 < x.op → x.fl = 0
  args : ∀ a ∈ x.args, arS m.vs.length a
  tg : ∀ t ∈ x.tg, tgI t
  cal : x.op = 30 → calR m.xs m.fs x.n = some x.ty
  say : insB m x = true
  num : x.op ≠ 30 → x.n ≤ 65
theorem say_of {m : PMod} {x y : PIns} (hx : InK x) (h1 : y.op = x.op) (h2 : y.reg = x.reg) (h3 : y.fl = x.fl) (h4 : y.tg = x.tg) (h5 : y.args.length = x.args.length) (h6 : x.op ≠ 30 → y.n = x.n ∧ y.ty = x.ty) (h7 : x.op = 30 → calR m.xs m.fs y.n = some y.ty) (h8 : ∀ a ∈ y.args, argB m a = true) : insB m y = true := by
  have hi := hx.in_
  have hs := hx.say
  unfold insB
  simp only [Bool.and_eq_true, decide_eq_true_eq, List.all_eq_true]
  refine ⟨⟨⟨⟨⟨⟨⟨by rw [h1]; exact hi.op, by rw [cnt_congr h1 h4 h5]; exact hs.cnt⟩, ?_⟩, ?_⟩, ?_⟩, ?_⟩, fun t ht => by rw [h4] at ht; exact hi.tg t ht⟩, h8⟩
  · unfold hasTyB
    by_cases c : x.op = 30
    · rw [if_neg (by omega), if_pos (by omega)]
      exact decide_eq_true (h7 c)
    · obtain ⟨k1, k2, k3, k4⟩ := hs.ty c
      have e := (h6 c).2
      by_cases c1 : x.op = 26 ∨ x.op = 29
      · rw [if_pos (by omega)]; exact decide_eq_true (e.trans (k1 c1))
      rw [if_neg (by omega), if_neg (by omega)]
      by_cases c2 : x.op = 31 ∨ x.op = 32 ∨ x.op = 34
      · rw [if_pos (by omega)]; exact decide_eq_true (e.trans (k2 c2))
      rw [if_neg (by omega)]
      by_cases c3 : x.op = 33
      · rw [if_pos (by omega), e, tyB_of k3, Bool.true_and, h5]
        exact decide_eq_true (k4 c3)
      · rw [if_neg (by omega), e]; exact tyB_of k3
  · by_cases c : x.op = 30
    · unfold numB
      rw [if_neg (by omega), if_neg (by omega), if_pos (by omega)]
    · have := hs.num c
      unfold numB at this ⊢
      rw [h1, (h6 c).1]; exact this
  · have := hs.fl
    unfold flB at this ⊢
    rw [h1, h3]; exact this
  · have := hx.reg
    unfold hasRegB at this ⊢
    rw [h1, h2]; exact this
theorem settleI_ok {en : Tok} {m : PMod} (hm : MI m) {asked : List Tok} {x y : PIns} (h : settleI en m asked x = .ok y) (hk : InK x) : InS m y := by
  have hx := hk.in_
  have hj := hk.say.args
  unfold settleI at h
  by_cases c : x.op = 30
  · simp only [if_pos c] at h
    cases hn : answerP en asked (findCalP m) x.n with
    | error e => rw [hn] at h; cases h
    | ok n =>
      rw [hn] at h
      change (x.args.mapM (settleA en m asked) >>= _) = _ at h
      cases hl : x.args.mapM (settleA en m asked) with
      | error e => rw [hl] at h; cases h
      | ok l =>
        rw [hl] at h
        cases h
        obtain ⟨w, hw⟩ := answer_of hn
        obtain ⟨t, ht⟩ := findCal_some hw
        have hty : tyI t := by
          unfold calR at ht
          by_cases c0 : 0 ≤ n
          · rw [if_pos c0] at ht
            obtain ⟨f, hf, rfl⟩ := Option.map_eq_some_iff.1 ht
            exact (hm.fs f (List.mem_of_getElem? hf)).rt
          · rw [if_neg c0] at ht
            obtain ⟨f, hf, rfl⟩ := Option.map_eq_some_iff.1 ht
            exact (hm.xs f (List.mem_of_getElem? hf)).2.2
        refine ⟨hx.op, hx.reg, ?_, hx.fl, (each_of hl).all fun a ha b hb => settleA_ok hb (hx.args a ha), hx.tg, fun _ => ?_, say_of hk rfl rfl rfl rfl (each_of hl).len (fun k => absurd c k) (fun _ => ?_) ((each_of hl).all fun a ha b hb => settleA_say hb (hj a ha)), fun k => absurd c k⟩
        · show tyI ((calR m.xs m.fs n).getD 0)
          rw [ht]; exact hty
        · show calR m.xs m.fs n = some ((calR m.xs m.fs n).getD 0)
          rw [ht]; rfl
        · show calR m.xs m.fs n = some ((calR m.xs m.fs n).getD 0)
          rw [ht]; rfl
  · simp only [if_neg c] at h
    change (x.args.mapM (settleA en m asked) >>= _) = _ at h
    cases hl : x.args.mapM (settleA en m asked) with
    | error e => rw [hl] at h; cases h
    | ok l =>
      rw [hl] at h
      cases h
      exact ⟨hx.op, hx.reg, hx.ty, hx.fl, (each_of hl).all fun a ha b hb => settleA_ok hb (hx.args a ha), hx.tg, fun k => absurd k c, say_of hk rfl rfl rfl rfl (each_of hl).len (fun _ => ⟨rfl, rfl⟩) (fun k => absurd k c) ((each_of hl).all fun a ha b hb => settleA_say hb (hj a ha)), fun k => hk.say.big k⟩
/-- A module as it is answered. -/
structure MS (m : PMod) : Prop where
  vl : m.vs.length ≤ 8
  xl : m.xs.length ≤ 8
  fl : m.fs.length ≤ 8
  vs : ∀ v ∈ m.vs, wdI v.nm ∧ 1 ≤ v.size ∧ v.size ≤ 64
  xs : ∀ x ∈ m.xs, wdI x.nm ∧ psI x.ps ∧ tyI x.rt
  fs : ∀ f ∈ m.fs, wdI f.nm ∧ psI f.ps ∧ tyI f.rt ∧ f.bs.length ≤ 64 ∧ f.bs.flatten.length ≤ 400 ∧ ∀ c ∈ f.bs, ∀ x ∈ c, InS m x
  one : (m.fs.map fun f => byt f.nm).Nodup
theorem flat_leng {α β : Type} {l : List (List α)} {r : List (List β)} (h : r.map List.length = l.map List.length) : r.flatten.length = l.flatten.length := by
  rw [List.length_flatten, List.length_flatten, h]
theorem settleM_ok {en : Tok} {m m' : PMod} (hm : MI m) {asked : List Tok} (h : settleM en m asked = .ok m') : MS m' := by
  unfold settleM at h
  cases hl : m.fs.mapM (settleF en m asked) with
  | error e => rw [hl] at h; cases h
  | ok fs =>
    rw [hl] at h
    cases h
    have he := each_of hl
    have key : ∀ f ∈ m.fs, ∀ g, settleF en m asked f = .ok g → g.nm = f.nm ∧ g.ps = f.ps ∧ g.rt = f.rt ∧ g.bs.length ≤ 64 ∧ g.bs.flatten.length ≤ 400 ∧ ∀ c ∈ g.bs, ∀ x ∈ c, InS m x := by
      intro f hf g hg
      unfold settleF at hg
      cases hb : f.bs.mapM fun c : List PIns => c.mapM (settleI en m asked) with
      | error e => rw [hb] at hg; cases hg
      | ok bs =>
        rw [hb] at hg
        cases hg
        have hB := (hm.fs f hf).bs
        have eb := each_of hb
        refine ⟨rfl, rfl, rfl, by show bs.length ≤ 64; rw [eb.len]; exact hB.len, ?_, eb.all fun c hc d hd => (each_of hd).all fun x hx y hy => settleI_ok hm hy (hB.ins c hc x hx)⟩
        show bs.flatten.length ≤ 400
        rw [flat_leng (eb.map fun c hc d hd => (each_of hd).len)]
        exact hB.size
    have ert : fs.map PFn.rt = m.fs.map PFn.rt := he.map fun f hf g hg => (key f hf g hg).2.2.1
    have ecal : ∀ n, calR m.xs fs n = calR m.xs m.fs n := fun n => by
      unfold calR
      have e1 : fs[n.toNat]?.map PFn.rt = m.fs[n.toNat]?.map PFn.rt := by rw [← List.getElem?_map, ← List.getElem?_map, ert]
      rw [e1]
    have hin : ∀ x, InS m x → InS { m with fs := fs } x := fun x hx => ⟨hx.op, hx.reg, hx.ty, hx.fl, hx.args, hx.tg, fun k => (ecal x.n).trans (hx.cal k), by
      have e : insB { m with fs := fs } x = insB m x := by
        unfold insB hasTyB
        simp only [ecal]
        rfl
      rw [e]; exact hx.say, hx.num⟩
    refine ⟨hm.vl, hm.xl, by show fs.length ≤ 8; rw [he.len]; exact hm.fl, hm.vs, hm.xs, he.all fun f hf g hg => ?_, ?_⟩
    · obtain ⟨k1, k2, k3, k4, k5, k6⟩ := key f hf g hg
      have hF := hm.fs f hf
      exact ⟨by rw [k1]; exact hF.nm, by rw [k2]; exact hF.ps, by rw [k3]; exact hF.rt, k4, k5, fun c hc x hx => hin x (k6 c hc x hx)⟩
    · show (fs.map fun f => byt f.nm).Nodup
      rw [he.map (k := fun f => byt f.nm) fun f hf g hg => by rw [(key f hf g hg).1]]
      exact hm.one
/-- Whatever is read keeps to the bounds. -/
theorem parseP_bounds {en : Tok} {ts : List Tok} {m : PMod} (he : Gd en) (hs : ∀ t ∈ ts, Gd t) (h : parseP en ts = .ok m) : MS m := by
  unfold parseP at h
  cases hq : (qLines en (ts.length + 1) ⟨[], [], []⟩).run ⟨ts, []⟩ with
  | error e => rw [hq] at h; cases h
  | ok p =>
    obtain ⟨m1, s⟩ := p
    rw [hq] at h
    have := lines_ens he (ts.length + 1) ⟨[], [], []⟩ ⟨by simp, by simp, by simp, fun v h => by simp at h, fun v h => by simp at h, fun v h => by simp at h, by simp⟩ ⟨ts, []⟩ m1 s hs hq
    exact settleM_ok this.1 h
/-- Whatever is read may be said. -/
theorem MS.say {m : PMod} (h : MS m) : sayB (fun w => decide (0 < w.length) && decide (wordSize w = w.length)) m = true := by
  have hw : ∀ nm, wdI nm → (decide (0 < (byt nm).length) && decide (wordSize (byt nm) = (byt nm).length)) = true := fun nm k => by
    rw [decide_eq_true k.1, decide_eq_true k.2.1]; rfl
  have hh : ∀ nm ps rt, wdI nm → psI ps → tyI rt → headB (fun w => decide (0 < w.length) && decide (wordSize w = w.length)) nm ps rt = true := fun nm ps rt k1 k2 k3 => by
    unfold headB
    simp only
    rw [hw nm k1, tyB_of k3, Bool.and_true, Bool.true_and]
    exact List.all_eq_true.2 fun t ht => tyB_of (k2.2 t ht)
  unfold sayB
  rw [Bool.and_eq_true, Bool.and_eq_true]
  refine ⟨⟨List.all_eq_true.2 fun v hv => ?_, List.all_eq_true.2 fun x hx => ?_⟩, List.all_eq_true.2 fun f hf => ?_⟩
  · obtain ⟨k1, k2, k3⟩ := h.vs v hv
    simp only
    rw [hw _ k1, Bool.true_and]
    exact decide_eq_true (by omega)
  · obtain ⟨k1, k2, k3⟩ := h.xs x hx
    exact hh _ _ _ k1 k2 k3
  · obtain ⟨k1, k2, k3, _, _, k6⟩ := h.fs f hf
    unfold fnB
    rw [hh _ _ _ k1 k2 k3, Bool.true_and]
    exact List.all_eq_true.2 fun c hc => List.all_eq_true.2 fun x hx => (k6 c hc x hx).say
end Go.Proofs.YtjomihlnjobndaaGreatDoor
/- The statements of layer 4: their lives; what Parse answers, in one sentence; names are words. -/
namespace Go.Proofs.YtjomihlnjobndaaGreatDoor
open Go.RowKit Go.Maps
set_option linter.unusedVariables false
set_option linter.unusedSimpArgs false
set_option maxRecDepth 100000
set_option maxHeartbeats 4000000

/-- Beside what W had, there are these boxes. -/
def Fr (W : World) (bs : List (Nat × List Value)) (w : World) : Prop := Below W.heap.size W w ∧ ∀ x ∈ bs, W.heap.size ≤ x.1 ∧ Box x.1 x.2 w
theorem Fr.start (W : World) : Fr W [] W := ⟨Below.refl _ _, fun _ h => by cases h⟩
theorem Fr.later {W w w' : World} {bs : List (Nat × List Value)} (F : Fr W bs w) (hb : Below w.heap.size w w') : Fr W bs w' := ⟨F.1.trans (hb.mono F.1.size), fun x hx => ⟨(F.2 x hx).1, (F.2 x hx).2.later hb⟩⟩
theorem Fr.drew {W w : World} {bs : List (Nat × List Value)} (F : Fr W bs w) : Fr W bs w.drew := F.later (below_drew (Below.refl _ _))
theorem lw_drewN (w : World) (n : Nat) : Below w.heap.size w (w.drewN n) := by
  have h := Below.refl w.heap.size w
  exact ⟨h.os, h.tape, h.output, h.size, h.block⟩
theorem Fr.drewN {W w : World} {bs : List (Nat × List Value)} (F : Fr W bs w) (n : Nat) : Fr W bs (w.drewN n) := F.later (lw_drewN w n)
theorem Fr.push {W w : World} {bs : List (Nat × List Value)} {g : Nat} (F : Fr W bs w) (hg : g = w.heap.size) (cs : List Value) (t : TypeId) : Fr W ((g, cs) :: bs) (w.alloc (.cells cs.toArray t)) := by
  refine ⟨F.1.alloc F.1.size _, fun x hx => ?_⟩
  rcases List.mem_cons.1 hx with rfl | hx
  · exact ⟨by rw [hg]; exact F.1.size, Box.new w hg cs t⟩
  · exact ⟨(F.2 x hx).1, (F.2 x hx).2.alloc _⟩
theorem Fr.alloc {W w : World} {bs : List (Nat × List Value)} (F : Fr W bs w) (o : Obj) : Fr W bs (w.alloc o) := F.later ((Below.refl _ _).alloc (Nat.le_refl _) o)
theorem Fr.at {W w : World} {bs : List (Nat × List Value)} (F : Fr W bs w) (i : Nat) {g : Nat} {cs : List Value} (h : bs[i]? = some (g, cs)) : W.heap.size ≤ g ∧ Box g cs w := F.2 (g, cs) (List.mem_of_getElem? h)
theorem Fr.past {W w : World} {bs : List (Nat × List Value)} (F : Fr W bs w) : Past W.heap.size W w := ⟨Nat.le_refl _, F.1⟩
theorem Fr.c2 {W w : World} {bs : List (Nat × List Value)} (F : Fr W bs w) (i : Nat) {g : Nat} {v0 v1 : Value} (h : bs[i]? = some (g, [v0, v1])) :
    w.cell? ⟨g, 0, none⟩ = some v0 ∧ w.cell? ⟨g, 1, none⟩ = some v1 := ⟨(F.at i h).2.get 0 _ rfl, (F.at i h).2.get 1 _ rfl⟩
theorem Fr.c3 {W w : World} {bs : List (Nat × List Value)} (F : Fr W bs w) (i : Nat) {g : Nat} {v0 v1 v2 : Value} (h : bs[i]? = some (g, [v0, v1, v2])) :
    w.cell? ⟨g, 0, none⟩ = some v0 ∧ w.cell? ⟨g, 1, none⟩ = some v1 ∧ w.cell? ⟨g, 2, none⟩ = some v2 := ⟨(F.at i h).2.get 0 _ rfl, (F.at i h).2.get 1 _ rfl, (F.at i h).2.get 2 _ rfl⟩
theorem Fr.c4 {W w : World} {bs : List (Nat × List Value)} (F : Fr W bs w) (i : Nat) {g : Nat} {v0 v1 v2 v3 : Value} (h : bs[i]? = some (g, [v0, v1, v2, v3])) :
    w.cell? ⟨g, 0, none⟩ = some v0 ∧ w.cell? ⟨g, 1, none⟩ = some v1 ∧ w.cell? ⟨g, 2, none⟩ = some v2 ∧ w.cell? ⟨g, 3, none⟩ = some v3 := ⟨(F.at i h).2.get 0 _ rfl, (F.at i h).2.get 1 _ rfl, (F.at i h).2.get 2 _ rfl, (F.at i h).2.get 3 _ rfl⟩
theorem Fr.tail {W w : World} {x : Nat × List Value} {bs : List (Nat × List Value)} (F : Fr W (x :: bs) w) : Fr W bs w := ⟨F.1, fun y hy => F.2 y (List.mem_cons_of_mem _ hy)⟩

/-- What a text's parse answers: a fault and nothing, or a module that keeps to the bounds. -/
def PB (W : World) (l : List UInt8) (e : Ending) (w' : World) : Prop :=
  ∃ ts f0, Toks l ts f0 ∧ Below W.heap.size W w' ∧
    ((∃ c ln cl : Nat, c ≠ 0 ∧ (f0 = some ⟨c, ln, cl⟩ ∨ (f0 = none ∧ parseP (endTk l) ts = .error ⟨c, ln, cl⟩)) ∧ e = .returned (.tuple #[.agg #[.slice none 0 0, .slice none 0 0, .slice none 0 0], .agg #[.int .i64 c, .int .i64 ln, .int .i64 cl]])) ∨
     (∃ m : LMod, f0 = none ∧ parseP (endTk l) ts = .ok (modD m) ∧ MS (modD m) ∧ ModIn w'.heap.size w' m ∧ e = .returned (.tuple #[.agg #[.slice m.vp m.vn m.vc, .slice m.xp m.xn m.xc, .slice m.fp m.fn m.fc], .agg #[.int .i64 0, .int .i64 0, .int .i64 0]])))
theorem PsEnds.pb {W w' : World} {l : List UInt8} {e : Ending} (h : PsEnds W l e w') : PB W l e w' := by
  obtain ⟨ts, f0, hT, hB, h⟩ := h
  refine ⟨ts, f0, hT, hB, ?_⟩
  rcases h with ⟨⟨c, ln, cl⟩, h1, h2, h3⟩ | ⟨h0, m, h1, h2, h3⟩
  · exact .inl ⟨c, ln, cl, h3, h1, h2⟩
  · refine .inr ⟨m, h0, h1, ?_, h3, h2⟩
    rcases hT with ⟨_, _, h4⟩ | ⟨hl, t, hx, ht⟩
    · rw [h0] at h4; cases h4
    · rw [h0] at ht hx
      have : ts = t := ht
      subst this
      exact parseP_bounds (endTk_gd _) (lexed_gd hx hl) h1
theorem Parse_pb (s : ByteArray) (hs : s.size < 4611686018427387904) (W : World) (hK : Stc W) : Calls Tryz.prog 10 #[.string s] W (PB W s.data.toList) := (Parse_any s hs W hK).mono fun _ _ h => h.pb
theorem word_told (nm : ByteArray) (h : wdI nm) (W : World) : Calls Tryz.prog 12 #[.string nm] W fun e w' => e = .returned (.bool true) ∧ w' = W := by
  obtain ⟨h1, h2, h3⟩ := h
  have e : (byt nm).length = nm.size := by unfold byt; exact (Array.length_toList ..)
  rw [e] at h1 h2 h3
  have := Word_any nm (by omega) W
  have e1 : wordSize nm.data.toList = nm.size := h2
  rw [decide_eq_true h1, decide_eq_true e1] at this
  exact this
theorem bF0 (w : World) : (Instr.build 26 #[]).run Tryz.prog w = .ok (.agg #[.int .i64 0, .int .i64 0, .int .i64 0]) w := run_build _ _ _ _ (by kernel_rfl)
theorem bF3 (w : World) (a b c : Int) : (Instr.build 26 #[(0, .int .i64 a), (1, .int .i64 b), (2, .int .i64 c)]).run Tryz.prog w = .ok (.agg #[.int .i64 a, .int .i64 b, .int .i64 c]) w := run_build _ _ _ _ (by kernel_rfl)
theorem size_told (f : LFn) (W : World) (h : FnIn W.heap.size W f) (T : Nat) (hT : (fnD f).bs.flatten.length = T) (hT2 : T < 4611686018427387904) :
    Calls Tryz.prog 13 #[.agg (fnC f).toArray] W fun e w' => e = .returned (.int .i64 T) ∧ Below W.heap.size W w' := by
  obtain ⟨nm, pp, pn, pc, ps, rt, bp, bn, bc, bs⟩ := f
  have e : (located bs).flatten.length = T := by
    rw [← hT]
    show (located bs).flatten.length = (bs.map blkD).flatten.length
    unfold located
    rw [List.length_flatten, List.length_flatten, List.map_map, List.map_map]
    congr 1
    refine List.map_congr_left fun c _ => ?_
    show (c.code.map Prod.fst).length = (c.code.map insD).length
    rw [List.length_map, List.length_map]
  exact Size_any W.heap.size (located bs) W (.int .i64 0) (.int .i64 0) rt nm pp pn pc bp bn bc (Nat.le_refl _) (blocksAt_in h.2) T e hT2
theorem lives4_any (W : World) (hK : Stc W) : Calls Tryz.prog 8 #[] W fun e w' => e = .returned (.bool true) ∧ Below W.heap.size W w' := by
  have b0 := bF0
  have b3 := bF3
  have c1 : Calls Tryz.prog 10 #[.string { data := #[103, 108, 111, 98, 97, 108, 32, 103, 32, 56, 10, 102, 117, 110, 99, 32, 102, 40, 105, 56, 41, 32, 105, 56, 10, 98, 48, 58, 10, 37, 49, 32, 61, 32, 97, 100, 100, 32, 110, 115, 119, 32, 105, 56, 32, 37, 48, 44, 32, 51, 10, 115, 116, 111, 114, 101, 32, 105, 56, 32, 37, 49, 44, 32, 64, 103, 10, 114, 101, 116, 32, 105, 56, 32, 37, 49, 10, 101, 110, 100, 10] }] W fun e w' => Below W.heap.size W w' ∧ ∃ m : LMod, m.vn = 1 ∧ m.fn = 1 ∧ (∃ h : 0 < m.fs.length, (fnD (m.fs[0]'h)).bs.flatten.length = 3) ∧ ModIn w'.heap.size w' m ∧ e = .returned (.tuple #[.agg #[.slice m.vp m.vn m.vc, .slice m.xp m.xn m.xc, .slice m.fp m.fn m.fc], .agg #[.int .i64 0, .int .i64 0, .int .i64 0]]) := by
    obtain ⟨mm, hr, h1, h2, h3⟩ := run_liveA
    refine (Parse_any ⟨#[103, 108, 111, 98, 97, 108, 32, 103, 32, 56, 10, 102, 117, 110, 99, 32, 102, 40, 105, 56, 41, 32, 105, 56, 10, 98, 48, 58, 10, 37, 49, 32, 61, 32, 97, 100, 100, 32, 110, 115, 119, 32, 105, 56, 32, 37, 48, 44, 32, 51, 10, 115, 116, 111, 114, 101, 32, 105, 56, 32, 37, 49, 44, 32, 64, 103, 10, 114, 101, 116, 32, 105, 56, 32, 37, 49, 10, 101, 110, 100, 10]⟩ (by decide) W hK).mono fun e w' h => ?_
    obtain ⟨hB, m, hm, he, hin⟩ := h.run (by decide) (show runP 60 _ = _ from hr)
    subst hm
    have e1 : m.fs.length = 1 := by simpa [modD] using h2
    refine ⟨hB, m, ?_, ?_, ⟨by omega, ?_⟩, hin, he⟩
    · rw [hin.1.1]; exact h1
    · rw [hin.2.2.1]; exact e1
    · obtain ⟨f, ef⟩ : ∃ f, m.fs = [f] := List.length_eq_one_iff.1 e1
      have h4 : ((m.fs.map fnD).map fun f => f.bs.flatten.length) = [3] := h3
      rw [ef] at h4
      simp only [ef, List.getElem_cons_zero]
      exact (List.cons.inj h4).1
  have c2 : ∀ w, Stc w → Calls Tryz.prog 10 #[.string { data := #[103, 108, 111, 98, 97, 108, 32, 103, 32, 54, 53] }] w fun e w' => Below w.heap.size w w' ∧ e = .returned (.tuple #[.agg #[.slice none 0 0, .slice none 0 0, .slice none 0 0], .agg #[.int .i64 6, .int .i64 1, .int .i64 10]]) := fun w hw => by
    refine (Parse_any ⟨#[103, 108, 111, 98, 97, 108, 32, 103, 32, 54, 53]⟩ (by decide) w hw).mono fun e w' h => ?_
    exact h.run (by decide) (show runP 20 _ = _ from run_liveB)
  go_enter Tryz.func8, Tryz.ntmps8
  go_wp2_with (first
    | ((with_reducible refine c1.mono ?_)
       rintro e w1 ⟨hB, ⟨vp, vn, vc, vs, xp, xn, xc, xs, fp, fn, fc, fs⟩, h1, h2, ⟨h3, h4⟩, hM, rfl⟩
       simp only at h1 h2 h3 h4
       subst h1
       subst h2
       have F := (((Fr.start W).later hB).push (g := w1.heap.size) rfl [.slice vp 1 vc, .slice xp xn xc, .slice fp 1 fc] 35).push (g := w1.heap.size + 1) (by simp) [.int .i64 0, .int .i64 0, .int .i64 0] 26
       have c3 : Calls Tryz.prog 10 #[.string { data := #[103, 108, 111, 98, 97, 108, 32, 103, 32, 54, 53] }] ((w1.alloc (.cells #[.slice vp 1 vc, .slice xp xn xc, .slice fp 1 fc] 35)).alloc (.cells #[.int .i64 0, .int .i64 0, .int .i64 0] 26)) _ := c2 _ (hK.later F.1)
       have HF := Lib.hid F
       have HM := Lib.hid (And.intro h4 hM)
       clear F h4 hM))
  refine c3.mono ?_
  rintro e w2 ⟨hB2, rfl⟩
  have F := HF.out.later hB2
  obtain ⟨m0, m1, m2⟩ := F.c3 1 rfl
  obtain ⟨f0, f1, f2⟩ := F.c3 0 rfl
  have hz := (F.at 0 rfl).2.1
  have hz2 := (F.at 1 rfl).2.1
  have hb12 : Below w1.heap.size w1 w2 := (((Below.refl w1.heap.size w1).alloc (Nat.le_refl _) (.cells #[.slice vp 1 vc, .slice xp xn xc, .slice fp 1 fc] 35)).alloc (by simp) (.cells #[.int .i64 0, .int .i64 0, .int .i64 0] 26)).trans (hB2.mono (by simp; omega))
  have hFs := HM.out.2.2.2.lasts lasts_Fn hb12 hb12.size
  obtain ⟨a, ea, ha, r0, r1, r2, r3⟩ := fn_row hFs 0 h3
  have e0 : a.add (0 * 4) = a := by rw [Nat.zero_mul]; exact add_zero a
  rw [e0] at r0 r1 r2 r3
  have hFI := hFs.2.2.2.2 _ (List.getElem_mem h3)
  have h44 := HM.out.1
  obtain ⟨⟨nm, pp, pn, pc, ps, rt, bp, bn, bc, bs⟩, ef⟩ : ∃ f, fs[0] = f := ⟨_, rfl⟩
  rw [ef] at r0 r1 r2 r3 hFI h44
  simp only at r0 r1 r2 r3
  subst ea
  have P2 : Past w2.heap.size w2 ((w2.alloc (.cells #[.slice none 0 0, .slice none 0 0, .slice none 0 0] 35)).alloc (.cells #[.int .i64 6, .int .i64 1, .int .i64 10] 26)) := ((Past.refl (Nat.le_refl _)).alloc _).alloc _
  have F2 := (F.push (g := w2.heap.size) rfl [.slice none 0 0, .slice none 0 0, .slice none 0 0] 35).push (g := w2.heap.size + 1) (by simp) [.int .i64 6, .int .i64 1, .int .i64 10] 26
  have c4 := size_told ⟨nm, pp, pn, pc, ps, rt, bp, bn, bc, bs⟩ _ (past_lasts lasts_Fn hFI P2) 3 h44 (by decide)
  have c4 : Calls Tryz.prog 13 #[.agg #[.string nm, .slice pp pn pc, .int .i64 rt, .slice bp bn bc]] ((w2.alloc (.cells #[.slice none 0 0, .slice none 0 0, .slice none 0 0] 35)).alloc (.cells #[.int .i64 6, .int .i64 1, .int .i64 10] 26)) fun e w' => e = .returned (.int .i64 (3 : Nat)) ∧ Fr W [(w2.heap.size + 1, [.int .i64 6, .int .i64 1, .int .i64 10]), (w2.heap.size, [.slice none 0 0, .slice none 0 0, .slice none 0 0]), (w1.heap.size + 1, [.int .i64 0, .int .i64 0, .int .i64 0]), (w1.heap.size, [.slice vp 1 vc, .slice xp xn xc, .slice (some a) 1 fc])] w' := c4.mono fun e w' ⟨h1, h2⟩ => ⟨h1, F2.later h2⟩
  have hab : a.block < w2.heap.size := ha
  clear F F2 P2 hFs hFI h44 HF HM ef hB hB2 hb12 ha
  go_wp2_with (first
    | ((with_reducible refine c4.mono ?_)
       rintro e w3 ⟨rfl, F3⟩
       obtain ⟨g0, g1, g2⟩ := F3.c3 0 rfl))
  go_ret
  exact ⟨rfl, F3.1⟩
end Go.Proofs.YtjomihlnjobndaaGreatDoor
