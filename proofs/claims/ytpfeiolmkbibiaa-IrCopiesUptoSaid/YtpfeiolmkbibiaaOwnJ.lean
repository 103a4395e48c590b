/- How often registers are used: counting; the program's functions of a function in memory. -/
import Derived.Test.YtpfeiolmkbibiaaOwnH
import Derived.Test.YtpfeiolmkbibiaaOwnI
namespace Go.Proofs.Ytpfeiolmkbibiaa
open Go.RowKit Go.Maps
set_option linter.unusedVariables false
set_option linter.unusedSimpArgs false

set_option maxRecDepth 100000 in
set_option maxHeartbeats 4000000 in
theorem Few_1500 (W : World) (g : Nat) (s0 : ByteArray) (p1 : Option Addr) (n1 c1 : Nat) (rt : Int) (p2 : Option Addr) (n2 c2 : Nat) (l : List (List Ins)) (hg : g < W.heap.size)
    (f0 : W.cell? ⟨g, 0, none⟩ = some (.string s0)) (f1 : W.cell? ⟨g, 1, none⟩ = some (.slice p1 n1 c1)) (f2 : W.cell? ⟨g, 2, none⟩ = some (.int .i64 rt)) (f3 : W.cell? ⟨g, 3, none⟩ = some (.slice p2 n2 c2))
    (hl : BlocksAt W.heap.size W (.slice p2 n2 c2) l) (hn : cnt l.flatten + n1 ≤ 1048576) :
    Calls Try.prog 19 #[.agg #[.slice none 0 0, .slice none 0 0, .slice (some ⟨g, 0, none⟩) 1 1], .int .i64 1500] W (SomeBool W) := by
  obtain ⟨p, cap, he, hc1, hc2, hbl⟩ := hl
  injection he with he1 he2 he3
  subst he1 he2 he3
  unfold maxLen at hc2
  have HBL := Lib.hid hbl
  have HN := Lib.hid hn
  clear hbl hn
  go_enter Try.func19, Try.ntmps19
  go_wp2_with fail
  refine wp_loop_rounds 1 ?_
  rw [rounds_succ]
  go_wp2_with fail
  refine wp_loop_rounds 2 ?_
  rw [rounds_succ]
  go_wp2_with fail
  have hP : Past W.heap.size W ((W.alloc (.cells #[.slice none 0 0, .slice none 0 0, .slice (some ⟨g, 0, none⟩) 1 1] 34)).alloc (.cells #[.string s0, .slice p1 n1 c1, .int .i64 rt, .slice p2 l.length c2] 41)) := ((Past.refl (Nat.le_refl _)).alloc _).alloc _
  go_loopw [5, 57] (fun m t wr => ∃ (v : Int) (b : Nat), b ≤ l.length ∧ m = .int .i64 v ∧ t = .int .i64 b ∧ Past W.heap.size W wr) (fun _ t _ => l.length - (intOf t).toNat)
  case atStart => exact ⟨_, 0, Nat.zero_le _, rfl, rfl, hP⟩
  case round =>
    obtain ⟨v, b, hb, rfl, rfl, hbe⟩ := hrel
    by_cases hlt : b < l.length
    · obtain ⟨a, x, rfl, hab, hcell, hcode⟩ := HBL.out b hlt
      obtain ⟨q2, cap2, rfl, hd1, hd2, hcd⟩ := hcode
      unfold maxLen at hd2
      have k1 : wr.cell? (a.add b) = some (.slice q2 l[b].length cap2) := (hbe.2.cell (p := a.add b) (by rw [add_block]; exact hab)).trans hcell
      have HCD := Lib.hid hcd
      have b1 := hbe.alloc (.cells #[.slice q2 l[b].length cap2] 67)
      clear hcd hcell
      go_wp2_with fail
      go_loopw [5, 69] (fun m t wi => ∃ (v : Int) (k : Nat), k ≤ l[b].length ∧ m = .int .i64 v ∧ t = .int .i64 k ∧ Past W.heap.size W wi) (fun _ t _ => l[b].length - (intOf t).toNat)
      case atStart => exact ⟨_, 0, Nat.zero_le _, rfl, rfl, b1⟩
      case round =>
        obtain ⟨v2, k, hk, rfl, rfl, hbi⟩ := hrel
        by_cases hkl : k < l[b].length
        · obtain ⟨a2, rfl, ha2, hins⟩ := HCD.out k hkl
          obtain ⟨z0, z1, z2, z3, z4, z5, z6⟩ := hins.below hbi.2 (by rw [add_block]; exact ha2)
          clear hins
          go_wp2_with fail
          · go_ret
            exact ⟨false, rfl, (hbi.alloc _).2⟩
          · exact ⟨⟨_, k + 1, by omega, rfl, by go_num, hbi.alloc _⟩, by simp [intOf]; omega⟩
        · obtain rfl : k = l[b].length := by omega
          go_wp2_with fail
          exact ⟨⟨_, b + 1, by omega, rfl, by go_num, hbi⟩, by simp [intOf]; omega⟩
    · obtain rfl : b = l.length := by omega
      go_wp2_with fail
      rw [rounds_succ]
      go_wp2_with fail
      go_ret
      exact ⟨_, rfl, hbe.2⟩

/-! Counting. -/
def nsI (l : List Ins) : List Int := l.flatMap fun d => nmA d.args
theorem usesIn_count (r : Int) (l : List Arg) : usesIn r l = (nmA l).count r := by
  induction l with
  | nil => rfl
  | cons v l ih =>
    unfold usesIn nmA at *
    rw [List.filter_cons, List.filter_cons]
    unfold isU at *
    by_cases hk : v.kind = 1
    · have hk2 : (v.kind == 1) = true := by simpa using hk
      rw [hk2, Bool.true_and, if_pos rfl, List.map_cons, List.count_cons, ← ih]
      by_cases hn : v.n = r
      · have hn2 : (v.n == r) = true := by simpa using hn
        rw [hn2, if_pos rfl, if_pos rfl, List.length_cons]
      · have hn2 : (v.n == r) = false := by simpa using hn
        rw [hn2]
        simp
    · have hk2 : (v.kind == 1) = false := by simpa using hk
      rw [hk2, Bool.false_and]
      simpa using ih
theorem usesOf_count (r : Int) (l : List Ins) : usesOf r l = (nsI l).count r := by
  induction l with
  | nil => rfl
  | cons d l ih =>
    have e : nsI (d :: l) = nmA d.args ++ nsI l := rfl
    rw [e, List.count_append, ← ih, ← usesIn_count]
    rfl
theorem nsI_app (l m : List Ins) : nsI (l ++ m) = nsI l ++ nsI m := by unfold nsI; rw [List.flatMap_append]
theorem nmA_le (l : List Arg) : (nmA l).length ≤ l.length := by unfold nmA; rw [List.length_map]; exact List.length_filter_le _ _
theorem nsI_le (l : List Ins) : (nsI l).length ≤ argsNum l := by
  induction l with
  | nil => exact Nat.le_refl _
  | cons d l ih =>
    have e : nsI (d :: l) = nmA d.args ++ nsI l := rfl
    have h := nmA_le d.args
    have e2 : argsNum (d :: l) = d.args.length + argsNum l := rfl
    rw [e, List.length_append, e2]
    omega
def cntIn (ns P : List Int) : Nat := ns.countP fun x => P.contains x
theorem cntIn_le (ns P : List Int) : cntIn ns P ≤ ns.length := List.countP_le_length
theorem cntIn_nil (ns : List Int) : cntIn ns [] = 0 := by
  unfold cntIn
  rw [List.countP_eq_zero]
  intro a _
  simp
theorem cntIn_old (ns P : List Int) (n : Int) (h : P.contains n = true) : cntIn ns (P ++ [n]) = cntIn ns P := by
  unfold cntIn
  apply List.countP_congr
  intro x _
  have hm : n ∈ P := by simpa using h
  simp only [List.contains_iff_mem, List.mem_append, List.mem_singleton]
  exact ⟨fun hx => hx.elim id (fun e => by rw [e]; exact hm), fun hx => Or.inl hx⟩
theorem cntIn_new (ns P : List Int) (n : Int) (h : P.contains n = false) : cntIn ns (P ++ [n]) = cntIn ns P + ns.count n := by
  have hm : n ∉ P := by
    intro hm
    rw [List.contains_iff_mem.2 hm] at h
    cases h
  unfold cntIn
  induction ns with
  | nil => rfl
  | cons x ns ih =>
    rw [List.countP_cons, List.countP_cons, List.count_cons, ih]
    by_cases hx : x = n
    · subst hx
      have h1 : (P ++ [x]).contains x = true := by simp
      rw [h1, h]
      simp
      omega
    · have h1 : (P ++ [n]).contains x = P.contains x := by
        rw [Bool.eq_iff_iff]
        simp [hx]
      have h2 : (x == n) = false := by simpa using hx
      rw [h1, h2]
      simp
      omega
theorem cntIn_all (ns : List Int) : cntIn ns ns = ns.length := by
  unfold cntIn
  rw [List.countP_eq_length]
  intro a ha
  simpa using ha

/-! The functions, at a function that lies in memory. -/
def usesP (r : Int) (f : PFn) : Nat := (f.bs.flatten.map fun x => usesIn r x.args).sum
def sizeP (f : PFn) : Nat := f.bs.flatten.length
theorem located_flat (bs : List LB) {β : Type} (g : Ins → β) (g' : PIns → β) (h : ∀ x, g x.1 = g' (insD x)) : (located bs).flatten.map g = (bs.map blkD).flatten.map g' := by
  unfold located
  rw [List.map_flatten, List.map_flatten, List.map_map, List.map_map]
  congr 1
  apply List.map_congr_left
  intro c _
  simp only [Function.comp, blkD, List.map_map]
  apply List.map_congr_left
  intro x _
  exact h x
theorem usesOf_located (r : Int) (f : LFn) : usesOf r (located f.bs).flatten = usesP r (fnD f) := by
  unfold usesOf usesP
  rw [located_flat f.bs (fun d => usesIn r d.args) (fun x => usesIn r x.args) (fun _ => rfl)]
  rfl
theorem size_located (f : LFn) : (located f.bs).flatten.length = sizeP (fnD f) := by
  have h := congrArg List.length (located_flat f.bs (fun _ => ()) (fun _ => ()) (fun _ => rfl))
  rw [List.length_map, List.length_map] at h
  exact h
theorem flat_sum (bs : List (List PIns)) (g : PIns → Nat) : (bs.flatten.map g).sum = (bs.map fun c => (c.map g).sum).sum := by
  induction bs with
  | nil => rfl
  | cons c bs ih => rw [List.flatten_cons, List.map_append, List.sum_append, ih, List.map_cons, List.sum_cons]
theorem cnt_located (f : LFn) : cnt (located f.bs).flatten + f.ps.length ≤ fnZ (fnD f) := by
  unfold cnt argsNum
  have e1 := size_located f
  have e2 := located_flat f.bs (fun d => d.args.length) (fun x => x.args.length) (fun _ => rfl)
  rw [e1, e2]
  unfold sizeP fnZ blksZ codeZ
  show (f.bs.map blkD).flatten.length + ((f.bs.map blkD).flatten.map fun x => x.args.length).sum + f.ps.length ≤ 1 + f.ps.length + ((f.bs.map blkD).map fun c => 1 + (c.map insZ).sum).sum
  generalize f.bs.map blkD = B
  have h1 : B.flatten.length = (B.flatten.map fun _ => 1).sum := (sum_one _).symm
  rw [h1, flat_sum, flat_sum]
  have key : ∀ B : List (List PIns), (B.map fun c => (c.map fun _ => 1).sum).sum + (B.map fun c => (c.map fun x => x.args.length).sum).sum ≤ (B.map fun c => 1 + (c.map insZ).sum).sum := by
    intro B
    induction B with
    | nil => exact Nat.le_refl _
    | cons c B ih =>
      simp only [List.map_cons, List.sum_cons]
      have : (c.map fun _ => 1).sum + (c.map fun x => x.args.length).sum ≤ (c.map insZ).sum := by
        clear ih
        induction c with
        | nil => exact Nat.le_refl _
        | cons x c ih2 =>
          simp only [List.map_cons, List.sum_cons]
          have : 1 + x.args.length ≤ insZ x := by unfold insZ; omega
          omega
      omega
  have := key B
  omega
theorem uses_in {f : LFn} (r : Int) {w : World} (h : FnIn w.heap.size w f) (hz : fnZ (fnD f) ≤ 1048576) :
    Calls Try.prog 31 #[.agg (fnC f).toArray, .int .i64 r] w fun e w' => e = .returned (.int .i64 (usesP r (fnD f) : Nat)) ∧ Below w.heap.size w w' := by
  have hc := cnt_located f
  exact Uses_any w.heap.size (located f.bs) w f.rt r f.nm f.pp f.pn f.pc f.bp f.bn f.bc (Nat.le_refl _) (blocksAt_in h.2) (allArgs_in h.2) _ (usesOf_located r f) (by unfold cnt at hc; omega)
theorem size_in {f : LFn} {w : World} (h : FnIn w.heap.size w f) (hz : fnZ (fnD f) ≤ 1048576) :
    Calls Try.prog 28 #[.agg (fnC f).toArray] w fun e w' => e = .returned (.int .i64 (sizeP (fnD f) : Nat)) ∧ Below w.heap.size w w' := by
  have hc := cnt_located f
  exact Size_any w.heap.size (located f.bs) w (.bool true) (.bool true) f.rt f.nm f.pp f.pn f.pc f.bp f.bn f.bc (Nat.le_refl _) (blocksAt_in h.2) _ (size_located f) (by rw [← size_located f]; unfold cnt at hc; omega)
theorem usesIn_rep (r reg : Int) (v : Arg) (l : List Arg) : usesIn r (l.map (rp reg v)) = (if r = reg then 0 else usesIn r l) + (if isU r v then usesIn reg l else 0) := by
  induction l with
  | nil => simp [usesIn]
  | cons a l ih =>
    have e1 : usesIn r ((a :: l).map (rp reg v)) = (if isU r (rp reg v a) then 1 else 0) + usesIn r (l.map (rp reg v)) := by
      unfold usesIn; rw [List.map_cons, List.filter_cons]; split <;> simp <;> omega
    have e2 : ∀ q, usesIn q (a :: l) = (if isU q a then 1 else 0) + usesIn q l := by
      intro q; unfold usesIn; rw [List.filter_cons]; split <;> simp <;> omega
    rw [e1, ih, e2 r, e2 reg]
    unfold rp
    by_cases ha : isU reg a = true
    · rw [if_pos ha]
      by_cases hr : r = reg
      · subst hr
        rw [if_pos rfl, if_pos rfl, if_pos ha]
        split <;> omega
      · have : isU r a = false := by
          unfold isU at ha ⊢
          simp only [Bool.and_eq_true, beq_iff_eq] at ha
          rw [Bool.eq_false_iff]
          intro hx
          simp only [Bool.and_eq_true, beq_iff_eq] at hx
          omega
        rw [if_neg hr, if_neg hr, this, if_pos ha]
        cases isU r v <;> simp <;> omega
    · rw [if_neg ha, if_neg ha]
      by_cases hr : r = reg
      · subst hr
        rw [if_neg ha, if_pos rfl, if_pos rfl]
        split <;> omega
      · rw [if_neg hr, if_neg hr]
        cases isU r v <;> cases isU r a <;> simp <;> omega
theorem usesP_rep (r reg : Int) (v : Arg) (f : PFn) : usesP r (repF reg v f) = (if r = reg then 0 else usesP r f) + (if isU r v then usesP reg f else 0) := by
  have e : ((f.bs.map fun c => c.map (repI reg v)).flatten.map fun x => usesIn r x.args) = f.bs.flatten.map fun x => usesIn r (x.args.map (rp reg v)) := by
    rw [List.map_flatten, List.map_flatten, List.map_map]
    congr 1
    apply List.map_congr_left
    intro c _
    simp only [Function.comp, List.map_map]
    rfl
  unfold usesP repF
  simp only [e]
  generalize f.bs.flatten = L
  induction L with
  | nil => simp
  | cons x L ih =>
    rw [List.map_cons, List.sum_cons, ih, usesIn_rep, List.map_cons, List.sum_cons, List.map_cons, List.sum_cons]
    split <;> split <;> omega
theorem sizeP_rep (reg : Int) (v : Arg) (f : PFn) : sizeP (repF reg v f) = sizeP f := by
  unfold sizeP repF
  simp only [List.length_flatten, List.map_map]
  congr 1
  apply List.map_congr_left
  intro c _
  simp
theorem fnZ_rep (reg : Int) (v : Arg) (f : PFn) : fnZ (repF reg v f) = fnZ f := by
  unfold fnZ repF blksZ codeZ
  simp only [List.map_map]
  congr 2
  apply List.map_congr_left
  intro c _
  simp only [Function.comp, List.map_map]
  congr 2
  apply List.map_congr_left
  intro x _
  simp [Function.comp, insZ, repI]
end Go.Proofs.Ytpfeiolmkbibiaa
