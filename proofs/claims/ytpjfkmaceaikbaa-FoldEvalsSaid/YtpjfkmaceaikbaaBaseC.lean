/- What this seat takes of layer 2's texts (BaseC) -/
import Derived.Test.YtpjfkmaceaikbaaBaseB
import Derived.Maps.AppendAt
import Derived.Deep.RegionHeld3
namespace Go.Proofs.Ytpjfkmaceaikbaa
open Go.RowKit Go.Maps Go.ChangeShapes Go.WideShapes Go.Deep
set_option linter.unusedVariables false
set_option linter.unusedSimpArgs false

/-- The rows of the blocks, no operand. -/
def BlkRow (B : Nat) (w : World) (c : LB) : Prop := ListIn liC NoMem B w c.p c.n c.k c.code
theorem li_row {B : Nat} {w : World} {p : Option Addr} {n c : Nat} {L : List LI} {E : Nat → World → LI → Prop} (h : ListIn liC E B w p n c L) (i : Nat) (hi : i < L.length) :
    ∃ a, p = some a ∧ a.block < B ∧ InsAt w (a.add (i * 7)) L[i].1 := by
  obtain ⟨h1, h2, h3, h4, -⟩ := h
  obtain ⟨a, e, ha, hc⟩ := h4.at (m := 7) (fun _ => rfl) i hi (by decide)
  refine ⟨a, e, ha, hc 0 (by decide), ?_, ?_, ?_, ?_, ?_, ?_⟩
  · have := hc 1 (by decide); rw [add_add a _ 1 (by decide)] at this; exact this
  · have := hc 2 (by decide); rw [add_add a _ 2 (by decide)] at this; exact this
  · have := hc 3 (by decide); rw [add_add a _ 3 (by decide)] at this; exact this
  · have := hc 4 (by decide); rw [add_add a _ 4 (by decide)] at this; exact this
  · have := hc 5 (by decide); rw [add_add a _ 5 (by decide)] at this; exact this
  · have := hc 6 (by decide); rw [add_add a _ 6 (by decide)] at this; exact this
theorem blk_row {B : Nat} {w : World} {p : Option Addr} {n c : Nat} {L : List LB} {E : Nat → World → LB → Prop} (h : ListIn blkC E B w p n c L) (i : Nat) (hi : i < L.length) :
    ∃ a, p = some a ∧ a.block < B ∧ w.cell? (a.add i) = some (.slice L[i].p L[i].n L[i].k) := by
  obtain ⟨h1, h2, h3, h4, -⟩ := h
  obtain ⟨a, e, ha, hc⟩ := h4.at (m := 1) (fun _ => rfl) i hi (by decide)
  refine ⟨a, e, ha, ?_⟩
  have := hc 0 (by decide)
  rw [Nat.mul_one, Nat.add_zero] at this
  exact this
theorem argC_one1 (v : Arg) : ∀ u ∈ argC v, u.oneCell' = true := by intro u hu; unfold argC at hu; simp at hu; rcases hu with rfl | rfl | rfl <;> rfl
def rp (reg : Int) (v : Arg) (a : Arg) : Arg := if isU reg a then v else a
def rl (reg : Int) (v : Arg) (l : List Arg) (k : Nat) : List Arg := (l.take k).map (rp reg v) ++ l.drop k
theorem rl_len (reg : Int) (v : Arg) (l : List Arg) (k : Nat) (h : k ≤ l.length) : (rl reg v l k).length = l.length := by unfold rl; simp; omega
theorem rl_0 (reg : Int) (v : Arg) (l : List Arg) : rl reg v l 0 = l := by simp [rl]
theorem rl_all (reg : Int) (v : Arg) (l : List Arg) : rl reg v l l.length = l.map (rp reg v) := by simp [rl]
theorem rl_get (reg : Int) (v : Arg) (l : List Arg) (k : Nat) (h : k < l.length) (h' : k < (rl reg v l k).length) : (rl reg v l k)[k] = l[k] := by
  have e : ((l.take k).map (rp reg v)).length = k := by simp; omega
  have h2 : (rl reg v l k)[k]? = some l[k] := by
    unfold rl
    rw [List.getElem?_append_right (by omega), e, Nat.sub_self, List.getElem?_drop, Nat.add_zero, List.getElem?_eq_getElem h]
  rw [List.getElem?_eq_getElem h'] at h2
  exact Option.some.inj h2
theorem rl_succ (reg : Int) (v : Arg) (l : List Arg) (k : Nat) (h : k < l.length) : rl reg v l (k + 1) = (rl reg v l k).set k (rp reg v l[k]) := by
  unfold rl
  have e : ((l.take k).map (rp reg v)).length = k := by simp; omega
  rw [List.set_append_right _ _ (by omega), e, Nat.sub_self, List.drop_eq_getElem_cons h, List.set_cons_zero, List.take_succ_eq_append_getElem h, List.map_append, List.append_assoc]
  rfl
theorem rl_same (reg : Int) (v : Arg) (l : List Arg) (k : Nat) (h : k < l.length) (hu : isU reg l[k] = false) : rl reg v l (k + 1) = rl reg v l k := by
  have h' : k < (rl reg v l k).length := by rw [rl_len _ _ _ _ (Nat.le_of_lt h)]; exact h
  rw [rl_succ reg v l k h]
  have e : rp reg v l[k] = (rl reg v l k)[k] := by rw [rl_get _ _ _ _ h]; unfold rp; rw [hu]; rfl
  rw [e, List.set_getElem_self]
theorem Box.kept {g : Nat} {cs : List Value} {w w' : World} {row : Option Nat} (h : Box g cs w) (hg : w.grownBy w' row) (hne : some g ≠ row) : Box g cs w' :=
  ⟨Nat.lt_of_lt_of_le h.1 hg.size, fun i => (World.frozen?_of_block (w := w) (hg.block g h.1 hne)).trans (h.2.1 i), fun i u e => (World.cell?_of_block (w := w) (hg.block g h.1 hne)).trans (h.2.2 i u e)⟩
theorem grown_alloc {w w' : World} {row : Option Nat} (h : w.grownBy w' row) (o : Obj) : w.grownBy (w'.alloc o) row := h.trans (World.grownBy_alloc w' o row)
theorem grown_drew {w w' : World} {row : Option Nat} (h : w.grownBy w' row) : w.grownBy w'.drew row := ⟨h.os, h.tape, h.output, h.size, h.block⟩
theorem Box.drew {g : Nat} {cs : List Value} {w : World} (h : Box g cs w) : Box g cs w.drew := h
theorem grown_setCells {g : Nat} : ∀ (cs : List Value) (o : Nat) {w w' : World}, w.grownBy w' (some g) → w.grownBy (w'.setCells g o cs) (some g)
  | [], _, _, _, h => h
  | c :: r, o, w, w', h => by
    unfold World.setCells
    refine grown_setCells r (o + 1) (h.trans ⟨rfl, rfl, rfl, by simp [World.setCell], fun k hk hne => Below.heap_setCell _ _ _ _ (fun e => hne (by rw [e]))⟩)
/-- One element, and nothing outside its memory, is turned. -/
theorem ListOwn.upd {α : Type} {ty m : Nat} {cel : α → List Value} {Q : Nat → Nat → World → α → Prop} (hQ : Local Q) {a b : Nat} {w : World} {p : Option Addr} {n c : Nat} {xs : List α} (h : ListOwn ty m cel Q a b w p n c xs) (i : Nat) (hi : i < xs.length) :
    ∃ a' b', a ≤ a' ∧ a' ≤ b' ∧ b' ≤ b ∧ Q a' b' w xs[i] ∧ ∀ w' y, cel y = cel xs[i] → (∀ k, a ≤ k → k < b → (k < a' ∨ b' ≤ k) → w'.heap[k]? = w.heap[k]?) → Q a' b' w' y → ListOwn ty m cel Q a b w' p n c (xs.set i y) := by
  obtain ⟨h1, h2, h3, h4⟩ := h
  obtain ⟨a', b', k1, k2, k3, k4, k5, k6⟩ := h4.at hQ i hi
  refine ⟨a', b', k1, k2, k3, k5, fun w' y hc hs hq => ⟨by rw [List.length_set]; exact h1, ?_, h3, k6 w' y (fun k p q r s => hs k p q s) hq⟩⟩
  have e : (xs.set i y).flatMap cel = xs.flatMap cel := by
    rw [List.flatMap, List.flatMap, List.map_set, hc]
    congr 1
    have : (xs.map cel)[i]'(by simpa using hi) = cel xs[i] := by simp
    rw [← this, List.set_getElem_self]
  rw [e]
  refine ⟨h2.1, ?_⟩
  rcases h2.2 with hn | ⟨g, cap, cur, hv, hB, hg, r⟩
  · exact .inl hn
  · have hgb : (Value.slice p n c).ownBlock = some g := by rw [hv]; rfl
    exact .inr ⟨g, cap, cur, hv, hB, (hs g hB (h3 g hgb) (k4 g hgb)).trans hg, r⟩
/-- The instructions ahead of place (b, k), turned by f. -/
def cur (f : LI → LI) (bs : List LB) (b k : Nat) : List LB := bs.mapIdx fun i c => { c with code := c.code.mapIdx fun j x => if i < b ∨ i = b ∧ j < k then f x else x }
theorem cur_len (f : LI → LI) (bs : List LB) (b k : Nat) : (cur f bs b k).length = bs.length := by simp [cur]
theorem cur_0 (f : LI → LI) (bs : List LB) : cur f bs 0 0 = bs := by
  unfold cur
  apply List.ext_getElem?
  intro i
  rw [List.getElem?_mapIdx]
  cases h : bs[i]? with
  | none => rfl
  | some c =>
    simp only [Option.map_some]
    congr 1
    have : (c.code.mapIdx fun j x => if i < 0 ∨ i = 0 ∧ j < 0 then f x else x) = c.code := by
      apply List.ext_getElem?
      intro j
      rw [List.getElem?_mapIdx]
      cases c.code[j]? <;> simp
    rw [this]
theorem cur_next (f : LI → LI) (bs : List LB) (b : Nat) (h : b < bs.length) : cur f bs (b + 1) 0 = cur f bs b bs[b].code.length := by
  unfold cur
  apply List.ext_getElem?
  intro i
  rw [List.getElem?_mapIdx, List.getElem?_mapIdx]
  cases hc : bs[i]? with
  | none => rfl
  | some c =>
    simp only [Option.map_some]
    congr 2
    apply List.ext_getElem?
    intro j
    rw [List.getElem?_mapIdx, List.getElem?_mapIdx]
    cases hx : c.code[j]? with
    | none => rfl
    | some x =>
      have hj := (List.getElem?_eq_some_iff.1 hx).1
      simp only [Option.map_some]
      congr 1
      by_cases hib : i = b
      · subst hib
        rw [List.getElem?_eq_getElem h] at hc
        have e : bs[i] = c := Option.some.inj hc
        rw [if_pos (by omega), if_pos (by rw [e]; omega)]
      · by_cases hlt : i < b
        · rw [if_pos (by omega), if_pos (by omega)]
        · rw [if_neg (by omega), if_neg (by omega)]
theorem cur_all (f : LI → LI) (bs : List LB) : cur f bs bs.length 0 = bs.map fun c => { c with code := c.code.map f } := by
  unfold cur
  apply List.ext_getElem?
  intro i
  rw [List.getElem?_mapIdx, List.getElem?_map]
  cases hc : bs[i]? with
  | none => rfl
  | some c =>
    have hi := (List.getElem?_eq_some_iff.1 hc).1
    simp only [Option.map_some]
    congr 2
    apply List.ext_getElem?
    intro j
    rw [List.getElem?_mapIdx, List.getElem?_map]
    cases hx : c.code[j]? with
    | none => rfl
    | some x => simp [hi]
theorem cur_get (f : LI → LI) (bs : List LB) (b k i : Nat) (h : i < bs.length) : (cur f bs b k)[i]'(by rw [cur_len]; exact h) = { bs[i] with code := bs[i].code.mapIdx fun j x => if i < b ∨ i = b ∧ j < k then f x else x } := by
  simp [cur]
theorem cur_succ (f : LI → LI) (bs : List LB) (b k : Nat) (h : b < bs.length) (hk : k < bs[b].code.length) :
    cur f bs b (k + 1) = (cur f bs b k).set b { bs[b] with code := (bs[b].code.mapIdx fun j x => if b < b ∨ b = b ∧ j < k then f x else x).set k (f bs[b].code[k]) } := by
  apply List.ext_getElem?
  intro i
  rw [List.getElem?_set]
  by_cases hib : b = i
  · subst hib
    rw [if_pos rfl, if_pos (by rw [cur_len]; exact h)]
    rw [List.getElem?_eq_getElem (by rw [cur_len]; exact h), cur_get _ _ _ _ _ h]
    refine congrArg some (congrArg (fun c => ({ bs[b] with code := c } : LB)) ?_)
    apply List.ext_getElem?
    intro j
    rw [List.getElem?_set, List.getElem?_mapIdx, List.getElem?_mapIdx, List.length_mapIdx]
    by_cases hj : k = j
    · subst hj
      rw [if_pos rfl, if_pos hk, List.getElem?_eq_getElem hk]
      simp
    · rw [if_neg hj]
      cases hx : bs[b].code[j]? with
      | none => rfl
      | some x =>
        simp only [Option.map_some, Nat.lt_irrefl, true_and, false_or]
        congr 1
        by_cases hl : j < k
        · rw [if_pos (by omega), if_pos (by omega)]
        · rw [if_neg (by omega), if_neg (by omega)]
  · rw [if_neg hib]
    unfold cur
    rw [List.getElem?_mapIdx, List.getElem?_mapIdx]
    cases hc : bs[i]? with
    | none => rfl
    | some c =>
      simp only [Option.map_some]
      congr 2
      apply List.ext_getElem?
      intro j
      rw [List.getElem?_mapIdx, List.getElem?_mapIdx]
      cases hx : c.code[j]? with
      | none => rfl
      | some x =>
        simp only [Option.map_some]
        congr 1
        by_cases hl : i < b
        · rw [if_pos (by omega), if_pos (by omega)]
        · rw [if_neg (by omega), if_neg (by omega)]
/-- The first k instructions of a block, turned by f. -/
def pre (f : LI → LI) (L : List LI) (k : Nat) : List LI := L.mapIdx fun j x => if j < k then f x else x
theorem pre_len (f : LI → LI) (L : List LI) (k : Nat) : (pre f L k).length = L.length := by simp [pre]
theorem pre_get (f : LI → LI) (L : List LI) (k : Nat) (h : k < L.length) (h' : k < (pre f L k).length) : (pre f L k)[k] = L[k] := by simp [pre]
theorem cur_at (f : LI → LI) (bs : List LB) (b k : Nat) (h : b < bs.length) : (cur f bs b k)[b]? = some { bs[b] with code := pre f bs[b].code k } := by
  rw [List.getElem?_eq_getElem (by rw [cur_len]; exact h), cur_get _ _ _ _ _ h]
  refine congrArg some (congrArg (fun c => ({ bs[b] with code := c } : LB)) ?_)
  simp [pre]
theorem cur_set (f : LI → LI) (bs : List LB) (b k : Nat) (h : b < bs.length) (hk : k < bs[b].code.length) :
    cur f bs b (k + 1) = (cur f bs b k).set b { bs[b] with code := (pre f bs[b].code k).set k (f bs[b].code[k]) } := by
  rw [cur_succ f bs b k h hk]
  refine congrArg (fun c => (cur f bs b k).set b ({ bs[b] with code := c } : LB)) ?_
  simp [pre]
theorem flat_same {α : Type} {cel : α → List Value} : ∀ {xs ys : List α}, xs.length = ys.length → (∀ (i : Nat) (x y : α), xs[i]? = some x → ys[i]? = some y → cel x = cel y) → xs.flatMap cel = ys.flatMap cel
  | [], [], _, _ => rfl
  | x :: xs, y :: ys, hl, h => by
    rw [List.flatMap_cons, List.flatMap_cons, h 0 x y rfl rfl, flat_same (by simpa using hl) (fun i a b p q => h (i + 1) a b (by simpa using p) (by simpa using q))]
/-- The rows of what is turned are the rows of what was. -/
theorem cur_rows {f : LI → LI} (hf : ∀ x, liC (f x) = liC x) {B : Nat} {w : World} {p : Option Addr} {n c : Nat} {bs : List LB} {b k : Nat} (h : ListIn blkC BlkIn B w p n c (cur f bs b k)) : ListIn blkC BlkRow B w p n c bs := by
  obtain ⟨h1, h2, h3, h4, h5⟩ := h
  refine ⟨by rw [h1, cur_len], h2, h3, ?_, fun x hx => ?_⟩
  · have e : (cur f bs b k).flatMap blkC = bs.flatMap blkC := flat_same (cur_len f bs b k) (fun i x y hx hy => by
      unfold cur at hx
      rw [List.getElem?_mapIdx, hy] at hx
      cases hx
      rfl)
    rw [← e]; exact h4
  · obtain ⟨i, hi, rfl⟩ := List.mem_iff_getElem.1 hx
    have h' := h5 ((cur f bs b k)[i]'(by rw [cur_len]; exact hi)) (List.getElem_mem _)
    rw [cur_get _ _ _ _ _ hi] at h'
    obtain ⟨k1, k2, k3, k4, k5⟩ := h'
    refine ⟨by rw [← List.length_mapIdx]; exact k1, k2, k3, ?_, fun _ _ => trivial⟩
    have e : (bs[i].code.mapIdx fun j x => if i < b ∨ i = b ∧ j < k then f x else x).flatMap liC = bs[i].code.flatMap liC := flat_same (by simp) (fun j x y hx hy => by
      rw [List.getElem?_mapIdx, hy] at hx
      simp only [Option.map_some, Option.some.injEq] at hx
      subst hx
      split
      · exact hf y
      · rfl)
    rw [← e]; exact k4
def lrep (reg : Int) (v : Arg) (x : LI) : LI := ({ x.1 with args := x.1.args.map (rp reg v) }, x.2)
def repI (reg : Int) (v : Arg) (x : PIns) : PIns := { x with args := x.args.map (rp reg v) }
def repF (reg : Int) (v : Arg) (f : PFn) : PFn := { f with bs := f.bs.map fun c => c.map (repI reg v) }
theorem rep_data (reg : Int) (v : Arg) (bs : List LB) : (bs.map fun c => { c with code := c.code.map (lrep reg v) }).map blkD = (bs.map blkD).map fun c => c.map (repI reg v) := by
  rw [List.map_map, List.map_map]
  apply List.map_congr_left
  intro c _
  simp only [Function.comp, blkD, List.map_map]
  rfl
theorem Past.kept {B : Nat} {W w w' : World} {row : Option Nat} (h : Past B W w) (hg : w.grownBy w' row) (hr : ∀ g, row = some g → B ≤ g) : Past B W w' := h.grownRow hg hr
theorem grown_stay {a b : Nat} {w w' : World} {row : Option Nat} (hg : w.grownBy w' row) (hb : b ≤ w.heap.size) (hr : ∀ g, row = some g → b ≤ g ∨ g < a) : Stay a b w w' := fun k h1 h2 => hg.block k (by omega) (fun e => by have := hr k e.symm; omega)
def wfI (n : Int) : Prop := (Lit.int .i64 n).wf = true
def InsWf (x : LI) : Prop := wfI x.1.reg ∧ ∀ a ∈ x.1.args, wfI a.n
def BlkWf (c : LB) : Prop := ∀ x ∈ c.code, InsWf x
def FnWf (f : LFn) : Prop := ∀ c ∈ f.bs, BlkWf c
instance : Inhabited LI := ⟨(default, [])⟩
instance : Inhabited LB := ⟨⟨none, 0, 0, []⟩⟩
instance : Inhabited LFn := ⟨⟨⟨#[]⟩, none, 0, 0, [], 0, none, 0, 0, []⟩⟩
instance : Inhabited LExt := ⟨⟨⟨#[]⟩, none, 0, 0, [], 0⟩⟩
instance : Inhabited PVar := ⟨⟨⟨#[]⟩, 0⟩⟩
theorem cellAt_of {w : World} {a : Addr} {i m : Nat} {cs : List Value} (h : ∀ j (hj : j < m), w.cell? ((a.add (i * m)).add j) = cs[j]?) : ∀ r, r < m → w.cell? (a.add (i * m + r)) = cs[r]? := by
  intro r hr
  have h1 := h r hr
  have e : (a.add (i * m)).add r = a.add (i * m + r) := by
    by_cases h0 : r = 0
    · subst h0; rw [add_zero, Nat.add_zero]
    · rw [add_pos _ r h0, add_add a _ r h0]
  rw [e] at h1
  exact h1
theorem insIn_of {B : Nat} {W : World} {d : Ins} {ts : List Int} (ha : ArgsAt B W d) (ht : IntsAt B W d.tp d.tl d.tc ts) : InsIn B W (d, ts) := by
  obtain ⟨a1, a2, a3, a4⟩ := ha
  obtain ⟨t1, t2, t3, t4⟩ := ht
  refine ⟨⟨a1, a2, a3, rowAt_of (m := 3) (fun _ => rfl) (by decide) (fun i hi => ?_), fun _ _ => trivial⟩, ⟨t1.symm, t2, t3, rowAt_of (m := 1) (fun _ => rfl) (by decide) (fun i hi => ?_), fun _ _ => trivial⟩⟩
  · obtain ⟨a, e, hb, h0, h1, h2⟩ := a4 i hi
    refine ⟨a, e, hb, fun r hr => ?_⟩
    rcases (show r = 0 ∨ r = 1 ∨ r = 2 by omega) with rfl | rfl | rfl
    · rw [Nat.add_zero]; exact h0
    · rw [add_add a _ 1 (by decide)]; exact h1
    · rw [add_add a _ 2 (by decide)]; exact h2
  · obtain ⟨a, e, hb, h0⟩ := t4 i hi
    refine ⟨a, e, hb, fun r hr => ?_⟩
    obtain rfl : r = 0 := by omega
    rw [Nat.mul_one, Nat.add_zero]; exact h0
theorem sum_range {α : Type} (f : Nat → α) (g : α → Nat) (n : Nat) : (((List.range n).map f).map g).sum = ((List.range n).map fun i => g (f i)).sum := by rw [List.map_map]; rfl
section
variable {H : Type} {enc : TypeId × Value → H} {W : World} {sp : Nat → Bool} {held : Bool}
theorem open_list {α : Type} [Inhabited α] {t e : TypeId} {m : Nat} (hm : 0 < m) (cel : α → List Value) (hc : ∀ x, (cel x).length = m) (E : Nat → World → α → Prop) (P : α → Prop) (z : α → Nat) (ht : Try.prog.underlying t = some (.slice e)) (hce : Try.prog.cellsOf e = m)
    (hel : ∀ (n : Nat) (cs : List Value) (y : DataW H × List MemPlace), cs.length = m → DataW.trod enc Try.prog W 0 sp held n e cs = some y → ∃ x : α, cs = cel x ∧ E W.heap.size W x ∧ P x ∧ z x ≤ Rows.uptoBulk y.1)
    {n : Nat} {c : Value} {y : DataW H × List MemPlace} (h : DataW.trod enc Try.prog W 0 sp held n t [c] = some y) :
    ∃ (p : Option Addr) (k : Nat) (xs : List α), c = .slice p xs.length k ∧ ListIn cel E W.heap.size W p xs.length k xs ∧ (∀ x ∈ xs, P x) ∧ (xs.map z).sum ≤ Rows.uptoBulk y.1 ∧ xs.length ≤ Rows.uptoBulk y.1 := by
  rcases open_slice ht h with ⟨hcc, hx⟩ | ⟨a, len, cap, k, n', D, Pl, hcc, hb, hl, hmm, hk, hx, hi⟩
  · exact ⟨none, 0, [], (List.cons.inj hcc).1, ⟨rfl, Nat.le_refl _, Nat.zero_le _, fun j u hu => by simp at hu, fun x hx => absurd hx (by simp)⟩, fun x hx => absurd hx (by simp), Nat.zero_le _, Nat.zero_le _⟩
  · have lm : len ≤ k := by rw [hk]; split <;> omega
    rw [hce] at hi
    obtain ⟨f, hf⟩ := choose_lt (α := α) (p := fun i x => (a.block < W.heap.size ∧ ∀ r, r < m → W.cell? (a.add (i * m + r)) = (cel x)[r]?) ∧ E W.heap.size W x ∧ P x ∧ z x ≤ Rows.uptoBulk (D i)) (n := len) (fun i hi2 => by
      obtain ⟨cs', h1, h2⟩ := hi i (by omega)
      obtain ⟨_, hlen, hcell⟩ := World.cells?_some h1
      obtain ⟨x, hx, hE, hP, hz⟩ := hel _ cs' _ hlen h2
      refine ⟨x, ⟨?_, ?_⟩, hE, hP, hz⟩
      · have h0 := hcell 0 (by omega)
        rw [List.getElem?_eq_getElem (by omega)] at h0
        have := block_lt h0
        rw [add_block, add_block] at this
        exact this
      · rw [← hx]
        exact cellAt_of (fun j hj => hcell j (by omega)))
    refine ⟨some a, cap, (List.range len).map f, by simp [(List.cons.inj hcc).1], ⟨rfl, by simpa using hl, hmm, rowAt_of hc hm (fun i hi2 => ?_), fun x hx2 => ?_⟩, fun x hx2 => ?_, ?_, ?_⟩
    · have hi3 : i < len := by simpa using hi2
      exact ⟨a, rfl, (hf i hi3).1.1, by simpa using (hf i hi3).1.2⟩
    · obtain ⟨i, hi2, rfl⟩ := List.mem_map.1 hx2
      exact (hf i (List.mem_range.1 hi2)).2.1
    · obtain ⟨i, hi2, rfl⟩ := List.mem_map.1 hx2
      exact (hf i (List.mem_range.1 hi2)).2.2.1
    · subst hx
      have h1 := bulk_sum D (fun i => z (f i)) len (fun i hi2 => (hf i hi2).2.2.2)
      have h2 := bulk_slice ((List.range len).map D) ((List.range (k - len)).map fun j => D (len + j))
      rw [sum_range]
      exact Nat.le_trans h1 h2
    · subst hx
      have h1 := bulk_sum D (fun _ => 1) len (fun i _ => bulk_pos _)
      have h2 := bulk_slice ((List.range len).map D) ((List.range (k - len)).map fun j => D (len + j))
      have e := sum_ones len
      simp only [List.length_map, List.length_range]
      omega
theorem sum_one {α : Type} (xs : List α) : (xs.map fun _ => (1 : Nat)).sum = xs.length := by induction xs with | nil => rfl | cons x xs ih => rw [List.map_cons, List.sum_cons, ih, List.length_cons, Nat.add_comm]
theorem open_ints3 {n : Nat} {c : Value} {y : DataW H × List MemPlace} (h : DataW.trod enc Try.prog W 0 sp held n 23 [c] = some y) :
    ∃ (p : Option Addr) (k : Nat) (ts : List Int), c = .slice p ts.length k ∧ ListIn intC NoMem W.heap.size W p ts.length k ts ∧ ts.length ≤ Rows.uptoBulk y.1 := by
  obtain ⟨p, k, xs, e, hl, _, _, hn⟩ := open_list (α := Int) (m := 1) (by decide) intC (fun _ => rfl) NoMem (fun _ => True) (fun _ => 1) Try.underlying23 cellsInt (fun n cs y hlen h2 => by
    match cs, hlen with
    | [v0], _ =>
      obtain ⟨k, rfl, _⟩ := tr_int h2
      exact ⟨k, rfl, trivial, trivial, bulk_pos _⟩) h
  exact ⟨p, k, xs, e, hl, hn⟩
set_option maxRecDepth 100000 in
theorem open_args3 {n : Nat} {c : Value} {y : DataW H × List MemPlace} (h : DataW.trod enc Try.prog W 0 sp held n 22 [c] = some y) :
    ∃ (p : Option Addr) (k : Nat) (xs : List Arg), c = .slice p xs.length k ∧ ListIn argC NoMem W.heap.size W p xs.length k xs ∧ (∀ x ∈ xs, wfI x.n) ∧ xs.length ≤ Rows.uptoBulk y.1 := by
  obtain ⟨p, k, xs, e, hl, hp, _, hn⟩ := open_list (α := Arg) (m := 3) (by decide) argC (fun _ => rfl) NoMem (fun x => wfI x.n) (fun _ => 1) Try.underlying22 cellsValue (fun n cs y hlen h2 => by
    obtain ⟨xs, k, _, _, _, hxl, hg⟩ := DataW.trod_struct Try.underlying29 h2
    have c3 := cellsInt
    have c22 := cellsU64
    match cs, hlen with
    | [v0, v1, v2], _ =>
      match xs, hxl with
      | [y0, y1, y2], _ =>
        have g0 := hg 0 _ rfl
        have g1 := hg 1 _ rfl
        have g2 := hg 2 _ rfl
        simp [c3, c22] at g0 g1 g2
        obtain ⟨k0, rfl, _⟩ := tr_int g0
        obtain ⟨k1, rfl, w1⟩ := tr_int g1
        obtain ⟨k2, rfl⟩ := tr_u64 g2
        exact ⟨⟨k0, k1, k2⟩, rfl, trivial, w1, bulk_pos _⟩) h
  exact ⟨p, k, xs, e, hl, hp, hn⟩
end
def nsI (l : List Ins) : List Int := l.flatMap fun d => nmA d.args
theorem usesIn_count (r : Int) (l : List Arg) : usesIn r l = (nmA l).count r := by
  induction l with
  | nil => rfl
  | cons v l ih =>
    unfold usesIn nmA at *
    rw [List.filter_cons, List.filter_cons]
    unfold isU at *
    by_cases hk : v.kind = 1
    · have hk2 : (v.kind == 1) = true := by simpa using hk
      rw [hk2, Bool.true_and, if_pos rfl, List.map_cons, List.count_cons, ← ih]
      by_cases hn : v.n = r
      · have hn2 : (v.n == r) = true := by simpa using hn
        rw [hn2, if_pos rfl, if_pos rfl, List.length_cons]
      · have hn2 : (v.n == r) = false := by simpa using hn
        rw [hn2]
        simp
    · have hk2 : (v.kind == 1) = false := by simpa using hk
      rw [hk2, Bool.false_and]
      simpa using ih
theorem usesOf_count (r : Int) (l : List Ins) : usesOf r l = (nsI l).count r := by
  induction l with
  | nil => rfl
  | cons d l ih =>
    have e : nsI (d :: l) = nmA d.args ++ nsI l := rfl
    rw [e, List.count_append, ← ih, ← usesIn_count]
    rfl
theorem nsI_app (l m : List Ins) : nsI (l ++ m) = nsI l ++ nsI m := by unfold nsI; rw [List.flatMap_append]
theorem nmA_le (l : List Arg) : (nmA l).length ≤ l.length := by unfold nmA; rw [List.length_map]; exact List.length_filter_le _ _
theorem nsI_le (l : List Ins) : (nsI l).length ≤ argsNum l := by
  induction l with
  | nil => exact Nat.le_refl _
  | cons d l ih =>
    have e : nsI (d :: l) = nmA d.args ++ nsI l := rfl
    have h := nmA_le d.args
    have e2 : argsNum (d :: l) = d.args.length + argsNum l := rfl
    rw [e, List.length_append, e2]
    omega
def cntIn (ns P : List Int) : Nat := ns.countP fun x => P.contains x
theorem cntIn_le (ns P : List Int) : cntIn ns P ≤ ns.length := List.countP_le_length
theorem cntIn_nil (ns : List Int) : cntIn ns [] = 0 := by
  unfold cntIn
  rw [List.countP_eq_zero]
  intro a _
  simp
theorem cntIn_old (ns P : List Int) (n : Int) (h : P.contains n = true) : cntIn ns (P ++ [n]) = cntIn ns P := by
  unfold cntIn
  apply List.countP_congr
  intro x _
  have hm : n ∈ P := by simpa using h
  simp only [List.contains_iff_mem, List.mem_append, List.mem_singleton]
  exact ⟨fun hx => hx.elim id (fun e => by rw [e]; exact hm), fun hx => Or.inl hx⟩
theorem cntIn_new (ns P : List Int) (n : Int) (h : P.contains n = false) : cntIn ns (P ++ [n]) = cntIn ns P + ns.count n := by
  have hm : n ∉ P := by
    intro hm
    rw [List.contains_iff_mem.2 hm] at h
    cases h
  unfold cntIn
  induction ns with
  | nil => rfl
  | cons x ns ih =>
    rw [List.countP_cons, List.countP_cons, List.count_cons, ih]
    by_cases hx : x = n
    · subst hx
      have h1 : (P ++ [x]).contains x = true := by simp
      rw [h1, h]
      simp
      omega
    · have h1 : (P ++ [n]).contains x = P.contains x := by
        rw [Bool.eq_iff_iff]
        simp [hx]
      have h2 : (x == n) = false := by simpa using hx
      rw [h1, h2]
      simp
      omega
theorem cntIn_all (ns : List Int) : cntIn ns ns = ns.length := by
  unfold cntIn
  rw [List.countP_eq_length]
  intro a ha
  simpa using ha
def usesP (r : Int) (f : PFn) : Nat := (f.bs.flatten.map fun x => usesIn r x.args).sum
def sizeP (f : PFn) : Nat := f.bs.flatten.length
theorem located_flat (bs : List LB) {β : Type} (g : Ins → β) (g' : PIns → β) (h : ∀ x, g x.1 = g' (insD x)) : (located bs).flatten.map g = (bs.map blkD).flatten.map g' := by
  unfold located
  rw [List.map_flatten, List.map_flatten, List.map_map, List.map_map]
  congr 1
  apply List.map_congr_left
  intro c _
  simp only [Function.comp, blkD, List.map_map]
  apply List.map_congr_left
  intro x _
  exact h x
theorem usesOf_located (r : Int) (f : LFn) : usesOf r (located f.bs).flatten = usesP r (fnD f) := by
  unfold usesOf usesP
  rw [located_flat f.bs (fun d => usesIn r d.args) (fun x => usesIn r x.args) (fun _ => rfl)]
  rfl
theorem size_located (f : LFn) : (located f.bs).flatten.length = sizeP (fnD f) := by
  have h := congrArg List.length (located_flat f.bs (fun _ => ()) (fun _ => ()) (fun _ => rfl))
  rw [List.length_map, List.length_map] at h
  exact h
theorem flat_sum (bs : List (List PIns)) (g : PIns → Nat) : (bs.flatten.map g).sum = (bs.map fun c => (c.map g).sum).sum := by
  induction bs with
  | nil => rfl
  | cons c bs ih => rw [List.flatten_cons, List.map_append, List.sum_append, ih, List.map_cons, List.sum_cons]
theorem cnt_located (f : LFn) : cnt (located f.bs).flatten + f.ps.length ≤ fnZ (fnD f) := by
  unfold cnt argsNum
  have e1 := size_located f
  have e2 := located_flat f.bs (fun d => d.args.length) (fun x => x.args.length) (fun _ => rfl)
  rw [e1, e2]
  unfold sizeP fnZ blksZ codeZ
  show (f.bs.map blkD).flatten.length + ((f.bs.map blkD).flatten.map fun x => x.args.length).sum + f.ps.length ≤ 1 + f.ps.length + ((f.bs.map blkD).map fun c => 1 + (c.map insZ).sum).sum
  generalize f.bs.map blkD = B
  have h1 : B.flatten.length = (B.flatten.map fun _ => 1).sum := (sum_one _).symm
  rw [h1, flat_sum, flat_sum]
  have key : ∀ B : List (List PIns), (B.map fun c => (c.map fun _ => 1).sum).sum + (B.map fun c => (c.map fun x => x.args.length).sum).sum ≤ (B.map fun c => 1 + (c.map insZ).sum).sum := by
    intro B
    induction B with
    | nil => exact Nat.le_refl _
    | cons c B ih =>
      simp only [List.map_cons, List.sum_cons]
      have : (c.map fun _ => 1).sum + (c.map fun x => x.args.length).sum ≤ (c.map insZ).sum := by
        clear ih
        induction c with
        | nil => exact Nat.le_refl _
        | cons x c ih2 =>
          simp only [List.map_cons, List.sum_cons]
          have : 1 + x.args.length ≤ insZ x := by unfold insZ; omega
          omega
      omega
  have := key B
  omega
theorem usesIn_rep (r reg : Int) (v : Arg) (l : List Arg) : usesIn r (l.map (rp reg v)) = (if r = reg then 0 else usesIn r l) + (if isU r v then usesIn reg l else 0) := by
  induction l with
  | nil => simp [usesIn]
  | cons a l ih =>
    have e1 : usesIn r ((a :: l).map (rp reg v)) = (if isU r (rp reg v a) then 1 else 0) + usesIn r (l.map (rp reg v)) := by
      unfold usesIn; rw [List.map_cons, List.filter_cons]; split <;> simp <;> omega
    have e2 : ∀ q, usesIn q (a :: l) = (if isU q a then 1 else 0) + usesIn q l := by
      intro q; unfold usesIn; rw [List.filter_cons]; split <;> simp <;> omega
    rw [e1, ih, e2 r, e2 reg]
    unfold rp
    by_cases ha : isU reg a = true
    · rw [if_pos ha]
      by_cases hr : r = reg
      · subst hr
        rw [if_pos rfl, if_pos rfl, if_pos ha]
        split <;> omega
      · have : isU r a = false := by
          unfold isU at ha ⊢
          simp only [Bool.and_eq_true, beq_iff_eq] at ha
          rw [Bool.eq_false_iff]
          intro hx
          simp only [Bool.and_eq_true, beq_iff_eq] at hx
          omega
        rw [if_neg hr, if_neg hr, this, if_pos ha]
        cases isU r v <;> simp <;> omega
    · rw [if_neg ha, if_neg ha]
      by_cases hr : r = reg
      · subst hr
        rw [if_neg ha, if_pos rfl, if_pos rfl]
        split <;> omega
      · rw [if_neg hr, if_neg hr]
        cases isU r v <;> cases isU r a <;> simp <;> omega
theorem usesP_rep (r reg : Int) (v : Arg) (f : PFn) : usesP r (repF reg v f) = (if r = reg then 0 else usesP r f) + (if isU r v then usesP reg f else 0) := by
  have e : ((f.bs.map fun c => c.map (repI reg v)).flatten.map fun x => usesIn r x.args) = f.bs.flatten.map fun x => usesIn r (x.args.map (rp reg v)) := by
    rw [List.map_flatten, List.map_flatten, List.map_map]
    congr 1
    apply List.map_congr_left
    intro c _
    simp only [Function.comp, List.map_map]
    rfl
  unfold usesP repF
  simp only [e]
  generalize f.bs.flatten = L
  induction L with
  | nil => simp
  | cons x L ih =>
    rw [List.map_cons, List.sum_cons, ih, usesIn_rep, List.map_cons, List.sum_cons, List.map_cons, List.sum_cons]
    split <;> split <;> omega
theorem sizeP_rep (reg : Int) (v : Arg) (f : PFn) : sizeP (repF reg v f) = sizeP f := by
  unfold sizeP repF
  simp only [List.length_flatten, List.map_map]
  congr 1
  apply List.map_congr_left
  intro c _
  simp
theorem fnZ_rep (reg : Int) (v : Arg) (f : PFn) : fnZ (repF reg v f) = fnZ f := by
  unfold fnZ repF blksZ codeZ
  simp only [List.map_map]
  congr 2
  apply List.map_congr_left
  intro c _
  simp only [Function.comp, List.map_map]
  congr 2
  apply List.map_congr_left
  intro x _
  simp [Function.comp, insZ, repI]
end Go.Proofs.Ytpjfkmaceaikbaa
