/- Package ir: Replace, of any function. -/
import Derived.Test.YtpfeiolmkbibiaaOwnF
namespace Go.Proofs.Ytpfeiolmkbibiaa
open Go.RowKit Go.Maps
set_option linter.unusedVariables false
set_option linter.unusedSimpArgs false

/-- One element, and nothing outside its memory, is turned. -/
theorem ListOwn.upd {α : Type} {ty m : Nat} {cel : α → List Value} {Q : Nat → Nat → World → α → Prop} (hQ : Local Q) {a b : Nat} {w : World} {p : Option Addr} {n c : Nat} {xs : List α} (h : ListOwn ty m cel Q a b w p n c xs) (i : Nat) (hi : i < xs.length) :
    ∃ a' b', a ≤ a' ∧ a' ≤ b' ∧ b' ≤ b ∧ Q a' b' w xs[i] ∧ ∀ w' y, cel y = cel xs[i] → (∀ k, a ≤ k → k < b → (k < a' ∨ b' ≤ k) → w'.heap[k]? = w.heap[k]?) → Q a' b' w' y → ListOwn ty m cel Q a b w' p n c (xs.set i y) := by
  obtain ⟨h1, h2, h3, h4⟩ := h
  obtain ⟨a', b', k1, k2, k3, k4, k5, k6⟩ := h4.at hQ i hi
  refine ⟨a', b', k1, k2, k3, k5, fun w' y hc hs hq => ⟨by rw [List.length_set]; exact h1, ?_, h3, k6 w' y (fun k p q r s => hs k p q s) hq⟩⟩
  have e : (xs.set i y).flatMap cel = xs.flatMap cel := by
    rw [List.flatMap, List.flatMap, List.map_set, hc]
    congr 1
    have : (xs.map cel)[i]'(by simpa using hi) = cel xs[i] := by simp
    rw [← this, List.set_getElem_self]
  rw [e]
  refine ⟨h2.1, ?_⟩
  rcases h2.2 with hn | ⟨g, cap, cur, hv, hB, hg, r⟩
  · exact .inl hn
  · have hgb : (Value.slice p n c).ownBlock = some g := by rw [hv]; rfl
    exact .inr ⟨g, cap, cur, hv, hB, (hs g hB (h3 g hgb) (k4 g hgb)).trans hg, r⟩

/-- The instructions ahead of place (b, k), turned by f. -/
def cur (f : LI → LI) (bs : List LB) (b k : Nat) : List LB := bs.mapIdx fun i c => { c with code := c.code.mapIdx fun j x => if i < b ∨ i = b ∧ j < k then f x else x }
theorem cur_len (f : LI → LI) (bs : List LB) (b k : Nat) : (cur f bs b k).length = bs.length := by simp [cur]
theorem cur_0 (f : LI → LI) (bs : List LB) : cur f bs 0 0 = bs := by
  unfold cur
  apply List.ext_getElem?
  intro i
  rw [List.getElem?_mapIdx]
  cases h : bs[i]? with
  | none => rfl
  | some c =>
    simp only [Option.map_some]
    congr 1
    have : (c.code.mapIdx fun j x => if i < 0 ∨ i = 0 ∧ j < 0 then f x else x) = c.code := by
      apply List.ext_getElem?
      intro j
      rw [List.getElem?_mapIdx]
      cases c.code[j]? <;> simp
    rw [this]
theorem cur_next (f : LI → LI) (bs : List LB) (b : Nat) (h : b < bs.length) : cur f bs (b + 1) 0 = cur f bs b bs[b].code.length := by
  unfold cur
  apply List.ext_getElem?
  intro i
  rw [List.getElem?_mapIdx, List.getElem?_mapIdx]
  cases hc : bs[i]? with
  | none => rfl
  | some c =>
    simp only [Option.map_some]
    congr 2
    apply List.ext_getElem?
    intro j
    rw [List.getElem?_mapIdx, List.getElem?_mapIdx]
    cases hx : c.code[j]? with
    | none => rfl
    | some x =>
      have hj := (List.getElem?_eq_some_iff.1 hx).1
      simp only [Option.map_some]
      congr 1
      by_cases hib : i = b
      · subst hib
        rw [List.getElem?_eq_getElem h] at hc
        have e : bs[i] = c := Option.some.inj hc
        rw [if_pos (by omega), if_pos (by rw [e]; omega)]
      · by_cases hlt : i < b
        · rw [if_pos (by omega), if_pos (by omega)]
        · rw [if_neg (by omega), if_neg (by omega)]
theorem cur_all (f : LI → LI) (bs : List LB) : cur f bs bs.length 0 = bs.map fun c => { c with code := c.code.map f } := by
  unfold cur
  apply List.ext_getElem?
  intro i
  rw [List.getElem?_mapIdx, List.getElem?_map]
  cases hc : bs[i]? with
  | none => rfl
  | some c =>
    have hi := (List.getElem?_eq_some_iff.1 hc).1
    simp only [Option.map_some]
    congr 2
    apply List.ext_getElem?
    intro j
    rw [List.getElem?_mapIdx, List.getElem?_map]
    cases hx : c.code[j]? with
    | none => rfl
    | some x => simp [hi]
theorem cur_get (f : LI → LI) (bs : List LB) (b k i : Nat) (h : i < bs.length) : (cur f bs b k)[i]'(by rw [cur_len]; exact h) = { bs[i] with code := bs[i].code.mapIdx fun j x => if i < b ∨ i = b ∧ j < k then f x else x } := by
  simp [cur]
theorem cur_succ (f : LI → LI) (bs : List LB) (b k : Nat) (h : b < bs.length) (hk : k < bs[b].code.length) :
    cur f bs b (k + 1) = (cur f bs b k).set b { bs[b] with code := (bs[b].code.mapIdx fun j x => if b < b ∨ b = b ∧ j < k then f x else x).set k (f bs[b].code[k]) } := by
  apply List.ext_getElem?
  intro i
  rw [List.getElem?_set]
  by_cases hib : b = i
  · subst hib
    rw [if_pos rfl, if_pos (by rw [cur_len]; exact h)]
    rw [List.getElem?_eq_getElem (by rw [cur_len]; exact h), cur_get _ _ _ _ _ h]
    refine congrArg some (congrArg (fun c => ({ bs[b] with code := c } : LB)) ?_)
    apply List.ext_getElem?
    intro j
    rw [List.getElem?_set, List.getElem?_mapIdx, List.getElem?_mapIdx, List.length_mapIdx]
    by_cases hj : k = j
    · subst hj
      rw [if_pos rfl, if_pos hk, List.getElem?_eq_getElem hk]
      simp
    · rw [if_neg hj]
      cases hx : bs[b].code[j]? with
      | none => rfl
      | some x =>
        simp only [Option.map_some, Nat.lt_irrefl, true_and, false_or]
        congr 1
        by_cases hl : j < k
        · rw [if_pos (by omega), if_pos (by omega)]
        · rw [if_neg (by omega), if_neg (by omega)]
  · rw [if_neg hib]
    unfold cur
    rw [List.getElem?_mapIdx, List.getElem?_mapIdx]
    cases hc : bs[i]? with
    | none => rfl
    | some c =>
      simp only [Option.map_some]
      congr 2
      apply List.ext_getElem?
      intro j
      rw [List.getElem?_mapIdx, List.getElem?_mapIdx]
      cases hx : c.code[j]? with
      | none => rfl
      | some x =>
        simp only [Option.map_some]
        congr 1
        by_cases hl : i < b
        · rw [if_pos (by omega), if_pos (by omega)]
        · rw [if_neg (by omega), if_neg (by omega)]
/-- The first k instructions of a block, turned by f. -/
def pre (f : LI → LI) (L : List LI) (k : Nat) : List LI := L.mapIdx fun j x => if j < k then f x else x
theorem pre_len (f : LI → LI) (L : List LI) (k : Nat) : (pre f L k).length = L.length := by simp [pre]
theorem pre_get (f : LI → LI) (L : List LI) (k : Nat) (h : k < L.length) (h' : k < (pre f L k).length) : (pre f L k)[k] = L[k] := by simp [pre]
theorem cur_at (f : LI → LI) (bs : List LB) (b k : Nat) (h : b < bs.length) : (cur f bs b k)[b]? = some { bs[b] with code := pre f bs[b].code k } := by
  rw [List.getElem?_eq_getElem (by rw [cur_len]; exact h), cur_get _ _ _ _ _ h]
  refine congrArg some (congrArg (fun c => ({ bs[b] with code := c } : LB)) ?_)
  simp [pre]
theorem cur_set (f : LI → LI) (bs : List LB) (b k : Nat) (h : b < bs.length) (hk : k < bs[b].code.length) :
    cur f bs b (k + 1) = (cur f bs b k).set b { bs[b] with code := (pre f bs[b].code k).set k (f bs[b].code[k]) } := by
  rw [cur_succ f bs b k h hk]
  refine congrArg (fun c => (cur f bs b k).set b ({ bs[b] with code := c } : LB)) ?_
  simp [pre]
theorem flat_same {α : Type} {cel : α → List Value} : ∀ {xs ys : List α}, xs.length = ys.length → (∀ (i : Nat) (x y : α), xs[i]? = some x → ys[i]? = some y → cel x = cel y) → xs.flatMap cel = ys.flatMap cel
  | [], [], _, _ => rfl
  | x :: xs, y :: ys, hl, h => by
    rw [List.flatMap_cons, List.flatMap_cons, h 0 x y rfl rfl, flat_same (by simpa using hl) (fun i a b p q => h (i + 1) a b (by simpa using p) (by simpa using q))]
/-- The rows of what is turned are the rows of what was. -/
theorem cur_rows {f : LI → LI} (hf : ∀ x, liC (f x) = liC x) {B : Nat} {w : World} {p : Option Addr} {n c : Nat} {bs : List LB} {b k : Nat} (h : ListIn blkC BlkIn B w p n c (cur f bs b k)) : ListIn blkC BlkRow B w p n c bs := by
  obtain ⟨h1, h2, h3, h4, h5⟩ := h
  refine ⟨by rw [h1, cur_len], h2, h3, ?_, fun x hx => ?_⟩
  · have e : (cur f bs b k).flatMap blkC = bs.flatMap blkC := flat_same (cur_len f bs b k) (fun i x y hx hy => by
      unfold cur at hx
      rw [List.getElem?_mapIdx, hy] at hx
      cases hx
      rfl)
    rw [← e]; exact h4
  · obtain ⟨i, hi, rfl⟩ := List.mem_iff_getElem.1 hx
    have h' := h5 ((cur f bs b k)[i]'(by rw [cur_len]; exact hi)) (List.getElem_mem _)
    rw [cur_get _ _ _ _ _ hi] at h'
    obtain ⟨k1, k2, k3, k4, k5⟩ := h'
    refine ⟨by rw [← List.length_mapIdx]; exact k1, k2, k3, ?_, fun _ _ => trivial⟩
    have e : (bs[i].code.mapIdx fun j x => if i < b ∨ i = b ∧ j < k then f x else x).flatMap liC = bs[i].code.flatMap liC := flat_same (by simp) (fun j x y hx hy => by
      rw [List.getElem?_mapIdx, hy] at hx
      simp only [Option.map_some, Option.some.injEq] at hx
      subst hx
      split
      · exact hf y
      · rfl)
    rw [← e]; exact k4

set_option maxHeartbeats 1000000 in
/-- The walk over all instructions of a function of the call's own, each turned in its own memory. -/
theorem each_own (f : LI → LI) (hf : ∀ x, liC (f x) = liC x) (bs : List LB) (W : World) (nm pa rt : Value) (bp : Option Addr) (bn bc : Nat) (g : FuncId) (caps : Array Value) (lo hi : Nat) (hhi : hi ≤ W.heap.size) (Env : World → Prop)
    (hen : ∀ (args : Array Value) (w : World), (callFunc g args).run Try.prog w = .ok (.enter g args) w)
    (hown : ListOwn 67 1 blkC BlkOwn lo hi W bp bn bc bs) (h0 : Env W) (halloc : ∀ w c t, hi ≤ w.heap.size → Env w → Env (w.alloc (.cells c t)))
    (hstep : ∀ x a b p0 p1 p2 w, hi ≤ w.heap.size → lo ≤ a → b ≤ hi → InsOwn a b w x → Env w → Calls Try.prog g (#[.agg #[.int .i64 p0, .int .i64 p1, .int .i64 p2], x.1.val] ++ caps) w fun e w' => e = .returned (.tuple #[]) ∧ InsOwn a b w' (f x) ∧ Env w' ∧ w.heap.size ≤ w'.heap.size ∧ ∀ k, lo ≤ k → k < hi → (k < a ∨ b ≤ k) → w'.heap[k]? = w.heap[k]?) :
    Calls Try.prog 51 #[.agg #[nm, pa, rt, .slice bp bn bc], .func (.func g) #[] caps] W fun e w' => e = .returned (.tuple #[]) ∧ hi ≤ w'.heap.size ∧ Env w' ∧ ListOwn 67 1 blkC BlkOwn lo hi w' bp bn bc (bs.map fun c => { c with code := c.code.map f }) := by
  refine (each_all bs W nm pa rt bp bn bc g caps (fun b k w => hi ≤ w.heap.size ∧ Env w ∧ ListOwn 67 1 blkC BlkOwn lo hi w bp bn bc (cur f bs b k)) hen ?_ ?_ ?_ ?_ ?_).mono ?_
  · rintro b k w ⟨h1, h2, h3⟩
    exact cur_rows hf (h3.lies (m := 1) (by decide) (fun _ => rfl) (fun _ _ _ _ hb hq => BlkOwn.lies hb hq) h1)
  · exact ⟨hhi, h0, by rw [cur_0]; exact hown⟩
  · rintro b h w ⟨h1, h2, h3⟩
    exact ⟨h1, h2, by rw [cur_next f bs b h]; exact h3⟩
  · rintro b k w c t ⟨h1, h2, h3⟩
    exact ⟨by simp; omega, halloc w c t h1 h2, h3.stay local_Blk (((Past.refl (Nat.le_refl _)).alloc _).stay h1)⟩
  · rintro b k hb hk w ⟨h1, h2, h3⟩
    have hset := cur_set f bs b k hb hk
    have hlen := cur_len f bs b k
    have hget := cur_at f bs b k hb
    obtain ⟨cs', hcs'⟩ : ∃ cs', cs' = cur f bs b (k + 1) := ⟨_, rfl⟩
    obtain ⟨cs, hcs⟩ : ∃ cs, cs = cur f bs b k := ⟨_, rfl⟩
    rw [← hcs'] at hset ⊢
    rw [← hcs] at h3 hset hlen hget
    have hbc : b < cs.length := by rw [hlen]; exact hb
    rw [List.getElem?_eq_getElem hbc] at hget
    have hget := Option.some.inj hget
    obtain ⟨a1, b1, i1, i2, i3, hq1, up1⟩ := h3.upd local_Blk b hbc
    rw [hget] at hq1
    unfold BlkOwn at hq1
    have hL : k < (pre f bs[b].code k).length := by rw [pre_len]; exact hk
    have ex := pre_get f bs[b].code k hk hL
    have hblk : blkC cs[b] = blkC bs[b] := by rw [hget]; rfl
    obtain ⟨a2, b2, j1, j2, j3, hq2, up2⟩ := hq1.upd local_Ins k hL
    rw [ex] at hq2
    refine (hstep _ a2 b2 _ _ _ w h1 (by omega) (by omega) hq2 h2).mono ?_
    rintro e w' ⟨he, hq', hE, hsz, hst⟩
    refine ⟨he, by omega, hE, ?_⟩
    rw [hset]
    refine up1 w' _ (by rw [hblk]; rfl) (fun m p q r => hst m p q (by omega)) ?_
    exact up2 w' _ (by rw [ex]; exact hf _) (fun m p q r => hst m (by omega) (by omega) r) hq'
  · rintro e w' ⟨he, h1, h2, h3⟩
    rw [cur_all] at h3
    exact ⟨he, h1, h2, h3⟩

/-! Replace. -/
def lrep (reg : Int) (v : Arg) (x : LI) : LI := ({ x.1 with args := x.1.args.map (rp reg v) }, x.2)
def repI (reg : Int) (v : Arg) (x : PIns) : PIns := { x with args := x.args.map (rp reg v) }
def repF (reg : Int) (v : Arg) (f : PFn) : PFn := { f with bs := f.bs.map fun c => c.map (repI reg v) }
theorem enters_r1 : ∀ (args : Array Value) (w : World), (callFunc 59 args).run Try.prog w = .ok (.enter 59 args) w := fun _ _ => rfl
theorem rep1_own (lo hi : Nat) (B r q : Nat) (hr : r < lo) (hq : q < lo) (reg : Int) (v : Arg) (W0 : World) (Env : World → Prop) (hE : ∀ w, Env w → Box r [.int .i64 reg] w ∧ Box q (argC v) w)
    (hK : ∀ w w' row, (∀ g, row = some g → lo ≤ g) → w.grownBy w' row → Env w → Env w')
    (x : LI) (a b : Nat) (p0 p1 p2 : Int) (w : World) (hhi : hi ≤ w.heap.size) (hla : lo ≤ a) (hbh : b ≤ hi) (ho : InsOwn a b w x) (he : Env w) :
    Calls Try.prog 59 (#[.agg #[.int .i64 p0, .int .i64 p1, .int .i64 p2], x.1.val] ++ #[.pointer (some ⟨r, 0, none⟩), .pointer (some ⟨q, 0, none⟩)]) w fun e w' => e = .returned (.tuple #[]) ∧ InsOwn a b w' (lrep reg v x) ∧ Env w' ∧ w.heap.size ≤ w'.heap.size ∧ ∀ k, lo ≤ k → k < hi → (k < a ∨ b ≤ k) → w'.heap[k]? = w.heap[k]? := by
  obtain ⟨⟨h1, h2, h3, h4⟩, k1, k2, k3, k4⟩ := ho
  obtain ⟨b1, b2⟩ := hE w he
  have hlt := h2.lt
  refine (rep1_any a r q reg v p0 p1 p2 x.1 w b1 b2 h2 h1 (fun e => by have := hlt r e.symm; omega) (fun e => by have := hlt q e.symm; omega)).mono ?_
  rintro e w' ⟨rfl, hg, hrow⟩
  refine ⟨rfl, ⟨⟨by show x.1.al = (x.1.args.map (rp reg v)).length; rw [List.length_map]; exact h1, hrow, h3, spread_NoOwn h4.le _⟩, k1, ?_, k3, spread_NoOwn h4.le _⟩, hK w w' _ (fun g e => by have := hlt g e; omega) hg he, hg.size, ?_⟩
  · exact k2.kept hg (rows_apart k2 h2 (by decide))
  · intro k i1 i2 i3
    exact hg.block k (by omega) (fun e => by have := h3 k e.symm; have := hlt k e.symm; omega)
theorem rep_data (reg : Int) (v : Arg) (bs : List LB) : (bs.map fun c => { c with code := c.code.map (lrep reg v) }).map blkD = (bs.map blkD).map fun c => c.map (repI reg v) := by
  rw [List.map_map, List.map_map]
  apply List.map_congr_left
  intro c _
  simp only [Function.comp, blkD, List.map_map]
  rfl
end Go.Proofs.Ytpfeiolmkbibiaa
