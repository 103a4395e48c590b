/- What this seat takes of layer 2's texts (BaseE) -/
import Derived.Test.YtmampoakdjjbiaaGreatDoorBaseD
import Derived.Deep.AppendLies
namespace Go.Proofs.YtmampoakdjjbiaaGreatDoor
open Go.RowKit Go.Maps
set_option linter.unusedVariables false
set_option linter.unusedSimpArgs false

/-- A place of the blocks: its instruction's own memory. -/
theorem cur_place {f : LI → LI} (hf : ∀ x, liC (f x) = liC x) {bs : List LB} {b k lo hi : Nat} {w : World} {bp : Option Addr} {bn bc : Nat} (hb : b < bs.length) (hk : k < bs[b].code.length) (h : ListOwn 42 1 blkC BlkOwn lo hi w bp bn bc (cur f bs b k)) :
    ∃ a c, lo ≤ a ∧ c ≤ hi ∧ InsOwn a c w bs[b].code[k] ∧ ∀ w', (∀ m, lo ≤ m → m < hi → (m < a ∨ c ≤ m) → w'.heap[m]? = w.heap[m]?) → InsOwn a c w' (f bs[b].code[k]) → ListOwn 42 1 blkC BlkOwn lo hi w' bp bn bc (cur f bs b (k + 1)) := by
  have hset := cur_set f bs b k hb hk
  have hlen := cur_len f bs b k
  have hget := cur_at f bs b k hb
  obtain ⟨cs', hcs'⟩ : ∃ cs', cs' = cur f bs b (k + 1) := ⟨_, rfl⟩
  obtain ⟨cs, hcs⟩ : ∃ cs, cs = cur f bs b k := ⟨_, rfl⟩
  rw [← hcs'] at hset ⊢
  rw [← hcs] at h hset hlen hget
  have hbc : b < cs.length := by rw [hlen]; exact hb
  rw [List.getElem?_eq_getElem hbc] at hget
  have hget := Option.some.inj hget
  obtain ⟨a1, b1, i1, i2, i3, hq1, up1⟩ := h.upd local_Blk b hbc
  rw [hget] at hq1
  unfold BlkOwn at hq1
  have hL : k < (pre f bs[b].code k).length := by rw [pre_len]; exact hk
  have ex := pre_get f bs[b].code k hk hL
  have hblk : blkC cs[b] = blkC bs[b] := by rw [hget]; rfl
  obtain ⟨a2, b2, j1, j2, j3, hq2, up2⟩ := hq1.upd local_Ins k hL
  rw [ex] at hq2
  refine ⟨a2, b2, by omega, by omega, hq2, fun w' hst hq' => ?_⟩
  rw [hset]
  refine up1 w' _ (by rw [hblk]; rfl) (fun m p q r => hst m p q (by omega)) ?_
  exact up2 w' _ (by rw [ex]; exact hf _) (fun m p q r => hst m (by omega) (by omega) r) hq'
/-- Of what was there only the blocks from lo on, ahead of hi, may have turned. -/
structure Out (lo hi : Nat) (w w' : World) : Prop where
  os : w'.os = w.os
  tape : w'.tape = w.tape
  output : w'.output = w.output
  size : w.heap.size ≤ w'.heap.size
  block : ∀ k, k < w.heap.size → (k < lo ∨ hi ≤ k) → w'.heap[k]? = w.heap[k]?
theorem Out.refl (lo hi : Nat) (w : World) : Out lo hi w w := ⟨rfl, rfl, rfl, Nat.le_refl _, fun _ _ _ => rfl⟩
theorem Out.trans {lo hi : Nat} {a b c : World} (h : Out lo hi a b) (k : Out lo hi b c) : Out lo hi a c :=
  ⟨k.os.trans h.os, k.tape.trans h.tape, k.output.trans h.output, Nat.le_trans h.size k.size, fun i hi ho => (k.block i (Nat.lt_of_lt_of_le hi h.size) ho).trans (h.block i hi ho)⟩
theorem Out.mono {lo hi lo' hi' : Nat} {w w' : World} (h : Out lo hi w w') (hl : lo' ≤ lo) (hh : hi ≤ hi') : Out lo' hi' w w' := ⟨h.os, h.tape, h.output, h.size, fun k hk ho => h.block k hk (by omega)⟩
theorem Out.grown {lo hi : Nat} {w w' : World} {row : Option Nat} (h : w.grownBy w' row) (hr : ∀ g, row = some g → lo ≤ g ∧ g < hi) : Out lo hi w w' := ⟨h.os, h.tape, h.output, h.size, fun k hk ho => h.block k hk (fun e => by have := hr k e.symm; omega)⟩
theorem Out.alloc {lo hi : Nat} {w w' : World} (h : Out lo hi w w') (o : Obj) : Out lo hi w (w'.alloc o) := h.trans (Out.grown (World.grownBy_alloc w' o none) (fun g e => by cases e))
theorem Out.box {lo hi g : Nat} {cs : List Value} {w w' : World} (h : Box g cs w) (ho : Out lo hi w w') (hg : g < lo ∨ hi ≤ g) : Box g cs w' :=
  ⟨Nat.lt_of_lt_of_le h.1 ho.size, fun i => (World.frozen?_of_block (w := w) (ho.block g h.1 hg)).trans (h.2.1 i), fun i u e => (World.cell?_of_block (w := w) (ho.block g h.1 hg)).trans (h.2.2 i u e)⟩
theorem Out.stay {lo hi a b : Nat} {w w' : World} (h : Out lo hi w w') (hb : b ≤ w.heap.size) (hab : b ≤ lo ∨ hi ≤ a) : Stay a b w w' := fun k h1 h2 => h.block k (by omega) (by omega)
theorem Out.below {lo hi B : Nat} {w w' : World} (h : Out lo hi w w') (hB : B ≤ lo) (hw : B ≤ w.heap.size) : Below B w w' := ⟨h.os, h.tape, h.output, h.size, fun k hk => h.block k (by omega) (by omega)⟩
theorem ListOwn.put {α : Type} {ty m : Nat} {cel : α → List Value} {Q : Nat → Nat → World → α → Prop} (hQ : Local Q) (hm : 0 < m) (hc : ∀ x, (cel x).length = m) {a b g : Nat} {w : World} {n c : Nat} {xs : List α} (h : ListOwn ty m cel Q a b w (some ⟨g, 0, none⟩) n c xs) (i : Nat) (hi : i < xs.length) (y : α) (hy : ∀ a' b' w', a' ≤ b' → Q a' b' w' y) :
    ListOwn ty m cel Q a b (w.setCells g (i * m) (cel y)) (some ⟨g, 0, none⟩) n c (xs.set i y) ∧ a ≤ g ∧ g < b := by
  obtain ⟨h1, h2, h3, h4⟩ := h
  obtain ⟨a', b', k1, k2, k3, k4, k5, k6⟩ := h4.at hQ i hi
  have hset := setCells_own (cel y) (i * m) h2
  rw [sets_flat cel m hm hc xs i hi y] at hset
  exact ⟨⟨by rw [List.length_set]; exact h1, hset, h3, k6 _ y (fun k _ _ e _ => setCells_heap g (cel y) (i * m) w k (fun e2 => e (by rw [e2]; rfl))) (hy _ _ _ k2)⟩, (h2.lt g rfl).1, h3 g rfl⟩
theorem ListOwn.some_row {α : Type} {ty m : Nat} {cel : α → List Value} {Q : Nat → Nat → World → α → Prop} {a b : Nat} {w : World} {p : Option Addr} {n c : Nat} {xs : List α} (h : ListOwn ty m cel Q a b w p n c xs) (hp : 0 < xs.length) : ∃ g, p = some ⟨g, 0, none⟩ := by
  rcases h.2.1.2 with ⟨_, h0⟩ | ⟨g, cap, cur, e, _⟩
  · have := h.1; omega
  · injection e with e1 e2 e3; exact ⟨g, e1⟩
theorem ListOwn.caps {α : Type} {ty m : Nat} {cel : α → List Value} {Q : Nat → Nat → World → α → Prop} {a b : Nat} {w : World} {p : Option Addr} {n c : Nat} {xs : List α} (h : ListOwn ty m cel Q a b w p n c xs) : xs.length ≤ c ∧ c ≤ 9223372036854775807 := by
  have h1 := h.1
  rcases h.2.1.2 with ⟨e, h0⟩ | ⟨g, cap, cur, e, _, _, k1, k2, _⟩
  · injection e with e1 e2 e3; omega
  · injection e with e1 e2 e3; unfold maxLen at k2; omega
theorem out_setCells {lo hi g : Nat} (h1 : lo ≤ g) (h2 : g < hi) (cs : List Value) (o : Nat) (w : World) : Out lo hi w (w.setCells g o cs) := Out.grown (grown_setCells cs o (World.grownBy.refl w (some g))) (fun k e => by cases e; exact ⟨h1, h2⟩)
def badI : LI := (⟨-7, 0, 0, 0, 0, none, 0, 0, none, 0, 0, []⟩, [])
def badB : LB := ⟨none, 0, 0, []⟩
def badC : List Value := [.int .i64 (-7), .int .i64 0, .int .i64 0, .int .i64 0, .int .i64 0, .slice none 0 0, .slice none 0 0]
theorem badC_eq : liC badI = badC := rfl
theorem badAll : badC.toArray.all (·.oneCell') = true := by simp [badC, Value.oneCell']
theorem own_nil {α : Type} {ty m : Nat} {cel : α → List Value} {Q : Nat → Nat → World → α → Prop} {a b : Nat} (w : World) (h : a ≤ b) : ListOwn ty m cel Q a b w none 0 0 [] := ⟨rfl, World.ownsRow_nil w a ty m, fun g e => by simp [Value.ownBlock] at e, h⟩
theorem badI_own (a b : Nat) (w : World) (h : a ≤ b) : InsOwn a b w badI := ⟨own_nil w h, own_nil w h⟩
theorem badB_own (a b : Nat) (w : World) (h : a ≤ b) : BlkOwn a b w badB := own_nil w h
theorem extsZ_mem {l : List PExt} {x : PExt} (h : x ∈ l) : extZ x ≤ (l.map extZ).sum := sum_mem extZ h
theorem fnsZ_mem {l : List PFn} {x : PFn} (h : x ∈ l) : fnZ x ≤ (l.map fnZ).sum := sum_mem fnZ h
theorem ext_row {B : Nat} {w : World} {p : Option Addr} {n c : Nat} {L : List LExt} {E : Nat → World → LExt → Prop} (h : ListIn extC E B w p n c L) (i : Nat) (hi : i < L.length) :
    ∃ a, p = some a ∧ a.block < B ∧ w.cell? (a.add (i * 3)) = some (.string L[i].nm) ∧ w.cell? ⟨(a.add (i * 3)).block, (a.add (i * 3)).off + 1, none⟩ = some (.slice L[i].pp L[i].pn L[i].pc) ∧ w.cell? ⟨(a.add (i * 3)).block, (a.add (i * 3)).off + 2, none⟩ = some (.int .i64 L[i].rt) := by
  obtain ⟨h1, h2, h3, h4, -⟩ := h
  obtain ⟨a, e, ha, hc⟩ := h4.at (m := 3) (fun _ => rfl) i hi (by decide)
  refine ⟨a, e, ha, hc 0 (by decide), ?_, ?_⟩
  · have := hc 1 (by decide); rw [add_add a _ 1 (by decide)] at this; exact this
  · have := hc 2 (by decide); rw [add_add a _ 2 (by decide)] at this; exact this
theorem fn_row {B : Nat} {w : World} {p : Option Addr} {n c : Nat} {L : List LFn} {E : Nat → World → LFn → Prop} (h : ListIn fnC E B w p n c L) (i : Nat) (hi : i < L.length) :
    ∃ a, p = some a ∧ a.block < B ∧ w.cell? (a.add (i * 4)) = some (.string L[i].nm) ∧ w.cell? ⟨(a.add (i * 4)).block, (a.add (i * 4)).off + 1, none⟩ = some (.slice L[i].pp L[i].pn L[i].pc) ∧ w.cell? ⟨(a.add (i * 4)).block, (a.add (i * 4)).off + 2, none⟩ = some (.int .i64 L[i].rt) ∧ w.cell? ⟨(a.add (i * 4)).block, (a.add (i * 4)).off + 3, none⟩ = some (.slice L[i].bp L[i].bn L[i].bc) := by
  obtain ⟨h1, h2, h3, h4, -⟩ := h
  obtain ⟨a, e, ha, hc⟩ := h4.at (m := 4) (fun _ => rfl) i hi (by decide)
  refine ⟨a, e, ha, hc 0 (by decide), ?_, ?_, ?_⟩
  · have := hc 1 (by decide); rw [add_add a _ 1 (by decide)] at this; exact this
  · have := hc 2 (by decide); rw [add_add a _ 2 (by decide)] at this; exact this
  · have := hc 3 (by decide); rw [add_add a _ 3 (by decide)] at this; exact this
theorem blk_add (a : Addr) (i : Nat) {B : Nat} (h : a.block < B) : (a.add i).block < B := by rw [add_block]; exact h
theorem FnOwn.stays {a b : Nat} {w w' : World} {y : LFn} (h : FnOwn a b w y) (hs : Stay a b w w') : FnOwn a b w' y := local_Fn a b w w' y hs h
theorem ModOwn.stays {a b : Nat} {w w' : World} {y : LMod} (h : ModOwn a b w y) (hs : Stay a b w w') : ModOwn a b w' y := local_Mod a b w w' y hs h
/-- What is owned in the blocks from a on, ahead of b. -/
abbrev Owned := Nat × Nat × (World → Prop)
def fnO (a b : Nat) (y : LFn) : Owned := (a, b, fun w => FnOwn a b w y)
def modO (a b : Nat) (y : LMod) : Owned := (a, b, fun w => ModOwn a b w y)
/-- Boxes and what is owned, at a later world. -/
structure Stands (W : World) (R : List (Nat × List Value)) (O : List Owned) (w : World) : Prop where
  past : Past W.heap.size W w
  box : ∀ x ∈ R, Box x.1 x.2 w
  own : ∀ x ∈ O, x.2.2 w ∧ (∀ u u', Stay x.1 x.2.1 u u' → x.2.2 u → x.2.2 u') ∧ x.2.1 ≤ w.heap.size ∧ W.heap.size ≤ x.1
theorem Stands.start (W : World) : Stands W [] [] W := ⟨Past.refl (Nat.le_refl _), fun x h => absurd h (by simp), fun x h => absurd h (by simp)⟩
section
variable {W w w' : World} {R R' : List (Nat × List Value)} {O O' : List Owned}
theorem Stands.later (h : Stands W R O w) (hb : Below w.heap.size w w') : Stands W R O w' :=
  ⟨h.past.trans ⟨h.past.size, hb.mono h.past.size⟩, fun x hx => (h.box x hx).later hb, fun x hx => by
    obtain ⟨h1, hl, h2, h3⟩ := h.own x hx
    exact ⟨hl _ _ (below_stay hb h2) h1, hl, Nat.le_trans h2 hb.size, h3⟩⟩
theorem Stands.alloc (h : Stands W R O w) (o : Obj) : Stands W R O (w.alloc o) := h.later ((Below.refl _ _).alloc (Nat.le_refl _) o)
theorem Stands.drew (h : Stands W R O w) : Stands W R O w.drew := h.later (below_drew (Below.refl _ _))
theorem Stands.put (h : Stands W R O w) (cs : List Value) (t : TypeId) : Stands W ((w.heap.size, cs) :: R) O (w.alloc (.cells cs.toArray t)) :=
  ⟨(h.alloc _).past, fun x hx => by
    rcases List.mem_cons.1 hx with rfl | hx
    · exact Box.new w rfl cs t
    · exact (h.alloc _).box x hx, (h.alloc _).own⟩
theorem Stands.moreO (h : Stands W R O w) (hp : Past w.heap.size w w') (Q : World → Prop) (hq : Q w') (hl : ∀ u u', Stay w.heap.size w'.heap.size u u' → Q u → Q u') : Stands W R ((w.heap.size, w'.heap.size, Q) :: O) w' :=
  ⟨(h.later hp.2).past, (h.later hp.2).box, fun x hx => by
    rcases List.mem_cons.1 hx with rfl | hx
    · exact ⟨hq, hl, Nat.le_refl _, h.past.size⟩
    · exact (h.later hp.2).own x hx⟩
theorem Stands.more (h : Stands W R O w) (hp : Past w.heap.size w w') {y : LFn} (hy : FnOwn w.heap.size w'.heap.size w' y) : Stands W R (fnO w.heap.size w'.heap.size y :: O) w' :=
  h.moreO hp _ hy (fun _ _ hs hq => FnOwn.stays hq hs)
theorem Stands.moreM (h : Stands W R O w) (hp : Past w.heap.size w w') {y : LMod} (hy : ModOwn w.heap.size w'.heap.size w' y) : Stands W R (modO w.heap.size w'.heap.size y :: O) w' :=
  h.moreO hp _ hy (fun _ _ hs hq => ModOwn.stays hq hs)
theorem Stands.fn (h : Stands W R O w) {a b : Nat} {y : LFn} (hx : fnO a b y ∈ O) : FnIn w.heap.size w y := FnOwn.lies (h.own _ hx).2.2.1 (h.own _ hx).1
theorem Stands.mod (h : Stands W R O w) {a b : Nat} {y : LMod} (hx : modO a b y ∈ O) : ModIn w.heap.size w y := ModOwn.lies (h.own _ hx).2.2.1 (h.own _ hx).1
theorem Stands.arg (h : Stands W R O w) {f : LFn} (hf : FnIn W.heap.size W f) : FnIn w.heap.size w f := past_lasts lasts_Fn hf h.past
theorem Stands.argM (h : Stands W R O w) {f : LMod} (hf : ModIn W.heap.size W f) : ModIn w.heap.size w f := past_lasts lasts_Mod hf h.past
theorem Stands.sub (h : Stands W R O w) (hR : ∀ x ∈ R', x ∈ R) (hO : ∀ x ∈ O', x ∈ O) : Stands W R' O' w :=
  ⟨h.past, fun x hx => h.box x (hR x hx), fun x hx => h.own x (hO x hx)⟩
theorem Stands.out (h : Stands W R O w) {lo hi : Nat} (ho : Out lo hi w w') (hlo : W.heap.size ≤ lo) (hR : ∀ x ∈ R, x.1 < lo ∨ hi ≤ x.1) (hO : ∀ x ∈ O, x.2.1 ≤ lo ∨ hi ≤ x.1) : Stands W R O w' :=
  ⟨h.past.trans ⟨h.past.size, ho.below hlo h.past.size⟩, fun x hx => Out.box (h.box x hx) ho (hR x hx), fun x hx => by
    obtain ⟨h1, hl, h2, h3⟩ := h.own x hx
    exact ⟨hl _ _ (ho.stay h2 (hO x hx)) h1, hl, Nat.le_trans h2 ho.size, h3⟩⟩
theorem box_sets {g : Nat} : ∀ (cs xs : List Value) (o : Nat) {w : World}, Box g xs w → Box g (sets xs o cs) (w.setCells g o cs)
  | [], _, _, _, h => h
  | c :: r, xs, o, w, h => by
    unfold sets World.setCells
    exact box_sets r _ (o + 1) (h.set o c)
theorem sets_all (xs cs : List Value) (h : xs.length = cs.length) : sets xs 0 cs = cs := by
  apply List.ext_getElem?
  intro j
  rw [sets_get _ _ _ _ (by omega)]
  by_cases hj : j < cs.length
  · rw [if_pos (by omega), Nat.sub_zero]
  · rw [if_neg (by omega), List.getElem?_eq_none (by omega), List.getElem?_eq_none (by omega)]
/-- A box filled anew. -/
theorem Stands.fill (h : Stands W R O w) {b : Nat} {cs : List Value} (cs' : List Value) (hb : (b, cs) ∈ R) (hW : W.heap.size ≤ b) (hl : cs.length = cs'.length) (hR : ∀ x ∈ R', x = (b, cs') ∨ (x ∈ R ∧ x.1 ≠ b)) (hO : ∀ x ∈ O, x.2.1 ≤ b ∨ b < x.1) : Stands W R' O (w.setCells b 0 cs') := by
  have ho : Out b (b + 1) w (w.setCells b 0 cs') := out_setCells (Nat.le_refl _) (Nat.lt_succ_self _) cs' 0 w
  have h2 : Stands W (R.filter fun x => decide (x.1 ≠ b)) O (w.setCells b 0 cs') := by
    refine Stands.out (h.sub (fun x hx => (List.mem_filter.1 hx).1) (fun x hx => hx)) ho hW (fun x hx => ?_) (fun x hx => ?_)
    · have := (List.mem_filter.1 hx).2
      simp only [decide_eq_true_eq] at this
      omega
    · have := hO x hx
      omega
  refine ⟨h2.past, fun x hx => ?_, h2.own⟩
  rcases hR x hx with rfl | ⟨hx, hne⟩
  · have := box_sets cs' cs 0 (h.box _ hb)
    rw [sets_all _ _ hl] at this
    exact this
  · exact h2.box x (List.mem_filter.2 ⟨hx, by simpa using hne⟩)
theorem Stands.get (h : Stands W R O w) {b : Nat} {cs : List Value} (hb : (b, cs) ∈ R) (i : Nat) (u : Value) (e : cs[i]? = some u) : w.cell? ⟨b, i, none⟩ = some u := (h.box _ hb).get i u e
theorem Stands.lt (h : Stands W R O w) {b : Nat} {cs : List Value} (hb : (b, cs) ∈ R) : b < w.heap.size := (h.box _ hb).1
end
set_option maxRecDepth 100000 in
set_option maxHeartbeats 4000000 in
theorem Few_any (m : LMod) (most : Int) (W : World) (h : ModIn W.heap.size W m) :
    Calls Tryz.prog 6 #[.agg (modC m).toArray, .int .i64 most] W (SomeBool W) := by
  obtain ⟨vp, vn, vc, vs, xp, xn, xc, xs, fp, fn, fc, fs⟩ := m
  obtain ⟨h1, h2, h3⟩ := h
  simp only at h1 h2 h3
  obtain rfl : xn = xs.length := h2.1
  obtain rfl : fn = fs.length := h3.1
  have k2 := h2.2.1
  have k3 := h2.2.2.1
  have k2' := h3.2.1
  have k3' := h3.2.2.1
  unfold maxLen at k3 k3'
  have H2 := Lib.hid h2
  have H3 := Lib.hid h3
  clear h1 h2 h3
  show Calls Tryz.prog 6 #[.agg #[.slice vp vn vc, .slice xp xs.length xc, .slice fp fs.length fc], .int .i64 most] W (SomeBool W)
  have hP : Past W.heap.size W (W.alloc (.cells #[.slice vp vn vc, .slice xp xs.length xc, .slice fp fs.length fc] 26)) := (Past.refl (Nat.le_refl _)).alloc _
  have A1 : Box W.heap.size [.slice vp vn vc, .slice xp xs.length xc, .slice fp fs.length fc] (W.alloc (.cells #[.slice vp vn vc, .slice xp xs.length xc, .slice fp fs.length fc] 26)) := Box.new W rfl _ _
  go_enter Tryz.func6, Tryz.ntmps6
  go_wp2_with fail
  generalize W.alloc (.cells #[.slice vp vn vc, .slice xp xs.length xc, .slice fp fs.length fc] 26) = w1 at *
  go_loopw [5, 28] (fun m t wr => ∃ (v : Int) (b : Nat), b ≤ xs.length ∧ m = .int .i64 v ∧ t = .int .i64 b ∧ Past W.heap.size W wr ∧ Box W.heap.size [.slice vp vn vc, .slice xp xs.length xc, .slice fp fs.length fc] wr) (fun _ t _ => xs.length - (intOf t).toNat)
  case atStart => exact ⟨_, 0, Nat.zero_le _, rfl, rfl, hP, A1⟩
  case round =>
    obtain ⟨v, b, hb, rfl, rfl, hbe, hB⟩ := hrel
    by_cases hlt : b < xs.length
    · obtain ⟨a, rfl, ha, c0, c1, c2⟩ := ext_row H2.out b hlt
      have d0 := (hbe.2.cell (p := a.add (b * 3)) (blk_add a _ ha)).trans c0
      have d1 := (hbe.2.cell (p := ⟨(a.add (b * 3)).block, (a.add (b * 3)).off + 1, none⟩) (blk_add a _ ha)).trans c1
      have d2 := (hbe.2.cell (p := ⟨(a.add (b * 3)).block, (a.add (b * 3)).off + 2, none⟩) (blk_add a _ ha)).trans c2
      clear c0 c1 c2
      go_wp2_with fail
      exact ⟨⟨_, b + 1, by omega, rfl, by go_num, hbe.alloc _, hB.alloc _⟩, by simp [intOf]; omega⟩
    · obtain rfl : b = xs.length := by omega
      have a2 := hB.get 2 _ rfl
      clear hP A1
      rename_i wq
      have hP := hbe
      have A1 := hB
      clear hbe hB
      go_wp2_with fail
      clear a2
      go_loopw [5, 41] (fun m t wr => ∃ (v : Int) (b : Nat), b ≤ fs.length ∧ m = .int .i64 v ∧ t = .int .i64 b ∧ Past W.heap.size W wr) (fun _ t _ => fs.length - (intOf t).toNat)
      case atStart => exact ⟨_, 0, Nat.zero_le _, rfl, rfl, hP⟩
      case round =>
        obtain ⟨v, b, hb, rfl, rfl, hbe⟩ := hrel
        by_cases hlt : b < fs.length
        · obtain ⟨a, rfl, ha, c0, c1, c2, c3⟩ := fn_row H3.out b hlt
          have d0 := (hbe.2.cell (p := a.add (b * 4)) (blk_add a _ ha)).trans c0
          have d1 := (hbe.2.cell (p := ⟨(a.add (b * 4)).block, (a.add (b * 4)).off + 1, none⟩) (blk_add a _ ha)).trans c1
          have d2 := (hbe.2.cell (p := ⟨(a.add (b * 4)).block, (a.add (b * 4)).off + 2, none⟩) (blk_add a _ ha)).trans c2
          have d3 := (hbe.2.cell (p := ⟨(a.add (b * 4)).block, (a.add (b * 4)).off + 3, none⟩) (blk_add a _ ha)).trans c3
          clear c0 c1 c2 c3
          have hin := H3.out.2.2.2.2 fs[b] (List.getElem_mem hlt)
          obtain ⟨p, cap, he, hc1, hc2, hbl⟩ := blocksAt_in hin.2
          obtain ⟨l, el⟩ : ∃ l, located fs[b].bs = l := ⟨_, rfl⟩
          rw [el] at he hc1 hbl
          injection he with he1 he2 he3
          unfold maxLen at hc2
          rw [he1, he2, he3] at d3
          have HBL := Lib.hid hbl
          have hx := hbe.alloc (.cells #[.string fs[b].nm, .slice fs[b].pp fs[b].pn fs[b].pc, .int .i64 fs[b].rt, .slice p l.length cap] 45)
          clear hbl hin el he1 he2 he3
          go_wp2_with fail
          go_loopw [5, 57] (fun m t wr => ∃ (v : Int) (b : Nat), b ≤ l.length ∧ m = .int .i64 v ∧ t = .int .i64 b ∧ Past W.heap.size W wr) (fun _ t _ => l.length - (intOf t).toNat)
          case atStart => exact ⟨_, 0, Nat.zero_le _, rfl, rfl, hx⟩
          case round =>
            obtain ⟨v3, b3, hb3, rfl, rfl, hbe3⟩ := hrel
            by_cases hlt3 : b3 < l.length
            · obtain ⟨a3, x3, rfl, hab, hcell, hcode⟩ := HBL.out b3 hlt3
              obtain ⟨q2, cap2, rfl, hd1, hd2, hcd⟩ := hcode
              unfold maxLen at hd2
              have k1 : wr.cell? (a3.add b3) = some (.slice q2 l[b3].length cap2) := (hbe3.2.cell (p := a3.add b3) (by rw [add_block]; exact hab)).trans hcell
              have HCD := Lib.hid hcd
              have b1 := hbe3.alloc (.cells #[.slice q2 l[b3].length cap2] 42)
              clear hcd hcell
              go_wp2_with fail
              go_loopw [5, 69] (fun m t wi => ∃ (v : Int) (k : Nat), k ≤ l[b3].length ∧ m = .int .i64 v ∧ t = .int .i64 k ∧ Past W.heap.size W wi) (fun _ t _ => l[b3].length - (intOf t).toNat)
              case atStart => exact ⟨_, 0, Nat.zero_le _, rfl, rfl, b1⟩
              case round =>
                obtain ⟨v2, k, hk, rfl, rfl, hbi⟩ := hrel
                by_cases hkl : k < l[b3].length
                · obtain ⟨a2, rfl, ha2, hins⟩ := HCD.out k hkl
                  obtain ⟨z0, z1, z2, z3, z4, z5, z6⟩ := hins.below hbi.2 (by rw [add_block]; exact ha2)
                  clear hins
                  go_wp2_with fail
                  · go_ret
                    exact ⟨false, rfl, (hbi.alloc _).2⟩
                  · exact ⟨⟨_, k + 1, by omega, rfl, by go_num, hbi.alloc _⟩, by simp [intOf]; omega⟩
                · obtain rfl : k = l[b3].length := by omega
                  go_wp2_with fail
                  exact ⟨⟨_, b3 + 1, by omega, rfl, by go_num, hbi⟩, by simp [intOf]; omega⟩
            · obtain rfl : b3 = l.length := by omega
              go_wp2_with fail
              exact ⟨⟨_, b + 1, by omega, rfl, by go_num, hbe3⟩, by simp [intOf]; omega⟩
        · obtain rfl : b = fs.length := by omega
          go_wp2_with fail
          go_ret
          exact ⟨_, rfl, hbe.2⟩
/-- wpList_append_at, at a step of a region that draws its order. -/
theorem step_append_at {P : Program} {w : World} {ops : Array Oper} {o : Oper} {a : Act} {K : Act → World → Prop} {Q : Exit → Act → World → Prop} {E : Prop} (hgd : o.guard = none) (s x : Operand) (t : TypeId)
    (ho : o.op = .call { callee := .builtin .append, args := #[s, x], argTypes := #[t, t] })
    (base : Nat) (e : TypeId) (i : TypeInfo) (z : Value) (size bytes : Nat) (ht : P.underlying t = some (.slice e)) (hi : P.info? e = some i) (hz : i.zero = some z)
    (hsize : i.size = size) (hby : i.bytes = bytes) (hzs : z.cells.size = size) (hsz : 0 < size)
    (v : Value) (n : Nat) (xs : List Value) (hs : a.eval s = v) (hown : w.ownsRow base e size v n xs)
    (p : Option Addr) (m c : Nat) (news : List Value) (hx : a.eval x = .slice p m c) (hl : news.length = m * size) (hnews : ∀ j u, news[j]? = some u → ∃ ad, p = some ad ∧ w.cell? (ad.add j) = some u) (h1 : ∀ u ∈ news, u.oneCell' = true)
    (h63 : n + m ≤ maxLen) (hbytes : (n + m) * bytes ≤ 140737488355328) (hbase : base ≤ w.heap.size)
    (h : ∀ v' w', w'.ownsRow base e size v' (n + m) (xs ++ news) → w.grownBy w' v.ownBlock → Moved w v v' → K (a.put o.dst v') w') :
    if Region.wanted o (yielded ops a.tmps) = true then Oper.wp P o a w K Q else E := by
  have hw : Region.wanted o (yielded ops a.tmps) = true := by simp [Region.wanted, hgd]
  rw [if_pos hw]
  cases p with
  | some ad =>
    have hnews' : ∀ j u, news[j]? = some u → w.cell? (ad.add j) = some u := fun j u hj => by
      obtain ⟨ad', e1, e2⟩ := hnews j u hj
      cases e1
      exact e2
    obtain ⟨v', w', hr, h2, h3, -⟩ := run_append_own (P := P) w base t o.type e i z size bytes ht hi hz hsize hby hzs hsz v n xs hown ad m c news hl hnews' h1 h63 hbytes hbase
    have h4 := append_where w base t o.type e i z size bytes ht hi hz hsize hby hsz v n xs hown ad m c news hl hnews' h1 h63 hbytes v' w' hr
    unfold Oper.wp execOp
    simp only [ho, resolve, invoke, builtin, Sem.run_bind, Sem.run_pure, Result.andThen_ok, List.map_toArray, List.map_cons, List.map_nil, hs, hx, hr]
    exact h v' w' h2 h3 h4
  | none =>
    have hn0 : news = [] := by
      cases news with
      | nil => rfl
      | cons u r => obtain ⟨_, e1, _⟩ := hnews 0 u rfl; cases e1
    subst hn0
    obtain rfl : m = 0 := by
      rcases Nat.eq_zero_or_pos m with h0 | h0
      · exact h0
      · have := Nat.mul_pos h0 hsz; simp at hl; omega
    have hr : (Builtin.append_ #[t, t] o.type #[v, .slice none 0 c]).run P w = .ok v w := by
      rcases hown.2 with ⟨rfl, rfl⟩ | ⟨g, cap, cur, rfl, hbg, hg, hnc, hcm, hcs, htake⟩
      · simp [Builtin.append_, run_underlying ht, sizeOf, typeInfo, hi, Builtin.lenOf, Builtin.firstCells]
      · simp [Builtin.append_, run_underlying ht, sizeOf, typeInfo, hi, Builtin.lenOf, Builtin.firstCells, hnc, storeCells]
    unfold Oper.wp execOp
    simp only [ho, resolve, invoke, builtin, Sem.run_bind, Sem.run_pure, Result.andThen_ok, List.map_toArray, List.map_cons, List.map_nil, hs, hx, hr]
    exact h v w (by rw [List.append_nil]; exact hown) (World.grownBy.refl _ _) (.inl rfl)
/-- A list of the call's own that grows: its row, and each element's memory. -/
structure Grows {α : Type} (ty m : Nat) (cel : α → List Value) (Q : Nat → Nat → World → α → Prop) (d : Nat) (ys : List α) (q : Option Addr) (c : Nat) (w : World) : Prop where
  dw : d ≤ w.heap.size
  row : w.ownsRow d ty m (.slice q ys.length c) ys.length (ys.flatMap cel)
  sp : Spread Q (Value.slice q ys.length c).ownBlock d w.heap.size w ys
section
variable {α : Type} {ty m : Nat} {cel : α → List Value} {Q : Nat → Nat → World → α → Prop} {d : Nat} {ys : List α} {q : Option Addr} {c : Nat} {w w' : World}
theorem Grows.start (w : World) (hd : d ≤ w.heap.size) : Grows ty m cel Q d [] none 0 w := ⟨hd, World.ownsRow_nil _ _ _ _, hd⟩
theorem Grows.later (hQ : Local Q) (h : Grows ty m cel Q d ys q c w) (hb : Below w.heap.size w w') : Grows ty m cel Q d ys q c w' :=
  ⟨Nat.le_trans h.dw hb.size, ownsRow_below h.row hb, (h.sp.stay hQ (fun k _ hk _ => hb.block k hk)).up hb.size⟩
theorem Grows.set (hQ : Local Q) (h : Grows ty m cel Q d ys q c w) {a : Addr} (ha : a.block < d) (v : Value) : Grows ty m cel Q d ys q c (w.setCell a v) :=
  ⟨by simpa [World.setCell] using h.dw, ownsRow_set h.row ha v, by
    have e : (w.setCell a v).heap.size = w.heap.size := by simp [World.setCell]
    rw [e]
    exact h.sp.stay hQ (fun k hk _ _ => Below.heap_setCell _ _ _ _ (by omega))⟩
theorem Grows.snoc (hQ : Local Q) {w0 w2 w3 : World} (h : Grows ty m cel Q d ys q c w0) (hb : Below w0.heap.size w0 w2) {a b : Nat} {y : α} (hy : Q a b w2 y) (ha : w0.heap.size ≤ a) (hab : a ≤ b) (hb2 : b ≤ w2.heap.size) {q' : Option Addr} {c' : Nat}
    (hown : w3.ownsRow d ty m (.slice q' (ys.length + 1) c') (ys.length + 1) (ys.flatMap cel ++ cel y)) (hg : w2.grownBy w3 (Value.slice q ys.length c).ownBlock) (hm : Moved w2 (Value.slice q ys.length c) (Value.slice q' (ys.length + 1) c')) : Grows ty m cel Q d (ys ++ [y]) q' c' w3 := by
  have hlt := h.row.lt
  have h1 := hb.size
  have h2 := hg.size
  have hs := Spread.grow hQ h.sp hb hg hm (fun g e => by have := (hlt g e).2; omega)
  have st : Stay a b w2 w3 := fun k x y => hg.block k (by omega) (fun e => by have := (hlt k e.symm).2; omega)
  have hlen : (ys ++ [y]).length = ys.length + 1 := by simp
  refine ⟨by have := h.dw; omega, ?_, ?_⟩
  · rw [hlen]
    have e : (ys ++ [y]).flatMap cel = ys.flatMap cel ++ cel y := by rw [List.flatMap_append]; simp
    rw [e]
    exact hown
  · rw [hlen]
    refine (hs.snoc ha hab (fun k e => ?_) (hQ _ _ _ _ _ st hy)).up (by omega)
    rcases hm with e2 | e2
    · rw [e2] at e; have := (hlt k e).2; omega
    · rw [e2] at e; injection e with e; omega
theorem Grows.own {lo : Nat} (h : Grows ty m cel Q d ys q c w) : ListOwn ty m cel Q d w.heap.size w q ys.length c ys := own_intro rfl h.row rfl h.sp
end
theorem infoOf_Var : (Tryz.prog.info? 35).map (fun i => (i.zero, i.size, i.bytes)) = some (some (.agg #[.string { data := #[] }, .int .i64 0]), 2, 24) := by kernel_rfl
theorem infoOf_Ext : (Tryz.prog.info? 47).map (fun i => (i.zero, i.size, i.bytes)) = some (some (.agg #[.string { data := #[] }, .slice none 0 0, .int .i64 0]), 3, 48) := by kernel_rfl
theorem infoOf_Fn : (Tryz.prog.info? 45).map (fun i => (i.zero, i.size, i.bytes)) = some (some (.agg #[.string { data := #[] }, .slice none 0 0, .int .i64 0, .slice none 0 0]), 4, 72) := by kernel_rfl
set_option maxRecDepth 100000 in
set_option maxHeartbeats 4000000 in
theorem rCopy_own (m : LMod) (W : World) (h : ModIn W.heap.size W m) (hz : modZ (modD m) ≤ 1048576) :
    Calls Tryz.prog 7 #[.agg (modC m).toArray] W fun e w' => ∃ y, e = .returned (.agg (modC y).toArray) ∧ modD y = modD m ∧ Past W.heap.size W w' ∧ ModOwn W.heap.size w'.heap.size w' y := by
  obtain ⟨iN, hiN, n0, n1, n2⟩ := info_parts infoOf_N
  obtain ⟨iV, hiV, v0, v1, v2⟩ := info_parts infoOf_Var
  obtain ⟨iX, hiX, c0, c1, c2⟩ := info_parts infoOf_Ext
  obtain ⟨iF, hiF, b0, b1, b2⟩ := info_parts infoOf_Fn
  have HN := Lib.hid (And.intro hiN (And.intro n0 (And.intro n1 n2)))
  have HV := Lib.hid (And.intro hiV (And.intro v0 (And.intro v1 v2)))
  have HX := Lib.hid (And.intro hiX (And.intro c0 (And.intro c1 c2)))
  have HF := Lib.hid (And.intro hiF (And.intro b0 (And.intro b1 b2)))
  clear hiN n0 n1 n2 hiV v0 v1 v2 hiX c0 c1 c2 hiF b0 b1 b2
  obtain ⟨vp, vn, vc, vs, xp, xn, xc, xs, fp, fn, fc, fs⟩ := m
  obtain rfl : vn = vs.length := h.1.1
  obtain rfl : xn = xs.length := h.2.1.1
  obtain rfl : fn = fs.length := h.2.2.1
  have kx1 : xs.length ≤ xc := h.2.1.2.1
  have kx2 : xc ≤ maxLen := h.2.1.2.2.1
  have kf1 : fs.length ≤ fc := h.2.2.2.1
  have kf2 : fc ≤ maxLen := h.2.2.2.2.1
  unfold maxLen at kx2 kf2
  have hzz : vs.length + ((xs.map extD).map extZ).sum + ((fs.map fnD).map fnZ).sum ≤ 1048576 := hz
  have hxl : xs.length ≤ 1048576 := by have := len_sum extZ (fun x => by unfold extZ; omega) (xs.map extD); rw [List.length_map] at this; omega
  have hfl : fs.length ≤ 1048576 := by have := len_sum fnZ (fun x => by unfold fnZ; omega) (fs.map fnD); rw [List.length_map] at this; omega
  have hxz : ∀ i (hi : i < xs.length), xs[i].ps.length ≤ 1048576 := fun i hi => by
    have h1 := extsZ_mem (List.mem_map_of_mem (f := extD) (List.getElem_mem hi))
    have h2 : xs[i].ps.length ≤ extZ (extD xs[i]) := by unfold extZ extD; simp only; omega
    omega
  have hfz : ∀ i (hi : i < fs.length), fnZ (fnD fs[i]) ≤ 1048576 := fun i hi => by
    have h1 := fnsZ_mem (List.mem_map_of_mem (f := fnD) (List.getElem_mem hi))
    omega
  have HXZ := Lib.hid hxz
  have HFZ := Lib.hid hfz
  have H1 := Lib.hid h.1
  have H2 := Lib.hid h.2.1
  have H3 := Lib.hid h.2.2
  simp only at H1 H2 H3
  have hvl : vs.length ≤ 1048576 := by omega
  clear h hz hzz hxz hfz
  show Calls Tryz.prog 7 #[.agg #[.slice vp vs.length vc, .slice xp xs.length xc, .slice fp fs.length fc]] W _
  have P1 := (Past.refl (Nat.le_refl W.heap.size)).alloc (.cells #[.slice vp vs.length vc, .slice xp xs.length xc, .slice fp fs.length fc] 26)
  have F1 : Box W.heap.size [.slice vp vs.length vc, .slice xp xs.length xc, .slice fp fs.length fc] (W.alloc (.cells #[.slice vp vs.length vc, .slice xp xs.length xc, .slice fp fs.length fc] 26)) := Box.new W rfl _ _
  have z1 : (W.alloc (.cells #[.slice vp vs.length vc, .slice xp xs.length xc, .slice fp fs.length fc] 26)).heap.size = W.heap.size + 1 := by simp
  go_enter Tryz.func7, Tryz.ntmps7
  go_upto_region 1 with fail
  generalize (W.alloc (.cells #[.slice vp vs.length vc, .slice xp xs.length xc, .slice fp fs.length fc] 26)) = w1 at *
  have P2 := P1.alloc (.cells #[.slice none 0 0, .slice none 0 0, .slice none 0 0] 26)
  have F2 := F1.alloc (.cells #[.slice none 0 0, .slice none 0 0, .slice none 0 0] 26)
  have R2 : Box (W.heap.size + 1) [.slice none 0 0, .slice none 0 0, .slice none 0 0] (w1.alloc (.cells #[.slice none 0 0, .slice none 0 0, .slice none 0 0] 26)) := Box.new w1 (by omega) _ _
  have z2 : (w1.alloc (.cells #[.slice none 0 0, .slice none 0 0, .slice none 0 0] 26)).heap.size = W.heap.size + 2 := by simp; omega
  go_upto_region 2 with fail
  generalize (w1.alloc (.cells #[.slice none 0 0, .slice none 0 0, .slice none 0 0] 26)) = w2 at *
  have P3 := P2.alloc (.cells #[.slice none 0 0, .slice none 0 0, .slice none 0 0] 26)
  have F3 := F2.alloc (.cells #[.slice none 0 0, .slice none 0 0, .slice none 0 0] 26)
  have R3 := R2.alloc (.cells #[.slice none 0 0, .slice none 0 0, .slice none 0 0] 26)
  have G3 : Box (W.heap.size + 2) [.slice none 0 0, .slice none 0 0, .slice none 0 0] (w2.alloc (.cells #[.slice none 0 0, .slice none 0 0, .slice none 0 0] 26)) := Box.new w2 (by omega) _ _
  have z3 : (w2.alloc (.cells #[.slice none 0 0, .slice none 0 0, .slice none 0 0] 26)).heap.size = W.heap.size + 3 := by simp; omega
  clear P1 P2 F1 F2 R2 z1 z2
  generalize (w2.alloc (.cells #[.slice none 0 0, .slice none 0 0, .slice none 0 0] 26)) = w3 at *
  have hpc := cells_of_row ((H1.out.lasts lasts_NoMem P3.2 P3.2.size).2.2.2.1)
  have z3' : W.heap.size + 3 ≤ w3.heap.size := by omega
  clear z3
  have y0 := F3.get 0 _ rfl
  have x0 := G3.get 0 _ rfl
  go_wp2_with (first
    | (at_builtin; refine wpList_append_at rfl (.tmp 8) (.tmp 10) 22 rfl (W.heap.size + 3) 35 iV _ 2 24 Tryz.underlying22 HV.out.1 HV.out.2.1 HV.out.2.2.1 HV.out.2.2.2 rfl (by decide) (.slice none 0 0) 0 [] rfl (World.ownsRow_nil _ _ _ _) vp vs.length vc (vs.flatMap varC) rfl (flat_len varC 2 (fun _ => rfl) vs) hpc (flat_one varC_one vs) (by unfold maxLen; omega) (by omega) (by omega) ?_; intro vv w4 hown4 hgrow4 hmv4; obtain ⟨q4, c4, rfl⟩ := row_slice hown4; have F4 := F3.kept hgrow4 (by simp [Value.ownBlock]); have R4 := R3.kept hgrow4 (by simp [Value.ownBlock]); have G4 := G3.kept hgrow4 (by simp [Value.ownBlock]); have x0 := G4.get 0 _ rfl; have x1 := G4.get 1 _ rfl; have x2 := G4.get 2 _ rfl; have xf := G4.2.1))
  have P4 := P3.grownRow hgrow4 (fun g e => by simp [Value.ownBlock] at e)
  have z4 : W.heap.size + 3 ≤ w4.heap.size := by have := hgrow4.size; omega
  rw [Nat.zero_add, List.nil_append] at hown4
  have G5 := G4.set 0 (.slice q4 (0 + vs.length) c4)
  have F5 := F4.other (d := W.heap.size + 2) (by omega) 0 (.slice q4 (0 + vs.length) c4)
  have R5 := R4.other (d := W.heap.size + 2) (by omega) 0 (.slice q4 (0 + vs.length) c4)
  have P5 := P4.set (a := ⟨W.heap.size + 2, 0, none⟩) (by dsimp only; omega) (.slice q4 (0 + vs.length) c4)
  have o5 := ownsRow_set hown4 (a := ⟨W.heap.size + 2, 0, none⟩) (by dsimp only; omega) (.slice q4 (0 + vs.length) c4)
  have l5 : (w4.setCell ⟨W.heap.size + 2, 0, none⟩ (.slice q4 (0 + vs.length) c4)).heap.size = w4.heap.size := by simp [World.setCell]
  rw [Nat.zero_add] at G5 F5 R5 P5 o5 l5
  clear F3 R3 G3 P3 F4 R4 G4 P4 hown4 hgrow4 hmv4 y0 x0 x1 x2 xf hpc z3'
  try simp only [Nat.zero_add]
  generalize w4.setCell ⟨W.heap.size + 2, 0, none⟩ (.slice q4 vs.length c4) = w5 at *
  obtain ⟨d, hd⟩ : ∃ d, w5.heap.size = d := ⟨_, rfl⟩
  have hd3 : W.heap.size + 3 ≤ d := by omega
  have LP : ListOwn 35 2 varC NoOwn (W.heap.size + 3) d w5 q4 vs.length c4 vs := own_intro rfl o5 hd.symm (spread_NoOwn hd3 _)
  have HI0 := Lib.hid (And.intro P5 (And.intro F5 (And.intro R5 (And.intro G5 LP))))
  have HD := Lib.hid (Nat.le_of_eq hd.symm)
  clear o5 LP G5 F5 R5 P5 l5 z4 hd
  go_loopw [4] (fun t wr => (∃ (i : Nat) (ys : List LExt) (q : Option Addr) (c : Nat), i ≤ xs.length ∧ t = .int .i64 i ∧ Hid (ys.length = i ∧ ys.map extD = (xs.take i).map extD) ∧ Past W.heap.size W wr ∧ Box W.heap.size [.slice vp vs.length vc, .slice xp xs.length xc, .slice fp fs.length fc] wr ∧ Box (W.heap.size + 1) [.slice none 0 0, .slice none 0 0, .slice none 0 0] wr ∧ Box (W.heap.size + 2) [.slice q4 vs.length c4, .slice q ys.length c, .slice none 0 0] wr ∧ Hid (ListOwn 35 2 varC NoOwn (W.heap.size + 3) d wr q4 vs.length c4 vs) ∧ Hid (Grows 47 3 extC ExtOwn d ys q c wr))) (fun t _ => xs.length - (intOf t).toNat)
  case atStart => exact ⟨0, [], none, 0, Nat.zero_le _, rfl, Lib.hid ⟨rfl, rfl⟩, HI0.out.1, HI0.out.2.1, HI0.out.2.2.1, HI0.out.2.2.2.1, Lib.hid HI0.out.2.2.2.2, Lib.hid (Grows.start _ HD.out)⟩
  case round =>
    obtain ⟨i, ys, q, c, hi, rfl, HY, P6, F6, R6, G6, HL, HG⟩ := hrel
    have f1 := F6.get 1 _ rfl
    by_cases hlt : i < xs.length
    · obtain ⟨a, rfl, ha, e0, e1, e2⟩ := ext_row H2.out i hlt
      have d0 := (P6.2.cell (p := a.add (i * 3)) (blk_add a _ ha)).trans e0
      have d1 := (P6.2.cell (p := ⟨(a.add (i * 3)).block, (a.add (i * 3)).off + 1, none⟩) (blk_add a _ ha)).trans e1
      have d2 := (P6.2.cell (p := ⟨(a.add (i * 3)).block, (a.add (i * 3)).off + 2, none⟩) (blk_add a _ ha)).trans e2
      clear e0 e1 e2
      have hin := H2.out.2.2.2.2 xs[i] (List.getElem_mem hlt)
      have HIN := Lib.hid hin
      have q1 : xs[i].pn = xs[i].ps.length := hin.1
      have lw : W.heap.size + 2 < wr.heap.size := G6.1
      have la : a.block < wr.heap.size := Nat.lt_of_lt_of_le ha P6.size
      have lae := blk_add a (i * 3) la
      have HP6 := Lib.hid P6
      have HF6 := Lib.hid F6
      have HR6 := Lib.hid R6
      have HG6 := Lib.hid G6
      have HQ1 := Lib.hid q1
      clear hin q1 P6 F6 R6 G6
      have HS : Hid (∀ w', Below wr.heap.size wr w' → (w'.cell? ⟨W.heap.size, 1, none⟩ = some (.slice (some a) xs.length xc) ∧ w'.cell? (a.add (i * 3)) = some (.string xs[i].nm) ∧ w'.cell? ⟨(a.add (i * 3)).block, (a.add (i * 3)).off + 1, none⟩ = some (.slice xs[i].pp xs[i].pn xs[i].pc) ∧ w'.cell? ⟨(a.add (i * 3)).block, (a.add (i * 3)).off + 2, none⟩ = some (.int .i64 xs[i].rt) ∧ Below wr.heap.size wr w')) := Lib.hid (fun w' hb => ⟨(hb.cell (p := ⟨W.heap.size, 1, none⟩) (by dsimp only; omega)).trans f1, (hb.cell (p := a.add (i * 3)) (blk_add a _ la)).trans d0, (hb.cell (p := ⟨(a.add (i * 3)).block, (a.add (i * 3)).off + 1, none⟩) (blk_add a _ la)).trans d1, (hb.cell (p := ⟨(a.add (i * 3)).block, (a.add (i * 3)).off + 2, none⟩) (blk_add a _ la)).trans d2, hb⟩)
      have hb0 : Below wr.heap.size wr wr := Below.refl _ _
      go_wp2_with fail
      go_region_held3 (fun w' => w'.cell? ⟨W.heap.size, 1, none⟩ = some (.slice (some a) xs.length xc) ∧ w'.cell? (a.add (i * 3)) = some (.string xs[i].nm) ∧ w'.cell? ⟨(a.add (i * 3)).block, (a.add (i * 3)).off + 1, none⟩ = some (.slice xs[i].pp xs[i].pn xs[i].pc) ∧ w'.cell? ⟨(a.add (i * 3)).block, (a.add (i * 3)).off + 2, none⟩ = some (.int .i64 xs[i].rt) ∧ Below wr.heap.size wr w')
        (((try dsimp only); refine HS.out _ ?_; repeat (first | (with_reducible assumption) | (with_reducible apply below_drew) | (with_reducible refine Below.alloc ?_ (by first | omega | (simp <;> omega)) _) | (with_reducible refine Below.setCell ?_ (by dsimp only; first | omega | (simp <;> omega)) _))))
        (fail)
      go_upto_region 7 with fail
      have X6 : Box wr.heap.size [.string xs[i].nm, .slice none 0 0, .int .i64 xs[i].rt] (wr.alloc (.cells #[.string xs[i].nm, .slice none 0 0, .int .i64 xs[i].rt] 47)).drew := (Box.new wr rfl [.string xs[i].nm, .slice none 0 0, .int .i64 xs[i].rt] 47).later (below_drew (Below.refl _ _))
      have hb6 : Below wr.heap.size wr (wr.alloc (.cells #[.string xs[i].nm, .slice none 0 0, .int .i64 xs[i].rt] 47)).drew := below_drew ((Below.refl _ _).alloc (Nat.le_refl _) _)
      have l6 : wr.heap.size + 1 ≤ (wr.alloc (.cells #[.string xs[i].nm, .slice none 0 0, .int .i64 xs[i].rt] 47)).drew.heap.size := by simp
      generalize (wr.alloc (.cells #[.string xs[i].nm, .slice none 0 0, .int .i64 xs[i].rt] 47)).drew = w6 at *
      have X6d : Box wr.heap.size [.string xs[i].nm, .slice none 0 0, .int .i64 xs[i].rt] w6.drew := X6.later (below_drew (Below.refl _ _))
      have hb6d := below_drew hb6
      have HNEWS : Hid (∀ w, Below wr.heap.size wr w → ∀ j u, (xs[i].ps.flatMap intC)[j]? = some u → ∃ ad, xs[i].pp = some ad ∧ w.cell? (ad.add j) = some u) := Lib.hid (fun w hb => cells_of_row ((HIN.out.lasts lasts_NoMem (HP6.out.2.trans (hb.mono HP6.out.size)) (Nat.le_trans HP6.out.size hb.size)).2.2.2.1))
      have x0 := X6.get 0 _ rfl
      have x1 := X6.get 1 _ rfl
      have x2 := X6.get 2 _ rfl
      have HX6 := Lib.hid X6d
      have hpz := HXZ.out i hlt
      have hq2 : xs[i].pn ≤ 1048576 := by have := HQ1.out; omega
      clear X6 X6d
      obtain ⟨s0, s1, s2, s3, s4⟩ := HS.out _ hb6
      go_region_law (first
          | (refine step_append_at rfl (.tmp 34) (.tmp 40) 36 rfl (wr.heap.size + 1) 3 iN _ 1 8 Tryz.underlying36 HN.out.1 HN.out.2.1 HN.out.2.2.1 HN.out.2.2.2 rfl (by decide) (.slice none 0 0) 0 [] rfl (World.ownsRow_nil _ _ _ _) xs[i].pp xs[i].pn xs[i].pc (xs[i].ps.flatMap intC) rfl (by rw [HQ1.out]; exact flat_len intC 1 (fun _ => rfl) _) (HNEWS.out _ (by repeat (first | (with_reducible assumption) | (with_reducible apply below_drew)))) (flat_one intC_one _) (by unfold maxLen; omega) (by omega) (by first | omega | (simp <;> omega)) ?_
             intro va wa howna hgrowa hmva
             obtain ⟨qa, ca, rfl⟩ := row_slice howna
             have Xa := HX6.out.kept hgrowa (by simp [Value.ownBlock])
             have x0 := Xa.get 0 _ rfl
             have x1 := Xa.get 1 _ rfl
             have x2 := Xa.get 2 _ rfl
             have xf := Xa.2.1
             have hba := hb6d.trans (below_none hgrowa (by simp; omega))))
      all_goals
        have oP := ownsRow_set (a := ⟨wr.heap.size, 1, none⟩) (by
          rw [Nat.zero_add, List.nil_append] at howna
          exact howna) (Nat.lt_succ_self _) (.slice qa xs[i].pn ca)
        have X7 := Xa.set 1 (.slice qa (0 + xs[i].pn) ca)
        rw [Nat.zero_add] at X7
        have hb7 := hba.setCell (p := ⟨wr.heap.size, 1, none⟩) (Nat.le_refl _) (.slice qa xs[i].pn ca)
        have lp := howna.lt
        simp only [Nat.zero_add] at lp
        have l7 : (wa.setCell ⟨wr.heap.size, 1, none⟩ (.slice qa xs[i].pn ca)).heap.size = wa.heap.size := by simp [World.setCell]
        have l7a : wr.heap.size + 1 ≤ wa.heap.size := by have := hgrowa.size; simp at this; omega
        go_upto_region 8 with fail
        generalize (wa.setCell ⟨wr.heap.size, 1, none⟩ (.slice qa xs[i].pn ca)) = w7 at *
        have G7 := HG6.out.later hb7
        have r7 := HG.out.later local_Ext hb7
        have HR7 := Lib.hid r7
        have g0 := G7.get 0 _ rfl
        have g1 := G7.get 1 _ rfl
        have g2 := G7.get 2 _ rfl
        have u0 := X7.get 0 _ rfl
        have u1 := X7.get 1 _ rfl
        have u2 := X7.get 2 _ rfl
        have l7b : wr.heap.size + 1 ≤ w7.heap.size := by omega
        have HL7 := Lib.hid (Nat.le_of_eq l7.symm)
        have hyl : ys.length ≤ 1048576 := by have := HY.out.1; omega
        have hdw := r7.dw
        have hd0 := HG.out.dw
        have HCL := Lib.hid r7.row.lt
        have HLP := Lib.hid lp
        clear r7 x0 x1 x2 xf s0 s1 s2 s3 s4 howna hgrowa hmva l7 lp hb6 hb6d hba d0 d1 d2 f1 hb0 hpz
        go_wp2_with (first
          | (at_builtin; refine wpList_append_at rfl (.tmp 44) (.tmp 46) 23 rfl d 47 iX _ 3 48 Tryz.underlying23 HX.out.1 HX.out.2.1 HX.out.2.2.1 HX.out.2.2.2 rfl (by decide) (.slice q ys.length c) ys.length (ys.flatMap extC) rfl (HR7.out.row.alloc _) (some ⟨w7.heap.size, 0, none⟩) 1 1 [.string xs[i].nm, .slice qa xs[i].pn ca, .int .i64 xs[i].rt] rfl rfl (lit_at' w7 rfl [.string xs[i].nm, .slice qa xs[i].pn ca, .int .i64 xs[i].rt] _) (by intro u hu; simp at hu; rcases hu with rfl | rfl | rfl <;> rfl) (by unfold maxLen; omega) (by omega) (by simp; omega) ?_; intro v8 w8 hown8 hgrow8 hmv8; obtain ⟨q8, c8, rfl⟩ := row_slice hown8; have G8 := (G7.alloc (.cells #[.string xs[i].nm, .slice qa xs[i].pn ca, .int .i64 xs[i].rt] 47)).kept hgrow8 (fun e => by have := (HCL.out _ e.symm).1; omega); have k0 := G8.get 0 _ rfl; have k1 := G8.get 1 _ rfl; have k2 := G8.get 2 _ rfl; have kf := G8.2.1))
        have hg8 : (w7.alloc (.cells #[.string xs[i].nm, .slice qa xs[i].pn ca, .int .i64 xs[i].rt] 47)).grownBy w8 (Value.slice q ys.length c).ownBlock := hgrow8
        have hm8 : Moved (w7.alloc (.cells #[.string xs[i].nm, .slice qa xs[i].pn ca, .int .i64 xs[i].rt] 47)) (Value.slice q ys.length c) (Value.slice q8 (ys.length + 1) c8) := hmv8
        obtain ⟨y, ey⟩ : ∃ y : LExt, y = ⟨xs[i].nm, qa, xs[i].pn, ca, xs[i].ps, xs[i].rt⟩ := ⟨_, rfl⟩
        have hb8 : Below w7.heap.size w7 (w7.alloc (.cells #[.string xs[i].nm, .slice qa xs[i].pn ca, .int .i64 xs[i].rt] 47)) := (Below.refl _ _).alloc (Nat.le_refl _) _
        have hbw : Below wr.heap.size wr (w7.alloc (.cells #[.string xs[i].nm, .slice qa xs[i].pn ca, .int .i64 xs[i].rt] 47)) := hb7.alloc (by omega) _
        have l8 : (w7.alloc (.cells #[.string xs[i].nm, .slice qa xs[i].pn ca, .int .i64 xs[i].rt] 47)).heap.size = w7.heap.size + 1 := by simp
        have hyo : ExtOwn (wr.heap.size + 1) w7.heap.size (w7.alloc (.cells #[.string xs[i].nm, .slice qa xs[i].pn ca, .int .i64 xs[i].rt] 47)) y := by
          subst ey
          exact ⟨HQ1.out, oP.alloc _, fun g e => by have h1 := (HLP.out g e).2; have h2 := HL7.out; omega, spread_NoOwn l7b _⟩
        have hcy : extC y = [.string xs[i].nm, .slice qa xs[i].pn ca, .int .i64 xs[i].rt] := by rw [ey]; rfl
        have hdy : extD y = extD xs[i] := by rw [ey]; rfl
        have GR := Grows.snoc local_Ext HG.out hbw hyo (Nat.le_succ _) l7b (by omega) (by rw [hcy]; exact hown8) hg8 hm8
        have hlow : ∀ k, k < wr.heap.size → Value.ownBlock (Value.slice q ys.length c) ≠ some k → True := fun _ _ _ => trivial
        have P8 := ((HP6.out.trans ⟨HP6.out.size, hbw.mono HP6.out.size⟩)).grownRow hg8 (fun g e => by have := (HCL.out g e).1; omega)
        have F8 := ((HF6.out.later hbw).kept hg8 (fun e => by have := (HCL.out _ e.symm).1; omega)).other (d := W.heap.size + 2) (by omega) 1 (.slice q8 (ys.length + 1) c8)
        have R8 := ((HR6.out.later hbw).kept hg8 (fun e => by have := (HCL.out _ e.symm).1; omega)).other (d := W.heap.size + 2) (by omega) 1 (.slice q8 (ys.length + 1) c8)
        have G9 := G8.set 1 (.slice q8 (ys.length + 1) c8)
        have P9 := P8.set (a := ⟨W.heap.size + 2, 1, none⟩) (by dsimp only; omega) (.slice q8 (ys.length + 1) c8)
        have st8 : Stay (W.heap.size + 3) d wr w8 := fun m h1 h2 => (hg8.block m (by omega) (fun e => by have h3 := (HCL.out m e.symm).1; omega)).trans (hbw.block m (by omega))
        have st9 : Stay (W.heap.size + 3) d w8 (w8.setCell ⟨W.heap.size + 2, 1, none⟩ (.slice q8 (ys.length + 1) c8)) := fun m h1 h2 => Below.heap_setCell _ _ _ _ (by dsimp only; omega)
        have hlen : (ys ++ [y]).length = ys.length + 1 := by simp
        refine ⟨⟨i + 1, ys ++ [y], q8, c8, by omega, by go_num, Lib.hid ⟨by rw [hlen, HY.out.1], ?_⟩, P9, F8, R8, by rw [hlen]; exact G9, Lib.hid ((HL.out.stay local_NoOwn st8).stay local_NoOwn st9), Lib.hid (GR.set local_Ext (by dsimp only; omega) _)⟩, by simp [intOf]; omega⟩
        rw [List.map_append, HY.out.2, List.take_succ_eq_append_getElem hlt, List.map_append, List.map_singleton, List.map_singleton, hdy]
    · obtain rfl : i = xs.length := by omega
      have HYL : Hid (ys.length = xs.length ∧ ys.map extD = xs.map extD) := Lib.hid ⟨HY.out.1, by have := HY.out.2; rw [List.take_length] at this; exact this⟩
      have LX := HG.out.own (lo := 0)
      have hed := HG.out.dw
      go_upto_region 9 with fail
      clear f1
      obtain ⟨e, he⟩ : ∃ e, wr.heap.size = e := ⟨_, rfl⟩
      have HE := Lib.hid (Nat.le_of_eq he.symm)
      rw [he] at LX hed
      have HJ := Lib.hid (And.intro P6 (And.intro F6 (And.intro R6 (And.intro G6 (And.intro HL.out LX)))))
      obtain ⟨nx, enx⟩ : ∃ nx, ys.length = nx := ⟨_, rfl⟩
      rw [enx] at HJ HYL
      have HNX := Lib.hid enx
      clear P6 F6 R6 G6 LX he hi hlt HY HL HG enx
      generalize wr = wo at *
      go_wp2_with fail
      go_loopw [6] (fun t wr => (∃ (i : Nat) (zs : List LFn) (q2 : Option Addr) (c2 : Nat), i ≤ fs.length ∧ t = .int .i64 i ∧ Hid (zs.length = i ∧ zs.map fnD = (fs.take i).map fnD) ∧ Past W.heap.size W wr ∧ Box W.heap.size [.slice vp vs.length vc, .slice xp xs.length xc, .slice fp fs.length fc] wr ∧ Box (W.heap.size + 1) [.slice none 0 0, .slice none 0 0, .slice none 0 0] wr ∧ Box (W.heap.size + 2) [.slice q4 vs.length c4, .slice q nx c, .slice q2 zs.length c2] wr ∧ Hid (ListOwn 35 2 varC NoOwn (W.heap.size + 3) d wr q4 vs.length c4 vs) ∧ Hid (ListOwn 47 3 extC ExtOwn d e wr q nx c ys) ∧ Hid (Grows 45 4 fnC FnOwn e zs q2 c2 wr))) (fun t _ => fs.length - (intOf t).toNat)
      case atStart => exact ⟨0, [], none, 0, Nat.zero_le _, rfl, Lib.hid ⟨rfl, rfl⟩, HJ.out.1, HJ.out.2.1, HJ.out.2.2.1, HJ.out.2.2.2.1, Lib.hid HJ.out.2.2.2.2.1, Lib.hid HJ.out.2.2.2.2.2, Lib.hid (Grows.start _ HE.out)⟩
      case round =>
        obtain ⟨i, zs, q2, c2, hi, rfl, HY, P6, F6, R6, G6, HL, HLX, HG⟩ := hrel
        have f2 := F6.get 2 _ rfl
        by_cases hlt : i < fs.length
        · obtain ⟨a, rfl, ha, e0, e1, e2, e3⟩ := fn_row H3.out i hlt
          have d0 := (P6.2.cell (p := a.add (i * 4)) (blk_add a _ ha)).trans e0
          have d1 := (P6.2.cell (p := ⟨(a.add (i * 4)).block, (a.add (i * 4)).off + 1, none⟩) (blk_add a _ ha)).trans e1
          have d2 := (P6.2.cell (p := ⟨(a.add (i * 4)).block, (a.add (i * 4)).off + 2, none⟩) (blk_add a _ ha)).trans e2
          have d3 := (P6.2.cell (p := ⟨(a.add (i * 4)).block, (a.add (i * 4)).off + 3, none⟩) (blk_add a _ ha)).trans e3
          clear e0 e1 e2 e3
          have HIN := Lib.hid (H3.out.2.2.2.2 fs[i] (List.getElem_mem hlt))
          have lw : W.heap.size + 2 < wr.heap.size := G6.1
          have la : a.block < wr.heap.size := Nat.lt_of_lt_of_le ha P6.size
          have HP6 := Lib.hid P6
          have HF6 := Lib.hid F6
          have HR6 := Lib.hid R6
          have HG6 := Lib.hid G6
          have cF : ∀ w, Below wr.heap.size wr w → Calls Tryz.prog 15 #[.agg #[.string fs[i].nm, .slice fs[i].pp fs[i].pn fs[i].pc, .int .i64 fs[i].rt, .slice fs[i].bp fs[i].bn fs[i].bc]] w fun ee w' => ∃ nm5 pp5 pn5 pc5 ps5 rt5 bp5 bn5 bc5 bs5, ee = .returned (.agg #[.string nm5, .slice pp5 pn5 pc5, .int .i64 rt5, .slice bp5 bn5 bc5]) ∧ Hid (fnD ⟨nm5, pp5, pn5, pc5, ps5, rt5, bp5, bn5, bc5, bs5⟩ = fnD fs[i]) ∧ Hid (w.heap.size ≤ w'.heap.size ∧ FnOwn w.heap.size w'.heap.size w' ⟨nm5, pp5, pn5, pc5, ps5, rt5, bp5, bn5, bc5, bs5⟩) ∧ Below wr.heap.size wr w' := by
            intro w hb
            refine (rCopyFunc_own fs[i] w (past_lasts lasts_Fn HIN.out (HP6.out.trans ⟨HP6.out.size, hb.mono HP6.out.size⟩)) (HFZ.out i hlt)).mono ?_
            rintro ee w' ⟨y, hee, hd, hp, ho⟩
            obtain ⟨nm5, pp5, pn5, pc5, ps5, rt5, bp5, bn5, bc5, bs5⟩ := y
            exact ⟨nm5, pp5, pn5, pc5, ps5, rt5, bp5, bn5, bc5, bs5, hee, Lib.hid hd, Lib.hid ⟨hp.2.size, ho⟩, hb.trans (hp.2.mono hb.size)⟩
          have HS : Hid (∀ w', Below wr.heap.size wr w' → (w'.cell? ⟨W.heap.size, 2, none⟩ = some (.slice (some a) fs.length fc) ∧ w'.cell? (a.add (i * 4)) = some (.string fs[i].nm) ∧ w'.cell? ⟨(a.add (i * 4)).block, (a.add (i * 4)).off + 1, none⟩ = some (.slice fs[i].pp fs[i].pn fs[i].pc) ∧ w'.cell? ⟨(a.add (i * 4)).block, (a.add (i * 4)).off + 2, none⟩ = some (.int .i64 fs[i].rt) ∧ w'.cell? ⟨(a.add (i * 4)).block, (a.add (i * 4)).off + 3, none⟩ = some (.slice fs[i].bp fs[i].bn fs[i].bc) ∧ Box (W.heap.size + 2) [.slice q4 vs.length c4, .slice q nx c, .slice q2 zs.length c2] w')) := Lib.hid (fun w' hb => ⟨(hb.cell (p := ⟨W.heap.size, 2, none⟩) (by dsimp only; omega)).trans f2, (hb.cell (p := a.add (i * 4)) (blk_add a _ la)).trans d0, (hb.cell (p := ⟨(a.add (i * 4)).block, (a.add (i * 4)).off + 1, none⟩) (blk_add a _ la)).trans d1, (hb.cell (p := ⟨(a.add (i * 4)).block, (a.add (i * 4)).off + 2, none⟩) (blk_add a _ la)).trans d2, (hb.cell (p := ⟨(a.add (i * 4)).block, (a.add (i * 4)).off + 3, none⟩) (blk_add a _ la)).trans d3, HG6.out.later hb⟩)
          have hb0 : Below wr.heap.size wr wr := Below.refl _ _
          have g0 := G6.get 0 _ rfl
          have g1 := G6.get 1 _ rfl
          have g2 := G6.get 2 _ rfl
          have hyl : zs.length ≤ 1048576 := by have := HY.out.1; omega
          have hdw := HG.out.dw
          clear P6 F6 R6 G6
          go_wp2_with fail
          go_region_law (first
            | (refine step_append_at rfl (.tmp 57) (.tmp 64) 24 rfl e 45 iF _ 4 72 Tryz.underlying24 HF.out.1 HF.out.2.1 HF.out.2.2.1 HF.out.2.2.2 rfl (by decide) (.slice q2 zs.length c2) zs.length (zs.flatMap fnC) rfl ((HG.out.later local_Fn hb5).row.alloc _) (some ⟨w5.heap.size, 0, none⟩) 1 1 [.string nm5, .slice pp5 pn5 pc5, .int .i64 rt5, .slice bp5 bn5 bc5] rfl rfl (lit_at' w5 rfl [.string nm5, .slice pp5 pn5 pc5, .int .i64 rt5, .slice bp5 bn5 bc5] _) (by intro u hu; simp at hu; rcases hu with rfl | rfl | rfl | rfl <;> rfl) (by unfold maxLen; omega) (by omega) (by simp; omega) ?_
               intro v8 w8 hown8 hgrow8 hmv8
               obtain ⟨q8, c8, rfl⟩ := row_slice hown8
               have G8 := ((HG6.out.later hb5).alloc (.cells #[.string nm5, .slice pp5 pn5 pc5, .int .i64 rt5, .slice bp5 bn5 bc5] 45)).kept hgrow8 (fun ee => by have := (HG.out.row.lt _ ee.symm).1; omega)
               have k0 := G8.get 0 _ rfl
               have k1 := G8.get 1 _ rfl
               have k2 := G8.get 2 _ rfl
               have kf := G8.2.1)
            | (go_simp
               (with_reducible refine (cF _ ?pre).mono ?_)
               case pre => (repeat (first | (with_reducible assumption) | (with_reducible apply below_drew)))
               rintro ee w5 ⟨nm5, pp5, pn5, pc5, ps5, rt5, bp5, bn5, bc5, bs5, rfl, hd5, ho5, hb5⟩
               obtain ⟨s0, s1, s2, s3, s4, G5⟩ := HS.out _ hb5
               have m0 := G5.get 0 _ rfl
               have m1 := G5.get 1 _ rfl
               have m2 := G5.get 2 _ rfl
               have lw5 := hb5.size
               have lw5' : W.heap.size + 2 < w5.heap.size := by omega))
          all_goals
            go_wp2_with fail
            have hg8 : (w5.alloc (.cells #[.string nm5, .slice pp5 pn5 pc5, .int .i64 rt5, .slice bp5 bn5 bc5] 45)).grownBy w8 (Value.slice q2 zs.length c2).ownBlock := hgrow8
            have hm8 : Moved (w5.alloc (.cells #[.string nm5, .slice pp5 pn5 pc5, .int .i64 rt5, .slice bp5 bn5 bc5] 45)) (Value.slice q2 zs.length c2) (Value.slice q8 (zs.length + 1) c8) := hmv8
            have ho : FnOwn wr.heap.size w5.heap.size w5 ⟨nm5, pp5, pn5, pc5, ps5, rt5, bp5, bn5, bc5, bs5⟩ := ho5.out.2
            have hbw : Below wr.heap.size wr (w5.alloc (.cells #[.string nm5, .slice pp5 pn5 pc5, .int .i64 rt5, .slice bp5 bn5 bc5] 45)) := hb5.alloc lw5 _
            have l8 : (w5.alloc (.cells #[.string nm5, .slice pp5 pn5 pc5, .int .i64 rt5, .slice bp5 bn5 bc5] 45)).heap.size = w5.heap.size + 1 := by simp
            have hcl := HG.out.row.lt
            have hy : FnOwn wr.heap.size w5.heap.size (w5.alloc (.cells #[.string nm5, .slice pp5 pn5 pc5, .int .i64 rt5, .slice bp5 bn5 bc5] 45)) ⟨nm5, pp5, pn5, pc5, ps5, rt5, bp5, bn5, bc5, bs5⟩ := local_Fn _ _ _ _ _ (below_stay ((Below.refl w5.heap.size w5).alloc (Nat.le_refl _) _) (Nat.le_refl _)) ho
            have GR := Grows.snoc local_Fn HG.out hbw hy (Nat.le_refl _) lw5 (by omega) hown8 hg8 hm8
            have P8 := ((HP6.out.trans ⟨HP6.out.size, hbw.mono HP6.out.size⟩)).grownRow hg8 (fun g ee => by have := (hcl g ee).1; omega)
            have F8 := ((HF6.out.later hbw).kept hg8 (fun ee => by have := (hcl _ ee.symm).1; omega)).other (d := W.heap.size + 2) (by omega) 2 (.slice q8 (zs.length + 1) c8)
            have R8 := ((HR6.out.later hbw).kept hg8 (fun ee => by have := (hcl _ ee.symm).1; omega)).other (d := W.heap.size + 2) (by omega) 2 (.slice q8 (zs.length + 1) c8)
            have G9 := G8.set 2 (.slice q8 (zs.length + 1) c8)
            have P9 := P8.set (a := ⟨W.heap.size + 2, 2, none⟩) (by dsimp only; omega) (.slice q8 (zs.length + 1) c8)
            have st8 : Stay (W.heap.size + 3) e wr w8 := fun m h1 h2 => (hg8.block m (by omega) (fun ee => by have h3 := (hcl m ee.symm).1; omega)).trans (hbw.block m (by omega))
            have st9 : Stay (W.heap.size + 3) e w8 (w8.setCell ⟨W.heap.size + 2, 2, none⟩ (.slice q8 (zs.length + 1) c8)) := fun m h1 h2 => Below.heap_setCell _ _ _ _ (by dsimp only; omega)
            have st := st8.trans st9
            have hlen : (zs ++ [(⟨nm5, pp5, pn5, pc5, ps5, rt5, bp5, bn5, bc5, bs5⟩ : LFn)]).length = zs.length + 1 := by simp
            refine ⟨⟨i + 1, zs ++ [⟨nm5, pp5, pn5, pc5, ps5, rt5, bp5, bn5, bc5, bs5⟩], q8, c8, by omega, by go_num, Lib.hid ⟨by rw [hlen, HY.out.1], ?_⟩, P9, F8, R8, by rw [hlen]; exact G9, Lib.hid (HL.out.stay local_NoOwn (st.mono (Nat.le_refl _) hed)), Lib.hid (HLX.out.stay local_Ext (st.mono hd3 (Nat.le_refl _))), Lib.hid (GR.set local_Fn (by dsimp only; omega) _)⟩, by simp [intOf]; omega⟩
            rw [List.map_append, HY.out.2, List.take_succ_eq_append_getElem hlt, List.map_append, List.map_singleton, List.map_singleton, hd5.out]
        · obtain rfl : i = fs.length := by omega
          have hzd : zs.map fnD = fs.map fnD := by have := HY.out.2; rw [List.take_length] at this; exact this
          have HZD := Lib.hid hzd
          have x0 := G6.get 0 _ rfl
          have x1 := G6.get 1 _ rfl
          have x2 := G6.get 2 _ rfl
          have r0 := R6.get 0 _ rfl
          have r1 := R6.get 1 _ rfl
          have r2 := R6.get 2 _ rfl
          have rf := R6.2.1
          clear hzd
          go_wp2_with fail
          have R7 := ((R6.set 0 (.slice q4 vs.length c4)).set 1 (.slice q nx c)).set 2 (.slice q2 zs.length c2)
          have t0 := R7.get 0 _ rfl
          have t1 := R7.get 1 _ rfl
          have t2 := R7.get 2 _ rfl
          have st : ∀ b, Stay (W.heap.size + 3) b wr (((wr.setCell ⟨W.heap.size + 1, 0, none⟩ (.slice q4 vs.length c4)).setCell ⟨W.heap.size + 1, 1, none⟩ (.slice q nx c)).setCell ⟨W.heap.size + 1, 2, none⟩ (.slice q2 zs.length c2)) :=
            fun b k h1 h2 => (Below.heap_setCell _ _ _ _ (by dsimp only; omega)).trans ((Below.heap_setCell _ _ _ _ (by dsimp only; omega)).trans (Below.heap_setCell _ _ _ _ (by dsimp only; omega)))
          have l7 : (((wr.setCell ⟨W.heap.size + 1, 0, none⟩ (.slice q4 vs.length c4)).setCell ⟨W.heap.size + 1, 1, none⟩ (.slice q nx c)).setCell ⟨W.heap.size + 1, 2, none⟩ (.slice q2 zs.length c2)).heap.size = wr.heap.size := by simp [World.setCell]
          have P7 := ((P6.set (a := ⟨W.heap.size + 1, 0, none⟩) (by dsimp only; omega) (.slice q4 vs.length c4)).set (a := ⟨W.heap.size + 1, 1, none⟩) (by dsimp only; omega) (.slice q nx c)).set (a := ⟨W.heap.size + 1, 2, none⟩) (by dsimp only; omega) (.slice q2 zs.length c2)
          have LF := HG.out.own (lo := 0)
          have hew := HG.out.dw
          refine bodyPost_ret (v := .agg #[.slice q4 vs.length c4, .slice q nx c, .slice q2 zs.length c2]) (by simp [results, Tryz.results7, go_sem, t0, t1, t2]) rfl ⟨⟨q4, vs.length, c4, vs, q, nx, c, ys, q2, zs.length, c2, zs⟩, rfl, by unfold modD; simp only; rw [HYL.out.2, HZD.out], P7, d, e, ?_, ?_, ?_⟩
          · obtain ⟨o1, o2, o3, o4⟩ := HL.out.stay local_NoOwn (st d)
            exact ⟨o1, o2.mono (by omega), o3, o4.down (by omega)⟩
          · exact HLX.out.stay local_Ext ((st e).mono hd3 (Nat.le_refl _))
          · rw [l7]
            exact LF.stay local_Fn ((st wr.heap.size).mono (by omega) (Nat.le_refl _))
end Go.Proofs.YtmampoakdjjbiaaGreatDoor
