/- What this seat takes of layer 2's texts (BaseE) -/
import Derived.Test.YtpjfkmaceaikbaaBaseD
import Derived.Deep.AppendLies
namespace Go.Proofs.Ytpjfkmaceaikbaa
open Go.RowKit Go.Maps
set_option linter.unusedVariables false
set_option linter.unusedSimpArgs false

/-- Of what was there only the blocks from lo on, ahead of hi, may have turned. -/
structure Out (lo hi : Nat) (w w' : World) : Prop where
  os : w'.os = w.os
  tape : w'.tape = w.tape
  output : w'.output = w.output
  size : w.heap.size ≤ w'.heap.size
  block : ∀ k, k < w.heap.size → (k < lo ∨ hi ≤ k) → w'.heap[k]? = w.heap[k]?
theorem Out.refl (lo hi : Nat) (w : World) : Out lo hi w w := ⟨rfl, rfl, rfl, Nat.le_refl _, fun _ _ _ => rfl⟩
theorem Out.trans {lo hi : Nat} {a b c : World} (h : Out lo hi a b) (k : Out lo hi b c) : Out lo hi a c :=
  ⟨k.os.trans h.os, k.tape.trans h.tape, k.output.trans h.output, Nat.le_trans h.size k.size, fun i hi ho => (k.block i (Nat.lt_of_lt_of_le hi h.size) ho).trans (h.block i hi ho)⟩
theorem Out.mono {lo hi lo' hi' : Nat} {w w' : World} (h : Out lo hi w w') (hl : lo' ≤ lo) (hh : hi ≤ hi') : Out lo' hi' w w' := ⟨h.os, h.tape, h.output, h.size, fun k hk ho => h.block k hk (by omega)⟩
theorem Out.grown {lo hi : Nat} {w w' : World} {row : Option Nat} (h : w.grownBy w' row) (hr : ∀ g, row = some g → lo ≤ g ∧ g < hi) : Out lo hi w w' := ⟨h.os, h.tape, h.output, h.size, fun k hk ho => h.block k hk (fun e => by have := hr k e.symm; omega)⟩
theorem Out.alloc {lo hi : Nat} {w w' : World} (h : Out lo hi w w') (o : Obj) : Out lo hi w (w'.alloc o) := h.trans (Out.grown (World.grownBy_alloc w' o none) (fun g e => by cases e))
theorem Out.box {lo hi g : Nat} {cs : List Value} {w w' : World} (h : Box g cs w) (ho : Out lo hi w w') (hg : g < lo ∨ hi ≤ g) : Box g cs w' :=
  ⟨Nat.lt_of_lt_of_le h.1 ho.size, fun i => (World.frozen?_of_block (w := w) (ho.block g h.1 hg)).trans (h.2.1 i), fun i u e => (World.cell?_of_block (w := w) (ho.block g h.1 hg)).trans (h.2.2 i u e)⟩
theorem Out.stay {lo hi a b : Nat} {w w' : World} (h : Out lo hi w w') (hb : b ≤ w.heap.size) (hab : b ≤ lo ∨ hi ≤ a) : Stay a b w w' := fun k h1 h2 => h.block k (by omega) (by omega)
theorem Out.below {lo hi B : Nat} {w w' : World} (h : Out lo hi w w') (hB : B ≤ lo) (hw : B ≤ w.heap.size) : Below B w w' := ⟨h.os, h.tape, h.output, h.size, fun k hk => h.block k (by omega) (by omega)⟩
theorem ListOwn.put {α : Type} {ty m : Nat} {cel : α → List Value} {Q : Nat → Nat → World → α → Prop} (hQ : Local Q) (hm : 0 < m) (hc : ∀ x, (cel x).length = m) {a b g : Nat} {w : World} {n c : Nat} {xs : List α} (h : ListOwn ty m cel Q a b w (some ⟨g, 0, none⟩) n c xs) (i : Nat) (hi : i < xs.length) (y : α) (hy : ∀ a' b' w', a' ≤ b' → Q a' b' w' y) :
    ListOwn ty m cel Q a b (w.setCells g (i * m) (cel y)) (some ⟨g, 0, none⟩) n c (xs.set i y) ∧ a ≤ g ∧ g < b := by
  obtain ⟨h1, h2, h3, h4⟩ := h
  obtain ⟨a', b', k1, k2, k3, k4, k5, k6⟩ := h4.at hQ i hi
  have hset := setCells_own (cel y) (i * m) h2
  rw [sets_flat cel m hm hc xs i hi y] at hset
  exact ⟨⟨by rw [List.length_set]; exact h1, hset, h3, k6 _ y (fun k _ _ e _ => setCells_heap g (cel y) (i * m) w k (fun e2 => e (by rw [e2]; rfl))) (hy _ _ _ k2)⟩, (h2.lt g rfl).1, h3 g rfl⟩
theorem ListOwn.some_row {α : Type} {ty m : Nat} {cel : α → List Value} {Q : Nat → Nat → World → α → Prop} {a b : Nat} {w : World} {p : Option Addr} {n c : Nat} {xs : List α} (h : ListOwn ty m cel Q a b w p n c xs) (hp : 0 < xs.length) : ∃ g, p = some ⟨g, 0, none⟩ := by
  rcases h.2.1.2 with ⟨_, h0⟩ | ⟨g, cap, cur, e, _⟩
  · have := h.1; omega
  · injection e with e1 e2 e3; exact ⟨g, e1⟩
theorem ListOwn.caps {α : Type} {ty m : Nat} {cel : α → List Value} {Q : Nat → Nat → World → α → Prop} {a b : Nat} {w : World} {p : Option Addr} {n c : Nat} {xs : List α} (h : ListOwn ty m cel Q a b w p n c xs) : xs.length ≤ c ∧ c ≤ 9223372036854775807 := by
  have h1 := h.1
  rcases h.2.1.2 with ⟨e, h0⟩ | ⟨g, cap, cur, e, _, _, k1, k2, _⟩
  · injection e with e1 e2 e3; omega
  · injection e with e1 e2 e3; unfold maxLen at k2; omega
theorem out_setCells {lo hi g : Nat} (h1 : lo ≤ g) (h2 : g < hi) (cs : List Value) (o : Nat) (w : World) : Out lo hi w (w.setCells g o cs) := Out.grown (grown_setCells cs o (World.grownBy.refl w (some g))) (fun k e => by cases e; exact ⟨h1, h2⟩)
def badI : LI := (⟨-7, 0, 0, 0, 0, none, 0, 0, none, 0, 0, []⟩, [])
def badB : LB := ⟨none, 0, 0, []⟩
def badC : List Value := [.int .i64 (-7), .int .i64 0, .int .i64 0, .int .i64 0, .int .i64 0, .slice none 0 0, .slice none 0 0]
theorem badC_eq : liC badI = badC := rfl
theorem badAll : badC.toArray.all (·.oneCell') = true := by simp [badC, Value.oneCell']
theorem own_nil {α : Type} {ty m : Nat} {cel : α → List Value} {Q : Nat → Nat → World → α → Prop} {a b : Nat} (w : World) (h : a ≤ b) : ListOwn ty m cel Q a b w none 0 0 [] := ⟨rfl, World.ownsRow_nil w a ty m, fun g e => by simp [Value.ownBlock] at e, h⟩
theorem badI_own (a b : Nat) (w : World) (h : a ≤ b) : InsOwn a b w badI := ⟨own_nil w h, own_nil w h⟩
theorem badB_own (a b : Nat) (w : World) (h : a ≤ b) : BlkOwn a b w badB := own_nil w h
theorem ext_row {B : Nat} {w : World} {p : Option Addr} {n c : Nat} {L : List LExt} {E : Nat → World → LExt → Prop} (h : ListIn extC E B w p n c L) (i : Nat) (hi : i < L.length) :
    ∃ a, p = some a ∧ a.block < B ∧ w.cell? (a.add (i * 3)) = some (.string L[i].nm) ∧ w.cell? ⟨(a.add (i * 3)).block, (a.add (i * 3)).off + 1, none⟩ = some (.slice L[i].pp L[i].pn L[i].pc) ∧ w.cell? ⟨(a.add (i * 3)).block, (a.add (i * 3)).off + 2, none⟩ = some (.int .i64 L[i].rt) := by
  obtain ⟨h1, h2, h3, h4, -⟩ := h
  obtain ⟨a, e, ha, hc⟩ := h4.at (m := 3) (fun _ => rfl) i hi (by decide)
  refine ⟨a, e, ha, hc 0 (by decide), ?_, ?_⟩
  · have := hc 1 (by decide); rw [add_add a _ 1 (by decide)] at this; exact this
  · have := hc 2 (by decide); rw [add_add a _ 2 (by decide)] at this; exact this
theorem fn_row {B : Nat} {w : World} {p : Option Addr} {n c : Nat} {L : List LFn} {E : Nat → World → LFn → Prop} (h : ListIn fnC E B w p n c L) (i : Nat) (hi : i < L.length) :
    ∃ a, p = some a ∧ a.block < B ∧ w.cell? (a.add (i * 4)) = some (.string L[i].nm) ∧ w.cell? ⟨(a.add (i * 4)).block, (a.add (i * 4)).off + 1, none⟩ = some (.slice L[i].pp L[i].pn L[i].pc) ∧ w.cell? ⟨(a.add (i * 4)).block, (a.add (i * 4)).off + 2, none⟩ = some (.int .i64 L[i].rt) ∧ w.cell? ⟨(a.add (i * 4)).block, (a.add (i * 4)).off + 3, none⟩ = some (.slice L[i].bp L[i].bn L[i].bc) := by
  obtain ⟨h1, h2, h3, h4, -⟩ := h
  obtain ⟨a, e, ha, hc⟩ := h4.at (m := 4) (fun _ => rfl) i hi (by decide)
  refine ⟨a, e, ha, hc 0 (by decide), ?_, ?_, ?_⟩
  · have := hc 1 (by decide); rw [add_add a _ 1 (by decide)] at this; exact this
  · have := hc 2 (by decide); rw [add_add a _ 2 (by decide)] at this; exact this
  · have := hc 3 (by decide); rw [add_add a _ 3 (by decide)] at this; exact this
theorem blk_add (a : Addr) (i : Nat) {B : Nat} (h : a.block < B) : (a.add i).block < B := by rw [add_block]; exact h
/-- What is owned in the blocks from a on, ahead of b. -/
abbrev Owned := Nat × Nat × (World → Prop)
/-- Boxes and what is owned, at a later world. -/
structure Stands (W : World) (R : List (Nat × List Value)) (O : List Owned) (w : World) : Prop where
  past : Past W.heap.size W w
  box : ∀ x ∈ R, Box x.1 x.2 w
  own : ∀ x ∈ O, x.2.2 w ∧ (∀ u u', Stay x.1 x.2.1 u u' → x.2.2 u → x.2.2 u') ∧ x.2.1 ≤ w.heap.size ∧ W.heap.size ≤ x.1
theorem Stands.start (W : World) : Stands W [] [] W := ⟨Past.refl (Nat.le_refl _), fun x h => absurd h (by simp), fun x h => absurd h (by simp)⟩
section
variable {W w w' : World} {R R' : List (Nat × List Value)} {O O' : List Owned}
theorem Stands.later (h : Stands W R O w) (hb : Below w.heap.size w w') : Stands W R O w' :=
  ⟨h.past.trans ⟨h.past.size, hb.mono h.past.size⟩, fun x hx => (h.box x hx).later hb, fun x hx => by
    obtain ⟨h1, hl, h2, h3⟩ := h.own x hx
    exact ⟨hl _ _ (below_stay hb h2) h1, hl, Nat.le_trans h2 hb.size, h3⟩⟩
theorem Stands.alloc (h : Stands W R O w) (o : Obj) : Stands W R O (w.alloc o) := h.later ((Below.refl _ _).alloc (Nat.le_refl _) o)
theorem Stands.drew (h : Stands W R O w) : Stands W R O w.drew := h.later (below_drew (Below.refl _ _))
theorem Stands.put (h : Stands W R O w) (cs : List Value) (t : TypeId) : Stands W ((w.heap.size, cs) :: R) O (w.alloc (.cells cs.toArray t)) :=
  ⟨(h.alloc _).past, fun x hx => by
    rcases List.mem_cons.1 hx with rfl | hx
    · exact Box.new w rfl cs t
    · exact (h.alloc _).box x hx, (h.alloc _).own⟩
theorem Stands.moreO (h : Stands W R O w) (hp : Past w.heap.size w w') (Q : World → Prop) (hq : Q w') (hl : ∀ u u', Stay w.heap.size w'.heap.size u u' → Q u → Q u') : Stands W R ((w.heap.size, w'.heap.size, Q) :: O) w' :=
  ⟨(h.later hp.2).past, (h.later hp.2).box, fun x hx => by
    rcases List.mem_cons.1 hx with rfl | hx
    · exact ⟨hq, hl, Nat.le_refl _, h.past.size⟩
    · exact (h.later hp.2).own x hx⟩
theorem Stands.arg (h : Stands W R O w) {f : LFn} (hf : FnIn W.heap.size W f) : FnIn w.heap.size w f := past_lasts lasts_Fn hf h.past
theorem Stands.argM (h : Stands W R O w) {f : LMod} (hf : ModIn W.heap.size W f) : ModIn w.heap.size w f := past_lasts lasts_Mod hf h.past
theorem Stands.sub (h : Stands W R O w) (hR : ∀ x ∈ R', x ∈ R) (hO : ∀ x ∈ O', x ∈ O) : Stands W R' O' w :=
  ⟨h.past, fun x hx => h.box x (hR x hx), fun x hx => h.own x (hO x hx)⟩
theorem Stands.out (h : Stands W R O w) {lo hi : Nat} (ho : Out lo hi w w') (hlo : W.heap.size ≤ lo) (hR : ∀ x ∈ R, x.1 < lo ∨ hi ≤ x.1) (hO : ∀ x ∈ O, x.2.1 ≤ lo ∨ hi ≤ x.1) : Stands W R O w' :=
  ⟨h.past.trans ⟨h.past.size, ho.below hlo h.past.size⟩, fun x hx => Out.box (h.box x hx) ho (hR x hx), fun x hx => by
    obtain ⟨h1, hl, h2, h3⟩ := h.own x hx
    exact ⟨hl _ _ (ho.stay h2 (hO x hx)) h1, hl, Nat.le_trans h2 ho.size, h3⟩⟩
theorem box_sets {g : Nat} : ∀ (cs xs : List Value) (o : Nat) {w : World}, Box g xs w → Box g (sets xs o cs) (w.setCells g o cs)
  | [], _, _, _, h => h
  | c :: r, xs, o, w, h => by
    unfold sets World.setCells
    exact box_sets r _ (o + 1) (h.set o c)
theorem sets_all (xs cs : List Value) (h : xs.length = cs.length) : sets xs 0 cs = cs := by
  apply List.ext_getElem?
  intro j
  rw [sets_get _ _ _ _ (by omega)]
  by_cases hj : j < cs.length
  · rw [if_pos (by omega), Nat.sub_zero]
  · rw [if_neg (by omega), List.getElem?_eq_none (by omega), List.getElem?_eq_none (by omega)]
/-- A box filled anew. -/
theorem Stands.fill (h : Stands W R O w) {b : Nat} {cs : List Value} (cs' : List Value) (hb : (b, cs) ∈ R) (hW : W.heap.size ≤ b) (hl : cs.length = cs'.length) (hR : ∀ x ∈ R', x = (b, cs') ∨ (x ∈ R ∧ x.1 ≠ b)) (hO : ∀ x ∈ O, x.2.1 ≤ b ∨ b < x.1) : Stands W R' O (w.setCells b 0 cs') := by
  have ho : Out b (b + 1) w (w.setCells b 0 cs') := out_setCells (Nat.le_refl _) (Nat.lt_succ_self _) cs' 0 w
  have h2 : Stands W (R.filter fun x => decide (x.1 ≠ b)) O (w.setCells b 0 cs') := by
    refine Stands.out (h.sub (fun x hx => (List.mem_filter.1 hx).1) (fun x hx => hx)) ho hW (fun x hx => ?_) (fun x hx => ?_)
    · have := (List.mem_filter.1 hx).2
      simp only [decide_eq_true_eq] at this
      omega
    · have := hO x hx
      omega
  refine ⟨h2.past, fun x hx => ?_, h2.own⟩
  rcases hR x hx with rfl | ⟨hx, hne⟩
  · have := box_sets cs' cs 0 (h.box _ hb)
    rw [sets_all _ _ hl] at this
    exact this
  · exact h2.box x (List.mem_filter.2 ⟨hx, by simpa using hne⟩)
theorem Stands.get (h : Stands W R O w) {b : Nat} {cs : List Value} (hb : (b, cs) ∈ R) (i : Nat) (u : Value) (e : cs[i]? = some u) : w.cell? ⟨b, i, none⟩ = some u := (h.box _ hb).get i u e
theorem Stands.lt (h : Stands W R O w) {b : Nat} {cs : List Value} (hb : (b, cs) ∈ R) : b < w.heap.size := (h.box _ hb).1
end
/-- wpList_append_at, at a step of a region that draws its order. -/
theorem step_append_at {P : Program} {w : World} {ops : Array Oper} {o : Oper} {a : Act} {K : Act → World → Prop} {Q : Exit → Act → World → Prop} {E : Prop} (hgd : o.guard = none) (s x : Operand) (t : TypeId)
    (ho : o.op = .call { callee := .builtin .append, args := #[s, x], argTypes := #[t, t] })
    (base : Nat) (e : TypeId) (i : TypeInfo) (z : Value) (size bytes : Nat) (ht : P.underlying t = some (.slice e)) (hi : P.info? e = some i) (hz : i.zero = some z)
    (hsize : i.size = size) (hby : i.bytes = bytes) (hzs : z.cells.size = size) (hsz : 0 < size)
    (v : Value) (n : Nat) (xs : List Value) (hs : a.eval s = v) (hown : w.ownsRow base e size v n xs)
    (p : Option Addr) (m c : Nat) (news : List Value) (hx : a.eval x = .slice p m c) (hl : news.length = m * size) (hnews : ∀ j u, news[j]? = some u → ∃ ad, p = some ad ∧ w.cell? (ad.add j) = some u) (h1 : ∀ u ∈ news, u.oneCell' = true)
    (h63 : n + m ≤ maxLen) (hbytes : (n + m) * bytes ≤ 140737488355328) (hbase : base ≤ w.heap.size)
    (h : ∀ v' w', w'.ownsRow base e size v' (n + m) (xs ++ news) → w.grownBy w' v.ownBlock → Moved w v v' → K (a.put o.dst v') w') :
    if Region.wanted o (yielded ops a.tmps) = true then Oper.wp P o a w K Q else E := by
  have hw : Region.wanted o (yielded ops a.tmps) = true := by simp [Region.wanted, hgd]
  rw [if_pos hw]
  cases p with
  | some ad =>
    have hnews' : ∀ j u, news[j]? = some u → w.cell? (ad.add j) = some u := fun j u hj => by
      obtain ⟨ad', e1, e2⟩ := hnews j u hj
      cases e1
      exact e2
    obtain ⟨v', w', hr, h2, h3, -⟩ := run_append_own (P := P) w base t o.type e i z size bytes ht hi hz hsize hby hzs hsz v n xs hown ad m c news hl hnews' h1 h63 hbytes hbase
    have h4 := append_where w base t o.type e i z size bytes ht hi hz hsize hby hsz v n xs hown ad m c news hl hnews' h1 h63 hbytes v' w' hr
    unfold Oper.wp execOp
    simp only [ho, resolve, invoke, builtin, Sem.run_bind, Sem.run_pure, Result.andThen_ok, List.map_toArray, List.map_cons, List.map_nil, hs, hx, hr]
    exact h v' w' h2 h3 h4
  | none =>
    have hn0 : news = [] := by
      cases news with
      | nil => rfl
      | cons u r => obtain ⟨_, e1, _⟩ := hnews 0 u rfl; cases e1
    subst hn0
    obtain rfl : m = 0 := by
      rcases Nat.eq_zero_or_pos m with h0 | h0
      · exact h0
      · have := Nat.mul_pos h0 hsz; simp at hl; omega
    have hr : (Builtin.append_ #[t, t] o.type #[v, .slice none 0 c]).run P w = .ok v w := by
      rcases hown.2 with ⟨rfl, rfl⟩ | ⟨g, cap, cur, rfl, hbg, hg, hnc, hcm, hcs, htake⟩
      · simp [Builtin.append_, run_underlying ht, sizeOf, typeInfo, hi, Builtin.lenOf, Builtin.firstCells]
      · simp [Builtin.append_, run_underlying ht, sizeOf, typeInfo, hi, Builtin.lenOf, Builtin.firstCells, hnc, storeCells]
    unfold Oper.wp execOp
    simp only [ho, resolve, invoke, builtin, Sem.run_bind, Sem.run_pure, Result.andThen_ok, List.map_toArray, List.map_cons, List.map_nil, hs, hx, hr]
    exact h v w (by rw [List.append_nil]; exact hown) (World.grownBy.refl _ _) (.inl rfl)
/-- A list of the call's own that grows: its row, and each element's memory. -/
structure Grows {α : Type} (ty m : Nat) (cel : α → List Value) (Q : Nat → Nat → World → α → Prop) (d : Nat) (ys : List α) (q : Option Addr) (c : Nat) (w : World) : Prop where
  dw : d ≤ w.heap.size
  row : w.ownsRow d ty m (.slice q ys.length c) ys.length (ys.flatMap cel)
  sp : Spread Q (Value.slice q ys.length c).ownBlock d w.heap.size w ys
section
variable {α : Type} {ty m : Nat} {cel : α → List Value} {Q : Nat → Nat → World → α → Prop} {d : Nat} {ys : List α} {q : Option Addr} {c : Nat} {w w' : World}
theorem Grows.start (w : World) (hd : d ≤ w.heap.size) : Grows ty m cel Q d [] none 0 w := ⟨hd, World.ownsRow_nil _ _ _ _, hd⟩
theorem Grows.later (hQ : Local Q) (h : Grows ty m cel Q d ys q c w) (hb : Below w.heap.size w w') : Grows ty m cel Q d ys q c w' :=
  ⟨Nat.le_trans h.dw hb.size, ownsRow_below h.row hb, (h.sp.stay hQ (fun k _ hk _ => hb.block k hk)).up hb.size⟩
theorem Grows.set (hQ : Local Q) (h : Grows ty m cel Q d ys q c w) {a : Addr} (ha : a.block < d) (v : Value) : Grows ty m cel Q d ys q c (w.setCell a v) :=
  ⟨by simpa [World.setCell] using h.dw, ownsRow_set h.row ha v, by
    have e : (w.setCell a v).heap.size = w.heap.size := by simp [World.setCell]
    rw [e]
    exact h.sp.stay hQ (fun k hk _ _ => Below.heap_setCell _ _ _ _ (by omega))⟩
theorem Grows.snoc (hQ : Local Q) {w0 w2 w3 : World} (h : Grows ty m cel Q d ys q c w0) (hb : Below w0.heap.size w0 w2) {a b : Nat} {y : α} (hy : Q a b w2 y) (ha : w0.heap.size ≤ a) (hab : a ≤ b) (hb2 : b ≤ w2.heap.size) {q' : Option Addr} {c' : Nat}
    (hown : w3.ownsRow d ty m (.slice q' (ys.length + 1) c') (ys.length + 1) (ys.flatMap cel ++ cel y)) (hg : w2.grownBy w3 (Value.slice q ys.length c).ownBlock) (hm : Moved w2 (Value.slice q ys.length c) (Value.slice q' (ys.length + 1) c')) : Grows ty m cel Q d (ys ++ [y]) q' c' w3 := by
  have hlt := h.row.lt
  have h1 := hb.size
  have h2 := hg.size
  have hs := Spread.grow hQ h.sp hb hg hm (fun g e => by have := (hlt g e).2; omega)
  have st : Stay a b w2 w3 := fun k x y => hg.block k (by omega) (fun e => by have := (hlt k e.symm).2; omega)
  have hlen : (ys ++ [y]).length = ys.length + 1 := by simp
  refine ⟨by have := h.dw; omega, ?_, ?_⟩
  · rw [hlen]
    have e : (ys ++ [y]).flatMap cel = ys.flatMap cel ++ cel y := by rw [List.flatMap_append]; simp
    rw [e]
    exact hown
  · rw [hlen]
    refine (hs.snoc ha hab (fun k e => ?_) (hQ _ _ _ _ _ st hy)).up (by omega)
    rcases hm with e2 | e2
    · rw [e2] at e; have := (hlt k e).2; omega
    · rw [e2] at e; injection e with e; omega
theorem Grows.own {lo : Nat} (h : Grows ty m cel Q d ys q c w) : ListOwn ty m cel Q d w.heap.size w q ys.length c ys := own_intro rfl h.row rfl h.sp
end
theorem Stands.box2 {W w : World} {R : List (Nat × List Value)} {O : List Owned} (h : Stands W R O w) {g : Nat} (hg : g = w.heap.size) (cs : List Value) (t : TypeId) : Stands W ((g, cs) :: R) O (w.alloc (.cells cs.toArray t)) := by
  subst hg; exact h.put cs t
/-- A list of numbers that the call owns. -/
def ownL (a b : Nat) (p : Option Addr) (k c : Nat) (ps : List Int) : Owned := (a, b, fun w => ListOwn 3 1 intC NoOwn a b w p k c ps)
theorem Stands.moreL {W w w' : World} {R : List (Nat × List Value)} {O : List Owned} (h : Stands W R O w) (hp : Past w.heap.size w w') {p : Option Addr} {k c : Nat} {ps : List Int} (hy : ListOwn 3 1 intC NoOwn w.heap.size w'.heap.size w' p k c ps) : Stands W R (ownL w.heap.size w'.heap.size p k c ps :: O) w' :=
  h.moreO hp _ hy (fun _ _ hs hq => ListOwn.stay local_NoOwn hq hs)
theorem Stands.ints {W w : World} {R : List (Nat × List Value)} {O : List Owned} (h : Stands W R O w) {a b : Nat} {p : Option Addr} {k c : Nat} {ps : List Int} (hx : ownL a b p k c ps ∈ O) : ListIn intC NoMem w.heap.size w p k c ps :=
  ListOwn.lies (m := 1) (by decide) (fun _ => rfl) (fun _ _ _ _ _ _ => trivial) (h.own _ hx).1 (h.own _ hx).2.2.1
end Go.Proofs.Ytpjfkmaceaikbaa
