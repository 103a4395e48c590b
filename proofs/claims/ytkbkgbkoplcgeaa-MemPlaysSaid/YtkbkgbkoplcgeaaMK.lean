/- Package mem: add, Alloc, New, Free. -/
import Derived.Test.YtkbkgbkoplcgeaaMJ
namespace Go.Proofs.Ytkbkgbkoplcgeaa
open Go.RowKit Go.Maps
set_option linter.unusedVariables false
set_option linter.unusedSimpArgs false

/-- How many bytes a block of that size has. -/
def bnd (n : Int) : Nat := if n < 0 then 0 else if 4096 < n then 4096 else n.toNat
theorem bnd_le (n : Int) : bnd n ≤ 4096 := by unfold bnd; split <;> (try split) <;> omega
theorem atS_snoc (st : Ms) (x : Option Bk) (k : Int) : atS (st ++ [x]) k = if k = st.length then x else atS st k := by
  unfold atS
  by_cases h0 : 0 ≤ k
  · obtain ⟨i, rfl⟩ := Int.eq_ofNat_of_zero_le h0
    rw [if_pos h0, if_pos h0]
    simp only [Int.toNat_natCast, List.getD_eq_getElem?_getD]
    by_cases h : i = st.length
    · subst h; rw [if_pos rfl]; simp
    · rw [if_neg (by omega)]
      by_cases h1 : i < st.length
      · rw [List.getElem?_append_left h1]
      · rw [List.getElem?_eq_none (by simp; omega), List.getElem?_eq_none (by omega)]
  · rw [if_neg h0, if_neg (by omega), if_neg h0]
theorem MapIs.put {ab : Nat} {st : Ms} {w : World} (h : MapIs ab st w) (hl : st.length ≤ 1000000) (b : Bk) :
    ∃ w', (Instr.mapUpdate 80 (.map (some ab)) (.int .i64 st.length) (.pointer (some ⟨b.pb, 0, none⟩))).run Try.prog w = .ok () w' ∧ MapIs ab (st ++ [some b]) w' ∧ w.grownBy w' (some ab) := by
  obtain ⟨D, hD, ha⟩ := h
  have hw : wf64 (st.length : Int) := ⟨by omega, by omega⟩
  obtain ⟨w', hr, h1, h2⟩ := hD.update (t := 80) (e := 93) lawInt Try.underlying80 (by unfold maxLen; omega) (keyOf_int_mk Try.underlying3 (wf_lit hw)) (ptrR_mk (some b))
  refine ⟨w', hr, ⟨_, by simpa using h1, fun k hk => ?_⟩, h2⟩
  rw [atS_snoc]
  by_cases e : k = st.length
  · subst e; rw [if_pos rfl]; exact atKey_put_same (k := .int .i64 st.length) hD.isMap trivial _ _
  · rw [if_neg e, atKey_put_other (fun x => e (by injection x))]; exact ha k hk
theorem MapIs.del {ab : Nat} {st : Ms} {w : World} (h : MapIs ab st w) {k : Int} (hk : wf64 k) (ty : TypeId) (st' : Ms) (hs : st'.length = st.length) (ha' : ∀ j, atS st' j = if j = k then none else atS st j) :
    ∃ w', (Builtin.delete_ #[80, 3] ty #[.map (some ab), .int .i64 k]).run Try.prog w = .ok (.tuple #[]) w' ∧ MapIs ab st' w' ∧ w.grownBy w' (some ab) := by
  obtain ⟨D, hD, ha⟩ := h
  obtain ⟨w', hr, h1, h2⟩ := hD.drop (t := 80) (e := 93) lawInt Try.underlying80 (keyOf_int_mk Try.underlying3 (wf_lit hk)) ty
  refine ⟨w', hr, ⟨_, by rw [hs]; exact h1, fun j hj => ?_⟩, h2.grown⟩
  rw [ha']
  by_cases e : j = k
  · subst e; rw [if_pos rfl]; exact atKey_del_same _
  · rw [if_neg e, atKey_del_other (fun x => e (by injection x))]; exact ha j hj
theorem bK (w : World) (n a b c d e : Int) : (Instr.build 97 #[(0, .int .i64 n), (1, .agg #[.int .i64 a, .int .u8 b, .int .i64 c, .int .i64 d, .int .i64 e])]).run Try.prog w = .ok (.agg #[.int .i64 n, .int .i64 a, .int .u8 b, .int .i64 c, .int .i64 d, .int .i64 e, .slice none 0 0]) w := run_build _ _ _ _ (by kernel_rfl)
theorem gone_snoc {st : Ms} {k : Int} (x : Option Bk) (h : gone st k = true) : gone (st ++ [x]) k = true := by
  by_cases hi : 0 ≤ k ∧ k < st.length
  · rw [gone_in hi] at h
    rw [gone_in ⟨hi.1, by rw [List.length_append]; simp; omega⟩, atS_snoc, if_neg (by omega)]
    exact h
  · rw [gone_out hi] at h; cases h
theorem add_goes {o : Nat → Nat} {mb ab : Nat} {st : Ms} {W w2 w3 : World} (h : MemIs o mb ab st W) (hl : st.length < 1000000) (b : Bk) (hb : W.heap.size ≤ b.pb) (hcs : b.cs = []) (hcp : b.cp = none ∧ b.cc = 0) (h4 : b.size ≤ 4096) (hy : b.all.ok) (hy2 : b.all.k ≠ 2)
    (h2 : Below W.heap.size W w2) (hbx : Box b.pb (bkC b) w2) (hm3 : MapIs ab (st ++ [some b]) w3) (hg3 : w2.grownBy w3 (some ab)) :
    Goes o mb ab (st ++ [some b]) W (w3.setCell ⟨mb, 0, none⟩ (.int .i64 (st.length + 1))) := by
  have hmn : mb ≠ ab := fun e => by have h1 := h.mem; have h2 := h.map; rw [e, h2] at h1; cases h1
  have hml : mb < W.heap.size := h.inside mb (by rw [h.mem]; decide)
  have hal : ab < W.heap.size := h.inside ab (by rw [h.map]; decide)
  have hs2 := h2.size
  have hs3 := hg3.size
  have hsz : (w3.setCell ⟨mb, 0, none⟩ (.int .i64 (st.length + 1))).heap.size = w3.heap.size := by simp [World.setCell]
  have hk : ∀ k, k < W.heap.size → k ≠ ab → k ≠ mb → (w3.setCell ⟨mb, 0, none⟩ (.int .i64 (st.length + 1))).heap[k]? = W.heap[k]? := fun k h0 h1 h3 =>
    ((Below.heap_setCell w3 ⟨mb, 0, none⟩ _ k h3).trans (hg3.block k (by omega) (fun e => h1 (by injection e)))).trans (h2.block k h0)
  have hbk : b.pb < w2.heap.size := hbx.1
  have hold : ∀ k, k < W.heap.size → (if k = b.pb then 2 * st.length + 3 else o k) = o k := fun k hk => if_neg (by omega)
  refine ⟨fun k => if k = b.pb then 2 * st.length + 3 else o k, ?_, ?_, hold⟩
  · constructor
    · intro k hk
      rw [hsz]
      by_cases e : k = b.pb
      · omega
      · have := h.inside k (by simpa [e] using hk); omega
    · exact (hold mb hml).trans h.mem
    · exact (hold ab hal).trans h.map
    · have hx := (((h.box.later h2).kept hg3 (fun e => hmn (by injection e))).set 0 (.int .i64 (st.length + 1)))
      have e : ((st ++ [some b]).length : Int) = (st.length : Int) + 1 := by simp
      rw [e]
      exact hx
    · exact hm3.same (Below.heap_setCell w3 ⟨mb, 0, none⟩ _ ab (Ne.symm hmn))
    · rw [List.length_append]; simp; omega
    · intro i c hi
      by_cases hlt : i < st.length
      · rw [List.getElem?_append_left hlt] at hi
        obtain ⟨t1, t2, t3, t4⟩ := h.blk i c hi
        have hpl : c.pb < W.heap.size := t2.1
        refine ⟨(hold _ hpl).trans t1, t2.same (by rw [hsz]; omega) (hk _ hpl (fun e => by rw [e, h.map] at t1; omega) (fun e => by rw [e, h.mem] at t1; omega)), row_same t3 (fun g hg => ?_), fun g hg => ?_⟩
        · have := t4 g hg
          exact hk g (t3.lt g hg).2 (fun e => by rw [e, h.map] at this; omega) (fun e => by rw [e, h.mem] at this; omega)
        · exact (hold _ (t3.lt g hg).2).trans (t4 g hg)
      · have hi2 : i = st.length := by have := (List.getElem?_eq_some_iff.1 hi).1; rw [List.length_append] at this; simp at this; omega
        subst hi2
        have : c = b := by simpa using hi.symm
        subst this
        refine ⟨if_pos rfl, (hbx.kept hg3 (fun e => by injection e; omega)).same (by rw [hsz]; exact Nat.le_refl _) (Below.heap_setCell w3 ⟨mb, 0, none⟩ _ c.pb (by show c.pb ≠ mb; omega)), ?_, fun g hg => ?_⟩
        · rw [hcs, hcp.1, hcp.2]; exact World.ownsRow_nil _ _ _ _
        · rw [hcp.1] at hg; simp [Value.ownBlock] at hg
    · intro i c hi
      by_cases hlt : i < st.length
      · rw [List.getElem?_append_left hlt] at hi
        obtain ⟨t1, t2, t3, t4, t5⟩ := h.fit i c hi
        exact ⟨t1, t2, t3, t4, fun x hx => ⟨(t5 x hx).1, fun e => ⟨((t5 x hx).2 e).1, gone_snoc _ ((t5 x hx).2 e).2⟩⟩⟩
      · have hi2 : i = st.length := by have := (List.getElem?_eq_some_iff.1 hi).1; rw [List.length_append] at this; simp at this; omega
        subst hi2
        have : c = b := by simpa using hi.symm
        subst this
        exact ⟨h4, by rw [hcs]; exact Nat.zero_le _, hy2, hy, by rw [hcs]; intro x hx; cases hx⟩
  · exact ⟨(hg3.os).trans h2.os, (hg3.tape).trans h2.tape, (hg3.output).trans h2.output, by rw [hsz]; omega, fun k h0 h1 => hk k h0 (fun e => by rw [e, h.map] at h1; cases h1) (fun e => by rw [e, h.mem] at h1; cases h1)⟩
set_option maxRecDepth 100000 in
set_option maxHeartbeats 1000000 in
theorem add_any (o : Nat → Nat) (mb ab : Nat) (st : Ms) (W : World) (n : Int) (y : By) (hy : y.ok) (hy2 : y.k ≠ 2) (hn : wf64 n) (hl : st.length < 1000000) (h : MemIs o mb ab st W) :
    Calls Try.prog 49 #[.pointer (some ⟨mb, 0, none⟩), .int .i64 n, y.val] W fun e w' => e = .returned (.int .i64 st.length) ∧ ∃ b : Bk, b.size = bnd n ∧ b.all = y ∧ b.cs = [] ∧ Goes o mb ab (st ++ [some b]) W w' := by
  obtain ⟨yk, yb, ybk, yo, yi⟩ := y
  have r0 := h.box.get 0 _ rfl
  have r1 := h.box.get 1 _ rfl
  have rf := h.box.2.1
  have rlt := h.box.1
  have hb := bK
  have HH := Lib.hid h
  have hP := below1 W (.cells #[.int .i64 yk, .int .u8 yb, .int .i64 ybk, .int .i64 yo, .int .i64 yi] 32)
  have hz : (if 4096 < (if n < 0 then 0 else n) then 4096 else (if n < 0 then 0 else n)) = (bnd n : Int) := by
    unfold bnd
    by_cases h1 : n < 0
    · simp [h1]
    · by_cases h2 : 4096 < n
      · simp [h1, h2]
      · simp [h1, h2]; omega
  obtain ⟨Z, eZ⟩ : ∃ Z : Int, (bnd n : Int) = Z := ⟨_, rfl⟩
  rw [eZ] at hz
  have hne : mb ≠ ab := fun e => by have h1 := h.mem; have h2 := h.map; rw [e, h2] at h1; cases h1
  obtain ⟨A, hA⟩ : ∃ A : Obj, A = .cells #[.int .i64 yk, .int .u8 yb, .int .i64 ybk, .int .i64 yo, .int .i64 yi] 32 := ⟨_, rfl⟩
  have hb2 : ∀ B, Below W.heap.size W ((W.alloc A).alloc B).drew := fun B => (below2 W A B).drew
  have hput : ∀ B, ∃ w', (Instr.mapUpdate 80 (.map (some ab)) (.int .i64 st.length) (.pointer (some ⟨W.heap.size + 1, 0, none⟩))).run Try.prog ((W.alloc A).alloc B).drew = .ok () w' ∧ MapIs ab (st ++ [some ⟨W.heap.size + 1, bnd n, ⟨yk, yb, ybk, yo, yi⟩, none, 0, []⟩]) w' ∧ ((W.alloc A).alloc B).drew.grownBy w' (some ab) := fun B =>
    (h.later (hb2 B)).maps.put (by omega) ⟨W.heap.size + 1, bnd n, ⟨yk, yb, ybk, yo, yi⟩, none, 0, []⟩
  obtain ⟨w3, hrun, hm3, hg3⟩ := hput (.cells #[.int .i64 (if 4096 < (if n < 0 then 0 else n) then 4096 else (if n < 0 then 0 else n)), .int .i64 yk, .int .u8 yb, .int .i64 ybk, .int .i64 yo, .int .i64 yi, .slice none 0 0] 97)
  have hx3 := ((h.box.later (hb2 (.cells #[.int .i64 (if 4096 < (if n < 0 then 0 else n) then 4096 else (if n < 0 then 0 else n)), .int .i64 yk, .int .u8 yb, .int .i64 ybk, .int .i64 yo, .int .i64 yi, .slice none 0 0] 97))).kept hg3 (fun e => hne (by injection e)))
  have q0 := hx3.get 0 _ rfl
  have qf := hx3.2.1
  have HGO := Lib.hid (add_goes h hl ⟨W.heap.size + 1, bnd n, ⟨yk, yb, ybk, yo, yi⟩, none, 0, []⟩ (Nat.le_succ _) rfl ⟨rfl, rfl⟩ (bnd_le n) hy hy2 (hb2 _) (by
    have hbx := box_drew (Box.new (W.alloc A) (g := W.heap.size + 1) (by simp) (bkC ⟨W.heap.size + 1, bnd n, ⟨yk, yb, ybk, yo, yi⟩, none, 0, []⟩) 97)
    unfold bkC at hbx ⊢
    simp only [eZ] at hbx ⊢
    rw [← hz] at hbx ⊢
    exact hbx) hm3 hg3)
  subst hA
  clear h hP hput hb2 hm3 hg3 hx3 hz hne
  show Calls _ _ #[.pointer (some ⟨mb, 0, none⟩), .int .i64 n, .agg #[.int .i64 yk, .int .u8 yb, .int .i64 ybk, .int .i64 yo, .int .i64 yi]] W _
  go_enter Try.func49, Try.ntmps49
  go_wp2_with fail
  go_region
  all_goals
    go_wp2_with fail
    all_goals
      go_ret
      exact ⟨rfl, _, rfl, rfl, rfl, HGO.out⟩
theorem Alloc_any (o : Nat → Nat) (mb ab : Nat) (st : Ms) (W : World) (n : Int) (hn : wf64 n) (hl : st.length < 1000000) (h : MemIs o mb ab st W) :
    Calls Try.prog 27 #[.pointer (some ⟨mb, 0, none⟩), .int .i64 n] W fun e w' => e = .returned (.int .i64 st.length) ∧ ∃ b : Bk, b.size = bnd n ∧ b.all = q0 ∧ b.cs = [] ∧ Goes o mb ab (st ++ [some b]) W w' := by
  have b0 := bB0
  have c1 : Calls Try.prog 49 #[.pointer (some ⟨mb, 0, none⟩), .int .i64 n, .agg #[.int .i64 0, .int .u8 0, .int .i64 0, .int .i64 0, .int .i64 0]] W fun e w' => e = .returned (.int .i64 st.length) ∧ ∃ b : Bk, b.size = bnd n ∧ b.all = q0 ∧ b.cs = [] ∧ Goes o mb ab (st ++ [some b]) W w' :=
    add_any o mb ab st W n q0 ⟨by decide, by decide⟩ (by decide) hn hl h
  clear h
  go_enter Try.func27, Try.ntmps27
  go_wp2_with (first
    | ((with_reducible refine c1.mono ?_); rintro e w5 ⟨rfl, hG⟩))
  go_ret
  exact ⟨rfl, hG⟩
/-- The memory without a block. -/
def freeS (st : Ms) (k : Int) : Ms := if 0 ≤ k then st.set k.toNat none else st
theorem freeS_len (st : Ms) (k : Int) : (freeS st k).length = st.length := by unfold freeS; split <;> simp
theorem freeS_at (st : Ms) (k j : Int) : atS (freeS st k) j = if j = k then none else atS st j := by
  unfold freeS atS
  by_cases h0 : 0 ≤ k
  · rw [if_pos h0]
    by_cases h1 : 0 ≤ j
    · rw [if_pos h1, if_pos h1, List.getD_eq_getElem?_getD, List.getD_eq_getElem?_getD, List.getElem?_set]
      by_cases e : j = k
      · subst e
        rw [if_pos rfl, if_pos rfl]
        split <;> rfl
      · rw [if_neg (by omega), if_neg e]
    · rw [if_neg h1, if_neg h1]; split <;> rfl
  · rw [if_neg h0]
    by_cases e : j = k
    · subst e; rw [if_pos rfl, if_neg h0]
    · rw [if_neg e]
theorem freeS_get (st : Ms) (k : Int) (i : Nat) (b : Bk) (h : (freeS st k)[i]? = some (some b)) : st[i]? = some (some b) ∧ (i : Int) ≠ k := by
  unfold freeS at h
  split at h
  · rename_i h0
    rw [List.getElem?_set] at h
    split at h
    · split at h <;> cases h
    · exact ⟨h, by omega⟩
  · exact ⟨h, by omega⟩
theorem gone_free {st : Ms} {k j : Int} (h : gone st j = true) : gone (freeS st k) j = true := by
  by_cases hi : 0 ≤ j ∧ j < st.length
  · rw [gone_in hi] at h
    rw [gone_in ⟨hi.1, by rw [freeS_len]; exact hi.2⟩, freeS_at]
    split
    · rfl
    · exact h
  · rw [gone_out hi] at h; cases h
theorem Free_any (o : Nat → Nat) (mb ab : Nat) (st : Ms) (W : World) (k : Int) (hk : wf64 k) (h : MemIs o mb ab st W) :
    Calls Try.prog 28 #[.pointer (some ⟨mb, 0, none⟩), .int .i64 k] W fun e w' => e = .returned (.tuple #[]) ∧ Goes o mb ab (freeS st k) W w' := by
  have r0 := h.box.get 0 _ rfl
  have r1 := h.box.get 1 _ rfl
  have hmn : mb ≠ ab := fun e => by have h1 := h.mem; have h2 := h.map; rw [e, h2] at h1; cases h1
  obtain ⟨w', hr, hm, hg⟩ := h.maps.del hk 0 (freeS st k) (freeS_len st k) (freeS_at st k)
  have HGO : Hid (Goes o mb ab (freeS st k) W w') := Lib.hid ⟨o, by
    constructor
    · exact fun j hj => Nat.lt_of_lt_of_le (h.inside j hj) hg.size
    · exact h.mem
    · exact h.map
    · rw [freeS_len]; exact h.box.kept hg (fun e => hmn (by injection e))
    · exact hm
    · rw [freeS_len]; exact h.len
    · intro i b e
      obtain ⟨e1, e2⟩ := freeS_get st k i b e
      obtain ⟨t1, t2, t3, t4⟩ := h.blk i b e1
      exact ⟨t1, t2.kept hg (fun e => by injection e with e; rw [e, h.map] at t1; omega), row_same t3 (fun g hgg => hg.block g (t3.lt g hgg).2 (fun e => by have := t4 g hgg; injection e with e; rw [e, h.map] at this; omega)), t4⟩
    · intro i b e
      obtain ⟨e1, e2⟩ := freeS_get st k i b e
      obtain ⟨t1, t2, t3, t4, t5⟩ := h.fit i b e1
      exact ⟨t1, t2, t3, t4, fun x hx => ⟨(t5 x hx).1, fun e => ⟨((t5 x hx).2 e).1, gone_free ((t5 x hx).2 e).2⟩⟩⟩, ⟨hg.os, hg.tape, hg.output, hg.size, fun j h0 h1 => hg.block j h0 (fun e => by injection e with e; rw [e, h.map] at h1; cases h1)⟩, Ext.refl _ _⟩
  clear h hm hg hmn
  go_enter Try.func28, Try.ntmps28
  go_wp2_with fail
  go_end0
  exact ⟨rfl, HGO.out⟩
end Go.Proofs.Ytkbkgbkoplcgeaa
