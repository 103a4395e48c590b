/- How long the text of a module is at most. No program here. -/
import Derived.Test.YtmampoakdjjbiaaGreatDoorSpLay
namespace Go.Proofs.YtmampoakdjjbiaaGreatDoor
set_option linter.unusedVariables false
set_option linter.unusedSimpArgs false

theorem dec_len' : ∀ (k n : Nat), n < 10 ^ (k + 1) → (Lib.decDigits n).length ≤ k + 1
  | 0, n, h => by rw [Lib.decDigits_one (by omega)]; simp
  | k + 1, n, h => by
    by_cases h1 : n < 10
    · rw [Lib.decDigits_one h1]; simp
    · rw [Lib.decDigits, dif_neg h1, List.length_append]
      have := dec_len' k (n / 10) (by rw [Nat.div_lt_iff_lt_mul (by omega)]; rw [Nat.pow_succ] at h; exact h)
      simp
      omega
theorem decI_len {n : Int} (h : n < 18446744073709551616) : (decI n).length ≤ 20 := dec_len' 19 n.toNat (by omega)
theorem typeT_len' (t : Int) : (typeT t).length ≤ 21 := by
  unfold typeT
  split
  · simp
  split
  · simp
  split
  · rename_i h
    have := decI_len (n := t) (by omega)
    simp
    omega
  · simp
theorem sepBy_len (sep : Tx) (K : Nat) : ∀ (l : List Tx), (∀ x ∈ l, x.length ≤ K) → (sepBy sep l).length ≤ l.length * (K + sep.length)
  | [], _ => by simp [sepBy]
  | [x], h => by
    have := h x (List.mem_singleton.2 rfl)
    simp [sepBy]
    omega
  | x :: y :: l, h => by
    have h1 := h x (List.mem_cons_self ..)
    have h2 := sepBy_len sep K (y :: l) (fun z hz => h z (List.mem_cons_of_mem _ hz))
    show (x ++ sep ++ sepBy sep (y :: l)).length ≤ ((y :: l).length + 1) * (K + sep.length)
    rw [List.length_append, List.length_append, Nat.add_mul]
    omega
theorem flatT_len {α : Type} (f : α → Tx) (z : α → Nat) (K : Nat) : ∀ (l : List α), (∀ x ∈ l, (f x).length ≤ z x * K) → (l.map f).flatten.length ≤ (l.map z).sum * K
  | [], _ => by simp
  | x :: l, h => by
    have h1 := h x (List.mem_cons_self ..)
    have h2 := flatT_len f z K l (fun y hy => h y (List.mem_cons_of_mem _ hy))
    rw [List.map_cons, List.map_cons, List.flatten_cons, List.length_append, List.sum_cons, Nat.add_mul]
    omega
theorem flatT_split {α : Type} (f : α → Tx) (l : List α) (i : Nat) (h : i < l.length) : (l.map f).flatten = ((l.take i).map f).flatten ++ (f l[i] ++ ((l.drop (i + 1)).map f).flatten) := by
  conv => lhs; rw [← List.take_append_drop i l, List.map_append, List.flatten_append, List.drop_eq_getElem_cons h, List.map_cons, List.flatten_cons]
theorem flatT_step {α : Type} (f : α → Tx) (l : List α) (i : Nat) (h : i < l.length) : ((l.take (i + 1)).map f).flatten = ((l.take i).map f).flatten ++ f l[i] := by
  rw [List.take_succ_eq_append_getElem h, List.map_append, List.flatten_append]
  simp
/-- The bounds that a module's names and numbers keep. -/
structure LenOk (m : PMod) : Prop where
  vs : ∀ v ∈ m.vs, v.nm.size ≤ 1048576
  xs : ∀ x ∈ m.xs, x.nm.size ≤ 1048576
  fs : ∀ f ∈ m.fs, f.nm.size ≤ 1048576
  z : modZ m ≤ 1048576
def insW (x : PIns) : Prop := x.n ≤ 9223372036854775807 ∧ ∀ a ∈ x.args, 0 ≤ a.bits ∧ a.bits < 18446744073709551616
theorem byt_len (s : ByteArray) : (byt s).length = s.size := by simp [byt]
theorem argT_len {m : PMod} (hm : LenOk m) {a : Arg} (h : argB m a = true) (hb : a.bits < 18446744073709551616) : (argT m.vs a).length ≤ 1048600 := by
  unfold argB at h
  unfold argT regT
  split
  · rename_i e
    rw [if_pos e, Bool.and_eq_true] at h
    have h1 : 0 ≤ a.n ∧ a.n ≤ 4095 := of_decide_eq_true h.1
    have := decI_len (n := a.n) (by omega)
    simp
    omega
  split
  · have := decI_len (n := a.bits) hb
    omega
  split
  · simp
  split
  · simp
  · cases e : m.vs[a.n.toNat]? with
    | none => simp
    | some g =>
      have := hm.vs g (List.mem_of_getElem? e)
      simp [byt_len]
      omega
theorem calT_len {m : PMod} (hm : LenOk m) (n : Int) : (calT m.xs m.fs n).length ≤ 1048576 := by
  unfold calT
  split
  · cases e : m.fs[n.toNat]? with
    | none => simp
    | some g => rw [byt_len]; exact hm.fs g (List.mem_of_getElem? e)
  · cases e : m.xs[(-1 - n).toNat]? with
    | none => simp
    | some g => rw [byt_len]; exact hm.xs g (List.mem_of_getElem? e)
theorem blockT_len {n : Int} (h : n < 18446744073709551616) : (blockT n).length ≤ 21 := by
  have := decI_len h
  unfold blockT
  simp
  omega
theorem opT_len (op : Int) : (opT op).length ≤ 6 := by
  by_cases h : op.toNat < 35
  · have : ∀ j : Fin 35, (opT (j.val : Int)).length ≤ 6 := by decide
    have h2 := this ⟨op.toNat, h⟩
    have e : opT ((op.toNat : Nat) : Int) = opT op := by unfold opT; rw [Int.toNat_natCast]
    rw [← e]
    exact h2
  · unfold opT
    rw [List.getElem?_eq_none (by simp; omega)]
    simp
theorem flagsT_len (fl : Int) : (flagsT fl).length ≤ 14 := by
  unfold flagsT
  rw [List.length_append, List.length_append]
  have h1 : (if fl % 2 = 1 then [32, 110, 115, 119] else [] : Tx).length ≤ 4 := by split <;> simp
  have h2 : (if fl / 2 % 2 = 1 then [32, 110, 117, 119] else [] : Tx).length ≤ 4 := by split <;> simp
  have h3 : (if fl / 4 = 1 then [32, 101, 120, 97, 99, 116] else [] : Tx).length ≤ 6 := by split <;> simp
  omega
theorem insB_arg {m : PMod} {x : PIns} (h : insB m x = true) : ∀ a ∈ x.args, argB m a = true := by
  unfold insB at h
  simp only [Bool.and_eq_true] at h
  exact List.all_eq_true.1 h.2
theorem insB_tg {m : PMod} {x : PIns} (h : insB m x = true) : ∀ t ∈ x.tg, 0 ≤ t ∧ t ≤ 999 := by
  unfold insB at h
  simp only [Bool.and_eq_true] at h
  intro t ht
  exact of_decide_eq_true (List.all_eq_true.1 h.1.2 t ht)
theorem insB_reg {m : PMod} {x : PIns} (h : insB m x = true) : x.reg ≤ 4095 := by
  unfold insB at h
  simp only [Bool.and_eq_true] at h
  have h1 := h.1.1.2
  unfold hasRegB at h1
  split at h1
  · omega
  · rw [Bool.and_eq_true] at h1
    have : 0 ≤ x.reg ∧ x.reg ≤ 4095 := of_decide_eq_true h1.1
    omega
theorem listA_len {m : PMod} (hm : LenOk m) {l : List Arg} (h : ∀ a ∈ l, argB m a = true) (hb : ∀ a ∈ l, 0 ≤ a.bits ∧ a.bits < 18446744073709551616) : (listT (l.map (argT m.vs))).length ≤ l.length * 1048602 := by
  have := sepBy_len [44, 32] 1048600 (l.map (argT m.vs)) (fun x hx => by
    obtain ⟨a, ha, rfl⟩ := List.mem_map.1 hx
    exact argT_len hm (h a ha) (hb a ha).2)
  rw [List.length_map] at this
  exact this
theorem listP_len (ps : List Int) : (listT (ps.map typeT)).length ≤ ps.length * 23 := by
  have := sepBy_len [44, 32] 21 (ps.map typeT) (fun x hx => by
    obtain ⟨a, ha, rfl⟩ := List.mem_map.1 hx
    exact typeT_len' a)
  rw [List.length_map] at this
  exact this
theorem headT_len (nm : ByteArray) (ps : List Int) (rt : Int) (h : nm.size ≤ 1048576) : (headT nm ps rt).length ≤ 1048610 + ps.length * 23 := by
  unfold headT
  have h1 := listP_len ps
  have h2 := typeT_len' rt
  simp only [List.length_append, List.length_cons, List.length_nil, byt_len]
  omega
theorem behindT_len {m : PMod} (hm : LenOk m) {x : PIns} (h : insB m x = true) (hw : insW x) : (behindT m x).length ≤ 1048700 + (x.args.length + x.tg.length) * 1048700 := by
  have hl := listA_len hm (insB_arg h) hw.2
  have t1 := typeT_len' x.n
  have t2 := typeT_len' x.ty
  have c1 := calT_len hm x.n
  have d1 := decI_len (n := x.n) (by have := hw.1; omega)
  unfold behindT
  split
  · simp only [List.length_cons, List.length_append, List.length_nil]; omega
  split
  · have hz : (listT ((x.tg.zip x.args).map (pairT m.vs))).length ≤ x.tg.length * 1048700 := by
      have := sepBy_len [44, 32] 1048690 ((x.tg.zip x.args).map (pairT m.vs)) (fun y hy => by
        obtain ⟨p, hp, rfl⟩ := List.mem_map.1 hy
        have ha := argT_len hm (insB_arg h p.2 (List.of_mem_zip hp).2) (hw.2 p.2 (List.of_mem_zip hp).2).2
        have hb := blockT_len (n := p.1) (by have := insB_tg h p.1 (List.of_mem_zip hp).1; omega)
        unfold pairT
        simp only [List.length_append, List.length_cons]
        omega)
      rw [List.length_map, List.length_zip] at this
      refine Nat.le_trans this ?_
      have : min x.tg.length x.args.length ≤ x.tg.length := Nat.min_le_left _ _
      simp only [List.length_cons, List.length_nil]
      omega
    split
    · simp; omega
    · simp only [List.length_cons, List.length_append]; omega
  split
  · simp only [List.length_cons]; omega
  split
  · simp only [List.length_cons, List.length_append, List.length_nil]; omega
  split
  · have hz : (listT (x.args.map (argT m.vs) ++ x.tg.map blockT)).length ≤ (x.args.length + x.tg.length) * 1048602 := by
      have := sepBy_len [44, 32] 1048600 (x.args.map (argT m.vs) ++ x.tg.map blockT) (fun y hy => by
        rcases List.mem_append.1 hy with hy | hy
        · obtain ⟨a, ha, rfl⟩ := List.mem_map.1 hy
          exact argT_len hm (insB_arg h a ha) (hw.2 a ha).2
        · obtain ⟨t, ht, rfl⟩ := List.mem_map.1 hy
          have hb := blockT_len (n := t) (by have := insB_tg h t ht; omega)
          omega)
      rw [List.length_append, List.length_map, List.length_map] at this
      exact this
    simp only [List.length_cons]
    omega
  split
  · simp
  · simp only [List.length_cons, List.length_append]; omega
theorem insT_len {m : PMod} (hm : LenOk m) {x : PIns} (h : insB m x = true) (hw : insW x) : (insT m x).length + 3 ≤ insZ x * 4194304 := by
  have h1 := behindT_len hm h hw
  have h2 := opT_len x.op
  have h3 := flagsT_len x.fl
  have h4 := decI_len (n := x.reg) (by have := insB_reg h; omega)
  unfold insT insZ regT
  have h5 : (if 0 ≤ x.reg then (37 :: decI x.reg) ++ [32, 61, 32] else [] : Tx).length ≤ 24 := by
    split
    · simp; omega
    · simp
  rw [List.length_append, List.length_append, List.length_append]
  omega
theorem lineT_len {m : PMod} (hm : LenOk m) {x : PIns} (h : insB m x = true) (hw : insW x) : (lineT m x).length ≤ insZ x * 4194304 := by
  have := insT_len hm h hw
  unfold lineT
  simp only [List.length_append, List.length_cons, List.length_nil]
  omega
theorem blkT_len {m : PMod} (hm : LenOk m) {c : List PIns} (h : c.all (insB m) = true) (hw : ∀ x ∈ c, insW x) (i : Nat) (hi : i < 18446744073709551616) : (blkT m i c).length ≤ (1 + codeZ c) * 4194304 := by
  have h1 := flatT_len (lineT m) insZ 4194304 c (fun x hx => lineT_len hm (List.all_eq_true.1 h x hx) (hw x hx))
  have h2 := blockT_len (n := (i : Int)) (by omega)
  unfold blkT codeZ
  rw [List.length_append, List.length_append]
  simp only [List.length_cons, List.length_nil]
  omega
theorem blks_len {m : PMod} (hm : LenOk m) : ∀ (bs : List (List PIns)) (j : Nat), (∀ c ∈ bs, c.all (insB m) = true) → (∀ c ∈ bs, ∀ x ∈ c, insW x) → j + bs.length < 18446744073709551616 → (bs.mapIdx fun i => blkT m (i + j)).flatten.length ≤ blksZ bs * 4194304
  | [], _, _, _, _ => by simp
  | c :: bs, j, h, hw, hj => by
    have h1 := blkT_len hm (h c (List.mem_cons_self ..)) (hw c (List.mem_cons_self ..)) (0 + j) (by simp at hj; omega)
    have h2 := blks_len hm bs (j + 1) (fun d hd => h d (List.mem_cons_of_mem _ hd)) (fun d hd => hw d (List.mem_cons_of_mem _ hd)) (by simp at hj; omega)
    rw [List.mapIdx_cons, List.flatten_cons, List.length_append]
    have e : (bs.mapIdx fun i => blkT m (i + 1 + j)) = bs.mapIdx fun i => blkT m (i + (j + 1)) := by
      congr 1
      funext i
      rw [show i + 1 + j = i + (j + 1) by omega]
    unfold blksZ at h2 ⊢
    rw [e, List.map_cons, List.sum_cons, Nat.add_mul]
    omega
theorem fnT_len {m : PMod} (hm : LenOk m) {f : PFn} (hn : f.nm.size ≤ 1048576) (h : ∀ c ∈ f.bs, c.all (insB m) = true) (hw : ∀ c ∈ f.bs, ∀ x ∈ c, insW x) (hl : f.bs.length ≤ 1048576) : (fnT m f).length ≤ fnZ f * 4194304 := by
  have h1 := headT_len f.nm f.ps f.rt hn
  have h2 := blks_len hm f.bs 0 h hw (by omega)
  unfold fnT fnZ
  rw [List.length_append, List.length_append, List.length_append]
  have e : f.bs.mapIdx (blkT m) = f.bs.mapIdx fun i => blkT m (i + 0) := rfl
  rw [e]
  simp only [List.length_cons, List.length_nil]
  omega
theorem varT_len {v : PVar} (h : v.nm.size ≤ 1048576) (hs : v.size ≤ 9223372036854775807) : (varT v).length ≤ 1 * 4194304 := by
  have := decI_len (n := v.size) (by omega)
  unfold varT
  simp only [List.length_append, List.length_cons, List.length_nil, byt_len]
  omega
theorem extT_len {x : PExt} (h : x.nm.size ≤ 1048576) : (extT x).length ≤ extZ x * 4194304 := by
  have := headT_len x.nm x.ps x.rt h
  unfold extT extZ
  rw [List.length_append]
  simp only [List.length_cons, List.length_nil]
  omega
theorem modT_len {wd : Tx → Bool} {m : PMod} (hm : LenOk m) (hv : ∀ v ∈ m.vs, v.size ≤ 9223372036854775807) (hw : ∀ f ∈ m.fs, ∀ c ∈ f.bs, ∀ x ∈ c, insW x) (h : sayB wd m = true) : (modT m).length ≤ 4398046511104 := by
  have h1 := flatT_len varT (fun _ => 1) 4194304 m.vs (fun v hv' => varT_len (hm.vs v hv') (hv v hv'))
  have h2 := flatT_len extT extZ 4194304 m.xs (fun x hx => extT_len (hm.xs x hx))
  have hz := hm.z
  have h3 := flatT_len (fnT m) fnZ 4194304 m.fs (fun f hf => fnT_len hm (hm.fs f hf) (fun c hc => by
    unfold sayB at h
    rw [Bool.and_eq_true] at h
    have := List.all_eq_true.1 h.2 f hf
    unfold fnB at this
    rw [Bool.and_eq_true] at this
    exact List.all_eq_true.1 this.2 c hc) (hw f hf) (by
      have a1 := blksZ_len f.bs
      have a2 : fnZ f ≤ (m.fs.map fnZ).sum := sum_mem fnZ hf
      unfold fnZ at a2
      unfold modZ at hz
      unfold fnZ at hz
      omega))
  unfold modT
  unfold modZ at hz
  rw [List.length_append, List.length_append]
  have e : (m.vs.map fun _ => (1 : Nat)).sum = m.vs.length := sum_one m.vs
  rw [e] at h1
  omega
end Go.Proofs.YtmampoakdjjbiaaGreatDoor
