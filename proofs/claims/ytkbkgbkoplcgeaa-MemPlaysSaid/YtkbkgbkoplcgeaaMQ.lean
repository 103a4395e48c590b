/- Package mem: lay. -/
import Derived.Test.YtkbkgbkoplcgeaaMO
namespace Go.Proofs.Ytkbkgbkoplcgeaa
open Go.RowKit Go.Maps
set_option linter.unusedVariables false
set_option linter.unusedSimpArgs false

def padC (b : Bk) : Cl := ⟨b.all, false⟩
/-- A block with more cells. -/
def Bk.grow (b : Bk) (p : Option Addr) (c k : Nat) : Bk := ⟨b.pb, b.size, b.all, p, c, b.cs ++ List.replicate k (padC b)⟩
/-- A block with cells laid. -/
def Bk.lay (b : Bk) (p : Option Addr) (c at' : Nat) (ys : List Cl) : Bk := ⟨b.pb, b.size, b.all, p, c, put (b.cs ++ List.replicate (at' + ys.length - b.cs.length) (padC b)) at' ys⟩
theorem cl_snoc (L : List Cl) (y : Cl) : (L ++ [y]).flatMap celC = L.flatMap celC ++ celC y := by rw [List.flatMap_append]; simp
theorem set_get {st : Ms} {i : Nat} {b : Bk} (hi : st[i]? = some (some b)) (b' : Bk) : (st.set i (some b'))[i]? = some (some b') := by
  have hl := (List.getElem?_eq_some_iff.1 hi).1
  rw [List.getElem?_set, if_pos rfl, if_pos hl]
/-- How many cells a block has, as its memory tells. -/
def lenAt (w : World) (pb : Nat) : Nat := match w.cell? ⟨pb, 6, none⟩ with | some (.slice _ n _) => n | _ => 0
theorem lenAt_is {w : World} {pb : Nat} {p : Option Addr} {n c : Nat} (h : w.cell? ⟨pb, 6, none⟩ = some (.slice p n c)) : lenAt w pb = n := by unfold lenAt; rw [h]
theorem bCl1 (w : World) (a b c d e : Int) : (Instr.build 102 #[(0, .agg #[.int .i64 a, .int .u8 b, .int .i64 c, .int .i64 d, .int .i64 e])]).run Try.prog w = .ok (.agg #[.int .i64 a, .int .u8 b, .int .i64 c, .int .i64 d, .int .i64 e, .bool false]) w := run_build _ _ _ _ (by kernel_rfl)
theorem infoCl2 : (Try.prog.info? 102).map (·.size) = some 6 := by kernel_rfl
theorem grow_len (b : Bk) (p : Option Addr) (c k : Nat) : (b.grow p c k).cs.length = b.cs.length + k := by unfold Bk.grow; simp
theorem grow_snoc (b : Bk) (p q : Option Addr) (c d k : Nat) : (b.grow q d (k + 1)).cs = (b.grow p c k).cs ++ [padC b] := by
  show b.cs ++ List.replicate (k + 1) (padC b) = (b.cs ++ List.replicate k (padC b)) ++ [padC b]
  rw [List.replicate_succ', List.append_assoc]
theorem grow_step {o' : Nat → Nat} {mb ab : Nat} {st : Ms} {i : Nat} {b : Bk} {p q6 : Option Addr} {c c6 k n : Nat} {wr w6 : World} (A : Obj) (hi : st[i]? = some (some b)) (hM : MemIs o' mb ab (st.set i (some (b.grow p c k))) wr) (hn : (b.grow p c k).cs.length = n)
    (hF : b.size ≤ 4096 ∧ b.cs.length ≤ b.size ∧ b.all.k ≠ 2 ∧ b.all.ok ∧ ∀ x ∈ b.cs, (x.y.ok ∧ wf64 x.y.bk) ∧ (x.late = true → x.y.k = 2 ∧ gone st x.y.bk = true)) (hall : wf64 b.all.bk) (hlt : n < b.size)
    (ho : w6.ownsRow 0 102 6 (.slice q6 (n + 1) c6) (n + 1) ((b.grow p c k).cs.flatMap celC ++ celC (padC b))) (hg : (wr.alloc A).drew.grownBy w6 (Value.slice p n c).ownBlock) (hmv : Moved (wr.alloc A).drew (.slice p n c) (.slice q6 (n + 1) c6)) (hX : Box b.pb (bkC (b.grow p c k)) w6) :
    Goes o' mb ab (st.set i (some (b.grow q6 c6 (k + 1)))) wr (w6.setCell ⟨b.pb, 6, none⟩ (.slice q6 (n + 1) c6)) := by
  have hib := set_get hi (b.grow p c k)
  obtain ⟨t1, t2, t3, t4⟩ := hM.blk i _ hib
  have t1 : o' b.pb = 2 * i + 3 := t1
  have t4 : ∀ g, (Value.slice p (b.grow p c k).cs.length c).ownBlock = some g → o' g = 2 * i + 4 := t4
  have t3 : wr.ownsRow 0 102 6 (.slice p (b.grow p c k).cs.length c) (b.grow p c k).cs.length ((b.grow p c k).cs.flatMap celC) := t3
  have hn1 : (b.grow q6 c6 (k + 1)).cs.length = n + 1 := by rw [grow_len] at hn ⊢; omega
  rw [hn] at t3 t4
  have hsz : wr.heap.size + 1 ≤ w6.heap.size := by have := hg.size; simp at this; exact this
  have hszF : (w6.setCell ⟨b.pb, 6, none⟩ (.slice q6 (n + 1) c6)).heap.size = w6.heap.size := by simp [World.setCell]
  have e : (st.set i (some (b.grow p c k))).set i (some (b.grow q6 c6 (k + 1))) = st.set i (some (b.grow q6 c6 (k + 1))) := List.set_set ..
  rw [← e]
  refine blkSet hM hib (b.grow q6 c6 (k + 1)) rfl ⟨hF.1, by rw [hn1]; exact hlt, hF.2.2.1, hF.2.2.2.1, fun x hx => ?_⟩ hg.os hg.tape hg.output (by rw [hszF]; omega) (fun j h0 h1 h2 => ?_) ?_ ?_ (fun g hgg => ?_)
  · rcases List.mem_append.1 hx with hx | hx
    · exact ⟨(hF.2.2.2.2 x hx).1, fun e => by rw [gone_set hi]; exact (hF.2.2.2.2 x hx).2 e⟩
    · have := List.eq_of_mem_replicate hx
      subst this
      exact ⟨⟨hF.2.2.2.1, hall⟩, fun e => by cases e⟩
  · have h2 : (Value.slice p n c).ownBlock ≠ some j := by
      have h2 : (Value.slice p (b.grow p c k).cs.length c).ownBlock ≠ some j := h2
      rwa [hn] at h2
    have h1 : j ≠ b.pb := h1
    exact ((Below.heap_setCell w6 ⟨b.pb, 6, none⟩ _ j h1).trans (hg.block j (by simp; omega) (fun e => h2 e.symm))).trans (Below.heap_alloc wr A j h0)
  · have hx := hX.set 6 (.slice q6 (n + 1) c6)
    have e : bkC (b.grow q6 c6 (k + 1)) = (bkC (b.grow p c k)).set 6 (.slice q6 (n + 1) c6) := by
      unfold bkC
      rw [hn1]
      rfl
    rw [e]; exact hx
  · unfold Bk.sl
    rw [hn1, grow_snoc b p q6 c c6 k, cl_snoc]
    refine ownsRow_ne ho ?_ _
    intro e
    rcases hmv with h | h
    · rw [h] at e
      have h3 := t4 _ e
      simp only at h3
      omega
    · rw [h] at e
      injection e with e
      have : b.pb < wr.heap.size := t2.1
      simp at e
      omega
  · have hgg : (Value.slice q6 (b.grow q6 c6 (k + 1)).cs.length c6).ownBlock = some g := hgg
    rw [hn1] at hgg
    rcases hmv with h | h
    · left
      rw [h] at hgg
      show (Value.slice p (b.grow p c k).cs.length c).ownBlock = some g
      rw [hn]; exact hgg
    · right
      rw [h] at hgg
      injection hgg with hgg
      simp at hgg
      omega
theorem wpList_copy_at {P : Program} {w : World} {ops : Array Oper} {rest : List Oper} {o : Oper} {a : Act} {Q : Exit → Act → World → Prop} (hgd : o.guard = none) (d s : Operand) (dT sT : TypeId)
    (ho : o.op = .call { callee := .builtin .copy, args := #[d, s], argTypes := #[dT, sT] }) (elem : TypeId) (m : Nat) (hu : P.underlying dT = some (.slice elem)) (hsz : (P.info? elem).map (·.size) = some m)
    (B g N cap p dLen dCap : Nat) (ad : Addr) (n sCap : Nat) (hd : a.eval d = .slice (some ⟨g, p * m, none⟩) dLen dCap) (hs : a.eval s = .slice (some ad) n sCap)
    (zs : List Value) (hown : w.ownsRow B elem m (.slice (some ⟨g, 0, none⟩) N cap) N zs) (cs : List Value) (hn : cs.length = n * m) (hdl : n ≤ dLen) (hp : p + n ≤ N)
    (hsrc : ∀ j v, cs[j]? = some v → w.cell? (ad.add j) = some v) (h1 : ∀ v ∈ cs, v.oneCell' = true)
    (h : ∀ w', w'.ownsRow B elem m (.slice (some ⟨g, 0, none⟩) N cap) N (put zs (p * m) cs) → w.grownBy w' (some g) → wpList P ops Q rest (a.put o.dst (goInt n)) w') : wpList P ops Q (o :: rest) a w := by
  refine wpList_plain hgd fun K hK => ?_
  obtain ⟨w', hrun, r1, r2⟩ := run_copy_at dT sT o.type elem m hu hsz B g N cap p dLen dCap ad n sCap zs hown cs hn hdl hp hsrc h1
  unfold Oper.wp
  simp [execOp, ho, resolve, invoke, builtin, hd, hs, hrun, Result.andThen]
  exact hK _ _ (h w' r1 r2)
/-- Behind the copy. -/
theorem lay_step {o' : Nat → Nat} {mb ab : Nat} {st : Ms} {i : Nat} {b : Bk} {g c k at' : Nat} {ys : List Cl} {wr w7 : World} (hi : st[i]? = some (some b)) (hM : MemIs o' mb ab (st.set i (some (b.grow (some ⟨g, 0, none⟩) c k))) wr)
    (hF : b.size ≤ 4096 ∧ b.cs.length ≤ b.size ∧ b.all.k ≠ 2 ∧ b.all.ok ∧ ∀ x ∈ b.cs, (x.y.ok ∧ wf64 x.y.bk) ∧ (x.late = true → x.y.k = 2 ∧ gone st x.y.bk = true)) (hall : wf64 b.all.bk) (hk : k = at' + ys.length - b.cs.length) (hle : at' + ys.length ≤ (b.grow (some ⟨g, 0, none⟩) c k).cs.length)
    (hyf : ∀ x ∈ ys, (x.y.ok ∧ wf64 x.y.bk) ∧ (x.late = true → x.y.k = 2 ∧ gone st x.y.bk = true))
    (ho : w7.ownsRow 0 102 6 (.slice (some ⟨g, 0, none⟩) (b.grow (some ⟨g, 0, none⟩) c k).cs.length c) (b.grow (some ⟨g, 0, none⟩) c k).cs.length ((put (b.grow (some ⟨g, 0, none⟩) c k).cs at' ys).flatMap celC)) (hg : wr.grownBy w7 (some g)) :
    Goes o' mb ab (st.set i (some (b.lay (some ⟨g, 0, none⟩) c at' ys))) wr w7 := by
  have hib := set_get hi (b.grow (some ⟨g, 0, none⟩) c k)
  obtain ⟨t1, t2, t3, t4⟩ := hM.blk i _ hib
  obtain ⟨f1, f2, f3, f4, f5⟩ := hM.fit i _ hib
  have t1 : o' b.pb = 2 * i + 3 := t1
  have t4 := t4 g rfl
  have ecs : (b.lay (some ⟨g, 0, none⟩) c at' ys).cs = put (b.grow (some ⟨g, 0, none⟩) c k).cs at' ys := by unfold Bk.lay Bk.grow; rw [hk]
  have el : (b.lay (some ⟨g, 0, none⟩) c at' ys).cs.length = (b.grow (some ⟨g, 0, none⟩) c k).cs.length := by rw [ecs, put_len _ _ _ hle]
  have e : (st.set i (some (b.grow (some ⟨g, 0, none⟩) c k))).set i (some (b.lay (some ⟨g, 0, none⟩) c at' ys)) = st.set i (some (b.lay (some ⟨g, 0, none⟩) c at' ys)) := List.set_set ..
  rw [← e]
  refine blkSet hM hib (b.lay (some ⟨g, 0, none⟩) c at' ys) rfl ⟨f1, by rw [el]; exact f2, f3, f4, fun x hx => ?_⟩ hg.os hg.tape hg.output hg.size (fun j h0 h1 h2 => hg.block j h0 (fun e => h2 e.symm)) ?_ ?_ (fun g' hgg => .inl hgg)
  · rw [ecs] at hx
    unfold put at hx
    rcases List.mem_append.1 hx with hx | hx
    · rcases List.mem_append.1 hx with hx | hx
      · exact f5 x (List.mem_of_mem_take hx)
      · exact ⟨(hyf x hx).1, fun e => by rw [gone_set hi]; exact (hyf x hx).2 e⟩
    · exact f5 x (List.mem_of_mem_drop hx)
  · have hx : Box b.pb (bkC (b.grow (some ⟨g, 0, none⟩) c k)) w7 := (show Box b.pb _ wr from t2).kept hg (fun e => by injection e with e; rw [e] at t1; omega)
    have e : bkC (b.lay (some ⟨g, 0, none⟩) c at' ys) = bkC (b.grow (some ⟨g, 0, none⟩) c k) := by
      unfold bkC
      rw [el]
      rfl
    rw [e]; exact hx
  · unfold Bk.sl
    rw [el, ecs]
    exact ho
set_option maxHeartbeats 2000000 in
theorem lay_any (o : Nat → Nat) (mb ab : Nat) (st : Ms) (W : World) (i : Nat) (b : Bk) (hi : st[i]? = some (some b)) (at' : Nat) (q : Addr) (cq : Nat) (ys : List Cl) (hat : at' + ys.length ≤ b.size) (hpos : 0 < ys.length)
    (hys : ListIn celC NoMem W.heap.size W (some q) ys.length cq ys) (hq : o q.block = 0) (hyf : ∀ x ∈ ys, (x.y.ok ∧ wf64 x.y.bk) ∧ (x.late = true → x.y.k = 2 ∧ gone st x.y.bk = true)) (hall : wf64 b.all.bk) (h : MemIs o mb ab st W) :
    Calls Try.prog 60 #[.pointer (some ⟨b.pb, 0, none⟩), .int .i64 at', .slice (some q) ys.length cq] W fun e w' => e = .returned (.tuple #[]) ∧ ∃ p c, Goes o mb ab (st.set i (some (b.lay p c at' ys))) W w' := by
  obtain ⟨iV, hiV, hz0, hz1, hz2⟩ := info_parts infoCl
  have HI := Lib.hid (And.intro hiV (And.intro hz0 (And.intro hz1 hz2)))
  clear hiV hz0 hz1 hz2
  have hF := h.fit i b hi
  have h4 := hF.1
  have hb := bCl1
  have hcq := hys.2.1
  have hmx := hys.2.2.1
  unfold maxLen at hmx
  have HF := Lib.hid hF
  have HYS := Lib.hid hys
  have HYF := Lib.hid hyf
  have HAL := Lib.hid hall
  have HI2 := Lib.hid hi
  have hqb : q.block < W.heap.size := by
    obtain ⟨a, e, ha, _⟩ := hys.2.2.2.1 (0 * 6 + 0) _ ((flat_get celC 6 celC_len ys 0 hpos 0 (by decide)).trans rfl)
    cases e; exact ha
  have HQB := Lib.hid (And.intro hqb hq)
  have hcs := hF.2.1
  have G0 : MemIs o mb ab (st.set i (some (b.grow b.cp b.cc 0))) W := by
    have e : st.set i (some (b.grow b.cp b.cc 0)) = st := by
      have hl := (List.getElem?_eq_some_iff.1 hi).1
      have e2 : b.grow b.cp b.cc 0 = b := by unfold Bk.grow; simp
      rw [e2]
      have := (List.getElem?_eq_some_iff.1 hi).2
      conv => lhs; rw [← this]
      exact List.set_getElem_self _
    rw [e]; exact h
  have HG0 := Lib.hid G0
  clear h hF hi hys hyf hq hqb hall G0
  go_enter Try.func60, Try.ntmps60
  go_wp2_with fail
  go_loopw [] (fun wr => ∃ (o' : Nat → Nat) (p : Option Addr) (c k : Nat), MemIs o' mb ab (st.set i (some (b.grow p c k))) wr ∧ Only o W wr ∧ Ext o o' W ∧ k ≤ at' + ys.length - b.cs.length) (fun wr => at' + ys.length - lenAt wr b.pb)
  case atStart => exact ⟨o, b.cp, b.cc, 0, HG0.out, Only.refl _ _, Ext.refl _ _, Nat.zero_le _⟩
  case round =>
    obtain ⟨o', p, c, k, hM, hO, hE, hk⟩ := hrel
    have hib := set_get HI2.out (b.grow p c k)
    obtain ⟨t1, t2, t3, t4⟩ := hM.blk i _ hib
    have t2 : Box b.pb (bkC (b.grow p c k)) wr := t2
    have t1 : o' b.pb = 2 * i + 3 := t1
    have hlen : (b.grow p c k).cs.length = b.cs.length + k := by unfold Bk.grow; simp
    have t3 : wr.ownsRow 0 102 6 (.slice p (b.grow p c k).cs.length c) (b.grow p c k).cs.length ((b.grow p c k).cs.flatMap celC) := t3
    have hcap := cel_cap t3
    have t4 : ∀ g, (Value.slice p (b.grow p c k).cs.length c).ownBlock = some g → o' g = 2 * i + 4 := t4
    have s0 := t2.get 0 (.int .i64 b.size) rfl
    have s1 := t2.get 1 (.int .i64 b.all.k) rfl
    have s2 := t2.get 2 (.int .u8 b.all.b) rfl
    have s3 := t2.get 3 (.int .i64 b.all.bk) rfl
    have s4 := t2.get 4 (.int .i64 b.all.o) rfl
    have s5 := t2.get 5 (.int .i64 b.all.i) rfl
    have s6 := t2.get 6 (.slice p (b.grow p c k).cs.length c) rfl
    obtain ⟨n, en⟩ : ∃ n, (b.grow p c k).cs.length = n := ⟨_, rfl⟩
    rw [en] at s6 t3 t4 hcap hlen
    have sf := t2.2.1
    have plt := t2.1
    have HLA := Lib.hid (lenAt_is s6)
    unfold maxLen at hcap
    obtain ⟨hc1, hc2⟩ := hcap
    have HM := Lib.hid hM
    have HO := Lib.hid hO
    have HE := Lib.hid hE
    have HX := Lib.hid t2
    have HR := Lib.hid t3
    have HT := Lib.hid (And.intro t1 t4)
    have HEN := Lib.hid en
    have HLEN := Lib.hid hlen
    clear hM hO hE hib t1 t2 t3 t4 en hlen
    by_cases hlt : n < at' + ys.length
    · have hlt2 : (n : Int) < (at' : Int) + (ys.length : Int) := by omega
      obtain ⟨ak, eak⟩ : ∃ z, b.all.k = z := ⟨_, rfl⟩
      obtain ⟨an, ean⟩ : ∃ z, b.all.b = z := ⟨_, rfl⟩
      obtain ⟨abk, eabk⟩ : ∃ z, b.all.bk = z := ⟨_, rfl⟩
      obtain ⟨ao, eao⟩ : ∃ z, b.all.o = z := ⟨_, rfl⟩
      obtain ⟨ai, eai⟩ : ∃ z, b.all.i = z := ⟨_, rfl⟩
      rw [eak] at s1
      rw [ean] at s2
      rw [eabk] at s3
      rw [eao] at s4
      rw [eai] at s5
      have HA : Hid (padC b = ⟨⟨ak, an, abk, ao, ai⟩, false⟩) := Lib.hid (by unfold padC; rw [← eak, ← ean, ← eabk, ← eao, ← eai])
      have X1 := HX.out.alloc (.cells #[.int .i64 ak, .int .u8 an, .int .i64 abk, .int .i64 ao, .int .i64 ai, .bool false] 102)
      have a6 : (wr.alloc (.cells #[.int .i64 ak, .int .u8 an, .int .i64 abk, .int .i64 ao, .int .i64 ai, .bool false] 102)).cell? ⟨b.pb, 6, none⟩ = some (.slice p n c) := (X1.get 6 _ rfl).trans (by rw [HEN.out]; rfl)
      have HX1 := Lib.hid (box_drew X1)
      have h63 : Hid (n + 1 ≤ maxLen) := Lib.hid (by unfold maxLen; omega)
      have hb1 : Hid ((n + 1) * 48 ≤ 140737488355328) := Lib.hid (by omega)
      have HR1 := Lib.hid (row_drew (HR.out.alloc (.cells #[.int .i64 ak, .int .u8 an, .int .i64 abk, .int .i64 ao, .int .i64 ai, .bool false] 102)))
      clear eak ean eabk eao eai X1
      go_wp2_with fail
      go_region_law (refine step_append_at rfl (.tmp 20) (.tmp 26) 95 rfl 0 102 iV _ 6 48 Try.underlying95 HI.out.1 HI.out.2.1 HI.out.2.2.1 HI.out.2.2.2 rfl (by decide) (.slice p n c) n _ rfl HR1.out (some ⟨wr.heap.size, 0, none⟩) 1 1 (celC ⟨⟨ak, an, abk, ao, ai⟩, false⟩) rfl rfl (lit_at' _ rfl _ _) (celC_one _) h63.out hb1.out (Nat.zero_le _) ?_
                     intro v6 w6 hown6 hgrow6 hmv6
                     obtain ⟨q6, c6, rfl⟩ := row_slice hown6
                     have X6 := HX1.out.kept hgrow6 (fun e => by have h1 := HT.out.2 _ e.symm; have h2 := HT.out.1; omega)
                     have k0 := X6.get 6 _ rfl
                     have kf := X6.2.1
                     have H6 := Lib.hid (And.intro hown6 (And.intro hgrow6 (And.intro hmv6 X6)))
                     clear hown6 hgrow6 hmv6 X6)
      all_goals
        go_wp2_with fail
        have hgo := grow_step (.cells #[.int .i64 ak, .int .u8 an, .int .i64 abk, .int .i64 ao, .int .i64 ai, .bool false] 102) HI2.out HM.out HEN.out HF.out HAL.out (by omega) (by rw [HA.out]; exact H6.out.1) H6.out.2.1 H6.out.2.2.1 H6.out.2.2.2
        obtain ⟨o2, hM2, hO2, hE2⟩ := hgo
        have hX2 := (H6.out.2.2.2.set 6 (.slice q6 (n + 1) c6)).get 6 _ rfl
        refine ⟨⟨o2, q6, c6, k + 1, hM2, HO.out.trans HE.out hO2, HE.out.trans HO.out.size hE2, by have := HLEN.out; omega⟩, ?_⟩
        rw [lenAt_is hX2, HLA.out]
        omega
    · have hge : ¬ (n : Int) < (at' : Int) + (ys.length : Int) := by omega
      have hkk : k = at' + ys.length - b.cs.length := by have := HLEN.out; omega
      have HKK := Lib.hid hkk
      obtain ⟨g, rfl⟩ : ∃ g, p = some ⟨g, 0, none⟩ := by
        rcases HR.out.2 with ⟨e, h0⟩ | ⟨g, cap, cur, e, _⟩
        · omega
        · injection e with e1 e2 e3; exact ⟨g, e1⟩
      have HSRC : Hid (∀ j v, (ys.flatMap celC)[j]? = some v → wr.cell? (q.add j) = some v) := Lib.hid (fun j v hv => by
        obtain ⟨a, e, ha, hc⟩ := HYS.out.2.2.2.1 j v hv
        cases e
        refine (World.cell?_of_block (w := W) ?_).trans hc
        rw [add_block]
        exact HO.out.block _ HQB.out.1 HQB.out.2)
      have hyl : Hid ((ys.flatMap celC).length = ys.length * 6) := Lib.hid (flat_len celC 6 celC_len ys)
      have hlea : at' ≤ n := by omega
      clear hkk
      go_wp2_with (first
        | (refine wpList_copy_at rfl (.tmp 35) (.tmp 36) 95 95 rfl 102 6 Try.underlying95 infoCl2 0 g n c at' (n - at') (c - at') q ys.length cq (by simp [go_sem]) (by simp [go_sem]) _ HR.out (ys.flatMap celC) hyl.out (by omega) (by omega) HSRC.out (flat_one celC_one ys) ?_; intro w7 hown7 hgrow7))
      go_end0
      have hp : at' + ys.length ≤ (b.grow (some ⟨g, 0, none⟩) c k).cs.length := by rw [HEN.out]; omega
      rw [← put_flat celC 6 celC_len _ at' ys hp] at hown7
      have hgo := lay_step HI2.out HM.out HF.out HAL.out HKK.out hp HYF.out (by rw [HEN.out]; exact hown7) hgrow7
      obtain ⟨o2, hM2, hO2, hE2⟩ := hgo
      exact ⟨rfl, _, _, o2, hM2, HO.out.trans HE.out hO2, HE.out.trans HO.out.size hE2⟩
end Go.Proofs.Ytkbkgbkoplcgeaa
