/- Package uses: searchOf. -/
import Derived.Test.YtdfdgpobohpphaaUsD
namespace Go.Proofs.Ytdfdgpobohpphaa
open Go.RowKit Go.Maps
set_option linter.unusedVariables false
set_option linter.unusedSimpArgs false
set_option maxRecDepth 100000
set_option maxHeartbeats 2000000

/-- What of an instruction counts. -/
def nfP (x : PIns) : Nf := ⟨idleB x.op, resV x.op x.ty != 0, x.reg, fun r => x.args.any (isU r)⟩
def nfs (f : PFn) : List (List Nf) := f.bs.map (·.map nfP)
/-- The places that may come to be needed. -/
def rowQ (c : List Nf) (b i : Nat) : List (Int × Nat × Nat) := (List.range i).filterMap fun j => match c[j]? with | some x => if x.idle && x.res then some (x.reg, b, j) else none | none => none
def iniQ (cs : List (List Nf)) (b : Nat) : List (Int × Nat × Nat) := (List.range b).flatMap fun b' => rowQ (cs.getD b' []) b' (cs.getD b' []).length
def iniT (cs : List (List Nf)) (b : Nat) : List (List Bool) := (cs.take b).map fun c => List.replicate c.length false
theorem rowQ_zero (c : List Nf) (b : Nat) : rowQ c b 0 = [] := rfl
theorem rowQ_succ (c : List Nf) (b i : Nat) (h : i < c.length) : rowQ c b (i + 1) = rowQ c b i ++ if c[i].idle && c[i].res then [(c[i].reg, b, i)] else [] := by
  unfold rowQ
  rw [List.range_succ, List.filterMap_append]
  congr 1
  simp only [List.filterMap_cons, List.filterMap_nil, List.getElem?_eq_getElem h]
  split <;> simp_all
theorem iniQ_succ (cs : List (List Nf)) (b : Nat) (h : b < cs.length) : iniQ cs (b + 1) = iniQ cs b ++ rowQ cs[b] b cs[b].length := by
  unfold iniQ
  rw [List.range_succ, List.flatMap_append]
  simp [List.getD_eq_getElem?_getD, h]
theorem iniT_succ (cs : List (List Nf)) (b : Nat) (h : b < cs.length) : iniT cs (b + 1) = iniT cs b ++ [List.replicate cs[b].length false] := by
  unfold iniT
  rw [List.take_succ_eq_append_getElem h, List.map_append]; rfl
theorem rowQ_len (c : List Nf) (b : Nat) : ∀ i, (rowQ c b i).length ≤ i
  | 0 => Nat.le_refl _
  | i + 1 => by
    unfold rowQ
    exact Nat.le_trans (List.length_filterMap_le _ _) (by simp)
theorem iniQ_len (cs : List (List Nf)) : ∀ b, b ≤ cs.length → (iniQ cs b).length ≤ base cs b
  | 0, _ => Nat.zero_le _
  | b + 1, h => by
    rw [iniQ_succ cs b h, List.length_append, base_succ cs b h]
    have h1 := iniQ_len cs b (by omega)
    have h2 := rowQ_len cs[b] b cs[b].length
    omega

section
variable {B : Nat} {W w : World} {Z : As}
/-- A row of falses has been made. -/
theorem St.newRow (h : St B W Z w) (n : Nat) : St B W (As.and (bA w.heap.size (List.replicate n false)) Z) (w.alloc (.cells (madeCells #[.bool false] n) 4)) := by
  have h0 : St B W (As.and As.emp Z) w := h.imp ⟨fun w x => ⟨trivial, x⟩, fun k => by rw [As.and_c, As.emp_c]; omega⟩
  refine h0.change rfl rfl rfl (by simp) (fun k hk _ => heap_alloc_old w _ hk) ?_ (fun k => ?_)
  · rw [bA_at]
    unfold BoolRow
    rw [List.length_replicate]
    exact (World.rowIs_made w (.bool false) n 4).congr fun i hi => by simp [List.getD_eq_getElem?_getD, hi]
  · rw [bA_c]
    by_cases e : w.heap.size = k
    · exact .inr ⟨by omega, if01 _⟩
    · exact .inl (by rw [if_neg e]; exact Nat.zero_le _)
end
theorem St.start (W : World) : St W.heap.size W As.emp W := ⟨Below.refl _ _, Nat.le_refl _, trivial, fun _ => Nat.zero_le _, fun _ h => absurd rfl h⟩
/-- The search while it is being made. -/
def SE (B : Nat) (W : World) (g : Nat) (t : List (List Bool)) (Q : List (Int × Nat × Nat)) (Z : As) (w : World) : Prop := ∃ k : Sk, k.is ⟨t, Q, []⟩ ∧ k.N ≤ Q.length ∧ St B W (As.and (k.as B g) Z) w
section
variable {B : Nat} {W w w' : World} {Z X : As} {g : Nat} {t : List (List Bool)} {Q : List (Int × Nat × Nat)}
theorem SE.later (h : SE B W g t Q Z w) (hb : Below w.heap.size w w') : SE B W g t Q Z w' := by
  obtain ⟨k, h1, h0, h2⟩ := h
  exact ⟨k, h1, h0, h2.later hb⟩
theorem SE.below (h : SE B W g t Q Z w) : Below B W w := by
  obtain ⟨k, h1, h0, h2⟩ := h
  exact h2.below
theorem SE.push (h : SE B W g t Q Z w) (cs : List Value) (ty : TypeId) : SE B W g t Q (As.and (bx w.heap.size cs) Z) (w.alloc (.cells cs.toArray ty)) := by
  obtain ⟨k, h1, h0, h2⟩ := h
  exact ⟨k, h1, h0, (h2.push rfl cs ty).imp ⟨fun w x => ⟨x.2.1, x.1, x.2.2⟩, fun k => by simp only [As.and_c]; omega⟩⟩
theorem SE.box {b : Nat} {cs : List Value} (h : SE B W g t Q (As.and (bx b cs) Z) w) : Box b cs w := by
  obtain ⟨k, h1, h0, h2⟩ := h
  exact h2.sat.2.1
theorem SE.drop (h : SE B W g t Q (As.and X Z) w) : SE B W g t Q Z w := by
  obtain ⟨k, h1, h0, h2⟩ := h
  exact ⟨k, h1, h0, h2.imp ⟨fun w x => ⟨x.1, x.2.2⟩, fun k => by simp only [As.and_c]; omega⟩⟩
theorem SE.zimp {Y : As} (h : SE B W g t Q Z w) (hY : Z.le Y) : SE B W g t Q Y w := by
  obtain ⟨k, h1, h0, h2⟩ := h
  exact ⟨k, h1, h0, h2.imp (As.le.and (As.le.refl _) hY)⟩
/-- A row of falses behind the others. -/
theorem row_end {k : Sk} {n R : Nat} {p' : Option Addr} {c' : Nat} (hk : k.is ⟨t, Q, []⟩) (hN : k.N ≤ Q.length)
    (h : St B W (As.and (rw' B 36 1 cB p' (k.L.length + 1) c' (k.L ++ [(R, List.replicate n false)])) (As.and (bA R (List.replicate n false)) (As.and (bx g [.slice k.np k.L.length k.nc, .map (some k.ab), .slice k.tp k.T.length k.tc]) (As.and (bAs k.L) (As.and (grA k.ab k.N k.o k.S k.P) (As.and (rw' B 51 3 pC k.tp k.T.length k.tc k.T) Z)))))) w) :
    SE B W g (t ++ [List.replicate n false]) Q Z (w.setCell ⟨g, 0, none⟩ (.slice p' (k.L.length + 1) c')) := by
  obtain ⟨np, nc, L, ab, N, o, S, P, tp, tc, T⟩ := k
  have h2 := (h.imp (Y := As.and (bx g [.slice np L.length nc, .map (some ab), .slice tp T.length tc]) (As.and (rw' B 36 1 cB p' (L.length + 1) c' (L ++ [(R, List.replicate n false)])) (As.and (bA R (List.replicate n false)) (As.and (bAs L) (As.and (grA ab N o S P) (As.and (rw' B 51 3 pC tp T.length tc T) Z))))))
    ⟨fun w x => ⟨x.2.2.1, x.1, x.2.1, x.2.2.2.1, x.2.2.2.2.1, x.2.2.2.2.2.1, x.2.2.2.2.2.2⟩, fun k => by simp only [As.and_c]; omega⟩).set 0 (.slice p' (L.length + 1) c')
  have hl : (L ++ [(R, List.replicate n false)]).length = L.length + 1 := by simp
  refine ⟨⟨p', c', L ++ [(R, List.replicate n false)], ab, N, o, S, P, tp, tc, T⟩, ⟨?_, hk.2.1, hk.2.2.1, hk.2.2.2⟩, hN, ?_⟩
  · show tbl (L ++ [(R, List.replicate n false)]) = t ++ [List.replicate n false]
    have : tbl L = t := hk.1
    rw [← this]; unfold tbl; simp
  · show St B W (As.and (As.and (bx g [.slice p' (L ++ [(R, List.replicate n false)]).length c', .map (some ab), .slice tp T.length tc]) (As.and (rw' B 36 1 cB p' (L ++ [(R, List.replicate n false)]).length c' (L ++ [(R, List.replicate n false)])) (As.and (bAs (L ++ [(R, List.replicate n false)])) (As.and (grA ab N o S P) (rw' B 51 3 pC tp T.length tc T))))) Z) _
    rw [hl]
    refine h2.imp ⟨fun w x => ⟨⟨x.1, x.2.1, (As.all_at_app _ w _ _).2 ⟨x.2.2.2.1, x.2.2.1, trivial⟩, x.2.2.2.2.1, x.2.2.2.2.2.1⟩, x.2.2.2.2.2.2⟩, fun j => ?_⟩
    simp only [As.and_c, bAs, As.all_c_app, As.all_cons, As.all_nil, As.emp_c, bx_c]
    omega
/-- What stands at a search's box. -/
theorem SE.opens (h : SE B W g t Q Z w) : ∃ k : Sk, k.is ⟨t, Q, []⟩ ∧ k.N ≤ Q.length ∧ St B W (As.and (k.as B g) Z) w ∧ Box g [.slice k.np k.L.length k.nc, .map (some k.ab), .slice k.tp k.T.length k.tc] w ∧ k.L.length = t.length ∧ k.T = [] := by
  obtain ⟨k, h1, h0, h2⟩ := h
  refine ⟨k, h1, h0, h2, h2.sat.1.1, ?_, h1.2.2.1⟩
  have := congrArg List.length h1.1
  unfold tbl at this
  simpa using this
end
/-- One more place under its register. -/
theorem SE.put {B : Nat} {W w w' : World} {Z : As} {g : Nat} {t : List (List Bool)} {Q : List (Int × Nat × Nat)} {k : Sk} (hk : k.is ⟨t, Q, []⟩) (hN : k.N ≤ Q.length) (hQ : Q.length < 1048575) (h : St B W (As.and (k.as B g) Z) w) {r : Int} (hr : wfI r) (x : Pl) {v' : Value}
    (hrow : w'.ownsRow 0 51 3 v' ((PQ Q r).length + 1) ((PQ Q r).flatMap pC ++ pC x)) (hg : w.grownBy w' (slV (k.S r)).ownBlock) (hm : Moved w (slV (k.S r)) v') :
    ∃ w2, (Instr.mapUpdate 56 (.map (some k.ab)) (.int .i64 r) v').run Try.prog w' = .ok () w2 ∧ w'.grownBy w2 (some k.ab) ∧ SE B W g t (Q ++ [(r, x)]) Z w2 := by
  obtain ⟨np, nc, L, ab, N, o, S, P, tp, tc, T⟩ := k
  have hP : P = PQ Q := hk.2.1
  have hN : N ≤ Q.length := hN
  simp only [Sk.as, Sk.bx] at h
  obtain ⟨w2, hrun, hg2, o', S', h3⟩ := (h.imp (Y := As.and (grA ab N o S P) (As.and (bx g [.slice np L.length nc, .map (some ab), .slice tp T.length tc]) (As.and (rw' B 36 1 cB np L.length nc L) (As.and (bAs L) (As.and (rw' B 51 3 pC tp T.length tc T) Z)))))
    ⟨fun w x => ⟨x.1.2.2.2.1, x.1.1, x.1.2.1, x.1.2.2.1, x.1.2.2.2.2, x.2⟩, fun k => by simp only [As.and_c]; omega⟩).groupPut (w' := w') (by omega) hr x (by rw [hP]; exact hrow) hg hm
  refine ⟨w2, hrun, hg2, ⟨np, nc, L, ab, N + 1, o', S', upP P r (P r ++ [x]), tp, tc, T⟩, ⟨hk.1, ?_, hk.2.2.1, by show N + 1 ≤ 1048575; omega⟩, by show N + 1 ≤ _; rw [List.length_append]; simp; omega, h3.imp ⟨fun w x => ⟨⟨x.2.1, x.2.2.1, x.2.2.2.1, x.1, x.2.2.2.2.1⟩, x.2.2.2.2.2⟩, fun k => by simp only [As.and_c, Sk.as, Sk.bx]; omega⟩⟩
  show upP P r (P r ++ [x]) = PQ (Q ++ [(r, x)])
  funext j
  unfold upP
  rw [PQ_snoc, hP]
  by_cases e : j = r
  · rw [if_pos e, if_pos e, e]
  · rw [if_neg e, if_neg e]
theorem Sk.look {B : Nat} {W w : World} {Z : As} {g : Nat} {k : Sk} (h : St B W (As.and (k.as B g) Z) w) {r : Int} (hr : wfI r) {p : Option Addr} {l c : Nat} (e : slV (k.S r) = .slice p l c) :
    (Instr.lookup 56 (.map (some k.ab)) (.int .i64 r) false).run Try.prog w = .ok (.slice p l c) w := by
  have hG : Grp k.ab k.N k.o k.S k.P w := h.sat.1.2.2.2.1
  rw [hG.map.look hr, e]
theorem Sk.slv {B : Nat} {W w : World} {Z : As} {g : Nat} {k : Sk} {s : Ps} (hk : k.is s) (h : St B W (As.and (k.as B g) Z) w) (r : Int) : ∃ p c, slV (k.S r) = .slice p (PQ s.Q r).length c := by
  have hG : Grp k.ab k.N k.o k.S k.P w := h.sat.1.2.2.2.1
  obtain ⟨p, c, e, _, _⟩ := hG.row r
  have hP : k.P = PQ s.Q := hk.2.1
  rw [hP] at e
  exact ⟨p, c, e⟩
theorem Sk.own {B : Nat} {W w : World} {Z : As} {g : Nat} {k : Sk} {s : Ps} (hk : k.is s) (h : St B W (As.and (k.as B g) Z) w) {r : Int} {p : Option Addr} {l c : Nat} (e : slV (k.S r) = .slice p l c) : w.ownsRow 0 51 3 (.slice p l c) l ((PQ s.Q r).flatMap pC) := by
  have hG : Grp k.ab k.N k.o k.S k.P w := h.sat.1.2.2.2.1
  obtain ⟨p', c', e', h2, _⟩ := hG.row r
  rw [e] at e'
  injection e' with e1 e2 e3
  subst e1 e2 e3
  have hP : k.P = PQ s.Q := hk.2.1
  rw [hP] at h2 ⊢
  exact h2
theorem sk_apart {B : Nat} {W w w' : World} {Z : As} {g gi : Nat} {cs : List Value} {k : Sk} (h : St B W (As.and (k.as B g) (As.and (bx gi cs) Z)) w) (r : Int) (hg : w.grownBy w' (slV (k.S r)).ownBlock) :
    (∀ i, w'.cell? ⟨g, i, none⟩ = w.cell? ⟨g, i, none⟩) ∧ (∀ i, w'.cell? ⟨gi, i, none⟩ = w.cell? ⟨gi, i, none⟩) ∧ ∀ w2, w'.grownBy w2 (some k.ab) → (∀ i, w2.cell? ⟨g, i, none⟩ = w.cell? ⟨g, i, none⟩) ∧ (∀ i, w2.cell? ⟨gi, i, none⟩ = w.cell? ⟨gi, i, none⟩) := by
  have hG : Grp k.ab k.N k.o k.S k.P w := h.sat.1.2.2.2.1
  obtain ⟨p, c, e, _, ho⟩ := hG.row r
  have hx : ∀ j, (slV (k.S r)).ownBlock = some j → j ≠ g ∧ j ≠ gi := fun j hj => by
    have h1 := h.one j
    simp only [As.and_c, Sk.as, Sk.bx, bx_c, grA_c] at h1
    have h2 : (if j = k.ab ∨ (k.o j).isSome = true then 1 else 0) = 1 := if_pos (.inr (by rw [ho j hj]; rfl))
    rw [h2] at h1
    refine ⟨fun e => ?_, fun e => ?_⟩
    · rw [if_pos e.symm] at h1; omega
    · have h3 : (if gi = j then 1 else 0) = 1 := if_pos e.symm
      rw [h3] at h1; omega
  have hgl : g < w.heap.size := h.sat.1.1.1
  have hil : gi < w.heap.size := h.sat.2.1.1
  have h1 : ∀ i, w'.cell? ⟨g, i, none⟩ = w.cell? ⟨g, i, none⟩ := fun i => World.cell?_of_block (a := ⟨g, i, none⟩) (hg.block g hgl fun e => (hx g e.symm).1 rfl)
  have h2 : ∀ i, w'.cell? ⟨gi, i, none⟩ = w.cell? ⟨gi, i, none⟩ := fun i => World.cell?_of_block (a := ⟨gi, i, none⟩) (hg.block gi hil fun e => (hx gi e.symm).2 rfl)
  have hab : k.ab ≠ g ∧ k.ab ≠ gi := by
    have h1 := h.one k.ab
    simp only [As.and_c, Sk.as, Sk.bx, bx_c, grA_c] at h1
    simp only [true_or, ↓reduceIte] at h1
    refine ⟨fun e => ?_, fun e => ?_⟩
    · rw [if_pos e.symm] at h1; omega
    · have h3 : (if gi = k.ab then 1 else 0) = 1 := if_pos e.symm
      rw [h3] at h1; omega
  refine ⟨h1, h2, fun w2 hg2 => ⟨fun i => ?_, fun i => ?_⟩⟩
  · exact (World.cell?_of_block (a := ⟨g, i, none⟩) (hg2.block g (Nat.lt_of_lt_of_le hgl hg.size) fun e => hab.1 (by injection e with e; exact e.symm))).trans (h1 i)
  · exact (World.cell?_of_block (a := ⟨gi, i, none⟩) (hg2.block gi (Nat.lt_of_lt_of_le hil hg.size) fun e => hab.2 (by injection e with e; exact e.symm))).trans (h2 i)
theorem flat_map_len {α β : Type} (f : α → β) : ∀ l : List (List α), (l.map (·.map f)).flatten.length = l.flatten.length
  | [] => rfl
  | x :: l => by simp only [List.map_cons, List.flatten_cons, List.length_append, List.length_map, flat_map_len f l]
theorem codeZ_flat : ∀ l : List (List PIns), l.flatten.length ≤ blksZ l
  | [] => Nat.zero_le _
  | x :: l => by
    have h1 := codeZ_flat l
    have h2 := codeZ_len x
    unfold blksZ at h1 ⊢
    simp only [List.flatten_cons, List.length_append, List.map_cons, List.sum_cons]
    omega
theorem base_mono {α : Type} (cs : List (List α)) : ∀ {a b : Nat}, a ≤ b → base cs a ≤ base cs b := by
  intro a b h
  have e : cs.take b = cs.take a ++ (cs.take b).drop a := by
    have h1 : (cs.take b).take a = cs.take a := by rw [List.take_take, Nat.min_eq_left h]
    calc cs.take b = (cs.take b).take a ++ (cs.take b).drop a := (List.take_append_drop _ _).symm
      _ = _ := by rw [h1]
  unfold base
  rw [e, List.flatten_append, List.length_append]
  omega
theorem bl_lit (w : World) (o : Obj) (n : Nat) : ∀ j u, (cB (w.heap.size, List.replicate n false))[j]? = some u → (((w.alloc o).alloc (.cells #[.slice (some ⟨w.heap.size, 0, none⟩) n n] 36)).drew).cell? ((⟨w.heap.size + 1, 0, none⟩ : Addr).add j) = some u := fun j u h => by
  rw [World.cell?_drew]
  refine lit_cells2 w o _ _ j u ?_
  unfold cB at h
  simpa using h
theorem infoBool : (Try.prog.info? 4).map (fun i => (i.zero, i.size, i.bytes)) = some (some (.bool false), 1, 1) := by kernel_rfl
theorem nfs_len (f : PFn) : (nfs f).flatten.length ≤ blksZ f.bs := by unfold nfs; rw [flat_map_len]; exact codeZ_flat _
theorem searchOf_any (f : LFn) (W : World) (h : FnIn W.heap.size W f) (hwf : FnWf f) (hz : fnZ (fnD f) ≤ 1048576) :
    Calls Try.prog 17 #[.agg (fnC f).toArray] W fun e w' => ∃ k : Sk, e = .returned (.agg #[.slice k.np k.L.length k.nc, .map (some k.ab), .slice k.tp k.T.length k.tc]) ∧ k.is ⟨iniT (nfs (fnD f)) f.bs.length, iniQ (nfs (fnD f)) f.bs.length, []⟩ ∧
      ∃ g, St W.heap.size W (k.as W.heap.size g) w' := by
  obtain ⟨nm, pp, pn, pc, ps, rt, bp, bn, bc, bs⟩ := f
  obtain rfl : pn = ps.length := h.1.1
  obtain rfl : bn = bs.length := h.2.1
  have k2 : bs.length ≤ bc := h.2.2.1
  have k3 : bc ≤ maxLen := h.2.2.2.1
  unfold maxLen at k3
  have hzz : 1 + ps.length + blksZ (bs.map blkD) ≤ 1048576 := hz
  have H := Lib.hid (And.intro h (And.intro hwf hzz))
  clear h hwf hz hzz
  show Calls Try.prog 17 #[.agg #[.string nm, .slice pp ps.length pc, .int .i64 rt, .slice bp bs.length bc]] W fun e w' => ∃ k : Sk, e = .returned (.agg #[.slice k.np k.L.length k.nc, .map (some k.ab), .slice k.tp k.T.length k.tc]) ∧ k.is ⟨iniT (nfs ⟨nm, ps, rt, bs.map blkD⟩) bs.length, iniQ (nfs ⟨nm, ps, rt, bs.map blkD⟩) bs.length, []⟩ ∧
      ∃ g, St W.heap.size W (k.as W.heap.size g) w'
  have hcs : ∀ b (h : b < bs.length), (nfs ⟨nm, ps, rt, bs.map blkD⟩)[b]? = some ((blkD bs[b]).map nfP) := fun b h => by unfold nfs; simp [h]
  have hlen : (nfs ⟨nm, ps, rt, bs.map blkD⟩).length = bs.length := by unfold nfs; simp
  have hfl : (nfs ⟨nm, ps, rt, bs.map blkD⟩).flatten.length ≤ blksZ (bs.map blkD) := nfs_len _
  generalize nfs ⟨nm, ps, rt, bs.map blkD⟩ = cs at *
  have HC := Lib.hid (And.intro hcs (And.intro hlen hfl))
  clear hcs hlen hfl
  have hmm := @run_makeMap Try.prog
  go_enter Try.func17, Try.ntmps17
  go_wp2_with fail
  have hS0 : SE W.heap.size W (W.heap.size + 1 + 1 + 1) (iniT cs 0) (iniQ cs 0) (As.and (bx (W.heap.size + 1) [.slice none 0 0, .map none, .slice none 0 0]) (bx W.heap.size [.string nm, .slice pp ps.length pc, .int .i64 rt, .slice bp bs.length bc]))
      ((((W.alloc (.cells #[.string nm, .slice pp ps.length pc, .int .i64 rt, .slice bp bs.length bc] 25)).alloc (.cells #[.slice none 0 0, .map none, .slice none 0 0] 59)).alloc (.map #[] 0)).alloc (.cells #[.slice none 0 0, .map (some (W.heap.size + 1 + 1)), .slice none 0 0] 59)) := by
    have h1 := (((St.start W).push rfl [.string nm, .slice pp ps.length pc, .int .i64 rt, .slice bp bs.length bc] 25).push (g := W.heap.size + 1) (by simp) [.slice none 0 0, .map none, .slice none 0 0] 59)
    have h2 := (h1.newMap (g := W.heap.size + 1 + 1) (by simp)).push (g := W.heap.size + 1 + 1 + 1) (by simp) [.slice none 0 0, .map (some (W.heap.size + 1 + 1)), .slice none 0 0] 59
    refine ⟨⟨none, 0, [], W.heap.size + 1 + 1, 0, fun _ => none, fun _ => none, fun _ => [], none, 0, []⟩, ⟨rfl, rfl, rfl, Nat.zero_le _⟩, Nat.le_refl _, h2.imp ⟨fun w x => ⟨⟨x.1, rw_nil w, trivial, x.2.1, rw_nil w⟩, x.2.2.1, x.2.2.2.1⟩, fun k => ?_⟩⟩
    simp only [As.and_c, Sk.as, Sk.bx, rw_c, bAs, As.all_nil, As.emp_c, cR, List.length_nil]
    omega
  have HS0 := Lib.hid hS0
  clear hS0
  obtain ⟨W0, eW0⟩ : ∃ W0, W0 = ((((W.alloc (.cells #[.string nm, .slice pp ps.length pc, .int .i64 rt, .slice bp bs.length bc] 25)).alloc (.cells #[.slice none 0 0, .map none, .slice none 0 0] 59)).alloc (.map #[] 0)).alloc (.cells #[.slice none 0 0, .map (some (W.heap.size + 1 + 1)), .slice none 0 0] 59)) := ⟨_, rfl⟩
  have HS := HS0.out
  rw [← eW0] at HS
  rw [← eW0]
  have HS := Lib.hid HS
  clear eW0 HS0
  clear hmm
  generalize W.heap.size + 1 + 1 + 1 = g at *
  go_loopw [13] (fun t wr => ∃ b : Nat, b ≤ bs.length ∧ t = .int .i64 b ∧ SE W.heap.size W g (iniT cs b) (iniQ cs b) (As.and (bx (W.heap.size + 1) [.slice none 0 0, .map none, .slice none 0 0]) (bx W.heap.size [.string nm, .slice pp ps.length pc, .int .i64 rt, .slice bp bs.length bc])) wr) (fun t _ => bs.length - (intOf t).toNat)
  case atStart => exact ⟨0, Nat.zero_le _, rfl, HS.out⟩
  case round =>
    obtain ⟨b, hb, rfl, hS⟩ := hrel
    by_cases hlt : b < bs.length
    · have hbl := (H.out.1.2.lasts lasts_Blk hS.below (Nat.le_refl _))
      obtain ⟨a, rfl, hab, c0⟩ := blk_row hbl b hlt
      have hcode : BlkIn W.heap.size W bs[b] := H.out.1.2.2.2.2.2 bs[b] (List.getElem_mem hlt)
      have hwfb := H.out.2.1 bs[b] (List.getElem_mem hlt)
      have hcsb := HC.out.1 b hlt
      have hbz : 1 + codeZ (blkD bs[b]) ≤ blksZ (bs.map blkD) := blksZ_mem (List.mem_map_of_mem (List.getElem_mem hlt))
      have hcl : bs[b].code.length ≤ codeZ (blkD bs[b]) := by have := codeZ_len (blkD bs[b]); simpa [blkD] using this
      obtain ⟨c, ec⟩ : ∃ c, bs[b] = c := ⟨_, rfl⟩
      rw [ec] at c0 hcode hwfb hcsb hbz hcl
      clear ec
      obtain ⟨q, cn, cc, code⟩ := c
      obtain rfl : cn = code.length := hcode.1
      have kc1 : code.length ≤ cc := hcode.2.1
      have kc2 : cc ≤ maxLen := hcode.2.2.1
      unfold maxLen at kc2
      simp only at c0 hwfb hcl
      have hcl2 : code.length ≤ 1048576 := by have := H.out.2.2; omega
      have hbk := hS.push [.slice q code.length cc] 43
      have hbl2 : b < cs.length := by rw [HC.out.2.1]; exact hlt
      have hcb : cs[b] = (blkD ⟨q, code.length, cc, code⟩).map nfP := by rw [List.getElem?_eq_getElem hbl2] at hcsb; injection hcsb
      have hcbl : cs[b].length = code.length := by rw [hcb]; simp [blkD]
      have hT1 := iniT_succ cs b hbl2
      have hQ1 := iniQ_succ cs b hbl2
      have hQl := iniQ_len cs b (by omega)
      have hbs1 := base_succ cs b hbl2
      have hbe : base cs (b + 1) ≤ cs.flatten.length := by
        rw [← base_end cs]; exact base_mono cs (by omega)
      have HB := Lib.hid (And.intro hcode (And.intro hwfb (And.intro hcb (And.intro hcbl (And.intro hT1 (And.intro hQ1 (And.intro hQl (And.intro hbs1 hbe))))))))
      have HK := Lib.hid hbk
      clear hcode hwfb hcsb hcb hcbl hT1 hQ1 hQl hbs1 hbe hbk hbz hcl hbl hS
      go_wp2_with fail
      obtain ⟨gb, egb⟩ : ∃ gb, gb = wr.heap.size := ⟨_, rfl⟩
      have hbk := HK.out
      simp only [List.toArray] at hbk
      rw [← egb] at hbk
      simp only [← egb]
      obtain ⟨w1, ew1⟩ : ∃ w1, w1 = wr.alloc (.cells #[.slice q code.length cc] 43) := ⟨_, rfl⟩
      rw [← ew1] at hbk
      rw [← ew1]
      clear ew1 egb c0 HK
      have hb0 := hbk.box
      have d0 := hb0.get 0 _ rfl
      have dl := hb0.1
      obtain ⟨k, h1, h0, h2, hbx, hLl, -⟩ := hbk.opens
      have e0 := hbx.get 0 _ rfl
      have gl := hbx.1
      have gf := hbx.2.1 0
      obtain ⟨iB, hiB⟩ := info_parts infoBs
      obtain ⟨n, en⟩ : ∃ n, code.length = n := ⟨_, rfl⟩
      have hit : (iniT cs b).length ≤ 1048576 := by
        unfold iniT
        rw [List.length_map, List.length_take]
        have := H.out.2.2
        have := HC.out.2.1
        have := blksZ_len (bs.map blkD)
        rw [List.length_map] at this
        omega
      have hLl2 : k.L.length ≤ 1048576 := by rw [hLl]; exact hit
      have hpl := ((h2.imp (Y := As.and (rw' W.heap.size 36 1 cB k.np k.L.length k.nc k.L) (As.and (bx g [.slice k.np k.L.length k.nc, .map (some k.ab), .slice k.tp k.T.length k.tc]) (As.and (bAs k.L) (As.and (grA k.ab k.N k.o k.S k.P) (As.and (rw' W.heap.size 51 3 pC k.tp k.T.length k.tc k.T) (As.and (bx gb [.slice q code.length cc]) (As.and (bx (W.heap.size + 1) [.slice none 0 0, .map none, .slice none 0 0]) (bx W.heap.size [.string nm, .slice pp ps.length pc, .int .i64 rt, .slice (some a) bs.length bc]))))))))
        ⟨fun w x => ⟨x.1.2.1, x.1.1, x.1.2.2.1, x.1.2.2.2.1, x.1.2.2.2.2, x.2.1, x.2.2⟩, fun j => by simp only [As.and_c, Sk.as, Sk.bx]; omega⟩).newRow code.length).imp (Y := As.and (rw' W.heap.size 36 1 cB k.np k.L.length k.nc k.L) (As.and (bA w1.heap.size (List.replicate code.length false)) (As.and (bx g [.slice k.np k.L.length k.nc, .map (some k.ab), .slice k.tp k.T.length k.tc]) (As.and (bAs k.L) (As.and (grA k.ab k.N k.o k.S k.P) (As.and (rw' W.heap.size 51 3 pC k.tp k.T.length k.tc k.T) (As.and (bx gb [.slice q code.length cc]) (As.and (bx (W.heap.size + 1) [.slice none 0 0, .map none, .slice none 0 0]) (bx W.heap.size [.string nm, .slice pp ps.length pc, .int .i64 rt, .slice (some a) bs.length bc])))))))))
        ⟨fun w x => ⟨x.2.1, x.1, x.2.2⟩, fun j => by simp only [As.and_c]; omega⟩
      rw [en] at hpl
      have HP := Lib.hid (And.intro hpl (And.intro h1 (And.intro h0 (And.intro hLl2 (And.intro hiB en)))))
      obtain ⟨lL, elL⟩ : ∃ lL, k.L.length = lL := ⟨_, rfl⟩
      have ELL := Lib.hid elL
      rw [elL] at e0
      rw [en] at d0
      simp only [en]
      have hnn : n ≤ 1048576 := by omega
      have hmk := run_make_row' (P := Try.prog) 36 4 _ _ Try.underlying36 infoBool rfl .i64 .i64 n (by omega) (by omega)
      clear hpl h1 h0 h2 hbx hLl hbk hb0 hiB elL en hLl2
      refine (fun key : Hid ?Phi => ?main) (Lib.hid ?pf)
      case main =>
        go_region_law (first | (refine step_app rfl (.tmp 19) (.tmp 24) 34 rfl iB _ 24 Try.underlying34 HP.out.2.2.2.2.1.1 HP.out.2.2.2.2.1.2.1 HP.out.2.2.2.2.1.2.2.1 HP.out.2.2.2.2.1.2.2.2 rfl (by decide) (by rw [← ELL.out]; rfl) ((HP.out.1.alloc _).drew) (w1.heap.size, List.replicate n false) _ 1 rfl rfl (bl_lit w1 _ n) (cB_one _) (by have := HP.out.2.2.2.1; unfold maxLen; omega) (by have := HP.out.2.2.2.1; omega) ?_; intro p' c' w' hS'; have kx : Box g [.slice k.np k.L.length k.nc, .map (some k.ab), .slice k.tp k.T.length k.tc] w' := hS'.sat.2.2.1; have k0 := kx.get 0 _ rfl; have k1 := kx.2.1 0; have k2 := kx.1; clear kx))
        all_goals (clear k0 k1 k2; revert p' c' w'; exact key.out)
      case pf =>
        intro p' c' w' hS'
        have hSE0 := row_end HP.out.2.1 HP.out.2.2.1 hS'
        have hSE : SE W.heap.size W g (iniT cs (b + 1)) (iniQ cs b ++ rowQ cs[b] b 0) (As.and (bx gb [.slice q n cc]) (As.and (bx (W.heap.size + 1) [.slice none 0 0, .map none, .slice none 0 0]) (bx W.heap.size [.string nm, .slice pp ps.length pc, .int .i64 rt, .slice (some a) bs.length bc]))) (w'.setCell ⟨g, 0, none⟩ (.slice p' (k.L.length + 1) c')) := by
          rw [HB.out.2.2.2.2.1, rowQ_zero, List.append_nil, HB.out.2.2.2.1, HP.out.2.2.2.2.2]
          exact hSE0
        have hbx5 := hSE.box
        have f0 := hbx5.get 0 _ rfl
        have fsz := hbx5.1
        have HSE := Lib.hid hSE
        have EN := Lib.hid HP.out.2.2.2.2.2
        clear hSE0 hSE hbx5 hS' e0 d0 gl gf dl HP
        go_wp2_with fail
        generalize (w'.setCell ⟨g, 0, none⟩ (.slice p' (k.L.length + 1) c')) = w2 at *
        go_loopw [30] (fun t wi => ∃ i : Nat, i ≤ n ∧ t = .int .i64 i ∧ SE W.heap.size W g (iniT cs (b + 1)) (iniQ cs b ++ rowQ cs[b] b i) (As.and (bx gb [.slice q n cc]) (As.and (bx (W.heap.size + 1) [.slice none 0 0, .map none, .slice none 0 0]) (bx W.heap.size [.string nm, .slice pp ps.length pc, .int .i64 rt, .slice (some a) bs.length bc]))) wi) (fun t _ => n - (intOf t).toNat)
        case atStart => exact ⟨0, Nat.zero_le _, rfl, HSE.out⟩
        case round =>
          rename World => wi
          obtain ⟨i, hi, rfl, hI⟩ := hrel
          by_cases hil : i < n
          · have hin : i < code.length := by rw [EN.out]; exact hil
            obtain ⟨a2, rfl, hab2, z0, z1, z2, z3, z4, z5, z6⟩ := li_row (ListIn.lasts lasts_Ins HB.out.1 hI.below (Nat.le_refl _)) i hin
            have hwi := (HB.out.2.1 code[i] (List.getElem_mem hin)).1
            have hci : cs[b][i]? = some (nfP (insD code[i])) := by rw [HB.out.2.2.1]; simp [blkD, hin]
            have hcl3 : i < cs[b].length := by rw [HB.out.2.2.2.1]; exact hin
            have hci2 : cs[b][i] = nfP (insD code[i]) := by rw [List.getElem?_eq_getElem hcl3] at hci; injection hci
            have hsucc := rowQ_succ cs[b] b i hcl3
            rw [hci2] at hsucc
            obtain ⟨x, ex⟩ : ∃ x, code[i] = x := ⟨_, rfl⟩
            rw [ex] at z0 z1 z2 z3 z4 z5 z6 hwi hsucc
            clear ex hci hci2
            obtain ⟨⟨op, rg, ty, xn, fl, ap, al, ac, tp2, tl, tc2, args⟩, tg⟩ := x
            simp only at z0 z1 z2 z3 z4 z5 z6 hwi
            have hsucc : rowQ cs[b] b (i + 1) = rowQ cs[b] b i ++ if idleB op && (resV op ty != 0) then [(rg, b, i)] else [] := hsucc
            have hJ := hI.push [.int .i64 op, .int .i64 rg, .int .i64 ty, .int .i64 xn, .int .i64 fl, .slice ap al ac, .slice tp2 tl tc2] 46
            have HJ := Lib.hid (And.intro hJ (And.intro hsucc hwi))
            clear hI hJ hsucc hwi hcl3
            have cI := fun W => Idle_any op W
            have cR := fun W => Result_any op rg ty xn fl ap tp2 al ac tl tc2 W
            cases hid : idleB op with
            | false =>
              simp only [hid] at cI
              have hs : rowQ cs[b] b (i + 1) = rowQ cs[b] b i := by rw [HJ.out.2.1, hid]; simp
              have HS2 := Lib.hid hs
              clear hs hid cR
              go_wp2_with (first | ((with_reducible refine (cI _).mono ?_); rintro e w3 ⟨rfl, rfl⟩))
              refine ⟨⟨i + 1, by omega, by go_num, ?_⟩, by simp [intOf]; omega⟩
              rw [HS2.out]
              exact HJ.out.1.drop
            | true =>
              simp only [hid] at cI
              by_cases hrs : resV op ty = 0
              · have hs : rowQ cs[b] b (i + 1) = rowQ cs[b] b i := by rw [HJ.out.2.1, hid, hrs]; simp
                have HS2 := Lib.hid hs
                simp only [hrs] at cR
                clear hs hid hrs
                go_wp2_with (first | ((with_reducible refine (cI _).mono ?_); rintro e w3 ⟨rfl, rfl⟩) | ((with_reducible refine (cR _).mono ?_); rintro e w3 ⟨rfl, rfl⟩))
                refine ⟨⟨i + 1, by omega, by go_num, ?_⟩, by simp [intOf]; omega⟩
                rw [HS2.out]
                exact HJ.out.1.drop.later ((Below.refl _ _).alloc (Nat.le_refl _) _)
              · have hs : rowQ cs[b] b (i + 1) = rowQ cs[b] b i ++ [(rg, b, i)] := by rw [HJ.out.2.1, hid]; simp [hrs]
                have hrs2 : (resV op ty != 0) = true := by simpa using hrs
                obtain ⟨rv, erv⟩ : ∃ rv, resV op ty = rv := ⟨_, rfl⟩
                rw [erv] at cR hrs2
                have HS2 := Lib.hid hs
                clear hs hid hrs erv
                have hQl : (iniQ cs b ++ rowQ cs[b] b i).length < 1048575 := by
                  have q1 := rowQ_len cs[b] b i
                  have q2 := HB.out.2.2.2.2.2.2.1
                  have q3 := HB.out.2.2.2.2.2.2.2.1
                  have q4 := HB.out.2.2.2.2.2.2.2.2
                  have q5 := HC.out.2.2
                  have q6 := H.out.2.2
                  have q7 := HB.out.2.2.2.1
                  rw [List.length_append]
                  omega
                obtain ⟨gi, egi⟩ : ∃ gi, gi = wi.heap.size := ⟨_, rfl⟩
                obtain ⟨w5, ew5⟩ : ∃ w5, w5 = (wi.alloc (.cells #[.int .i64 op, .int .i64 rg, .int .i64 ty, .int .i64 xn, .int .i64 fl, .slice ap al ac, .slice tp2 tl tc2] 46)).alloc (.cells #[.int .i64 op, .int .i64 rg, .int .i64 ty, .int .i64 xn, .int .i64 fl, .slice ap al ac, .slice tp2 tl tc2] 46) := ⟨_, rfl⟩
                have hJ5 := HJ.out.1.later ((Below.refl _ _).alloc (Nat.le_refl _) (.cells #[.int .i64 op, .int .i64 rg, .int .i64 ty, .int .i64 xn, .int .i64 fl, .slice ap al ac, .slice tp2 tl tc2] 46))
                simp only [List.toArray] at hJ5
                rw [← ew5, ← egi] at hJ5
                have HJ5 := Lib.hid hJ5
                have HWF := Lib.hid HJ.out.2.2
                have EW := Lib.hid (And.intro ew5 egi)
                clear hJ5 HJ ew5 egi
                go_wp2_with (first | ((with_reducible refine (cI _).mono ?_); rintro e w3 ⟨rfl, rfl⟩) | ((with_reducible refine (cR _).mono ?_); rintro e w3 ⟨rfl, rfl⟩))
                rw [← EW.out.1]
                simp only [← EW.out.2]
                have hJ5 := HJ5.out
                have hbi := hJ5.box
                have y1 := hbi.get 1 _ rfl
                have yl := hbi.1
                obtain ⟨k5, h1, h0, h2, hbx5, -, -⟩ := hJ5.opens
                have x1 := hbx5.get 1 _ rfl
                have xl := hbx5.1
                obtain ⟨p5, c5, e5⟩ := Sk.slv h1 h2 rg
                have lk1 := Sk.look h2.drew HWF.out e5
                have lk2 := Sk.look ((h2.alloc (.cells #[.int .i64 0, .int .i64 b, .int .i64 i] 51)).drew) HWF.out e5
                have ho5 := Sk.own h1 ((h2.alloc (.cells #[.int .i64 0, .int .i64 b, .int .i64 i] 51)).drew) e5
                have hput := fun w' v' => SE.put (w' := w') (v' := v') h1 h0 hQl ((h2.alloc (.cells #[.int .i64 0, .int .i64 b, .int .i64 i] 51)).drew) HWF.out (b, i)
                have hap := fun w' => sk_apart (w' := w') ((h2.alloc (.cells #[.int .i64 0, .int .i64 b, .int .i64 i] 51)).drew) rg
                rw [e5] at hput hap
                obtain ⟨iP, hiP⟩ := info_parts infoP
                obtain ⟨l5, el5⟩ : ∃ l5, (PQ (iniQ cs b ++ rowQ cs[b] b i) rg).length = l5 := ⟨_, rfl⟩
                have hl5 : l5 ≤ 1048575 := by
                  have := PQ_len (iniQ cs b ++ rowQ cs[b] b i) rg
                  omega
                simp only [el5] at lk1 lk2 ho5 hput hap
                have u1 : ((w5.alloc (.cells #[.int .i64 0, .int .i64 b, .int .i64 i] 51)).drew).cell? ⟨g, 1, none⟩ = some (.map (some k5.ab)) := (Box.later hbx5 ((Below.refl _ _).alloc (Nat.le_refl _) _)).get 1 _ rfl
                have u2 : ((w5.alloc (.cells #[.int .i64 0, .int .i64 b, .int .i64 i] 51)).drew).cell? ⟨gi, 1, none⟩ = some (.int .i64 rg) := (Box.later hbi ((Below.refl _ _).alloc (Nat.le_refl _) _)).get 1 _ rfl
                have HQ := Lib.hid (And.intro ho5 (And.intro hput (And.intro hiP (And.intro hl5 (And.intro hap (And.intro u1 u2))))))
                clear hJ5 hbi h1 h0 h2 hbx5 ho5 hput hap u1 u2 hiP hl5 el5 hQl e5 HJ5 f0 fsz cI cR z0 z1 z2 z3 z4 z5 z6
                go_wp2_with fail
                go_region_held3 (fun w' => w'.cell? ⟨g, 1, none⟩ = some (.map (some k5.ab)) ∧ w'.cell? ⟨gi, 1, none⟩ = some (.int .i64 rg))
                  (((try dsimp only); (repeat' apply And.intro) <;> (first | assumption | (rw [World.cell?_drew]; assumption) | (rw [World.cell?_alloc_past _ _ _ (by assumption)]; assumption) | (go_simp; done))))
                  (first | (refine step_append_at rfl (.tmp 51) (.tmp 55) 57 rfl 0 51 iP _ 3 24 Try.underlying57 HQ.out.2.2.1.1 HQ.out.2.2.1.2.1 HQ.out.2.2.1.2.2.1 HQ.out.2.2.1.2.2.2 rfl (by decide) (.slice p5 l5 c5) l5 _ rfl HQ.out.1 (some ⟨w5.heap.size, 0, none⟩) 1 1 (pC (b, i)) rfl rfl (fun j u hj => ⟨_, rfl, pl_lit w5 b i j u hj⟩) (pC_one (b, i)) (by have := HQ.out.2.2.2.1; unfold maxLen; omega) (by have := HQ.out.2.2.2.1; omega) (Nat.zero_le _) ?_; intro v9 w9 r1 r2 r3; obtain ⟨w10, hrun, hg10, hfin⟩ := HQ.out.2.1 w9 v9 r1 r2 r3; obtain ⟨p9, c9, rfl⟩ := row_slice r1; have HFIN := Lib.hid hfin; have m1 := ((HQ.out.2.2.2.2.1 w9 r2).1 1).trans HQ.out.2.2.2.2.2.1; have m2 := ((HQ.out.2.2.2.2.1 w9 r2).2.1 1).trans HQ.out.2.2.2.2.2.2; have m3 := (((HQ.out.2.2.2.2.1 w9 r2).2.2 w10 hg10).1 1).trans HQ.out.2.2.2.2.2.1; have m4 := (((HQ.out.2.2.2.2.1 w9 r2).2.2 w10 hg10).2 1).trans HQ.out.2.2.2.2.2.2; clear hfin r1 r2 r3 hg10))
                all_goals
                  have HF2 := Lib.hid HFIN.out.drop
                  go_wp2_with fail
                  refine ⟨⟨i + 1, by omega, by go_num, ?_⟩, by simp [intOf]; omega⟩
                  rw [HS2.out, ← List.append_assoc]
                  exact HF2.out
          · obtain rfl : i = n := by omega
            have hfin : SE W.heap.size W g (iniT cs (b + 1)) (iniQ cs (b + 1)) (As.and (bx (W.heap.size + 1) [.slice none 0 0, .map none, .slice none 0 0]) (bx W.heap.size [.string nm, .slice pp ps.length pc, .int .i64 rt, .slice (some a) bs.length bc])) wi := by
              rw [HB.out.2.2.2.2.2.1, HB.out.2.2.2.1, EN.out]
              exact hI.drop
            have HF := Lib.hid hfin
            clear hfin hI
            go_wp2_with fail
            exact ⟨⟨b + 1, by omega, by go_num, HF.out⟩, by simp [intOf]; omega⟩
    · obtain rfl : b = bs.length := by omega
      have hq := hS
      obtain ⟨k, h1, h0, h2, hbx, -, -⟩ := hq.opens
      have hr : Box (W.heap.size + 1) [.slice none 0 0, .map none, .slice none 0 0] wr := hS.box
      have e0 := hbx.get 0 _ rfl
      have e1 := hbx.get 1 _ rfl
      have e2 := hbx.get 2 _ rfl
      have gl := hbx.1
      have rf := hr.2.1
      have rl := hr.1
      have q0 := hr.get 0 _ rfl
      have q1 := hr.get 1 _ rfl
      have q2 := hr.get 2 _ rfl
      have HK := Lib.hid (And.intro h1 h2)
      clear hS hq hbx hr h1 h2 h0
      go_wp2_with fail
      have h3 := (((HK.out.2.imp (Y := As.and (bx (W.heap.size + 1) [.slice none 0 0, .map none, .slice none 0 0]) (k.as W.heap.size g)) ⟨fun w x => ⟨x.2.1, x.1⟩, fun k => by simp only [As.and_c]; omega⟩).set 0 (.slice k.np k.L.length k.nc)).set 1 (.map (some k.ab))).set 2 (.slice k.tp k.T.length k.tc)
      have hx : Box (W.heap.size + 1) [.slice k.np k.L.length k.nc, .map (some k.ab), .slice k.tp k.T.length k.tc] _ := h3.sat.1
      have z0 := hx.get 0 _ rfl
      have z1 := hx.get 1 _ rfl
      have z2 := hx.get 2 _ rfl
      refine bodyPost_ret (v := .agg #[.slice k.np k.L.length k.nc, .map (some k.ab), .slice k.tp k.T.length k.tc]) (by simp [results, Try.results17, go_sem, z0, z1, z2]) rfl ⟨k, rfl, HK.out.1, g, h3.imp ⟨fun w x => x.2, fun k => by simp only [As.and_c]; omega⟩⟩
end Go.Proofs.Ytdfdgpobohpphaa
