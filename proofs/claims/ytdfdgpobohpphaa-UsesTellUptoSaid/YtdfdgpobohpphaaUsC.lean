/- Package uses: what search's follow does. -/
import Derived.Test.YtdfdgpobohpphaaUsB
import Derived.Test.YtdfdgpobohpphaaUsQ
namespace Go.Proofs.Ytdfdgpobohpphaa
open Go.RowKit Go.Maps
set_option linter.unusedVariables false
set_option linter.unusedSimpArgs false
set_option maxRecDepth 100000
set_option maxHeartbeats 2000000

/-- The search as plain data. -/
def Sk.is (k : Sk) (s : Ps) : Prop := tbl k.L = s.t ∧ k.P = PQ s.Q ∧ k.T = s.T ∧ k.N ≤ 1048575
theorem Sk.is_need {k : Sk} {t : List (List Bool)} {Q : List (Int × Nat × Nat)} {T : List (Nat × Nat)} (h : k.is ⟨t, Q, T⟩) {b i : Nat} (hb : b < k.L.length) (tp' : Option Addr) (tc' : Nat) : (k.need b i hb tp' tc').is ⟨setT t (b, i), Q, T ++ [(b, i)]⟩ := by
  obtain ⟨h1, h2, h3, h4⟩ := h
  refine ⟨?_, h2, ?_, h4⟩
  · show tbl (k.L.set b (k.L[b].1, k.L[b].2.set i true)) = setT t (b, i)
    rw [tbl_set k.L b i hb true]
    simp only at h1
    unfold setT
    subst h1
    have hb2 : b < (tbl k.L).length := by unfold tbl; rw [List.length_map]; exact hb
    congr 2
    simp [List.getD_eq_getElem?_getD, hb2]
  · show k.T ++ [(b, i)] = T ++ [(b, i)]
    rw [h3]
theorem Sk.is_in {k : Sk} {s : Ps} (h : k.is s) {p : Nat × Nat} (hp : InR (shape s.t) p) : ∃ hb : p.1 < k.L.length, p.2 < k.L[p.1].2.length := by
  obtain ⟨h1, _⟩ := h
  rw [← h1] at hp
  obtain ⟨h3, h4⟩ := inR_len hp
  have hb : p.1 < k.L.length := by unfold tbl at h3; simpa using h3
  refine ⟨hb, ?_⟩
  unfold tbl at h4
  simpa [List.getD_eq_getElem?_getD, hb] using h4
theorem Sk.is_row {k : Sk} {s : Ps} (h : k.is s) {M : Nat} (ht : ∀ n ∈ shape s.t, n ≤ M) {b : Nat} (hb : b < k.L.length) : k.L[b].2.length ≤ M := by
  apply ht
  rw [← h.1]
  unfold shape tbl
  simp only [List.map_map, List.mem_map]
  exact ⟨k.L[b], List.getElem_mem hb, rfl⟩
/-- One operand is followed. -/
def folV (s : Ps) (v : Arg) : Ps := if v.kind = 1 then folR s v.n else s
theorem folR_shape (s : Ps) (r : Int) : shape (folR s r).t = shape s.t := shape_fold _ _
theorem folV_shape (s : Ps) (v : Arg) : shape (folV s v).t = shape s.t := by unfold folV; split; exact folR_shape _ _; rfl
theorem fol_shape : ∀ (l : List Arg) (s : Ps), shape (l.foldl folV s).t = shape s.t
  | [], s => rfl
  | v :: l, s => by rw [List.foldl_cons, fol_shape l, folV_shape]
theorem folV_Q (s : Ps) (v : Arg) : ∀ x ∈ (folV s v).Q, x ∈ s.Q := by
  unfold folV
  split
  · exact fun x hx => (dropQ_mem.1 hx).1
  · exact fun x hx => hx
theorem fol_Q : ∀ (l : List Arg) (s : Ps), ∀ x ∈ (l.foldl folV s).Q, x ∈ s.Q
  | [], s, x, h => h
  | v :: l, s, x, h => folV_Q s v x (fol_Q l _ x h)
theorem folV_size (s : Ps) (v : Arg) : (folV s v).T.length + (folV s v).Q.length = s.T.length + s.Q.length := by
  unfold folV
  split
  · have := PQ_len s.Q v.n
    show (s.T ++ PQ s.Q v.n).length + (dropQ s.Q v.n).length = _
    rw [List.length_append]; omega
  · rfl
theorem fol_size : ∀ (l : List Arg) (s : Ps), (l.foldl folV s).T.length + (l.foldl folV s).Q.length = s.T.length + s.Q.length
  | [], s => rfl
  | v :: l, s => by rw [List.foldl_cons, fol_size l, folV_size]
def SS (B : Nat) (W : World) (g : Nat) (s : Ps) (Z : As) (w : World) : Prop := ∃ k : Sk, k.is s ∧ St B W (As.and (k.as B g) Z) w
theorem SS.later {B : Nat} {W w w' : World} {g : Nat} {s : Ps} {Z : As} (h : SS B W g s Z w) (hb : Below w.heap.size w w') : SS B W g s Z w' := by
  obtain ⟨k, h1, h2⟩ := h
  exact ⟨k, h1, h2.later hb⟩
theorem SS.below {B : Nat} {W w : World} {g : Nat} {s : Ps} {Z : As} (h : SS B W g s Z w) : Below B W w := by
  obtain ⟨k, h1, h2⟩ := h
  exact h2.below
theorem SS.le {B : Nat} {W w : World} {g : Nat} {s : Ps} {Z : As} (h : SS B W g s Z w) : B ≤ w.heap.size := by
  obtain ⟨k, h1, h2⟩ := h
  exact h2.le
theorem SS.push {B : Nat} {W w : World} {g : Nat} {s : Ps} {Z : As} (h : SS B W g s Z w) (cs : List Value) (t : TypeId) : SS B W g s (As.and (bx w.heap.size cs) Z) (w.alloc (.cells cs.toArray t)) := by
  obtain ⟨k, h1, h2⟩ := h
  exact ⟨k, h1, (h2.push rfl cs t).imp ⟨fun w x => ⟨x.2.1, x.1, x.2.2⟩, fun k => by simp only [As.and_c]; omega⟩⟩
theorem SS.box {B : Nat} {W w : World} {g b : Nat} {cs : List Value} {s : Ps} {Z : As} (h : SS B W g s (As.and (bx b cs) Z) w) : Box b cs w := by
  obtain ⟨k, h1, h2⟩ := h
  exact h2.sat.2.1
theorem SS.drop {B : Nat} {W w : World} {g : Nat} {s : Ps} {X Z : As} (h : SS B W g s (As.and X Z) w) : SS B W g s Z w := by
  obtain ⟨k, h1, h2⟩ := h
  exact ⟨k, h1, h2.imp ⟨fun w x => ⟨x.1, x.2.2⟩, fun k => by simp only [As.and_c]; omega⟩⟩
/-- Need, told of plain data. -/
theorem need_ss {B : Nat} {W w : World} {Z : As} (g b i : Nat) (t : List (List Bool)) (Q : List (Int × Nat × Nat)) (T : List (Nat × Nat)) (hp : InR (shape t) (b, i)) (ht : ∀ n ∈ shape t, n ≤ 1048576) (hT : T.length ≤ 1048576) (h : SS B W g ⟨t, Q, T⟩ Z w) :
    Calls Try.prog 19 #[.pointer (some ⟨g, 0, none⟩), .agg #[.int .i64 0, .int .i64 b, .int .i64 i]] w (fun e w' => e = .returned (.tuple #[]) ∧ SS B W g ⟨setT t (b, i), Q, T ++ [(b, i)]⟩ Z w') := by
  obtain ⟨k, h1, h2⟩ := h
  have h1 : k.is ⟨t, Q, T⟩ := h1
  obtain ⟨hb, hi⟩ := Sk.is_in h1 hp
  refine (need_any k g b i hb hi (by rw [h1.2.2.1]; exact hT) (Sk.is_row h1 ht hb) h2).mono ?_
  rintro e w' ⟨rfl, tp', tc', h3⟩
  exact ⟨rfl, _, Sk.is_need h1 hb tp' tc', h3⟩
/-- What of the map a walk needs. -/
theorem SS.look {B : Nat} {W w : World} {Z : As} {g : Nat} {s : Ps} (h : SS B W g s Z w) (r : Int) (hr : wfI r) : ∃ (ab : Nat) (p : Option Addr) (c : Nat), g < w.heap.size ∧ w.cell? ⟨g, 1, none⟩ = some (.map (some ab)) ∧
    (Instr.lookup 56 (.map (some ab)) (.int .i64 r) false).run Try.prog w = .ok (.slice p (PQ s.Q r).length c) w := by
  obtain ⟨k, h1, h2⟩ := h
  have hbx : Box g [.slice k.np k.L.length k.nc, .map (some k.ab), .slice k.tp k.T.length k.tc] w := h2.sat.1.1
  have hG : Grp k.ab k.N k.o k.S k.P w := h2.sat.1.2.2.2.1
  obtain ⟨p, c, e, hr2, _⟩ := hG.row r
  refine ⟨k.ab, p, c, hbx.1, hbx.get 1 _ rfl, ?_⟩
  rw [hG.map.look hr, e, h1.2.1]
/-- .. and while the row that it told is read. -/
theorem SS.rowAt {B : Nat} {W w : World} {Z : As} {g : Nat} {k : Sk} (h : St B W (As.and (k.as B g) Z) w) (r : Int) : ∃ (p : Option Addr) (c : Nat), slV (k.S r) = .slice p (k.P r).length c ∧ rowP 0 51 3 pC p (k.P r).length c (k.P r) w := by
  have hG : Grp k.ab k.N k.o k.S k.P w := h.sat.1.2.2.2.1
  obtain ⟨p, c, e, hr2, _⟩ := hG.row r
  exact ⟨p, c, e, rfl, hr2⟩
end Go.Proofs.Ytdfdgpobohpphaa
