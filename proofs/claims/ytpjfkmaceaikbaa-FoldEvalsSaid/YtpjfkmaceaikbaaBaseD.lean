/- What this seat takes of layer 2's texts (BaseD) -/
import Derived.Test.YtpjfkmaceaikbaaBaseC
import Derived.Laws.AppendOwnNone
namespace Go.Proofs.Ytpjfkmaceaikbaa
open Go.RowKit Go.Maps
set_option linter.unusedVariables false
set_option linter.unusedSimpArgs false

/-- A bool that says whether p; and nothing that was there has changed. -/
def Tells (p : Prop) (W : World) (e : Ending) (w' : World) : Prop := ∃ b : Bool, e = .returned (.bool b) ∧ (b = true ↔ p) ∧ Below W.heap.size W w'
theorem Tells.imp {p q : Prop} {W : World} {e : Ending} {w' : World} (h : Tells p W e w') (hpq : p ↔ q) : Tells q W e w' := by
  obtain ⟨b, h1, h2, h3⟩ := h
  exact ⟨b, h1, h2.trans hpq, h3⟩
theorem list_ext {α : Type} {xs ys : List α} (hl : xs.length = ys.length) (h : ∀ i (h1 : i < xs.length) (h2 : i < ys.length), xs[i] = ys[i]) : xs = ys := List.ext_getElem hl h
theorem int_row {B : Nat} {w : World} {p : Option Addr} {n c : Nat} {L : List Int} (h : ListIn intC NoMem B w p n c L) (i : Nat) (hi : i < L.length) : ∃ a, p = some a ∧ a.block < B ∧ w.cell? (a.add i) = some (.int .i64 L[i]) := by
  obtain ⟨h1, h2, h3, h4, -⟩ := h
  obtain ⟨a, e, ha, hc⟩ := h4.at (m := 1) (fun _ => rfl) i hi (by decide)
  refine ⟨a, e, ha, ?_⟩
  have := hc 0 (by decide)
  rw [Nat.mul_one, Nat.add_zero] at this
  exact this
theorem arg_row {B : Nat} {w : World} {p : Option Addr} {n c : Nat} {L : List Arg} (h : ListIn argC NoMem B w p n c L) (i : Nat) (hi : i < L.length) : ∃ a, p = some a ∧ a.block < B ∧ ArgAt w (a.add (i * 3)) L[i] := by
  obtain ⟨h1, h2, h3, h4, -⟩ := h
  obtain ⟨a, e, ha, hc⟩ := h4.at (m := 3) (fun _ => rfl) i hi (by decide)
  refine ⟨a, e, ha, hc 0 (by decide), ?_, ?_⟩
  · have := hc 1 (by decide); rw [add_add a _ 1 (by decide)] at this; exact this
  · have := hc 2 (by decide); rw [add_add a _ 2 (by decide)] at this; exact this
theorem arg_ext {a b : Arg} (h0 : a.kind = b.kind) (h1 : a.n = b.n) (h2 : a.bits = b.bits) : a = b := by cases a; cases b; simp_all
theorem str_inj {a b : ByteArray} (h : a.toList = b.toList) : a = b := Go.WideShapes.bytes_inj (by rw [← ByteArray.toList_eq, ← ByteArray.toList_eq]; exact h)
/-- The row lies where it lay, or in a new block. -/
def Moved (w : World) (v v' : Value) : Prop := v'.ownBlock = v.ownBlock ∨ v'.ownBlock = some w.heap.size
theorem append_where {P : Program} (w : World) (base : Nat) (t ty e : TypeId) (i : TypeInfo) (z : Value) (size bytes : Nat) (ht : P.underlying t = some (.slice e)) (hi : P.info? e = some i) (hz : i.zero = some z)
    (hsize : i.size = size) (hby : i.bytes = bytes) (hsz : 0 < size) (v : Value) (n : Nat) (xs : List Value) (hown : w.ownsRow base e size v n xs)
    (a : Addr) (m c : Nat) (news : List Value) (hl : news.length = m * size) (hnews : ∀ j u, news[j]? = some u → w.cell? (a.add j) = some u) (h1 : ∀ u ∈ news, u.oneCell' = true)
    (h63 : n + m ≤ maxLen) (hbytes : (n + m) * bytes ≤ 140737488355328) (v' : Value) (w' : World) (hr : (Builtin.append_ #[t, t] ty #[v, .slice (some a) m c]).run P w = .ok v' w') : Moved w v v' := by
  subst hsize
  subst hby
  have hsmall : n + m ≤ 9223372036854775807 := by simp only [maxLen] at h63; omega
  rcases hown.2 with ⟨rfl, rfl⟩ | ⟨g, cap, cur, rfl, hbg, hg, hnc, hcm, hcs, htake⟩
  · by_cases hm : m = 0
    · subst hm
      have hn : news = [] := List.eq_nil_of_length_eq_zero (by simpa using hl)
      subst hn
      have hr2 : (Builtin.append_ #[t, t] ty #[.slice none 0 0, .slice (some a) 0 c]).run P w = .ok (.slice none 0 0) w := by
        simp [Builtin.append_, run_underlying ht, sizeOf, typeInfo, hi, Builtin.lenOf, Builtin.firstCells, loadCells, loadCellsFrom]
      rw [hr2] at hr
      injection hr with e1 e2
      rw [← e1]
      exact .inl rfl
    · have hr2 := run_append_nil (P := P) w t ty e i z ht hi hz a m c news hl hnews (by omega) (by omega) (by have hb := hbytes; simp only [Nat.zero_add] at hb; omega)
      rw [hr2] at hr
      injection hr with e1 e2
      rw [← e1]
      exact .inr rfl
  · by_cases hroom : n + m ≤ cap
    · have hfit : n * i.size + news.length ≤ cur.size := by rw [hl, hcs, ← Nat.add_mul]; exact Nat.mul_le_mul_right _ hroom
      have hr2 := run_append_room (P := P) w t ty e i ht hi g n cap cur hg a m c news hl hnews h1 hroom hfit
      rw [hr2] at hr
      injection hr with e1 e2
      rw [← e1]
      exact .inl rfl
    · have holds : ∀ j u, xs[j]? = some u → w.cell? ((⟨g, 0, none⟩ : Addr).add j) = some u := hown.cells (g := g) rfl
      have hr2 := run_append_grow (P := P) w t ty e i z ht hi hz ⟨g, 0, none⟩ n cap xs hown.1 holds a m c news hl hnews (by omega) (by omega) (growslice_fits (by omega) hbytes)
      rw [hr2] at hr
      injection hr with e1 e2
      rw [← e1]
      exact .inr rfl
theorem wpList_append_at {P : Program} {w : World} {ops : Array Oper} {rest : List Oper} {o : Oper} {a : Act} {Q : Exit → Act → World → Prop} (hgd : o.guard = none) (s x : Operand) (t : TypeId)
    (ho : o.op = .call { callee := .builtin .append, args := #[s, x], argTypes := #[t, t] })
    (base : Nat) (e : TypeId) (i : TypeInfo) (z : Value) (size bytes : Nat) (ht : P.underlying t = some (.slice e)) (hi : P.info? e = some i) (hz : i.zero = some z)
    (hsize : i.size = size) (hby : i.bytes = bytes) (hzs : z.cells.size = size) (hsz : 0 < size)
    (v : Value) (n : Nat) (xs : List Value) (hs : a.eval s = v) (hown : w.ownsRow base e size v n xs)
    (p : Option Addr) (m c : Nat) (news : List Value) (hx : a.eval x = .slice p m c) (hl : news.length = m * size) (hnews : ∀ j u, news[j]? = some u → ∃ ad, p = some ad ∧ w.cell? (ad.add j) = some u) (h1 : ∀ u ∈ news, u.oneCell' = true)
    (h63 : n + m ≤ maxLen) (hbytes : (n + m) * bytes ≤ 140737488355328) (hbase : base ≤ w.heap.size)
    (h : ∀ v' w', w'.ownsRow base e size v' (n + m) (xs ++ news) → w.grownBy w' v.ownBlock → Moved w v v' → wpList P ops Q rest (a.put o.dst v') w') : wpList P ops Q (o :: rest) a w := by
  refine wpList_plain hgd fun K hK => ?_
  cases p with
  | some ad =>
    have hnews' : ∀ j u, news[j]? = some u → w.cell? (ad.add j) = some u := fun j u hj => by
      obtain ⟨ad', e1, e2⟩ := hnews j u hj
      cases e1
      exact e2
    obtain ⟨v', w', hr, h2, h3, -⟩ := run_append_own (P := P) w base t o.type e i z size bytes ht hi hz hsize hby hzs hsz v n xs hown ad m c news hl hnews' h1 h63 hbytes hbase
    have h4 := append_where w base t o.type e i z size bytes ht hi hz hsize hby hsz v n xs hown ad m c news hl hnews' h1 h63 hbytes v' w' hr
    unfold Oper.wp execOp
    simp only [ho, resolve, invoke, builtin, Sem.run_bind, Sem.run_pure, Result.andThen_ok, List.map_toArray, List.map_cons, List.map_nil, hs, hx, hr]
    exact hK _ _ (h v' w' h2 h3 h4)
  | none =>
    have hn0 : news = [] := by
      cases news with
      | nil => rfl
      | cons u r => obtain ⟨_, e1, _⟩ := hnews 0 u rfl; cases e1
    subst hn0
    obtain rfl : m = 0 := by
      rcases Nat.eq_zero_or_pos m with h0 | h0
      · exact h0
      · have := Nat.mul_pos h0 hsz; simp at hl; omega
    have hr : (Builtin.append_ #[t, t] o.type #[v, .slice none 0 c]).run P w = .ok v w := by
      rcases hown.2 with ⟨rfl, rfl⟩ | ⟨g, cap, cur, rfl, hbg, hg, hnc, hcm, hcs, htake⟩
      · simp [Builtin.append_, run_underlying ht, sizeOf, typeInfo, hi, Builtin.lenOf, Builtin.firstCells]
      · simp [Builtin.append_, run_underlying ht, sizeOf, typeInfo, hi, Builtin.lenOf, Builtin.firstCells, hnc, storeCells]
    unfold Oper.wp execOp
    simp only [ho, resolve, invoke, builtin, Sem.run_bind, Sem.run_pure, Result.andThen_ok, List.map_toArray, List.map_cons, List.map_nil, hs, hx, hr]
    exact hK _ _ (h v w (by rw [List.append_nil]; exact hown) (World.grownBy.refl _ _) (.inl rfl))
/-- A row of its own, from nothing: its own list. -/
theorem own_of_append {α : Type} {ty m : Nat} {cel : α → List Value} {w0 w1 : World} {v' : Value} {xs : List α} (h : w1.ownsRow w0.heap.size ty m v' xs.length (xs.flatMap cel)) (hs : w0.heap.size ≤ w1.heap.size) : ∃ p c, v' = .slice p xs.length c ∧ ListOwn ty m cel NoOwn w0.heap.size w1.heap.size w1 p xs.length c xs := by
  obtain ⟨p, c, rfl⟩ := row_slice h
  exact ⟨p, c, rfl, own_intro rfl h rfl (spread_NoOwn hs _)⟩
theorem Spread.grow {α : Type} {Q : Nat → Nat → World → α → Prop} (hQ : Local Q) {v v' : Value} {lo : Nat} {w0 w w' : World} {xs : List α} (h : Spread Q v.ownBlock lo w0.heap.size w0 xs) (h0 : Below w0.heap.size w0 w) (hg : w.grownBy w' v.ownBlock) (hm : Moved w v v') (hv : ∀ g, v.ownBlock = some g → g < w.heap.size) :
    Spread Q v'.ownBlock lo w0.heap.size w' xs := by
  have h1 : Spread Q v.ownBlock lo w0.heap.size w' xs := h.stay hQ (fun k h1 h2 h3 => (hg.block k (Nat.lt_of_lt_of_le h2 h0.size) (fun e => h3 e.symm)).trans (h0.block k h2))
  rcases hm with e | e
  · rw [e]; exact h1
  · exact h1.row (fun k hk => by rw [e] at hk; injection hk with hk; have := h0.size; omega)
theorem cells_of_row {B : Nat} {w : World} {p : Option Addr} {cs : List Value} (h : RowAt B w p cs) : ∀ j u, cs[j]? = some u → ∃ a, p = some a ∧ w.cell? (a.add j) = some u := fun j u hu => by
  obtain ⟨a, e, _, hc⟩ := h j u hu
  exact ⟨a, e, hc⟩
theorem flat_one {α : Type} {cel : α → List Value} (h : ∀ x, ∀ u ∈ cel x, u.oneCell' = true) (xs : List α) : ∀ u ∈ xs.flatMap cel, u.oneCell' = true := fun u hu => by
  obtain ⟨x, _, hx⟩ := List.mem_flatMap.1 hu
  exact h x u hx
theorem lit_at (w : World) (cs : List Value) (ty : TypeId) : ∀ j u, cs[j]? = some u → ∃ ad, (some ⟨w.heap.size, 0, none⟩ : Option Addr) = some ad ∧ (w.alloc (.cells cs.toArray ty)).cell? (ad.add j) = some u := fun j u h => ⟨_, rfl, lit_cells w cs.toArray ty j u (by simpa using h)⟩
theorem ownsRow_ne {w : World} {B e m n : Nat} {v : Value} {xs : List Value} (h : w.ownsRow B e m v n xs) {a : Addr} (ha : v.ownBlock ≠ some a.block) (u : Value) : (w.setCell a u).ownsRow B e m v n xs := by
  refine ⟨h.1, ?_⟩
  rcases h.2 with hn | ⟨g, cap, cur, hv, hB, hg, r⟩
  · exact .inl hn
  · exact .inr ⟨g, cap, cur, hv, hB, (Go.Deep.blk_setCell_other w a u g (fun e => ha (by rw [hv]; simp [Value.ownBlock, e]))).trans hg, r⟩
theorem lit_at' (w : World) {B : Nat} (hB : B = w.heap.size) (cs : List Value) (ty : TypeId) : ∀ j u, cs[j]? = some u → ∃ ad, (some ⟨B, 0, none⟩ : Option Addr) = some ad ∧ (w.alloc (.cells cs.toArray ty)).cell? (ad.add j) = some u := by subst hB; exact lit_at w cs ty
theorem cells_grow {w w' : World} {p : Option Addr} {cs : List Value} (h : ∀ j u, cs[j]? = some u → ∃ a, p = some a ∧ w.cell? (a.add j) = some u) (hg : w.grownBy w' none) : ∀ j u, cs[j]? = some u → ∃ a, p = some a ∧ w'.cell? (a.add j) = some u := fun j u hu => by
  obtain ⟨a, e, hc⟩ := h j u hu
  exact ⟨a, e, hg.cell hc (by simp)⟩
theorem kept_none {B e m n : Nat} {v : Value} {xs : List Value} {w w' : World} (h : w.ownsRow B e m v n xs) (hg : w.grownBy w' none) : w'.ownsRow B e m v n xs := h.kept hg (by cases v.ownBlock <;> simp)
theorem below_none {B : Nat} {w w' : World} (hg : w.grownBy w' none) (hB : B ≤ w.heap.size) : Below B w w' := ⟨hg.os, hg.tape, hg.output, hg.size, fun k hk => hg.block k (Nat.lt_of_lt_of_le hk hB) (by simp)⟩
end Go.Proofs.Ytpjfkmaceaikbaa
