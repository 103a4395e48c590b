/- Package spell: each, at its instances. -/
import Derived.Test.YtmampoakdjjbiaaGreatDoorSpA
namespace Go.Proofs.YtmampoakdjjbiaaGreatDoor
open Go.RowKit Go.Maps
set_option linter.unusedVariables false
set_option linter.unusedSimpArgs false

theorem any_take {α : Type} (P : α → Bool) (xs : List α) (i : Nat) (h : i < xs.length) (ha : (xs.take i).any P = false) : (xs.take (i + 1)).any P = P xs[i] := by
  rw [List.take_succ_eq_append_getElem h, List.any_append, ha]
  simp
theorem any_hit {α : Type} (P : α → Bool) (xs : List α) (i : Nat) (h : i < xs.length) (hp : P xs[i] = true) : xs.any P = true := List.any_eq_true.2 ⟨xs[i], List.getElem_mem h, hp⟩
theorem all_not {α : Type} (P : α → Bool) (xs : List α) : (!(xs.any fun x => !P x)) = xs.all P := by
  induction xs with
  | nil => rfl
  | cons x xs ih => simp only [List.any_cons, List.all_cons, Bool.not_or, Bool.not_not, ih]
theorem row_V {B : Nat} {w : World} {p : Option Addr} {n c : Nat} {L : List PVar} {E : Nat → World → PVar → Prop} (h : ListIn varC E B w p n c L) (i : Nat) (hi : i < L.length) :
    ∃ a, p = some a ∧ a.block < B ∧ w.cell? (a.add (i * 2)) = some (.string L[i].nm) ∧ w.cell? ⟨(a.add (i * 2)).block, (a.add (i * 2)).off + 1, none⟩ = some (.int .i64 L[i].size) := by
  obtain ⟨h1, h2, h3, h4, -⟩ := h
  obtain ⟨a, e, ha, hc⟩ := h4.at (m := 2) (fun _ => rfl) i hi (by decide)
  refine ⟨a, e, ha, hc 0 (by decide), ?_⟩
  · have := hc 1 (by decide); rw [add_add a _ 1 (by decide)] at this; exact this
set_option maxRecDepth 100000 in
set_option maxHeartbeats 2000000 in
theorem index_V {E : Nat → World → PVar → Prop} (P : PVar → Bool) (p : Option Addr) (n c : Nat) (xs : List PVar) (W : World) (h : ListIn varC E W.heap.size W p n c xs) (g : FuncId) (caps : Array Value)
    (hen : ∀ (args : Array Value) (w : World), (callFunc g args).run Tryz.prog w = .ok (.enter g args) w)
    (hg : ∀ i (hi : i < xs.length) w, Below W.heap.size W w → Calls Tryz.prog g (#[.agg #[.string xs[i].nm, .int .i64 xs[i].size]] ++ caps) w (Ans (.bool (P xs[i])) w)) :
    Calls Tryz.prog 84 #[.slice p n c, .func (.func g) #[] caps] W fun e w' => ∃ k : Int, e = .returned (.int .i64 k) ∧ (decide (0 ≤ k) = xs.any P) ∧ Below W.heap.size W w' := by
  obtain rfl : n = xs.length := h.1
  have hc1 := h.2.1
  have hc2 := h.2.2.1
  unfold maxLen at hc2
  have HH := Lib.hid h
  have HG := Lib.hid hg
  clear h hg
  go_enter Tryz.func84, Tryz.ntmps84
  go_wp2_with fail
  go_loopw [8] (fun t wr => ∃ i : Nat, i ≤ xs.length ∧ t = .int .i64 i ∧ Hid ((xs.take i).any P = false) ∧ Below W.heap.size W wr) (fun t _ => xs.length - (intOf t).toNat)
  case atStart => exact ⟨0, Nat.zero_le _, rfl, Lib.hid (by simp), Below.refl _ _⟩
  case round =>
    obtain ⟨i, hi, rfl, ha, hb⟩ := hrel
    by_cases hlt : i < xs.length
    · obtain ⟨a, rfl, hab, c0, c1⟩ := row_V HH.out i hlt
      have k0 := (hb.cell (p := a.add (i * 2)) (by rw [add_block]; exact hab)).trans c0
      have k1 := (hb.cell (p := ⟨(a.add (i * 2)).block, (a.add (i * 2)).off + 1, none⟩) (by dsimp only; rw [add_block]; exact hab)).trans c1
      have cg := HG.out i hlt wr hb
      have HA := Lib.hid (any_take P xs i hlt ha.out)
      have HT := Lib.hid (any_hit P xs i hlt)
      have HB := Lib.hid hb
      obtain ⟨x, ex⟩ : ∃ x, xs[i] = x := ⟨_, rfl⟩
      simp only [ex] at cg HA HT k0 k1
      clear ex ha hb c0 c1
      obtain ⟨q, eq⟩ : ∃ q, P x = q := ⟨_, rfl⟩
      rw [eq] at cg HA HT
      clear eq
      go_wp2_with fail
      refine cg.mono ?_
      rintro e w2 ⟨rfl, hb2⟩
      have HB2 := Lib.hid (HB.out.trans (hb2.mono HB.out.size))
      clear hb2 cg
      cases q
      case false =>
        go_wp2_with fail
        exact ⟨⟨i + 1, by omega, by go_num, HA, HB2.out⟩, by simp [intOf]; omega⟩
      case true =>
        go_wp2_with fail
        go_ret
        exact ⟨i, rfl, by rw [HT.out (by first | rfl | trivial)]; simp, HB2.out⟩
    · obtain rfl : i = xs.length := by omega
      have HA := Lib.hid ha.out
      have HB := Lib.hid hb
      clear ha hb
      go_wp2_with fail
      go_ret
      refine ⟨-1, rfl, ?_, HB.out⟩
      have := HA.out
      rw [List.take_length] at this
      rw [this]
      rfl
set_option maxRecDepth 100000 in
set_option maxHeartbeats 2000000 in
theorem each_V {E : Nat → World → PVar → Prop} (hE : Lasts E) (P : PVar → Bool) (p : Option Addr) (n c : Nat) (xs : List PVar) (W : World) (h : ListIn varC E W.heap.size W p n c xs) (g : FuncId) (caps : Array Value)
    (hen : ∀ (args : Array Value) (w : World), (callFunc g args).run Tryz.prog w = .ok (.enter g args) w)
    (hg : ∀ i (hi : i < xs.length) w, Below W.heap.size W w → Calls Tryz.prog g (#[.agg #[.string xs[i].nm, .int .i64 xs[i].size]] ++ caps) w (Ans (.bool (P xs[i])) w)) :
    Calls Tryz.prog 16 #[.slice p n c, .func (.func g) #[] caps] W (Ans (.bool (xs.all P)) W) := by
  have b0 : Below W.heap.size W (W.alloc (.cells #[.func (.func g) #[] caps] 50)) := (Below.refl _ _).alloc (Nat.le_refl _) _
  have hbox : ∀ w, Below (W.heap.size + 1) (W.alloc (.cells #[.func (.func g) #[] caps] 50)) w → w.cell? ⟨W.heap.size, 0, none⟩ = some (.func (.func g) #[] caps) := fun w hb =>
    (hb.cell (p := ⟨W.heap.size, 0, none⟩) (Nat.lt_succ_self _)).trans (by rw [World.cell?_alloc_at _ _ _ _ rfl]; rfl)
  have hW1 : (W.alloc (.cells #[.func (.func g) #[] caps] 50)).heap.size = W.heap.size + 1 := World.size_alloc _ _
  have c1 := index_V (fun x => !P x) p n c xs (W.alloc (.cells #[.func (.func g) #[] caps] 50)) (h.lasts hE b0 b0.size) 45 #[.pointer (some ⟨W.heap.size, 0, none⟩)] (fun _ _ => rfl) (fun i hi w hb => by
    rw [hW1] at hb
    have k0 := hbox w hb
    have hlt0 : W.heap.size < w.heap.size := Nat.lt_of_lt_of_le (by rw [hW1]; exact Nat.lt_succ_self _) hb.size
    have hlw : W.heap.size ≤ w.heap.size := Nat.le_of_lt hlt0
    have cg := hg i hi _ ((b0.trans (hb.mono (Nat.le_succ _))).alloc hlw (.cells #[.string xs[i].nm, .int .i64 xs[i].size] 35))
    have hb1 : Below w.heap.size w (w.alloc (.cells #[.string xs[i].nm, .int .i64 xs[i].size] 35)) := (Below.refl _ _).alloc (Nat.le_refl _) _
    show Calls Tryz.prog 45 #[.agg #[.string xs[i].nm, .int .i64 xs[i].size], .pointer (some ⟨W.heap.size, 0, none⟩)] w _
    obtain ⟨q, eq⟩ : ∃ q, P xs[i] = q := ⟨_, rfl⟩
    simp only [eq] at cg ⊢
    obtain ⟨x, ex⟩ : ∃ x, xs[i] = x := ⟨_, rfl⟩
    simp only [ex] at cg hb1 ⊢
    have HB1 := Lib.hid hb1
    clear eq ex hb hb1
    go_enter Tryz.func45, Tryz.ntmps45
    go_wp2_with fail
    refine cg.mono ?_
    rintro e w2 ⟨rfl, hb2⟩
    have HB2 := Lib.hid (HB1.out.trans (hb2.mono HB1.out.size))
    clear hb2 cg
    go_wp2_with fail
    go_ret
    exact ⟨rfl, HB2.out⟩)
  have HB := Lib.hid b0
  have HW := Lib.hid hW1
  rw [← all_not P xs]
  obtain ⟨q, eq⟩ : ∃ q, (xs.any fun x => !P x) = q := ⟨_, rfl⟩
  rw [eq] at c1 ⊢
  clear hg h hbox b0 hW1 eq
  go_enter Tryz.func16, Tryz.ntmps16
  go_wp2_with fail
  have c2 : Calls Tryz.prog 44 #[.slice p n c, .func (.func 45) #[] #[.pointer (some ⟨W.heap.size, 0, none⟩)]] (W.alloc (.cells #[.func (.func g) #[] caps] 50)) (fun e w' => e = .returned (.bool q) ∧ Below (W.heap.size + 1) (W.alloc (.cells #[.func (.func g) #[] caps] 50)) w') := by
    go_enter Tryz.func44, Tryz.ntmps44
    go_wp2_with fail
    refine c1.mono ?_
    rintro e w2 ⟨k, rfl, hk, hb2⟩
    rw [HW.out] at hb2
    have HB2 := Lib.hid hb2
    clear hb2 c1
    cases q
    all_goals
      go_wp2_with fail
      go_ret
      exact ⟨rfl, HB2.out⟩
  clear c1
  refine c2.mono ?_
  rintro e w2 ⟨rfl, hb2⟩
  have HB2 := Lib.hid (HB.out.trans (hb2.mono (Nat.le_succ _)))
  clear c2 hb2
  go_wp2_with fail
  go_ret
  exact ⟨rfl, HB2.out⟩
theorem row_X {B : Nat} {w : World} {p : Option Addr} {n c : Nat} {L : List LExt} {E : Nat → World → LExt → Prop} (h : ListIn extC E B w p n c L) (i : Nat) (hi : i < L.length) :
    ∃ a, p = some a ∧ a.block < B ∧ w.cell? (a.add (i * 3)) = some (.string L[i].nm) ∧ w.cell? ⟨(a.add (i * 3)).block, (a.add (i * 3)).off + 1, none⟩ = some (.slice L[i].pp L[i].pn L[i].pc) ∧ w.cell? ⟨(a.add (i * 3)).block, (a.add (i * 3)).off + 2, none⟩ = some (.int .i64 L[i].rt) := by
  obtain ⟨h1, h2, h3, h4, -⟩ := h
  obtain ⟨a, e, ha, hc⟩ := h4.at (m := 3) (fun _ => rfl) i hi (by decide)
  refine ⟨a, e, ha, hc 0 (by decide), ?_, ?_⟩
  · have := hc 1 (by decide); rw [add_add a _ 1 (by decide)] at this; exact this
  · have := hc 2 (by decide); rw [add_add a _ 2 (by decide)] at this; exact this
set_option maxRecDepth 100000 in
set_option maxHeartbeats 2000000 in
theorem index_X {E : Nat → World → LExt → Prop} (P : LExt → Bool) (p : Option Addr) (n c : Nat) (xs : List LExt) (W : World) (h : ListIn extC E W.heap.size W p n c xs) (g : FuncId) (caps : Array Value)
    (hen : ∀ (args : Array Value) (w : World), (callFunc g args).run Tryz.prog w = .ok (.enter g args) w)
    (hg : ∀ i (hi : i < xs.length) w, Below W.heap.size W w → Calls Tryz.prog g (#[.agg #[.string xs[i].nm, .slice xs[i].pp xs[i].pn xs[i].pc, .int .i64 xs[i].rt]] ++ caps) w (Ans (.bool (P xs[i])) w)) :
    Calls Tryz.prog 86 #[.slice p n c, .func (.func g) #[] caps] W fun e w' => ∃ k : Int, e = .returned (.int .i64 k) ∧ (decide (0 ≤ k) = xs.any P) ∧ Below W.heap.size W w' := by
  obtain rfl : n = xs.length := h.1
  have hc1 := h.2.1
  have hc2 := h.2.2.1
  unfold maxLen at hc2
  have HH := Lib.hid h
  have HG := Lib.hid hg
  clear h hg
  go_enter Tryz.func86, Tryz.ntmps86
  go_wp2_with fail
  go_loopw [8] (fun t wr => ∃ i : Nat, i ≤ xs.length ∧ t = .int .i64 i ∧ Hid ((xs.take i).any P = false) ∧ Below W.heap.size W wr) (fun t _ => xs.length - (intOf t).toNat)
  case atStart => exact ⟨0, Nat.zero_le _, rfl, Lib.hid (by simp), Below.refl _ _⟩
  case round =>
    obtain ⟨i, hi, rfl, ha, hb⟩ := hrel
    by_cases hlt : i < xs.length
    · obtain ⟨a, rfl, hab, c0, c1, c2⟩ := row_X HH.out i hlt
      have k0 := (hb.cell (p := a.add (i * 3)) (by rw [add_block]; exact hab)).trans c0
      have k1 := (hb.cell (p := ⟨(a.add (i * 3)).block, (a.add (i * 3)).off + 1, none⟩) (by dsimp only; rw [add_block]; exact hab)).trans c1
      have k2 := (hb.cell (p := ⟨(a.add (i * 3)).block, (a.add (i * 3)).off + 2, none⟩) (by dsimp only; rw [add_block]; exact hab)).trans c2
      have cg := HG.out i hlt wr hb
      have HA := Lib.hid (any_take P xs i hlt ha.out)
      have HT := Lib.hid (any_hit P xs i hlt)
      have HB := Lib.hid hb
      obtain ⟨x, ex⟩ : ∃ x, xs[i] = x := ⟨_, rfl⟩
      simp only [ex] at cg HA HT k0 k1 k2
      clear ex ha hb c0 c1 c2
      obtain ⟨q, eq⟩ : ∃ q, P x = q := ⟨_, rfl⟩
      rw [eq] at cg HA HT
      clear eq
      go_wp2_with fail
      refine cg.mono ?_
      rintro e w2 ⟨rfl, hb2⟩
      have HB2 := Lib.hid (HB.out.trans (hb2.mono HB.out.size))
      clear hb2 cg
      cases q
      case false =>
        go_wp2_with fail
        exact ⟨⟨i + 1, by omega, by go_num, HA, HB2.out⟩, by simp [intOf]; omega⟩
      case true =>
        go_wp2_with fail
        go_ret
        exact ⟨i, rfl, by rw [HT.out (by first | rfl | trivial)]; simp, HB2.out⟩
    · obtain rfl : i = xs.length := by omega
      have HA := Lib.hid ha.out
      have HB := Lib.hid hb
      clear ha hb
      go_wp2_with fail
      go_ret
      refine ⟨-1, rfl, ?_, HB.out⟩
      have := HA.out
      rw [List.take_length] at this
      rw [this]
      rfl
set_option maxRecDepth 100000 in
set_option maxHeartbeats 2000000 in
theorem each_X {E : Nat → World → LExt → Prop} (hE : Lasts E) (P : LExt → Bool) (p : Option Addr) (n c : Nat) (xs : List LExt) (W : World) (h : ListIn extC E W.heap.size W p n c xs) (g : FuncId) (caps : Array Value)
    (hen : ∀ (args : Array Value) (w : World), (callFunc g args).run Tryz.prog w = .ok (.enter g args) w)
    (hg : ∀ i (hi : i < xs.length) w, Below W.heap.size W w → Calls Tryz.prog g (#[.agg #[.string xs[i].nm, .slice xs[i].pp xs[i].pn xs[i].pc, .int .i64 xs[i].rt]] ++ caps) w (Ans (.bool (P xs[i])) w)) :
    Calls Tryz.prog 18 #[.slice p n c, .func (.func g) #[] caps] W (Ans (.bool (xs.all P)) W) := by
  have b0 : Below W.heap.size W (W.alloc (.cells #[.func (.func g) #[] caps] 52)) := (Below.refl _ _).alloc (Nat.le_refl _) _
  have hbox : ∀ w, Below (W.heap.size + 1) (W.alloc (.cells #[.func (.func g) #[] caps] 52)) w → w.cell? ⟨W.heap.size, 0, none⟩ = some (.func (.func g) #[] caps) := fun w hb =>
    (hb.cell (p := ⟨W.heap.size, 0, none⟩) (Nat.lt_succ_self _)).trans (by rw [World.cell?_alloc_at _ _ _ _ rfl]; rfl)
  have hW1 : (W.alloc (.cells #[.func (.func g) #[] caps] 52)).heap.size = W.heap.size + 1 := World.size_alloc _ _
  have c1 := index_X (fun x => !P x) p n c xs (W.alloc (.cells #[.func (.func g) #[] caps] 52)) (h.lasts hE b0 b0.size) 48 #[.pointer (some ⟨W.heap.size, 0, none⟩)] (fun _ _ => rfl) (fun i hi w hb => by
    rw [hW1] at hb
    have k0 := hbox w hb
    have hlt0 : W.heap.size < w.heap.size := Nat.lt_of_lt_of_le (by rw [hW1]; exact Nat.lt_succ_self _) hb.size
    have hlw : W.heap.size ≤ w.heap.size := Nat.le_of_lt hlt0
    have cg := hg i hi _ ((b0.trans (hb.mono (Nat.le_succ _))).alloc hlw (.cells #[.string xs[i].nm, .slice xs[i].pp xs[i].pn xs[i].pc, .int .i64 xs[i].rt] 47))
    have hb1 : Below w.heap.size w (w.alloc (.cells #[.string xs[i].nm, .slice xs[i].pp xs[i].pn xs[i].pc, .int .i64 xs[i].rt] 47)) := (Below.refl _ _).alloc (Nat.le_refl _) _
    show Calls Tryz.prog 48 #[.agg #[.string xs[i].nm, .slice xs[i].pp xs[i].pn xs[i].pc, .int .i64 xs[i].rt], .pointer (some ⟨W.heap.size, 0, none⟩)] w _
    obtain ⟨q, eq⟩ : ∃ q, P xs[i] = q := ⟨_, rfl⟩
    simp only [eq] at cg ⊢
    obtain ⟨x, ex⟩ : ∃ x, xs[i] = x := ⟨_, rfl⟩
    simp only [ex] at cg hb1 ⊢
    have HB1 := Lib.hid hb1
    clear eq ex hb hb1
    go_enter Tryz.func48, Tryz.ntmps48
    go_wp2_with fail
    refine cg.mono ?_
    rintro e w2 ⟨rfl, hb2⟩
    have HB2 := Lib.hid (HB1.out.trans (hb2.mono HB1.out.size))
    clear hb2 cg
    go_wp2_with fail
    go_ret
    exact ⟨rfl, HB2.out⟩)
  have HB := Lib.hid b0
  have HW := Lib.hid hW1
  rw [← all_not P xs]
  obtain ⟨q, eq⟩ : ∃ q, (xs.any fun x => !P x) = q := ⟨_, rfl⟩
  rw [eq] at c1 ⊢
  clear hg h hbox b0 hW1 eq
  go_enter Tryz.func18, Tryz.ntmps18
  go_wp2_with fail
  have c2 : Calls Tryz.prog 47 #[.slice p n c, .func (.func 48) #[] #[.pointer (some ⟨W.heap.size, 0, none⟩)]] (W.alloc (.cells #[.func (.func g) #[] caps] 52)) (fun e w' => e = .returned (.bool q) ∧ Below (W.heap.size + 1) (W.alloc (.cells #[.func (.func g) #[] caps] 52)) w') := by
    go_enter Tryz.func47, Tryz.ntmps47
    go_wp2_with fail
    refine c1.mono ?_
    rintro e w2 ⟨k, rfl, hk, hb2⟩
    rw [HW.out] at hb2
    have HB2 := Lib.hid hb2
    clear hb2 c1
    cases q
    all_goals
      go_wp2_with fail
      go_ret
      exact ⟨rfl, HB2.out⟩
  clear c1
  refine c2.mono ?_
  rintro e w2 ⟨rfl, hb2⟩
  have HB2 := Lib.hid (HB.out.trans (hb2.mono (Nat.le_succ _)))
  clear c2 hb2
  go_wp2_with fail
  go_ret
  exact ⟨rfl, HB2.out⟩
theorem row_F {B : Nat} {w : World} {p : Option Addr} {n c : Nat} {L : List LFn} {E : Nat → World → LFn → Prop} (h : ListIn fnC E B w p n c L) (i : Nat) (hi : i < L.length) :
    ∃ a, p = some a ∧ a.block < B ∧ w.cell? (a.add (i * 4)) = some (.string L[i].nm) ∧ w.cell? ⟨(a.add (i * 4)).block, (a.add (i * 4)).off + 1, none⟩ = some (.slice L[i].pp L[i].pn L[i].pc) ∧ w.cell? ⟨(a.add (i * 4)).block, (a.add (i * 4)).off + 2, none⟩ = some (.int .i64 L[i].rt) ∧ w.cell? ⟨(a.add (i * 4)).block, (a.add (i * 4)).off + 3, none⟩ = some (.slice L[i].bp L[i].bn L[i].bc) := by
  obtain ⟨h1, h2, h3, h4, -⟩ := h
  obtain ⟨a, e, ha, hc⟩ := h4.at (m := 4) (fun _ => rfl) i hi (by decide)
  refine ⟨a, e, ha, hc 0 (by decide), ?_, ?_, ?_⟩
  · have := hc 1 (by decide); rw [add_add a _ 1 (by decide)] at this; exact this
  · have := hc 2 (by decide); rw [add_add a _ 2 (by decide)] at this; exact this
  · have := hc 3 (by decide); rw [add_add a _ 3 (by decide)] at this; exact this
set_option maxRecDepth 100000 in
set_option maxHeartbeats 2000000 in
theorem index_F {E : Nat → World → LFn → Prop} (P : LFn → Bool) (p : Option Addr) (n c : Nat) (xs : List LFn) (W : World) (h : ListIn fnC E W.heap.size W p n c xs) (g : FuncId) (caps : Array Value)
    (hen : ∀ (args : Array Value) (w : World), (callFunc g args).run Tryz.prog w = .ok (.enter g args) w)
    (hg : ∀ i (hi : i < xs.length) w, Below W.heap.size W w → Calls Tryz.prog g (#[.agg #[.string xs[i].nm, .slice xs[i].pp xs[i].pn xs[i].pc, .int .i64 xs[i].rt, .slice xs[i].bp xs[i].bn xs[i].bc]] ++ caps) w (Ans (.bool (P xs[i])) w)) :
    Calls Tryz.prog 87 #[.slice p n c, .func (.func g) #[] caps] W fun e w' => ∃ k : Int, e = .returned (.int .i64 k) ∧ (decide (0 ≤ k) = xs.any P) ∧ Below W.heap.size W w' := by
  obtain rfl : n = xs.length := h.1
  have hc1 := h.2.1
  have hc2 := h.2.2.1
  unfold maxLen at hc2
  have HH := Lib.hid h
  have HG := Lib.hid hg
  clear h hg
  go_enter Tryz.func87, Tryz.ntmps87
  go_wp2_with fail
  go_loopw [8] (fun t wr => ∃ i : Nat, i ≤ xs.length ∧ t = .int .i64 i ∧ Hid ((xs.take i).any P = false) ∧ Below W.heap.size W wr) (fun t _ => xs.length - (intOf t).toNat)
  case atStart => exact ⟨0, Nat.zero_le _, rfl, Lib.hid (by simp), Below.refl _ _⟩
  case round =>
    obtain ⟨i, hi, rfl, ha, hb⟩ := hrel
    by_cases hlt : i < xs.length
    · obtain ⟨a, rfl, hab, c0, c1, c2, c3⟩ := row_F HH.out i hlt
      have k0 := (hb.cell (p := a.add (i * 4)) (by rw [add_block]; exact hab)).trans c0
      have k1 := (hb.cell (p := ⟨(a.add (i * 4)).block, (a.add (i * 4)).off + 1, none⟩) (by dsimp only; rw [add_block]; exact hab)).trans c1
      have k2 := (hb.cell (p := ⟨(a.add (i * 4)).block, (a.add (i * 4)).off + 2, none⟩) (by dsimp only; rw [add_block]; exact hab)).trans c2
      have k3 := (hb.cell (p := ⟨(a.add (i * 4)).block, (a.add (i * 4)).off + 3, none⟩) (by dsimp only; rw [add_block]; exact hab)).trans c3
      have cg := HG.out i hlt wr hb
      have HA := Lib.hid (any_take P xs i hlt ha.out)
      have HT := Lib.hid (any_hit P xs i hlt)
      have HB := Lib.hid hb
      obtain ⟨x, ex⟩ : ∃ x, xs[i] = x := ⟨_, rfl⟩
      simp only [ex] at cg HA HT k0 k1 k2 k3
      clear ex ha hb c0 c1 c2 c3
      obtain ⟨q, eq⟩ : ∃ q, P x = q := ⟨_, rfl⟩
      rw [eq] at cg HA HT
      clear eq
      go_wp2_with fail
      refine cg.mono ?_
      rintro e w2 ⟨rfl, hb2⟩
      have HB2 := Lib.hid (HB.out.trans (hb2.mono HB.out.size))
      clear hb2 cg
      cases q
      case false =>
        go_wp2_with fail
        exact ⟨⟨i + 1, by omega, by go_num, HA, HB2.out⟩, by simp [intOf]; omega⟩
      case true =>
        go_wp2_with fail
        go_ret
        exact ⟨i, rfl, by rw [HT.out (by first | rfl | trivial)]; simp, HB2.out⟩
    · obtain rfl : i = xs.length := by omega
      have HA := Lib.hid ha.out
      have HB := Lib.hid hb
      clear ha hb
      go_wp2_with fail
      go_ret
      refine ⟨-1, rfl, ?_, HB.out⟩
      have := HA.out
      rw [List.take_length] at this
      rw [this]
      rfl
set_option maxRecDepth 100000 in
set_option maxHeartbeats 2000000 in
theorem each_F {E : Nat → World → LFn → Prop} (hE : Lasts E) (P : LFn → Bool) (p : Option Addr) (n c : Nat) (xs : List LFn) (W : World) (h : ListIn fnC E W.heap.size W p n c xs) (g : FuncId) (caps : Array Value)
    (hen : ∀ (args : Array Value) (w : World), (callFunc g args).run Tryz.prog w = .ok (.enter g args) w)
    (hg : ∀ i (hi : i < xs.length) w, Below W.heap.size W w → Calls Tryz.prog g (#[.agg #[.string xs[i].nm, .slice xs[i].pp xs[i].pn xs[i].pc, .int .i64 xs[i].rt, .slice xs[i].bp xs[i].bn xs[i].bc]] ++ caps) w (Ans (.bool (P xs[i])) w)) :
    Calls Tryz.prog 20 #[.slice p n c, .func (.func g) #[] caps] W (Ans (.bool (xs.all P)) W) := by
  have b0 : Below W.heap.size W (W.alloc (.cells #[.func (.func g) #[] caps] 60)) := (Below.refl _ _).alloc (Nat.le_refl _) _
  have hbox : ∀ w, Below (W.heap.size + 1) (W.alloc (.cells #[.func (.func g) #[] caps] 60)) w → w.cell? ⟨W.heap.size, 0, none⟩ = some (.func (.func g) #[] caps) := fun w hb =>
    (hb.cell (p := ⟨W.heap.size, 0, none⟩) (Nat.lt_succ_self _)).trans (by rw [World.cell?_alloc_at _ _ _ _ rfl]; rfl)
  have hW1 : (W.alloc (.cells #[.func (.func g) #[] caps] 60)).heap.size = W.heap.size + 1 := World.size_alloc _ _
  have c1 := index_F (fun x => !P x) p n c xs (W.alloc (.cells #[.func (.func g) #[] caps] 60)) (h.lasts hE b0 b0.size) 50 #[.pointer (some ⟨W.heap.size, 0, none⟩)] (fun _ _ => rfl) (fun i hi w hb => by
    rw [hW1] at hb
    have k0 := hbox w hb
    have hlt0 : W.heap.size < w.heap.size := Nat.lt_of_lt_of_le (by rw [hW1]; exact Nat.lt_succ_self _) hb.size
    have hlw : W.heap.size ≤ w.heap.size := Nat.le_of_lt hlt0
    have cg := hg i hi _ ((b0.trans (hb.mono (Nat.le_succ _))).alloc hlw (.cells #[.string xs[i].nm, .slice xs[i].pp xs[i].pn xs[i].pc, .int .i64 xs[i].rt, .slice xs[i].bp xs[i].bn xs[i].bc] 45))
    have hb1 : Below w.heap.size w (w.alloc (.cells #[.string xs[i].nm, .slice xs[i].pp xs[i].pn xs[i].pc, .int .i64 xs[i].rt, .slice xs[i].bp xs[i].bn xs[i].bc] 45)) := (Below.refl _ _).alloc (Nat.le_refl _) _
    show Calls Tryz.prog 50 #[.agg #[.string xs[i].nm, .slice xs[i].pp xs[i].pn xs[i].pc, .int .i64 xs[i].rt, .slice xs[i].bp xs[i].bn xs[i].bc], .pointer (some ⟨W.heap.size, 0, none⟩)] w _
    obtain ⟨q, eq⟩ : ∃ q, P xs[i] = q := ⟨_, rfl⟩
    simp only [eq] at cg ⊢
    obtain ⟨x, ex⟩ : ∃ x, xs[i] = x := ⟨_, rfl⟩
    simp only [ex] at cg hb1 ⊢
    have HB1 := Lib.hid hb1
    clear eq ex hb hb1
    go_enter Tryz.func50, Tryz.ntmps50
    go_wp2_with fail
    refine cg.mono ?_
    rintro e w2 ⟨rfl, hb2⟩
    have HB2 := Lib.hid (HB1.out.trans (hb2.mono HB1.out.size))
    clear hb2 cg
    go_wp2_with fail
    go_ret
    exact ⟨rfl, HB2.out⟩)
  have HB := Lib.hid b0
  have HW := Lib.hid hW1
  rw [← all_not P xs]
  obtain ⟨q, eq⟩ : ∃ q, (xs.any fun x => !P x) = q := ⟨_, rfl⟩
  rw [eq] at c1 ⊢
  clear hg h hbox b0 hW1 eq
  go_enter Tryz.func20, Tryz.ntmps20
  go_wp2_with fail
  have c2 : Calls Tryz.prog 49 #[.slice p n c, .func (.func 50) #[] #[.pointer (some ⟨W.heap.size, 0, none⟩)]] (W.alloc (.cells #[.func (.func g) #[] caps] 60)) (fun e w' => e = .returned (.bool q) ∧ Below (W.heap.size + 1) (W.alloc (.cells #[.func (.func g) #[] caps] 60)) w') := by
    go_enter Tryz.func49, Tryz.ntmps49
    go_wp2_with fail
    refine c1.mono ?_
    rintro e w2 ⟨k, rfl, hk, hb2⟩
    rw [HW.out] at hb2
    have HB2 := Lib.hid hb2
    clear hb2 c1
    cases q
    all_goals
      go_wp2_with fail
      go_ret
      exact ⟨rfl, HB2.out⟩
  clear c1
  refine c2.mono ?_
  rintro e w2 ⟨rfl, hb2⟩
  have HB2 := Lib.hid (HB.out.trans (hb2.mono (Nat.le_succ _)))
  clear c2 hb2
  go_wp2_with fail
  go_ret
  exact ⟨rfl, HB2.out⟩
theorem row_B {B : Nat} {w : World} {p : Option Addr} {n c : Nat} {L : List LB} {E : Nat → World → LB → Prop} (h : ListIn blkC E B w p n c L) (i : Nat) (hi : i < L.length) :
    ∃ a, p = some a ∧ a.block < B ∧ w.cell? (a.add i) = some (.slice L[i].p L[i].n L[i].k) := by
  obtain ⟨h1, h2, h3, h4, -⟩ := h
  obtain ⟨a, e, ha, hc⟩ := h4.at (m := 1) (fun _ => rfl) i hi (by decide)
  have := hc 0 (by decide)
  simp only [Nat.mul_one] at this
  exact ⟨a, e, ha, this⟩
set_option maxRecDepth 100000 in
set_option maxHeartbeats 2000000 in
theorem index_B {E : Nat → World → LB → Prop} (P : LB → Bool) (p : Option Addr) (n c : Nat) (xs : List LB) (W : World) (h : ListIn blkC E W.heap.size W p n c xs) (g : FuncId) (caps : Array Value)
    (hen : ∀ (args : Array Value) (w : World), (callFunc g args).run Tryz.prog w = .ok (.enter g args) w)
    (hg : ∀ i (hi : i < xs.length) w, Below W.heap.size W w → Calls Tryz.prog g (#[.agg #[.slice xs[i].p xs[i].n xs[i].k]] ++ caps) w (Ans (.bool (P xs[i])) w)) :
    Calls Tryz.prog 90 #[.slice p n c, .func (.func g) #[] caps] W fun e w' => ∃ k : Int, e = .returned (.int .i64 k) ∧ (decide (0 ≤ k) = xs.any P) ∧ Below W.heap.size W w' := by
  obtain rfl : n = xs.length := h.1
  have hc1 := h.2.1
  have hc2 := h.2.2.1
  unfold maxLen at hc2
  have HH := Lib.hid h
  have HG := Lib.hid hg
  clear h hg
  go_enter Tryz.func90, Tryz.ntmps90
  go_wp2_with fail
  go_loopw [8] (fun t wr => ∃ i : Nat, i ≤ xs.length ∧ t = .int .i64 i ∧ Hid ((xs.take i).any P = false) ∧ Below W.heap.size W wr) (fun t _ => xs.length - (intOf t).toNat)
  case atStart => exact ⟨0, Nat.zero_le _, rfl, Lib.hid (by simp), Below.refl _ _⟩
  case round =>
    obtain ⟨i, hi, rfl, ha, hb⟩ := hrel
    by_cases hlt : i < xs.length
    · obtain ⟨a, rfl, hab, c0⟩ := row_B HH.out i hlt
      have k0 := (hb.cell (p := a.add i) (by rw [add_block]; exact hab)).trans c0
      have cg := HG.out i hlt wr hb
      have HA := Lib.hid (any_take P xs i hlt ha.out)
      have HT := Lib.hid (any_hit P xs i hlt)
      have HB := Lib.hid hb
      obtain ⟨x, ex⟩ : ∃ x, xs[i] = x := ⟨_, rfl⟩
      simp only [ex] at cg HA HT k0
      clear ex ha hb c0
      obtain ⟨q, eq⟩ : ∃ q, P x = q := ⟨_, rfl⟩
      rw [eq] at cg HA HT
      clear eq
      go_wp2_with fail
      refine cg.mono ?_
      rintro e w2 ⟨rfl, hb2⟩
      have HB2 := Lib.hid (HB.out.trans (hb2.mono HB.out.size))
      clear hb2 cg
      cases q
      case false =>
        go_wp2_with fail
        exact ⟨⟨i + 1, by omega, by go_num, HA, HB2.out⟩, by simp [intOf]; omega⟩
      case true =>
        go_wp2_with fail
        go_ret
        exact ⟨i, rfl, by rw [HT.out (by first | rfl | trivial)]; simp, HB2.out⟩
    · obtain rfl : i = xs.length := by omega
      have HA := Lib.hid ha.out
      have HB := Lib.hid hb
      clear ha hb
      go_wp2_with fail
      go_ret
      refine ⟨-1, rfl, ?_, HB.out⟩
      have := HA.out
      rw [List.take_length] at this
      rw [this]
      rfl
set_option maxRecDepth 100000 in
set_option maxHeartbeats 2000000 in
theorem each_B {E : Nat → World → LB → Prop} (hE : Lasts E) (P : LB → Bool) (p : Option Addr) (n c : Nat) (xs : List LB) (W : World) (h : ListIn blkC E W.heap.size W p n c xs) (g : FuncId) (caps : Array Value)
    (hen : ∀ (args : Array Value) (w : World), (callFunc g args).run Tryz.prog w = .ok (.enter g args) w)
    (hg : ∀ i (hi : i < xs.length) w, Below W.heap.size W w → Calls Tryz.prog g (#[.agg #[.slice xs[i].p xs[i].n xs[i].k]] ++ caps) w (Ans (.bool (P xs[i])) w)) :
    Calls Tryz.prog 23 #[.slice p n c, .func (.func g) #[] caps] W (Ans (.bool (xs.all P)) W) := by
  have b0 : Below W.heap.size W (W.alloc (.cells #[.func (.func g) #[] caps] 59)) := (Below.refl _ _).alloc (Nat.le_refl _) _
  have hbox : ∀ w, Below (W.heap.size + 1) (W.alloc (.cells #[.func (.func g) #[] caps] 59)) w → w.cell? ⟨W.heap.size, 0, none⟩ = some (.func (.func g) #[] caps) := fun w hb =>
    (hb.cell (p := ⟨W.heap.size, 0, none⟩) (Nat.lt_succ_self _)).trans (by rw [World.cell?_alloc_at _ _ _ _ rfl]; rfl)
  have hW1 : (W.alloc (.cells #[.func (.func g) #[] caps] 59)).heap.size = W.heap.size + 1 := World.size_alloc _ _
  have c1 := index_B (fun x => !P x) p n c xs (W.alloc (.cells #[.func (.func g) #[] caps] 59)) (h.lasts hE b0 b0.size) 53 #[.pointer (some ⟨W.heap.size, 0, none⟩)] (fun _ _ => rfl) (fun i hi w hb => by
    rw [hW1] at hb
    have k0 := hbox w hb
    have hlt0 : W.heap.size < w.heap.size := Nat.lt_of_lt_of_le (by rw [hW1]; exact Nat.lt_succ_self _) hb.size
    have hlw : W.heap.size ≤ w.heap.size := Nat.le_of_lt hlt0
    have cg := hg i hi _ ((b0.trans (hb.mono (Nat.le_succ _))).alloc hlw (.cells #[.slice xs[i].p xs[i].n xs[i].k] 42))
    have hb1 : Below w.heap.size w (w.alloc (.cells #[.slice xs[i].p xs[i].n xs[i].k] 42)) := (Below.refl _ _).alloc (Nat.le_refl _) _
    show Calls Tryz.prog 53 #[.agg #[.slice xs[i].p xs[i].n xs[i].k], .pointer (some ⟨W.heap.size, 0, none⟩)] w _
    obtain ⟨q, eq⟩ : ∃ q, P xs[i] = q := ⟨_, rfl⟩
    simp only [eq] at cg ⊢
    obtain ⟨x, ex⟩ : ∃ x, xs[i] = x := ⟨_, rfl⟩
    simp only [ex] at cg hb1 ⊢
    have HB1 := Lib.hid hb1
    clear eq ex hb hb1
    go_enter Tryz.func53, Tryz.ntmps53
    go_wp2_with fail
    refine cg.mono ?_
    rintro e w2 ⟨rfl, hb2⟩
    have HB2 := Lib.hid (HB1.out.trans (hb2.mono HB1.out.size))
    clear hb2 cg
    go_wp2_with fail
    go_ret
    exact ⟨rfl, HB2.out⟩)
  have HB := Lib.hid b0
  have HW := Lib.hid hW1
  rw [← all_not P xs]
  obtain ⟨q, eq⟩ : ∃ q, (xs.any fun x => !P x) = q := ⟨_, rfl⟩
  rw [eq] at c1 ⊢
  clear hg h hbox b0 hW1 eq
  go_enter Tryz.func23, Tryz.ntmps23
  go_wp2_with fail
  have c2 : Calls Tryz.prog 52 #[.slice p n c, .func (.func 53) #[] #[.pointer (some ⟨W.heap.size, 0, none⟩)]] (W.alloc (.cells #[.func (.func g) #[] caps] 59)) (fun e w' => e = .returned (.bool q) ∧ Below (W.heap.size + 1) (W.alloc (.cells #[.func (.func g) #[] caps] 59)) w') := by
    go_enter Tryz.func52, Tryz.ntmps52
    go_wp2_with fail
    refine c1.mono ?_
    rintro e w2 ⟨k, rfl, hk, hb2⟩
    rw [HW.out] at hb2
    have HB2 := Lib.hid hb2
    clear hb2 c1
    cases q
    all_goals
      go_wp2_with fail
      go_ret
      exact ⟨rfl, HB2.out⟩
  clear c1
  refine c2.mono ?_
  rintro e w2 ⟨rfl, hb2⟩
  have HB2 := Lib.hid (HB.out.trans (hb2.mono (Nat.le_succ _)))
  clear c2 hb2
  go_wp2_with fail
  go_ret
  exact ⟨rfl, HB2.out⟩
theorem row_L {B : Nat} {w : World} {p : Option Addr} {n c : Nat} {L : List LI} {E : Nat → World → LI → Prop} (h : ListIn liC E B w p n c L) (i : Nat) (hi : i < L.length) :
    ∃ a, p = some a ∧ a.block < B ∧ w.cell? (a.add (i * 7)) = some (.int .i64 L[i].1.op) ∧ w.cell? ⟨(a.add (i * 7)).block, (a.add (i * 7)).off + 1, none⟩ = some (.int .i64 L[i].1.reg) ∧ w.cell? ⟨(a.add (i * 7)).block, (a.add (i * 7)).off + 2, none⟩ = some (.int .i64 L[i].1.ty) ∧ w.cell? ⟨(a.add (i * 7)).block, (a.add (i * 7)).off + 3, none⟩ = some (.int .i64 L[i].1.n) ∧ w.cell? ⟨(a.add (i * 7)).block, (a.add (i * 7)).off + 4, none⟩ = some (.int .i64 L[i].1.fl) ∧ w.cell? ⟨(a.add (i * 7)).block, (a.add (i * 7)).off + 5, none⟩ = some (.slice L[i].1.ap L[i].1.al L[i].1.ac) ∧ w.cell? ⟨(a.add (i * 7)).block, (a.add (i * 7)).off + 6, none⟩ = some (.slice L[i].1.tp L[i].1.tl L[i].1.tc) := by
  obtain ⟨h1, h2, h3, h4, -⟩ := h
  obtain ⟨a, e, ha, hc⟩ := h4.at (m := 7) (fun _ => rfl) i hi (by decide)
  refine ⟨a, e, ha, hc 0 (by decide), ?_, ?_, ?_, ?_, ?_, ?_⟩
  · have := hc 1 (by decide); rw [add_add a _ 1 (by decide)] at this; exact this
  · have := hc 2 (by decide); rw [add_add a _ 2 (by decide)] at this; exact this
  · have := hc 3 (by decide); rw [add_add a _ 3 (by decide)] at this; exact this
  · have := hc 4 (by decide); rw [add_add a _ 4 (by decide)] at this; exact this
  · have := hc 5 (by decide); rw [add_add a _ 5 (by decide)] at this; exact this
  · have := hc 6 (by decide); rw [add_add a _ 6 (by decide)] at this; exact this
set_option maxRecDepth 100000 in
set_option maxHeartbeats 2000000 in
theorem index_L {E : Nat → World → LI → Prop} (P : LI → Bool) (p : Option Addr) (n c : Nat) (xs : List LI) (W : World) (h : ListIn liC E W.heap.size W p n c xs) (g : FuncId) (caps : Array Value)
    (hen : ∀ (args : Array Value) (w : World), (callFunc g args).run Tryz.prog w = .ok (.enter g args) w)
    (hg : ∀ i (hi : i < xs.length) w, Below W.heap.size W w → Calls Tryz.prog g (#[.agg #[.int .i64 xs[i].1.op, .int .i64 xs[i].1.reg, .int .i64 xs[i].1.ty, .int .i64 xs[i].1.n, .int .i64 xs[i].1.fl, .slice xs[i].1.ap xs[i].1.al xs[i].1.ac, .slice xs[i].1.tp xs[i].1.tl xs[i].1.tc]] ++ caps) w (Ans (.bool (P xs[i])) w)) :
    Calls Tryz.prog 91 #[.slice p n c, .func (.func g) #[] caps] W fun e w' => ∃ k : Int, e = .returned (.int .i64 k) ∧ (decide (0 ≤ k) = xs.any P) ∧ Below W.heap.size W w' := by
  obtain rfl : n = xs.length := h.1
  have hc1 := h.2.1
  have hc2 := h.2.2.1
  unfold maxLen at hc2
  have HH := Lib.hid h
  have HG := Lib.hid hg
  clear h hg
  go_enter Tryz.func91, Tryz.ntmps91
  go_wp2_with fail
  go_loopw [8] (fun t wr => ∃ i : Nat, i ≤ xs.length ∧ t = .int .i64 i ∧ Hid ((xs.take i).any P = false) ∧ Below W.heap.size W wr) (fun t _ => xs.length - (intOf t).toNat)
  case atStart => exact ⟨0, Nat.zero_le _, rfl, Lib.hid (by simp), Below.refl _ _⟩
  case round =>
    obtain ⟨i, hi, rfl, ha, hb⟩ := hrel
    by_cases hlt : i < xs.length
    · obtain ⟨a, rfl, hab, c0, c1, c2, c3, c4, c5, c6⟩ := row_L HH.out i hlt
      have k0 := (hb.cell (p := a.add (i * 7)) (by rw [add_block]; exact hab)).trans c0
      have k1 := (hb.cell (p := ⟨(a.add (i * 7)).block, (a.add (i * 7)).off + 1, none⟩) (by dsimp only; rw [add_block]; exact hab)).trans c1
      have k2 := (hb.cell (p := ⟨(a.add (i * 7)).block, (a.add (i * 7)).off + 2, none⟩) (by dsimp only; rw [add_block]; exact hab)).trans c2
      have k3 := (hb.cell (p := ⟨(a.add (i * 7)).block, (a.add (i * 7)).off + 3, none⟩) (by dsimp only; rw [add_block]; exact hab)).trans c3
      have k4 := (hb.cell (p := ⟨(a.add (i * 7)).block, (a.add (i * 7)).off + 4, none⟩) (by dsimp only; rw [add_block]; exact hab)).trans c4
      have k5 := (hb.cell (p := ⟨(a.add (i * 7)).block, (a.add (i * 7)).off + 5, none⟩) (by dsimp only; rw [add_block]; exact hab)).trans c5
      have k6 := (hb.cell (p := ⟨(a.add (i * 7)).block, (a.add (i * 7)).off + 6, none⟩) (by dsimp only; rw [add_block]; exact hab)).trans c6
      have cg := HG.out i hlt wr hb
      have HA := Lib.hid (any_take P xs i hlt ha.out)
      have HT := Lib.hid (any_hit P xs i hlt)
      have HB := Lib.hid hb
      obtain ⟨x, ex⟩ : ∃ x, xs[i] = x := ⟨_, rfl⟩
      simp only [ex] at cg HA HT k0 k1 k2 k3 k4 k5 k6
      clear ex ha hb c0 c1 c2 c3 c4 c5 c6
      obtain ⟨q, eq⟩ : ∃ q, P x = q := ⟨_, rfl⟩
      rw [eq] at cg HA HT
      clear eq
      go_wp2_with fail
      refine cg.mono ?_
      rintro e w2 ⟨rfl, hb2⟩
      have HB2 := Lib.hid (HB.out.trans (hb2.mono HB.out.size))
      clear hb2 cg
      cases q
      case false =>
        go_wp2_with fail
        exact ⟨⟨i + 1, by omega, by go_num, HA, HB2.out⟩, by simp [intOf]; omega⟩
      case true =>
        go_wp2_with fail
        go_ret
        exact ⟨i, rfl, by rw [HT.out (by first | rfl | trivial)]; simp, HB2.out⟩
    · obtain rfl : i = xs.length := by omega
      have HA := Lib.hid ha.out
      have HB := Lib.hid hb
      clear ha hb
      go_wp2_with fail
      go_ret
      refine ⟨-1, rfl, ?_, HB.out⟩
      have := HA.out
      rw [List.take_length] at this
      rw [this]
      rfl
set_option maxRecDepth 100000 in
set_option maxHeartbeats 2000000 in
theorem each_L {E : Nat → World → LI → Prop} (hE : Lasts E) (P : LI → Bool) (p : Option Addr) (n c : Nat) (xs : List LI) (W : World) (h : ListIn liC E W.heap.size W p n c xs) (g : FuncId) (caps : Array Value)
    (hen : ∀ (args : Array Value) (w : World), (callFunc g args).run Tryz.prog w = .ok (.enter g args) w)
    (hg : ∀ i (hi : i < xs.length) w, Below W.heap.size W w → Calls Tryz.prog g (#[.agg #[.int .i64 xs[i].1.op, .int .i64 xs[i].1.reg, .int .i64 xs[i].1.ty, .int .i64 xs[i].1.n, .int .i64 xs[i].1.fl, .slice xs[i].1.ap xs[i].1.al xs[i].1.ac, .slice xs[i].1.tp xs[i].1.tl xs[i].1.tc]] ++ caps) w (Ans (.bool (P xs[i])) w)) :
    Calls Tryz.prog 25 #[.slice p n c, .func (.func g) #[] caps] W (Ans (.bool (xs.all P)) W) := by
  have b0 : Below W.heap.size W (W.alloc (.cells #[.func (.func g) #[] caps] 58)) := (Below.refl _ _).alloc (Nat.le_refl _) _
  have hbox : ∀ w, Below (W.heap.size + 1) (W.alloc (.cells #[.func (.func g) #[] caps] 58)) w → w.cell? ⟨W.heap.size, 0, none⟩ = some (.func (.func g) #[] caps) := fun w hb =>
    (hb.cell (p := ⟨W.heap.size, 0, none⟩) (Nat.lt_succ_self _)).trans (by rw [World.cell?_alloc_at _ _ _ _ rfl]; rfl)
  have hW1 : (W.alloc (.cells #[.func (.func g) #[] caps] 58)).heap.size = W.heap.size + 1 := World.size_alloc _ _
  have c1 := index_L (fun x => !P x) p n c xs (W.alloc (.cells #[.func (.func g) #[] caps] 58)) (h.lasts hE b0 b0.size) 55 #[.pointer (some ⟨W.heap.size, 0, none⟩)] (fun _ _ => rfl) (fun i hi w hb => by
    rw [hW1] at hb
    have k0 := hbox w hb
    have hlt0 : W.heap.size < w.heap.size := Nat.lt_of_lt_of_le (by rw [hW1]; exact Nat.lt_succ_self _) hb.size
    have hlw : W.heap.size ≤ w.heap.size := Nat.le_of_lt hlt0
    have cg := hg i hi _ ((b0.trans (hb.mono (Nat.le_succ _))).alloc hlw (.cells #[.int .i64 xs[i].1.op, .int .i64 xs[i].1.reg, .int .i64 xs[i].1.ty, .int .i64 xs[i].1.n, .int .i64 xs[i].1.fl, .slice xs[i].1.ap xs[i].1.al xs[i].1.ac, .slice xs[i].1.tp xs[i].1.tl xs[i].1.tc] 39))
    have hb1 : Below w.heap.size w (w.alloc (.cells #[.int .i64 xs[i].1.op, .int .i64 xs[i].1.reg, .int .i64 xs[i].1.ty, .int .i64 xs[i].1.n, .int .i64 xs[i].1.fl, .slice xs[i].1.ap xs[i].1.al xs[i].1.ac, .slice xs[i].1.tp xs[i].1.tl xs[i].1.tc] 39)) := (Below.refl _ _).alloc (Nat.le_refl _) _
    show Calls Tryz.prog 55 #[.agg #[.int .i64 xs[i].1.op, .int .i64 xs[i].1.reg, .int .i64 xs[i].1.ty, .int .i64 xs[i].1.n, .int .i64 xs[i].1.fl, .slice xs[i].1.ap xs[i].1.al xs[i].1.ac, .slice xs[i].1.tp xs[i].1.tl xs[i].1.tc], .pointer (some ⟨W.heap.size, 0, none⟩)] w _
    obtain ⟨q, eq⟩ : ∃ q, P xs[i] = q := ⟨_, rfl⟩
    simp only [eq] at cg ⊢
    obtain ⟨x, ex⟩ : ∃ x, xs[i] = x := ⟨_, rfl⟩
    simp only [ex] at cg hb1 ⊢
    have HB1 := Lib.hid hb1
    clear eq ex hb hb1
    go_enter Tryz.func55, Tryz.ntmps55
    go_wp2_with fail
    refine cg.mono ?_
    rintro e w2 ⟨rfl, hb2⟩
    have HB2 := Lib.hid (HB1.out.trans (hb2.mono HB1.out.size))
    clear hb2 cg
    go_wp2_with fail
    go_ret
    exact ⟨rfl, HB2.out⟩)
  have HB := Lib.hid b0
  have HW := Lib.hid hW1
  rw [← all_not P xs]
  obtain ⟨q, eq⟩ : ∃ q, (xs.any fun x => !P x) = q := ⟨_, rfl⟩
  rw [eq] at c1 ⊢
  clear hg h hbox b0 hW1 eq
  go_enter Tryz.func25, Tryz.ntmps25
  go_wp2_with fail
  have c2 : Calls Tryz.prog 54 #[.slice p n c, .func (.func 55) #[] #[.pointer (some ⟨W.heap.size, 0, none⟩)]] (W.alloc (.cells #[.func (.func g) #[] caps] 58)) (fun e w' => e = .returned (.bool q) ∧ Below (W.heap.size + 1) (W.alloc (.cells #[.func (.func g) #[] caps] 58)) w') := by
    go_enter Tryz.func54, Tryz.ntmps54
    go_wp2_with fail
    refine c1.mono ?_
    rintro e w2 ⟨k, rfl, hk, hb2⟩
    rw [HW.out] at hb2
    have HB2 := Lib.hid hb2
    clear hb2 c1
    cases q
    all_goals
      go_wp2_with fail
      go_ret
      exact ⟨rfl, HB2.out⟩
  clear c1
  refine c2.mono ?_
  rintro e w2 ⟨rfl, hb2⟩
  have HB2 := Lib.hid (HB.out.trans (hb2.mono (Nat.le_succ _)))
  clear c2 hb2
  go_wp2_with fail
  go_ret
  exact ⟨rfl, HB2.out⟩
theorem row_A {B : Nat} {w : World} {p : Option Addr} {n c : Nat} {L : List Arg} {E : Nat → World → Arg → Prop} (h : ListIn argC E B w p n c L) (i : Nat) (hi : i < L.length) :
    ∃ a, p = some a ∧ a.block < B ∧ w.cell? (a.add (i * 3)) = some (.int .i64 L[i].kind) ∧ w.cell? ⟨(a.add (i * 3)).block, (a.add (i * 3)).off + 1, none⟩ = some (.int .i64 L[i].n) ∧ w.cell? ⟨(a.add (i * 3)).block, (a.add (i * 3)).off + 2, none⟩ = some (.int .u64 L[i].bits) := by
  obtain ⟨h1, h2, h3, h4, -⟩ := h
  obtain ⟨a, e, ha, hc⟩ := h4.at (m := 3) (fun _ => rfl) i hi (by decide)
  refine ⟨a, e, ha, hc 0 (by decide), ?_, ?_⟩
  · have := hc 1 (by decide); rw [add_add a _ 1 (by decide)] at this; exact this
  · have := hc 2 (by decide); rw [add_add a _ 2 (by decide)] at this; exact this
set_option maxRecDepth 100000 in
set_option maxHeartbeats 2000000 in
theorem index_A {E : Nat → World → Arg → Prop} (P : Arg → Bool) (p : Option Addr) (n c : Nat) (xs : List Arg) (W : World) (h : ListIn argC E W.heap.size W p n c xs) (g : FuncId) (caps : Array Value)
    (hen : ∀ (args : Array Value) (w : World), (callFunc g args).run Tryz.prog w = .ok (.enter g args) w)
    (hg : ∀ i (hi : i < xs.length) w, Below W.heap.size W w → Calls Tryz.prog g (#[.agg #[.int .i64 xs[i].kind, .int .i64 xs[i].n, .int .u64 xs[i].bits]] ++ caps) w (Ans (.bool (P xs[i])) w)) :
    Calls Tryz.prog 115 #[.slice p n c, .func (.func g) #[] caps] W fun e w' => ∃ k : Int, e = .returned (.int .i64 k) ∧ (decide (0 ≤ k) = xs.any P) ∧ Below W.heap.size W w' := by
  obtain rfl : n = xs.length := h.1
  have hc1 := h.2.1
  have hc2 := h.2.2.1
  unfold maxLen at hc2
  have HH := Lib.hid h
  have HG := Lib.hid hg
  clear h hg
  go_enter Tryz.func115, Tryz.ntmps115
  go_wp2_with fail
  go_loopw [8] (fun t wr => ∃ i : Nat, i ≤ xs.length ∧ t = .int .i64 i ∧ Hid ((xs.take i).any P = false) ∧ Below W.heap.size W wr) (fun t _ => xs.length - (intOf t).toNat)
  case atStart => exact ⟨0, Nat.zero_le _, rfl, Lib.hid (by simp), Below.refl _ _⟩
  case round =>
    obtain ⟨i, hi, rfl, ha, hb⟩ := hrel
    by_cases hlt : i < xs.length
    · obtain ⟨a, rfl, hab, c0, c1, c2⟩ := row_A HH.out i hlt
      have k0 := (hb.cell (p := a.add (i * 3)) (by rw [add_block]; exact hab)).trans c0
      have k1 := (hb.cell (p := ⟨(a.add (i * 3)).block, (a.add (i * 3)).off + 1, none⟩) (by dsimp only; rw [add_block]; exact hab)).trans c1
      have k2 := (hb.cell (p := ⟨(a.add (i * 3)).block, (a.add (i * 3)).off + 2, none⟩) (by dsimp only; rw [add_block]; exact hab)).trans c2
      have cg := HG.out i hlt wr hb
      have HA := Lib.hid (any_take P xs i hlt ha.out)
      have HT := Lib.hid (any_hit P xs i hlt)
      have HB := Lib.hid hb
      obtain ⟨x, ex⟩ : ∃ x, xs[i] = x := ⟨_, rfl⟩
      simp only [ex] at cg HA HT k0 k1 k2
      clear ex ha hb c0 c1 c2
      obtain ⟨q, eq⟩ : ∃ q, P x = q := ⟨_, rfl⟩
      rw [eq] at cg HA HT
      clear eq
      go_wp2_with fail
      refine cg.mono ?_
      rintro e w2 ⟨rfl, hb2⟩
      have HB2 := Lib.hid (HB.out.trans (hb2.mono HB.out.size))
      clear hb2 cg
      cases q
      case false =>
        go_wp2_with fail
        exact ⟨⟨i + 1, by omega, by go_num, HA, HB2.out⟩, by simp [intOf]; omega⟩
      case true =>
        go_wp2_with fail
        go_ret
        exact ⟨i, rfl, by rw [HT.out (by first | rfl | trivial)]; simp, HB2.out⟩
    · obtain rfl : i = xs.length := by omega
      have HA := Lib.hid ha.out
      have HB := Lib.hid hb
      clear ha hb
      go_wp2_with fail
      go_ret
      refine ⟨-1, rfl, ?_, HB.out⟩
      have := HA.out
      rw [List.take_length] at this
      rw [this]
      rfl
set_option maxRecDepth 100000 in
set_option maxHeartbeats 2000000 in
theorem each_A {E : Nat → World → Arg → Prop} (hE : Lasts E) (P : Arg → Bool) (p : Option Addr) (n c : Nat) (xs : List Arg) (W : World) (h : ListIn argC E W.heap.size W p n c xs) (g : FuncId) (caps : Array Value)
    (hen : ∀ (args : Array Value) (w : World), (callFunc g args).run Tryz.prog w = .ok (.enter g args) w)
    (hg : ∀ i (hi : i < xs.length) w, Below W.heap.size W w → Calls Tryz.prog g (#[.agg #[.int .i64 xs[i].kind, .int .i64 xs[i].n, .int .u64 xs[i].bits]] ++ caps) w (Ans (.bool (P xs[i])) w)) :
    Calls Tryz.prog 63 #[.slice p n c, .func (.func g) #[] caps] W (Ans (.bool (xs.all P)) W) := by
  have b0 : Below W.heap.size W (W.alloc (.cells #[.func (.func g) #[] caps] 88)) := (Below.refl _ _).alloc (Nat.le_refl _) _
  have hbox : ∀ w, Below (W.heap.size + 1) (W.alloc (.cells #[.func (.func g) #[] caps] 88)) w → w.cell? ⟨W.heap.size, 0, none⟩ = some (.func (.func g) #[] caps) := fun w hb =>
    (hb.cell (p := ⟨W.heap.size, 0, none⟩) (Nat.lt_succ_self _)).trans (by rw [World.cell?_alloc_at _ _ _ _ rfl]; rfl)
  have hW1 : (W.alloc (.cells #[.func (.func g) #[] caps] 88)).heap.size = W.heap.size + 1 := World.size_alloc _ _
  have c1 := index_A (fun x => !P x) p n c xs (W.alloc (.cells #[.func (.func g) #[] caps] 88)) (h.lasts hE b0 b0.size) 96 #[.pointer (some ⟨W.heap.size, 0, none⟩)] (fun _ _ => rfl) (fun i hi w hb => by
    rw [hW1] at hb
    have k0 := hbox w hb
    have hlt0 : W.heap.size < w.heap.size := Nat.lt_of_lt_of_le (by rw [hW1]; exact Nat.lt_succ_self _) hb.size
    have hlw : W.heap.size ≤ w.heap.size := Nat.le_of_lt hlt0
    have cg := hg i hi _ ((b0.trans (hb.mono (Nat.le_succ _))).alloc hlw (.cells #[.int .i64 xs[i].kind, .int .i64 xs[i].n, .int .u64 xs[i].bits] 86))
    have hb1 : Below w.heap.size w (w.alloc (.cells #[.int .i64 xs[i].kind, .int .i64 xs[i].n, .int .u64 xs[i].bits] 86)) := (Below.refl _ _).alloc (Nat.le_refl _) _
    show Calls Tryz.prog 96 #[.agg #[.int .i64 xs[i].kind, .int .i64 xs[i].n, .int .u64 xs[i].bits], .pointer (some ⟨W.heap.size, 0, none⟩)] w _
    obtain ⟨q, eq⟩ : ∃ q, P xs[i] = q := ⟨_, rfl⟩
    simp only [eq] at cg ⊢
    obtain ⟨x, ex⟩ : ∃ x, xs[i] = x := ⟨_, rfl⟩
    simp only [ex] at cg hb1 ⊢
    have HB1 := Lib.hid hb1
    clear eq ex hb hb1
    go_enter Tryz.func96, Tryz.ntmps96
    go_wp2_with fail
    refine cg.mono ?_
    rintro e w2 ⟨rfl, hb2⟩
    have HB2 := Lib.hid (HB1.out.trans (hb2.mono HB1.out.size))
    clear hb2 cg
    go_wp2_with fail
    go_ret
    exact ⟨rfl, HB2.out⟩)
  have HB := Lib.hid b0
  have HW := Lib.hid hW1
  rw [← all_not P xs]
  obtain ⟨q, eq⟩ : ∃ q, (xs.any fun x => !P x) = q := ⟨_, rfl⟩
  rw [eq] at c1 ⊢
  clear hg h hbox b0 hW1 eq
  go_enter Tryz.func63, Tryz.ntmps63
  go_wp2_with fail
  have c2 : Calls Tryz.prog 95 #[.slice p n c, .func (.func 96) #[] #[.pointer (some ⟨W.heap.size, 0, none⟩)]] (W.alloc (.cells #[.func (.func g) #[] caps] 88)) (fun e w' => e = .returned (.bool q) ∧ Below (W.heap.size + 1) (W.alloc (.cells #[.func (.func g) #[] caps] 88)) w') := by
    go_enter Tryz.func95, Tryz.ntmps95
    go_wp2_with fail
    refine c1.mono ?_
    rintro e w2 ⟨k, rfl, hk, hb2⟩
    rw [HW.out] at hb2
    have HB2 := Lib.hid hb2
    clear hb2 c1
    cases q
    all_goals
      go_wp2_with fail
      go_ret
      exact ⟨rfl, HB2.out⟩
  clear c1
  refine c2.mono ?_
  rintro e w2 ⟨rfl, hb2⟩
  have HB2 := Lib.hid (HB.out.trans (hb2.mono (Nat.le_succ _)))
  clear c2 hb2
  go_wp2_with fail
  go_ret
  exact ⟨rfl, HB2.out⟩
theorem row_I {B : Nat} {w : World} {p : Option Addr} {n c : Nat} {L : List Int} {E : Nat → World → Int → Prop} (h : ListIn intC E B w p n c L) (i : Nat) (hi : i < L.length) :
    ∃ a, p = some a ∧ a.block < B ∧ w.cell? (a.add i) = some (.int .i64 L[i]) := by
  obtain ⟨h1, h2, h3, h4, -⟩ := h
  obtain ⟨a, e, ha, hc⟩ := h4.at (m := 1) (fun _ => rfl) i hi (by decide)
  have := hc 0 (by decide)
  simp only [Nat.mul_one] at this
  exact ⟨a, e, ha, this⟩
set_option maxRecDepth 100000 in
set_option maxHeartbeats 2000000 in
theorem index_I {E : Nat → World → Int → Prop} (P : Int → Bool) (p : Option Addr) (n c : Nat) (xs : List Int) (W : World) (h : ListIn intC E W.heap.size W p n c xs) (g : FuncId) (caps : Array Value)
    (hen : ∀ (args : Array Value) (w : World), (callFunc g args).run Tryz.prog w = .ok (.enter g args) w)
    (hg : ∀ i (hi : i < xs.length) w, Below W.heap.size W w → Calls Tryz.prog g (#[.int .i64 xs[i]] ++ caps) w (Ans (.bool (P xs[i])) w)) :
    Calls Tryz.prog 113 #[.slice p n c, .func (.func g) #[] caps] W fun e w' => ∃ k : Int, e = .returned (.int .i64 k) ∧ (decide (0 ≤ k) = xs.any P) ∧ Below W.heap.size W w' := by
  obtain rfl : n = xs.length := h.1
  have hc1 := h.2.1
  have hc2 := h.2.2.1
  unfold maxLen at hc2
  have HH := Lib.hid h
  have HG := Lib.hid hg
  clear h hg
  go_enter Tryz.func113, Tryz.ntmps113
  go_wp2_with fail
  go_loopw [8] (fun t wr => ∃ i : Nat, i ≤ xs.length ∧ t = .int .i64 i ∧ Hid ((xs.take i).any P = false) ∧ Below W.heap.size W wr) (fun t _ => xs.length - (intOf t).toNat)
  case atStart => exact ⟨0, Nat.zero_le _, rfl, Lib.hid (by simp), Below.refl _ _⟩
  case round =>
    obtain ⟨i, hi, rfl, ha, hb⟩ := hrel
    by_cases hlt : i < xs.length
    · obtain ⟨a, rfl, hab, c0⟩ := row_I HH.out i hlt
      have k0 := (hb.cell (p := a.add i) (by rw [add_block]; exact hab)).trans c0
      have cg := HG.out i hlt wr hb
      have HA := Lib.hid (any_take P xs i hlt ha.out)
      have HT := Lib.hid (any_hit P xs i hlt)
      have HB := Lib.hid hb
      obtain ⟨x, ex⟩ : ∃ x, xs[i] = x := ⟨_, rfl⟩
      simp only [ex] at cg HA HT k0
      clear ex ha hb c0
      obtain ⟨q, eq⟩ : ∃ q, P x = q := ⟨_, rfl⟩
      rw [eq] at cg HA HT
      clear eq
      go_wp2_with fail
      refine cg.mono ?_
      rintro e w2 ⟨rfl, hb2⟩
      have HB2 := Lib.hid (HB.out.trans (hb2.mono HB.out.size))
      clear hb2 cg
      cases q
      case false =>
        go_wp2_with fail
        exact ⟨⟨i + 1, by omega, by go_num, HA, HB2.out⟩, by simp [intOf]; omega⟩
      case true =>
        go_wp2_with fail
        go_ret
        exact ⟨i, rfl, by rw [HT.out (by first | rfl | trivial)]; simp, HB2.out⟩
    · obtain rfl : i = xs.length := by omega
      have HA := Lib.hid ha.out
      have HB := Lib.hid hb
      clear ha hb
      go_wp2_with fail
      go_ret
      refine ⟨-1, rfl, ?_, HB.out⟩
      have := HA.out
      rw [List.take_length] at this
      rw [this]
      rfl
set_option maxRecDepth 100000 in
set_option maxHeartbeats 2000000 in
theorem each_I {E : Nat → World → Int → Prop} (hE : Lasts E) (P : Int → Bool) (p : Option Addr) (n c : Nat) (xs : List Int) (W : World) (h : ListIn intC E W.heap.size W p n c xs) (g : FuncId) (caps : Array Value)
    (hen : ∀ (args : Array Value) (w : World), (callFunc g args).run Tryz.prog w = .ok (.enter g args) w)
    (hg : ∀ i (hi : i < xs.length) w, Below W.heap.size W w → Calls Tryz.prog g (#[.int .i64 xs[i]] ++ caps) w (Ans (.bool (P xs[i])) w)) :
    Calls Tryz.prog 51 #[.slice p n c, .func (.func g) #[] caps] W (Ans (.bool (xs.all P)) W) := by
  have b0 : Below W.heap.size W (W.alloc (.cells #[.func (.func g) #[] caps] 80)) := (Below.refl _ _).alloc (Nat.le_refl _) _
  have hbox : ∀ w, Below (W.heap.size + 1) (W.alloc (.cells #[.func (.func g) #[] caps] 80)) w → w.cell? ⟨W.heap.size, 0, none⟩ = some (.func (.func g) #[] caps) := fun w hb =>
    (hb.cell (p := ⟨W.heap.size, 0, none⟩) (Nat.lt_succ_self _)).trans (by rw [World.cell?_alloc_at _ _ _ _ rfl]; rfl)
  have hW1 : (W.alloc (.cells #[.func (.func g) #[] caps] 80)).heap.size = W.heap.size + 1 := World.size_alloc _ _
  have c1 := index_I (fun x => !P x) p n c xs (W.alloc (.cells #[.func (.func g) #[] caps] 80)) (h.lasts hE b0 b0.size) 89 #[.pointer (some ⟨W.heap.size, 0, none⟩)] (fun _ _ => rfl) (fun i hi w hb => by
    rw [hW1] at hb
    have k0 := hbox w hb
    have hlt0 : W.heap.size < w.heap.size := Nat.lt_of_lt_of_le (by rw [hW1]; exact Nat.lt_succ_self _) hb.size
    have hlw : W.heap.size ≤ w.heap.size := Nat.le_of_lt hlt0
    have cg := hg i hi w (b0.trans (hb.mono (Nat.le_succ _)))
    have hb1 : Below w.heap.size w w := Below.refl _ _
    show Calls Tryz.prog 89 #[.int .i64 xs[i], .pointer (some ⟨W.heap.size, 0, none⟩)] w _
    obtain ⟨q, eq⟩ : ∃ q, P xs[i] = q := ⟨_, rfl⟩
    simp only [eq] at cg ⊢
    obtain ⟨x, ex⟩ : ∃ x, xs[i] = x := ⟨_, rfl⟩
    simp only [ex] at cg hb1 ⊢
    have HB1 := Lib.hid hb1
    clear eq ex hb hb1
    go_enter Tryz.func89, Tryz.ntmps89
    go_wp2_with fail
    refine cg.mono ?_
    rintro e w2 ⟨rfl, hb2⟩
    have HB2 := Lib.hid (HB1.out.trans (hb2.mono HB1.out.size))
    clear hb2 cg
    go_wp2_with fail
    go_ret
    exact ⟨rfl, HB2.out⟩)
  have HB := Lib.hid b0
  have HW := Lib.hid hW1
  rw [← all_not P xs]
  obtain ⟨q, eq⟩ : ∃ q, (xs.any fun x => !P x) = q := ⟨_, rfl⟩
  rw [eq] at c1 ⊢
  clear hg h hbox b0 hW1 eq
  go_enter Tryz.func51, Tryz.ntmps51
  go_wp2_with fail
  have c2 : Calls Tryz.prog 88 #[.slice p n c, .func (.func 89) #[] #[.pointer (some ⟨W.heap.size, 0, none⟩)]] (W.alloc (.cells #[.func (.func g) #[] caps] 80)) (fun e w' => e = .returned (.bool q) ∧ Below (W.heap.size + 1) (W.alloc (.cells #[.func (.func g) #[] caps] 80)) w') := by
    go_enter Tryz.func88, Tryz.ntmps88
    go_wp2_with fail
    refine c1.mono ?_
    rintro e w2 ⟨k, rfl, hk, hb2⟩
    rw [HW.out] at hb2
    have HB2 := Lib.hid hb2
    clear hb2 c1
    cases q
    all_goals
      go_wp2_with fail
      go_ret
      exact ⟨rfl, HB2.out⟩
  clear c1
  refine c2.mono ?_
  rintro e w2 ⟨rfl, hb2⟩
  have HB2 := Lib.hid (HB.out.trans (hb2.mono (Nat.le_succ _)))
  clear c2 hb2
  go_wp2_with fail
  go_ret
  exact ⟨rfl, HB2.out⟩
end Go.Proofs.YtmampoakdjjbiaaGreatDoor
