/- ParseStops: the walk. -/
import Derived.Test.YtjomihlnjobndaaGreatDoorMg19
import Derived.Test.YtjomihlnjobndaaGreatDoorPsGoDM
import Derived.BigQuiet
import Derived.Deep.RegionLaw
namespace Go.Proofs.YtjomihlnjobndaaGreatDoor
open Go.RowKit Go.Maps
set_option linter.unusedVariables false
set_option linter.unusedSimpArgs false
set_option maxRecDepth 100000
set_option maxHeartbeats 8000000

theorem app_list2 (a b : ByteArray) : (a ++ b).data.toList = a.data.toList ++ b.data.toList := by simp
theorem cellsVar2 : Tryz.prog.cellsOf 41 = 2 := by kernel_rfl
theorem cellsExt3 : Tryz.prog.cellsOf 70 = 3 := by kernel_rfl
theorem cellsFn4 : Tryz.prog.cellsOf 46 = 4 := by kernel_rfl
theorem slice_head {t : TypeId} {e : TypeId} (ht : Tryz.prog.underlying t = some (.slice e)) (p : Option Addr) (n c k : Nat) (hk : k ≤ c) (hc : p = none → k = 0) (s : Nat) (hs : ∀ w, (sizeOf e).run Tryz.prog w = .ok s w) (w : World) :
    (Instr.slice t (.slice p n c) none (some (.int .i64 (k : Int))) none).run Tryz.prog w = .ok (.slice p k c) w := by
  have hb : (Instr.sliceBounds true n c none (some (.int .i64 (k : Int))) none).run Tryz.prog w = .ok (0, k, c) w := by
    simp [Instr.sliceBounds, go_sem, hk]
  rcases p with _ | a
  · have := hc rfl
    subst this
    simp [Instr.slice, run_underlying ht, hb, hs, go_sem]
    try (intro h; omega)
  · simp [Instr.slice, run_underlying ht, hb, hs, go_sem, add_zero]
    try (intro h; omega)
theorem take_in {α : Type} {cel : α → List Value} {m : Nat} (hm : 0 < m) (hc : ∀ x, (cel x).length = m) {E : Nat → World → α → Prop} {B : Nat} {w : World} {p : Option Addr} {c : Nat} {xs : List α} (h : ListIn cel E B w p xs.length c xs) (k : Nat) (hk : k ≤ xs.length) : ListIn cel E B w p k c (xs.take k) := by
  obtain ⟨h1, h2, h3, h4, h5⟩ := h
  have hl : (xs.take k).length = k := by rw [List.length_take]; omega
  refine ⟨hl.symm, by omega, h3, rowAt_of (m := m) hc hm (fun i hi => ?_), fun x hx => h5 x (List.mem_of_mem_take hx)⟩
  obtain ⟨a, e, hb, hcell⟩ := h4.at (m := m) hc i (by omega) hm
  refine ⟨a, e, hb, fun r hr => ?_⟩
  rw [hcell r hr, List.getElem_take]
theorem ptr_of {α : Type} {cel : α → List Value} {m : Nat} (hm : 0 < m) (hc : ∀ x, (cel x).length = m) {E : Nat → World → α → Prop} {B : Nat} {w : World} {p : Option Addr} {n c : Nat} {xs : List α} (h : ListIn cel E B w p n c xs) (k : Nat) (hk : k ≤ xs.length) : p = none → k = 0 := by
  intro e
  by_cases h0 : k = 0
  · exact h0
  · obtain ⟨a, e2, _⟩ := h.2.2.2.1.at (m := m) hc 0 (by omega) hm
    rw [e] at e2
    cases e2
/-- How the longer text's parse ends, by what the first text's answered. -/
def PT (p : PMod) (W : World) (e : Ending) (w' : World) : Prop :=
  Below W.heap.size W w' ∧
    ((∃ c ln cl : Nat, c ≠ 0 ∧ 0 < ln ∧ e = .returned (.tuple #[.agg #[.slice none 0 0, .slice none 0 0, .slice none 0 0], .agg #[.int .i64 c, .int .i64 ln, .int .i64 cl]])) ∨
     (∃ m : LMod, Front p (modD m) ∧ ModIn w'.heap.size w' m ∧ e = .returned (.tuple #[.agg #[.slice m.vp m.vn m.vc, .slice m.xp m.xn m.xc, .slice m.fp m.fn m.fc], .agg #[.int .i64 0, .int .i64 0, .int .i64 0]])))
theorem PsEnds.stops {W w' : World} {a b : List UInt8} {e : Ending} (h : PsEnds W (a ++ 10 :: b) e w') {ts : List Tok} {p : PMod} (h1 : Lexed a 1 1 ts none) (ha : a.length ≤ 65536) (hl : (a ++ 10 :: b).length ≤ 65536) (e1 : parseP (endTk a) ts = .ok p) : PT p W e w' := by
  obtain ⟨ts', f0, hT, hB, h⟩ := h
  refine ⟨hB, ?_⟩
  obtain ⟨t2, hx, ht⟩ : ∃ t2, Lexed (a ++ 10 :: b) 1 1 t2 f0 ∧ ts' = if f0.isNone then t2 else [] := by
    rcases hT with ⟨h3, _⟩ | ⟨_, t, h3, h4⟩
    · omega
    · exact ⟨t, h3, h4⟩
  obtain ⟨o1, o2⟩ := lexed_on hx (by decide)
  rcases h with ⟨⟨c, ln, cl⟩, k1, k2, k3⟩ | ⟨k0, m, k1, k2, k3⟩
  · refine .inl ⟨c, ln, cl, k3, ?_, k2⟩
    rcases k1 with k1 | ⟨k1, k4⟩
    · exact o2 _ k1
    · rw [k1] at ht
      have : ts' = t2 := ht
      subst this
      exact parse_on (endTk_ln _) o1 k4
  · refine .inr ⟨m, ?_, k3, k2⟩
    rw [k0] at ht hx
    have : ts' = t2 := ht
    subst this
    exact parse_front ha h1 hx e1 k1
theorem join_size (a b : ByteArray) : (a ++ ⟨#[10]⟩ ++ b).size = a.size + 1 + b.size := by
  rw [ByteArray.size_append, ByteArray.size_append]
  have : (⟨#[10]⟩ : ByteArray).size = 1 := rfl
  rw [this]
theorem join_data (a b : ByteArray) : (a ++ ⟨#[10]⟩ ++ b).data.toList = a.data.toList ++ 10 :: b.data.toList := by
  rw [app_list2, app_list2, List.append_assoc]
  rfl
theorem join_parse (a b : ByteArray) (w : World) (hK : Stc w) (hq : a.size + b.size ≤ 60000) {ts : List Tok} {p : PMod} (hx : Lexed a.data.toList 1 1 ts none) (hl : a.data.toList.length ≤ 65536) (hp : parseP (endTk a.data.toList) ts = .ok p) :
    Calls Tryz.prog 10 #[.string (a ++ ⟨#[10]⟩ ++ b)] w (PT p w) := by
  have hz := join_size a b
  have hd := join_data a b
  generalize a ++ ⟨#[10]⟩ ++ b = x at hz hd
  refine (Parse_any x (by omega) w hK).mono fun e w' h => ?_
  rw [hd] at h
  refine h.stops hx hl ?_ hp
  rw [← hd, ← Lib.size_eq]
  omega
theorem parseStops_walk (a b : ByteArray) (hs : a.size ≤ 281474976710656) (hr : b.size ≤ 281474976710656) (W : World) (hK : Stc W) :
    Calls Tryz.prog 5 #[.string a, .string b] W fun e w' => e = .returned (.bool true) ∧ Below W.heap.size W w' := by
  have c0 := lives4_any W hK
  have cP : ∀ w, Below W.heap.size W w → ∀ x : ByteArray, x.size ≤ 1281474976710656 → Calls Tryz.prog 10 #[.string x] w (PsEnds w x.data.toList) := fun w hb x hx => Parse_any x (by omega) w (hK.later hb)
  have CP := Lib.hid cP
  clear cP
  go_enter Tryz.func5, Tryz.ntmps5
  go_wp2_with ((with_reducible refine c0.mono ?_); rintro e w1 ⟨rfl, hB1⟩; have c2 := CP.out w1 hB1 a (by omega))
  refine c2.mono ?_
  intro e w2 hE
  rcases hE.pb with ⟨ts, f0, hT, hB2, ⟨c, ln, cl, hc, hf, rfl⟩ | ⟨m, hf0, hp, hM, hin, rfl⟩⟩
  · have HF := Lib.hid ((((Fr.start W).later (hB1.trans (hB2.mono hB1.size))).push (g := w2.heap.size) rfl [.slice none 0 0, .slice none 0 0, .slice none 0 0] 35).push (g := w2.heap.size + 1) (by simp) [.int .i64 c, .int .i64 ln, .int .i64 cl] 26)
    have hc2 : ((c : Int) != 0) = true := by simp; omega
    clear hT hB2 hf hc hE
    go_wp2_with fail
    go_ret
    exact ⟨rfl, HF.out.1⟩
  obtain ⟨hl, hx⟩ : a.data.toList.length ≤ 65536 ∧ Lexed a.data.toList 1 1 ts none := by
    rw [hf0] at hT
    rcases hT with ⟨_, _, h4⟩ | ⟨hl, t, hx, ht⟩
    · cases h4
    · have : ts = t := ht
      subst this
      exact ⟨hl, hx⟩
  have HX := Lib.hid hx
  have HL := Lib.hid hl
  have HP := Lib.hid hp
  have F := (((Fr.start W).later (hB1.trans (hB2.mono hB1.size))).push (g := w2.heap.size) rfl [.slice m.vp m.vn m.vc, .slice m.xp m.xn m.xc, .slice m.fp m.fn m.fc] 35).push (g := w2.heap.size + 1) (by simp) [.int .i64 0, .int .i64 0, .int .i64 0] 26
  have HF := Lib.hid F
  have HI := Lib.hid (show ModIn _ _ m from past_lasts lasts_Mod hin (((Past.refl (Nat.le_refl _)).alloc (.cells #[.slice m.vp m.vn m.vc, .slice m.xp m.xn m.xc, .slice m.fp m.fn m.fc] 35)).alloc (.cells #[.int .i64 0, .int .i64 0, .int .i64 0] 26)))
  clear hT hx hl hE hf0 hp hM hin hB2 F
  by_cases q1 : 60000 < a.size + b.size
  · go_wp2_with fail
    go_ret
    exact ⟨rfl, HF.out.1⟩
  have c4 := join_parse a b _ (hK.later HF.out.1) (by omega) HX.out HL.out HP.out
  clear CP
  go_wp2_with fail
  refine c4.mono ?_
  rintro e w3 ⟨hB3, ⟨c, ln, cl, hc, hln, rfl⟩ | ⟨m', hfr, hin', rfl⟩⟩
  · have HF3 := Lib.hid (((HF.out.later hB3).push (g := w3.heap.size) rfl [.slice none 0 0, .slice none 0 0, .slice none 0 0] 35).push (g := w3.heap.size + 1) (by simp) [.int .i64 c, .int .i64 ln, .int .i64 cl] 26)
    have hc2 : ((c : Int) != 0) = true := by simp; omega
    have hl2 : (0 : Int) < (ln : Int) := by omega
    have hl3 : decide ((0 : Int) < (ln : Int)) = true := decide_eq_true hl2
    clear hB3 hc
    go_wp2_with fail
    go_ret
    exact ⟨by simp [hln], HF3.out.1⟩
  have hI := lasts_Mod _ _ _ _ _ hB3 hB3.size HI.out
  have F3 := HF.out.later hB3
  obtain ⟨vp, vn, vc, vs, xp, xn, xc, xs, fp, fn, fc, fs⟩ := m
  obtain ⟨vp', vn', vc', vs', xp', xn', xc', xs', fp', fn', fc', fs'⟩ := m'
  obtain rfl : vn = vs.length := hI.1.1
  obtain rfl : xn = xs.length := hI.2.1.1
  obtain rfl : fn = fs.length := hI.2.2.1
  obtain rfl : vn' = vs'.length := hin'.1.1
  obtain rfl : xn' = xs'.length := hin'.2.1.1
  obtain rfl : fn' = fs'.length := hin'.2.2.1
  obtain ⟨r1, r2, r3, r4, r5, r6⟩ := hfr
  simp only [modD, List.length_map] at r1 r2 r3 r4 r5 r6
  have n1 : ¬ vs'.length < vs.length := by omega
  have n2 : ¬ xs'.length < xs.length := by omega
  have n3 : ¬ fs'.length < fs.length := by omega
  have d1 := hin'.1.2.1
  have d2 := hin'.2.1.2.1
  have d3 := hin'.2.2.2.1
  have d4 := hin'.1.2.2.1
  have d5 := hin'.2.1.2.2.1
  have d6 := hin'.2.2.2.2.1
  unfold maxLen at d4 d5 d6
  simp only at d1 d2 d3 d4 d5 d6
  have sl1 := slice_head Tryz.underlying31 vp' vs'.length vc' vs.length (by omega) (ptr_of (m := 2) (by decide) (fun _ => rfl) hin'.1 vs.length r1) 2 (fun w => by simp [go_sem, cellsVar2])
  have sl2 := slice_head Tryz.underlying32 xp' xs'.length xc' xs.length (by omega) (ptr_of (m := 3) (by decide) (fun _ => rfl) hin'.2.1 xs.length r3) 3 (fun w => by simp [go_sem, cellsExt3])
  have sl3 := slice_head Tryz.underlying33 fp' fs'.length fc' fs.length (by omega) (ptr_of (m := 4) (by decide) (fun _ => rfl) hin'.2.2 fs.length r5) 4 (fun w => by simp [go_sem, cellsFn4])
  obtain ⟨x0, x1, x2⟩ := F3.c3 1 rfl
  have z1 := (F3.at 1 rfl).2.1
  have PA : Past w3.heap.size w3 ((w3.alloc (.cells #[.slice vp' vs'.length vc', .slice xp' xs'.length xc', .slice fp' fs'.length fc'] 35)).alloc (.cells #[.int .i64 0, .int .i64 0, .int .i64 0] 26)) := ((Past.refl (Nat.le_refl _)).alloc _).alloc _
  have hT : ModIn w3.heap.size w3 ⟨vp', vs.length, vc', vs'.take vs.length, xp', xs.length, xc', xs'.take xs.length, fp', fs.length, fc', fs'.take fs.length⟩ :=
    ⟨take_in (m := 2) (by decide) (fun _ => rfl) hin'.1 vs.length r1, take_in (m := 3) (by decide) (fun _ => rfl) hin'.2.1 xs.length r3, take_in (m := 4) (by decide) (fun _ => rfl) hin'.2.2 fs.length r5⟩
  have cS : ∀ w, Past w3.heap.size w3 w → Calls Tryz.prog 11 #[.agg #[.slice vp vs.length vc, .slice xp xs.length xc, .slice fp fs.length fc], .agg #[.slice vp' vs.length vc', .slice xp' xs.length xc', .slice fp' fs.length fc']] w fun e w' => e = .returned (.bool true) ∧ Below w.heap.size w w' := fun w hp =>
    (Same_any ⟨vp, vs.length, vc, vs, xp, xs.length, xc, xs, fp, fs.length, fc, fs⟩ ⟨vp', vs.length, vc', vs'.take vs.length, xp', xs.length, xc', xs'.take xs.length, fp', fs.length, fc', fs'.take fs.length⟩ w (past_lasts lasts_Mod hI hp) (past_lasts lasts_Mod hT hp)).mono fun e w' ⟨b, h1, h2, h3⟩ => ⟨by
      rw [h1, h2.2 (by
        show (⟨vs, xs.map extD, fs.map fnD⟩ : PMod) = ⟨vs'.take vs.length, (xs'.take xs.length).map extD, (fs'.take fs.length).map fnD⟩
        rw [r2, List.map_take, r4, List.map_take, r6])], h3⟩
  have HF3 := Lib.hid F3
  have HPA := Lib.hid PA
  have HCS := Lib.hid cS
  clear hI F3 hin' hT cS HI HF hB3 r1 r2 r3 r4 r5 r6 PA q1
  go_wp2_with fail
  -- REGION
  have F4X := ((HF3.out.push (g := w3.heap.size) rfl [.slice vp' vs'.length vc', .slice xp' xs'.length xc', .slice fp' fs'.length fc'] 35).push (g := w3.heap.size + 1) (by simp) [.int .i64 0, .int .i64 0, .int .i64 0] 26).drew
  obtain ⟨w4, e4⟩ : ∃ w4, ((w3.alloc (.cells #[.slice vp' vs'.length vc', .slice xp' xs'.length xc', .slice fp' fs'.length fc'] 35)).alloc (.cells #[.int .i64 0, .int .i64 0, .int .i64 0] 26)).drew = w4 := ⟨_, rfl⟩
  have F4 : Fr W [(w3.heap.size + 1, [.int .i64 0, .int .i64 0, .int .i64 0]), (w3.heap.size, [.slice vp' vs'.length vc', .slice xp' xs'.length xc', .slice fp' fs'.length fc']), (w2.heap.size + 1, [.int .i64 0, .int .i64 0, .int .i64 0]), (w2.heap.size, [.slice vp vs.length vc, .slice xp xs.length xc, .slice fp fs.length fc])] w4 := by
    rw [← e4]
    exact F4X
  have hm0 : w4.cell? ⟨w2.heap.size, 0, none⟩ = some (.slice vp vs.length vc) := (F4.c3 3 rfl).1
  have hm1 : w4.cell? ⟨w2.heap.size, 1, none⟩ = some (.slice xp xs.length xc) := (F4.c3 3 rfl).2.1
  have hm2 : w4.cell? ⟨w2.heap.size, 2, none⟩ = some (.slice fp fs.length fc) := (F4.c3 3 rfl).2.2
  obtain ⟨y0, y1, y2⟩ := F4.c3 1 rfl
  have fz : ∀ i, w4.frozen? ⟨w3.heap.size, i, none⟩ = false := (F4.at 1 rfl).2.2.1
  have HF4 := Lib.hid F4
  have HP4 := Lib.hid (show Past w3.heap.size w3 w4 by rw [← e4]; exact HPA.out.drew)
  refine wp_region_noPanic ?_
  refine wp_region_held_drew (S := fun w' => w'.cell? ⟨w2.heap.size, 0, none⟩ = some (.slice vp vs.length vc) ∧ w'.cell? ⟨w2.heap.size, 1, none⟩ = some (.slice xp xs.length xc) ∧ w'.cell? ⟨w2.heap.size, 2, none⟩ = some (.slice fp fs.length fc)) (by kernel_rfl) ?_ (fun hHeld => ?_)
  · rw [e4]
    exact ⟨hm0, hm1, hm2⟩
  simp only [e4] at hHeld ⊢
  clear e4 F4
  refine wpAnyH_take (i := 0) (v := ?_) rfl (by kernel_rfl) (by kernel_rfl) (by kernel_rfl) (fun _ _ _ h => h) (Or.inl ⟨by rfl, ?_⟩) (by assumption) ?_
  rotate_left
  · intro w hSw
    try obtain ⟨ha0, ha1, ha2⟩ := hSw
    go_simp
    try (with_reducible rfl)
  try simp only [Act.put, List.setIfInBounds_toArray, List.set_cons_zero, List.set_cons_succ]
  refine wpAnyH_take (i := 2) (v := ?_) rfl (by kernel_rfl) (by kernel_rfl) (by kernel_rfl) (fun _ _ _ h => h) (Or.inl ⟨by rfl, ?_⟩) (by assumption) ?_
  rotate_left
  · intro w hSw
    try obtain ⟨ha0, ha1, ha2⟩ := hSw
    go_simp
    try (with_reducible rfl)
  try simp only [Act.put, List.setIfInBounds_toArray, List.set_cons_zero, List.set_cons_succ]
  refine wpAnyH_take (i := 3) (v := ?_) rfl (by kernel_rfl) (by kernel_rfl) (by kernel_rfl) (fun _ _ _ h => h) (Or.inl ⟨by rfl, ?_⟩) (by assumption) ?_
  rotate_left
  · intro w hSw
    try obtain ⟨ha0, ha1, ha2⟩ := hSw
    go_simp
    try (with_reducible rfl)
  try simp only [Act.put, List.setIfInBounds_toArray, List.set_cons_zero, List.set_cons_succ]
  refine wpAnyH_take (i := 4) (v := ?_) rfl (by kernel_rfl) (by kernel_rfl) (by kernel_rfl) (fun _ _ _ h => h) (Or.inl ⟨by rfl, ?_⟩) (by assumption) ?_
  rotate_left
  · intro w hSw
    try obtain ⟨ha0, ha1, ha2⟩ := hSw
    go_simp
    try (with_reducible rfl)
  try simp only [Act.put, List.setIfInBounds_toArray, List.set_cons_zero, List.set_cons_succ]
  refine wpAnyH_take (i := 6) (v := ?_) rfl (by kernel_rfl) (by kernel_rfl) (by kernel_rfl) (fun _ _ _ h => h) (Or.inl ⟨by rfl, ?_⟩) (by assumption) ?_
  rotate_left
  · intro w hSw
    try obtain ⟨ha0, ha1, ha2⟩ := hSw
    go_simp
    try (with_reducible rfl)
  try simp only [Act.put, List.setIfInBounds_toArray, List.set_cons_zero, List.set_cons_succ]
  refine wpAnyH_take (i := 8) (v := ?_) rfl (by kernel_rfl) (by kernel_rfl) (by kernel_rfl) (fun _ _ _ h => h) (Or.inl ⟨by rfl, ?_⟩) (by assumption) ?_
  rotate_left
  · intro w hSw
    try obtain ⟨ha0, ha1, ha2⟩ := hSw
    go_simp
    try (with_reducible rfl)
  try simp only [Act.put, List.setIfInBounds_toArray, List.set_cons_zero, List.set_cons_succ]
  refine wpAnyH_take (i := 9) (v := ?_) rfl (by kernel_rfl) (by kernel_rfl) (by kernel_rfl) (fun _ _ _ h => h) (Or.inl ⟨by rfl, ?_⟩) (by assumption) ?_
  rotate_left
  · intro w hSw
    try obtain ⟨ha0, ha1, ha2⟩ := hSw
    go_simp
    try (with_reducible rfl)
  try simp only [Act.put, List.setIfInBounds_toArray, List.set_cons_zero, List.set_cons_succ]
  refine wpAnyH_take (i := 10) (v := ?_) rfl (by kernel_rfl) (by kernel_rfl) (by kernel_rfl) (fun _ _ _ h => h) (Or.inl ⟨by rfl, ?_⟩) (by assumption) ?_
  rotate_left
  · intro w hSw
    try obtain ⟨ha0, ha1, ha2⟩ := hSw
    go_simp
    try (with_reducible rfl)
  try simp only [Act.put, List.setIfInBounds_toArray, List.set_cons_zero, List.set_cons_succ]
  refine wpAnyH_take (i := 12) (v := ?_) rfl (by kernel_rfl) (by kernel_rfl) (by kernel_rfl) (fun _ _ _ h => h) (Or.inl ⟨by rfl, ?_⟩) (by assumption) ?_
  rotate_left
  · intro w hSw
    try obtain ⟨ha0, ha1, ha2⟩ := hSw
    go_simp
    try (with_reducible rfl)
  try simp only [Act.put, List.setIfInBounds_toArray, List.set_cons_zero, List.set_cons_succ]
  refine wpAnyH_take (i := 14) (v := ?_) rfl (by kernel_rfl) (by kernel_rfl) (by kernel_rfl) (fun _ _ _ h => h) (Or.inl ⟨by rfl, ?_⟩) (by assumption) ?_
  rotate_left
  · intro w hSw
    try obtain ⟨ha0, ha1, ha2⟩ := hSw
    go_simp
    try (with_reducible rfl)
  try simp only [Act.put, List.setIfInBounds_toArray, List.set_cons_zero, List.set_cons_succ]
  refine wpAnyH_take (i := 15) (v := ?_) rfl (by kernel_rfl) (by kernel_rfl) (by kernel_rfl) (fun _ _ _ h => h) (Or.inl ⟨by rfl, ?_⟩) (by assumption) ?_
  rotate_left
  · intro w hSw
    try obtain ⟨ha0, ha1, ha2⟩ := hSw
    go_simp
    try (with_reducible rfl)
  try simp only [Act.put, List.setIfInBounds_toArray, List.set_cons_zero, List.set_cons_succ]
  refine wpAnyH_take (i := 16) (v := ?_) rfl (by kernel_rfl) (by kernel_rfl) (by kernel_rfl) (fun _ _ _ h => h) (Or.inl ⟨by rfl, ?_⟩) (by assumption) ?_
  rotate_left
  · intro w hSw
    try obtain ⟨ha0, ha1, ha2⟩ := hSw
    go_simp
    try (with_reducible rfl)
  try simp only [Act.put, List.setIfInBounds_toArray, List.set_cons_zero, List.set_cons_succ]
  refine wpAnyH_ready (rs := [1, 7, 13]) (by kernel_rfl) (by simp) ?_
  refine AllReadyH.cons rfl (fun K hK => ?_) ?_
  · go_simp
    refine hK.out _ _ ?_ (fun hHeld => ?_)
    · try dsimp only
      first | (with_reducible assumption) | (exact ⟨by (repeat rw [World.cell?_setCell_far _ _ _ _ (by dsimp only; omega)]); with_reducible assumption, by (repeat rw [World.cell?_setCell_far _ _ _ _ (by dsimp only; omega)]); with_reducible assumption, by (repeat rw [World.cell?_setCell_far _ _ _ _ (by dsimp only; omega)]); with_reducible assumption⟩)
    clear hK K
    try simp only [Act.put, List.setIfInBounds_toArray, List.set_cons_zero, List.set_cons_succ]
    refine wpAnyH_take (i := 5) (v := ?_) rfl (by kernel_rfl) (by kernel_rfl) (by kernel_rfl) (fun _ _ _ h => h) (Or.inl ⟨by rfl, ?_⟩) (by assumption) ?_
    rotate_left
    · intro w hSw
      go_simp
      try (with_reducible rfl)
      try (with_reducible rfl)
    try simp only [Act.put, List.setIfInBounds_toArray, List.set_cons_zero, List.set_cons_succ]
    refine wpAnyH_ready (rs := [7, 13]) (by kernel_rfl) (by simp) ?_
    refine AllReadyH.cons rfl (fun K hK => ?_) ?_
    · go_simp
      refine hK.out _ _ ?_ (fun hHeld => ?_)
      · try dsimp only
        first | (with_reducible assumption) | (exact ⟨by (repeat rw [World.cell?_setCell_far _ _ _ _ (by dsimp only; omega)]); with_reducible assumption, by (repeat rw [World.cell?_setCell_far _ _ _ _ (by dsimp only; omega)]); with_reducible assumption, by (repeat rw [World.cell?_setCell_far _ _ _ _ (by dsimp only; omega)]); with_reducible assumption⟩)
      clear hK K
      try simp only [Act.put, List.setIfInBounds_toArray, List.set_cons_zero, List.set_cons_succ]
      refine wpAnyH_take (i := 11) (v := ?_) rfl (by kernel_rfl) (by kernel_rfl) (by kernel_rfl) (fun _ _ _ h => h) (Or.inl ⟨by rfl, ?_⟩) (by assumption) ?_
      rotate_left
      · intro w hSw
        go_simp
        try (with_reducible rfl)
        try (with_reducible rfl)
      try simp only [Act.put, List.setIfInBounds_toArray, List.set_cons_zero, List.set_cons_succ]
      refine wpAnyH_ready (rs := [13]) (by kernel_rfl) (by simp) ?_
      refine AllReadyH.cons rfl (fun K hK => ?_) ?_
      · go_simp
        refine hK.out _ _ ?_ (fun hHeld => ?_)
        · try dsimp only
          first | (with_reducible assumption) | (exact ⟨by (repeat rw [World.cell?_setCell_far _ _ _ _ (by dsimp only; omega)]); with_reducible assumption, by (repeat rw [World.cell?_setCell_far _ _ _ _ (by dsimp only; omega)]); with_reducible assumption, by (repeat rw [World.cell?_setCell_far _ _ _ _ (by dsimp only; omega)]); with_reducible assumption⟩)
        clear hK K
        try simp only [Act.put, List.setIfInBounds_toArray, List.set_cons_zero, List.set_cons_succ]
        refine wpAnyH_take (i := 17) (v := ?_) rfl (by kernel_rfl) (by kernel_rfl) (by kernel_rfl) (fun _ _ _ h => h) (Or.inl ⟨by rfl, ?_⟩) (by assumption) ?_
        rotate_left
        · intro w hSw
          go_simp
          try (with_reducible rfl)
          try (with_reducible rfl)
        try simp only [Act.put, List.setIfInBounds_toArray, List.set_cons_zero, List.set_cons_succ]
        refine wpAnyH_take (i := 18) (v := ?_) rfl (by kernel_rfl) (by kernel_rfl) (by kernel_rfl) (fun _ _ _ h => h) (Or.inl ⟨by rfl, ?_⟩) (by assumption) ?_
        rotate_left
        · intro w hSw
          try obtain ⟨ha0, ha1, ha2⟩ := hSw
          go_simp
          try (with_reducible rfl)
        try simp only [Act.put, List.setIfInBounds_toArray, List.set_cons_zero, List.set_cons_succ]
        refine wpAnyH_ready (rs := [19]) (by kernel_rfl) (by simp) ?_
        refine AllReadyH.cons rfl (fun K hK => ?_) ?_
        · go_simp
          refine hK.out _ _ ?_ (fun hHeld => ?_)
          · try dsimp only
            first | (with_reducible assumption) | (exact ⟨by (repeat rw [World.cell?_setCell_far _ _ _ _ (by dsimp only; omega)]); with_reducible assumption, by (repeat rw [World.cell?_setCell_far _ _ _ _ (by dsimp only; omega)]); with_reducible assumption, by (repeat rw [World.cell?_setCell_far _ _ _ _ (by dsimp only; omega)]); with_reducible assumption⟩)
          clear hK K
          try simp only [Act.put, List.setIfInBounds_toArray, List.set_cons_zero, List.set_cons_succ]
          refine wpAnyH_take (i := 20) (v := ?_) rfl (by kernel_rfl) (by kernel_rfl) (by kernel_rfl) (fun _ _ _ h => h) (Or.inl ⟨by rfl, ?_⟩) (by assumption) ?_
          rotate_left
          · intro w hSw
            try obtain ⟨ha0, ha1, ha2⟩ := hSw
            go_simp
            try (with_reducible rfl)
          try simp only [Act.put, List.setIfInBounds_toArray, List.set_cons_zero, List.set_cons_succ]
          refine wpAnyH_ready (rs := [21]) (by kernel_rfl) (by simp) ?_
          refine AllReadyH.cons rfl (fun K hK => ?_) ?_
          · go_simp
            refine hK.out _ _ ?_ (fun hHeld => ?_)
            · try dsimp only
              first | (with_reducible assumption) | (exact ⟨by (repeat rw [World.cell?_setCell_far _ _ _ _ (by dsimp only; omega)]); with_reducible assumption, by (repeat rw [World.cell?_setCell_far _ _ _ _ (by dsimp only; omega)]); with_reducible assumption, by (repeat rw [World.cell?_setCell_far _ _ _ _ (by dsimp only; omega)]); with_reducible assumption⟩)
            clear hK K
            try simp only [Act.put, List.setIfInBounds_toArray, List.set_cons_zero, List.set_cons_succ]
            refine wpAnyH_take (i := 22) (v := ?_) rfl (by kernel_rfl) (by kernel_rfl) (by kernel_rfl) (fun _ _ _ h => h) (Or.inl ⟨by rfl, ?_⟩) (by assumption) ?_
            rotate_left
            · intro w hSw
              try obtain ⟨ha0, ha1, ha2⟩ := hSw
              go_simp
              try (with_reducible rfl)
            try simp only [Act.put, List.setIfInBounds_toArray, List.set_cons_zero, List.set_cons_succ]
            refine wpAnyH_ready (rs := [23]) (by kernel_rfl) (by simp) ?_
            refine AllReadyH.cons rfl (fun K hK => ?_) ?_
            · go_simp
              refine hK.out _ _ ?_ (fun hHeld => ?_)
              · try dsimp only
                first | (with_reducible assumption) | (exact ⟨by (repeat rw [World.cell?_setCell_far _ _ _ _ (by dsimp only; omega)]); with_reducible assumption, by (repeat rw [World.cell?_setCell_far _ _ _ _ (by dsimp only; omega)]); with_reducible assumption, by (repeat rw [World.cell?_setCell_far _ _ _ _ (by dsimp only; omega)]); with_reducible assumption⟩)
              clear hK K
              try simp only [Act.put, List.setIfInBounds_toArray, List.set_cons_zero, List.set_cons_succ]
              refine wpAnyH_done (by kernel_rfl) ?_ _
              refine NoPanic.normal ?_
              obtain ⟨w5, e5⟩ : ∃ w5, (((w4.setCell ⟨w3.heap.size, 0, none⟩ (.slice vp' vs.length vc')).setCell ⟨w3.heap.size, 1, none⟩ (.slice xp' xs.length xc')).setCell ⟨w3.heap.size, 2, none⟩ (.slice fp' fs.length fc')) = w5 := ⟨_, rfl⟩
              have g5 := (HF4.out.at 1 rfl).1
              have B5 : Box w3.heap.size [.slice vp' vs.length vc', .slice xp' xs.length xc', .slice fp' fs.length fc'] w5 := by rw [← e5]; exact (((HF4.out.at 1 rfl).2.set 0 (.slice vp' vs.length vc')).set 1 (.slice xp' xs.length xc')).set 2 (.slice fp' fs.length fc')
              have P5 : Past W.heap.size W w5 := by rw [← e5]; exact ((HF4.out.past.set (a := ⟨w3.heap.size, 0, none⟩) (by dsimp only; omega) (.slice vp' vs.length vc')).set (a := ⟨w3.heap.size, 1, none⟩) (by dsimp only; omega) (.slice xp' xs.length xc')).set (a := ⟨w3.heap.size, 2, none⟩) (by dsimp only; omega) (.slice fp' fs.length fc')
              have Q5 : Past w3.heap.size w3 w5 := by rw [← e5]; exact ((HP4.out.set (a := ⟨w3.heap.size, 0, none⟩) (by dsimp only; omega) (.slice vp' vs.length vc')).set (a := ⟨w3.heap.size, 1, none⟩) (by dsimp only; omega) (.slice xp' xs.length xc')).set (a := ⟨w3.heap.size, 2, none⟩) (by dsimp only; omega) (.slice fp' fs.length fc')
              rw [e5] at hHeld
              obtain ⟨k0, k1, k2⟩ := hHeld
              have j0 := B5.get 0 _ rfl
              have j1 := B5.get 1 _ rfl
              have j2 := B5.get 2 _ rfl
              simp only [e5]
              clear e5 y0 y1 y2 hm0 hm1 hm2 x0 x1 x2 fz B5 HF4 HP4 HPA HF3 sl1 sl2 sl3
              have HP5 := Lib.hid P5
              have HQ5 := Lib.hid Q5
              clear P5 Q5
              go_wp2_with ((with_reducible refine (HCS.out _ HQ5.out).mono ?_); rintro e w6 ⟨rfl, hb6⟩)
              go_ret
              exact ⟨rfl, HP5.out.2.trans (hb6.mono HP5.out.2.size)⟩
            exact AllReadyH.nil
          exact AllReadyH.nil
        exact AllReadyH.nil
      exact AllReadyH.nil
    refine AllReadyH.cons rfl (fun K hK => ?_) ?_
    · go_simp
      refine hK.out _ _ ?_ (fun hHeld => ?_)
      · try dsimp only
        first | (with_reducible assumption) | (exact ⟨by (repeat rw [World.cell?_setCell_far _ _ _ _ (by dsimp only; omega)]); with_reducible assumption, by (repeat rw [World.cell?_setCell_far _ _ _ _ (by dsimp only; omega)]); with_reducible assumption, by (repeat rw [World.cell?_setCell_far _ _ _ _ (by dsimp only; omega)]); with_reducible assumption⟩)
      clear hK K
      try simp only [Act.put, List.setIfInBounds_toArray, List.set_cons_zero, List.set_cons_succ]
      refine wpAnyH_take (i := 17) (v := ?_) rfl (by kernel_rfl) (by kernel_rfl) (by kernel_rfl) (fun _ _ _ h => h) (Or.inl ⟨by rfl, ?_⟩) (by assumption) ?_
      rotate_left
      · intro w hSw
        go_simp
        try (with_reducible rfl)
        try (with_reducible rfl)
      try simp only [Act.put, List.setIfInBounds_toArray, List.set_cons_zero, List.set_cons_succ]
      refine wpAnyH_ready (rs := [7]) (by kernel_rfl) (by simp) ?_
      refine AllReadyH.cons rfl (fun K hK => ?_) ?_
      · go_simp
        refine hK.out _ _ ?_ (fun hHeld => ?_)
        · try dsimp only
          first | (with_reducible assumption) | (exact ⟨by (repeat rw [World.cell?_setCell_far _ _ _ _ (by dsimp only; omega)]); with_reducible assumption, by (repeat rw [World.cell?_setCell_far _ _ _ _ (by dsimp only; omega)]); with_reducible assumption, by (repeat rw [World.cell?_setCell_far _ _ _ _ (by dsimp only; omega)]); with_reducible assumption⟩)
        clear hK K
        try simp only [Act.put, List.setIfInBounds_toArray, List.set_cons_zero, List.set_cons_succ]
        refine wpAnyH_take (i := 11) (v := ?_) rfl (by kernel_rfl) (by kernel_rfl) (by kernel_rfl) (fun _ _ _ h => h) (Or.inl ⟨by rfl, ?_⟩) (by assumption) ?_
        rotate_left
        · intro w hSw
          go_simp
          try (with_reducible rfl)
          try (with_reducible rfl)
        try simp only [Act.put, List.setIfInBounds_toArray, List.set_cons_zero, List.set_cons_succ]
        refine wpAnyH_take (i := 18) (v := ?_) rfl (by kernel_rfl) (by kernel_rfl) (by kernel_rfl) (fun _ _ _ h => h) (Or.inl ⟨by rfl, ?_⟩) (by assumption) ?_
        rotate_left
        · intro w hSw
          try obtain ⟨ha0, ha1, ha2⟩ := hSw
          go_simp
          try (with_reducible rfl)
        try simp only [Act.put, List.setIfInBounds_toArray, List.set_cons_zero, List.set_cons_succ]
        refine wpAnyH_ready (rs := [19]) (by kernel_rfl) (by simp) ?_
        refine AllReadyH.cons rfl (fun K hK => ?_) ?_
        · go_simp
          refine hK.out _ _ ?_ (fun hHeld => ?_)
          · try dsimp only
            first | (with_reducible assumption) | (exact ⟨by (repeat rw [World.cell?_setCell_far _ _ _ _ (by dsimp only; omega)]); with_reducible assumption, by (repeat rw [World.cell?_setCell_far _ _ _ _ (by dsimp only; omega)]); with_reducible assumption, by (repeat rw [World.cell?_setCell_far _ _ _ _ (by dsimp only; omega)]); with_reducible assumption⟩)
          clear hK K
          try simp only [Act.put, List.setIfInBounds_toArray, List.set_cons_zero, List.set_cons_succ]
          refine wpAnyH_take (i := 20) (v := ?_) rfl (by kernel_rfl) (by kernel_rfl) (by kernel_rfl) (fun _ _ _ h => h) (Or.inl ⟨by rfl, ?_⟩) (by assumption) ?_
          rotate_left
          · intro w hSw
            try obtain ⟨ha0, ha1, ha2⟩ := hSw
            go_simp
            try (with_reducible rfl)
          try simp only [Act.put, List.setIfInBounds_toArray, List.set_cons_zero, List.set_cons_succ]
          refine wpAnyH_ready (rs := [21]) (by kernel_rfl) (by simp) ?_
          refine AllReadyH.cons rfl (fun K hK => ?_) ?_
          · go_simp
            refine hK.out _ _ ?_ (fun hHeld => ?_)
            · try dsimp only
              first | (with_reducible assumption) | (exact ⟨by (repeat rw [World.cell?_setCell_far _ _ _ _ (by dsimp only; omega)]); with_reducible assumption, by (repeat rw [World.cell?_setCell_far _ _ _ _ (by dsimp only; omega)]); with_reducible assumption, by (repeat rw [World.cell?_setCell_far _ _ _ _ (by dsimp only; omega)]); with_reducible assumption⟩)
            clear hK K
            try simp only [Act.put, List.setIfInBounds_toArray, List.set_cons_zero, List.set_cons_succ]
            refine wpAnyH_take (i := 22) (v := ?_) rfl (by kernel_rfl) (by kernel_rfl) (by kernel_rfl) (fun _ _ _ h => h) (Or.inl ⟨by rfl, ?_⟩) (by assumption) ?_
            rotate_left
            · intro w hSw
              try obtain ⟨ha0, ha1, ha2⟩ := hSw
              go_simp
              try (with_reducible rfl)
            try simp only [Act.put, List.setIfInBounds_toArray, List.set_cons_zero, List.set_cons_succ]
            refine wpAnyH_ready (rs := [23]) (by kernel_rfl) (by simp) ?_
            refine AllReadyH.cons rfl (fun K hK => ?_) ?_
            · go_simp
              refine hK.out _ _ ?_ (fun hHeld => ?_)
              · try dsimp only
                first | (with_reducible assumption) | (exact ⟨by (repeat rw [World.cell?_setCell_far _ _ _ _ (by dsimp only; omega)]); with_reducible assumption, by (repeat rw [World.cell?_setCell_far _ _ _ _ (by dsimp only; omega)]); with_reducible assumption, by (repeat rw [World.cell?_setCell_far _ _ _ _ (by dsimp only; omega)]); with_reducible assumption⟩)
              clear hK K
              try simp only [Act.put, List.setIfInBounds_toArray, List.set_cons_zero, List.set_cons_succ]
              refine wpAnyH_done (by kernel_rfl) ?_ _
              refine NoPanic.normal ?_
              obtain ⟨w5, e5⟩ : ∃ w5, (((w4.setCell ⟨w3.heap.size, 0, none⟩ (.slice vp' vs.length vc')).setCell ⟨w3.heap.size, 1, none⟩ (.slice xp' xs.length xc')).setCell ⟨w3.heap.size, 2, none⟩ (.slice fp' fs.length fc')) = w5 := ⟨_, rfl⟩
              have g5 := (HF4.out.at 1 rfl).1
              have B5 : Box w3.heap.size [.slice vp' vs.length vc', .slice xp' xs.length xc', .slice fp' fs.length fc'] w5 := by rw [← e5]; exact (((HF4.out.at 1 rfl).2.set 0 (.slice vp' vs.length vc')).set 1 (.slice xp' xs.length xc')).set 2 (.slice fp' fs.length fc')
              have P5 : Past W.heap.size W w5 := by rw [← e5]; exact ((HF4.out.past.set (a := ⟨w3.heap.size, 0, none⟩) (by dsimp only; omega) (.slice vp' vs.length vc')).set (a := ⟨w3.heap.size, 1, none⟩) (by dsimp only; omega) (.slice xp' xs.length xc')).set (a := ⟨w3.heap.size, 2, none⟩) (by dsimp only; omega) (.slice fp' fs.length fc')
              have Q5 : Past w3.heap.size w3 w5 := by rw [← e5]; exact ((HP4.out.set (a := ⟨w3.heap.size, 0, none⟩) (by dsimp only; omega) (.slice vp' vs.length vc')).set (a := ⟨w3.heap.size, 1, none⟩) (by dsimp only; omega) (.slice xp' xs.length xc')).set (a := ⟨w3.heap.size, 2, none⟩) (by dsimp only; omega) (.slice fp' fs.length fc')
              rw [e5] at hHeld
              obtain ⟨k0, k1, k2⟩ := hHeld
              have j0 := B5.get 0 _ rfl
              have j1 := B5.get 1 _ rfl
              have j2 := B5.get 2 _ rfl
              simp only [e5]
              clear e5 y0 y1 y2 hm0 hm1 hm2 x0 x1 x2 fz B5 HF4 HP4 HPA HF3 sl1 sl2 sl3
              have HP5 := Lib.hid P5
              have HQ5 := Lib.hid Q5
              clear P5 Q5
              go_wp2_with ((with_reducible refine (HCS.out _ HQ5.out).mono ?_); rintro e w6 ⟨rfl, hb6⟩)
              go_ret
              exact ⟨rfl, HP5.out.2.trans (hb6.mono HP5.out.2.size)⟩
            exact AllReadyH.nil
          exact AllReadyH.nil
        exact AllReadyH.nil
      exact AllReadyH.nil
    exact AllReadyH.nil
  refine AllReadyH.cons rfl (fun K hK => ?_) ?_
  · go_simp
    refine hK.out _ _ ?_ (fun hHeld => ?_)
    · try dsimp only
      first | (with_reducible assumption) | (exact ⟨by (repeat rw [World.cell?_setCell_far _ _ _ _ (by dsimp only; omega)]); with_reducible assumption, by (repeat rw [World.cell?_setCell_far _ _ _ _ (by dsimp only; omega)]); with_reducible assumption, by (repeat rw [World.cell?_setCell_far _ _ _ _ (by dsimp only; omega)]); with_reducible assumption⟩)
    clear hK K
    try simp only [Act.put, List.setIfInBounds_toArray, List.set_cons_zero, List.set_cons_succ]
    refine wpAnyH_take (i := 11) (v := ?_) rfl (by kernel_rfl) (by kernel_rfl) (by kernel_rfl) (fun _ _ _ h => h) (Or.inl ⟨by rfl, ?_⟩) (by assumption) ?_
    rotate_left
    · intro w hSw
      go_simp
      try (with_reducible rfl)
      try (with_reducible rfl)
    try simp only [Act.put, List.setIfInBounds_toArray, List.set_cons_zero, List.set_cons_succ]
    refine wpAnyH_ready (rs := [1, 13]) (by kernel_rfl) (by simp) ?_
    refine AllReadyH.cons rfl (fun K hK => ?_) ?_
    · go_simp
      refine hK.out _ _ ?_ (fun hHeld => ?_)
      · try dsimp only
        first | (with_reducible assumption) | (exact ⟨by (repeat rw [World.cell?_setCell_far _ _ _ _ (by dsimp only; omega)]); with_reducible assumption, by (repeat rw [World.cell?_setCell_far _ _ _ _ (by dsimp only; omega)]); with_reducible assumption, by (repeat rw [World.cell?_setCell_far _ _ _ _ (by dsimp only; omega)]); with_reducible assumption⟩)
      clear hK K
      try simp only [Act.put, List.setIfInBounds_toArray, List.set_cons_zero, List.set_cons_succ]
      refine wpAnyH_take (i := 5) (v := ?_) rfl (by kernel_rfl) (by kernel_rfl) (by kernel_rfl) (fun _ _ _ h => h) (Or.inl ⟨by rfl, ?_⟩) (by assumption) ?_
      rotate_left
      · intro w hSw
        go_simp
        try (with_reducible rfl)
        try (with_reducible rfl)
      try simp only [Act.put, List.setIfInBounds_toArray, List.set_cons_zero, List.set_cons_succ]
      refine wpAnyH_ready (rs := [13]) (by kernel_rfl) (by simp) ?_
      refine AllReadyH.cons rfl (fun K hK => ?_) ?_
      · go_simp
        refine hK.out _ _ ?_ (fun hHeld => ?_)
        · try dsimp only
          first | (with_reducible assumption) | (exact ⟨by (repeat rw [World.cell?_setCell_far _ _ _ _ (by dsimp only; omega)]); with_reducible assumption, by (repeat rw [World.cell?_setCell_far _ _ _ _ (by dsimp only; omega)]); with_reducible assumption, by (repeat rw [World.cell?_setCell_far _ _ _ _ (by dsimp only; omega)]); with_reducible assumption⟩)
        clear hK K
        try simp only [Act.put, List.setIfInBounds_toArray, List.set_cons_zero, List.set_cons_succ]
        refine wpAnyH_take (i := 17) (v := ?_) rfl (by kernel_rfl) (by kernel_rfl) (by kernel_rfl) (fun _ _ _ h => h) (Or.inl ⟨by rfl, ?_⟩) (by assumption) ?_
        rotate_left
        · intro w hSw
          go_simp
          try (with_reducible rfl)
          try (with_reducible rfl)
        try simp only [Act.put, List.setIfInBounds_toArray, List.set_cons_zero, List.set_cons_succ]
        refine wpAnyH_take (i := 18) (v := ?_) rfl (by kernel_rfl) (by kernel_rfl) (by kernel_rfl) (fun _ _ _ h => h) (Or.inl ⟨by rfl, ?_⟩) (by assumption) ?_
        rotate_left
        · intro w hSw
          try obtain ⟨ha0, ha1, ha2⟩ := hSw
          go_simp
          try (with_reducible rfl)
        try simp only [Act.put, List.setIfInBounds_toArray, List.set_cons_zero, List.set_cons_succ]
        refine wpAnyH_ready (rs := [19]) (by kernel_rfl) (by simp) ?_
        refine AllReadyH.cons rfl (fun K hK => ?_) ?_
        · go_simp
          refine hK.out _ _ ?_ (fun hHeld => ?_)
          · try dsimp only
            first | (with_reducible assumption) | (exact ⟨by (repeat rw [World.cell?_setCell_far _ _ _ _ (by dsimp only; omega)]); with_reducible assumption, by (repeat rw [World.cell?_setCell_far _ _ _ _ (by dsimp only; omega)]); with_reducible assumption, by (repeat rw [World.cell?_setCell_far _ _ _ _ (by dsimp only; omega)]); with_reducible assumption⟩)
          clear hK K
          try simp only [Act.put, List.setIfInBounds_toArray, List.set_cons_zero, List.set_cons_succ]
          refine wpAnyH_take (i := 20) (v := ?_) rfl (by kernel_rfl) (by kernel_rfl) (by kernel_rfl) (fun _ _ _ h => h) (Or.inl ⟨by rfl, ?_⟩) (by assumption) ?_
          rotate_left
          · intro w hSw
            try obtain ⟨ha0, ha1, ha2⟩ := hSw
            go_simp
            try (with_reducible rfl)
          try simp only [Act.put, List.setIfInBounds_toArray, List.set_cons_zero, List.set_cons_succ]
          refine wpAnyH_ready (rs := [21]) (by kernel_rfl) (by simp) ?_
          refine AllReadyH.cons rfl (fun K hK => ?_) ?_
          · go_simp
            refine hK.out _ _ ?_ (fun hHeld => ?_)
            · try dsimp only
              first | (with_reducible assumption) | (exact ⟨by (repeat rw [World.cell?_setCell_far _ _ _ _ (by dsimp only; omega)]); with_reducible assumption, by (repeat rw [World.cell?_setCell_far _ _ _ _ (by dsimp only; omega)]); with_reducible assumption, by (repeat rw [World.cell?_setCell_far _ _ _ _ (by dsimp only; omega)]); with_reducible assumption⟩)
            clear hK K
            try simp only [Act.put, List.setIfInBounds_toArray, List.set_cons_zero, List.set_cons_succ]
            refine wpAnyH_take (i := 22) (v := ?_) rfl (by kernel_rfl) (by kernel_rfl) (by kernel_rfl) (fun _ _ _ h => h) (Or.inl ⟨by rfl, ?_⟩) (by assumption) ?_
            rotate_left
            · intro w hSw
              try obtain ⟨ha0, ha1, ha2⟩ := hSw
              go_simp
              try (with_reducible rfl)
            try simp only [Act.put, List.setIfInBounds_toArray, List.set_cons_zero, List.set_cons_succ]
            refine wpAnyH_ready (rs := [23]) (by kernel_rfl) (by simp) ?_
            refine AllReadyH.cons rfl (fun K hK => ?_) ?_
            · go_simp
              refine hK.out _ _ ?_ (fun hHeld => ?_)
              · try dsimp only
                first | (with_reducible assumption) | (exact ⟨by (repeat rw [World.cell?_setCell_far _ _ _ _ (by dsimp only; omega)]); with_reducible assumption, by (repeat rw [World.cell?_setCell_far _ _ _ _ (by dsimp only; omega)]); with_reducible assumption, by (repeat rw [World.cell?_setCell_far _ _ _ _ (by dsimp only; omega)]); with_reducible assumption⟩)
              clear hK K
              try simp only [Act.put, List.setIfInBounds_toArray, List.set_cons_zero, List.set_cons_succ]
              refine wpAnyH_done (by kernel_rfl) ?_ _
              refine NoPanic.normal ?_
              obtain ⟨w5, e5⟩ : ∃ w5, (((w4.setCell ⟨w3.heap.size, 0, none⟩ (.slice vp' vs.length vc')).setCell ⟨w3.heap.size, 1, none⟩ (.slice xp' xs.length xc')).setCell ⟨w3.heap.size, 2, none⟩ (.slice fp' fs.length fc')) = w5 := ⟨_, rfl⟩
              have g5 := (HF4.out.at 1 rfl).1
              have B5 : Box w3.heap.size [.slice vp' vs.length vc', .slice xp' xs.length xc', .slice fp' fs.length fc'] w5 := by rw [← e5]; exact (((HF4.out.at 1 rfl).2.set 0 (.slice vp' vs.length vc')).set 1 (.slice xp' xs.length xc')).set 2 (.slice fp' fs.length fc')
              have P5 : Past W.heap.size W w5 := by rw [← e5]; exact ((HF4.out.past.set (a := ⟨w3.heap.size, 0, none⟩) (by dsimp only; omega) (.slice vp' vs.length vc')).set (a := ⟨w3.heap.size, 1, none⟩) (by dsimp only; omega) (.slice xp' xs.length xc')).set (a := ⟨w3.heap.size, 2, none⟩) (by dsimp only; omega) (.slice fp' fs.length fc')
              have Q5 : Past w3.heap.size w3 w5 := by rw [← e5]; exact ((HP4.out.set (a := ⟨w3.heap.size, 0, none⟩) (by dsimp only; omega) (.slice vp' vs.length vc')).set (a := ⟨w3.heap.size, 1, none⟩) (by dsimp only; omega) (.slice xp' xs.length xc')).set (a := ⟨w3.heap.size, 2, none⟩) (by dsimp only; omega) (.slice fp' fs.length fc')
              rw [e5] at hHeld
              obtain ⟨k0, k1, k2⟩ := hHeld
              have j0 := B5.get 0 _ rfl
              have j1 := B5.get 1 _ rfl
              have j2 := B5.get 2 _ rfl
              simp only [e5]
              clear e5 y0 y1 y2 hm0 hm1 hm2 x0 x1 x2 fz B5 HF4 HP4 HPA HF3 sl1 sl2 sl3
              have HP5 := Lib.hid P5
              have HQ5 := Lib.hid Q5
              clear P5 Q5
              go_wp2_with ((with_reducible refine (HCS.out _ HQ5.out).mono ?_); rintro e w6 ⟨rfl, hb6⟩)
              go_ret
              exact ⟨rfl, HP5.out.2.trans (hb6.mono HP5.out.2.size)⟩
            exact AllReadyH.nil
          exact AllReadyH.nil
        exact AllReadyH.nil
      exact AllReadyH.nil
    refine AllReadyH.cons rfl (fun K hK => ?_) ?_
    · go_simp
      refine hK.out _ _ ?_ (fun hHeld => ?_)
      · try dsimp only
        first | (with_reducible assumption) | (exact ⟨by (repeat rw [World.cell?_setCell_far _ _ _ _ (by dsimp only; omega)]); with_reducible assumption, by (repeat rw [World.cell?_setCell_far _ _ _ _ (by dsimp only; omega)]); with_reducible assumption, by (repeat rw [World.cell?_setCell_far _ _ _ _ (by dsimp only; omega)]); with_reducible assumption⟩)
      clear hK K
      try simp only [Act.put, List.setIfInBounds_toArray, List.set_cons_zero, List.set_cons_succ]
      refine wpAnyH_take (i := 17) (v := ?_) rfl (by kernel_rfl) (by kernel_rfl) (by kernel_rfl) (fun _ _ _ h => h) (Or.inl ⟨by rfl, ?_⟩) (by assumption) ?_
      rotate_left
      · intro w hSw
        go_simp
        try (with_reducible rfl)
        try (with_reducible rfl)
      try simp only [Act.put, List.setIfInBounds_toArray, List.set_cons_zero, List.set_cons_succ]
      refine wpAnyH_ready (rs := [1]) (by kernel_rfl) (by simp) ?_
      refine AllReadyH.cons rfl (fun K hK => ?_) ?_
      · go_simp
        refine hK.out _ _ ?_ (fun hHeld => ?_)
        · try dsimp only
          first | (with_reducible assumption) | (exact ⟨by (repeat rw [World.cell?_setCell_far _ _ _ _ (by dsimp only; omega)]); with_reducible assumption, by (repeat rw [World.cell?_setCell_far _ _ _ _ (by dsimp only; omega)]); with_reducible assumption, by (repeat rw [World.cell?_setCell_far _ _ _ _ (by dsimp only; omega)]); with_reducible assumption⟩)
        clear hK K
        try simp only [Act.put, List.setIfInBounds_toArray, List.set_cons_zero, List.set_cons_succ]
        refine wpAnyH_take (i := 5) (v := ?_) rfl (by kernel_rfl) (by kernel_rfl) (by kernel_rfl) (fun _ _ _ h => h) (Or.inl ⟨by rfl, ?_⟩) (by assumption) ?_
        rotate_left
        · intro w hSw
          go_simp
          try (with_reducible rfl)
          try (with_reducible rfl)
        try simp only [Act.put, List.setIfInBounds_toArray, List.set_cons_zero, List.set_cons_succ]
        refine wpAnyH_take (i := 18) (v := ?_) rfl (by kernel_rfl) (by kernel_rfl) (by kernel_rfl) (fun _ _ _ h => h) (Or.inl ⟨by rfl, ?_⟩) (by assumption) ?_
        rotate_left
        · intro w hSw
          try obtain ⟨ha0, ha1, ha2⟩ := hSw
          go_simp
          try (with_reducible rfl)
        try simp only [Act.put, List.setIfInBounds_toArray, List.set_cons_zero, List.set_cons_succ]
        refine wpAnyH_ready (rs := [19]) (by kernel_rfl) (by simp) ?_
        refine AllReadyH.cons rfl (fun K hK => ?_) ?_
        · go_simp
          refine hK.out _ _ ?_ (fun hHeld => ?_)
          · try dsimp only
            first | (with_reducible assumption) | (exact ⟨by (repeat rw [World.cell?_setCell_far _ _ _ _ (by dsimp only; omega)]); with_reducible assumption, by (repeat rw [World.cell?_setCell_far _ _ _ _ (by dsimp only; omega)]); with_reducible assumption, by (repeat rw [World.cell?_setCell_far _ _ _ _ (by dsimp only; omega)]); with_reducible assumption⟩)
          clear hK K
          try simp only [Act.put, List.setIfInBounds_toArray, List.set_cons_zero, List.set_cons_succ]
          refine wpAnyH_take (i := 20) (v := ?_) rfl (by kernel_rfl) (by kernel_rfl) (by kernel_rfl) (fun _ _ _ h => h) (Or.inl ⟨by rfl, ?_⟩) (by assumption) ?_
          rotate_left
          · intro w hSw
            try obtain ⟨ha0, ha1, ha2⟩ := hSw
            go_simp
            try (with_reducible rfl)
          try simp only [Act.put, List.setIfInBounds_toArray, List.set_cons_zero, List.set_cons_succ]
          refine wpAnyH_ready (rs := [21]) (by kernel_rfl) (by simp) ?_
          refine AllReadyH.cons rfl (fun K hK => ?_) ?_
          · go_simp
            refine hK.out _ _ ?_ (fun hHeld => ?_)
            · try dsimp only
              first | (with_reducible assumption) | (exact ⟨by (repeat rw [World.cell?_setCell_far _ _ _ _ (by dsimp only; omega)]); with_reducible assumption, by (repeat rw [World.cell?_setCell_far _ _ _ _ (by dsimp only; omega)]); with_reducible assumption, by (repeat rw [World.cell?_setCell_far _ _ _ _ (by dsimp only; omega)]); with_reducible assumption⟩)
            clear hK K
            try simp only [Act.put, List.setIfInBounds_toArray, List.set_cons_zero, List.set_cons_succ]
            refine wpAnyH_take (i := 22) (v := ?_) rfl (by kernel_rfl) (by kernel_rfl) (by kernel_rfl) (fun _ _ _ h => h) (Or.inl ⟨by rfl, ?_⟩) (by assumption) ?_
            rotate_left
            · intro w hSw
              try obtain ⟨ha0, ha1, ha2⟩ := hSw
              go_simp
              try (with_reducible rfl)
            try simp only [Act.put, List.setIfInBounds_toArray, List.set_cons_zero, List.set_cons_succ]
            refine wpAnyH_ready (rs := [23]) (by kernel_rfl) (by simp) ?_
            refine AllReadyH.cons rfl (fun K hK => ?_) ?_
            · go_simp
              refine hK.out _ _ ?_ (fun hHeld => ?_)
              · try dsimp only
                first | (with_reducible assumption) | (exact ⟨by (repeat rw [World.cell?_setCell_far _ _ _ _ (by dsimp only; omega)]); with_reducible assumption, by (repeat rw [World.cell?_setCell_far _ _ _ _ (by dsimp only; omega)]); with_reducible assumption, by (repeat rw [World.cell?_setCell_far _ _ _ _ (by dsimp only; omega)]); with_reducible assumption⟩)
              clear hK K
              try simp only [Act.put, List.setIfInBounds_toArray, List.set_cons_zero, List.set_cons_succ]
              refine wpAnyH_done (by kernel_rfl) ?_ _
              refine NoPanic.normal ?_
              obtain ⟨w5, e5⟩ : ∃ w5, (((w4.setCell ⟨w3.heap.size, 0, none⟩ (.slice vp' vs.length vc')).setCell ⟨w3.heap.size, 1, none⟩ (.slice xp' xs.length xc')).setCell ⟨w3.heap.size, 2, none⟩ (.slice fp' fs.length fc')) = w5 := ⟨_, rfl⟩
              have g5 := (HF4.out.at 1 rfl).1
              have B5 : Box w3.heap.size [.slice vp' vs.length vc', .slice xp' xs.length xc', .slice fp' fs.length fc'] w5 := by rw [← e5]; exact (((HF4.out.at 1 rfl).2.set 0 (.slice vp' vs.length vc')).set 1 (.slice xp' xs.length xc')).set 2 (.slice fp' fs.length fc')
              have P5 : Past W.heap.size W w5 := by rw [← e5]; exact ((HF4.out.past.set (a := ⟨w3.heap.size, 0, none⟩) (by dsimp only; omega) (.slice vp' vs.length vc')).set (a := ⟨w3.heap.size, 1, none⟩) (by dsimp only; omega) (.slice xp' xs.length xc')).set (a := ⟨w3.heap.size, 2, none⟩) (by dsimp only; omega) (.slice fp' fs.length fc')
              have Q5 : Past w3.heap.size w3 w5 := by rw [← e5]; exact ((HP4.out.set (a := ⟨w3.heap.size, 0, none⟩) (by dsimp only; omega) (.slice vp' vs.length vc')).set (a := ⟨w3.heap.size, 1, none⟩) (by dsimp only; omega) (.slice xp' xs.length xc')).set (a := ⟨w3.heap.size, 2, none⟩) (by dsimp only; omega) (.slice fp' fs.length fc')
              rw [e5] at hHeld
              obtain ⟨k0, k1, k2⟩ := hHeld
              have j0 := B5.get 0 _ rfl
              have j1 := B5.get 1 _ rfl
              have j2 := B5.get 2 _ rfl
              simp only [e5]
              clear e5 y0 y1 y2 hm0 hm1 hm2 x0 x1 x2 fz B5 HF4 HP4 HPA HF3 sl1 sl2 sl3
              have HP5 := Lib.hid P5
              have HQ5 := Lib.hid Q5
              clear P5 Q5
              go_wp2_with ((with_reducible refine (HCS.out _ HQ5.out).mono ?_); rintro e w6 ⟨rfl, hb6⟩)
              go_ret
              exact ⟨rfl, HP5.out.2.trans (hb6.mono HP5.out.2.size)⟩
            exact AllReadyH.nil
          exact AllReadyH.nil
        exact AllReadyH.nil
      exact AllReadyH.nil
    exact AllReadyH.nil
  refine AllReadyH.cons rfl (fun K hK => ?_) ?_
  · go_simp
    refine hK.out _ _ ?_ (fun hHeld => ?_)
    · try dsimp only
      first | (with_reducible assumption) | (exact ⟨by (repeat rw [World.cell?_setCell_far _ _ _ _ (by dsimp only; omega)]); with_reducible assumption, by (repeat rw [World.cell?_setCell_far _ _ _ _ (by dsimp only; omega)]); with_reducible assumption, by (repeat rw [World.cell?_setCell_far _ _ _ _ (by dsimp only; omega)]); with_reducible assumption⟩)
    clear hK K
    try simp only [Act.put, List.setIfInBounds_toArray, List.set_cons_zero, List.set_cons_succ]
    refine wpAnyH_take (i := 17) (v := ?_) rfl (by kernel_rfl) (by kernel_rfl) (by kernel_rfl) (fun _ _ _ h => h) (Or.inl ⟨by rfl, ?_⟩) (by assumption) ?_
    rotate_left
    · intro w hSw
      go_simp
      try (with_reducible rfl)
      try (with_reducible rfl)
    try simp only [Act.put, List.setIfInBounds_toArray, List.set_cons_zero, List.set_cons_succ]
    refine wpAnyH_ready (rs := [1, 7]) (by kernel_rfl) (by simp) ?_
    refine AllReadyH.cons rfl (fun K hK => ?_) ?_
    · go_simp
      refine hK.out _ _ ?_ (fun hHeld => ?_)
      · try dsimp only
        first | (with_reducible assumption) | (exact ⟨by (repeat rw [World.cell?_setCell_far _ _ _ _ (by dsimp only; omega)]); with_reducible assumption, by (repeat rw [World.cell?_setCell_far _ _ _ _ (by dsimp only; omega)]); with_reducible assumption, by (repeat rw [World.cell?_setCell_far _ _ _ _ (by dsimp only; omega)]); with_reducible assumption⟩)
      clear hK K
      try simp only [Act.put, List.setIfInBounds_toArray, List.set_cons_zero, List.set_cons_succ]
      refine wpAnyH_take (i := 5) (v := ?_) rfl (by kernel_rfl) (by kernel_rfl) (by kernel_rfl) (fun _ _ _ h => h) (Or.inl ⟨by rfl, ?_⟩) (by assumption) ?_
      rotate_left
      · intro w hSw
        go_simp
        try (with_reducible rfl)
        try (with_reducible rfl)
      try simp only [Act.put, List.setIfInBounds_toArray, List.set_cons_zero, List.set_cons_succ]
      refine wpAnyH_ready (rs := [7]) (by kernel_rfl) (by simp) ?_
      refine AllReadyH.cons rfl (fun K hK => ?_) ?_
      · go_simp
        refine hK.out _ _ ?_ (fun hHeld => ?_)
        · try dsimp only
          first | (with_reducible assumption) | (exact ⟨by (repeat rw [World.cell?_setCell_far _ _ _ _ (by dsimp only; omega)]); with_reducible assumption, by (repeat rw [World.cell?_setCell_far _ _ _ _ (by dsimp only; omega)]); with_reducible assumption, by (repeat rw [World.cell?_setCell_far _ _ _ _ (by dsimp only; omega)]); with_reducible assumption⟩)
        clear hK K
        try simp only [Act.put, List.setIfInBounds_toArray, List.set_cons_zero, List.set_cons_succ]
        refine wpAnyH_take (i := 11) (v := ?_) rfl (by kernel_rfl) (by kernel_rfl) (by kernel_rfl) (fun _ _ _ h => h) (Or.inl ⟨by rfl, ?_⟩) (by assumption) ?_
        rotate_left
        · intro w hSw
          go_simp
          try (with_reducible rfl)
          try (with_reducible rfl)
        try simp only [Act.put, List.setIfInBounds_toArray, List.set_cons_zero, List.set_cons_succ]
        refine wpAnyH_take (i := 18) (v := ?_) rfl (by kernel_rfl) (by kernel_rfl) (by kernel_rfl) (fun _ _ _ h => h) (Or.inl ⟨by rfl, ?_⟩) (by assumption) ?_
        rotate_left
        · intro w hSw
          try obtain ⟨ha0, ha1, ha2⟩ := hSw
          go_simp
          try (with_reducible rfl)
        try simp only [Act.put, List.setIfInBounds_toArray, List.set_cons_zero, List.set_cons_succ]
        refine wpAnyH_ready (rs := [19]) (by kernel_rfl) (by simp) ?_
        refine AllReadyH.cons rfl (fun K hK => ?_) ?_
        · go_simp
          refine hK.out _ _ ?_ (fun hHeld => ?_)
          · try dsimp only
            first | (with_reducible assumption) | (exact ⟨by (repeat rw [World.cell?_setCell_far _ _ _ _ (by dsimp only; omega)]); with_reducible assumption, by (repeat rw [World.cell?_setCell_far _ _ _ _ (by dsimp only; omega)]); with_reducible assumption, by (repeat rw [World.cell?_setCell_far _ _ _ _ (by dsimp only; omega)]); with_reducible assumption⟩)
          clear hK K
          try simp only [Act.put, List.setIfInBounds_toArray, List.set_cons_zero, List.set_cons_succ]
          refine wpAnyH_take (i := 20) (v := ?_) rfl (by kernel_rfl) (by kernel_rfl) (by kernel_rfl) (fun _ _ _ h => h) (Or.inl ⟨by rfl, ?_⟩) (by assumption) ?_
          rotate_left
          · intro w hSw
            try obtain ⟨ha0, ha1, ha2⟩ := hSw
            go_simp
            try (with_reducible rfl)
          try simp only [Act.put, List.setIfInBounds_toArray, List.set_cons_zero, List.set_cons_succ]
          refine wpAnyH_ready (rs := [21]) (by kernel_rfl) (by simp) ?_
          refine AllReadyH.cons rfl (fun K hK => ?_) ?_
          · go_simp
            refine hK.out _ _ ?_ (fun hHeld => ?_)
            · try dsimp only
              first | (with_reducible assumption) | (exact ⟨by (repeat rw [World.cell?_setCell_far _ _ _ _ (by dsimp only; omega)]); with_reducible assumption, by (repeat rw [World.cell?_setCell_far _ _ _ _ (by dsimp only; omega)]); with_reducible assumption, by (repeat rw [World.cell?_setCell_far _ _ _ _ (by dsimp only; omega)]); with_reducible assumption⟩)
            clear hK K
            try simp only [Act.put, List.setIfInBounds_toArray, List.set_cons_zero, List.set_cons_succ]
            refine wpAnyH_take (i := 22) (v := ?_) rfl (by kernel_rfl) (by kernel_rfl) (by kernel_rfl) (fun _ _ _ h => h) (Or.inl ⟨by rfl, ?_⟩) (by assumption) ?_
            rotate_left
            · intro w hSw
              try obtain ⟨ha0, ha1, ha2⟩ := hSw
              go_simp
              try (with_reducible rfl)
            try simp only [Act.put, List.setIfInBounds_toArray, List.set_cons_zero, List.set_cons_succ]
            refine wpAnyH_ready (rs := [23]) (by kernel_rfl) (by simp) ?_
            refine AllReadyH.cons rfl (fun K hK => ?_) ?_
            · go_simp
              refine hK.out _ _ ?_ (fun hHeld => ?_)
              · try dsimp only
                first | (with_reducible assumption) | (exact ⟨by (repeat rw [World.cell?_setCell_far _ _ _ _ (by dsimp only; omega)]); with_reducible assumption, by (repeat rw [World.cell?_setCell_far _ _ _ _ (by dsimp only; omega)]); with_reducible assumption, by (repeat rw [World.cell?_setCell_far _ _ _ _ (by dsimp only; omega)]); with_reducible assumption⟩)
              clear hK K
              try simp only [Act.put, List.setIfInBounds_toArray, List.set_cons_zero, List.set_cons_succ]
              refine wpAnyH_done (by kernel_rfl) ?_ _
              refine NoPanic.normal ?_
              obtain ⟨w5, e5⟩ : ∃ w5, (((w4.setCell ⟨w3.heap.size, 0, none⟩ (.slice vp' vs.length vc')).setCell ⟨w3.heap.size, 1, none⟩ (.slice xp' xs.length xc')).setCell ⟨w3.heap.size, 2, none⟩ (.slice fp' fs.length fc')) = w5 := ⟨_, rfl⟩
              have g5 := (HF4.out.at 1 rfl).1
              have B5 : Box w3.heap.size [.slice vp' vs.length vc', .slice xp' xs.length xc', .slice fp' fs.length fc'] w5 := by rw [← e5]; exact (((HF4.out.at 1 rfl).2.set 0 (.slice vp' vs.length vc')).set 1 (.slice xp' xs.length xc')).set 2 (.slice fp' fs.length fc')
              have P5 : Past W.heap.size W w5 := by rw [← e5]; exact ((HF4.out.past.set (a := ⟨w3.heap.size, 0, none⟩) (by dsimp only; omega) (.slice vp' vs.length vc')).set (a := ⟨w3.heap.size, 1, none⟩) (by dsimp only; omega) (.slice xp' xs.length xc')).set (a := ⟨w3.heap.size, 2, none⟩) (by dsimp only; omega) (.slice fp' fs.length fc')
              have Q5 : Past w3.heap.size w3 w5 := by rw [← e5]; exact ((HP4.out.set (a := ⟨w3.heap.size, 0, none⟩) (by dsimp only; omega) (.slice vp' vs.length vc')).set (a := ⟨w3.heap.size, 1, none⟩) (by dsimp only; omega) (.slice xp' xs.length xc')).set (a := ⟨w3.heap.size, 2, none⟩) (by dsimp only; omega) (.slice fp' fs.length fc')
              rw [e5] at hHeld
              obtain ⟨k0, k1, k2⟩ := hHeld
              have j0 := B5.get 0 _ rfl
              have j1 := B5.get 1 _ rfl
              have j2 := B5.get 2 _ rfl
              simp only [e5]
              clear e5 y0 y1 y2 hm0 hm1 hm2 x0 x1 x2 fz B5 HF4 HP4 HPA HF3 sl1 sl2 sl3
              have HP5 := Lib.hid P5
              have HQ5 := Lib.hid Q5
              clear P5 Q5
              go_wp2_with ((with_reducible refine (HCS.out _ HQ5.out).mono ?_); rintro e w6 ⟨rfl, hb6⟩)
              go_ret
              exact ⟨rfl, HP5.out.2.trans (hb6.mono HP5.out.2.size)⟩
            exact AllReadyH.nil
          exact AllReadyH.nil
        exact AllReadyH.nil
      exact AllReadyH.nil
    refine AllReadyH.cons rfl (fun K hK => ?_) ?_
    · go_simp
      refine hK.out _ _ ?_ (fun hHeld => ?_)
      · try dsimp only
        first | (with_reducible assumption) | (exact ⟨by (repeat rw [World.cell?_setCell_far _ _ _ _ (by dsimp only; omega)]); with_reducible assumption, by (repeat rw [World.cell?_setCell_far _ _ _ _ (by dsimp only; omega)]); with_reducible assumption, by (repeat rw [World.cell?_setCell_far _ _ _ _ (by dsimp only; omega)]); with_reducible assumption⟩)
      clear hK K
      try simp only [Act.put, List.setIfInBounds_toArray, List.set_cons_zero, List.set_cons_succ]
      refine wpAnyH_take (i := 11) (v := ?_) rfl (by kernel_rfl) (by kernel_rfl) (by kernel_rfl) (fun _ _ _ h => h) (Or.inl ⟨by rfl, ?_⟩) (by assumption) ?_
      rotate_left
      · intro w hSw
        go_simp
        try (with_reducible rfl)
        try (with_reducible rfl)
      try simp only [Act.put, List.setIfInBounds_toArray, List.set_cons_zero, List.set_cons_succ]
      refine wpAnyH_ready (rs := [1]) (by kernel_rfl) (by simp) ?_
      refine AllReadyH.cons rfl (fun K hK => ?_) ?_
      · go_simp
        refine hK.out _ _ ?_ (fun hHeld => ?_)
        · try dsimp only
          first | (with_reducible assumption) | (exact ⟨by (repeat rw [World.cell?_setCell_far _ _ _ _ (by dsimp only; omega)]); with_reducible assumption, by (repeat rw [World.cell?_setCell_far _ _ _ _ (by dsimp only; omega)]); with_reducible assumption, by (repeat rw [World.cell?_setCell_far _ _ _ _ (by dsimp only; omega)]); with_reducible assumption⟩)
        clear hK K
        try simp only [Act.put, List.setIfInBounds_toArray, List.set_cons_zero, List.set_cons_succ]
        refine wpAnyH_take (i := 5) (v := ?_) rfl (by kernel_rfl) (by kernel_rfl) (by kernel_rfl) (fun _ _ _ h => h) (Or.inl ⟨by rfl, ?_⟩) (by assumption) ?_
        rotate_left
        · intro w hSw
          go_simp
          try (with_reducible rfl)
          try (with_reducible rfl)
        try simp only [Act.put, List.setIfInBounds_toArray, List.set_cons_zero, List.set_cons_succ]
        refine wpAnyH_take (i := 18) (v := ?_) rfl (by kernel_rfl) (by kernel_rfl) (by kernel_rfl) (fun _ _ _ h => h) (Or.inl ⟨by rfl, ?_⟩) (by assumption) ?_
        rotate_left
        · intro w hSw
          try obtain ⟨ha0, ha1, ha2⟩ := hSw
          go_simp
          try (with_reducible rfl)
        try simp only [Act.put, List.setIfInBounds_toArray, List.set_cons_zero, List.set_cons_succ]
        refine wpAnyH_ready (rs := [19]) (by kernel_rfl) (by simp) ?_
        refine AllReadyH.cons rfl (fun K hK => ?_) ?_
        · go_simp
          refine hK.out _ _ ?_ (fun hHeld => ?_)
          · try dsimp only
            first | (with_reducible assumption) | (exact ⟨by (repeat rw [World.cell?_setCell_far _ _ _ _ (by dsimp only; omega)]); with_reducible assumption, by (repeat rw [World.cell?_setCell_far _ _ _ _ (by dsimp only; omega)]); with_reducible assumption, by (repeat rw [World.cell?_setCell_far _ _ _ _ (by dsimp only; omega)]); with_reducible assumption⟩)
          clear hK K
          try simp only [Act.put, List.setIfInBounds_toArray, List.set_cons_zero, List.set_cons_succ]
          refine wpAnyH_take (i := 20) (v := ?_) rfl (by kernel_rfl) (by kernel_rfl) (by kernel_rfl) (fun _ _ _ h => h) (Or.inl ⟨by rfl, ?_⟩) (by assumption) ?_
          rotate_left
          · intro w hSw
            try obtain ⟨ha0, ha1, ha2⟩ := hSw
            go_simp
            try (with_reducible rfl)
          try simp only [Act.put, List.setIfInBounds_toArray, List.set_cons_zero, List.set_cons_succ]
          refine wpAnyH_ready (rs := [21]) (by kernel_rfl) (by simp) ?_
          refine AllReadyH.cons rfl (fun K hK => ?_) ?_
          · go_simp
            refine hK.out _ _ ?_ (fun hHeld => ?_)
            · try dsimp only
              first | (with_reducible assumption) | (exact ⟨by (repeat rw [World.cell?_setCell_far _ _ _ _ (by dsimp only; omega)]); with_reducible assumption, by (repeat rw [World.cell?_setCell_far _ _ _ _ (by dsimp only; omega)]); with_reducible assumption, by (repeat rw [World.cell?_setCell_far _ _ _ _ (by dsimp only; omega)]); with_reducible assumption⟩)
            clear hK K
            try simp only [Act.put, List.setIfInBounds_toArray, List.set_cons_zero, List.set_cons_succ]
            refine wpAnyH_take (i := 22) (v := ?_) rfl (by kernel_rfl) (by kernel_rfl) (by kernel_rfl) (fun _ _ _ h => h) (Or.inl ⟨by rfl, ?_⟩) (by assumption) ?_
            rotate_left
            · intro w hSw
              try obtain ⟨ha0, ha1, ha2⟩ := hSw
              go_simp
              try (with_reducible rfl)
            try simp only [Act.put, List.setIfInBounds_toArray, List.set_cons_zero, List.set_cons_succ]
            refine wpAnyH_ready (rs := [23]) (by kernel_rfl) (by simp) ?_
            refine AllReadyH.cons rfl (fun K hK => ?_) ?_
            · go_simp
              refine hK.out _ _ ?_ (fun hHeld => ?_)
              · try dsimp only
                first | (with_reducible assumption) | (exact ⟨by (repeat rw [World.cell?_setCell_far _ _ _ _ (by dsimp only; omega)]); with_reducible assumption, by (repeat rw [World.cell?_setCell_far _ _ _ _ (by dsimp only; omega)]); with_reducible assumption, by (repeat rw [World.cell?_setCell_far _ _ _ _ (by dsimp only; omega)]); with_reducible assumption⟩)
              clear hK K
              try simp only [Act.put, List.setIfInBounds_toArray, List.set_cons_zero, List.set_cons_succ]
              refine wpAnyH_done (by kernel_rfl) ?_ _
              refine NoPanic.normal ?_
              obtain ⟨w5, e5⟩ : ∃ w5, (((w4.setCell ⟨w3.heap.size, 0, none⟩ (.slice vp' vs.length vc')).setCell ⟨w3.heap.size, 1, none⟩ (.slice xp' xs.length xc')).setCell ⟨w3.heap.size, 2, none⟩ (.slice fp' fs.length fc')) = w5 := ⟨_, rfl⟩
              have g5 := (HF4.out.at 1 rfl).1
              have B5 : Box w3.heap.size [.slice vp' vs.length vc', .slice xp' xs.length xc', .slice fp' fs.length fc'] w5 := by rw [← e5]; exact (((HF4.out.at 1 rfl).2.set 0 (.slice vp' vs.length vc')).set 1 (.slice xp' xs.length xc')).set 2 (.slice fp' fs.length fc')
              have P5 : Past W.heap.size W w5 := by rw [← e5]; exact ((HF4.out.past.set (a := ⟨w3.heap.size, 0, none⟩) (by dsimp only; omega) (.slice vp' vs.length vc')).set (a := ⟨w3.heap.size, 1, none⟩) (by dsimp only; omega) (.slice xp' xs.length xc')).set (a := ⟨w3.heap.size, 2, none⟩) (by dsimp only; omega) (.slice fp' fs.length fc')
              have Q5 : Past w3.heap.size w3 w5 := by rw [← e5]; exact ((HP4.out.set (a := ⟨w3.heap.size, 0, none⟩) (by dsimp only; omega) (.slice vp' vs.length vc')).set (a := ⟨w3.heap.size, 1, none⟩) (by dsimp only; omega) (.slice xp' xs.length xc')).set (a := ⟨w3.heap.size, 2, none⟩) (by dsimp only; omega) (.slice fp' fs.length fc')
              rw [e5] at hHeld
              obtain ⟨k0, k1, k2⟩ := hHeld
              have j0 := B5.get 0 _ rfl
              have j1 := B5.get 1 _ rfl
              have j2 := B5.get 2 _ rfl
              simp only [e5]
              clear e5 y0 y1 y2 hm0 hm1 hm2 x0 x1 x2 fz B5 HF4 HP4 HPA HF3 sl1 sl2 sl3
              have HP5 := Lib.hid P5
              have HQ5 := Lib.hid Q5
              clear P5 Q5
              go_wp2_with ((with_reducible refine (HCS.out _ HQ5.out).mono ?_); rintro e w6 ⟨rfl, hb6⟩)
              go_ret
              exact ⟨rfl, HP5.out.2.trans (hb6.mono HP5.out.2.size)⟩
            exact AllReadyH.nil
          exact AllReadyH.nil
        exact AllReadyH.nil
      exact AllReadyH.nil
    exact AllReadyH.nil
  exact AllReadyH.nil
theorem parseStops_at (s r : ByteArray) (hs : s.size ≤ 281474976710656) (hr : r.size ≤ 281474976710656) (W : World) (hK : Stc W) :
    Calls Tryz.prog 5 #[.string s, .string r] W fun e w' => e = .returned (.bool true) ∧ Below W.heap.size W w' := parseStops_walk s r hs hr W hK
end Go.Proofs.YtjomihlnjobndaaGreatDoor
