/- Several texts in one: PgY4, PgY5, PgY6, PgY7, PgY8. -/
import Derived.Test.YtjomihlnjobndaaGreatDoorMg14
/- The parser: findCallee, new names. -/
namespace Go.Proofs.YtjomihlnjobndaaGreatDoor
open Go.RowKit Go.Maps
set_option linter.unusedVariables false
set_option linter.unusedSimpArgs false

section
variable {B b : Nat} {W w w' : World} {en : Tok} {mm : PMod} {s : RS} {Z Z' : As}
set_option maxRecDepth 100000 in
set_option maxHeartbeats 2000000 in
theorem findCallee_any (x : Tx) (h : Mk B W b en mm s Z w) :
    Calls Tryz.prog 114 #[.pointer (some ⟨b, 0, none⟩), .string (str x)] w (fun e w' => e = .returned (.tuple #[.int .i64 ((findCalP mm x).getD (-1)), .bool (findCalP mm x).isSome]) ∧ Below w.heap.size w w') := by
  obtain ⟨m, e, hP⟩ := h
  obtain ⟨c8, c9, c10, cf⟩ := hP.cells
  have bl := hP.lt
  have hmf : ∀ (fn : Fn) (first cap : Array Value) (w : World), (Instr.makeFunc fn first cap).run Tryz.prog w = .ok (.func fn first cap) w := fun _ _ _ _ => rfl
  have hb1 := (Below.refl w.heap.size w).alloc (Nat.le_refl _) (.cells #[.string (str x)] 9)
  have hP1 := hP.alloc (.cells #[.string (str x)] 9)
  have C := IndexFunc_X m.xs B m.xp m.xn m.xc _ hP1.satZ.1.2.1.1 144 #[.pointer (some ⟨w.heap.size, 0, none⟩)] (fun v => byt v.nm == x) enters_fX (fun y hy w2 hb => by
    have hc : w2.cell? ⟨w.heap.size, 0, none⟩ = some (.string (str x)) := (hb.cell (p := ⟨w.heap.size, 0, none⟩) (by simp)).trans (by rw [World.cell?_alloc_at _ _ _ _ rfl]; rfl)
    exact find1_X y.nm y.pp y.pn y.pc y.rt x w.heap.size w2 hc (by have := hb.size; simp at this; omega))
  have ex : findCalP mm x = match m.xs.findIdx? (fun v => byt v.nm == x) with | some k => some (-1 - (k : Int)) | none => (m.fs.findIdx? fun v => byt v.nm == x).map fun k : Nat => (k : Int) := by
    rw [← e]
    unfold findCalP modD
    simp only [List.findIdx?_map]
    rfl
  have HB := Lib.hid hb1
  have HP := Lib.hid hP1
  cases hx : m.xs.findIdx? (fun v => byt v.nm == x) with
  | some k =>
    rw [hx] at C ex
    have e2 : idxV (some k) = (k : Int) := rfl
    have d0 : (0 : Int) ≤ (k : Int) := by omega
    have hk : k < m.xs.length := by
      rw [List.findIdx?_eq_some_iff_getElem] at hx
      exact hx.1
    have hk2 : k ≤ 9223372036854775807 := by
      have hr := hP1.satZ.1.2.1.1
      obtain ⟨_, h2, h3, _⟩ := row_in (m := 3) (by decide) (fun _ => rfl) hr
      have h1 := hr.1
      unfold maxLen at h3
      omega
    rw [ex]
    rw [e2] at C
    clear hP hb1 hP1 ex cf c8 c10 e hx hk e2
    go_enter Tryz.func114, Tryz.ntmps114
    go_wp2_with ((with_reducible refine C.mono ?_); rintro e w2 ⟨rfl, h2⟩)
    go_ret2
    exact ⟨by simp, HB.out.trans (h2.mono HB.out.size)⟩
  | none =>
    rw [hx] at C ex
    have e2 : idxV none = -1 := rfl
    rw [e2] at C
    rw [ex, idxV_getD, ← idxV_some]
    have CF : ∀ w1, Below (w.alloc (.cells #[.string (str x)] 9)).heap.size (w.alloc (.cells #[.string (str x)] 9)) w1 → _ := fun w1 hb0 => IndexFunc_F m.fs B m.fp m.fn m.fc w1 (hP1.later hb0).satZ.1.2.2.1 145 #[.pointer (some ⟨w.heap.size, 0, none⟩)] (fun v => byt v.nm == x) enters_fF (fun y hy w2 hb => by
      have hc1 : w1.cell? ⟨w.heap.size, 0, none⟩ = some (.string (str x)) := (hb0.cell (p := ⟨w.heap.size, 0, none⟩) (by simp)).trans (by rw [World.cell?_alloc_at _ _ _ _ rfl]; rfl)
      have hl1 : w.heap.size < w1.heap.size := by have := hb0.size; simp at this; omega
      have hc : w2.cell? ⟨w.heap.size, 0, none⟩ = some (.string (str x)) := (hb.cell (p := ⟨w.heap.size, 0, none⟩) hl1).trans hc1
      exact find1_F y.nm y.pp y.pn y.pc y.rt y.bp y.bn y.bc x w.heap.size w2 hc (Nat.lt_of_lt_of_le hl1 hb.size))
    obtain ⟨v, ev⟩ : ∃ v, idxV (m.fs.findIdx? fun v => byt v.nm == x) = v := ⟨_, rfl⟩
    simp only [ev] at CF ⊢
    have HK := Lib.hid cf
    clear hb1 ex ev cf e hx e2 hP1
    have HC : Hid (∀ w1, Below (w.alloc (.cells #[.string (str x)] 9)).heap.size (w.alloc (.cells #[.string (str x)] 9)) w1 → w1.cell? ⟨b, 10, none⟩ = some (.slice m.fp m.fn m.fc) ∧ b < w1.heap.size) := fun w1 hb0 => ⟨(HP.out.later hb0).cells.2.2.1, (HP.out.later hb0).lt⟩
    clear hP
    by_cases h0 : 0 ≤ v
    all_goals
      go_enter Tryz.func114, Tryz.ntmps114
      go_wp2_with (first | ((with_reducible refine C.mono ?_); rintro e w2 ⟨rfl, h2⟩; obtain ⟨d10, bl2⟩ := HC.out _ h2) | ((with_reducible refine (CF _ h2).mono ?_); rintro e w3 ⟨rfl, h3⟩))
      go_ret2
      exact ⟨by simp [h0], HB.out.trans ((h2.trans (h3.mono h2.size)).mono HB.out.size)⟩
/-- The state with a box ahead. -/
theorem Mk.of {g : Nat} {cs : List Value} {m : LMod} (e : modD m = mm) (h : Pk B W b en (.slice m.vp m.vn m.vc) (.slice m.xp m.xn m.xc) (.slice m.fp m.fn m.fc) s ((As.and (bxs [(g, cs)]) ((As.and (modAs B m) Z)))) w) : Mk B W b en mm s ((As.and (bxs [(g, cs)]) Z)) w :=
  ⟨m, e, h.imp ⟨fun w x => ⟨x.2.1, x.1, x.2.2⟩, fun k => by simp only [As.and_c]; omega⟩⟩
set_option maxRecDepth 100000 in
set_option maxHeartbeats 4000000 in
theorem newName_ff (K : Kn B W en) (full : Bool) (ff : FuncId) (vv : Tx → Int) (told : Tx → Bool) (hen : ∀ (args : Array Value) (w : World), (callFunc ff args).run Tryz.prog w = .ok (.enter ff args) w)
    (hf : ∀ (x : Tx) (s1 : RS) (Z1 : As) (w1 : World), Mk B W b en mm s1 Z1 w1 → Calls Tryz.prog ff #[.pointer (some ⟨b, 0, none⟩), .string (str x)] w1 (fun e w' => e = .returned (.tuple #[.int .i64 (vv x), .bool (told x)]) ∧ Below w1.heap.size w1 w'))
    (hfull : full = false) (htold : told (nx en s).body = false) (h : Mk B W b en mm s Z w) :
    Calls Tryz.prog 110 #[.pointer (some ⟨b, 0, none⟩), .bool full, .func (.func ff) #[.pointer (some ⟨b, 0, none⟩)] #[]] w (fun e w' => e = .returned (.string (vName en s)) ∧ Mk B W b en mm (sName en full told s) Z w') := by
  obtain ⟨m, em, hP⟩ := h
  have C1 := hP.b0.want 1 1 rfl
  unfold sName
  dsimp only
  rw [htold, hfull]
  have ev : vName en s = str (nx en s).body := rfl
  rw [ev]
  simp only [Bool.false_eq_true, if_false, if_true]
  obtain ⟨t, et⟩ : ∃ t, nx en s = t := ⟨_, rfl⟩
  simp only [et] at C1 htold ⊢
  have CF : ∀ s1 Z1 w1, Mk B W b en mm s1 Z1 w1 → Calls Tryz.prog ff #[.pointer (some ⟨b, 0, none⟩), .string (str t.body)] w1 (fun e w' => e = .returned (.tuple #[.int .i64 (vv t.body), .bool false]) ∧ Below w1.heap.size w1 w') := fun s1 Z1 w1 h1 => by
    have := hf t.body s1 Z1 w1 h1
    rw [htold] at this
    exact this
  have HE := Lib.hid em
  clear hP et em hf ev htold
  subst hfull
  go_enter Tryz.func110, Tryz.ntmps110
  go_wp2_with (first | ((with_reducible refine (C1).mono ?_); rintro e w1 ⟨rfl, h1⟩; have h2 := h1.bpush rfl (tkC t) 30; obtain ⟨v0, v1, v2, v3⟩ := h2.tk4; have gl := (h2.bget 0 rfl).1) | ((with_reducible refine (CF _ _ _ (Mk.of HE.out h2)).mono ?_); rintro e w5 ⟨rfl, hb5⟩; have h5 := Pk.later h2 hb5; obtain ⟨y0, y1, y2, y3⟩ := h5.tk4; have gl5 := (h5.bget 0 rfl).1))
  go_ret
  exact ⟨rfl, _, HE.out, h5.nobx⟩
set_option maxRecDepth 100000 in
set_option maxHeartbeats 4000000 in
theorem newName_tf (K : Kn B W en) (full : Bool) (ff : FuncId) (vv : Tx → Int) (told : Tx → Bool) (hen : ∀ (args : Array Value) (w : World), (callFunc ff args).run Tryz.prog w = .ok (.enter ff args) w)
    (hf : ∀ (x : Tx) (s1 : RS) (Z1 : As) (w1 : World), Mk B W b en mm s1 Z1 w1 → Calls Tryz.prog ff #[.pointer (some ⟨b, 0, none⟩), .string (str x)] w1 (fun e w' => e = .returned (.tuple #[.int .i64 (vv x), .bool (told x)]) ∧ Below w1.heap.size w1 w'))
    (hfull : full = true) (htold : told (nx en s).body = false) (h : Mk B W b en mm s Z w) :
    Calls Tryz.prog 110 #[.pointer (some ⟨b, 0, none⟩), .bool full, .func (.func ff) #[.pointer (some ⟨b, 0, none⟩)] #[]] w (fun e w' => e = .returned (.string (vName en s)) ∧ Mk B W b en mm (sName en full told s) Z w') := by
  obtain ⟨m, em, hP⟩ := h
  have C1 := hP.b0.want 1 1 rfl
  unfold sName
  dsimp only
  rw [htold, hfull]
  have ev : vName en s = str (nx en s).body := rfl
  rw [ev]
  simp only [Bool.false_eq_true, if_false, if_true]
  obtain ⟨t, et⟩ : ∃ t, nx en s = t := ⟨_, rfl⟩
  simp only [et] at C1 htold ⊢
  have CF : ∀ s1 Z1 w1, Mk B W b en mm s1 Z1 w1 → Calls Tryz.prog ff #[.pointer (some ⟨b, 0, none⟩), .string (str t.body)] w1 (fun e w' => e = .returned (.tuple #[.int .i64 (vv t.body), .bool false]) ∧ Below w1.heap.size w1 w') := fun s1 Z1 w1 h1 => by
    have := hf t.body s1 Z1 w1 h1
    rw [htold] at this
    exact this
  have HE := Lib.hid em
  clear hP et em hf ev htold
  subst hfull
  go_enter Tryz.func110, Tryz.ntmps110
  go_wp2_with ((with_reducible refine (C1).mono ?_); rintro e w1 ⟨rfl, h1⟩; have h2 := h1.bpush rfl (tkC t) 30; obtain ⟨v0, v1, v2, v3⟩ := h2.tk4; have gl := (h2.bget 0 rfl).1)
  go_region_law (first | (go_simp; (with_reducible refine (h2.drew.refuse6 t).mono ?_); rintro e w3 ⟨rfl, h3⟩; obtain ⟨u0, u1, u2, u3⟩ := h3.tk4; have gl3 := (h3.bget 0 rfl).1))
  all_goals
    go_wp2_with ((with_reducible refine (CF _ _ _ (Mk.of HE.out h3)).mono ?_); rintro e w5 ⟨rfl, hb5⟩; have h5 := Pk.later h3 hb5; obtain ⟨y0, y1, y2, y3⟩ := h5.tk4; have gl5 := (h5.bget 0 rfl).1)
    go_ret
    exact ⟨rfl, _, HE.out, h5.nobx⟩
set_option maxRecDepth 100000 in
set_option maxHeartbeats 4000000 in
theorem newName_ft (K : Kn B W en) (full : Bool) (ff : FuncId) (vv : Tx → Int) (told : Tx → Bool) (hen : ∀ (args : Array Value) (w : World), (callFunc ff args).run Tryz.prog w = .ok (.enter ff args) w)
    (hf : ∀ (x : Tx) (s1 : RS) (Z1 : As) (w1 : World), Mk B W b en mm s1 Z1 w1 → Calls Tryz.prog ff #[.pointer (some ⟨b, 0, none⟩), .string (str x)] w1 (fun e w' => e = .returned (.tuple #[.int .i64 (vv x), .bool (told x)]) ∧ Below w1.heap.size w1 w'))
    (hfull : full = false) (htold : told (nx en s).body = true) (h : Mk B W b en mm s Z w) :
    Calls Tryz.prog 110 #[.pointer (some ⟨b, 0, none⟩), .bool full, .func (.func ff) #[.pointer (some ⟨b, 0, none⟩)] #[]] w (fun e w' => e = .returned (.string (vName en s)) ∧ Mk B W b en mm (sName en full told s) Z w') := by
  obtain ⟨m, em, hP⟩ := h
  have C1 := hP.b0.want 1 1 rfl
  unfold sName
  dsimp only
  rw [htold, hfull]
  have ev : vName en s = str (nx en s).body := rfl
  rw [ev]
  simp only [Bool.false_eq_true, if_false, if_true]
  obtain ⟨t, et⟩ : ∃ t, nx en s = t := ⟨_, rfl⟩
  simp only [et] at C1 htold ⊢
  have CF : ∀ s1 Z1 w1, Mk B W b en mm s1 Z1 w1 → Calls Tryz.prog ff #[.pointer (some ⟨b, 0, none⟩), .string (str t.body)] w1 (fun e w' => e = .returned (.tuple #[.int .i64 (vv t.body), .bool true]) ∧ Below w1.heap.size w1 w') := fun s1 Z1 w1 h1 => by
    have := hf t.body s1 Z1 w1 h1
    rw [htold] at this
    exact this
  have HE := Lib.hid em
  clear hP et em hf ev htold
  subst hfull
  go_enter Tryz.func110, Tryz.ntmps110
  go_wp2_with (first | ((with_reducible refine (C1).mono ?_); rintro e w1 ⟨rfl, h1⟩; have h2 := h1.bpush rfl (tkC t) 30; obtain ⟨v0, v1, v2, v3⟩ := h2.tk4; have gl := (h2.bget 0 rfl).1) | ((with_reducible refine (CF _ _ _ (Mk.of HE.out h2)).mono ?_); rintro e w5 ⟨rfl, hb5⟩; have h5 := Pk.later h2 hb5; obtain ⟨y0, y1, y2, y3⟩ := h5.tk4; have gl5 := (h5.bget 0 rfl).1))
  go_region_law (first | (go_simp; (with_reducible refine (h5.drew.refuse5 t).mono ?_); rintro e w6 ⟨rfl, h6⟩; obtain ⟨z0, z1, z2, z3⟩ := h6.tk4; have gl6 := (h6.bget 0 rfl).1))
  all_goals
    go_wp2_with fail
    go_ret
    exact ⟨rfl, _, HE.out, h6.nobx⟩
set_option maxRecDepth 100000 in
set_option maxHeartbeats 4000000 in
theorem newName_tt (K : Kn B W en) (full : Bool) (ff : FuncId) (vv : Tx → Int) (told : Tx → Bool) (hen : ∀ (args : Array Value) (w : World), (callFunc ff args).run Tryz.prog w = .ok (.enter ff args) w)
    (hf : ∀ (x : Tx) (s1 : RS) (Z1 : As) (w1 : World), Mk B W b en mm s1 Z1 w1 → Calls Tryz.prog ff #[.pointer (some ⟨b, 0, none⟩), .string (str x)] w1 (fun e w' => e = .returned (.tuple #[.int .i64 (vv x), .bool (told x)]) ∧ Below w1.heap.size w1 w'))
    (hfull : full = true) (htold : told (nx en s).body = true) (h : Mk B W b en mm s Z w) :
    Calls Tryz.prog 110 #[.pointer (some ⟨b, 0, none⟩), .bool full, .func (.func ff) #[.pointer (some ⟨b, 0, none⟩)] #[]] w (fun e w' => e = .returned (.string (vName en s)) ∧ Mk B W b en mm (sName en full told s) Z w') := by
  obtain ⟨m, em, hP⟩ := h
  have C1 := hP.b0.want 1 1 rfl
  unfold sName
  dsimp only
  rw [htold, hfull]
  have ev : vName en s = str (nx en s).body := rfl
  rw [ev]
  simp only [Bool.false_eq_true, if_false, if_true]
  obtain ⟨t, et⟩ : ∃ t, nx en s = t := ⟨_, rfl⟩
  simp only [et] at C1 htold ⊢
  have CF : ∀ s1 Z1 w1, Mk B W b en mm s1 Z1 w1 → Calls Tryz.prog ff #[.pointer (some ⟨b, 0, none⟩), .string (str t.body)] w1 (fun e w' => e = .returned (.tuple #[.int .i64 (vv t.body), .bool true]) ∧ Below w1.heap.size w1 w') := fun s1 Z1 w1 h1 => by
    have := hf t.body s1 Z1 w1 h1
    rw [htold] at this
    exact this
  have HE := Lib.hid em
  clear hP et em hf ev htold
  subst hfull
  go_enter Tryz.func110, Tryz.ntmps110
  go_wp2_with ((with_reducible refine (C1).mono ?_); rintro e w1 ⟨rfl, h1⟩; have h2 := h1.bpush rfl (tkC t) 30; obtain ⟨v0, v1, v2, v3⟩ := h2.tk4; have gl := (h2.bget 0 rfl).1)
  go_region_law (first | (go_simp; (with_reducible refine (h2.drew.refuse6 t).mono ?_); rintro e w3 ⟨rfl, h3⟩; obtain ⟨u0, u1, u2, u3⟩ := h3.tk4; have gl3 := (h3.bget 0 rfl).1))
  all_goals
    go_wp2_with ((with_reducible refine (CF _ _ _ (Mk.of HE.out h3)).mono ?_); rintro e w5 ⟨rfl, hb5⟩; have h5 := Pk.later h3 hb5; obtain ⟨y0, y1, y2, y3⟩ := h5.tk4; have gl5 := (h5.bget 0 rfl).1)
    go_region_law (first | (go_simp; (with_reducible refine (h5.drew.refuse5 t).mono ?_); rintro e w6 ⟨rfl, h6⟩; obtain ⟨z0, z1, z2, z3⟩ := h6.tk4; have gl6 := (h6.bget 0 rfl).1))
    all_goals
      go_wp2_with fail
      go_ret
      exact ⟨rfl, _, HE.out, h6.nobx⟩
theorem newName_any (K : Kn B W en) (full : Bool) (ff : FuncId) (vv : Tx → Int) (told : Tx → Bool) (hen : ∀ (args : Array Value) (w : World), (callFunc ff args).run Tryz.prog w = .ok (.enter ff args) w)
    (hf : ∀ (x : Tx) (s1 : RS) (Z1 : As) (w1 : World), Mk B W b en mm s1 Z1 w1 → Calls Tryz.prog ff #[.pointer (some ⟨b, 0, none⟩), .string (str x)] w1 (fun e w' => e = .returned (.tuple #[.int .i64 (vv x), .bool (told x)]) ∧ Below w1.heap.size w1 w')) (h : Mk B W b en mm s Z w) :
    Calls Tryz.prog 110 #[.pointer (some ⟨b, 0, none⟩), .bool full, .func (.func ff) #[.pointer (some ⟨b, 0, none⟩)] #[]] w (fun e w' => e = .returned (.string (vName en s)) ∧ Mk B W b en mm (sName en full told s) Z w') := by
  cases hF : full <;> cases hT : told (nx en s).body
  · exact newName_ff K false ff vv told hen hf rfl hT h
  · exact newName_ft K false ff vv told hen hf rfl hT h
  · exact newName_tf K true ff vv told hen hf rfl hT h
  · exact newName_tt K true ff vv told hen hf rfl hT h
end
end Go.Proofs.YtjomihlnjobndaaGreatDoor
/- The parser: the module's rows, that grow. -/
namespace Go.Proofs.YtjomihlnjobndaaGreatDoor
open Go.RowKit Go.Maps
set_option linter.unusedVariables false
set_option linter.unusedSimpArgs false

section
variable {B b : Nat} {W w w' : World} {en : Tok} {mm : PMod} {s : RS} {Z Z' : As}
theorem Mk.below (h : Mk B W b en mm s Z w) : Below B W w := by obtain ⟨m, e, h⟩ := h; exact h.below
theorem Mk.drew (h : Mk B W b en mm s Z w) : Mk B W b en mm s Z w.drew := h.later (below_drew (Below.refl _ _))
theorem Mk.alloc (h : Mk B W b en mm s Z w) (o : Obj) : Mk B W b en mm s Z (w.alloc o) := h.later ((Below.refl _ _).alloc (Nat.le_refl _) o)
theorem Mk.st (h : Mk B W b en mm s Z w) : ∃ Y, St B W ((As.and Z Y)) w ∧ ∀ Z' w', St B W ((As.and Z' Y)) w' → Mk B W b en mm s Z' w' := by
  obtain ⟨m, e, h⟩ := h
  obtain ⟨Y, hs, back⟩ := h.st
  exact ⟨(As.and (modAs B m) Y), hs.imp ⟨fun w x => ⟨x.1.2, x.1.1, x.2⟩, fun k => by simp only [As.and_c]; omega⟩, fun Z' w' h' => ⟨m, e, back _ _ (h'.imp ⟨fun w x => ⟨⟨x.2.1, x.1⟩, x.2.2⟩, fun k => by simp only [As.and_c]; omega⟩)⟩⟩
theorem Mk.rd (h : Mk B W b en mm s Z w) : ∃ m0 m1 m2 r Z', Rd B W b en m0 m1 m2 r s Z' w ∧ ∀ s' w', s'.asked = s.asked → Rd B W b en m0 m1 m2 r s' Z' w' → Mk B W b en mm s' Z w' := by
  obtain ⟨m, e, h⟩ := h
  obtain ⟨r, Z2, h2, k2⟩ := h.rd
  exact ⟨_, _, _, r, Z2, h2, fun s' w' e2 h' => ⟨m, e, k2 _ _ e2 h'⟩⟩
end
section
variable {B b : Nat} {W w : World} {en : Tok} {mm : PMod} {s : RS} {Z : As} {bs : List (Nat × List Value)}
theorem Mk.b0 (h : Mk B W b en mm s Z w) : Mk B W b en mm s ((As.and (bxs []) Z)) w := h.imp (As.nob _)
theorem Mk.nobx (h : Mk B W b en mm s ((As.and (bxs bs) Z)) w) : Mk B W b en mm s Z w := h.imp (As.drop _ _)
theorem Mk.bpush (h : Mk B W b en mm s ((As.and (bxs bs) Z)) w) {g : Nat} (hg : g = w.heap.size) (cs : List Value) (t : TypeId) : Mk B W b en mm s ((As.and (bxs ((g, cs) :: bs)) Z)) (w.alloc (.cells cs.toArray t)) := by
  obtain ⟨Y, hs, back⟩ := h.st
  exact back _ _ (((hs.imp (As.asl _ _ _)).bpush hg cs t).imp (As.asr _ _ _))
theorem Mk.bget (h : Mk B W b en mm s ((As.and (bxs bs) Z)) w) (i : Nat) {g : Nat} {cs : List Value} (e : bs[i]? = some (g, cs)) : Box g cs w := by
  obtain ⟨Y, hs, back⟩ := h.st
  exact (hs.imp (As.asl _ _ _)).bget i e
theorem Mk.bput (h : Mk B W b en mm s ((As.and (bxs bs) Z)) w) (i : Nat) {g : Nat} {cs : List Value} (e : bs[i]? = some (g, cs)) (j : Nat) (v : Value) : Mk B W b en mm s ((As.and (bxs (bs.set i (g, cs.set j v))) Z)) (w.setCell ⟨g, j, none⟩ v) := by
  obtain ⟨Y, hs, back⟩ := h.st
  exact back _ _ (((hs.imp (As.asl _ _ _)).bput i e j v).imp (As.asr _ _ _))
end
section
variable {B b : Nat} {W w : World} {en : Tok} {mm : PMod} {s : RS} {Z : As}
theorem Mk.stc (h : Mk B W b en mm s Z w) (K : Kn B W en) : Stc w := K.1.later (h.below.mono K.2.1)
theorem Mk.nx_gt (h : Mk B W b en mm s Z w) (K : Kn B W en) : Gt (nx en s) := by
  obtain ⟨m0, m1, m2, r, Z', hr, back⟩ := h.rd
  exact hr.nx_gt K.2.2.1
theorem Mk.tk4 {g' : Nat} {t : Tok} {bs : List (Nat × List Value)} (h : Mk B W b en mm s ((As.and (bxs ((g', tkC t) :: bs)) Z)) w) :
    w.cell? ⟨g', 0, none⟩ = some (.int .i64 t.kind) ∧ w.cell? ⟨g', 1, none⟩ = some (.string (str t.body)) ∧ w.cell? ⟨g', 2, none⟩ = some (.int .i64 t.line) ∧ w.cell? ⟨g', 3, none⟩ = some (.int .i64 t.col) := by
  have b0 := h.bget 0 rfl
  exact ⟨b0.get 0 _ rfl, b0.get 1 _ rfl, b0.get 2 _ rfl, b0.get 3 _ rfl⟩
theorem Mk.next (h : Mk B W b en mm s Z w) : Calls Tryz.prog 66 #[.pointer (some ⟨b, 0, none⟩)] w (fun e w' => e = .returned (tkV (nx en s)) ∧ Mk B W b en mm s Z w') := by
  obtain ⟨m0, m1, m2, r, Z', hr, back⟩ := h.rd
  exact (next_any hr).mono fun e w' ⟨h1, h2⟩ => ⟨h1, h.later h2⟩
theorem Mk.pass (h : Mk B W b en mm s Z w)  : Calls Tryz.prog 109 #[.pointer (some ⟨b, 0, none⟩)] w (fun e w' => e = .returned (.tuple #[]) ∧ Mk B W b en mm (ps s) Z w') := by
  obtain ⟨m0, m1, m2, r, Z', hr, back⟩ := h.rd
  have C : Calls Tryz.prog 109 #[.pointer (some ⟨b, 0, none⟩)] w (fun e w' => e = .returned (.tuple #[]) ∧ Rd B W b en m0 m1 m2 r (ps s) Z' w') := pass_any hr
  exact C.mono fun e w' ⟨h1, h2⟩ => ⟨h1, back _ _ (as_ps _) h2⟩
theorem Mk.refuse3 (h : Mk B W b en mm s Z w) (t : Tok) : Calls Tryz.prog 65 #[.pointer (some ⟨b, 0, none⟩), .int .i64 3, tkV t] w (fun e w' => e = .returned (.tuple #[]) ∧ Mk B W b en mm (bd 3 t s) Z w') := by
  obtain ⟨m0, m1, m2, r, Z', hr, back⟩ := h.rd
  have C : Calls Tryz.prog 65 #[.pointer (some ⟨b, 0, none⟩), .int .i64 3, tkV t] w (fun e w' => e = .returned (.tuple #[]) ∧ Rd B W b en m0 m1 m2 r (bd 3 t s) Z' w') := Go.Proofs.YtjomihlnjobndaaGreatDoor.refuse3 hr t
  exact C.mono fun e w' ⟨h1, h2⟩ => ⟨h1, back _ _ (as_bd _ _ _) h2⟩
theorem Mk.refuse5 (h : Mk B W b en mm s Z w) (t : Tok) : Calls Tryz.prog 65 #[.pointer (some ⟨b, 0, none⟩), .int .i64 5, tkV t] w (fun e w' => e = .returned (.tuple #[]) ∧ Mk B W b en mm (bd 5 t s) Z w') := by
  obtain ⟨m0, m1, m2, r, Z', hr, back⟩ := h.rd
  have C : Calls Tryz.prog 65 #[.pointer (some ⟨b, 0, none⟩), .int .i64 5, tkV t] w (fun e w' => e = .returned (.tuple #[]) ∧ Rd B W b en m0 m1 m2 r (bd 5 t s) Z' w') := Go.Proofs.YtjomihlnjobndaaGreatDoor.refuse5 hr t
  exact C.mono fun e w' ⟨h1, h2⟩ => ⟨h1, back _ _ (as_bd _ _ _) h2⟩
theorem Mk.refuse6 (h : Mk B W b en mm s Z w) (t : Tok) : Calls Tryz.prog 65 #[.pointer (some ⟨b, 0, none⟩), .int .i64 6, tkV t] w (fun e w' => e = .returned (.tuple #[]) ∧ Mk B W b en mm (bd 6 t s) Z w') := by
  obtain ⟨m0, m1, m2, r, Z', hr, back⟩ := h.rd
  have C : Calls Tryz.prog 65 #[.pointer (some ⟨b, 0, none⟩), .int .i64 6, tkV t] w (fun e w' => e = .returned (.tuple #[]) ∧ Rd B W b en m0 m1 m2 r (bd 6 t s) Z' w') := Go.Proofs.YtjomihlnjobndaaGreatDoor.refuse6 hr t
  exact C.mono fun e w' ⟨h1, h2⟩ => ⟨h1, back _ _ (as_bd _ _ _) h2⟩
theorem Mk.refuse8 (h : Mk B W b en mm s Z w) (t : Tok) : Calls Tryz.prog 65 #[.pointer (some ⟨b, 0, none⟩), .int .i64 8, tkV t] w (fun e w' => e = .returned (.tuple #[]) ∧ Mk B W b en mm (bd 8 t s) Z w') := by
  obtain ⟨m0, m1, m2, r, Z', hr, back⟩ := h.rd
  have C : Calls Tryz.prog 65 #[.pointer (some ⟨b, 0, none⟩), .int .i64 8, tkV t] w (fun e w' => e = .returned (.tuple #[]) ∧ Rd B W b en m0 m1 m2 r (bd 8 t s) Z' w') := Go.Proofs.YtjomihlnjobndaaGreatDoor.refuse8 hr t
  exact C.mono fun e w' ⟨h1, h2⟩ => ⟨h1, back _ _ (as_bd _ _ _) h2⟩
theorem Mk.passed (h : Mk B W b en mm s Z w) (k : Nat) (x : Tx) (ki : Int) (xi : ByteArray) (ek : ki = (k : Int)) (ex : xi = str x) : Calls Tryz.prog 61 #[.pointer (some ⟨b, 0, none⟩), .int .i64 ki, .string xi] w (fun e w' => e = .returned (.bool (isTk k x (nx en s))) ∧ Mk B W b en mm (sPassed en k x s) Z w') := by
  obtain ⟨m0, m1, m2, r, Z', hr, back⟩ := h.rd
  have C : Calls Tryz.prog 61 #[.pointer (some ⟨b, 0, none⟩), .int .i64 ki, .string xi] w (fun e w' => e = .returned (.bool (isTk k x (nx en s))) ∧ Rd B W b en m0 m1 m2 r (sPassed en k x s) Z' w') := (by rw [ek, ex]; exact passed_any hr k x)
  exact C.mono fun e w' ⟨h1, h2⟩ => ⟨h1, back _ _ (as_passed _ _ _ _) h2⟩
theorem Mk.want (h : Mk B W b en mm s Z w) (k : Nat) (ki : Int) (ek : ki = (k : Int)) : Calls Tryz.prog 141 #[.pointer (some ⟨b, 0, none⟩), .int .i64 ki] w (fun e w' => e = .returned (tkV (nx en s)) ∧ Mk B W b en mm (sWant en k s) Z w') := by
  obtain ⟨m0, m1, m2, r, Z', hr, back⟩ := h.rd
  have C : Calls Tryz.prog 141 #[.pointer (some ⟨b, 0, none⟩), .int .i64 ki] w (fun e w' => e = .returned (tkV (nx en s)) ∧ Rd B W b en m0 m1 m2 r (sWant en k s) Z' w') := (by rw [ek]; exact want_any hr k)
  exact C.mono fun e w' ⟨h1, h2⟩ => ⟨h1, back _ _ (as_want _ _ _) h2⟩
theorem Mk.wantMark (h : Mk B W b en mm s Z w) (x : Tx) (xi : ByteArray) (ex : xi = str x) : Calls Tryz.prog 176 #[.pointer (some ⟨b, 0, none⟩), .string xi] w (fun e w' => e = .returned (.tuple #[]) ∧ Mk B W b en mm (sThis en 5 x s) Z w') := by
  obtain ⟨m0, m1, m2, r, Z', hr, back⟩ := h.rd
  have C : Calls Tryz.prog 176 #[.pointer (some ⟨b, 0, none⟩), .string xi] w (fun e w' => e = .returned (.tuple #[]) ∧ Rd B W b en m0 m1 m2 r (sThis en 5 x s) Z' w') := (by rw [ex]; exact wantMark_any hr x)
  exact C.mono fun e w' ⟨h1, h2⟩ => ⟨h1, back _ _ (as_this _ _ _ _) h2⟩
theorem Mk.wantWord (h : Mk B W b en mm s Z w) (x : Tx) (xi : ByteArray) (ex : xi = str x) : Calls Tryz.prog 198 #[.pointer (some ⟨b, 0, none⟩), .string xi] w (fun e w' => e = .returned (.tuple #[]) ∧ Mk B W b en mm (sThis en 1 x s) Z w') := by
  obtain ⟨m0, m1, m2, r, Z', hr, back⟩ := h.rd
  have C : Calls Tryz.prog 198 #[.pointer (some ⟨b, 0, none⟩), .string xi] w (fun e w' => e = .returned (.tuple #[]) ∧ Rd B W b en m0 m1 m2 r (sThis en 1 x s) Z' w') := (by rw [ex]; exact wantWord_any hr x)
  exact C.mono fun e w' ⟨h1, h2⟩ => ⟨h1, back _ _ (as_this _ _ _ _) h2⟩
theorem Mk.wantLineEnd (h : Mk B W b en mm s Z w)  : Calls Tryz.prog 113 #[.pointer (some ⟨b, 0, none⟩)] w (fun e w' => e = .returned (.tuple #[]) ∧ Mk B W b en mm (sWant en 6 s) Z w') := by
  obtain ⟨m0, m1, m2, r, Z', hr, back⟩ := h.rd
  have C : Calls Tryz.prog 113 #[.pointer (some ⟨b, 0, none⟩)] w (fun e w' => e = .returned (.tuple #[]) ∧ Rd B W b en m0 m1 m2 r (sWant en 6 s) Z' w') := wantLineEnd_any hr
  exact C.mono fun e w' ⟨h1, h2⟩ => ⟨h1, back _ _ (as_want _ _ _) h2⟩
theorem Mk.wantBlock (h : Mk B W b en mm s Z w) (Kk : Kn B W en) : Calls Tryz.prog 213 #[.pointer (some ⟨b, 0, none⟩)] w (fun e w' => e = .returned (.int .i64 (vBlock en s)) ∧ Mk B W b en mm (sBlock en s) Z w') := by
  obtain ⟨m0, m1, m2, r, Z', hr, back⟩ := h.rd
  have C : Calls Tryz.prog 213 #[.pointer (some ⟨b, 0, none⟩)] w (fun e w' => e = .returned (.int .i64 (vBlock en s)) ∧ Rd B W b en m0 m1 m2 r (sBlock en s) Z' w') := wantBlock_any Kk hr
  exact C.mono fun e w' ⟨h1, h2⟩ => ⟨h1, back _ _ (as_block _ _) h2⟩
theorem Mk.wantType (h : Mk B W b en mm s Z w) (Kk : Kn B W en) : Calls Tryz.prog 148 #[.pointer (some ⟨b, 0, none⟩)] w (fun e w' => e = .returned (.int .i64 (vType en s)) ∧ Mk B W b en mm (sType en s) Z w') := by
  obtain ⟨m0, m1, m2, r, Z', hr, back⟩ := h.rd
  have C : Calls Tryz.prog 148 #[.pointer (some ⟨b, 0, none⟩)] w (fun e w' => e = .returned (.int .i64 (vType en s)) ∧ Rd B W b en m0 m1 m2 r (sType en s) Z' w') := wantType_any Kk hr
  exact C.mono fun e w' ⟨h1, h2⟩ => ⟨h1, back _ _ (as_type _ _) h2⟩
theorem Mk.wantSize (h : Mk B W b en mm s Z w) (Kk : Kn B W en) : Calls Tryz.prog 112 #[.pointer (some ⟨b, 0, none⟩)] w (fun e w' => e = .returned (.int .i64 (vSize en s)) ∧ Mk B W b en mm (sSize en s) Z w') := by
  obtain ⟨m0, m1, m2, r, Z', hr, back⟩ := h.rd
  have C : Calls Tryz.prog 112 #[.pointer (some ⟨b, 0, none⟩)] w (fun e w' => e = .returned (.int .i64 (vSize en s)) ∧ Rd B W b en m0 m1 m2 r (sSize en s) Z' w') := wantSize_any Kk hr
  exact C.mono fun e w' ⟨h1, h2⟩ => ⟨h1, back _ _ (as_size _ _) h2⟩
end
theorem Mk.vars {B b : Nat} {W w : World} {en : Tok} {mm : PMod} {s : RS} {Z : As} {x : PVar} (h : Mk B W b en mm s (Z) w) : ∃ (m : LMod) (Y : As), modD m = mm ∧ m.vn = m.vs.length ∧ St B W ((As.and (rw' B 41 2 varC m.vp m.vn m.vc m.vs) Y)) w ∧
    (∀ X w', St B W ((As.and X Y)) w' → w'.cell? ⟨b, 8, none⟩ = some (.slice m.vp m.vn m.vc) ∧ w'.frozen? ⟨b, 8, none⟩ = false ∧ b < w'.heap.size) ∧
    ∀ p' n' c' w', St B W ((As.and (rw' B 41 2 varC p' n' c' (m.vs ++ [x])) Y)) w' → Mk B W b en { mm with vs := mm.vs ++ [x] } s Z (w'.setCell ⟨b, 8, none⟩ (.slice p' n' c')) := by
  obtain ⟨m, e, h1, ap, ac, h2, h3, tp, tn, tc, hS⟩ := h
  refine ⟨m, (As.and (bx b (rdC tp tn tc en s.flt (.slice m.vp m.vn m.vc) (.slice m.xp m.xn m.xc) (.slice m.fp m.fn m.fc) (.slice ap s.asked.length ac))) (As.and (tk tp tn tc s.ts) (As.and (askRow B ap ac s.asked) (As.and As.emp (As.and ((As.and (extsAs B m) (fnsAs B m))) Z))))), e, ?_, ?_, fun X w' h' => ?_, fun p' n' c' w' h' => ⟨{ m with vp := p', vn := n', vc := c', vs := m.vs ++ [x] }, ?_, h1, ap, ac, h2, h3, tp, tn, tc, ?_⟩⟩
  · exact hS.sat.2.2.2.1.1.1
  · exact hS.imp ⟨fun w x => ⟨x.2.2.2.1.1, x.1, x.2.1, x.2.2.1, trivial, ⟨x.2.2.2.1.2.1, x.2.2.2.1.2.2⟩, x.2.2.2.2⟩, fun k => by simp only [modAs, varsAs, extsAs, fnsAs, As.and_c, As.emp_c]; omega⟩
  · have hb : Box b _ w' := h'.sat.2.1
    exact ⟨hb.get 8 _ rfl, hb.2.1 8, hb.1⟩
  · rw [← e]
    unfold modD
    simp
  · have h4 : St B W ((As.and (bx b (rdC tp tn tc en s.flt (.slice m.vp m.vn m.vc) (.slice m.xp m.xn m.xc) (.slice m.fp m.fn m.fc) (.slice ap s.asked.length ac))) (As.and (rw' B 41 2 varC p' n' c' (m.vs ++ [x])) (As.and (tk tp tn tc s.ts) (As.and (askRow B ap ac s.asked) (As.and As.emp (As.and ((As.and (extsAs B m) (fnsAs B m))) Z))))))) w' := h'.imp ⟨fun w x => ⟨x.2.1, x.1, x.2.2⟩, fun k => by simp only [As.and_c]; omega⟩
    refine (h4.set 8 (.slice p' n' c')).imp ⟨fun w y => ⟨y.1, y.2.2.1, y.2.2.2.1, ⟨y.2.1, y.2.2.2.2.2.1.1, y.2.2.2.2.2.1.2⟩, y.2.2.2.2.2.2⟩, fun k => ?_⟩
    simp only [modAs, varsAs, extsAs, fnsAs, As.and_c, As.emp_c, bx_c]
    omega
theorem Mk.exts {B b : Nat} {W w : World} {en : Tok} {mm : PMod} {s : RS} {Z : As} {x : LExt} (h : Mk B W b en mm s ((As.and (extAs B x) Z)) w) : ∃ (m : LMod) (Y : As), modD m = mm ∧ m.xn = m.xs.length ∧ St B W ((As.and (rw' B 70 3 extC m.xp m.xn m.xc m.xs) Y)) w ∧
    (∀ X w', St B W ((As.and X Y)) w' → w'.cell? ⟨b, 9, none⟩ = some (.slice m.xp m.xn m.xc) ∧ w'.frozen? ⟨b, 9, none⟩ = false ∧ b < w'.heap.size) ∧
    ∀ p' n' c' w', St B W ((As.and (rw' B 70 3 extC p' n' c' (m.xs ++ [x])) Y)) w' → Mk B W b en { mm with xs := mm.xs ++ [extD x] } s Z (w'.setCell ⟨b, 9, none⟩ (.slice p' n' c')) := by
  obtain ⟨m, e, h1, ap, ac, h2, h3, tp, tn, tc, hS⟩ := h
  refine ⟨m, (As.and (bx b (rdC tp tn tc en s.flt (.slice m.vp m.vn m.vc) (.slice m.xp m.xn m.xc) (.slice m.fp m.fn m.fc) (.slice ap s.asked.length ac))) (As.and (tk tp tn tc s.ts) (As.and (askRow B ap ac s.asked) (As.and (As.all (extAs B) m.xs) (As.and ((As.and (varsAs B m) (fnsAs B m))) (As.and (extAs B x) Z)))))), e, ?_, ?_, fun X w' h' => ?_, fun p' n' c' w' h' => ⟨{ m with xp := p', xn := n', xc := c', xs := m.xs ++ [x] }, ?_, h1, ap, ac, h2, h3, tp, tn, tc, ?_⟩⟩
  · exact hS.sat.2.2.2.1.2.1.1.1
  · exact hS.imp ⟨fun w x => ⟨x.2.2.2.1.2.1.1, x.1, x.2.1, x.2.2.1, x.2.2.2.1.2.1.2, ⟨x.2.2.2.1.1, x.2.2.2.1.2.2⟩, x.2.2.2.2⟩, fun k => by simp only [modAs, varsAs, extsAs, fnsAs, As.and_c, As.emp_c]; omega⟩
  · have hb : Box b _ w' := h'.sat.2.1
    exact ⟨hb.get 9 _ rfl, hb.2.1 9, hb.1⟩
  · rw [← e]
    unfold modD
    simp
  · have h4 : St B W ((As.and (bx b (rdC tp tn tc en s.flt (.slice m.vp m.vn m.vc) (.slice m.xp m.xn m.xc) (.slice m.fp m.fn m.fc) (.slice ap s.asked.length ac))) (As.and (rw' B 70 3 extC p' n' c' (m.xs ++ [x])) (As.and (tk tp tn tc s.ts) (As.and (askRow B ap ac s.asked) (As.and (As.all (extAs B) m.xs) (As.and ((As.and (varsAs B m) (fnsAs B m))) (As.and (extAs B x) Z)))))))) w' := h'.imp ⟨fun w x => ⟨x.2.1, x.1, x.2.2⟩, fun k => by simp only [As.and_c]; omega⟩
    refine (h4.set 9 (.slice p' n' c')).imp ⟨fun w y => ⟨y.1, y.2.2.1, y.2.2.2.1, ⟨y.2.2.2.2.2.1.1, ⟨y.2.1, (As.all_at_app _ w _ _).2 ⟨y.2.2.2.2.1, y.2.2.2.2.2.2.1, trivial⟩⟩, y.2.2.2.2.2.1.2⟩, y.2.2.2.2.2.2.2⟩, fun k => ?_⟩
    have e1 := As.all_c_app (extAs B) k m.xs [x]
    have e2 : (As.all (extAs B) [x]).c k = (extAs B x).c k + 0 := rfl
    simp only [modAs, varsAs, extsAs, fnsAs, As.and_c, bx_c, e1, e2]
    omega
theorem Mk.fns {B b : Nat} {W w : World} {en : Tok} {mm : PMod} {s : RS} {Z : As} {x : LFn} (h : Mk B W b en mm s ((As.and (fnAs B x) Z)) w) : ∃ (m : LMod) (Y : As), modD m = mm ∧ m.fn = m.fs.length ∧ St B W ((As.and (rw' B 46 4 fnC m.fp m.fn m.fc m.fs) Y)) w ∧
    (∀ X w', St B W ((As.and X Y)) w' → w'.cell? ⟨b, 10, none⟩ = some (.slice m.fp m.fn m.fc) ∧ w'.frozen? ⟨b, 10, none⟩ = false ∧ b < w'.heap.size) ∧
    ∀ p' n' c' w', St B W ((As.and (rw' B 46 4 fnC p' n' c' (m.fs ++ [x])) Y)) w' → Mk B W b en { mm with fs := mm.fs ++ [fnD x] } s Z (w'.setCell ⟨b, 10, none⟩ (.slice p' n' c')) := by
  obtain ⟨m, e, h1, ap, ac, h2, h3, tp, tn, tc, hS⟩ := h
  refine ⟨m, (As.and (bx b (rdC tp tn tc en s.flt (.slice m.vp m.vn m.vc) (.slice m.xp m.xn m.xc) (.slice m.fp m.fn m.fc) (.slice ap s.asked.length ac))) (As.and (tk tp tn tc s.ts) (As.and (askRow B ap ac s.asked) (As.and (As.all (fnAs B) m.fs) (As.and ((As.and (varsAs B m) (extsAs B m))) (As.and (fnAs B x) Z)))))), e, ?_, ?_, fun X w' h' => ?_, fun p' n' c' w' h' => ⟨{ m with fp := p', fn := n', fc := c', fs := m.fs ++ [x] }, ?_, h1, ap, ac, h2, h3, tp, tn, tc, ?_⟩⟩
  · exact hS.sat.2.2.2.1.2.2.1.1
  · exact hS.imp ⟨fun w x => ⟨x.2.2.2.1.2.2.1, x.1, x.2.1, x.2.2.1, x.2.2.2.1.2.2.2, ⟨x.2.2.2.1.1, x.2.2.2.1.2.1⟩, x.2.2.2.2⟩, fun k => by simp only [modAs, varsAs, extsAs, fnsAs, As.and_c, As.emp_c]; omega⟩
  · have hb : Box b _ w' := h'.sat.2.1
    exact ⟨hb.get 10 _ rfl, hb.2.1 10, hb.1⟩
  · rw [← e]
    unfold modD
    simp
  · have h4 : St B W ((As.and (bx b (rdC tp tn tc en s.flt (.slice m.vp m.vn m.vc) (.slice m.xp m.xn m.xc) (.slice m.fp m.fn m.fc) (.slice ap s.asked.length ac))) (As.and (rw' B 46 4 fnC p' n' c' (m.fs ++ [x])) (As.and (tk tp tn tc s.ts) (As.and (askRow B ap ac s.asked) (As.and (As.all (fnAs B) m.fs) (As.and ((As.and (varsAs B m) (extsAs B m))) (As.and (fnAs B x) Z)))))))) w' := h'.imp ⟨fun w x => ⟨x.2.1, x.1, x.2.2⟩, fun k => by simp only [As.and_c]; omega⟩
    refine (h4.set 10 (.slice p' n' c')).imp ⟨fun w y => ⟨y.1, y.2.2.1, y.2.2.2.1, ⟨y.2.2.2.2.2.1.1, y.2.2.2.2.2.1.2, ⟨y.2.1, (As.all_at_app _ w _ _).2 ⟨y.2.2.2.2.1, y.2.2.2.2.2.2.1, trivial⟩⟩⟩, y.2.2.2.2.2.2.2⟩, fun k => ?_⟩
    have e1 := As.all_c_app (fnAs B) k m.fs [x]
    have e2 : (As.all (fnAs B) [x]).c k = (fnAs B x).c k + 0 := rfl
    simp only [modAs, varsAs, extsAs, fnsAs, As.and_c, bx_c, e1, e2]
    omega
end Go.Proofs.YtjomihlnjobndaaGreatDoor
/- The parser: a variable's line. -/
namespace Go.Proofs.YtjomihlnjobndaaGreatDoor
open Go.RowKit Go.Maps
set_option linter.unusedVariables false
set_option linter.unusedSimpArgs false

theorem infoVar : (Tryz.prog.info? 41).map (fun i => (i.zero, i.size, i.bytes)) = some (some (.agg #[.string ⟨#[]⟩, .int .i64 0]), 2, 24) := by kernel_rfl
theorem infoExt : (Tryz.prog.info? 70).map (fun i => (i.zero, i.size, i.bytes)) = some (some (.agg #[.string ⟨#[]⟩, .slice none 0 0, .int .i64 0]), 3, 48) := by kernel_rfl
theorem infoFn : (Tryz.prog.info? 46).map (fun i => (i.zero, i.size, i.bytes)) = some (some (.agg #[.string ⟨#[]⟩, .slice none 0 0, .int .i64 0, .slice none 0 0]), 4, 72) := by kernel_rfl
theorem cell2_lit2 (w : World) (a c : Value) (T : TypeId) : ∀ j u, ([a, c] : List Value)[j]? = some u → (((w.alloc (.cells #[a, c] T)).drew)).cell? ((⟨w.heap.size, 0, none⟩ : Addr).add j) = some u := fun j u h => by
  rw [World.cell?_drew]; exact lit_cells w #[a, c] T j u h
theorem cell4_lit2 (w : World) (a b c d : Value) (T : TypeId) : ∀ j u, ([a, b, c, d] : List Value)[j]? = some u → (((w.alloc (.cells #[a, b, c, d] T)).drew)).cell? ((⟨w.heap.size, 0, none⟩ : Addr).add j) = some u := fun j u h => by
  rw [World.cell?_drew]; exact lit_cells w #[a, b, c, d] T j u h
theorem hasVar_eq (mm : PMod) : (fun x => (findVarP mm x).isSome) = hasVar mm := by
  funext x
  unfold findVarP hasVar
  rw [Option.isSome_map, List.findIdx?_isSome]
theorem hasCal_eq (mm : PMod) : (fun x => (findCalP mm x).isSome) = hasCal mm := by
  funext x
  unfold findCalP hasCal
  have e1 := List.findIdx?_isSome (xs := mm.xs) (p := fun v => byt v.nm == x)
  have e2 := List.findIdx?_isSome (xs := mm.fs) (p := fun v => byt v.nm == x)
  cases hx : mm.xs.findIdx? (fun v => byt v.nm == x) with
  | some k =>
    rw [hx] at e1
    simp only [Option.isSome_some] at e1 ⊢
    rw [← e1]
    rfl
  | none =>
    rw [hx] at e1
    simp only [Option.isSome_none] at e1
    rw [← e1]
    simp only [Option.isSome_map, e2, Bool.false_or]
section
variable {B b : Nat} {W w w' : World} {en : Tok} {mm : PMod} {s : RS} {Z Z' : As}
theorem Mk.lt (h : Mk B W b en mm s Z w) : b < w.heap.size := by obtain ⟨m, e, hP⟩ := h; exact hP.lt
theorem Mk.head (h : Mk B W b en mm s Z w) : ∃ vp vc xp xc fp fc, (w.cell? ⟨b, 8, none⟩ = some (.slice vp mm.vs.length vc) ∧ w.cell? ⟨b, 9, none⟩ = some (.slice xp mm.xs.length xc) ∧ w.cell? ⟨b, 10, none⟩ = some (.slice fp mm.fs.length fc)) ∧ b < w.heap.size := by
  obtain ⟨m, e, hP⟩ := h
  obtain ⟨c8, c9, c10, _⟩ := hP.cells
  have h1 : m.vn = mm.vs.length := by rw [← e]; exact hP.satZ.1.1.1
  have h2 : m.xn = mm.xs.length := by have := hP.satZ.1.2.1.1.1; rw [← e]; unfold modD; simp only [List.length_map]; exact this
  have h3 : m.fn = mm.fs.length := by have := hP.satZ.1.2.2.1.1; rw [← e]; unfold modD; simp only [List.length_map]; exact this
  rw [h1] at c8
  rw [h2] at c9
  rw [h3] at c10
  exact ⟨_, _, _, _, _, _, ⟨c8, c9, c10⟩, hP.lt⟩
set_option maxRecDepth 100000 in
theorem enters_findV : ∀ (args : Array Value) (w : World), (callFunc 111 args).run Tryz.prog w = .ok (.enter 111 args) w := fun _ _ => rfl
set_option maxRecDepth 100000 in
theorem enters_findC : ∀ (args : Array Value) (w : World), (callFunc 114 args).run Tryz.prog w = .ok (.enter 114 args) w := fun _ _ => rfl
set_option maxRecDepth 100000 in
set_option maxHeartbeats 4000000 in
theorem global_any (K : Kn B W en) (hv : mm.vs.length ≤ 1000000) (h : Mk B W b en mm s Z w) :
    Calls Tryz.prog 62 #[.pointer (some ⟨b, 0, none⟩)] w (fun e w' => e = .returned (.tuple #[]) ∧ Mk B W b en (iGlobal en (mm, s)).1 (iGlobal en (mm, s)).2 Z w') := by
  obtain ⟨iV, hiV, hz0, hz1, hz2⟩ := info_parts infoVar
  have HI := Lib.hid (And.intro hiV (And.intro hz0 (And.intro hz1 hz2)))
  clear hiV hz0 hz1 hz2
  obtain ⟨vp, vc, xp, xc, fp, fc, ⟨c8, c9, c10⟩, bl⟩ := h.head
  clear c9 c10
  obtain ⟨n, eN⟩ : ∃ n, mm.vs.length = n := ⟨_, rfl⟩
  rw [eN] at c8 hv
  obtain ⟨F, eF⟩ : ∃ F, (n == 8) = F := ⟨_, rfl⟩
  have eF2 : ((n : Int) == 8) = F := by
    rw [← eF]
    by_cases h8 : n = 8
    · subst h8; rfl
    · rw [beq_false_of_ne h8]; exact beq_false_of_ne (by omega)
  have C1 := newName_any K F 111 (fun x => (findVarP mm x).getD (-1)) (fun x => (findVarP mm x).isSome) enters_findV (fun x s1 Z1 w1 h1 => findVar_any x h1) h
  rw [hasVar_eq] at C1
  have hmf : ∀ (fn : Fn) (first cap : Array Value) (w : World), (Instr.makeFunc fn first cap).run Tryz.prog w = .ok (.func fn first cap) w := fun _ _ _ _ => rfl
  have eR : iGlobal en (mm, s) = ({ mm with vs := mm.vs ++ [⟨vName en s, vSize en (sName en F (hasVar mm) s)⟩] }, sWant en 6 (sSize en (sName en F (hasVar mm) s))) := by
    unfold iGlobal
    dsimp only
    rw [eN, eF]
  rw [eR]
  obtain ⟨s1, es1⟩ : ∃ s1, sName en F (hasVar mm) s = s1 := ⟨_, rfl⟩
  obtain ⟨nm, enm⟩ : ∃ nm, vName en s = nm := ⟨_, rfl⟩
  simp only [es1, enm] at C1 ⊢
  obtain ⟨z, ez⟩ : ∃ z, vSize en s1 = z := ⟨_, rfl⟩
  simp only [ez]
  have CS : ∀ {Z' : As} w1, Mk B W b en mm s1 Z' w1 → Calls Tryz.prog 112 #[.pointer (some ⟨b, 0, none⟩)] w1 (fun e w' => e = .returned (.int .i64 z) ∧ Mk B W b en mm (sSize en s1) Z' w') := fun w1 h1 => by
    rw [← ez]; exact h1.wantSize K
  have HN := Lib.hid (And.intro eN hv)
  clear h eR es1 enm ez eN hv eF K
  go_enter Tryz.func62, Tryz.ntmps62
  go_wp2_with (first | ((with_reducible refine C1.mono ?_); rintro e w1 ⟨rfl, h1⟩; have bl1 := h1.lt) | ((with_reducible refine (CS _ h1).mono ?_); rintro e w2 ⟨rfl, h2⟩; have bl2 := h2.lt; have h3 := h2.b0.bpush rfl [.string nm, .int .i64 z] 41; have hb3 := h3.bget 0 rfl; have v0 := hb3.get 0 _ rfl; have v1 := hb3.get 1 _ rfl; have gl := hb3.1) | ((with_reducible refine (h3.wantLineEnd).mono ?_); rintro e w4 ⟨rfl, h4⟩; have bl4 := h4.lt; have hb4 := h4.bget 0 rfl; have y0 := hb4.get 0 _ rfl; have y1 := hb4.get 1 _ rfl; have gl4 := hb4.1; obtain ⟨m, Y, em, emn, hS, hcc, back⟩ := h4.vars (x := ⟨nm, z⟩); have HG := Lib.hid (And.intro em (And.intro emn (And.intro hS (And.intro hcc back)))); obtain ⟨k0, k1, k2⟩ := hcc _ _ hS; clear hS hcc back em emn))
  go_region_law (first | (refine step_app rfl (.tmp 30) (.tmp 32) 31 rfl iV _ 24 Tryz.underlying31 HI.out.1 HI.out.2.1 HI.out.2.2.1 HI.out.2.2.2 rfl (by decide) rfl ((HG.out.2.2.1.alloc _).drew) (⟨nm, z⟩ : PVar) _ 1 rfl rfl (cell2_lit2 _ _ _ _) (varC_one _) (by have h1 := HN.out.1; have h2 := HN.out.2; have h3 : m.vs.length = n := (by rw [← h1, ← HG.out.1]; rfl); rw [h3]; unfold maxLen; omega) (by have h1 := HN.out.1; have h2 := HN.out.2; have h3 : m.vs.length = n := (by rw [← h1, ← HG.out.1]; rfl); rw [h3]; omega) ?_; intro p' c' w' hS'; obtain ⟨j0, j1, j2⟩ := HG.out.2.2.2.1 _ _ hS'))
  all_goals
    go_end0
    exact ⟨rfl, (HG.out.2.2.2.2 _ _ _ _ hS').nobx⟩
end
end Go.Proofs.YtjomihlnjobndaaGreatDoor
/- The parser: an extern's line, a function. -/
namespace Go.Proofs.YtjomihlnjobndaaGreatDoor
open Go.RowKit Go.Maps
set_option linter.unusedVariables false
set_option linter.unusedSimpArgs false

theorem cell3_lit3 (w : World) (a c d : Value) (T : TypeId) : ∀ j u, ([a, c, d] : List Value)[j]? = some u → (((w.alloc (.cells #[a, c, d] T)).drew)).cell? ((⟨w.heap.size, 0, none⟩ : Addr).add j) = some u := fun j u h => by
  rw [World.cell?_drew]; exact lit_cells w #[a, c, d] T j u h
theorem l2_name (en : Tok) (full : Bool) (told : Tx → Bool) (s : RS) : Le2 s (sName en full told s) := by
  unfold sName
  dsimp only
  have h0 := l2_want en 1 s
  have h1 : Le2 s (if full = true then bd 6 (nx en s) (sWant en 1 s) else sWant en 1 s) := by split; exact h0.trans (l2_bd _ _ _); exact h0
  split
  · exact h1.trans (l2_bd _ _ _)
  · exact h1
theorem l2_types {en : Tok} (h6 : en.kind = 6) (s : RS) : Le2 s (sTypes en s) := by
  unfold sTypes
  have hp : ∀ p : List Int × RS, Le2 p.2 (iParam en p).2 := fun p => by
    unfold iParam
    dsimp only
    split
    · exact (l2_type en p.2).trans (l2_bd _ _ _)
    · exact l2_type en p.2
  exact (l2_brackets h6 hp ([], s)).trans (l2_type en _)
section
variable {B b : Nat} {W w w' : World} {en : Tok} {mm : PMod} {s : RS} {Z Z' : As}
theorem Mk.types (h : Mk B W b en mm s Z w) (K : Kn B W en) (hL : tsl s ≤ 500000) :
    Calls Tryz.prog 115 #[.pointer (some ⟨b, 0, none⟩)] w (fun e w' => ∃ p c, e = .returned (.tuple #[.slice p (vTypes en s).1.length c, .int .i64 (vTypes en s).2]) ∧ Mk B W b en mm (sTypes en s) ((As.and (rw' B 3 1 intC p (vTypes en s).1.length c (vTypes en s).1) Z)) w') := by
  obtain ⟨m, e, hP⟩ := h
  exact (types_any K hL hP).mono fun e' w' ⟨p, c, h1, h2⟩ => ⟨p, c, h1, m, e, h2.imp ⟨fun w x => ⟨x.2.1, x.1, x.2.2⟩, fun k => by simp only [As.and_c]; omega⟩⟩
theorem Mk.out1 {bs : List (Nat × List Value)} {X : As} (h : Mk B W b en mm s ((As.and X ((As.and (bxs bs) Z)))) w) : Mk B W b en mm s ((As.and (bxs bs) ((As.and X Z)))) w := h.imp ⟨fun w x => ⟨x.2.1, x.1, x.2.2⟩, fun k => by simp only [As.and_c]; omega⟩
theorem Mk.in1 {bs : List (Nat × List Value)} {X : As} (h : Mk B W b en mm s ((As.and (bxs bs) ((As.and X Z)))) w) : Mk B W b en mm s ((As.and X ((As.and (bxs bs) Z)))) w := h.imp ⟨fun w x => ⟨x.2.1, x.1, x.2.2⟩, fun k => by simp only [As.and_c]; omega⟩
set_option maxRecDepth 100000 in
set_option maxHeartbeats 4000000 in
theorem extern_any (K : Kn B W en) (hv : mm.xs.length ≤ 1000000) (hL : tsl s ≤ 500000) (h : Mk B W b en mm s Z w) :
    Calls Tryz.prog 63 #[.pointer (some ⟨b, 0, none⟩)] w (fun e w' => e = .returned (.tuple #[]) ∧ Mk B W b en (iExtern en (mm, s)).1 (iExtern en (mm, s)).2 Z w') := by
  obtain ⟨iV, hiV, hz0, hz1, hz2⟩ := info_parts infoExt
  have HI := Lib.hid (And.intro hiV (And.intro hz0 (And.intro hz1 hz2)))
  clear hiV hz0 hz1 hz2
  obtain ⟨vp, vc, xp, xc, fp, fc, ⟨c8, c9, c10⟩, bl⟩ := h.head
  clear c8 c10
  obtain ⟨n, eN⟩ : ∃ n, mm.xs.length = n := ⟨_, rfl⟩
  rw [eN] at c9 hv
  obtain ⟨F, eF⟩ : ∃ F, (n == 8) = F := ⟨_, rfl⟩
  have eF2 : ((n : Int) == 8) = F := by
    rw [← eF]
    by_cases h8 : n = 8
    · subst h8; rfl
    · rw [beq_false_of_ne h8]; exact beq_false_of_ne (by omega)
  have C1 := newName_any K F 114 (fun x => (findCalP mm x).getD (-1)) (fun x => (findCalP mm x).isSome) enters_findC (fun x s1 Z1 w1 h1 => findCallee_any x h1) h
  rw [hasCal_eq] at C1
  have hmf : ∀ (fn : Fn) (first cap : Array Value) (w : World), (Instr.makeFunc fn first cap).run Tryz.prog w = .ok (.func fn first cap) w := fun _ _ _ _ => rfl
  have eR : iExtern en (mm, s) = ({ mm with xs := mm.xs ++ [⟨vName en s, (vTypes en (sName en F (hasCal mm) s)).1, (vTypes en (sName en F (hasCal mm) s)).2⟩] }, sWant en 6 (sTypes en (sName en F (hasCal mm) s))) := by
    unfold iExtern
    dsimp only
    rw [eN, eF]
  rw [eR]
  have hL1 : tsl (sName en F (hasCal mm) s) ≤ 500000 := Nat.le_trans (l2_name en F (hasCal mm) s).2 hL
  obtain ⟨s1, es1⟩ : ∃ s1, sName en F (hasCal mm) s = s1 := ⟨_, rfl⟩
  obtain ⟨nm, enm⟩ : ∃ nm, vName en s = nm := ⟨_, rfl⟩
  simp only [es1, enm] at C1 hL1 ⊢
  have CS : ∀ {Z' : As} w1, Mk B W b en mm s1 Z' w1 → _ := fun {Z'} w1 h1 => h1.types K hL1
  obtain ⟨q, eq⟩ : ∃ q, vTypes en s1 = q := ⟨_, rfl⟩
  obtain ⟨ps, rt⟩ := q
  simp only [eq] at CS ⊢
  obtain ⟨pn, epn⟩ : ∃ pn, ps.length = pn := ⟨_, rfl⟩
  simp only [epn] at CS
  have HN := Lib.hid (And.intro eN hv)
  clear h eR es1 enm eq eN hv eF K hL hL1 epn
  go_enter Tryz.func63, Tryz.ntmps63
  go_wp2_with (first | ((with_reducible refine C1.mono ?_); rintro e w1 ⟨rfl, h1⟩; have bl1 := h1.lt; have h2 := h1.b0.bpush rfl [.string nm, .slice none 0 0, .int .i64 0] 70) | ((with_reducible refine (CS _ h2).mono ?_); rintro e w3 ⟨p, c, rfl, hT⟩; have h3 := hT.out1; have bl3 := h3.lt; have hb3 := h3.bget 0 rfl; have v0 := hb3.get 0 _ rfl; have v1 := hb3.get 1 _ rfl; have v2 := hb3.get 2 _ rfl; have gl := hb3.1; have f1 := hb3.2.1 1; have f2 := hb3.2.1 2; have h5 := (h3.bput 0 rfl 1 (.slice p pn c)).bput 0 rfl 2 (.int .i64 rt)) | ((with_reducible refine (h5.wantLineEnd).mono ?_); rintro e w6 ⟨rfl, h6⟩; have bl6 := h6.lt; have hb6 := h6.bget 0 rfl; have y0 := hb6.get 0 _ rfl; have y1 := hb6.get 1 _ rfl; have y2 := hb6.get 2 _ rfl; have gl6 := hb6.1; obtain ⟨m, Y, em, emn, hS, hcc, back⟩ := (Mk.exts (x := ⟨nm, p, pn, c, ps, rt⟩) h6.in1); have HG := Lib.hid (And.intro em (And.intro emn (And.intro hS (And.intro hcc back)))); obtain ⟨k0, k1, k2⟩ := hcc _ _ hS; clear hS hcc back em emn))
  go_region_law (first | (refine step_app rfl (.tmp 31) (.tmp 33) 32 rfl iV _ 48 Tryz.underlying32 HI.out.1 HI.out.2.1 HI.out.2.2.1 HI.out.2.2.2 rfl (by decide) rfl ((HG.out.2.2.1.alloc _).drew) (⟨nm, p, pn, c, ps, rt⟩ : LExt) _ 1 rfl rfl (cell3_lit3 _ _ _ _ _) (extC_one _) (by have h1 := HN.out.1; have h2 := HN.out.2; have h3 : m.xs.length = n := (by rw [← h1, ← HG.out.1]; unfold modD; simp); rw [h3]; unfold maxLen; omega) (by have h1 := HN.out.1; have h2 := HN.out.2; have h3 : m.xs.length = n := (by rw [← h1, ← HG.out.1]; unfold modD; simp); rw [h3]; omega) ?_; intro p' c' w' hS'; obtain ⟨j0, j1, j2⟩ := HG.out.2.2.2.1 _ _ hS'))
  all_goals
    go_end0
    exact ⟨rfl, (HG.out.2.2.2.2 _ _ _ _ hS').nobx⟩
end
end Go.Proofs.YtjomihlnjobndaaGreatDoor
/- The parser: a function. -/
namespace Go.Proofs.YtjomihlnjobndaaGreatDoor
open Go.RowKit Go.Maps
set_option linter.unusedVariables false
set_option linter.unusedSimpArgs false

section
variable {B b : Nat} {W w w' : World} {en : Tok} {mm : PMod} {s : RS} {Z Z' : As}
theorem Mk.fk {g : Nat} {nm : ByteArray} {p : Option Addr} {pn c : Nat} {rt : Int} {X : As} (h : Mk B W b en mm s ((As.and (bxs [(g, [.string nm, .slice p pn c, .int .i64 rt, .slice none 0 0])]) ((As.and X Z)))) w) :
    ∃ m : LMod, modD m = mm ∧ Fk B W b en (.slice m.vp m.vn m.vc) (.slice m.xp m.xn m.xc) (.slice m.fp m.fn m.fc) g nm p pn c rt ([], s) ((As.and X ((As.and (modAs B m) Z)))) w := by
  obtain ⟨m, e, hP⟩ := h
  refine ⟨m, e, none, 0, [], rfl, hP.imp ⟨fun w x => ⟨x.2.1.1, ⟨rw_nil w, trivial⟩, x.2.2.1, x.1, x.2.2.2⟩, fun k => ?_⟩⟩
  simp only [As.and_c, blksAs, rw_c, cR, bxs, As.all, As.emp_c, List.length_nil]
  omega
theorem Mk.unfk {g : Nat} {nm : ByteArray} {p : Option Addr} {pn c : Nat} {rt : Int} {ps : List Int} {m : LMod} (e : modD m = mm) {r : List (List PIns) × RS} (h : Fk B W b en (.slice m.vp m.vn m.vc) (.slice m.xp m.xn m.xc) (.slice m.fp m.fn m.fc) g nm p pn c rt r ((As.and (rw' B 3 1 intC p pn c ps) ((As.and (modAs B m) Z)))) w) :
    ∃ (bp : Option Addr) (bn bc : Nat) (bs : List LB), bs.map blkD = r.1 ∧ Mk B W b en mm r.2 ((As.and (bxs [(g, [.string nm, .slice p pn c, .int .i64 rt, .slice bp bn bc])]) ((As.and (fnAs B ⟨nm, p, pn, c, ps, rt, bp, bn, bc, bs⟩) Z)))) w := by
  obtain ⟨bp, bc, bs, eb, hP⟩ := h
  refine ⟨bp, bs.length, bc, bs, eb, m, e, hP.imp ⟨fun w x => ⟨x.2.2.2.1, ⟨x.1, trivial⟩, ⟨x.2.2.1, x.2.1⟩, x.2.2.2.2⟩, fun k => ?_⟩⟩
  simp only [As.and_c, fnAs, bxs, As.all, As.emp_c]
  omega
set_option maxRecDepth 100000 in
set_option maxHeartbeats 4000000 in
theorem function_any (K : Kn B W en) (hv : mm.fs.length ≤ 1000000) (hL : tsl s ≤ 500000) (hZ : sz s ≤ 300000) (h : Mk B W b en mm s Z w) :
    Calls Tryz.prog 64 #[.pointer (some ⟨b, 0, none⟩)] w (fun e w' => e = .returned (.tuple #[]) ∧ Mk B W b en (iFunc en (mm, s)).1 (iFunc en (mm, s)).2 Z w') := by
  obtain ⟨iV, hiV, hz0, hz1, hz2⟩ := info_parts infoFn
  have HI := Lib.hid (And.intro hiV (And.intro hz0 (And.intro hz1 hz2)))
  clear hiV hz0 hz1 hz2
  obtain ⟨vp, vc, xp, xc, fp, fc, ⟨c8, c9, c10⟩, bl⟩ := h.head
  clear c8 c9
  obtain ⟨n, eN⟩ : ∃ n, mm.fs.length = n := ⟨_, rfl⟩
  rw [eN] at c10 hv
  obtain ⟨F, eF⟩ : ∃ F, (n == 8) = F := ⟨_, rfl⟩
  have eF2 : ((n : Int) == 8) = F := by
    rw [← eF]
    by_cases h8 : n = 8
    · subst h8; rfl
    · rw [beq_false_of_ne h8]; exact beq_false_of_ne (by omega)
  have C1 := newName_any K F 114 (fun x => (findCalP mm x).getD (-1)) (fun x => (findCalP mm x).isSome) enters_findC (fun x s1 Z1 w1 h1 => findCallee_any x h1) h
  rw [hasCal_eq] at C1
  have hmf : ∀ (fn : Fn) (first cap : Array Value) (w : World), (Instr.makeFunc fn first cap).run Tryz.prog w = .ok (.func fn first cap) w := fun _ _ _ _ => rfl
  have eH : sHead en (mm, s) = sWant en 6 (sTypes en (sName en F (hasCal mm) s)) := by
    unfold sHead
    dsimp only
    rw [eN, eF]
  have eR : iFunc en (mm, s) = ({ mm with fs := mm.fs ++ [⟨vName en s, (vTypes en (sName en F (hasCal mm) s)).1, (vTypes en (sName en F (hasCal mm) s)).2, (iBody en ((sWant en 6 (sTypes en (sName en F (hasCal mm) s))).ts.length + 1) ([], sWant en 6 (sTypes en (sName en F (hasCal mm) s)))).1⟩] },
      (iBody en ((sWant en 6 (sTypes en (sName en F (hasCal mm) s))).ts.length + 1) ([], sWant en 6 (sTypes en (sName en F (hasCal mm) s)))).2) := by
    unfold iFunc
    dsimp only
    rw [eH, eN, eF]
  rw [eR]
  have hl0 := l2_name en F (hasCal mm) s
  have hL1 : tsl (sName en F (hasCal mm) s) ≤ 500000 := Nat.le_trans hl0.2 hL
  have hl2 : Le2 s (sWant en 6 (sTypes en (sName en F (hasCal mm) s))) := hl0.trans ((l2_types K.2.2.2 _).trans (l2_want _ _ _))
  obtain ⟨s1, es1⟩ : ∃ s1, sName en F (hasCal mm) s = s1 := ⟨_, rfl⟩
  obtain ⟨nm, enm⟩ : ∃ nm, vName en s = nm := ⟨_, rfl⟩
  simp only [es1, enm] at C1 hL1 hl2 ⊢
  have CS : ∀ {Z' : As} w1, Mk B W b en mm s1 Z' w1 → _ := fun {Z'} w1 h1 => h1.types K hL1
  obtain ⟨q, eq⟩ : ∃ q, vTypes en s1 = q := ⟨_, rfl⟩
  obtain ⟨ps, rt⟩ := q
  simp only [eq] at CS ⊢
  obtain ⟨pn, epn⟩ : ∃ pn, ps.length = pn := ⟨_, rfl⟩
  simp only [epn] at CS
  have CB : ∀ {m0 m1 m2 : Value} {g : Nat} {p : Option Addr} {c : Nat} {Z' : As} w1, Fk B W b en m0 m1 m2 g nm p pn c rt ([], sWant en 6 (sTypes en s1)) Z' w1 → _ := fun {m0 m1 m2 g p c Z'} w1 h1 =>
    body_any K ((sWant en 6 (sTypes en s1)).ts.length + 1) (Nat.lt_succ_self _) (Nat.le_trans hl2.1 hZ) (by have h9 := Nat.le_trans hl2.2 hL; show 0 + 0 + tsl (sWant en 6 (sTypes en s1)) ≤ 500000; omega) h1
  obtain ⟨r, er⟩ : ∃ r, iBody en ((sWant en 6 (sTypes en s1)).ts.length + 1) ([], sWant en 6 (sTypes en s1)) = r := ⟨_, rfl⟩
  simp only [er] at CB ⊢
  have HN := Lib.hid (And.intro eN hv)
  clear h eR es1 enm eq eN hv eF K hL hL1 epn hl0 hl2 er eH
  go_enter Tryz.func64, Tryz.ntmps64
  go_wp2_with (first | ((with_reducible refine C1.mono ?_); rintro e w1 ⟨rfl, h1⟩; have bl1 := h1.lt; have h2 := h1.b0.bpush rfl [.string nm, .slice none 0 0, .int .i64 0, .slice none 0 0] 46) | ((with_reducible refine (CS _ h2).mono ?_); rintro e w3 ⟨p, c, rfl, hT⟩; have h3 := hT.out1; have bl3 := h3.lt; have hb3 := h3.bget 0 rfl; have v0 := hb3.get 0 _ rfl; have v1 := hb3.get 1 _ rfl; have v2 := hb3.get 2 _ rfl; have v3 := hb3.get 3 _ rfl; have gl := hb3.1; have f1 := hb3.2.1 1; have f2 := hb3.2.1 2; have h5 := (h3.bput 0 rfl 1 (.slice p pn c)).bput 0 rfl 2 (.int .i64 rt)) | ((with_reducible refine (h5.wantLineEnd).mono ?_); rintro e w6 ⟨rfl, h6⟩; have bl6 := h6.lt; have gl6 := (h6.bget 0 rfl).1; obtain ⟨m1, em1, hF⟩ := Mk.fk h6; have HM := Lib.hid em1; clear em1) | ((with_reducible refine (CB _ hF).mono ?_); rintro e w7 ⟨rfl, hF7⟩; obtain ⟨bp, bn, bc, bs, ebs, h7⟩ := Mk.unfk HM.out hF7; have HE := Lib.hid ebs; have bl7 := h7.lt; have hb7 := h7.bget 0 rfl; have y0 := hb7.get 0 _ rfl; have y1 := hb7.get 1 _ rfl; have y2 := hb7.get 2 _ rfl; have y3 := hb7.get 3 _ rfl; have gl7 := hb7.1; obtain ⟨m, Y, em, emn, hS, hcc, back⟩ := (Mk.fns (x := ⟨nm, p, pn, c, ps, rt, bp, bn, bc, bs⟩) h7.in1); have HG := Lib.hid (And.intro em (And.intro emn (And.intro hS (And.intro hcc back)))); obtain ⟨k0, k1, k2⟩ := hcc _ _ hS; clear hS hcc back em emn ebs))
  go_region_law (first | (refine step_app rfl (.tmp 33) (.tmp 35) 33 rfl iV _ 72 Tryz.underlying33 HI.out.1 HI.out.2.1 HI.out.2.2.1 HI.out.2.2.2 rfl (by decide) rfl ((HG.out.2.2.1.alloc _).drew) (⟨nm, p, pn, c, ps, rt, bp, bn, bc, bs⟩ : LFn) _ 1 rfl rfl (cell4_lit2 _ _ _ _ _ _) (fnC_one _) (by have h1 := HN.out.1; have h2 := HN.out.2; have h3 : m.fs.length = n := (by rw [← h1, ← HG.out.1]; unfold modD; simp); rw [h3]; unfold maxLen; omega) (by have h1 := HN.out.1; have h2 := HN.out.2; have h3 : m.fs.length = n := (by rw [← h1, ← HG.out.1]; unfold modD; simp); rw [h3]; omega) ?_; intro p' c' w' hS'; obtain ⟨j0, j1, j2⟩ := HG.out.2.2.2.1 _ _ hS'))
  all_goals
    go_end0
    have q := (HG.out.2.2.2.2 _ _ _ _ hS').nobx
    have e9 : fnD (⟨nm, p, pn, c, ps, rt, bp, bn, bc, bs⟩ : LFn) = ⟨nm, ps, rt, r.1⟩ := by unfold fnD; rw [HE.out]
    rw [e9] at q
    exact ⟨rfl, q⟩
end
end Go.Proofs.YtjomihlnjobndaaGreatDoor
