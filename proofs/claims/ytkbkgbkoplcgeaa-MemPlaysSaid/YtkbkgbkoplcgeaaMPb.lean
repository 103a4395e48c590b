/- MemPlays: a step at both memories. -/
import Derived.Test.YtkbkgbkoplcgeaaMPa
namespace Go.Proofs.Ytkbkgbkoplcgeaa
open Go.RowKit Go.Maps
set_option linter.unusedVariables false
set_option linter.unusedSimpArgs false
set_option maxRecDepth 100000

set_option maxHeartbeats 2000000 in
theorem one_1 (W : World) (o : Nat → Nat) (mb : Nat) (D : Dm) (A B : Nat) (q : Option Addr) (d : Nat) (ys : List Rk) (w : World) (h : Pl W o mb D D A B q d ys w) (kd a b t vk vb vbk vo ak ab abk ao y : Int) (hs : SpOk ⟨kd, a, b, t, ⟨vk, vb, vbk, vo⟩, ⟨ak, ab, abk, ao⟩, y⟩) (hok : DmOk D) (hl : D.length ≤ 1000) (r1 : (kd == 1) = true) :
    Calls Try.prog 24 #[.pointer (some ⟨mb, 0, none⟩), .slice q ys.length d, .agg #[.int .i64 kd, .int .i64 a, .int .i64 b, .int .i64 t, .int .i64 vk, .int .u64 vb, .int .i64 vbk, .int .i64 vo, .int .i64 ak, .int .u64 ab, .int .i64 abk, .int .i64 ao, .int .u8 y]] w fun e w' => ∃ o' A' B' q' d' ys', e = .returned (.tuple #[.slice q' ys'.length d', .bool true]) ∧ Pl W o' mb (dNew D a q0) (dNew D a q0) A' B' q' d' ys' w' ∧ Only o w w' ∧ Ext o o' w := by
  have hyl : ys.length = D.length := by rw [h.r.shows, List.length_map]
  have hyn : ys.length ≤ 100000 := by omega
  have HB : Pb W o w o mb D D A B q d ys w.heap.size [.int .i64 kd, .int .i64 a, .int .i64 b, .int .i64 t, .int .i64 vk, .int .u64 vb, .int .i64 vbk, .int .i64 vo, .int .i64 ak, .int .u64 ab, .int .i64 abk, .int .i64 ao, .int .u8 y] (w.alloc (.cells #[.int .i64 kd, .int .i64 a, .int .i64 b, .int .i64 t, .int .i64 vk, .int .u64 vb, .int .i64 vbk, .int .i64 vo, .int .i64 ak, .int .u64 ab, .int .i64 abk, .int .i64 ao, .int .u8 y] 43)) := h.box [.int .i64 kd, .int .i64 a, .int .i64 b, .int .i64 t, .int .i64 vk, .int .u64 vb, .int .i64 vbk, .int .i64 vo, .int .i64 ak, .int .u64 ab, .int .i64 abk, .int .i64 ao, .int .u8 y] 43
  obtain ⟨s0, s1, s2, s3, s4, s5, s6⟩ := hs
  simp only at s0 s1 s2 s3 s4 s5 s6
  have H1 := Lib.hid HB
  have c1 := rAlloc_any (w.alloc (.cells #[.int .i64 kd, .int .i64 a, .int .i64 b, .int .i64 t, .int .i64 vk, .int .u64 vb, .int .i64 vbk, .int .i64 vo, .int .i64 ak, .int .u64 ab, .int .i64 abk, .int .i64 ao, .int .u8 y] 43)).drew q d ys D a hyn (H1.out.later (below_drew (Below.refl _ _))).p.lies
  have c2 : ∀ w', MemD o mb D w' → Calls Try.prog 27 #[.pointer (some ⟨mb, 0, none⟩), .int .i64 a] w' fun e w2 => e = .returned (.int .i64 ys.length) ∧ GoesD o mb (dNew D a q0) w' w2 := fun w' hm => by
    have := AllocD o mb D w' a s1 (by omega) hm
    rw [← hyl] at this
    exact this
  clear h HB hyl
  go_enter Try.func24, Try.ntmps24
  go_wp2_with fail
  go_region_law (first
    | (go_simp
       (with_reducible refine c1.mono ?_)
       rintro e w5 ⟨q5, d5, ys5, rfl, g5⟩
       have H2 := (H1.out.later (below_drew (Below.refl _ _))).goR g5
       obtain ⟨f0, f1, f2, f3, f4, f5, f6, f7, f8, f9, f10, f11, f12⟩ := H2.cells
       have d2 := c2 w5 H2.p.m
       have H3 := Lib.hid H2
       clear H2)
    | (go_simp
       (with_reducible refine d2.mono ?_)
       rintro e w6 ⟨rfl, g6⟩
       obtain ⟨o6, H6⟩ := H3.out.goM g6
       have H7 := Lib.hid H6
       clear H6))
  all_goals
    go_wp2_with fail
    go_ret2
    exact ⟨_, _, _, _, _, _, rfl, H7.out.p, H7.out.on, H7.out.ex⟩
set_option maxHeartbeats 2000000 in
theorem one_2 (W : World) (o : Nat → Nat) (mb : Nat) (D : Dm) (A B : Nat) (q : Option Addr) (d : Nat) (ys : List Rk) (w : World) (h : Pl W o mb D D A B q d ys w) (kd a b t vk vb vbk vo ak ab abk ao y : Int) (hs : SpOk ⟨kd, a, b, t, ⟨vk, vb, vbk, vo⟩, ⟨ak, ab, abk, ao⟩, y⟩) (hok : DmOk D) (hl : D.length ≤ 1000) (r1 : (kd == 1) = false) (r2 : (kd == 2) = true) :
    Calls Try.prog 24 #[.pointer (some ⟨mb, 0, none⟩), .slice q ys.length d, .agg #[.int .i64 kd, .int .i64 a, .int .i64 b, .int .i64 t, .int .i64 vk, .int .u64 vb, .int .i64 vbk, .int .i64 vo, .int .i64 ak, .int .u64 ab, .int .i64 abk, .int .i64 ao, .int .u8 y]] w fun e w' => ∃ o' A' B' q' d' ys', e = .returned (.tuple #[.slice q' ys'.length d', .bool true]) ∧ Pl W o' mb (dFree D a) (dFree D a) A' B' q' d' ys' w' ∧ Only o w w' ∧ Ext o o' w := by
  have hyl : ys.length = D.length := by rw [h.r.shows, List.length_map]
  have hyn : ys.length ≤ 100000 := by omega
  have HB : Pb W o w o mb D D A B q d ys w.heap.size [.int .i64 kd, .int .i64 a, .int .i64 b, .int .i64 t, .int .i64 vk, .int .u64 vb, .int .i64 vbk, .int .i64 vo, .int .i64 ak, .int .u64 ab, .int .i64 abk, .int .i64 ao, .int .u8 y] (w.alloc (.cells #[.int .i64 kd, .int .i64 a, .int .i64 b, .int .i64 t, .int .i64 vk, .int .u64 vb, .int .i64 vbk, .int .i64 vo, .int .i64 ak, .int .u64 ab, .int .i64 abk, .int .i64 ao, .int .u8 y] 43)) := h.box [.int .i64 kd, .int .i64 a, .int .i64 b, .int .i64 t, .int .i64 vk, .int .u64 vb, .int .i64 vbk, .int .i64 vo, .int .i64 ak, .int .u64 ab, .int .i64 abk, .int .i64 ao, .int .u8 y] 43
  obtain ⟨s0, s1, s2, s3, s4, s5, s6⟩ := hs
  simp only at s0 s1 s2 s3 s4 s5 s6
  have H1 := Lib.hid HB
  have c1 := FreeD o mb D (w.alloc (.cells #[.int .i64 kd, .int .i64 a, .int .i64 b, .int .i64 t, .int .i64 vk, .int .u64 vb, .int .i64 vbk, .int .i64 vo, .int .i64 ak, .int .u64 ab, .int .i64 abk, .int .i64 ao, .int .u8 y] 43)) a s1 H1.out.p.m
  have c2 := fun o' w' (hp : Pb W o w o' mb (dFree D a) D A B q d ys w.heap.size [.int .i64 kd, .int .i64 a, .int .i64 b, .int .i64 t, .int .i64 vk, .int .u64 vb, .int .i64 vbk, .int .i64 vo, .int .i64 ak, .int .u64 ab, .int .i64 abk, .int .i64 ao, .int .u8 y] w') => rFree_any w' q d ys D a hyn hp.p.lies
  clear h HB hyl
  go_enter Try.func24, Try.ntmps24
  go_wp2_with (first
    | ((with_reducible refine c1.mono ?_); rintro e w5 ⟨rfl, g5⟩; obtain ⟨o5, H2⟩ := H1.out.goM g5; obtain ⟨f0, f1, f2, f3, f4, f5, f6, f7, f8, f9, f10, f11, f12⟩ := H2.cells; have d2 := c2 o5 w5 H2; have H3 := Lib.hid H2; clear H2)
    | ((with_reducible refine d2.mono ?_); rintro e w6 ⟨q6, d6, ys6, rfl, g6⟩; have H7 := Lib.hid (H3.out.goR g6)))
  go_ret2
  exact ⟨_, _, _, _, _, _, rfl, H7.out.p, H7.out.on, H7.out.ex⟩
set_option maxHeartbeats 2000000 in
theorem one_3 (W : World) (o : Nat → Nat) (mb : Nat) (D : Dm) (A B : Nat) (q : Option Addr) (d : Nat) (ys : List Rk) (w : World) (h : Pl W o mb D D A B q d ys w) (kd a b t vk vb vbk vo ak ab abk ao y : Int) (hs : SpOk ⟨kd, a, b, t, ⟨vk, vb, vbk, vo⟩, ⟨ak, ab, abk, ao⟩, y⟩) (hok : DmOk D) (hl : D.length ≤ 1000) (r1 : (kd == 1) = false) (r2 : (kd == 2) = false) (r3 : (kd == 3) = true) :
    Calls Try.prog 24 #[.pointer (some ⟨mb, 0, none⟩), .slice q ys.length d, .agg #[.int .i64 kd, .int .i64 a, .int .i64 b, .int .i64 t, .int .i64 vk, .int .u64 vb, .int .i64 vbk, .int .i64 vo, .int .i64 ak, .int .u64 ab, .int .i64 abk, .int .i64 ao, .int .u8 y]] w fun e w' => ∃ o' A' B' q' d' ys', e = .returned (.tuple #[.slice q' ys'.length d', .bool true]) ∧ Pl W o' mb D D A' B' q' d' ys' w' ∧ Only o w w' ∧ Ext o o' w := by
  have hyl : ys.length = D.length := by rw [h.r.shows, List.length_map]
  have hyn : ys.length ≤ 100000 := by omega
  have HB : Pb W o w o mb D D A B q d ys w.heap.size [.int .i64 kd, .int .i64 a, .int .i64 b, .int .i64 t, .int .i64 vk, .int .u64 vb, .int .i64 vbk, .int .i64 vo, .int .i64 ak, .int .u64 ab, .int .i64 abk, .int .i64 ao, .int .u8 y] (w.alloc (.cells #[.int .i64 kd, .int .i64 a, .int .i64 b, .int .i64 t, .int .i64 vk, .int .u64 vb, .int .i64 vbk, .int .i64 vo, .int .i64 ak, .int .u64 ab, .int .i64 abk, .int .i64 ao, .int .u8 y] 43)) := h.box [.int .i64 kd, .int .i64 a, .int .i64 b, .int .i64 t, .int .i64 vk, .int .u64 vb, .int .i64 vbk, .int .i64 vo, .int .i64 ak, .int .u64 ab, .int .i64 abk, .int .i64 ao, .int .u8 y] 43
  obtain ⟨s0, s1, s2, s3, s4, s5, s6⟩ := hs
  simp only at s0 s1 s2 s3 s4 s5 s6
  have H1 := Lib.hid HB
  have hrow := hok.rows h.r.shows
  obtain ⟨⟨xk, xb, xbk, xo⟩, eL⟩ : ∃ x, loadV D t ⟨ak, ab, abk, ao⟩ = x := ⟨_, rfl⟩
  obtain ⟨I, eI⟩ : ∃ x, dIn D t ⟨ak, ab, abk, ao⟩ = x := ⟨_, rfl⟩
  have c1 : Calls Try.prog 31 #[.pointer (some ⟨mb, 0, none⟩), .int .i64 t, .agg #[.int .i64 ak, .int .u64 ab, .int .i64 abk, .int .i64 ao]] (w.alloc (.cells #[.int .i64 kd, .int .i64 a, .int .i64 b, .int .i64 t, .int .i64 vk, .int .u64 vb, .int .i64 vbk, .int .i64 vo, .int .i64 ak, .int .u64 ab, .int .i64 abk, .int .i64 ao, .int .u8 y] 43)) fun e w' => e = .returned (.tuple #[.agg #[.int .i64 xk, .int .u64 xb, .int .i64 xbk, .int .i64 xo], .bool I]) ∧ Below (w.alloc (.cells #[.int .i64 kd, .int .i64 a, .int .i64 b, .int .i64 t, .int .i64 vk, .int .u64 vb, .int .i64 vbk, .int .i64 vo, .int .i64 ak, .int .u64 ab, .int .i64 abk, .int .i64 ao, .int .u8 y] 43)).heap.size (w.alloc (.cells #[.int .i64 kd, .int .i64 a, .int .i64 b, .int .i64 t, .int .i64 vk, .int .u64 vb, .int .i64 vbk, .int .i64 vo, .int .i64 ak, .int .u64 ab, .int .i64 abk, .int .i64 ao, .int .u8 y] 43)) w' := by
    have := LoadD o mb D (w.alloc (.cells #[.int .i64 kd, .int .i64 a, .int .i64 b, .int .i64 t, .int .i64 vk, .int .u64 vb, .int .i64 vbk, .int .i64 vo, .int .i64 ak, .int .u64 ab, .int .i64 abk, .int .i64 ao, .int .u8 y] 43)) t ⟨ak, ab, abk, ao⟩ s5.2.1 s5.2.2.1 H1.out.p.m
    rw [eL, eI] at this
    exact this
  have c2 : ∀ w', Pb W o w o mb D D A B q d ys w.heap.size [.int .i64 kd, .int .i64 a, .int .i64 b, .int .i64 t, .int .i64 vk, .int .u64 vb, .int .i64 vbk, .int .i64 vo, .int .i64 ak, .int .u64 ab, .int .i64 abk, .int .i64 ao, .int .u8 y] w' → Calls Try.prog 53 #[.slice q ys.length d, .int .i64 t, .agg #[.int .i64 ak, .int .u64 ab, .int .i64 abk, .int .i64 ao]] w' fun e w2 => e = .returned (.tuple #[.agg #[.int .i64 xk, .int .u64 xb, .int .i64 xbk, .int .i64 xo], .bool I]) ∧ Below w'.heap.size w' w2 := fun w' hp => by
    have := rLoad_any w' q d ys D t ⟨ak, ab, abk, ao⟩ hp.p.lies hrow
    rw [eL, eI] at this
    exact this
  clear eL eI
  clear h HB hyl
  go_enter Try.func24, Try.ntmps24
  go_wp2_with (first
    | ((with_reducible refine c1.mono ?_); rintro e w5 ⟨rfl, hb⟩; have H2 := H1.out.later hb; have H3 := Lib.hid (H2.later (below1 w5 (.cells #[.int .i64 xk, .int .u64 xb, .int .i64 xbk, .int .i64 xo] 24))); have hz := H2.b.1; obtain ⟨f0, f1, f2, f3, f4, f5, f6, f7, f8, f9, f10, f11, f12⟩ := H2.cells; have d2 := c2 _ H3.out; have hx := Lib.hid (Box.new w5 rfl [.int .i64 xk, .int .u64 xb, .int .i64 xbk, .int .i64 xo] 24); clear H2 hb)
    | ((with_reducible refine d2.mono ?_); rintro e w6 ⟨rfl, hb⟩; have X := hx.out.later hb; have x0 := X.get 0 _ rfl; have x1 := X.get 1 _ rfl; have x2 := X.get 2 _ rfl; have x3 := X.get 3 _ rfl; have xz := X.1; have H7 := Lib.hid ((H3.out.later hb).later (below1 w6 (.cells #[.int .i64 xk, .int .u64 xb, .int .i64 xbk, .int .i64 xo] 24))); clear X hb))
  go_ret2
  exact ⟨_, _, _, _, _, _, rfl, H7.out.p, H7.out.on, H7.out.ex⟩
set_option maxHeartbeats 2000000 in
theorem one_4 (W : World) (o : Nat → Nat) (mb : Nat) (D : Dm) (A B : Nat) (q : Option Addr) (d : Nat) (ys : List Rk) (w : World) (h : Pl W o mb D D A B q d ys w) (kd a b t vk vb vbk vo ak ab abk ao y : Int) (hs : SpOk ⟨kd, a, b, t, ⟨vk, vb, vbk, vo⟩, ⟨ak, ab, abk, ao⟩, y⟩) (hok : DmOk D) (hl : D.length ≤ 1000) (r1 : (kd == 1) = false) (r2 : (kd == 2) = false) (r3 : (kd == 3) = false) (r4 : (kd == 4) = true) :
    Calls Try.prog 24 #[.pointer (some ⟨mb, 0, none⟩), .slice q ys.length d, .agg #[.int .i64 kd, .int .i64 a, .int .i64 b, .int .i64 t, .int .i64 vk, .int .u64 vb, .int .i64 vbk, .int .i64 vo, .int .i64 ak, .int .u64 ab, .int .i64 abk, .int .i64 ao, .int .u8 y]] w fun e w' => ∃ o' A' B' q' d' ys', e = .returned (.tuple #[.slice q' ys'.length d', .bool true]) ∧ Pl W o' mb (dStore D t ⟨vk, vb, vbk, vo⟩ ⟨ak, ab, abk, ao⟩) (dStore D t ⟨vk, vb, vbk, vo⟩ ⟨ak, ab, abk, ao⟩) A' B' q' d' ys' w' ∧ Only o w w' ∧ Ext o o' w := by
  have hyl : ys.length = D.length := by rw [h.r.shows, List.length_map]
  have hyn : ys.length ≤ 100000 := by omega
  have HB : Pb W o w o mb D D A B q d ys w.heap.size [.int .i64 kd, .int .i64 a, .int .i64 b, .int .i64 t, .int .i64 vk, .int .u64 vb, .int .i64 vbk, .int .i64 vo, .int .i64 ak, .int .u64 ab, .int .i64 abk, .int .i64 ao, .int .u8 y] (w.alloc (.cells #[.int .i64 kd, .int .i64 a, .int .i64 b, .int .i64 t, .int .i64 vk, .int .u64 vb, .int .i64 vbk, .int .i64 vo, .int .i64 ak, .int .u64 ab, .int .i64 abk, .int .i64 ao, .int .u8 y] 43)) := h.box [.int .i64 kd, .int .i64 a, .int .i64 b, .int .i64 t, .int .i64 vk, .int .u64 vb, .int .i64 vbk, .int .i64 vo, .int .i64 ak, .int .u64 ab, .int .i64 abk, .int .i64 ao, .int .u8 y] 43
  obtain ⟨s0, s1, s2, s3, s4, s5, s6⟩ := hs
  simp only at s0 s1 s2 s3 s4 s5 s6
  have H1 := Lib.hid HB
  obtain ⟨I, eI⟩ : ∃ x, dIn D t ⟨ak, ab, abk, ao⟩ = x := ⟨_, rfl⟩
  have c1 : Calls Try.prog 54 #[.slice q ys.length d, .int .i64 t, .agg #[.int .i64 vk, .int .u64 vb, .int .i64 vbk, .int .i64 vo], .agg #[.int .i64 ak, .int .u64 ab, .int .i64 abk, .int .i64 ao]] (w.alloc (.cells #[.int .i64 kd, .int .i64 a, .int .i64 b, .int .i64 t, .int .i64 vk, .int .u64 vb, .int .i64 vbk, .int .i64 vo, .int .i64 ak, .int .u64 ab, .int .i64 abk, .int .i64 ao, .int .u8 y] 43)) fun e w' => ∃ q5 d5 ys5, e = .returned (.tuple #[.slice q5 ys5.length d5, .bool I]) ∧ RmNew (w.alloc (.cells #[.int .i64 kd, .int .i64 a, .int .i64 b, .int .i64 t, .int .i64 vk, .int .u64 vb, .int .i64 vbk, .int .i64 vo, .int .i64 ak, .int .u64 ab, .int .i64 abk, .int .i64 ao, .int .u8 y] 43)) (dStore D t ⟨vk, vb, vbk, vo⟩ ⟨ak, ab, abk, ao⟩) q5 d5 ys5 w' := by
    have := rStore_any (w.alloc (.cells #[.int .i64 kd, .int .i64 a, .int .i64 b, .int .i64 t, .int .i64 vk, .int .u64 vb, .int .i64 vbk, .int .i64 vo, .int .i64 ak, .int .u64 ab, .int .i64 abk, .int .i64 ao, .int .u8 y] 43)) q d ys D t ⟨vk, vb, vbk, vo⟩ ⟨ak, ab, abk, ao⟩ hyn H1.out.p.lies s4.1
    rw [eI] at this
    exact this
  have c2 : ∀ w', MemD o mb D w' → Calls Try.prog 29 #[.pointer (some ⟨mb, 0, none⟩), .int .i64 t, .agg #[.int .i64 vk, .int .u64 vb, .int .i64 vbk, .int .i64 vo], .agg #[.int .i64 ak, .int .u64 ab, .int .i64 abk, .int .i64 ao]] w' fun e w2 => e = .returned (.bool I) ∧ GoesD o mb (dStore D t ⟨vk, vb, vbk, vo⟩ ⟨ak, ab, abk, ao⟩) w' w2 := fun w' hm => by
    have := StoreD o mb D w' t ⟨vk, vb, vbk, vo⟩ ⟨ak, ab, abk, ao⟩ s4.1 s4.2.1 s5.2.1 s5.2.2.1 hm
    rw [eI] at this
    exact this
  clear eI
  clear h HB hyl
  go_enter Try.func24, Try.ntmps24
  go_wp2_with (first
    | ((with_reducible refine c1.mono ?_); rintro e w5 ⟨q5, d5, ys5, rfl, g5⟩; have H2 := H1.out.goR g5; obtain ⟨f0, f1, f2, f3, f4, f5, f6, f7, f8, f9, f10, f11, f12⟩ := H2.cells; have d2 := c2 w5 H2.p.m; have H3 := Lib.hid H2; clear H2)
    | ((with_reducible refine d2.mono ?_); rintro e w6 ⟨rfl, g6⟩; obtain ⟨o6, H6⟩ := H3.out.goM g6; have H7 := Lib.hid H6; clear H6))
  go_ret2
  exact ⟨_, _, _, _, _, _, by simp, H7.out.p, H7.out.on, H7.out.ex⟩
set_option maxHeartbeats 2000000 in
theorem one_5 (W : World) (o : Nat → Nat) (mb : Nat) (D : Dm) (A B : Nat) (q : Option Addr) (d : Nat) (ys : List Rk) (w : World) (h : Pl W o mb D D A B q d ys w) (kd a b t vk vb vbk vo ak ab abk ao y : Int) (hs : SpOk ⟨kd, a, b, t, ⟨vk, vb, vbk, vo⟩, ⟨ak, ab, abk, ao⟩, y⟩) (hok : DmOk D) (hl : D.length ≤ 1000) (r1 : (kd == 1) = false) (r2 : (kd == 2) = false) (r3 : (kd == 3) = false) (r4 : (kd == 4) = false) (r5 : (kd == 5) = true) :
    Calls Try.prog 24 #[.pointer (some ⟨mb, 0, none⟩), .slice q ys.length d, .agg #[.int .i64 kd, .int .i64 a, .int .i64 b, .int .i64 t, .int .i64 vk, .int .u64 vb, .int .i64 vbk, .int .i64 vo, .int .i64 ak, .int .u64 ab, .int .i64 abk, .int .i64 ao, .int .u8 y]] w fun e w' => ∃ o' A' B' q' d' ys', e = .returned (.tuple #[.slice q' ys'.length d', .bool true]) ∧ Pl W o' mb (dSet D a b y) (dSet D a b y) A' B' q' d' ys' w' ∧ Only o w w' ∧ Ext o o' w := by
  have hyl : ys.length = D.length := by rw [h.r.shows, List.length_map]
  have hyn : ys.length ≤ 100000 := by omega
  have HB : Pb W o w o mb D D A B q d ys w.heap.size [.int .i64 kd, .int .i64 a, .int .i64 b, .int .i64 t, .int .i64 vk, .int .u64 vb, .int .i64 vbk, .int .i64 vo, .int .i64 ak, .int .u64 ab, .int .i64 abk, .int .i64 ao, .int .u8 y] (w.alloc (.cells #[.int .i64 kd, .int .i64 a, .int .i64 b, .int .i64 t, .int .i64 vk, .int .u64 vb, .int .i64 vbk, .int .i64 vo, .int .i64 ak, .int .u64 ab, .int .i64 abk, .int .i64 ao, .int .u8 y] 43)) := h.box [.int .i64 kd, .int .i64 a, .int .i64 b, .int .i64 t, .int .i64 vk, .int .u64 vb, .int .i64 vbk, .int .i64 vo, .int .i64 ak, .int .u64 ab, .int .i64 abk, .int .i64 ao, .int .u8 y] 43
  obtain ⟨s0, s1, s2, s3, s4, s5, s6⟩ := hs
  simp only at s0 s1 s2 s3 s4 s5 s6
  have H1 := Lib.hid HB
  obtain ⟨I, eI⟩ : ∃ x, dSetOk D a b = x := ⟨_, rfl⟩
  have c1 : Calls Try.prog 55 #[.slice q ys.length d, .int .i64 a, .int .i64 b, .int .u8 y] (w.alloc (.cells #[.int .i64 kd, .int .i64 a, .int .i64 b, .int .i64 t, .int .i64 vk, .int .u64 vb, .int .i64 vbk, .int .i64 vo, .int .i64 ak, .int .u64 ab, .int .i64 abk, .int .i64 ao, .int .u8 y] 43)) fun e w' => ∃ q5 d5 ys5, e = .returned (.tuple #[.slice q5 ys5.length d5, .bool I]) ∧ RmNew (w.alloc (.cells #[.int .i64 kd, .int .i64 a, .int .i64 b, .int .i64 t, .int .i64 vk, .int .u64 vb, .int .i64 vbk, .int .i64 vo, .int .i64 ak, .int .u64 ab, .int .i64 abk, .int .i64 ao, .int .u8 y] 43)) (dSet D a b y) q5 d5 ys5 w' := by
    have := rSet_any (w.alloc (.cells #[.int .i64 kd, .int .i64 a, .int .i64 b, .int .i64 t, .int .i64 vk, .int .u64 vb, .int .i64 vbk, .int .i64 vo, .int .i64 ak, .int .u64 ab, .int .i64 abk, .int .i64 ao, .int .u8 y] 43)) q d ys D a b y hyn H1.out.p.lies
    rw [eI] at this
    exact this
  have c2 : ∀ w', MemD o mb D w' → Calls Try.prog 30 #[.pointer (some ⟨mb, 0, none⟩), .int .i64 a, .int .i64 b, .int .u8 y] w' fun e w2 => e = .returned (.bool I) ∧ GoesD o mb (dSet D a b y) w' w2 := fun w' hm => by
    have := Set_any o mb D w' a b y s1 s2 s6 hm
    rw [eI] at this
    exact this
  clear eI
  clear h HB hyl
  go_enter Try.func24, Try.ntmps24
  go_wp2_with (first
    | ((with_reducible refine c1.mono ?_); rintro e w5 ⟨q5, d5, ys5, rfl, g5⟩; have H2 := H1.out.goR g5; obtain ⟨f0, f1, f2, f3, f4, f5, f6, f7, f8, f9, f10, f11, f12⟩ := H2.cells; have d2 := c2 w5 H2.p.m; have H3 := Lib.hid H2; clear H2)
    | ((with_reducible refine d2.mono ?_); rintro e w6 ⟨rfl, g6⟩; obtain ⟨o6, H6⟩ := H3.out.goM g6; have H7 := Lib.hid H6; clear H6))
  go_ret2
  exact ⟨_, _, _, _, _, _, by simp, H7.out.p, H7.out.on, H7.out.ex⟩
set_option maxHeartbeats 2000000 in
theorem one_6 (W : World) (o : Nat → Nat) (mb : Nat) (D : Dm) (A B : Nat) (q : Option Addr) (d : Nat) (ys : List Rk) (w : World) (h : Pl W o mb D D A B q d ys w) (kd a b t vk vb vbk vo ak ab abk ao y : Int) (hs : SpOk ⟨kd, a, b, t, ⟨vk, vb, vbk, vo⟩, ⟨ak, ab, abk, ao⟩, y⟩) (hok : DmOk D) (hl : D.length ≤ 1000) (r1 : (kd == 1) = false) (r2 : (kd == 2) = false) (r3 : (kd == 3) = false) (r4 : (kd == 4) = false) (r5 : (kd == 5) = false) :
    Calls Try.prog 24 #[.pointer (some ⟨mb, 0, none⟩), .slice q ys.length d, .agg #[.int .i64 kd, .int .i64 a, .int .i64 b, .int .i64 t, .int .i64 vk, .int .u64 vb, .int .i64 vbk, .int .i64 vo, .int .i64 ak, .int .u64 ab, .int .i64 abk, .int .i64 ao, .int .u8 y]] w fun e w' => ∃ o' A' B' q' d' ys', e = .returned (.tuple #[.slice q' ys'.length d', .bool true]) ∧ Pl W o' mb D D A' B' q' d' ys' w' ∧ Only o w w' ∧ Ext o o' w := by
  have hyl : ys.length = D.length := by rw [h.r.shows, List.length_map]
  have hyn : ys.length ≤ 100000 := by omega
  have HB : Pb W o w o mb D D A B q d ys w.heap.size [.int .i64 kd, .int .i64 a, .int .i64 b, .int .i64 t, .int .i64 vk, .int .u64 vb, .int .i64 vbk, .int .i64 vo, .int .i64 ak, .int .u64 ab, .int .i64 abk, .int .i64 ao, .int .u8 y] (w.alloc (.cells #[.int .i64 kd, .int .i64 a, .int .i64 b, .int .i64 t, .int .i64 vk, .int .u64 vb, .int .i64 vbk, .int .i64 vo, .int .i64 ak, .int .u64 ab, .int .i64 abk, .int .i64 ao, .int .u8 y] 43)) := h.box [.int .i64 kd, .int .i64 a, .int .i64 b, .int .i64 t, .int .i64 vk, .int .u64 vb, .int .i64 vbk, .int .i64 vo, .int .i64 ak, .int .u64 ab, .int .i64 abk, .int .i64 ao, .int .u8 y] 43
  obtain ⟨s0, s1, s2, s3, s4, s5, s6⟩ := hs
  simp only at s0 s1 s2 s3 s4 s5 s6
  have H1 := Lib.hid HB
  obtain ⟨S, eS⟩ : ∃ S, dSize D a = S := ⟨_, rfl⟩
  have c1 : Calls Try.prog 32 #[.pointer (some ⟨mb, 0, none⟩), .int .i64 a] (w.alloc (.cells #[.int .i64 kd, .int .i64 a, .int .i64 b, .int .i64 t, .int .i64 vk, .int .u64 vb, .int .i64 vbk, .int .i64 vo, .int .i64 ak, .int .u64 ab, .int .i64 abk, .int .i64 ao, .int .u8 y] 43)).drew fun e w' => e = .returned (.int .i64 S) ∧ (w.alloc (.cells #[.int .i64 kd, .int .i64 a, .int .i64 b, .int .i64 t, .int .i64 vk, .int .u64 vb, .int .i64 vbk, .int .i64 vo, .int .i64 ak, .int .u64 ab, .int .i64 abk, .int .i64 ao, .int .u8 y] 43)).drew = w' := by
    have := SizeD o mb D (w.alloc (.cells #[.int .i64 kd, .int .i64 a, .int .i64 b, .int .i64 t, .int .i64 vk, .int .u64 vb, .int .i64 vbk, .int .i64 vo, .int .i64 ak, .int .u64 ab, .int .i64 abk, .int .i64 ao, .int .u8 y] 43)).drew a s1 (H1.out.later (below_drew (Below.refl _ _))).p.m
    rw [eS] at this
    exact this
  have c2 : Calls Try.prog 56 #[.slice q ys.length d, .int .i64 a] (w.alloc (.cells #[.int .i64 kd, .int .i64 a, .int .i64 b, .int .i64 t, .int .i64 vk, .int .u64 vb, .int .i64 vbk, .int .i64 vo, .int .i64 ak, .int .u64 ab, .int .i64 abk, .int .i64 ao, .int .u8 y] 43)).drew fun e w' => e = .returned (.int .i64 S) ∧ (w.alloc (.cells #[.int .i64 kd, .int .i64 a, .int .i64 b, .int .i64 t, .int .i64 vk, .int .u64 vb, .int .i64 vbk, .int .i64 vo, .int .i64 ak, .int .u64 ab, .int .i64 abk, .int .i64 ao, .int .u8 y] 43)).drew = w' := by
    have := rSize_any (w.alloc (.cells #[.int .i64 kd, .int .i64 a, .int .i64 b, .int .i64 t, .int .i64 vk, .int .u64 vb, .int .i64 vbk, .int .i64 vo, .int .i64 ak, .int .u64 ab, .int .i64 abk, .int .i64 ao, .int .u8 y] 43)).drew q d ys D a (H1.out.later (below_drew (Below.refl _ _))).p.lies
    rw [eS] at this
    exact this
  clear eS
  clear h HB hyl
  go_enter Try.func24, Try.ntmps24
  go_wp2_with fail
  go_region_law (first
    | (go_simp
       (with_reducible refine c1.mono ?_)
       rintro e w5 ⟨rfl, rfl⟩)
    | (go_simp
       (with_reducible refine c2.mono ?_)
       rintro e w5 ⟨rfl, rfl⟩))
  all_goals
    go_wp2_with fail
    go_ret2
    exact ⟨_, _, _, _, _, _, rfl, (H1.out.later (below_drew (Below.refl _ _))).p, (H1.out.later (below_drew (Below.refl _ _))).on, (H1.out.later (below_drew (Below.refl _ _))).ex⟩
theorem one_any (W : World) (o : Nat → Nat) (mb : Nat) (D : Dm) (A B : Nat) (q : Option Addr) (d : Nat) (ys : List Rk) (w : World) (h : Pl W o mb D D A B q d ys w) (kd a b t vk vb vbk vo ak ab abk ao y : Int) (hs : SpOk ⟨kd, a, b, t, ⟨vk, vb, vbk, vo⟩, ⟨ak, ab, abk, ao⟩, y⟩) (hok : DmOk D) (hl : D.length ≤ 1000) :
    Calls Try.prog 24 #[.pointer (some ⟨mb, 0, none⟩), .slice q ys.length d, .agg #[.int .i64 kd, .int .i64 a, .int .i64 b, .int .i64 t, .int .i64 vk, .int .u64 vb, .int .i64 vbk, .int .i64 vo, .int .i64 ak, .int .u64 ab, .int .i64 abk, .int .i64 ao, .int .u8 y]] w fun e w' => ∃ o' A' B' q' d' ys', e = .returned (.tuple #[.slice q' ys'.length d', .bool true]) ∧ Pl W o' mb (plD D ⟨kd, a, b, t, ⟨vk, vb, vbk, vo⟩, ⟨ak, ab, abk, ao⟩, y⟩) (plD D ⟨kd, a, b, t, ⟨vk, vb, vbk, vo⟩, ⟨ak, ab, abk, ao⟩, y⟩) A' B' q' d' ys' w' ∧ Only o w w' ∧ Ext o o' w := by
  unfold plD
  by_cases k1 : kd = 1
  · simp only [if_pos k1]; exact one_1 W o mb D A B q d ys w h kd a b t vk vb vbk vo ak ab abk ao y hs hok hl (by simpa using k1)
  · have r1 : (kd == 1) = false := by simpa using k1
    by_cases k2 : kd = 2
    · simp only [if_neg k1, if_pos k2]; exact one_2 W o mb D A B q d ys w h kd a b t vk vb vbk vo ak ab abk ao y hs hok hl r1 (by simpa using k2)
    · have r2 : (kd == 2) = false := by simpa using k2
      by_cases k3 : kd = 3
      · have k4 : ¬ kd = 4 := by omega
        have k5 : ¬ kd = 5 := by omega
        simp only [if_neg k1, if_neg k2, if_neg k4, if_neg k5]; exact one_3 W o mb D A B q d ys w h kd a b t vk vb vbk vo ak ab abk ao y hs hok hl r1 r2 (by simpa using k3)
      · have r3 : (kd == 3) = false := by simpa using k3
        by_cases k4 : kd = 4
        · simp only [if_neg k1, if_neg k2, if_pos k4]; exact one_4 W o mb D A B q d ys w h kd a b t vk vb vbk vo ak ab abk ao y hs hok hl r1 r2 r3 (by simpa using k4)
        · have r4 : (kd == 4) = false := by simpa using k4
          by_cases k5 : kd = 5
          · simp only [if_neg k1, if_neg k2, if_neg k4, if_pos k5]; exact one_5 W o mb D A B q d ys w h kd a b t vk vb vbk vo ak ab abk ao y hs hok hl r1 r2 r3 r4 (by simpa using k5)
          · have r5 : (kd == 5) = false := by simpa using k5
            simp only [if_neg k1, if_neg k2, if_neg k4, if_neg k5]; exact one_6 W o mb D A B q d ys w h kd a b t vk vb vbk vo ak ab abk ao y hs hok hl r1 r2 r3 r4 r5
end Go.Proofs.Ytkbkgbkoplcgeaa
