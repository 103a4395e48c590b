/- Package refine: rows of bytes, events, whether lists of events are together. -/
import Derived.Test.YtglkbnckfkliaaaRfCv
import Derived.Test.YtglkbnckfkliaaaRfCy
import Derived.Test.YtglkbnckfkliaaaRfCl
import Derived.Test.YtglkbnckfkliaaaRfCe
import Derived.Test.YtglkbnckfkliaaaEvB0
import Derived.BigQuiet
import Derived.Deep.RegionHeld3
namespace Go.Proofs.Ytglkbnckfkliaaa
open Go.RowKit Go.Maps
set_option linter.unusedVariables false
set_option linter.unusedSimpArgs false
set_option maxRecDepth 100000
set_option maxHeartbeats 2000000

theorem Bytes_any (x y : LBy) (W : World) (hx : LByIn W.heap.size W x) (hy : LByIn W.heap.size W y) :
    Calls Try.prog 36 #[x.val, y.val] W fun e w' => e = .returned (.bool (refL x y)) ∧ Below W.heap.size W w' := by
  obtain ⟨p, n, c, l⟩ := x
  obtain ⟨p', n', c', l'⟩ := y
  have c1 := Eq_yy 10 (fun _ _ => rfl) (fun x y w _ _ => Byte_any x y w) W p p' n n' c c' l l' hx hy
  show Calls _ _ #[.slice p n c, .slice p' n' c'] W _
  go_enter Try.func36, Try.ntmps36
  go_wp2_with ((with_reducible refine c1.mono ?_); rintro e w' ⟨rfl, hb⟩)
  go_ret
  exact ⟨rfl, hb⟩
theorem Vars_any (p p' : Option Addr) (n n' c c' : Nat) (l l' : List LBy) (W : World) (hx : LLIn W.heap.size W p n c l) (hy : LLIn W.heap.size W p' n' c' l') :
    Calls Try.prog 31 #[.slice p n c, .slice p' n' c'] W fun e w' => e = .returned (.bool (allB refL l l')) ∧ Below W.heap.size W w' := by
  have c1 := Eq_lb 36 (fun _ _ => rfl) (fun x y w hx hy => Bytes_any x y w hx hy) W p p' n n' c c' l l' hx hy
  go_enter Try.func31, Try.ntmps31
  go_wp2_with ((with_reducible refine c1.mono ?_); rintro e w' ⟨rfl, hb⟩)
  go_ret
  exact ⟨rfl, hb⟩
theorem Fr.c3 {W w : World} {bs : List (Nat × List Value)} (F : Fr W bs w) (i : Nat) {g : Nat} {v0 v1 v2 : Value} (h : bs[i]? = some (g, [v0, v1, v2])) :
    w.cell? ⟨g, 0, none⟩ = some v0 ∧ w.cell? ⟨g, 1, none⟩ = some v1 ∧ w.cell? ⟨g, 2, none⟩ = some v2 := ⟨(F.at i h).2.get 0 _ rfl, (F.at i h).2.get 1 _ rfl, (F.at i h).2.get 2 _ rfl⟩
theorem Fr.past {W w : World} {bs : List (Nat × List Value)} (F : Fr W bs w) : Past W.heap.size W w := ⟨Nat.le_refl _, F.1⟩
theorem Event_any (x y : LEv) (W : World) (hx : EvIn W.heap.size W x) (hy : EvIn W.heap.size W y) :
    Calls Try.prog 29 #[x.val, y.val] W fun e w' => e = .returned (.bool (refE x y)) ∧ Below W.heap.size W w' := by
  obtain ⟨t, ap, an, ac, args, vp, vn, vc, vars⟩ := x
  obtain ⟨t', ap', an', ac', args', vp', vn', vc', vars'⟩ := y
  show Calls _ _ #[.agg #[.int .i64 t, .slice ap an ac, .slice vp vn vc], .agg #[.int .i64 t', .slice ap' an' ac', .slice vp' vn' vc']] W _
  have F := ((Fr.start W).push (g := W.heap.size) (by simp) [.int .i64 t, .slice ap an ac, .slice vp vn vc] 45).push (g := W.heap.size + 1) (by simp) [.int .i64 t', .slice ap' an' ac', .slice vp' vn' vc'] 45
  have P := F.past
  have ha : VsIn W.heap.size W ap an ac args := hx.1
  have ha' : VsIn W.heap.size W ap' an' ac' args' := hy.1
  have hv : LLIn W.heap.size W vp vn vc vars := hx.2
  have hv' : LLIn W.heap.size W vp' vn' vc' vars' := hy.2
  have c1 : Calls Try.prog 34 #[.slice ap an ac, .slice ap' an' ac', .func (.func 8) #[] #[]] ((W.alloc (.cells #[.int .i64 t, .slice ap an ac, .slice vp vn vc] 45)).alloc (.cells #[.int .i64 t', .slice ap' an' ac', .slice vp' vn' vc'] 45)) fun e w' => e = .returned (.bool (allB refV args args')) ∧ Fr W [(W.heap.size + 1, [.int .i64 t', .slice ap' an' ac', .slice vp' vn' vc']), (W.heap.size, [.int .i64 t, .slice ap an ac, .slice vp vn vc])] w' := by
    refine (Eq_vl 8 (fun _ _ => rfl) (fun x y w _ _ => Value_any x y w) _ ap ap' an an' ac ac' args args' (ha.lasts lasts_NoMem P.2 P.size) (ha'.lasts lasts_NoMem P.2 P.size)).mono ?_
    rintro e w' ⟨rfl, hb⟩
    exact ⟨rfl, F.later hb⟩
  have c2 : ∀ w, Past W.heap.size W w → Calls Try.prog 31 #[.slice vp vn vc, .slice vp' vn' vc'] w fun e w' => e = .returned (.bool (allB refL vars vars')) ∧ Below w.heap.size w w' := fun w hp => Vars_any vp vp' vn vn' vc vc' vars vars' w (hv.lasts lasts_LBy hp.2 hp.size) (hv'.lasts lasts_LBy hp.2 hp.size)
  have HP := Lib.hid P
  clear ha ha' hv hv' hx hy F P
  by_cases h1 : t = t'
  · subst h1
    cases h2 : allB refV args args'
    · have er : refE ⟨t, ap, an, ac, args, vp, vn, vc, vars⟩ ⟨t, ap', an', ac', args', vp', vn', vc', vars'⟩ = false := by unfold refE; rw [if_pos rfl, if_neg (by simp [h2])]
      rw [er]
      rw [h2] at c1
      clear h2 er
      go_enter Try.func29, Try.ntmps29
      go_wp2_with (first | ((with_reducible refine c1.mono ?_); rintro e w1 ⟨rfl, F⟩; obtain ⟨a0, a1, a2⟩ := F.c3 1 rfl; obtain ⟨b0, b1, b2⟩ := F.c3 0 rfl))
      go_ret
      exact ⟨rfl, F.1⟩
    · have er : refE ⟨t, ap, an, ac, args, vp, vn, vc, vars⟩ ⟨t, ap', an', ac', args', vp', vn', vc', vars'⟩ = allB refL vars vars' := by unfold refE; rw [if_pos rfl, if_pos h2]
      rw [er]
      rw [h2] at c1
      clear h2 er
      go_enter Try.func29, Try.ntmps29
      go_wp2_with (first
        | ((with_reducible refine c1.mono ?_); rintro e w1 ⟨rfl, F⟩; obtain ⟨a0, a1, a2⟩ := F.c3 1 rfl; obtain ⟨b0, b1, b2⟩ := F.c3 0 rfl; have c3 := c2 w1 F.past)
        | ((with_reducible refine c3.mono ?_); rintro e w2 ⟨rfl, hb2⟩))
      go_ret
      exact ⟨rfl, (F.later hb2).1⟩
  · have er : refE ⟨t, ap, an, ac, args, vp, vn, vc, vars⟩ ⟨t', ap', an', ac', args', vp', vn', vc', vars'⟩ = false := if_neg h1
    rw [er]
    have g1 := ne_b h1
    clear h1 er
    go_enter Try.func29, Try.ntmps29
    go_wp2_with fail
    go_ret
    exact ⟨rfl, HP.out.2⟩
theorem slice_head {t : TypeId} {e : TypeId} (ht : Try.prog.underlying t = some (.slice e)) (p : Option Addr) (n c k : Nat) (hk : k ≤ c) (hc : p = none → k = 0) (s : Nat) (hs : ∀ w, (sizeOf e).run Try.prog w = .ok s w) (w : World) :
    (Instr.slice t (.slice p n c) none (some (.int .i64 (k : Int))) none).run Try.prog w = .ok (.slice p k c) w := by
  have hb : (Instr.sliceBounds true n c none (some (.int .i64 (k : Int))) none).run Try.prog w = .ok (0, k, c) w := by
    simp [Instr.sliceBounds, go_sem, hk]
  rcases p with _ | a
  · have := hc rfl
    subst this
    simp [Instr.slice, run_underlying ht, hb, hs, go_sem]
    try (intro h; omega)
  · simp [Instr.slice, run_underlying ht, hb, hs, go_sem, add_zero]
    try (intro h; omega)
end Go.Proofs.Ytglkbnckfkliaaa
