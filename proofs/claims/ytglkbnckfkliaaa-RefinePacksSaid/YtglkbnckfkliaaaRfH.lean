/- The document's answers for refine: Event, Together. -/
import Derived.Test.YtglkbnckfkliaaaRfG
namespace Go.Proofs.Ytglkbnckfkliaaa
open Go.RowKit Go.Maps
set_option linter.unusedVariables false
set_option linter.unusedSimpArgs false
set_option maxRecDepth 100000
set_option maxHeartbeats 4000000

def InV (l l' : List Vl) (k : Nat) (b : Bool) : Prop := (b = true → l.length = l'.length ∧ ∀ i (h1 : i < l.length) (h2 : i < l'.length), i < k → refV l[i] l'[i] = true) ∧ (b = false → allB refV l l' = false)
theorem InV.start (l l' : List Vl) {b : Bool} (h : ((l.length : Int) == (l'.length : Int)) = b) : InV l l' 0 b := by
  subst h
  refine ⟨fun h => ⟨by have : (l.length : Int) = l'.length := by simpa using h
                       omega, fun i _ _ hi => absurd hi (Nat.not_lt_zero _)⟩, fun h => allB_len (fun e => by rw [e] at h; simp at h)⟩
theorem InV.step {l l' : List Vl} {k : Nat} (h : InV l l' k true) (h1 : k < l.length) (h2 : k < l'.length) : InV l l' (k + 1) (refV l[k] l'[k]) :=
  ⟨fun e => ⟨(h.1 rfl).1, fun i g1 g2 hi => by
    by_cases q : i = k
    · subst q; exact e
    · exact (h.1 rfl).2 i g1 g2 (by omega)⟩, fun e => allB_not k h1 h2 e⟩
theorem InV.ends {l l' : List Vl} {k : Nat} (h : InV l l' k true) (hk : l.length ≤ k) : allB refV l l' = true := allB_all (h.1 rfl).1 fun i h1 h2 => (h.1 rfl).2 i h1 h2 (by omega)
theorem rEvent_any (x y : LEv) (W : World) (hx : EvIn W.heap.size W x) (hy : EvIn W.heap.size W y) :
    Calls Try.prog 32 #[x.val, y.val] W fun e w' => e = .returned (.bool (refE x y)) ∧ Below W.heap.size W w' := by
  obtain ⟨t, ap, an, ac, args, vp, vn, vc, vars⟩ := x
  obtain ⟨t', ap', an', ac', args', vp', vn', vc', vars'⟩ := y
  have ha : VsIn W.heap.size W ap an ac args := hx.1
  have ha' : VsIn W.heap.size W ap' an' ac' args' := hy.1
  have hv : LLIn W.heap.size W vp vn vc vars := hx.2
  have hv' : LLIn W.heap.size W vp' vn' vc' vars' := hy.2
  obtain rfl : an = args.length := ha.1
  obtain rfl : an' = args'.length := ha'.1
  show Calls _ _ #[.agg #[.int .i64 t, .slice ap args.length ac, .slice vp vn vc], .agg #[.int .i64 t', .slice ap' args'.length ac', .slice vp' vn' vc']] W _
  have F := ((Fr.start W).push (g := W.heap.size) (by simp) [.int .i64 t, .slice ap args.length ac, .slice vp vn vc] 45).push (g := W.heap.size + 1) (by simp) [.int .i64 t', .slice ap' args'.length ac', .slice vp' vn' vc'] 45
  have k2 := ha.2.1
  have k3 := ha.2.2.1
  have k2' := ha'.2.1
  have k3' := ha'.2.2.1
  unfold maxLen at k3 k3'
  have c2 : ∀ w, Past W.heap.size W w → Calls Try.prog 20 #[.slice vp vn vc, .slice vp' vn' vc'] w fun e w' => e = .returned (.bool (allB refL vars vars')) ∧ Below w.heap.size w w' := fun w hp => rBytes_any vp vp' vn vn' vc vc' vars vars' w (hv.lasts lasts_LBy hp.2 hp.size) (hv'.lasts lasts_LBy hp.2 hp.size)
  have H := Lib.hid ha
  have H' := Lib.hid ha'
  have HF := Lib.hid F
  clear ha ha' hv hv' hx hy F
  by_cases h1 : t = t'
  · subst h1
    have er : refE ⟨t, ap, args.length, ac, args, vp, vn, vc, vars⟩ ⟨t, ap', args'.length, ac', args', vp', vn', vc', vars'⟩ = if allB refV args args' = true then allB refL vars vars' else false := if_pos rfl
    rw [er]
    clear er
    obtain ⟨z, ez⟩ : ∃ z, (if allB refV args args' = true then allB refL vars vars' else false) = z := ⟨_, rfl⟩
    rw [ez]
    have HZ := Lib.hid ez
    clear ez
    obtain ⟨b0, eb0⟩ : ∃ b0, ((args.length : Int) == (args'.length : Int)) = b0 := ⟨_, rfl⟩
    have I0 := Lib.hid (InV.start args args' eb0)
    go_enter Try.func32, Try.ntmps32
    go_wp2_with fail
    clear eb0
    go_loopw [5, 6] (fun tb ti wr => ∃ (b : Bool) (i : Nat), i ≤ args.length ∧ ti = .int .i64 i ∧ tb = .bool b ∧ Hid (Fr W [(W.heap.size + 1, [.int .i64 t, .slice ap' args'.length ac', .slice vp' vn' vc']), (W.heap.size, [.int .i64 t, .slice ap args.length ac, .slice vp vn vc])] wr) ∧ Hid (InV args args' i b)) (fun _ ti _ => args.length - (intOf ti).toNat)
    case atStart => exact ⟨b0, 0, Nat.zero_le _, rfl, rfl, HF, I0⟩
    case round =>
      obtain ⟨b, i, hi, rfl, rfl, hF, hE⟩ := hrel
      obtain ⟨a0, a1, a2⟩ := hF.out.c3 1 rfl
      obtain ⟨b0, b1, b2⟩ := hF.out.c3 0 rfl
      cases b
      · go_wp2_with fail
        go_ret
        have hz := HZ.out
        rw [hE.out.2 rfl, if_neg (by decide)] at hz
        rw [← hz]
        exact ⟨rfl, hF.out.1⟩
      · by_cases hlt : i < args.length
        · have hlt' : i < args'.length := by have := (hE.out.1 rfl).1; omega
          have hb := hF.out.past
          obtain ⟨ax, rfl, hax, u0, u1, u2, u3⟩ := vl_row H.out i hlt
          obtain ⟨ay, rfl, hay, v0, v1, v2, v3⟩ := vl_row H'.out i hlt'
          have hax2 : (ax.add (i * 4)).block < W.heap.size := by rw [add_block]; exact hax
          have hay2 : (ay.add (i * 4)).block < W.heap.size := by rw [add_block]; exact hay
          have u0 := (hb.2.cell (p := ax.add (i * 4)) hax2).trans u0
          have u1 := (hb.2.cell (p := ⟨(ax.add (i * 4)).block, (ax.add (i * 4)).off + 1, none⟩) hax2).trans u1
          have u2 := (hb.2.cell (p := ⟨(ax.add (i * 4)).block, (ax.add (i * 4)).off + 2, none⟩) hax2).trans u2
          have u3 := (hb.2.cell (p := ⟨(ax.add (i * 4)).block, (ax.add (i * 4)).off + 3, none⟩) hax2).trans u3
          have v0 := (hb.2.cell (p := ay.add (i * 4)) hay2).trans v0
          have v1 := (hb.2.cell (p := ⟨(ay.add (i * 4)).block, (ay.add (i * 4)).off + 1, none⟩) hay2).trans v1
          have v2 := (hb.2.cell (p := ⟨(ay.add (i * 4)).block, (ay.add (i * 4)).off + 2, none⟩) hay2).trans v2
          have v3 := (hb.2.cell (p := ⟨(ay.add (i * 4)).block, (ay.add (i * 4)).off + 3, none⟩) hay2).trans v3
          have IS := Lib.hid (hE.out.step hlt hlt')
          have cB : ∀ w, Calls Try.prog 9 #[.agg #[.int .i64 args[i].k, .int .u64 args[i].b, .int .i64 args[i].bk, .int .i64 args[i].o], .agg #[.int .i64 args'[i].k, .int .u64 args'[i].b, .int .i64 args'[i].bk, .int .i64 args'[i].o]] w fun e w' => e = .returned (.bool (refV args[i] args'[i])) ∧ Below w.heap.size w w' := fun w => rValue_any args[i] args'[i] w
          generalize refV args[i] args'[i] = bb at IS cB
          clear hb
          go_wp2_with fail
          go_region_law (go_simp; (with_reducible refine (cB _).mono ?_); rintro e w5 ⟨rfl, hb5⟩)
          all_goals
            go_wp2_with fail
            exact ⟨⟨bb, i + 1, by omega, by go_num, rfl, Lib.hid (by first | exact hF.out.later hb5 | exact hF.out.drew.later hb5), IS⟩, by simp [intOf]; omega⟩
        · have hz := HZ.out
          rw [hE.out.ends (by omega), if_pos rfl] at hz
          have HZ2 := Lib.hid hz
          clear hz
          have c3 := c2 _ hF.out.past
          go_wp2_with ((with_reducible refine c3.mono ?_); rintro e w3 ⟨rfl, hb⟩)
          go_ret
          rw [← HZ2.out]
          exact ⟨rfl, (hF.out.later hb).1⟩
  · have er : refE ⟨t, ap, args.length, ac, args, vp, vn, vc, vars⟩ ⟨t', ap', args'.length, ac', args', vp', vn', vc', vars'⟩ = false := if_neg h1
    rw [er]
    have g1 := ne_b h1
    clear h1 er
    go_enter Try.func32, Try.ntmps32
    go_wp2_with fail
    go_loopw [5, 6] (fun tb ti wr => ti = .int .i64 0 ∧ tb = .bool false ∧ Hid (Fr W [(W.heap.size + 1, [.int .i64 t', .slice ap' args'.length ac', .slice vp' vn' vc']), (W.heap.size, [.int .i64 t, .slice ap args.length ac, .slice vp vn vc])] wr)) (fun _ _ _ => 0)
    case atStart => exact ⟨rfl, rfl, HF⟩
    case round =>
      obtain ⟨rfl, rfl, hF⟩ := hrel
      go_wp2_with fail
      go_ret
      exact ⟨rfl, hF.out.1⟩
end Go.Proofs.Ytglkbnckfkliaaa
