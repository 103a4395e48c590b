/- What this seat takes of layer 2's texts (BaseD) -/
import Derived.Test.YtdfdgpobohpphaaBaseC
import Derived.Laws.AppendOwnNone
namespace Go.Proofs.Ytdfdgpobohpphaa
open Go.RowKit Go.Maps
set_option linter.unusedVariables false
set_option linter.unusedSimpArgs false

/-- A bool that says whether p; and nothing that was there has changed. -/
def Tells (p : Prop) (W : World) (e : Ending) (w' : World) : Prop := ∃ b : Bool, e = .returned (.bool b) ∧ (b = true ↔ p) ∧ Below W.heap.size W w'
theorem Tells.imp {p q : Prop} {W : World} {e : Ending} {w' : World} (h : Tells p W e w') (hpq : p ↔ q) : Tells q W e w' := by
  obtain ⟨b, h1, h2, h3⟩ := h
  exact ⟨b, h1, h2.trans hpq, h3⟩
theorem list_ext {α : Type} {xs ys : List α} (hl : xs.length = ys.length) (h : ∀ i (h1 : i < xs.length) (h2 : i < ys.length), xs[i] = ys[i]) : xs = ys := List.ext_getElem hl h
theorem int_row {B : Nat} {w : World} {p : Option Addr} {n c : Nat} {L : List Int} (h : ListIn intC NoMem B w p n c L) (i : Nat) (hi : i < L.length) : ∃ a, p = some a ∧ a.block < B ∧ w.cell? (a.add i) = some (.int .i64 L[i]) := by
  obtain ⟨h1, h2, h3, h4, -⟩ := h
  obtain ⟨a, e, ha, hc⟩ := h4.at (m := 1) (fun _ => rfl) i hi (by decide)
  refine ⟨a, e, ha, ?_⟩
  have := hc 0 (by decide)
  rw [Nat.mul_one, Nat.add_zero] at this
  exact this
theorem arg_row {B : Nat} {w : World} {p : Option Addr} {n c : Nat} {L : List Arg} (h : ListIn argC NoMem B w p n c L) (i : Nat) (hi : i < L.length) : ∃ a, p = some a ∧ a.block < B ∧ ArgAt w (a.add (i * 3)) L[i] := by
  obtain ⟨h1, h2, h3, h4, -⟩ := h
  obtain ⟨a, e, ha, hc⟩ := h4.at (m := 3) (fun _ => rfl) i hi (by decide)
  refine ⟨a, e, ha, hc 0 (by decide), ?_, ?_⟩
  · have := hc 1 (by decide); rw [add_add a _ 1 (by decide)] at this; exact this
  · have := hc 2 (by decide); rw [add_add a _ 2 (by decide)] at this; exact this
set_option maxRecDepth 100000 in
set_option maxHeartbeats 2000000 in
theorem Ints_any (W : World) (p p' : Option Addr) (n n' c c' : Nat) (ts ts' : List Int) (h : ListIn intC NoMem W.heap.size W p n c ts) (h' : ListIn intC NoMem W.heap.size W p' n' c' ts') :
    Calls Try.prog 23 #[.slice p n c, .slice p' n' c'] W (Tells (ts = ts') W) := by
  obtain rfl : n = ts.length := h.1
  obtain rfl : n' = ts'.length := h'.1
  have k2 := h.2.1
  have k3 := h.2.2.1
  have k2' := h'.2.1
  have k3' := h'.2.2.1
  unfold maxLen at k3 k3'
  have H := Lib.hid h
  have H' := Lib.hid h'
  clear h h'
  go_enter Try.func23, Try.ntmps23
  by_cases hl : ts.length = ts'.length
  · have hl2 : ((ts.length : Int) != (ts'.length : Int)) = false := by simp [hl]
    have HL := Lib.hid hl
    clear hl
    go_wp2_with fail
    go_loopw [5] (fun t wr => ∃ k : Nat, k ≤ ts.length ∧ t = .int .i64 k ∧ Below W.heap.size W wr ∧ Hid (∀ i (h1 : i < ts.length) (h2 : i < ts'.length), i < k → ts[i] = ts'[i])) (fun t _ => ts.length - (intOf t).toNat)
    case atStart => exact ⟨0, Nat.zero_le _, rfl, Below.refl _ _, Lib.hid (fun i _ _ h => absurd h (Nat.not_lt_zero i))⟩
    case round =>
      obtain ⟨k, hk, rfl, hb, hE⟩ := hrel
      by_cases hlt : k < ts.length
      · have hlt' : k < ts'.length := by have := HL.out; omega
        obtain ⟨a, rfl, ha, hc⟩ := int_row H.out k hlt
        obtain ⟨a', rfl, ha', hc'⟩ := int_row H'.out k hlt'
        have f0 := (hb.cell (p := a.add k) (by rw [add_block]; exact ha)).trans hc
        have f0' := (hb.cell (p := a'.add k) (by rw [add_block]; exact ha')).trans hc'
        clear hc hc'
        by_cases hq : ts[k] = ts'[k]
        · have hq2 : (ts[k] != ts'[k]) = false := by simp [hq]
          have HQ := Lib.hid hq
          clear hq
          go_wp2_with fail
          go_region
          all_goals go_wp2
          all_goals exact ⟨⟨k + 1, by omega, by go_num, by first | exact hb | exact below_drew hb, Lib.hid (fun i h1 h2 h3 => by
            by_cases e : i = k
            · subst e; exact HQ.out
            · exact hE.out i h1 h2 (by omega))⟩, by simp [intOf]; omega⟩
        · have hq2 : (ts[k] != ts'[k]) = true := by simpa using hq
          have HQ := Lib.hid hq
          clear hq
          go_wp2_with fail
          go_region
          all_goals go_wp2
          all_goals go_ret
          all_goals exact ⟨false, rfl, by simp only [Bool.false_eq_true, false_iff]; intro e; subst e; exact HQ.out rfl, by first | exact hb | exact below_drew hb⟩
      · go_wp2_with fail
        go_ret
        refine ⟨true, rfl, ?_, hb⟩
        simp only [true_iff]
        exact list_ext HL.out (fun i h1 h2 => hE.out i h1 h2 (by omega))
  · have hl2 : ((ts.length : Int) != (ts'.length : Int)) = true := by simp; omega
    have HL := Lib.hid hl
    clear hl
    go_wp2_with fail
    go_ret
    exact ⟨false, rfl, by simp only [Bool.false_eq_true, false_iff]; intro e; subst e; exact HL.out rfl, Below.refl _ _⟩
theorem arg_ext {a b : Arg} (h0 : a.kind = b.kind) (h1 : a.n = b.n) (h2 : a.bits = b.bits) : a = b := by cases a; cases b; simp_all
set_option maxRecDepth 100000 in
set_option maxHeartbeats 4000000 in
theorem Instrs_any (W : World) (x y : LI) (h : InsIn W.heap.size W x) (h' : InsIn W.heap.size W y) :
    Calls Try.prog 24 #[.agg (liC x).toArray, .agg (liC y).toArray] W (Tells (insD x = insD y) W) := by
  obtain ⟨⟨op, rg, ty, nn, fl, ap, al, ac, tp, tl, tc, args⟩, ts⟩ := x
  obtain ⟨⟨op', rg', ty', nn', fl', ap', al', ac', tp', tl', tc', args'⟩, ts'⟩ := y
  obtain rfl : al = args.length := h.1.1
  obtain rfl : al' = args'.length := h'.1.1
  have k2 : args.length ≤ ac := h.1.2.1
  have k3 : ac ≤ maxLen := h.1.2.2.1
  have k2' : args'.length ≤ ac' := h'.1.2.1
  have k3' : ac' ≤ maxLen := h'.1.2.2.1
  unfold maxLen at k3 k3'
  have H := Lib.hid h
  have H' := Lib.hid h'
  clear h h'
  show Calls Try.prog 24 #[.agg #[.int .i64 op, .int .i64 rg, .int .i64 ty, .int .i64 nn, .int .i64 fl, .slice ap args.length ac, .slice tp tl tc], .agg #[.int .i64 op', .int .i64 rg', .int .i64 ty', .int .i64 nn', .int .i64 fl', .slice ap' args'.length ac', .slice tp' tl' tc']] W _
  have hP := (Past.refl (Nat.le_refl W.heap.size)).alloc (.cells #[.int .i64 op, .int .i64 rg, .int .i64 ty, .int .i64 nn, .int .i64 fl, .slice ap args.length ac, .slice tp tl tc] 46)
  have A1 : Box W.heap.size [.int .i64 op, .int .i64 rg, .int .i64 ty, .int .i64 nn, .int .i64 fl, .slice ap args.length ac, .slice tp tl tc] (W.alloc (.cells #[.int .i64 op, .int .i64 rg, .int .i64 ty, .int .i64 nn, .int .i64 fl, .slice ap args.length ac, .slice tp tl tc] 46)) := Box.new W rfl _ _
  have z1 : (W.alloc (.cells #[.int .i64 op, .int .i64 rg, .int .i64 ty, .int .i64 nn, .int .i64 fl, .slice ap args.length ac, .slice tp tl tc] 46)).heap.size = W.heap.size + 1 := by simp
  go_enter Try.func24, Try.ntmps24
  go_upto_region 1 with fail
  generalize (W.alloc (.cells #[.int .i64 op, .int .i64 rg, .int .i64 ty, .int .i64 nn, .int .i64 fl, .slice ap args.length ac, .slice tp tl tc] 46)) = w1 at *
  have hP2 := hP.alloc (.cells #[.int .i64 op', .int .i64 rg', .int .i64 ty', .int .i64 nn', .int .i64 fl', .slice ap' args'.length ac', .slice tp' tl' tc'] 46)
  have A2 := A1.alloc (.cells #[.int .i64 op', .int .i64 rg', .int .i64 ty', .int .i64 nn', .int .i64 fl', .slice ap' args'.length ac', .slice tp' tl' tc'] 46)
  have B2 : Box (W.heap.size + 1) [.int .i64 op', .int .i64 rg', .int .i64 ty', .int .i64 nn', .int .i64 fl', .slice ap' args'.length ac', .slice tp' tl' tc'] (w1.alloc (.cells #[.int .i64 op', .int .i64 rg', .int .i64 ty', .int .i64 nn', .int .i64 fl', .slice ap' args'.length ac', .slice tp' tl' tc'] 46)) := Box.new w1 (by omega) _ _
  generalize (w1.alloc (.cells #[.int .i64 op', .int .i64 rg', .int .i64 ty', .int .i64 nn', .int .i64 fl', .slice ap' args'.length ac', .slice tp' tl' tc'] 46)) = w2 at *
  have a0 := A2.get 0 _ rfl
  have a1 := A2.get 1 _ rfl
  have a2 := A2.get 2 _ rfl
  have a3 := A2.get 3 _ rfl
  have a4 := A2.get 4 _ rfl
  have a5 := A2.get 5 _ rfl
  have a6 := A2.get 6 _ rfl
  have b0 := B2.get 0 _ rfl
  have b1 := B2.get 1 _ rfl
  have b2 := B2.get 2 _ rfl
  have b3 := B2.get 3 _ rfl
  have b4 := B2.get 4 _ rfl
  have b5 := B2.get 5 _ rfl
  have b6 := B2.get 6 _ rfl
  clear A1 hP z1
  by_cases e0 : op = op'
  · have g0 : (op != op') = false := by simp [e0]
    have E0 := Lib.hid e0
    clear e0
    by_cases e1 : rg = rg'
    · have g1 : (rg != rg') = false := by simp [e1]
      have E1 := Lib.hid e1
      clear e1
      by_cases e2 : ty = ty'
      · have g2 : (ty != ty') = false := by simp [e2]
        have E2 := Lib.hid e2
        clear e2
        by_cases e3 : nn = nn'
        · have g3 : (nn != nn') = false := by simp [e3]
          have E3 := Lib.hid e3
          clear e3
          by_cases e4 : fl = fl'
          · have g4 : (fl != fl') = false := by simp [e4]
            have E4 := Lib.hid e4
            clear e4
            by_cases e5 : args.length = args'.length
            · have g5 : ((args.length : Int) != (args'.length : Int)) = false := by simp [e5]
              have E5 := Lib.hid e5
              clear e5
              go_wp2_with fail
              have SA := Lib.hid A2
              have SB := Lib.hid B2
              clear A2 B2 a0 a1 a2 a3 a4 a5 a6 b0 b1 b2 b3 b4 b5 b6
              go_loopw [5] (fun t wr => ∃ k : Nat, k ≤ args.length ∧ t = .int .i64 k ∧ Below w2.heap.size w2 wr ∧ Hid (∀ i (h1 : i < args.length) (h2 : i < args'.length), i < k → args[i] = args'[i])) (fun t _ => args.length - (intOf t).toNat)
              case atStart => exact ⟨0, Nat.zero_le _, rfl, Below.refl _ _, Lib.hid (fun i _ _ h => absurd h (Nat.not_lt_zero i))⟩
              case round =>
                obtain ⟨k, hk, rfl, hb, hE⟩ := hrel
                have A3 := SA.out.later hb
                have B3 := SB.out.later hb
                have P3 := hP2.trans ⟨hP2.size, hb.mono hP2.size⟩
                have a5 := A3.get 5 _ rfl
                have b5 := B3.get 5 _ rfl
                by_cases hlt : k < args.length
                · have hlt' : k < args'.length := by have := E5.out; omega
                  obtain ⟨a, rfl, ha, hc⟩ := arg_row H.out.1 k hlt
                  obtain ⟨a', rfl, ha', hc'⟩ := arg_row H'.out.1 k hlt'
                  obtain ⟨f0, f1, f2⟩ := hc.below P3.2 (by rw [add_block]; exact ha)
                  obtain ⟨f0', f1', f2'⟩ := hc'.below P3.2 (by rw [add_block]; exact ha')
                  clear hc hc'
                  by_cases q0 : args[k].kind = args'[k].kind ∧ args[k].n = args'[k].n ∧ args[k].bits = args'[k].bits
                  · have HQ : Hid (args[k] = args'[k]) := Lib.hid (arg_ext q0.1 q0.2.1 q0.2.2)
                    obtain ⟨q1, q2, q3⟩ := q0
                    rw [← q1] at f0'
                    rw [← q2] at f1'
                    rw [← q3] at f2'
                    clear q1 q2 q3
                    go_wp2_with fail
                    go_region
                    all_goals go_wp2
                    all_goals exact ⟨⟨k + 1, by omega, by go_num, by first | exact hb | exact below_drew hb, Lib.hid (fun i h1 h2 h3 => by
                      by_cases e : i = k
                      · subst e; exact HQ.out
                      · exact hE.out i h1 h2 (by omega))⟩, by simp [intOf]; omega⟩
                  · have HQ := Lib.hid q0
                    by_cases q1 : args[k].kind = args'[k].kind
                    · rw [← q1] at f0'
                      by_cases q2 : args[k].n = args'[k].n
                      · rw [← q2] at f1'
                        have q3 : ¬ args[k].bits = args'[k].bits := fun q3 => q0 ⟨q1, q2, q3⟩
                        clear q0 q1 q2
                        go_wp2_with fail
                        go_region
                        all_goals go_wp2
                        all_goals go_ret
                        all_goals exact ⟨false, rfl, by simp only [Bool.false_eq_true, false_iff]; intro e; have e2 := congrArg PIns.args e; simp only [insD] at e2; subst e2; exact HQ.out ⟨rfl, rfl, rfl⟩, by first | exact P3.2 | exact below_drew P3.2⟩
                      · clear q0 q1
                        go_wp2_with fail
                        go_region
                        all_goals go_wp2
                        all_goals go_ret
                        all_goals exact ⟨false, rfl, by simp only [Bool.false_eq_true, false_iff]; intro e; have e2 := congrArg PIns.args e; simp only [insD] at e2; subst e2; exact HQ.out ⟨rfl, rfl, rfl⟩, by first | exact P3.2 | exact below_drew P3.2⟩
                    · clear q0
                      go_wp2_with fail
                      go_region
                      all_goals go_wp2
                      all_goals go_ret
                      all_goals exact ⟨false, rfl, by simp only [Bool.false_eq_true, false_iff]; intro e; have e2 := congrArg PIns.args e; simp only [insD] at e2; subst e2; exact HQ.out ⟨rfl, rfl, rfl⟩, by first | exact P3.2 | exact below_drew P3.2⟩
                · have a6 := A3.get 6 _ rfl
                  have b6 := B3.get 6 _ rfl
                  go_wp2_with fail
                  refine (Ints_any wr tp tp' tl tl' tc tc' ts ts' (H.out.2.lasts lasts_NoMem P3.2 P3.2.size) (H'.out.2.lasts lasts_NoMem P3.2 P3.2.size)).mono ?_
                  rintro e w4 ⟨bt, rfl, hbt, hb4⟩
                  go_wp2_with fail
                  go_ret
                  refine ⟨bt, rfl, hbt.trans ?_, P3.2.trans (hb4.mono P3.size)⟩
                  have hargs : args = args' := list_ext E5.out (fun i h1 h2 => hE.out i h1 h2 (by omega))
                  constructor
                  · intro e
                    show (⟨op, rg, ty, nn, fl, args, ts⟩ : PIns) = ⟨op', rg', ty', nn', fl', args', ts'⟩
                    rw [E0.out, E1.out, E2.out, E3.out, E4.out, hargs, e]
                  · exact fun e => congrArg PIns.tg e
            · have g5 : ((args.length : Int) != (args'.length : Int)) = true := by simp; omega
              have E5 := Lib.hid e5
              clear e5
              go_wp2_with fail
              go_ret
              exact ⟨false, rfl, by simp only [Bool.false_eq_true, false_iff]; intro e; exact E5.out (congrArg (fun z : PIns => z.args.length) e), hP2.2⟩
          · have g4 : (fl != fl') = true := by simpa using e4
            have E4 := Lib.hid e4
            clear e4
            go_wp2_with fail
            go_ret
            exact ⟨false, rfl, by simp only [Bool.false_eq_true, false_iff]; intro e; exact E4.out (congrArg (fun z : PIns => z.fl) e), hP2.2⟩
        · have g3 : (nn != nn') = true := by simpa using e3
          have E3 := Lib.hid e3
          clear e3
          go_wp2_with fail
          go_ret
          exact ⟨false, rfl, by simp only [Bool.false_eq_true, false_iff]; intro e; exact E3.out (congrArg (fun z : PIns => z.n) e), hP2.2⟩
      · have g2 : (ty != ty') = true := by simpa using e2
        have E2 := Lib.hid e2
        clear e2
        go_wp2_with fail
        go_ret
        exact ⟨false, rfl, by simp only [Bool.false_eq_true, false_iff]; intro e; exact E2.out (congrArg (fun z : PIns => z.ty) e), hP2.2⟩
    · have g1 : (rg != rg') = true := by simpa using e1
      have E1 := Lib.hid e1
      clear e1
      go_wp2_with fail
      go_ret
      exact ⟨false, rfl, by simp only [Bool.false_eq_true, false_iff]; intro e; exact E1.out (congrArg (fun z : PIns => z.reg) e), hP2.2⟩
  · have g0 : (op != op') = true := by simpa using e0
    have E0 := Lib.hid e0
    clear e0
    go_wp2_with fail
    go_ret
    exact ⟨false, rfl, by simp only [Bool.false_eq_true, false_iff]; intro e; exact E0.out (congrArg (fun z : PIns => z.op) e), hP2.2⟩
theorem str_inj {a b : ByteArray} (h : a.toList = b.toList) : a = b := Go.WideShapes.bytes_inj (by rw [← ByteArray.toList_eq, ← ByteArray.toList_eq]; exact h)
set_option maxRecDepth 100000 in
set_option maxHeartbeats 4000000 in
theorem Funcs_any (W : World) (x y : LFn) (h : FnIn W.heap.size W x) (h' : FnIn W.heap.size W y) :
    Calls Try.prog 12 #[.agg (fnC x).toArray, .agg (fnC y).toArray] W (Tells (fnD x = fnD y) W) := by
  obtain ⟨nm, pp, pn, pc, ps, rt, bp, bn, bc, bs⟩ := x
  obtain ⟨nm', pp', pn', pc', ps', rt', bp', bn', bc', bs'⟩ := y
  obtain rfl : bn = bs.length := h.2.1
  obtain rfl : bn' = bs'.length := h'.2.1
  have k2 : bs.length ≤ bc := h.2.2.1
  have k3 : bc ≤ maxLen := h.2.2.2.1
  have k2' : bs'.length ≤ bc' := h'.2.2.1
  have k3' : bc' ≤ maxLen := h'.2.2.2.1
  unfold maxLen at k3 k3'
  have H := Lib.hid h
  have H' := Lib.hid h'
  clear h h'
  show Calls Try.prog 12 #[.agg #[.string nm, .slice pp pn pc, .int .i64 rt, .slice bp bs.length bc], .agg #[.string nm', .slice pp' pn' pc', .int .i64 rt', .slice bp' bs'.length bc']] W _
  have hP := (Past.refl (Nat.le_refl W.heap.size)).alloc (.cells #[.string nm, .slice pp pn pc, .int .i64 rt, .slice bp bs.length bc] 25)
  have A1 : Box W.heap.size [.string nm, .slice pp pn pc, .int .i64 rt, .slice bp bs.length bc] (W.alloc (.cells #[.string nm, .slice pp pn pc, .int .i64 rt, .slice bp bs.length bc] 25)) := Box.new W rfl _ _
  have z1 : (W.alloc (.cells #[.string nm, .slice pp pn pc, .int .i64 rt, .slice bp bs.length bc] 25)).heap.size = W.heap.size + 1 := by simp
  go_enter Try.func12, Try.ntmps12
  go_upto_region 1 with fail
  generalize (W.alloc (.cells #[.string nm, .slice pp pn pc, .int .i64 rt, .slice bp bs.length bc] 25)) = w1 at *
  have hP2 := hP.alloc (.cells #[.string nm', .slice pp' pn' pc', .int .i64 rt', .slice bp' bs'.length bc'] 25)
  have A2 := A1.alloc (.cells #[.string nm', .slice pp' pn' pc', .int .i64 rt', .slice bp' bs'.length bc'] 25)
  have B2 : Box (W.heap.size + 1) [.string nm', .slice pp' pn' pc', .int .i64 rt', .slice bp' bs'.length bc'] (w1.alloc (.cells #[.string nm', .slice pp' pn' pc', .int .i64 rt', .slice bp' bs'.length bc'] 25)) := Box.new w1 (by omega) _ _
  generalize (w1.alloc (.cells #[.string nm', .slice pp' pn' pc', .int .i64 rt', .slice bp' bs'.length bc'] 25)) = w2 at *
  have a1 := A2.get 1 _ rfl
  have b1 := B2.get 1 _ rfl
  clear A1 hP z1
  go_wp2_with fail
  refine (Ints_any w2 pp pp' pn pn' pc pc' ps ps' (H.out.1.lasts lasts_NoMem hP2.2 hP2.2.size) (H'.out.1.lasts lasts_NoMem hP2.2 hP2.2.size)).mono ?_
  rintro e w3 ⟨bt, rfl, hbt, hb3⟩
  have hP3 := hP2.trans ⟨hP2.size, hb3.mono hP2.size⟩
  have A3 := A2.later hb3
  have B3 := B2.later hb3
  clear hP2 A2 B2 a1 b1 hb3
  have a0 := A3.get 0 _ rfl
  have a2 := A3.get 2 _ rfl
  have a3 := A3.get 3 _ rfl
  have b0 := B3.get 0 _ rfl
  have b2 := B3.get 2 _ rfl
  have b3 := B3.get 3 _ rfl
  cases bt
  · go_wp2_with fail
    go_ret
    exact ⟨false, rfl, by simp only [Bool.false_eq_true, false_iff] at hbt ⊢; exact fun e => hbt (congrArg PFn.ps e), hP3.2⟩
  · have EP : Hid (ps = ps') := Lib.hid (hbt.1 rfl)
    clear hbt
    by_cases e0 : nm = nm'
    · subst e0
      by_cases e1 : rt = rt'
      · have g1 : (rt != rt') = false := by simp [e1]
        have E1 := Lib.hid e1
        clear e1
        by_cases e2 : bs.length = bs'.length
        · have g2 : ((bs.length : Int) != (bs'.length : Int)) = false := by simp [e2]
          have E2 := Lib.hid e2
          clear e2
          go_wp2_with fail
          have SA := Lib.hid A3
          have SB := Lib.hid B3
          have SP := Lib.hid hP3
          clear A3 B3 hP3 a0 a2 a3 b0 b2 b3
          go_loopw [6] (fun t wr => ∃ i : Nat, i ≤ bs.length ∧ t = .int .i64 i ∧ Below w3.heap.size w3 wr ∧ Hid (∀ j (h1 : j < bs.length) (h2 : j < bs'.length), j < i → blkD bs[j] = blkD bs'[j])) (fun t _ => bs.length - (intOf t).toNat)
          case atStart => exact ⟨0, Nat.zero_le _, rfl, Below.refl _ _, Lib.hid (fun i _ _ h => absurd h (Nat.not_lt_zero i))⟩
          case round =>
            obtain ⟨i, hi, rfl, hb, hE⟩ := hrel
            have P4 := SP.out.trans ⟨SP.out.size, hb.mono SP.out.size⟩
            have A4 := SA.out.later hb
            have B4 := SB.out.later hb
            have a3 := A4.get 3 _ rfl
            have b3 := B4.get 3 _ rfl
            by_cases hlt : i < bs.length
            · have hlt' : i < bs'.length := by have := E2.out; omega
              obtain ⟨a, rfl, ha, hc⟩ := blk_row H.out.2 i hlt
              obtain ⟨a', rfl, ha', hc'⟩ := blk_row H'.out.2 i hlt'
              have hcd : ListIn liC InsIn W.heap.size W bs[i].p bs[i].n bs[i].k bs[i].code := H.out.2.2.2.2.2 bs[i] (List.getElem_mem hlt)
              have hcd' : ListIn liC InsIn W.heap.size W bs'[i].p bs'[i].n bs'[i].k bs'[i].code := H'.out.2.2.2.2.2 bs'[i] (List.getElem_mem hlt')
              have d1 := hcd.1
              have d1' := hcd'.1
              rw [d1] at hc
              rw [d1'] at hc'
              have d2 := hcd.2.1
              have d3 := hcd.2.2.1
              have d2' := hcd'.2.1
              have d3' := hcd'.2.2.1
              rw [d1] at d2
              rw [d1'] at d2'
              unfold maxLen at d3 d3'
              have f0 := (P4.2.cell (p := a.add i) (by rw [add_block]; exact ha)).trans hc
              have f0' := (P4.2.cell (p := a'.add i) (by rw [add_block]; exact ha')).trans hc'
              have HCD := Lib.hid hcd
              have HCD' := Lib.hid hcd'
              clear hc hc' hcd hcd' d1 d1'
              by_cases q0 : bs[i].code.length = bs'[i].code.length
              · have q1 : ((bs[i].code.length : Int) != (bs'[i].code.length : Int)) = false := by simp [q0]
                have Q0 := Lib.hid q0
                clear q0
                go_wp2_with fail
                go_region
                all_goals (try go_wp2_with fail)
                have hbd : Below w3.heap.size w3 wr.drew := below_drew hb
                clear f0 f0' a3 b3 A4 B4
                go_loopw [7] (fun t wi => ∃ k : Nat, k ≤ bs[i].code.length ∧ t = .int .i64 k ∧ Below w3.heap.size w3 wi ∧ Hid (∀ j (h1 : j < bs[i].code.length) (h2 : j < bs'[i].code.length), j < k → insD bs[i].code[j] = insD bs'[i].code[j])) (fun t _ => bs[i].code.length - (intOf t).toNat)
                case atStart => exact ⟨0, Nat.zero_le _, rfl, hbd, Lib.hid (fun i _ _ h => absurd h (Nat.not_lt_zero i))⟩
                case round =>
                  obtain ⟨k, hk, rfl, hbi, hEi⟩ := hrel
                  have P5 := SP.out.trans ⟨SP.out.size, hbi.mono SP.out.size⟩
                  have A5 := SA.out.later hbi
                  have B5 := SB.out.later hbi
                  have a3 := A5.get 3 _ rfl
                  have b3 := B5.get 3 _ rfl
                  have al := A5.1
                  have bl := B5.1
                  obtain ⟨u, hu, hu2, hc⟩ := blk_row H.out.2 i hlt
                  obtain ⟨u', hu', hu2', hc'⟩ := blk_row H'.out.2 i hlt'
                  cases hu
                  cases hu'
                  rw [HCD.out.1] at hc
                  rw [HCD'.out.1] at hc'
                  have f0 := (P5.2.cell (p := a.add i) (by rw [add_block]; exact ha)).trans hc
                  have f0' := (P5.2.cell (p := a'.add i) (by rw [add_block]; exact ha')).trans hc'
                  clear hc hc' hu2 hu2'
                  by_cases hkl : k < bs[i].code.length
                  · have hkl' : k < bs'[i].code.length := by have := Q0.out; omega
                    obtain ⟨v, hv, hv2, hins⟩ := li_row HCD.out k hkl
                    obtain ⟨v', hv', hv2', hins'⟩ := li_row HCD'.out k hkl'
                    obtain ⟨z0, z1, z2, z3, z4, z5, z6⟩ := hins.below P5.2 (by rw [add_block]; exact hv2)
                    obtain ⟨y0, y1, y2, y3, y4, y5, y6⟩ := hins'.below P5.2 (by rw [add_block]; exact hv2')
                    rw [hv] at f0
                    rw [hv'] at f0'
                    clear hins hins' hv hv'
                    have hIB := Below.refl wr.heap.size wr
                    go_wp2_with fail
                    have cI : ∀ w, Below wr.heap.size wr w → Calls Try.prog 24 #[.agg #[.int .i64 bs[i].code[k].1.op, .int .i64 bs[i].code[k].1.reg, .int .i64 bs[i].code[k].1.ty, .int .i64 bs[i].code[k].1.n, .int .i64 bs[i].code[k].1.fl, .slice bs[i].code[k].1.ap bs[i].code[k].1.al bs[i].code[k].1.ac, .slice bs[i].code[k].1.tp bs[i].code[k].1.tl bs[i].code[k].1.tc], .agg #[.int .i64 bs'[i].code[k].1.op, .int .i64 bs'[i].code[k].1.reg, .int .i64 bs'[i].code[k].1.ty, .int .i64 bs'[i].code[k].1.n, .int .i64 bs'[i].code[k].1.fl, .slice bs'[i].code[k].1.ap bs'[i].code[k].1.al bs'[i].code[k].1.ac, .slice bs'[i].code[k].1.tp bs'[i].code[k].1.tl bs'[i].code[k].1.tc]] w (fun e w' => ∃ b : Bool, e = .returned (.bool b) ∧ (b = true ↔ insD bs[i].code[k] = insD bs'[i].code[k]) ∧ Below wr.heap.size wr w') := fun w hw => by
                      have P6 := P5.trans ⟨P5.size, hw.mono P5.size⟩
                      exact (Instrs_any w bs[i].code[k] bs'[i].code[k] (past_lasts lasts_Ins (HCD.out.2.2.2.2 _ (List.getElem_mem hkl)) P6) (past_lasts lasts_Ins (HCD'.out.2.2.2.2 _ (List.getElem_mem hkl')) P6)).mono fun e w' ⟨b, h1, h2, h3⟩ => ⟨b, h1, h2, hw.trans (h3.mono hw.size)⟩
                    have hBW := P5.2.size
                    have HS : ∀ w', Below wr.heap.size wr w' → (w'.cell? ⟨W.heap.size, 3, none⟩ = some (.slice (some a) bs.length bc) ∧ w'.cell? ⟨W.heap.size + 1, 3, none⟩ = some (.slice (some a') bs'.length bc') ∧ w'.cell? (a.add i) = some (.slice (some v) bs[i].code.length bs[i].k) ∧ w'.cell? (a'.add i) = some (.slice (some v') bs'[i].code.length bs'[i].k) ∧ w'.cell? (v.add (k * 7)) = some (.int .i64 bs[i].code[k].1.op) ∧ w'.cell? ⟨(v.add (k * 7)).block, (v.add (k * 7)).off + 1, none⟩ = some (.int .i64 bs[i].code[k].1.reg) ∧ w'.cell? ⟨(v.add (k * 7)).block, (v.add (k * 7)).off + 2, none⟩ = some (.int .i64 bs[i].code[k].1.ty) ∧ w'.cell? ⟨(v.add (k * 7)).block, (v.add (k * 7)).off + 3, none⟩ = some (.int .i64 bs[i].code[k].1.n) ∧ w'.cell? ⟨(v.add (k * 7)).block, (v.add (k * 7)).off + 4, none⟩ = some (.int .i64 bs[i].code[k].1.fl) ∧ w'.cell? ⟨(v.add (k * 7)).block, (v.add (k * 7)).off + 5, none⟩ = some (.slice bs[i].code[k].1.ap bs[i].code[k].1.al bs[i].code[k].1.ac) ∧ w'.cell? ⟨(v.add (k * 7)).block, (v.add (k * 7)).off + 6, none⟩ = some (.slice bs[i].code[k].1.tp bs[i].code[k].1.tl bs[i].code[k].1.tc) ∧ w'.cell? (v'.add (k * 7)) = some (.int .i64 bs'[i].code[k].1.op) ∧ w'.cell? ⟨(v'.add (k * 7)).block, (v'.add (k * 7)).off + 1, none⟩ = some (.int .i64 bs'[i].code[k].1.reg) ∧ w'.cell? ⟨(v'.add (k * 7)).block, (v'.add (k * 7)).off + 2, none⟩ = some (.int .i64 bs'[i].code[k].1.ty) ∧ w'.cell? ⟨(v'.add (k * 7)).block, (v'.add (k * 7)).off + 3, none⟩ = some (.int .i64 bs'[i].code[k].1.n) ∧ w'.cell? ⟨(v'.add (k * 7)).block, (v'.add (k * 7)).off + 4, none⟩ = some (.int .i64 bs'[i].code[k].1.fl) ∧ w'.cell? ⟨(v'.add (k * 7)).block, (v'.add (k * 7)).off + 5, none⟩ = some (.slice bs'[i].code[k].1.ap bs'[i].code[k].1.al bs'[i].code[k].1.ac) ∧ w'.cell? ⟨(v'.add (k * 7)).block, (v'.add (k * 7)).off + 6, none⟩ = some (.slice bs'[i].code[k].1.tp bs'[i].code[k].1.tl bs'[i].code[k].1.tc) ∧ Below wr.heap.size wr w') := fun w' hb => ⟨(hb.cell (p := ⟨W.heap.size, 3, none⟩) al).trans a3, (hb.cell (p := ⟨W.heap.size + 1, 3, none⟩) bl).trans b3, (hb.cell (p := a.add i) (by rw [add_block]; omega)).trans f0, (hb.cell (p := a'.add i) (by rw [add_block]; omega)).trans f0', (hb.cell (p := v.add (k * 7)) (by first | (rw [add_block]; omega) | (dsimp only; rw [add_block]; omega))).trans z0, (hb.cell (p := ⟨(v.add (k * 7)).block, (v.add (k * 7)).off + 1, none⟩) (by first | (rw [add_block]; omega) | (dsimp only; rw [add_block]; omega))).trans z1, (hb.cell (p := ⟨(v.add (k * 7)).block, (v.add (k * 7)).off + 2, none⟩) (by first | (rw [add_block]; omega) | (dsimp only; rw [add_block]; omega))).trans z2, (hb.cell (p := ⟨(v.add (k * 7)).block, (v.add (k * 7)).off + 3, none⟩) (by first | (rw [add_block]; omega) | (dsimp only; rw [add_block]; omega))).trans z3, (hb.cell (p := ⟨(v.add (k * 7)).block, (v.add (k * 7)).off + 4, none⟩) (by first | (rw [add_block]; omega) | (dsimp only; rw [add_block]; omega))).trans z4, (hb.cell (p := ⟨(v.add (k * 7)).block, (v.add (k * 7)).off + 5, none⟩) (by first | (rw [add_block]; omega) | (dsimp only; rw [add_block]; omega))).trans z5, (hb.cell (p := ⟨(v.add (k * 7)).block, (v.add (k * 7)).off + 6, none⟩) (by first | (rw [add_block]; omega) | (dsimp only; rw [add_block]; omega))).trans z6, (hb.cell (p := v'.add (k * 7)) (by first | (rw [add_block]; omega) | (dsimp only; rw [add_block]; omega))).trans y0, (hb.cell (p := ⟨(v'.add (k * 7)).block, (v'.add (k * 7)).off + 1, none⟩) (by first | (rw [add_block]; omega) | (dsimp only; rw [add_block]; omega))).trans y1, (hb.cell (p := ⟨(v'.add (k * 7)).block, (v'.add (k * 7)).off + 2, none⟩) (by first | (rw [add_block]; omega) | (dsimp only; rw [add_block]; omega))).trans y2, (hb.cell (p := ⟨(v'.add (k * 7)).block, (v'.add (k * 7)).off + 3, none⟩) (by first | (rw [add_block]; omega) | (dsimp only; rw [add_block]; omega))).trans y3, (hb.cell (p := ⟨(v'.add (k * 7)).block, (v'.add (k * 7)).off + 4, none⟩) (by first | (rw [add_block]; omega) | (dsimp only; rw [add_block]; omega))).trans y4, (hb.cell (p := ⟨(v'.add (k * 7)).block, (v'.add (k * 7)).off + 5, none⟩) (by first | (rw [add_block]; omega) | (dsimp only; rw [add_block]; omega))).trans y5, (hb.cell (p := ⟨(v'.add (k * 7)).block, (v'.add (k * 7)).off + 6, none⟩) (by first | (rw [add_block]; omega) | (dsimp only; rw [add_block]; omega))).trans y6, hb⟩
                    clear z0 z1 z2 z3 z4 z5 z6 y0 y1 y2 y3 y4 y5 y6 f0 f0' a3 b3
                    obtain ⟨s0, s1, s2, s3, s4, s5, s6, s7, s8, s9, s10, s11, s12, s13, s14, s15, s16, s17, s18⟩ := HS wr (Below.refl _ _)
                    have HS := Lib.hid HS
                    go_region_held3 (fun w' => w'.cell? ⟨W.heap.size, 3, none⟩ = some (.slice (some a) bs.length bc) ∧ w'.cell? ⟨W.heap.size + 1, 3, none⟩ = some (.slice (some a') bs'.length bc') ∧ w'.cell? (a.add i) = some (.slice (some v) bs[i].code.length bs[i].k) ∧ w'.cell? (a'.add i) = some (.slice (some v') bs'[i].code.length bs'[i].k) ∧ w'.cell? (v.add (k * 7)) = some (.int .i64 bs[i].code[k].1.op) ∧ w'.cell? ⟨(v.add (k * 7)).block, (v.add (k * 7)).off + 1, none⟩ = some (.int .i64 bs[i].code[k].1.reg) ∧ w'.cell? ⟨(v.add (k * 7)).block, (v.add (k * 7)).off + 2, none⟩ = some (.int .i64 bs[i].code[k].1.ty) ∧ w'.cell? ⟨(v.add (k * 7)).block, (v.add (k * 7)).off + 3, none⟩ = some (.int .i64 bs[i].code[k].1.n) ∧ w'.cell? ⟨(v.add (k * 7)).block, (v.add (k * 7)).off + 4, none⟩ = some (.int .i64 bs[i].code[k].1.fl) ∧ w'.cell? ⟨(v.add (k * 7)).block, (v.add (k * 7)).off + 5, none⟩ = some (.slice bs[i].code[k].1.ap bs[i].code[k].1.al bs[i].code[k].1.ac) ∧ w'.cell? ⟨(v.add (k * 7)).block, (v.add (k * 7)).off + 6, none⟩ = some (.slice bs[i].code[k].1.tp bs[i].code[k].1.tl bs[i].code[k].1.tc) ∧ w'.cell? (v'.add (k * 7)) = some (.int .i64 bs'[i].code[k].1.op) ∧ w'.cell? ⟨(v'.add (k * 7)).block, (v'.add (k * 7)).off + 1, none⟩ = some (.int .i64 bs'[i].code[k].1.reg) ∧ w'.cell? ⟨(v'.add (k * 7)).block, (v'.add (k * 7)).off + 2, none⟩ = some (.int .i64 bs'[i].code[k].1.ty) ∧ w'.cell? ⟨(v'.add (k * 7)).block, (v'.add (k * 7)).off + 3, none⟩ = some (.int .i64 bs'[i].code[k].1.n) ∧ w'.cell? ⟨(v'.add (k * 7)).block, (v'.add (k * 7)).off + 4, none⟩ = some (.int .i64 bs'[i].code[k].1.fl) ∧ w'.cell? ⟨(v'.add (k * 7)).block, (v'.add (k * 7)).off + 5, none⟩ = some (.slice bs'[i].code[k].1.ap bs'[i].code[k].1.al bs'[i].code[k].1.ac) ∧ w'.cell? ⟨(v'.add (k * 7)).block, (v'.add (k * 7)).off + 6, none⟩ = some (.slice bs'[i].code[k].1.tp bs'[i].code[k].1.tl bs'[i].code[k].1.tc) ∧ Below wr.heap.size wr w')
                      (((try dsimp only); (repeat' apply And.intro) <;> (first | (with_reducible assumption) | (rw [World.cell?_drew]; with_reducible assumption) | (with_reducible apply below_drew; with_reducible assumption))))
                      (first
                        | ((with_reducible refine (cI _ (by first | (with_reducible assumption) | (with_reducible apply below_drew; with_reducible assumption))).mono ?_); rintro e w' ⟨bt, rfl, hbt, hb'⟩; obtain ⟨r0, r1, r2, r3, r4, r5, r6, r7, r8, r9, r10, r11, r12, r13, r14, r15, r16, r17, r18⟩ := HS.out w' hb'))
                    all_goals (try go_wp2_with fail)
                    · rename_i hx
                      obtain rfl : bt = false := by simpa using hx
                      go_ret
                      refine ⟨false, rfl, ?_, P5.2.trans (hb'.mono P5.size)⟩
                      simp only [Bool.false_eq_true, false_iff] at hbt ⊢
                      intro e
                      have e2 : bs.map blkD = bs'.map blkD := congrArg PFn.bs e
                      have e3 : (bs.map blkD)[i]? = (bs'.map blkD)[i]? := by rw [e2]
                      rw [List.getElem?_map, List.getElem?_map, List.getElem?_eq_getElem hlt, List.getElem?_eq_getElem hlt'] at e3
                      have e4 : bs[i].code.map insD = bs'[i].code.map insD := Option.some.inj e3
                      have e5 : (bs[i].code.map insD)[k]? = (bs'[i].code.map insD)[k]? := by rw [e4]
                      rw [List.getElem?_map, List.getElem?_map, List.getElem?_eq_getElem hkl, List.getElem?_eq_getElem hkl'] at e5
                      exact hbt (Option.some.inj e5)
                    · rename_i hx
                      obtain rfl : bt = true := by simpa using hx
                      have hq := hbt.1 rfl
                      refine ⟨⟨k + 1, by omega, by go_num, hbi.trans (hb'.mono hbi.size), Lib.hid (fun j h1 h2 h3 => ?_)⟩, by simp [intOf]; omega⟩
                      by_cases e : j = k
                      · subst e; exact hq
                      · exact hEi.out j h1 h2 (by omega)
                  · obtain rfl : k = bs[i].code.length := by omega
                    go_wp2_with fail
                    refine ⟨⟨i + 1, by omega, by go_num, hbi, Lib.hid (fun j h1 h2 h3 => ?_)⟩, by simp [intOf]; omega⟩
                    by_cases e : j = i
                    · subst e
                      unfold blkD
                      exact list_ext (by simpa using Q0.out) (fun m m1 m2 => by simpa using hEi.out m (by simpa using m1) (by simpa using m2) (by simpa using m1))
                    · exact hE.out j h1 h2 (by omega)
              · have q1 : ((bs[i].code.length : Int) != (bs'[i].code.length : Int)) = true := by simp; omega
                have Q0 := Lib.hid q0
                clear q0
                go_wp2_with fail
                go_region
                all_goals (try go_wp2_with fail)
                all_goals go_ret
                exact ⟨false, rfl, by
                  simp only [Bool.false_eq_true, false_iff]
                  intro e
                  have e2 : bs.map blkD = bs'.map blkD := congrArg PFn.bs e
                  have e3 : (bs.map blkD)[i]? = (bs'.map blkD)[i]? := by rw [e2]
                  rw [List.getElem?_map, List.getElem?_map, List.getElem?_eq_getElem hlt, List.getElem?_eq_getElem hlt'] at e3
                  have e4 : blkD bs[i] = blkD bs'[i] := Option.some.inj e3
                  have e5 := congrArg List.length e4
                  unfold blkD at e5
                  rw [List.length_map, List.length_map] at e5
                  exact Q0.out e5, below_drew P4.2⟩
            · go_wp2_with fail
              go_ret
              refine ⟨true, rfl, ?_, P4.2⟩
              simp only [true_iff]
              have e2 : bs.map blkD = bs'.map blkD := list_ext (by simpa using E2.out) (fun m m1 m2 => by simpa using hE.out m (by simpa using m1) (by simpa using m2) (Nat.lt_of_lt_of_le (by simpa using m1) (by omega)))
              show (⟨nm, ps, rt, bs.map blkD⟩ : PFn) = ⟨nm, ps', rt', bs'.map blkD⟩
              rw [E1.out, EP.out, e2]
        · have g2 : ((bs.length : Int) != (bs'.length : Int)) = true := by simp; omega
          have E2 := Lib.hid e2
          clear e2
          go_wp2_with fail
          go_ret
          exact ⟨false, rfl, by
            simp only [Bool.false_eq_true, false_iff]
            intro e
            have e2 : bs.map blkD = bs'.map blkD := congrArg PFn.bs e
            have e5 := congrArg List.length e2
            rw [List.length_map, List.length_map] at e5
            exact E2.out e5, hP3.2⟩
      · have g1 : (rt != rt') = true := by simpa using e1
        have E1 := Lib.hid e1
        clear e1
        go_wp2_with fail
        go_ret
        exact ⟨false, rfl, by simp only [Bool.false_eq_true, false_iff]; exact fun e => E1.out (congrArg PFn.rt e), hP3.2⟩
    · have E0 := Lib.hid e0
      have g0 : ¬ nm.toList = nm'.toList := fun e => e0 (str_inj e)
      clear e0
      go_wp2_with fail
      go_ret
      exact ⟨false, rfl, by simp only [Bool.false_eq_true, false_iff]; exact fun e => E0.out (congrArg PFn.nm e), hP3.2⟩
/-- The row lies where it lay, or in a new block. -/
def Moved (w : World) (v v' : Value) : Prop := v'.ownBlock = v.ownBlock ∨ v'.ownBlock = some w.heap.size
theorem append_where {P : Program} (w : World) (base : Nat) (t ty e : TypeId) (i : TypeInfo) (z : Value) (size bytes : Nat) (ht : P.underlying t = some (.slice e)) (hi : P.info? e = some i) (hz : i.zero = some z)
    (hsize : i.size = size) (hby : i.bytes = bytes) (hsz : 0 < size) (v : Value) (n : Nat) (xs : List Value) (hown : w.ownsRow base e size v n xs)
    (a : Addr) (m c : Nat) (news : List Value) (hl : news.length = m * size) (hnews : ∀ j u, news[j]? = some u → w.cell? (a.add j) = some u) (h1 : ∀ u ∈ news, u.oneCell' = true)
    (h63 : n + m ≤ maxLen) (hbytes : (n + m) * bytes ≤ 140737488355328) (v' : Value) (w' : World) (hr : (Builtin.append_ #[t, t] ty #[v, .slice (some a) m c]).run P w = .ok v' w') : Moved w v v' := by
  subst hsize
  subst hby
  have hsmall : n + m ≤ 9223372036854775807 := by simp only [maxLen] at h63; omega
  rcases hown.2 with ⟨rfl, rfl⟩ | ⟨g, cap, cur, rfl, hbg, hg, hnc, hcm, hcs, htake⟩
  · by_cases hm : m = 0
    · subst hm
      have hn : news = [] := List.eq_nil_of_length_eq_zero (by simpa using hl)
      subst hn
      have hr2 : (Builtin.append_ #[t, t] ty #[.slice none 0 0, .slice (some a) 0 c]).run P w = .ok (.slice none 0 0) w := by
        simp [Builtin.append_, run_underlying ht, sizeOf, typeInfo, hi, Builtin.lenOf, Builtin.firstCells, loadCells, loadCellsFrom]
      rw [hr2] at hr
      injection hr with e1 e2
      rw [← e1]
      exact .inl rfl
    · have hr2 := run_append_nil (P := P) w t ty e i z ht hi hz a m c news hl hnews (by omega) (by omega) (by have hb := hbytes; simp only [Nat.zero_add] at hb; omega)
      rw [hr2] at hr
      injection hr with e1 e2
      rw [← e1]
      exact .inr rfl
  · by_cases hroom : n + m ≤ cap
    · have hfit : n * i.size + news.length ≤ cur.size := by rw [hl, hcs, ← Nat.add_mul]; exact Nat.mul_le_mul_right _ hroom
      have hr2 := run_append_room (P := P) w t ty e i ht hi g n cap cur hg a m c news hl hnews h1 hroom hfit
      rw [hr2] at hr
      injection hr with e1 e2
      rw [← e1]
      exact .inl rfl
    · have holds : ∀ j u, xs[j]? = some u → w.cell? ((⟨g, 0, none⟩ : Addr).add j) = some u := hown.cells (g := g) rfl
      have hr2 := run_append_grow (P := P) w t ty e i z ht hi hz ⟨g, 0, none⟩ n cap xs hown.1 holds a m c news hl hnews (by omega) (by omega) (growslice_fits (by omega) hbytes)
      rw [hr2] at hr
      injection hr with e1 e2
      rw [← e1]
      exact .inr rfl
theorem wpList_append_at {P : Program} {w : World} {ops : Array Oper} {rest : List Oper} {o : Oper} {a : Act} {Q : Exit → Act → World → Prop} (hgd : o.guard = none) (s x : Operand) (t : TypeId)
    (ho : o.op = .call { callee := .builtin .append, args := #[s, x], argTypes := #[t, t] })
    (base : Nat) (e : TypeId) (i : TypeInfo) (z : Value) (size bytes : Nat) (ht : P.underlying t = some (.slice e)) (hi : P.info? e = some i) (hz : i.zero = some z)
    (hsize : i.size = size) (hby : i.bytes = bytes) (hzs : z.cells.size = size) (hsz : 0 < size)
    (v : Value) (n : Nat) (xs : List Value) (hs : a.eval s = v) (hown : w.ownsRow base e size v n xs)
    (p : Option Addr) (m c : Nat) (news : List Value) (hx : a.eval x = .slice p m c) (hl : news.length = m * size) (hnews : ∀ j u, news[j]? = some u → ∃ ad, p = some ad ∧ w.cell? (ad.add j) = some u) (h1 : ∀ u ∈ news, u.oneCell' = true)
    (h63 : n + m ≤ maxLen) (hbytes : (n + m) * bytes ≤ 140737488355328) (hbase : base ≤ w.heap.size)
    (h : ∀ v' w', w'.ownsRow base e size v' (n + m) (xs ++ news) → w.grownBy w' v.ownBlock → Moved w v v' → wpList P ops Q rest (a.put o.dst v') w') : wpList P ops Q (o :: rest) a w := by
  refine wpList_plain hgd fun K hK => ?_
  cases p with
  | some ad =>
    have hnews' : ∀ j u, news[j]? = some u → w.cell? (ad.add j) = some u := fun j u hj => by
      obtain ⟨ad', e1, e2⟩ := hnews j u hj
      cases e1
      exact e2
    obtain ⟨v', w', hr, h2, h3, -⟩ := run_append_own (P := P) w base t o.type e i z size bytes ht hi hz hsize hby hzs hsz v n xs hown ad m c news hl hnews' h1 h63 hbytes hbase
    have h4 := append_where w base t o.type e i z size bytes ht hi hz hsize hby hsz v n xs hown ad m c news hl hnews' h1 h63 hbytes v' w' hr
    unfold Oper.wp execOp
    simp only [ho, resolve, invoke, builtin, Sem.run_bind, Sem.run_pure, Result.andThen_ok, List.map_toArray, List.map_cons, List.map_nil, hs, hx, hr]
    exact hK _ _ (h v' w' h2 h3 h4)
  | none =>
    have hn0 : news = [] := by
      cases news with
      | nil => rfl
      | cons u r => obtain ⟨_, e1, _⟩ := hnews 0 u rfl; cases e1
    subst hn0
    obtain rfl : m = 0 := by
      rcases Nat.eq_zero_or_pos m with h0 | h0
      · exact h0
      · have := Nat.mul_pos h0 hsz; simp at hl; omega
    have hr : (Builtin.append_ #[t, t] o.type #[v, .slice none 0 c]).run P w = .ok v w := by
      rcases hown.2 with ⟨rfl, rfl⟩ | ⟨g, cap, cur, rfl, hbg, hg, hnc, hcm, hcs, htake⟩
      · simp [Builtin.append_, run_underlying ht, sizeOf, typeInfo, hi, Builtin.lenOf, Builtin.firstCells]
      · simp [Builtin.append_, run_underlying ht, sizeOf, typeInfo, hi, Builtin.lenOf, Builtin.firstCells, hnc, storeCells]
    unfold Oper.wp execOp
    simp only [ho, resolve, invoke, builtin, Sem.run_bind, Sem.run_pure, Result.andThen_ok, List.map_toArray, List.map_cons, List.map_nil, hs, hx, hr]
    exact hK _ _ (h v w (by rw [List.append_nil]; exact hown) (World.grownBy.refl _ _) (.inl rfl))
/-- A row of its own, from nothing: its own list. -/
theorem own_of_append {α : Type} {ty m : Nat} {cel : α → List Value} {w0 w1 : World} {v' : Value} {xs : List α} (h : w1.ownsRow w0.heap.size ty m v' xs.length (xs.flatMap cel)) (hs : w0.heap.size ≤ w1.heap.size) : ∃ p c, v' = .slice p xs.length c ∧ ListOwn ty m cel NoOwn w0.heap.size w1.heap.size w1 p xs.length c xs := by
  obtain ⟨p, c, rfl⟩ := row_slice h
  exact ⟨p, c, rfl, own_intro rfl h rfl (spread_NoOwn hs _)⟩
theorem Spread.grow {α : Type} {Q : Nat → Nat → World → α → Prop} (hQ : Local Q) {v v' : Value} {lo : Nat} {w0 w w' : World} {xs : List α} (h : Spread Q v.ownBlock lo w0.heap.size w0 xs) (h0 : Below w0.heap.size w0 w) (hg : w.grownBy w' v.ownBlock) (hm : Moved w v v') (hv : ∀ g, v.ownBlock = some g → g < w.heap.size) :
    Spread Q v'.ownBlock lo w0.heap.size w' xs := by
  have h1 : Spread Q v.ownBlock lo w0.heap.size w' xs := h.stay hQ (fun k h1 h2 h3 => (hg.block k (Nat.lt_of_lt_of_le h2 h0.size) (fun e => h3 e.symm)).trans (h0.block k h2))
  rcases hm with e | e
  · rw [e]; exact h1
  · exact h1.row (fun k hk => by rw [e] at hk; injection hk with hk; have := h0.size; omega)
theorem cells_of_row {B : Nat} {w : World} {p : Option Addr} {cs : List Value} (h : RowAt B w p cs) : ∀ j u, cs[j]? = some u → ∃ a, p = some a ∧ w.cell? (a.add j) = some u := fun j u hu => by
  obtain ⟨a, e, _, hc⟩ := h j u hu
  exact ⟨a, e, hc⟩
theorem flat_one {α : Type} {cel : α → List Value} (h : ∀ x, ∀ u ∈ cel x, u.oneCell' = true) (xs : List α) : ∀ u ∈ xs.flatMap cel, u.oneCell' = true := fun u hu => by
  obtain ⟨x, _, hx⟩ := List.mem_flatMap.1 hu
  exact h x u hx
theorem lit_at (w : World) (cs : List Value) (ty : TypeId) : ∀ j u, cs[j]? = some u → ∃ ad, (some ⟨w.heap.size, 0, none⟩ : Option Addr) = some ad ∧ (w.alloc (.cells cs.toArray ty)).cell? (ad.add j) = some u := fun j u h => ⟨_, rfl, lit_cells w cs.toArray ty j u (by simpa using h)⟩
theorem ownsRow_ne {w : World} {B e m n : Nat} {v : Value} {xs : List Value} (h : w.ownsRow B e m v n xs) {a : Addr} (ha : v.ownBlock ≠ some a.block) (u : Value) : (w.setCell a u).ownsRow B e m v n xs := by
  refine ⟨h.1, ?_⟩
  rcases h.2 with hn | ⟨g, cap, cur, hv, hB, hg, r⟩
  · exact .inl hn
  · exact .inr ⟨g, cap, cur, hv, hB, (Go.Deep.blk_setCell_other w a u g (fun e => ha (by rw [hv]; simp [Value.ownBlock, e]))).trans hg, r⟩
theorem lit_at' (w : World) {B : Nat} (hB : B = w.heap.size) (cs : List Value) (ty : TypeId) : ∀ j u, cs[j]? = some u → ∃ ad, (some ⟨B, 0, none⟩ : Option Addr) = some ad ∧ (w.alloc (.cells cs.toArray ty)).cell? (ad.add j) = some u := by subst hB; exact lit_at w cs ty
theorem cells_grow {w w' : World} {p : Option Addr} {cs : List Value} (h : ∀ j u, cs[j]? = some u → ∃ a, p = some a ∧ w.cell? (a.add j) = some u) (hg : w.grownBy w' none) : ∀ j u, cs[j]? = some u → ∃ a, p = some a ∧ w'.cell? (a.add j) = some u := fun j u hu => by
  obtain ⟨a, e, hc⟩ := h j u hu
  exact ⟨a, e, hg.cell hc (by simp)⟩
theorem kept_none {B e m n : Nat} {v : Value} {xs : List Value} {w w' : World} (h : w.ownsRow B e m v n xs) (hg : w.grownBy w' none) : w'.ownsRow B e m v n xs := h.kept hg (by cases v.ownBlock <;> simp)
theorem below_none {B : Nat} {w w' : World} (hg : w.grownBy w' none) (hB : B ≤ w.heap.size) : Below B w w' := ⟨hg.os, hg.tape, hg.output, hg.size, fun k hk => hg.block k (Nat.lt_of_lt_of_le hk hB) (by simp)⟩
set_option maxRecDepth 100000 in
set_option maxHeartbeats 4000000 in
theorem rCopyFunc_own (f : LFn) (W : World) (h : FnIn W.heap.size W f) (hz : fnZ (fnD f) ≤ 1048576) :
    Calls Try.prog 7 #[.agg (fnC f).toArray] W fun e w' => ∃ y, e = .returned (.agg (fnC y).toArray) ∧ fnD y = fnD f ∧ Past W.heap.size W w' ∧ FnOwn W.heap.size w'.heap.size w' y := by
  obtain ⟨iN, hiN, n0, n1, n2⟩ := info_parts infoOf_N
  obtain ⟨iV, hiV, v0, v1, v2⟩ := info_parts infoOf_V
  obtain ⟨iC, hiC, c0, c1, c2⟩ := info_parts infoOf_C
  obtain ⟨iB, hiB, b0, b1, b2⟩ := info_parts infoOf_B
  have HN := Lib.hid (And.intro hiN (And.intro n0 (And.intro n1 n2)))
  have HV := Lib.hid (And.intro hiV (And.intro v0 (And.intro v1 v2)))
  have HC := Lib.hid (And.intro hiC (And.intro c0 (And.intro c1 c2)))
  have HB := Lib.hid (And.intro hiB (And.intro b0 (And.intro b1 b2)))
  clear hiN n0 n1 n2 hiV v0 v1 v2 hiC c0 c1 c2 hiB b0 b1 b2
  obtain ⟨nm, pp, pn, pc, ps, rt, bp, bn, bc, bs⟩ := f
  obtain rfl : pn = ps.length := h.1.1
  obtain rfl : bn = bs.length := h.2.1
  have k2 : bs.length ≤ bc := h.2.2.1
  have k3 : bc ≤ maxLen := h.2.2.2.1
  unfold maxLen at k3
  have hzz : 1 + ps.length + blksZ (bs.map blkD) ≤ 1048576 := hz
  have H := Lib.hid h
  have HZ := Lib.hid hzz
  clear h hz hzz
  show Calls Try.prog 7 #[.agg #[.string nm, .slice pp ps.length pc, .int .i64 rt, .slice bp bs.length bc]] W _
  have P1 := (Past.refl (Nat.le_refl W.heap.size)).alloc (.cells #[.string nm, .slice pp ps.length pc, .int .i64 rt, .slice bp bs.length bc] 25)
  have F1 : Box W.heap.size [.string nm, .slice pp ps.length pc, .int .i64 rt, .slice bp bs.length bc] (W.alloc (.cells #[.string nm, .slice pp ps.length pc, .int .i64 rt, .slice bp bs.length bc] 25)) := Box.new W rfl _ _
  have z1 : (W.alloc (.cells #[.string nm, .slice pp ps.length pc, .int .i64 rt, .slice bp bs.length bc] 25)).heap.size = W.heap.size + 1 := by simp
  go_enter Try.func7, Try.ntmps7
  go_upto_region 1 with fail
  generalize (W.alloc (.cells #[.string nm, .slice pp ps.length pc, .int .i64 rt, .slice bp bs.length bc] 25)) = w1 at *
  have P2 := P1.alloc (.cells #[.string { data := #[] }, .slice none 0 0, .int .i64 0, .slice none 0 0] 25)
  have F2 := F1.alloc (.cells #[.string { data := #[] }, .slice none 0 0, .int .i64 0, .slice none 0 0] 25)
  have R2 : Box (W.heap.size + 1) [.string { data := #[] }, .slice none 0 0, .int .i64 0, .slice none 0 0] (w1.alloc (.cells #[.string { data := #[] }, .slice none 0 0, .int .i64 0, .slice none 0 0] 25)) := Box.new w1 (by omega) _ _
  have z2 : (w1.alloc (.cells #[.string { data := #[] }, .slice none 0 0, .int .i64 0, .slice none 0 0] 25)).heap.size = W.heap.size + 2 := by simp; omega
  generalize (w1.alloc (.cells #[.string { data := #[] }, .slice none 0 0, .int .i64 0, .slice none 0 0] 25)) = w2 at *
  have a0 := F2.get 0 _ rfl
  have a2 := F2.get 2 _ rfl
  have G3 : Box (W.heap.size + 2) [.string nm, .slice none 0 0, .int .i64 rt, .slice none 0 0] (w2.alloc (.cells #[.string nm, .slice none 0 0, .int .i64 rt, .slice none 0 0] 25)) := Box.new w2 (by omega) _ _
  have F3 := F2.alloc (.cells #[.string nm, .slice none 0 0, .int .i64 rt, .slice none 0 0] 25)
  have R3 := R2.alloc (.cells #[.string nm, .slice none 0 0, .int .i64 rt, .slice none 0 0] 25)
  have P3 := P2.alloc (.cells #[.string nm, .slice none 0 0, .int .i64 rt, .slice none 0 0] 25)
  have z3 : (w2.alloc (.cells #[.string nm, .slice none 0 0, .int .i64 rt, .slice none 0 0] 25)).heap.size = W.heap.size + 3 := by simp; omega
  have hpc := cells_of_row ((H.out.1.lasts lasts_NoMem P3.2 P3.2.size).2.2.2.1)
  have hps : ps.length ≤ 1048576 := by have := HZ.out; omega
  have y1 := F3.get 1 _ rfl
  have x1 := G3.get 1 _ rfl
  clear F1 F2 R2 P1 P2 z1
  go_wp2_with (first
    | (at_builtin; refine wpList_append_at rfl (.tmp 16) (.tmp 18) 22 rfl (W.heap.size + 3) 3 iN _ 1 8 Try.underlying22 HN.out.1 HN.out.2.1 HN.out.2.2.1 HN.out.2.2.2 rfl (by decide) (.slice none 0 0) 0 [] rfl (World.ownsRow_nil _ _ _ _) pp ps.length pc (ps.flatMap intC) rfl (flat_len intC 1 (fun _ => rfl) ps) hpc (flat_one intC_one ps) (by unfold maxLen; omega) (by omega) (by omega) ?_; intro vp w4 hown4 hgrow4 hmv4; obtain ⟨q4, c4, rfl⟩ := row_slice hown4; have F4 := F3.kept hgrow4 (by simp [Value.ownBlock]); have R4 := R3.kept hgrow4 (by simp [Value.ownBlock]); have G4 := G3.kept hgrow4 (by simp [Value.ownBlock]); have x0 := G4.get 0 _ rfl; have x1 := G4.get 1 _ rfl; have x2 := G4.get 2 _ rfl; have x3 := G4.get 3 _ rfl; have xf := G4.2.1))
  have P4 := P3.grownRow hgrow4 (fun g e => by simp [Value.ownBlock] at e)
  have hz4 := hgrow4.size
  have z43 : W.heap.size + 3 ≤ w4.heap.size := by omega
  rw [Nat.zero_add, List.nil_append] at hown4
  have G5 := G4.set 1 (.slice q4 (0 + ps.length) c4)
  have F5 := F4.other (d := W.heap.size + 2) (by omega) 1 (.slice q4 (0 + ps.length) c4)
  have R5 := R4.other (d := W.heap.size + 2) (by omega) 1 (.slice q4 (0 + ps.length) c4)
  have P5 := P4.set (a := ⟨W.heap.size + 2, 1, none⟩) (by dsimp only; omega) (.slice q4 (0 + ps.length) c4)
  have o5 := ownsRow_set hown4 (a := ⟨W.heap.size + 2, 1, none⟩) (by dsimp only; omega) (.slice q4 (0 + ps.length) c4)
  have l5 : (w4.setCell ⟨W.heap.size + 2, 1, none⟩ (.slice q4 (0 + ps.length) c4)).heap.size = w4.heap.size := by simp [World.setCell]
  rw [Nat.zero_add] at G5 F5 R5 P5 o5 l5
  clear F3 R3 G3 P3 F4 R4 G4 P4 hown4 hgrow4 hmv4 y1 x0 x1 x2 x3 xf hpc a0 a2 z2 z3 hz4
  try simp only [Nat.zero_add]
  generalize w4.setCell ⟨W.heap.size + 2, 1, none⟩ (.slice q4 ps.length c4) = w5 at *
  obtain ⟨d, hd⟩ : ∃ d, w5.heap.size = d := ⟨_, rfl⟩
  have hd3 : W.heap.size + 3 ≤ d := by omega
  have LP : ListOwn 3 1 intC NoOwn (W.heap.size + 3) d w5 q4 ps.length c4 ps := own_intro rfl o5 hd.symm (spread_NoOwn hd3 _)
  have HI0 := Lib.hid (And.intro P5 (And.intro F5 (And.intro R5 (And.intro G5 LP))))
  have HD := Lib.hid hd
  clear o5 LP G5 F5 R5 P5 l5 z43 hd
  go_loopw [4] (fun t wr => ∃ (i : Nat) (ys : List LB) (q : Option Addr) (c : Nat), i ≤ bs.length ∧ t = .int .i64 i ∧ ys.length = i ∧ ys.map blkD = (bs.take i).map blkD ∧ Past W.heap.size W wr ∧ Box W.heap.size [.string nm, .slice pp ps.length pc, .int .i64 rt, .slice bp bs.length bc] wr ∧ Box (W.heap.size + 1) [.string { data := #[] }, .slice none 0 0, .int .i64 0, .slice none 0 0] wr ∧ Box (W.heap.size + 2) [.string nm, .slice q4 ps.length c4, .int .i64 rt, .slice q i c] wr ∧
    ListOwn 3 1 intC NoOwn (W.heap.size + 3) d wr q4 ps.length c4 ps ∧ d ≤ wr.heap.size ∧ wr.ownsRow d 43 1 (.slice q i c) i (ys.flatMap blkC) ∧ Spread BlkOwn (Value.slice q i c).ownBlock d wr.heap.size wr ys) (fun t _ => bs.length - (intOf t).toNat)
  case atStart => exact ⟨0, [], none, 0, Nat.zero_le _, rfl, rfl, rfl, HI0.out.1, HI0.out.2.1, HI0.out.2.2.1, HI0.out.2.2.2.1, HI0.out.2.2.2.2, by rw [HD.out]; exact Nat.le_refl _, World.ownsRow_nil _ _ _ _, by rw [HD.out]; exact Nat.le_refl d⟩
  case round =>
    obtain ⟨i, ys, q, c, hi, rfl, hyl, hyd, P6, F6, R6, G6, L6, hdw, ho6, hs6⟩ := hrel
    have f3 := F6.get 3 _ rfl
    by_cases hlt : i < bs.length
    · obtain ⟨a, rfl, ha, hc⟩ := blk_row H.out.2 i hlt
      have hcd : ListIn liC InsIn W.heap.size W bs[i].p bs[i].n bs[i].k bs[i].code := H.out.2.2.2.2.2 bs[i] (List.getElem_mem hlt)
      have d1 := hcd.1
      have d2 := hcd.2.1
      have d3 := hcd.2.2.1
      rw [d1] at hc d2
      unfold maxLen at d3
      have HCD := Lib.hid hcd
      have HC1 := Lib.hid hc
      have hcz : bs[i].code.length ≤ 1048576 := by
        have h1 := blksZ_mem (List.mem_map_of_mem (f := blkD) (List.getElem_mem hlt))
        have h2 := codeZ_len (blkD bs[i])
        have h3 : (blkD bs[i]).length = bs[i].code.length := by unfold blkD; rw [List.length_map]
        have := HZ.out
        omega
      have hbz : codeZ (blkD bs[i]) ≤ 1048576 := by
        have h1 := blksZ_mem (List.mem_map_of_mem (f := blkD) (List.getElem_mem hlt))
        have := HZ.out
        omega
      have HBZ := Lib.hid hbz
      have HO6 := Lib.hid (And.intro ho6 hs6)
      have HL6 := Lib.hid L6
      have hyd := Lib.hid hyd
      clear hc hcd d1 hbz ho6 hs6 L6
      go_wp2_with fail
      clear f3
      generalize wr = wo at *
      go_loopw [5, 6] (fun vc t wi => ∃ (k : Nat) (zs : List LI) (qc : Option Addr) (cc : Nat), k ≤ bs[i].code.length ∧ t = .int .i64 k ∧ vc = .slice qc k cc ∧ zs.length = k ∧ Hid (zs.map insD = (bs[i].code.take k).map insD) ∧ Past wo.heap.size wo wi ∧ wi.ownsRow wo.heap.size 46 7 (.slice qc k cc) k (zs.flatMap liC) ∧ Spread InsOwn (Value.slice qc k cc).ownBlock wo.heap.size wi.heap.size wi zs) (fun _ t _ => bs[i].code.length - (intOf t).toNat)
      case atStart => exact ⟨0, [], none, 0, Nat.zero_le _, rfl, rfl, rfl, Lib.hid rfl, Past.refl (Nat.le_refl _), World.ownsRow_nil _ _ _ _, Nat.le_refl _⟩
      case round =>
        obtain ⟨k, zs, qc, cc, hk, rfl, rfl, hzl, hzd, Pi, hoi, hsi⟩ := hrel
        have PW := P6.trans ⟨P6.size, Pi.2.mono P6.size⟩
        have Fi := F6.later Pi.2
        have f3 := Fi.get 3 _ rfl
        have c1 := (PW.2.cell (p := a.add i) (by rw [add_block]; exact ha)).trans HC1.out
        by_cases hkl : k < bs[i].code.length
        · obtain ⟨v, hv, hv2, hins⟩ := li_row HCD.out k hkl
          have hxin := HCD.out.2.2.2.2 _ (List.getElem_mem hkl)
          have hxz := codeZ_mem (List.mem_map_of_mem (f := insD) (List.getElem_mem hkl))
          have hxd : insD bs[i].code[k] = insD bs[i].code[k] := rfl
          obtain ⟨x, ex⟩ : ∃ x, bs[i].code[k] = x := ⟨_, rfl⟩
          have EX := Lib.hid ex
          rw [ex] at hins hxin hxz
          have hxal := hxin.1.1
          have hxtl := hxin.2.1
          have hxac := hxin.1.2.1
          have hxtc := hxin.2.2.1
          have hxam := hxin.1.2.2.1
          have hxtm := hxin.2.2.2.1
          obtain ⟨y0, y1, y2, y3, y4, y5, y6⟩ := hins.below PW.2 (by rw [add_block]; exact hv2)
          rw [hxal] at y5 hxac
          rw [hxtl] at y6 hxtc
          unfold maxLen at hxam hxtm
          rw [hv] at c1
          have hxz2 : x.1.args.length + x.2.length ≤ 1048576 := by
            have h1 := HBZ.out
            unfold blkD at h1
            have h2 : 1 + x.1.args.length + x.2.length ≤ codeZ (bs[i].code.map insD) := hxz
            omega
          have hoz := Pi.2.size
          have Pj := Pi.alloc (.cells #[.int .i64 x.1.op, .int .i64 x.1.reg, .int .i64 x.1.ty, .int .i64 x.1.n, .int .i64 x.1.fl, .slice x.1.ap x.1.args.length x.1.ac, .slice x.1.tp x.2.length x.1.tc] 46)
          have PWj := PW.alloc (.cells #[.int .i64 x.1.op, .int .i64 x.1.reg, .int .i64 x.1.ty, .int .i64 x.1.n, .int .i64 x.1.fl, .slice x.1.ap x.1.args.length x.1.ac, .slice x.1.tp x.2.length x.1.tc] 46)
          have Ij : Box wr.heap.size [.int .i64 x.1.op, .int .i64 x.1.reg, .int .i64 x.1.ty, .int .i64 x.1.n, .int .i64 x.1.fl, .slice x.1.ap x.1.args.length x.1.ac, .slice x.1.tp x.2.length x.1.tc] (wr.alloc (.cells #[.int .i64 x.1.op, .int .i64 x.1.reg, .int .i64 x.1.ty, .int .i64 x.1.n, .int .i64 x.1.fl, .slice x.1.ap x.1.args.length x.1.ac, .slice x.1.tp x.2.length x.1.tc] 46)) := Box.new wr rfl _ _
          have zj : (wr.alloc (.cells #[.int .i64 x.1.op, .int .i64 x.1.reg, .int .i64 x.1.ty, .int .i64 x.1.n, .int .i64 x.1.fl, .slice x.1.ap x.1.args.length x.1.ac, .slice x.1.tp x.2.length x.1.tc] 46)).heap.size = wr.heap.size + 1 := by simp
          have hoj := hoi.alloc (.cells #[.int .i64 x.1.op, .int .i64 x.1.reg, .int .i64 x.1.ty, .int .i64 x.1.n, .int .i64 x.1.fl, .slice x.1.ap x.1.args.length x.1.ac, .slice x.1.tp x.2.length x.1.tc] 46)
          have HXI := Lib.hid hxin
          have HSI := Lib.hid hsi
          have hclt := hoi.lt
          have HCLT := Lib.hid hclt
          have HXZ := Lib.hid hxz2
          have HEX := Lib.hid hv
          have hbelow : Below wr.heap.size wr (wr.alloc (.cells #[.int .i64 x.1.op, .int .i64 x.1.reg, .int .i64 x.1.ty, .int .i64 x.1.n, .int .i64 x.1.fl, .slice x.1.ap x.1.args.length x.1.ac, .slice x.1.tp x.2.length x.1.tc] 46)) := (Below.refl _ _).alloc (Nat.le_refl _) _
          clear hins hxin hxz hxal hxtl hv hsi hoi ex hclt hxd
          have hxw : InsIn (wr.alloc (.cells #[.int .i64 x.1.op, .int .i64 x.1.reg, .int .i64 x.1.ty, .int .i64 x.1.n, .int .i64 x.1.fl, .slice x.1.ap x.1.args.length x.1.ac, .slice x.1.tp x.2.length x.1.tc] 46)).heap.size (wr.alloc (.cells #[.int .i64 x.1.op, .int .i64 x.1.reg, .int .i64 x.1.ty, .int .i64 x.1.n, .int .i64 x.1.fl, .slice x.1.ap x.1.args.length x.1.ac, .slice x.1.tp x.2.length x.1.tc] 46)) x := past_lasts lasts_Ins HXI.out PWj
          have HCA := Lib.hid hxw.1.cells
          have HCT := Lib.hid hxw.2.cells
          have i5 := Ij.get 5 _ rfl
          have i6 := Ij.get 6 _ rfl
          clear hxw
          go_wp2_with (first
            | (at_builtin; refine wpList_append_at rfl (.tmp 48) (.tmp 50) 44 rfl (wr.heap.size + 1) 49 iV _ 3 24 Try.underlying44 HV.out.1 HV.out.2.1 HV.out.2.2.1 HV.out.2.2.2 rfl (by decide) (.slice none 0 0) 0 [] rfl (World.ownsRow_nil _ _ _ _) x.1.ap x.1.args.length x.1.ac (x.1.args.flatMap argC) rfl (argC_len _) HCA.out (argC_one _) (by have := HXZ.out; unfold maxLen; omega) (by have := HXZ.out; omega) (by omega) ?_; intro va wa howna hgrowa hmva; obtain ⟨qa, ca, rfl⟩ := row_slice howna; have Ia := Ij.kept hgrowa (by simp [Value.ownBlock]); have i5 := Ia.get 5 _ rfl; have i6 := Ia.get 6 _ rfl)
            | (at_builtin; refine wpList_append_at rfl (.tmp 52) (.tmp 54) 22 rfl (wr.heap.size + 1) 3 iN _ 1 8 Try.underlying22 HN.out.1 HN.out.2.1 HN.out.2.2.1 HN.out.2.2.2 rfl (by decide) (.slice none 0 0) 0 [] rfl (World.ownsRow_nil _ _ _ _) x.1.tp x.2.length x.1.tc (x.2.flatMap intC) rfl (flat_len intC 1 (fun _ => rfl) _) (cells_grow HCT.out hgrowa) (flat_one intC_one _) (by have := HXZ.out; unfold maxLen; omega) (by have := HXZ.out; omega) (by have := hgrowa.size; omega) ?_; intro vt wt hownt hgrowt hmvt; obtain ⟨qt, ct, rfl⟩ := row_slice hownt; have It := Ia.kept hgrowt (by simp [Value.ownBlock]); have i0 := It.get 0 _ rfl; have i1 := It.get 1 _ rfl; have i2 := It.get 2 _ rfl; have i3 := It.get 3 _ rfl; have i4 := It.get 4 _ rfl; have i5 := It.get 5 _ rfl; have i6 := It.get 6 _ rfl; have xf := It.2.1; have hta := hgrowa.size; have htt := hgrowt.size; have hoa := kept_none hoj hgrowa; have hot := kept_none hoa hgrowt)
            | (at_builtin; refine wpList_append_at rfl (.tmp 60) (.tmp 62) 41 rfl wo.heap.size 46 iC _ 7 88 Try.underlying41 HC.out.1 HC.out.2.1 HC.out.2.2.1 HC.out.2.2.2 rfl (by decide) (.slice qc k cc) k (zs.flatMap liC) rfl ((ownsRow_ne (ownsRow_ne hot (fun e => Nat.lt_irrefl _ (HCLT.out _ e).2) _) (fun e => Nat.lt_irrefl _ (HCLT.out _ e).2) _).alloc _) (some ⟨wt.heap.size, 0, none⟩) 1 1 [.int .i64 x.1.op, .int .i64 x.1.reg, .int .i64 x.1.ty, .int .i64 x.1.n, .int .i64 x.1.fl, .slice qa x.1.args.length ca, .slice qt x.2.length ct] rfl rfl (lit_at' _ (by simp [World.setCell]) [.int .i64 x.1.op, .int .i64 x.1.reg, .int .i64 x.1.ty, .int .i64 x.1.n, .int .i64 x.1.fl, .slice qa x.1.args.length ca, .slice qt x.2.length ct] _) (by intro u hu; simp at hu; rcases hu with rfl | rfl | rfl | rfl | rfl | rfl | rfl <;> rfl) (by unfold maxLen; omega) (by omega) (by simp [World.setCell]; omega) ?_; intro v6 w6 hown6 hgrow6 hmv6; obtain ⟨q6, c6, rfl⟩ := row_slice hown6))
          have hg6 : (((wt.setCell ⟨wr.heap.size, 5, none⟩ (.slice qa x.1.args.length ca)).setCell ⟨wr.heap.size, 6, none⟩ (.slice qt x.2.length ct)).alloc (.cells #[.int .i64 x.1.op, .int .i64 x.1.reg, .int .i64 x.1.ty, .int .i64 x.1.n, .int .i64 x.1.fl, .slice qa x.1.args.length ca, .slice qt x.2.length ct] 46)).grownBy w6 (Value.slice qc k cc).ownBlock := hgrow6
          have hm6 : Moved (((wt.setCell ⟨wr.heap.size, 5, none⟩ (.slice qa x.1.args.length ca)).setCell ⟨wr.heap.size, 6, none⟩ (.slice qt x.2.length ct)).alloc (.cells #[.int .i64 x.1.op, .int .i64 x.1.reg, .int .i64 x.1.ty, .int .i64 x.1.n, .int .i64 x.1.fl, .slice qa x.1.args.length ca, .slice qt x.2.length ct] 46)) (Value.slice qc k cc) (Value.slice q6 (k + 1) c6) := hmv6
          have hb5 : Below wr.heap.size wr (((wt.setCell ⟨wr.heap.size, 5, none⟩ (.slice qa x.1.args.length ca)).setCell ⟨wr.heap.size, 6, none⟩ (.slice qt x.2.length ct)).alloc (.cells #[.int .i64 x.1.op, .int .i64 x.1.reg, .int .i64 x.1.ty, .int .i64 x.1.n, .int .i64 x.1.fl, .slice qa x.1.args.length ca, .slice qt x.2.length ct] 46)) := ((((hbelow.trans (below_none hgrowa (by omega))).trans (below_none hgrowt (by omega))).setCell (p := ⟨wr.heap.size, 5, none⟩) (Nat.le_refl _) _).setCell (p := ⟨wr.heap.size, 6, none⟩) (Nat.le_refl _) _).alloc (by simp [World.setCell]; omega) _
          have P5 : Past wo.heap.size wo (((wt.setCell ⟨wr.heap.size, 5, none⟩ (.slice qa x.1.args.length ca)).setCell ⟨wr.heap.size, 6, none⟩ (.slice qt x.2.length ct)).alloc (.cells #[.int .i64 x.1.op, .int .i64 x.1.reg, .int .i64 x.1.ty, .int .i64 x.1.n, .int .i64 x.1.fl, .slice qa x.1.args.length ca, .slice qt x.2.length ct] 46)) := ⟨Pi.1, Pi.2.trans (hb5.mono hoz)⟩
          have P6 := P5.grownRow hg6 (fun g e => (HCLT.out g e).1)
          have l5 : ((((wt.setCell ⟨wr.heap.size, 5, none⟩ (.slice qa x.1.args.length ca)).setCell ⟨wr.heap.size, 6, none⟩ (.slice qt x.2.length ct)).alloc (.cells #[.int .i64 x.1.op, .int .i64 x.1.reg, .int .i64 x.1.ty, .int .i64 x.1.n, .int .i64 x.1.fl, .slice qa x.1.args.length ca, .slice qt x.2.length ct] 46))).heap.size = wt.heap.size + 1 := by simp [World.setCell]
          have hK : ∀ {B e m n : Nat} {v : Value} {xs : List Value}, wt.ownsRow B e m v n xs → wr.heap.size + 1 ≤ B → w6.ownsRow B e m v n xs := fun {B e m n v xs} h hB => by
            refine (((ownsRow_set (ownsRow_set h (a := ⟨wr.heap.size, 5, none⟩) (by dsimp only; omega) _) (a := ⟨wr.heap.size, 6, none⟩) (by dsimp only; omega) _).alloc _).kept hgrow6 ?_)
            cases hv : v.ownBlock with
            | none => exact .inl rfl
            | some g => exact .inr (fun e => by have h1 := (h.lt g hv).1; have h2 := (HCLT.out g e.symm).2; omega)
          have S6 := Spread.grow local_Ins HSI.out hb5 hg6 hm6 (fun g e => by have h2 := (HCLT.out g e).2; omega)
          simp only [Nat.zero_add, List.nil_append] at howna hownt
          have ra := hK (kept_none howna hgrowt) (Nat.le_refl _)
          have rt := hK hownt (Nat.le_refl _)
          have la := howna.lt
          have lt := hownt.lt
          obtain ⟨y, ey⟩ : ∃ y : LI, y = ({ x.1 with ap := qa, al := x.1.args.length, ac := ca, tp := qt, tl := x.2.length, tc := ct }, x.2) := ⟨_, rfl⟩
          have hIO : InsOwn (wr.heap.size + 1) wt.heap.size w6 y := by
            subst ey
            exact ⟨⟨rfl, ra, fun g e => by have := (la g e).2; omega, spread_NoOwn (by omega) _⟩, ⟨rfl, rt, fun g e => (lt g e).2, spread_NoOwn (by omega) _⟩⟩
          have hcy : liC y = [.int .i64 x.1.op, .int .i64 x.1.reg, .int .i64 x.1.ty, .int .i64 x.1.n, .int .i64 x.1.fl, .slice qa x.1.args.length ca, .slice qt x.2.length ct] := by rw [ey]; rfl
          have hyx : insD y = insD x := by rw [ey]; rfl
          have S7 := (S6.snoc (a := wr.heap.size + 1) (b := wt.heap.size) (by omega) (by omega) (fun g e => by
            rcases hm6 with e2 | e2
            · rw [e2] at e; have := (HCLT.out g e).2; omega
            · rw [e2] at e; injection e with e; omega) hIO).up (show wt.heap.size ≤ w6.heap.size by have := hg6.size; omega)
          refine ⟨⟨k + 1, zs ++ [y], q6, c6, by omega, by go_num, rfl, by simp [hzl], Lib.hid ?_, P6, ?_, S7⟩, by simp [intOf]; omega⟩
          · rw [List.map_append, hzd.out, List.take_succ_eq_append_getElem hkl, List.map_append, List.map_singleton, List.map_singleton, hyx, EX.out]
          · have e : (zs ++ [y]).flatMap liC = zs.flatMap liC ++ [.int .i64 x.1.op, .int .i64 x.1.reg, .int .i64 x.1.ty, .int .i64 x.1.n, .int .i64 x.1.fl, .slice qa x.1.args.length ca, .slice qt x.2.length ct] := by rw [List.flatMap_append, ← hcy]; simp
            rw [e]
            exact hown6
        · obtain rfl : k = bs[i].code.length := by omega
          rw [List.take_length] at hzd
          have Gi := G6.later Pi.2
          have g3 := Gi.get 3 _ rfl
          have hob := ownsRow_below HO6.out.1 Pi.2
          have hobl := HO6.out.1.lt
          have HOBL := Lib.hid hobl
          have hbl : bs.length ≤ 1048576 := by have h1 := blksZ_len (bs.map blkD); rw [List.length_map] at h1; have := HZ.out; omega
          have hps := Pi.2.size
          have z7 : W.heap.size + 2 < wr.heap.size := by omega
          clear hobl
          go_wp2_with (first
            | (at_builtin; refine wpList_append_at rfl (.tmp 65) (.tmp 68) 23 rfl d 43 iB _ 1 24 Try.underlying23 HB.out.1 HB.out.2.1 HB.out.2.2.1 HB.out.2.2.2 rfl (by decide) (.slice q i c) i (ys.flatMap blkC) rfl (hob.alloc _) (some ⟨wr.heap.size, 0, none⟩) 1 1 [.slice qc bs[i].code.length cc] rfl rfl (lit_at' wr rfl [.slice qc bs[i].code.length cc] _) (by intro u hu; simp at hu; rw [hu]; rfl) (by unfold maxLen; omega) (by omega) (by simp; omega) ?_; intro v8 w8 hown8 hgrow8 hmv8; obtain ⟨q8, c8, rfl⟩ := row_slice hown8; have G8 := (Gi.alloc (.cells #[.slice qc bs[i].code.length cc] 43)).kept hgrow8 (fun e => by have := (HOBL.out _ e.symm).1; omega); have x0 := G8.get 0 _ rfl; have x1 := G8.get 1 _ rfl; have x2 := G8.get 2 _ rfl; have x3 := G8.get 3 _ rfl; have xf := G8.2.1))
          have hg8 : (wr.alloc (.cells #[.slice qc bs[i].code.length cc] 43)).grownBy w8 (Value.slice q i c).ownBlock := hgrow8
          have hm8 : Moved (wr.alloc (.cells #[.slice qc bs[i].code.length cc] 43)) (Value.slice q i c) (Value.slice q8 (i + 1) c8) := hmv8
          have l7 : ((wr.alloc (.cells #[.slice qc bs[i].code.length cc] 43))).heap.size = wr.heap.size + 1 := by simp
          have hb7 : Below wo.heap.size wo (wr.alloc (.cells #[.slice qc bs[i].code.length cc] 43)) := Pi.2.alloc hps _
          have S8 := Spread.grow local_Blk HO6.out.2 hb7 hg8 hm8 (fun g e => by have h2 := (HOBL.out g e).2; omega)
          have hBO : BlkOwn wo.heap.size wr.heap.size wr ⟨qc, bs[i].code.length, cc, zs⟩ := own_intro hzl.symm hoi rfl hsi
          have st8 : Stay wo.heap.size wr.heap.size wr w8 := fun m h1 h2 => (hg8.block m (by omega) (fun e => by have h3 := (HOBL.out m e.symm).2; omega)).trans (Below.heap_alloc _ _ _ h2)
          have st8p : Stay (W.heap.size + 3) d wo w8 := fun m h1 h2 => (hg8.block m (by omega) (fun e => by have h3 := (HOBL.out m e.symm).1; omega)).trans (hb7.block m (by omega))
          have hg89 := hg8.size
          have P7 := (P6.trans ⟨P6.size, Pi.2.mono P6.size⟩).alloc (.cells #[.slice qc bs[i].code.length cc] 43)
          have P8 := P7.grownRow hg8 (fun g e => by have h3 := (HOBL.out g e).1; omega)
          have P9 := P8.set (a := ⟨W.heap.size + 2, 3, none⟩) (by dsimp only; omega) (.slice q8 (i + 1) c8)
          have F8 := (((F6.later Pi.2).alloc (.cells #[.slice qc bs[i].code.length cc] 43)).kept hg8 (fun e => by have := (HOBL.out _ e.symm).1; omega)).other (d := W.heap.size + 2) (by omega) 3 (.slice q8 (i + 1) c8)
          have R8 := (((R6.later Pi.2).alloc (.cells #[.slice qc bs[i].code.length cc] 43)).kept hg8 (fun e => by have := (HOBL.out _ e.symm).1; omega)).other (d := W.heap.size + 2) (by omega) 3 (.slice q8 (i + 1) c8)
          have G9 := G8.set 3 (.slice q8 (i + 1) c8)
          have l9 : (w8.setCell ⟨W.heap.size + 2, 3, none⟩ (.slice q8 (i + 1) c8)).heap.size = w8.heap.size := by simp [World.setCell]
          have st9 : ∀ a b, W.heap.size + 3 ≤ a → Stay a b w8 (w8.setCell ⟨W.heap.size + 2, 3, none⟩ (.slice q8 (i + 1) c8)) := fun a b hab m h1 h2 => Below.heap_setCell _ _ _ _ (by dsimp only; omega)
          have S9 : Spread BlkOwn (Value.slice q8 (i + 1) c8).ownBlock d (w8.setCell ⟨W.heap.size + 2, 3, none⟩ (.slice q8 (i + 1) c8)).heap.size (w8.setCell ⟨W.heap.size + 2, 3, none⟩ (.slice q8 (i + 1) c8)) (ys ++ [⟨qc, bs[i].code.length, cc, zs⟩]) := by
            rw [l9]
            refine (((S8.stay local_Blk (w' := w8.setCell ⟨W.heap.size + 2, 3, none⟩ (.slice q8 (i + 1) c8)) (fun m h1 h2 _ => st9 d wo.heap.size (by omega) m h1 h2)).snoc (a := wo.heap.size) (b := wr.heap.size) (Nat.le_refl _) hps (fun g e => ?_) (local_Blk _ _ _ _ _ (st8.trans (st9 _ _ (by omega))) hBO))).up (by omega)
            rcases hm8 with e2 | e2
            · rw [e2] at e; have := (HOBL.out g e).2; omega
            · rw [e2] at e; injection e with e; omega
          have hf8 : (ys ++ [(⟨qc, bs[i].code.length, cc, zs⟩ : LB)]).flatMap blkC = ys.flatMap blkC ++ [.slice qc bs[i].code.length cc] := by rw [List.flatMap_append]; rfl
          refine ⟨⟨i + 1, ys ++ [⟨qc, bs[i].code.length, cc, zs⟩], q8, c8, by omega, by go_num, by simp [hyl], ?_, P9, F8, R8, G9, (HL6.out.stay local_NoOwn st8p).stay local_NoOwn (st9 _ _ (Nat.le_refl _)), by omega, ?_, S9⟩, by simp [intOf]; omega⟩
          · rw [List.map_append, hyd.out, List.take_succ_eq_append_getElem hlt, List.map_append, List.map_singleton, List.map_singleton]
            congr 2 <;> exact hzd.out
          · rw [hf8]
            exact ownsRow_set hown8 (by dsimp only; omega) _
    · obtain rfl : i = bs.length := by omega
      rw [List.take_length] at hyd
      have x0 := G6.get 0 _ rfl
      have x1 := G6.get 1 _ rfl
      have x2 := G6.get 2 _ rfl
      have x3 := G6.get 3 _ rfl
      have r0 := R6.get 0 _ rfl
      have r1 := R6.get 1 _ rfl
      have r2 := R6.get 2 _ rfl
      have r3 := R6.get 3 _ rfl
      have rf := R6.2.1
      go_wp2_with fail
      have R7 := (((R6.set 0 (.string nm)).set 1 (.slice q4 ps.length c4)).set 2 (.int .i64 rt)).set 3 (.slice q bs.length c)
      have e0 := R7.get 0 _ rfl
      have e1 := R7.get 1 _ rfl
      have e2 := R7.get 2 _ rfl
      have e3 := R7.get 3 _ rfl
      have st : ∀ b, Stay (W.heap.size + 3) b wr ((((wr.setCell ⟨W.heap.size + 1, 0, none⟩ (.string nm)).setCell ⟨W.heap.size + 1, 1, none⟩ (.slice q4 ps.length c4)).setCell ⟨W.heap.size + 1, 2, none⟩ (.int .i64 rt)).setCell ⟨W.heap.size + 1, 3, none⟩ (.slice q bs.length c)) :=
        fun b k h1 h2 => (Below.heap_setCell _ _ _ _ (by dsimp only; omega)).trans ((Below.heap_setCell _ _ _ _ (by dsimp only; omega)).trans ((Below.heap_setCell _ _ _ _ (by dsimp only; omega)).trans (Below.heap_setCell _ _ _ _ (by dsimp only; omega))))
      have l7 : ((((wr.setCell ⟨W.heap.size + 1, 0, none⟩ (.string nm)).setCell ⟨W.heap.size + 1, 1, none⟩ (.slice q4 ps.length c4)).setCell ⟨W.heap.size + 1, 2, none⟩ (.int .i64 rt)).setCell ⟨W.heap.size + 1, 3, none⟩ (.slice q bs.length c)).heap.size = wr.heap.size := by simp [World.setCell]
      have P7 := (((P6.set (a := ⟨W.heap.size + 1, 0, none⟩) (by dsimp only; omega) (.string nm)).set (a := ⟨W.heap.size + 1, 1, none⟩) (by dsimp only; omega) (.slice q4 ps.length c4)).set (a := ⟨W.heap.size + 1, 2, none⟩) (by dsimp only; omega) (.int .i64 rt)).set (a := ⟨W.heap.size + 1, 3, none⟩) (by dsimp only; omega) (.slice q bs.length c)
      have LB6 : ListOwn 43 1 blkC BlkOwn d wr.heap.size wr q bs.length c ys := own_intro hyl.symm ho6 rfl hs6
      refine bodyPost_ret (v := .agg #[.string nm, .slice q4 ps.length c4, .int .i64 rt, .slice q bs.length c]) (by simp [results, Try.results7, go_sem, e0, e1, e2, e3]) rfl ⟨⟨nm, q4, ps.length, c4, ps, rt, q, bs.length, c, ys⟩, rfl, by unfold fnD; rw [hyd], P7, d, ?_, ?_⟩
      · obtain ⟨o1, o2, o3, o4⟩ := L6.stay local_NoOwn (st d)
        exact ⟨o1, o2.mono (by omega), o3, o4.down (by omega)⟩
      · rw [l7]
        exact LB6.stay local_Blk ((st wr.heap.size).mono (by omega) (Nat.le_refl _))
end Go.Proofs.Ytdfdgpobohpphaa
