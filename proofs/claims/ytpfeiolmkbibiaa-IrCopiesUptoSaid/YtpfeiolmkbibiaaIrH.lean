/- Package ir: Fresh. -/
import Derived.Test.YtpfeiolmkbibiaaIrG
import Derived.Maps.OwnSet
import Derived.LoopN
namespace Go.Proofs.Ytpfeiolmkbibiaa
open Go.RowKit Go.Maps
set_option linter.unusedVariables false
set_option linter.unusedSimpArgs false

theorem lawK : Keyed Try.prog 3 := int_keyed Try.underlying3
theorem zeroS (w : World) : (zeroValue 84).run Try.prog w = .ok (.agg #[]) w := by kernel_rfl
theorem buildS (w : World) : (Instr.build 84 #[]).run Try.prog w = .ok (.agg #[]) w := run_build _ _ _ _ (by kernel_rfl)

theorem Past.grown {B m : Nat} {W w w' : World} (h : Past B W w) (g : w.grownBy w' (some m)) (hm : B ≤ m) : Past B W w' := ⟨h.1, h.2.grown g h.size (fun j hj => by cases hj; exact hm)⟩
theorem One.grown {B c m : Nat} {v : Value} {w w' : World} (h : One B c v w) (g : w.grownBy w' (some m)) (hm : c ≠ m) : One B c v w' := by
  obtain ⟨h1, h2, h3, h4⟩ := h
  obtain ⟨_, _, _, hs, hk⟩ := g
  have hb := hk c h2 (fun e => hm (by injection e))
  refine ⟨h1, Nat.lt_of_lt_of_le h2 hs, ?_, ?_⟩
  · unfold World.cell? at h3 ⊢; simp only [hb]; exact h3
  · unfold World.frozen? at h4 ⊢; simp only [hb]; exact h4

theorem grown_cell {m c o : Nat} {w w' : World} (g : w.grownBy w' (some m)) (h : c < w.heap.size) (hm : c ≠ m) : w'.cell? ⟨c, o, none⟩ = w.cell? ⟨c, o, none⟩ := by
  obtain ⟨_, _, _, hs, hk⟩ := g
  have hb := hk c h (fun e => hm (by injection e))
  unfold World.cell?
  simp only [hb]
/-- The registers that operands name; those that an instruction names. -/
def nmA (l : List Arg) : List Int := (l.filter fun v => v.kind == 1).map (·.n)
def nmI (d : Ins) : List Int := d.reg :: nmA d.args
theorem nmA_succ (l : List Arg) (k : Nat) (h : k < l.length) : nmA (l.take (k + 1)) = nmA (l.take k) ++ (if l[k].kind == 1 then [l[k].n] else []) := by
  unfold nmA
  rw [List.take_succ_eq_append_getElem h, List.filter_append, List.map_append]
  cases hu : l[k].kind == 1 <;> simp [hu]
/-- The set of some registers. -/
def S (l : List Int) : DataW Unit := setOf (.agg []) (l.map (Lit.int .i64))
theorem S_snoc (l : List Int) (x : Int) : S (l ++ [x]) = (S l).put (.int .i64 x) (.agg []) := by
  unfold S; rw [List.map_append]; exact setOf_snoc _ _ _

set_option maxRecDepth 100000 in
set_option maxHeartbeats 2000000 in
theorem fresh1_any (B v m n0 : Nat) (acc : List Int) (p0 p1 p2 : Int) (d : Ins) (w : World) (hB : B ≤ w.heap.size) (hv : One B v (.map (some m)) w) (hm : w.ownsMap Try.prog 3 unitElem m n0 (S acc)) (hBm : B ≤ m) (hne : v ≠ m)
    (hd : ArgsAt B w d) (wr : (Lit.int .i64 d.reg).wf = true) (wa : ∀ k (h : k < d.args.length), (Lit.int .i64 d.args[k].n).wf = true) (hn : n0 + 1 + d.args.length < 4611686018427387904) :
    Calls Try.prog 54 #[.agg #[.int .i64 p0, .int .i64 p1, .int .i64 p2], d.val, .pointer (some ⟨v, 0, none⟩)] w
      fun e w' => e = .returned (.tuple #[]) ∧ Below B w w' ∧ One B v (.map (some m)) w' ∧ w'.ownsMap Try.prog 3 unitElem m (n0 + 1 + d.args.length) (S (acc ++ nmI d)) := by
  obtain ⟨hal, hac, hmx, hargs⟩ := hd
  unfold maxLen at hmx
  have HA := Lib.hid hargs
  have WA := Lib.hid wa
  obtain ⟨c1, c2, c3, c4⟩ := id hv
  clear hargs wa
  obtain ⟨op, rg, ty, nn, fl, ap, al, ac, tp, tl, tc, args⟩ := d
  simp only [] at *
  subst hal
  unfold Ins.val nmI
  simp only []
  have hml := hm.lt
  have hbs := buildS
  have M0 : Hid (n0 < maxLen) := Lib.hid (by unfold maxLen; omega)
  have HN := Lib.hid hn
  clear hn
  have hkey := keyOf_int_mk Try.underlying3 wr
  go_enter Try.func54, Try.ntmps54
  go_wp2_with (at_mapUpdate; refine wpList_mapUpdate_own _ rfl _ _ _ 83 rfl 3 84 lawK Try.underlying83 (unitElem (H := Unit)) m n0 _ rfl ((hm.alloc _).alloc _) M0.out _ _ _ rfl rfl hkey _ [] unitElem_mk ?_; intro w1 hown1 hgrow1; have g5 : w1.cell? ⟨w.heap.size + 1, 5, none⟩ = some (.slice ap args.length ac) := by rw [grown_cell hgrow1 (by simp) (by omega)]; go_simp)
  have b0 := (((Past.refl hB).alloc (.cells #[.int .i64 p0, .int .i64 p1, .int .i64 p2] 47)).alloc (.cells #[.int .i64 op, .int .i64 rg, .int .i64 ty, .int .i64 nn, .int .i64 fl, .slice ap args.length ac, .slice tp tl tc] 25)).grown hgrow1 hBm
  have o0 := ((hv.alloc #[.int .i64 p0, .int .i64 p1, .int .i64 p2] 47).alloc #[.int .i64 op, .int .i64 rg, .int .i64 ty, .int .i64 nn, .int .i64 fl, .slice ap args.length ac, .slice tp tl tc] 25).grown hgrow1 hne
  have z0 : S (acc ++ (rg :: nmA (args.take 0))) = (S acc).put (.int .i64 rg) (.agg []) := by rw [← S_snoc]; rfl
  rw [← z0] at hown1
  clear z0 g5 hgrow1 c1 c2 c3 c4 hv hm
  go_loopw [14] (fun t wr => ∃ k : Nat, k ≤ args.length ∧ t = .int .i64 k ∧ Past B w wr ∧ One B v (.map (some m)) wr ∧ wr.ownsMap Try.prog 3 unitElem m (n0 + 1 + k) (S (acc ++ (rg :: nmA (args.take k))))) (fun t _ => args.length - (intOf t).toNat)
  case atStart => exact ⟨0, Nat.zero_le _, rfl, b0, o0, hown1⟩
  case round =>
    obtain ⟨k, hk, rfl, hb, ho, hown⟩ := hrel
    by_cases hlt : k < args.length
    · obtain ⟨a, rfl, ha, hat⟩ := HA.out k hlt
      obtain ⟨f0, f1, f2⟩ := hat.below hb.2 (by rw [add_block]; exact ha)
      obtain ⟨c1, c2, c3, c4⟩ := id ho
      have hs := nmA_succ args k hlt
      have hkey2 := keyOf_int_mk Try.underlying3 (WA.out k hlt)
      have M1 : Hid (n0 + 1 + k < maxLen) := Lib.hid (by have := HN.out; unfold maxLen; omega)
      clear hat
      by_cases hK : args[k].kind = 1
      · have hK2 : (args[k].kind == 1) = true := by simpa using hK
        have e2 : S (acc ++ (rg :: nmA (args.take (k + 1)))) = (S (acc ++ (rg :: nmA (args.take k)))).put (.int .i64 args[k].n) (.agg []) := by
          rw [hs, hK2, if_pos rfl, ← S_snoc]; simp
        have E2 := Lib.hid e2
        have HK := Lib.hid hK
        clear hs e2 hK
        go_wp2_with (at_mapUpdate; refine wpList_mapUpdate_own _ rfl _ _ _ 83 rfl 3 84 lawK Try.underlying83 (unitElem (H := Unit)) m (n0 + 1 + k) _ rfl (hown.alloc _) M1.out _ _ _ rfl rfl hkey2 _ [] unitElem_mk ?_; intro w2 hown2 hgrow2)
        refine ⟨⟨k + 1, by omega, by go_num, (hb.alloc _).grown hgrow2 hBm, (ho.alloc _ _).grown hgrow2 hne, ?_⟩, by simp [intOf]; omega⟩
        rw [E2.out]
        exact hown2
      · have hK2 : (args[k].kind == 1) = false := by simpa using hK
        have e2 : nmA (args.take (k + 1)) = nmA (args.take k) := by rw [hs, hK2]; simp
        have E2 := Lib.hid e2
        clear hs e2 hK
        go_wp2
        refine ⟨⟨k + 1, by omega, by go_num, hb.alloc _, ho.alloc _ _, ?_⟩, by simp [intOf]; omega⟩
        rw [E2.out]
        exact (hown.alloc _).mono (by omega)
    · obtain rfl : k = args.length := by omega
      rw [List.take_length] at hown
      go_wp2
      go_end0
      exact ⟨rfl, hb.2, ho, hown⟩

theorem enters_f : ∀ (args : Array Value) (w : World), (callFunc 54 args).run Try.prog w = .ok (.enter 54 args) w := fun _ _ => rfl
theorem has_S (l : List Int) (x : Int) : Maps.has (S l) (.int .i64 x) = l.contains x := by
  unfold S
  rw [has_setOf _ _ _ (by intro y hy; obtain ⟨z, _, rfl⟩ := List.mem_map.1 hy; trivial)]
  induction l with
  | nil => rfl
  | cons y l ih =>
    rw [List.map_cons, List.any_cons, List.contains_cons, ih]
    congr 1
    rw [Bool.eq_iff_iff]
    simp [Lit.sameKey]
    exact eq_comm
theorem has_any (m n : Nat) (l : List Int) (x : Int) (w : World) (hm : w.ownsMap Try.prog 3 unitElem m n (S l)) (wx : (Lit.int .i64 x).wf = true) :
    Calls Try.prog 55 #[.map (some m), .int .i64 x] w fun e w' => e = .returned (.bool (l.contains x)) ∧ w' = w.alloc (.cells #[] 84) := by
  rw [← has_S]
  have hkey := keyOf_int_mk Try.underlying3 wx
  go_enter Try.func55, Try.ntmps55
  go_wp2_with (at_lookup; refine wpList_lookup_own_unit _ rfl _ _ 83 rfl 3 84 lawK Try.underlying83 (zeroS _) m n _ rfl hm _ _ rfl hkey ?_)
  go_ret
  exact ⟨rfl, rfl⟩
end Go.Proofs.Ytpfeiolmkbibiaa
