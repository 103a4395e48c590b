/- Package ir: Fresh, for any function. -/
import Derived.Test.YtpfeiolmkbibiaaIrH
namespace Go.Proofs.Ytpfeiolmkbibiaa
open Go.RowKit Go.Maps
set_option linter.unusedVariables false
set_option linter.unusedSimpArgs false

/-- All registers that instructions name. -/
def nmL (l : List Ins) : List Int := l.flatMap nmI
def cnt (l : List Ins) : Nat := l.length + argsNum l
theorem nmL_snoc (l : List Ins) (d : Ins) : nmL (l ++ [d]) = nmL l ++ nmI d := by unfold nmL; rw [List.flatMap_append]; simp
theorem cnt_snoc (l : List Ins) (d : Ins) : cnt (l ++ [d]) = cnt l + 1 + d.args.length := by unfold cnt; rw [argsNum_snoc, List.length_append]; simp; omega
theorem nmL_le (l : List Ins) : (nmL l).length ≤ cnt l := by
  induction l with
  | nil => exact Nat.le_refl _
  | cons d l ih =>
    have h1 : (nmA d.args).length ≤ d.args.length := by unfold nmA; rw [List.length_map]; exact List.length_filter_le _ _
    have e : nmL (d :: l) = nmI d ++ nmL l := rfl
    have e2 : cnt (d :: l) = cnt l + 1 + d.args.length := by unfold cnt argsNum; simp; omega
    rw [e, e2, List.length_append]
    unfold nmI
    simp only [List.length_cons]
    omega
theorem pigeon (L : List Int) (n : Int) (j : Nat) (h : ∀ i : Nat, i < j → L.contains (n + i) = true) : j ≤ L.length := by
  induction j generalizing L with
  | zero => exact Nat.zero_le _
  | succ j ih =>
    have h1 : (n + j) ∈ L := by have := h j (Nat.lt_succ_self j); simpa using this
    have h2 : (L.filter (fun x => x != n + j)).length < L.length := List.length_filter_lt_length_iff_exists.2 ⟨n + j, h1, by simp⟩
    have h3 := ih (L.filter (fun x => x != n + j)) (fun i hi => by
      have h4 : (n + i) ∈ L := by have := h i (Nat.lt_succ_of_lt hi); simpa using this
      have : (n + i) ∈ L.filter (fun x => x != n + j) := List.mem_filter.2 ⟨h4, by simp; omega⟩
      simpa using this)
    omega

theorem ArgsAt.mono {B B' : Nat} {w : World} {d : Ins} (h : ArgsAt B w d) (hB : B ≤ B') : ArgsAt B' w d := by
  obtain ⟨h1, h2, h3, h4⟩ := h
  refine ⟨h1, h2, h3, fun i hi => ?_⟩
  obtain ⟨a, e, ha, hI⟩ := h4 i hi
  exact ⟨a, e, Nat.lt_of_lt_of_le ha hB, hI⟩
/-- How Fresh ends: with the least number from n on that nobody names. -/
def FreshEnds (B : Nat) (n : Nat) (L : List Int) (W : World) (e : Ending) (w' : World) : Prop :=
  ∃ j : Nat, e = .returned (.int .i64 (n + j)) ∧ L.contains ((n : Int) + j) = false ∧ (∀ i : Nat, i < j → L.contains ((n : Int) + i) = true) ∧ Below B W w'

set_option maxRecDepth 100000 in
set_option maxHeartbeats 2000000 in
theorem Fresh_any (B : Nat) (l : List (List Ins)) (W : World) (rt : Int) (s0 : ByteArray) (p1 : Option Addr) (n1 c1 : Nat) (p2 : Option Addr) (n2 c2 : Nat) (hB : B ≤ W.heap.size) (hl : BlocksAt B W (.slice p2 n2 c2) l) (ha : AllArgs B W l)
    (wr : ∀ b (h : b < l.length) k (hk : k < l[b].length), (Lit.int .i64 l[b][k].reg).wf = true) (wa : ∀ b (h : b < l.length) k (hk : k < l[b].length) i (hi : i < l[b][k].args.length), (Lit.int .i64 l[b][k].args[i].n).wf = true)
    (hT : cnt l.flatten < 4611686018427387904) (hn : n1 < 4611686018427387904) :
    Calls Try.prog 29 #[.agg #[.string s0, .slice p1 n1 c1, .int .i64 rt, .slice p2 n2 c2]] W (FreshEnds B n1 (nmL l.flatten) W) := by
  have hmf : ∀ (fn : Fn) (first cap : Array Value) (w : World), (Instr.makeFunc fn first cap).run Try.prog w = .ok (.func fn first cap) w := fun _ _ _ _ => rfl
  have hmm := @run_makeMap Try.prog
  have HT := Lib.hid hT
  have HN := Lib.hid hn
  have WR := Lib.hid wr
  have WA := Lib.hid wa
  clear hT hn wr wa
  go_enter Try.func29, Try.ntmps29
  go_wp2_with fail
  have hP : Past B W (((W.alloc (.cells #[.string s0, .slice p1 n1 c1, .int .i64 rt, .slice p2 n2 c2] 41)).alloc (.map #[] 0)).alloc (.cells #[.map (some (W.heap.size + 1))] 83)) := (((Past.refl hB).alloc _).alloc _).alloc _
  have hl2 := (hl.below hP.2).mono (show B ≤ W.heap.size + 1 by omega)
  have ha2 : AllArgs (W.heap.size + 1) (((W.alloc (.cells #[.string s0, .slice p1 n1 c1, .int .i64 rt, .slice p2 n2 c2] 41)).alloc (.map #[] 0)).alloc (.cells #[.map (some (W.heap.size + 1))] 83)) l := fun b h k hk => (ha.below hP.2 b h k hk).mono (by omega)
  have hsz : W.heap.size + 1 ≤ (((W.alloc (.cells #[.string s0, .slice p1 n1 c1, .int .i64 rt, .slice p2 n2 c2] 41)).alloc (.map #[] 0)).alloc (.cells #[.map (some (W.heap.size + 1))] 83)).heap.size := by simp
  have o0 : One (W.heap.size + 1) (W.heap.size + 1 + 1) (.map (some (W.heap.size + 1))) (((W.alloc (.cells #[.string s0, .slice p1 n1 c1, .int .i64 rt, .slice p2 n2 c2] 41)).alloc (.map #[] 0)).alloc (.cells #[.map (some (W.heap.size + 1))] 83)) := One.newAt _ (by omega) (by simp) _ _
  have m0 : (((W.alloc (.cells #[.string s0, .slice p1 n1 c1, .int .i64 rt, .slice p2 n2 c2] 41)).alloc (.map #[] 0)).alloc (.cells #[.map (some (W.heap.size + 1))] 83)).ownsMap Try.prog 3 unitElem (W.heap.size + 1) 0 (S []) := by
    have h := World.ownsMap_made (H := Unit) (W.alloc (.cells #[.string s0, .slice p1 n1 c1, .int .i64 rt, .slice p2 n2 c2] 41)) Try.prog 3 unitElem
    have e : (W.alloc (.cells #[.string s0, .slice p1 n1 c1, .int .i64 rt, .slice p2 n2 c2] 41)).heap.size = W.heap.size + 1 := by simp
    rw [e] at h
    exact h.alloc _
  have g0 : (((W.alloc (.cells #[.string s0, .slice p1 n1 c1, .int .i64 rt, .slice p2 n2 c2] 41)).alloc (.map #[] 0)).alloc (.cells #[.map (some (W.heap.size + 1))] 83)).cell? ⟨W.heap.size, 1, none⟩ = some (.slice p1 n1 c1) := by
    rw [World.cell?_alloc_past _ _ _ (by simp; omega), World.cell?_alloc_past _ _ _ (by simp), World.cell?_alloc_at _ _ _ _ rfl]; rfl
  generalize hW3 : (((W.alloc (.cells #[.string s0, .slice p1 n1 c1, .int .i64 rt, .slice p2 n2 c2] 41)).alloc (.map #[] 0)).alloc (.cells #[.map (some (W.heap.size + 1))] 83)) = W3 at *
  clear hW3
  have he := each_any (W.heap.size + 1) l W3 (.string s0) (.slice p1 n1 c1) (.int .i64 rt) _ hsz hl2 54 #[.pointer (some ⟨W.heap.size + 1 + 1, 0, none⟩)]
    (fun b k w => AllArgs (W.heap.size + 1) w l ∧ One (W.heap.size + 1) (W.heap.size + 1 + 1) (.map (some (W.heap.size + 1))) w ∧ w.ownsMap Try.prog 3 unitElem (W.heap.size + 1) (cnt (ahead l b k)) (S (nmL (ahead l b k)))) enters_f
    ⟨ha2, o0, by rw [ahead_0]; exact m0⟩ (fun b h w ⟨hA, h1, h2⟩ => ⟨hA, h1, by rw [ahead_next l b h]; exact h2⟩) (fun b k w c t hw ⟨hA, h1, h2⟩ => ⟨hA.below ((Past.refl hw).alloc _).2, h1.alloc _ _, h2.alloc _⟩)
    (fun b k hb hk w hB ⟨hA, h1, h2⟩ => by
      obtain ⟨m, hm⟩ := ahead_split l b k hb hk
      have hc : cnt l.flatten = cnt (ahead l b k) + (1 + l[b][k].args.length + cnt m) := by
        rw [hm]; unfold cnt; rw [argsNum_app, argsNum_app]; simp [argsNum]; omega
      have := HT.out
      rw [ahead_succ l b k hb hk, nmL_snoc, cnt_snoc]
      refine (fresh1_any _ _ _ _ (nmL (ahead l b k)) _ _ _ l[b][k] w hB h1 h2 (Nat.le_refl _) (by omega) (hA b hb k hk) (WR.out b hb k hk) (WA.out b hb k hk) (by omega)).mono fun e w' ⟨g0, g1, g2, g3⟩ => ⟨g0, g1, hA.below g1, g2, g3⟩)
  refine he.mono ?_
  rintro e w2 ⟨rfl, hb2, -, h1, h2⟩
  rw [ahead_all] at h2
  have hP2 : Past B W w2 := ⟨hP.1, hP.2.trans (hb2.mono (by omega))⟩
  have g1 := (hb2.cell (p := ⟨W.heap.size, 1, none⟩) (Nat.lt_succ_self _)).trans g0
  have hL := nmL_le l.flatten
  have HL : Hid ((nmL l.flatten).length < 4611686018427387904) := Lib.hid (by have := HT.out; omega)
  generalize nmL l.flatten = L at *
  generalize cnt l.flatten = C at *
  clear he g0 o0 m0 hl2 ha2 hL HT hl ha
  obtain ⟨f0, f1, f2, f3⟩ := id h1
  go_wp2_with fail
  go_loopw [4] (fun t wr => ∃ j : Nat, t = .int .i64 ((n1 : Int) + j) ∧ j ≤ L.length ∧ Hid (∀ i : Nat, i < j → L.contains ((n1 : Int) + i) = true) ∧ Past B W wr ∧ One (W.heap.size + 1) (W.heap.size + 1 + 1) (.map (some (W.heap.size + 1))) wr ∧ wr.ownsMap Try.prog 3 unitElem (W.heap.size + 1) C (S L))
    (fun t _ => L.length + 1 - (intOf t - (n1 : Int)).toNat)
  case atStart => exact ⟨0, by simp, Nat.zero_le _, Lib.hid (fun i hi => absurd hi (Nat.not_lt_zero i)), hP2, h1, h2⟩
  case round =>
    obtain ⟨j, rfl, hj, hall, hb, ho, hown⟩ := hrel
    obtain ⟨q0, q1, q2, q3⟩ := id ho
    have hwf : (Lit.int .i64 ((n1 : Int) + j)).wf = true := by
      have := HL.out; have := HN.out
      simp [Lit.wf, IntKind.min, IntKind.max, IntKind.signed, IntKind.bits]; omega
    have ch := fun w (hm : w.ownsMap Try.prog 3 unitElem (W.heap.size + 1) C (S L)) => has_any (W.heap.size + 1) C L ((n1 : Int) + j) w hm hwf
    have u1 : (n1 : Int) + j < 9223372036854775807 := by have := HL.out; have := HN.out; omega
    have u0 : 0 ≤ (n1 : Int) + j := by omega
    cases hc : L.contains ((n1 : Int) + j)
    · have cf := ch wr hown
      rw [hc] at cf
      have HC := Lib.hid hc
      clear hc ch hwf
      go_wp2_with ((with_reducible refine cf.mono ?_); rintro e w' ⟨rfl, rfl⟩)
      go_ret
      exact ⟨j, rfl, HC.out, hall.out, (hb.alloc _).2⟩
    · have cf := ch wr hown
      rw [hc] at cf
      have hall2 : ∀ i : Nat, i < j + 1 → L.contains ((n1 : Int) + i) = true := fun i hi => by
        by_cases e : i = j
        · subst e; exact hc
        · exact hall.out i (by omega)
      have hj2 := pigeon L n1 (j + 1) hall2
      have HA2 := Lib.hid hall2
      clear hc ch hwf hall2 hall
      go_wp2_with ((with_reducible refine cf.mono ?_); rintro e w' ⟨rfl, rfl⟩)
      exact ⟨⟨j + 1, by rw [Int.natCast_add]; simp; omega, hj2, HA2, hb.alloc _, ho.alloc _ _, hown.alloc _⟩, by simp [intOf]; omega⟩
end Go.Proofs.Ytpfeiolmkbibiaa
