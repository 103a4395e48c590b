/- Package ir: Def, for any function. -/
import Derived.Test.YtpfeiolmkbibiaaIrF
namespace Go.Proofs.Ytpfeiolmkbibiaa
open Go.RowKit
set_option linter.unusedVariables false
set_option linter.unusedSimpArgs false

/-- Is a place ahead of another one? -/
def before (b' k' b k : Nat) : Prop := b' < b ∨ (b' = b ∧ k' < k)
/-- Is the register made there? -/
def hit (reg : Int) (l : List (List Ins)) (b k : Nat) : Prop := ∃ c d, l[b]? = some c ∧ c[k]? = some d ∧ mk reg d = true
/-- What has been found ahead of a place: the first that makes the register, if there is one. -/
def DefS (l : List (List Ins)) (reg : Int) (b k : Nat) (f : Bool) (y z : Int) : Prop :=
  (f = false ∧ y = 0 ∧ z = 0 ∧ ∀ b' k', before b' k' b k → ¬ hit reg l b' k') ∨
  (f = true ∧ ∃ b' k' : Nat, y = b' ∧ z = k' ∧ before b' k' b k ∧ hit reg l b' k' ∧ ∀ b2 k2, before b2 k2 b' k' → ¬ hit reg l b2 k2)
theorem DefS.start (l : List (List Ins)) (reg : Int) : DefS l reg 0 0 false 0 0 := .inl ⟨rfl, rfl, rfl, fun b' k' h => by rcases h with h | ⟨_, h⟩ <;> exact absurd h (Nat.not_lt_zero _)⟩
theorem DefS.next {l : List (List Ins)} {reg : Int} {b : Nat} (h : b < l.length) {f : Bool} {y z : Int} (hd : DefS l reg b l[b].length f y z) : DefS l reg (b + 1) 0 f y z := by
  rcases hd with ⟨hf, hy, hz, hn⟩ | ⟨hf, b', k', hy, hz, hb, hh, hn⟩
  · refine .inl ⟨hf, hy, hz, fun b' k' hb hh => ?_⟩
    obtain ⟨c, d, h1, h2, h3⟩ := hh
    refine hn b' k' ?_ ⟨c, d, h1, h2, h3⟩
    rcases hb with hb | ⟨_, hb⟩
    · by_cases e : b' = b
      · subst e
        rw [List.getElem?_eq_getElem h] at h1
        obtain rfl := Option.some.inj h1
        exact .inr ⟨rfl, (List.getElem?_eq_some_iff.1 h2).1⟩
      · exact .inl (by omega)
    · exact absurd hb (Nat.not_lt_zero _)
  · refine .inr ⟨hf, b', k', hy, hz, ?_, hh, hn⟩
    rcases hb with hb | ⟨rfl, _⟩
    · exact .inl (by omega)
    · exact .inl (by omega)
theorem DefS.step {l : List (List Ins)} {reg : Int} {b k : Nat} (h : b < l.length) (hk : k < l[b].length) {f : Bool} {y z : Int} (hd : DefS l reg b k f y z) :
    DefS l reg b (k + 1) (f || mk reg l[b][k]) (if !f && mk reg l[b][k] then b else y) (if !f && mk reg l[b][k] then k else z) := by
  rcases hd with ⟨rfl, rfl, rfl, hn⟩ | ⟨rfl, b', k', hy, hz, hb, hh, hn⟩
  · cases hm : mk reg l[b][k]
    · refine .inl ⟨rfl, rfl, rfl, fun b' k' hb hh => ?_⟩
      rcases hb with hb | ⟨rfl, hb⟩
      · exact hn b' k' (.inl hb) hh
      · by_cases e : k' = k
        · subst e
          obtain ⟨c, d, h1, h2, h3⟩ := hh
          rw [List.getElem?_eq_getElem h] at h1
          obtain rfl := Option.some.inj h1
          rw [List.getElem?_eq_getElem hk] at h2
          obtain rfl := Option.some.inj h2
          rw [hm] at h3
          exact absurd h3 (by decide)
        · exact hn _ _ (.inr ⟨rfl, by omega⟩) hh
    · exact .inr ⟨rfl, b, k, rfl, rfl, .inr ⟨rfl, by omega⟩, ⟨l[b], l[b][k], List.getElem?_eq_getElem h, List.getElem?_eq_getElem hk, hm⟩, hn⟩
  · refine .inr ⟨rfl, b', k', hy, hz, ?_, hh, hn⟩
    rcases hb with hb | ⟨rfl, hb⟩
    · exact .inl hb
    · exact .inr ⟨rfl, by omega⟩

theorem CodeAt.mono {B B' : Nat} {w : World} {s : Value} {l : List Ins} (h : CodeAt B w s l) (hB : B ≤ B') : CodeAt B' w s l := by
  obtain ⟨p, cap, h1, h2, h3, h4⟩ := h
  refine ⟨p, cap, h1, h2, h3, fun i hi => ?_⟩
  obtain ⟨a, e, ha, hI⟩ := h4 i hi
  exact ⟨a, e, Nat.lt_of_lt_of_le ha hB, hI⟩
theorem BlocksAt.mono {B B' : Nat} {w : World} {s : Value} {l : List (List Ins)} (h : BlocksAt B w s l) (hB : B ≤ B') : BlocksAt B' w s l := by
  obtain ⟨p, cap, h1, h2, h3, h4⟩ := h
  refine ⟨p, cap, h1, h2, h3, fun i hi => ?_⟩
  obtain ⟨a, v, e, ha, hc, hI⟩ := h4 i hi
  exact ⟨a, v, e, Nat.lt_of_lt_of_le ha hB, hc, hI.mono hB⟩
theorem One.newAt {B c : Nat} (w : World) (hB : B ≤ c) (hc : c = w.heap.size) (v : Value) (t : TypeId) : One B c v (w.alloc (.cells #[v] t)) := by subst hc; exact One.new w hB v t
theorem Tri.newAt {B c : Nat} (w : World) (hB : B ≤ c) (hc : c = w.heap.size) (x y z : Value) (t : TypeId) : Tri B c x y z (w.alloc (.cells #[x, y, z] t)) := by subst hc; exact Tri.new w hB x y z t
theorem Tri.below {B B' g : Nat} {x y z : Value} {W w : World} (h : Tri B g x y z W) (hb : Below B' W w) (hg : g < B') : Tri B g x y z w := by
  obtain ⟨h0, h1, h2, h3, h4, h5⟩ := h
  exact ⟨h0, Nat.lt_of_lt_of_le h1 hb.size, (hb.cell (p := ⟨g, 0, none⟩) hg).trans h2, (hb.cell (p := ⟨g, 1, none⟩) hg).trans h3, (hb.cell (p := ⟨g, 2, none⟩) hg).trans h4, fun i => (hb.frozen (p := ⟨g, i, none⟩) hg).trans (h5 i)⟩
theorem enters_d : ∀ (args : Array Value) (w : World), (callFunc 52 args).run Try.prog w = .ok (.enter 52 args) w := fun _ _ => rfl
/-- How Def ends. -/
def DefEnds (B : Nat) (l : List (List Ins)) (reg : Int) (W : World) (e : Ending) (w' : World) : Prop :=
  ∃ (f : Bool) (y z : Int), DefS l reg l.length 0 f y z ∧ e = .returned (.tuple #[.agg #[.int .i64 0, .int .i64 y, .int .i64 z], .bool f]) ∧ Below B W w'

set_option maxHeartbeats 2000000 in
theorem Def_any (B : Nat) (l : List (List Ins)) (W : World) (rt reg : Int) (s0 : ByteArray) (p1 : Option Addr) (n1 c1 : Nat) (p2 : Option Addr) (n2 c2 : Nat) (hB : B ≤ W.heap.size) (hl : BlocksAt B W (.slice p2 n2 c2) l) :
    Calls Try.prog 26 #[.agg #[.string s0, .slice p1 n1 c1, .int .i64 rt, .slice p2 n2 c2], .int .i64 reg] W (DefEnds B l reg W) := by
  have hmf : ∀ (fn : Fn) (first cap : Array Value) (w : World), (Instr.makeFunc fn first cap).run Try.prog w = .ok (.func fn first cap) w := fun _ _ _ _ => rfl
  go_enter Try.func26, Try.ntmps26
  go_wp2_with fail
  have hP : Past B W (((((W.alloc (.cells #[.string s0, .slice p1 n1 c1, .int .i64 rt, .slice p2 n2 c2] 41)).alloc (.cells #[.int .i64 reg] 3)).alloc (.cells #[.int .i64 0, .int .i64 0, .int .i64 0] 47)).alloc (.cells #[.int .i64 0, .int .i64 0, .int .i64 0] 47)).alloc (.cells #[.bool false] 4)) := (((((Past.refl hB).alloc _).alloc _).alloc _).alloc _).alloc _
  have hl2 := (hl.below hP.2).mono (show B ≤ W.heap.size + 3 by omega)
  have hsz : W.heap.size + 3 ≤ (((((W.alloc (.cells #[.string s0, .slice p1 n1 c1, .int .i64 rt, .slice p2 n2 c2] 41)).alloc (.cells #[.int .i64 reg] 3)).alloc (.cells #[.int .i64 0, .int .i64 0, .int .i64 0] 47)).alloc (.cells #[.int .i64 0, .int .i64 0, .int .i64 0] 47)).alloc (.cells #[.bool false] 4)).heap.size := by simp
  have oR : One 0 (W.heap.size + 1) (.int .i64 reg) (((((W.alloc (.cells #[.string s0, .slice p1 n1 c1, .int .i64 rt, .slice p2 n2 c2] 41)).alloc (.cells #[.int .i64 reg] 3)).alloc (.cells #[.int .i64 0, .int .i64 0, .int .i64 0] 47)).alloc (.cells #[.int .i64 0, .int .i64 0, .int .i64 0] 47)).alloc (.cells #[.bool false] 4)) := ((((One.newAt _ (Nat.zero_le _) (by simp) _ _).alloc _ _).alloc _ _).alloc _ _)
  have tR : Tri 0 (W.heap.size + 1 + 1) (.int .i64 0) (.int .i64 0) (.int .i64 0) (((((W.alloc (.cells #[.string s0, .slice p1 n1 c1, .int .i64 rt, .slice p2 n2 c2] 41)).alloc (.cells #[.int .i64 reg] 3)).alloc (.cells #[.int .i64 0, .int .i64 0, .int .i64 0] 47)).alloc (.cells #[.int .i64 0, .int .i64 0, .int .i64 0] 47)).alloc (.cells #[.bool false] 4)) := (((Tri.newAt _ (Nat.zero_le _) (by simp) _ _ _ _).alloc _ _).alloc _ _)
  have tP : Tri (W.heap.size + 3) (W.heap.size + 1 + 1 + 1) (.int .i64 0) (.int .i64 0) (.int .i64 0) (((((W.alloc (.cells #[.string s0, .slice p1 n1 c1, .int .i64 rt, .slice p2 n2 c2] 41)).alloc (.cells #[.int .i64 reg] 3)).alloc (.cells #[.int .i64 0, .int .i64 0, .int .i64 0] 47)).alloc (.cells #[.int .i64 0, .int .i64 0, .int .i64 0] 47)).alloc (.cells #[.bool false] 4)) := ((Tri.newAt _ (by omega) (by simp) _ _ _ _).alloc _ _)
  have oF : One (W.heap.size + 3) (W.heap.size + 1 + 1 + 1 + 1) (.bool false) (((((W.alloc (.cells #[.string s0, .slice p1 n1 c1, .int .i64 rt, .slice p2 n2 c2] 41)).alloc (.cells #[.int .i64 reg] 3)).alloc (.cells #[.int .i64 0, .int .i64 0, .int .i64 0] 47)).alloc (.cells #[.int .i64 0, .int .i64 0, .int .i64 0] 47)).alloc (.cells #[.bool false] 4)) := One.newAt _ (by omega) (by simp) _ _
  generalize hW5 : (((((W.alloc (.cells #[.string s0, .slice p1 n1 c1, .int .i64 rt, .slice p2 n2 c2] 41)).alloc (.cells #[.int .i64 reg] 3)).alloc (.cells #[.int .i64 0, .int .i64 0, .int .i64 0] 47)).alloc (.cells #[.int .i64 0, .int .i64 0, .int .i64 0] 47)).alloc (.cells #[.bool false] 4)) = W5 at *
  clear hW5
  have he := each_any (W.heap.size + 3) l W5 (.string s0) (.slice p1 n1 c1) (.int .i64 rt) _ hsz hl2 52 #[.pointer (some ⟨W.heap.size + 1 + 1 + 1 + 1, 0, none⟩), .pointer (some ⟨W.heap.size + 1, 0, none⟩), .pointer (some ⟨W.heap.size + 1 + 1 + 1, 0, none⟩)]
    (fun b k w => ∃ (f : Bool) (y z : Int), DefS l reg b k f y z ∧ One 0 (W.heap.size + 1) (.int .i64 reg) w ∧ One (W.heap.size + 3) (W.heap.size + 1 + 1 + 1 + 1) (.bool f) w ∧ Tri (W.heap.size + 3) (W.heap.size + 1 + 1 + 1) (.int .i64 0) (.int .i64 y) (.int .i64 z) w) enters_d
    ⟨false, 0, 0, DefS.start l reg, oR, oF, tP⟩ (fun b h w ⟨f, y, z, hd, h1, h2, h3⟩ => ⟨f, y, z, hd.next h, h1, h2, h3⟩) (fun b k w c t hw ⟨f, y, z, hd, h1, h2, h3⟩ => ⟨f, y, z, hd, h1.alloc _ _, h2.alloc _ _, h3.alloc _ _⟩)
    (fun b k hb hk w hB ⟨f, y, z, hd, h1, h2, h3⟩ => by
      refine (def1_any _ _ _ _ f 0 y z 0 b k reg l[b][k] w hB h2 h1 h3 (by omega) (by omega) (by omega)).mono fun e w' ⟨g0, g1, g2, g3, g4⟩ => ⟨g0, g1, _, _, _, hd.step hb hk, g2, g3, ?_⟩
      rw [ite_self] at g4
      exact g4)
  refine he.mono ?_
  rintro e w2 ⟨rfl, hb2, f, y, z, hd, h1, h2, h3⟩
  have hr2 := tR.below hb2 (by omega)
  have HD := Lib.hid hd
  clear he hd tR tP oF oR hl2
  obtain ⟨f0, f1, f2, f3⟩ := id h2
  obtain ⟨t0, t1, t2, t3, t4, t5⟩ := id h3
  obtain ⟨r0, r1, r2, r3, r4, r5⟩ := id hr2
  have hPw : Past B W w2 := ⟨hP.1, hP.2.trans (hb2.mono (by omega))⟩
  have hR := hr2.set (.int .i64 0) (.int .i64 y) (.int .i64 z)
  obtain ⟨v0, v1, v2, v3, v4, v5⟩ := id hR
  go_wp2
  go_region
  all_goals (try go_wp2)
  all_goals
    refine bodyPost_ret (v := .tuple #[.agg #[.int .i64 0, .int .i64 y, .int .i64 z], .bool f]) (by simp [results, Try.results26, go_sem, r2, r3, r4]) rfl ⟨f, y, z, HD.out, rfl, Past.below ?_⟩
    repeat (first | (with_reducible assumption) | (with_reducible apply Past.drew) | (with_reducible apply Past.set (ha := (by dsimp only; omega))))
end Go.Proofs.Ytpfeiolmkbibiaa
