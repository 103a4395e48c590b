/- Lists, where the rest of the law's package is not at hand. -/
import Derived.Test.YtphdhndljgihmaaVReach
namespace Go.Proofs.Ytphdhndljgihmaa
open Go.RowKit Go.Maps
set_option linter.unusedVariables false
set_option linter.unusedSimpArgs false

theorem own_in {w : World} {B c : Nat} {p : Option Addr} {xs : List Int} (h : w.ownsRow B 3 1 (.slice p xs.length c) xs.length (xs.flatMap intC)) : ListIn intC NoMem w.heap.size w p xs.length c xs := by
  have h2 : ListOwn 3 1 intC NoOwn 0 w.heap.size w p xs.length c xs := ⟨rfl, h.mono (Nat.zero_le _), fun g e => (h.lt g e).2, spread_NoOwn (Nat.zero_le _) _⟩
  exact ints_in h2 (Nat.le_refl _)
set_option maxRecDepth 100000 in
set_option maxHeartbeats 1000000 in
theorem Lists_same (R1 R2 n : Nat) (vs1 vs2 : Nat → Value) (M : Nat → List Int) (W : World) (h1 : LL R1 n vs1 M W) (h2 : LL R2 n vs2 M W) (hn : n ≤ 1048576) :
    Calls Try.prog 20 #[.slice (some ⟨R1, 0, none⟩) n n, .slice (some ⟨R2, 0, none⟩) n n] W fun e w' => e = .returned (.bool true) ∧ Below W.heap.size W w' := by
  have H := Lib.hid (And.intro h1 h2)
  clear h1 h2
  go_enter Try.func20, Try.ntmps20
  go_wp2_with fail
  go_loopw [13] (fun t wr => ∃ i : Nat, i ≤ n ∧ t = .int .i64 i ∧ Below W.heap.size W wr) (fun t _ => n - (intOf t).toNat)
  case atStart => exact ⟨0, Nat.zero_le _, rfl, Below.refl _ _⟩
  case round =>
    obtain ⟨i, hin, rfl, hb⟩ := hrel
    by_cases hlt : i < n
    · have l1 := H.out.1.later hb
      have l2 := H.out.2.later hb
      have c1 := l1.row.cell hlt
      have c2 := l2.row.cell hlt
      obtain ⟨q1, k1, e1⟩ := l1.slice hlt
      obtain ⟨q2, k2, e2⟩ := l2.slice hlt
      have o1 := l1.own i hlt
      have o2 := l2.own i hlt
      rw [e1] at c1 o1
      rw [e2] at c2 o2
      have i1 : ListIn intC NoMem wr.drew.heap.size wr.drew q1 (M i).length k1 (M i) := own_in o1
      have i2 : ListIn intC NoMem wr.drew.heap.size wr.drew q2 (M i).length k2 (M i) := own_in o2
      have cI := Ints_any wr.drew q1 q2 (M i).length (M i).length k1 k2 (M i) (M i) i1 i2
      have HB := Lib.hid hb
      clear hb l1 l2 o1 o2 i1 i2 e1 e2
      obtain ⟨Mi, eM⟩ : ∃ Mi, M i = Mi := ⟨_, rfl⟩
      simp only [eM] at c1 c2 cI
      clear eM
      go_wp2_with fail
      go_region_held3 (fun w' => w'.cell? ⟨R1, i, none⟩ = some (.slice q1 Mi.length k1) ∧ w'.cell? ⟨R2, i, none⟩ = some (.slice q2 Mi.length k2))
        (((try dsimp only); (repeat' apply And.intro) <;> (first | (with_reducible assumption) | (rw [World.cell?_drew]; with_reducible assumption))))
        (first
          | ((with_reducible refine cI.mono ?_)
             rintro e w5 ⟨bo, rfl, hbo, hb5⟩
             obtain rfl : bo = true := hbo.2 (by trivial)
             have k0 := (hb5.cell (p := ⟨R1, i, none⟩) (by rw [World.size_drew]; exact Nat.lt_of_lt_of_le H.out.1.row.lt HB.out.size)).trans ((World.cell?_drew wr ⟨R1, i, none⟩).trans c1)
             have k1 := (hb5.cell (p := ⟨R2, i, none⟩) (by rw [World.size_drew]; exact Nat.lt_of_lt_of_le H.out.2.row.lt HB.out.size)).trans ((World.cell?_drew wr ⟨R2, i, none⟩).trans c2)
             have H5 := Lib.hid hb5
             clear hbo hb5))
      all_goals
        go_wp2_with fail
        exact ⟨⟨i + 1, by omega, by go_num, HB.out.trans ((below_drew (Below.refl _ _)).trans (H5.out.mono HB.out.size))⟩, by simp [intOf]; omega⟩
    · obtain rfl : i = n := by omega
      have HB := Lib.hid hb
      clear hb
      go_wp2_with fail
      go_ret
      exact ⟨rfl, HB.out⟩
end Go.Proofs.Ytphdhndljgihmaa
