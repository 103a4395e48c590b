/- For every width and any two numbers: And and Or are each other's mirror under turning all bits, a Xor undoes itself, a sum is the sum of And and Or: lathelaw01.BitsLogic returns true, and leaves its arguments as they were. No conditions. -/
import Derived.Test.YthhdgfhndijmeaaRows
import Derived.WalkKit
import Derived.ProofKit
import Derived.OpenShut
import Derived.Test.YthhdgfhndijmeaaBitsH
namespace Go.Proofs.Ythhdgfhndijmeaa.bitsLogic
open Go.ChangeShapes Go.WideShapes Go.ChangeAt Go.RowKit
set_option linter.unusedVariables false      -- a walk need not use every 'w<i>' (that an integer argument fits its kind)

theorem own : ownKnob Try.prog.godebug = none := by kernel_rfl

theorem not_any (B0 B1 : Nat) (v m x y : Int) (W : World) (h0 : W.cell? ⟨B0, 0, none⟩ = some (.int .i64 v)) (h1 : W.cell? ⟨B1, 0, none⟩ = some (.int .u64 m))
    (c : Gives 24 #[.int .i64 10, .int .i64 v, .int .u64 x, .int .u64 m] (.int .u64 y)) :
    Calls Try.prog 25 #[.int .u64 x, .pointer (some ⟨B0, 0, none⟩), .pointer (some ⟨B1, 0, none⟩)] W fun e w' => e = .returned (.int .u64 y) ∧ ∃ n, w' = W.drewN n := by
  go_enter Try.func25, Try.ntmps25
  go_wp2_with (refine (c.go _).mono ?_; rintro e w' ⟨rfl, n, rfl⟩)
  go_ret
  exact ⟨ret_int rfl, _, rfl⟩
theorem facts (w : World) (a v m : Value) (n k : Nat) :
    let W := ((((w.alloc (.cells #[a] 3)).drewN n).setCell ⟨w.heap.size, 0, none⟩ v).drewN k).alloc (.cells #[m] 22)
    W.cell? ⟨w.heap.size, 0, none⟩ = some v ∧ W.cell? ⟨w.heap.size + 1, 0, none⟩ = some m ∧ Grown w W := by
  refine ⟨?_, ?_, ?_⟩
  · rw [World.cell?_alloc_past _ _ _ (by simp [World.drewN])]
    exact World.cell?_setCell_same' ((w.alloc (.cells #[a] 3)).drewN n) ⟨w.heap.size, 0, none⟩ v (by
      show ((w.alloc (.cells #[a] 3)).cell? ⟨w.heap.size, 0, none⟩).isSome = true
      rw [World.cell?_alloc_at _ _ _ _ rfl]; rfl)
  · rw [World.cell?_alloc_at _ _ _ _ (by simp [World.drewN])]; rfl
  · exact Grown.alloc (grown_drawn (Grown.setCell (a := ⟨w.heap.size, 0, none⟩) (grown_drawn (Grown.alloc (Grown.refl w) _ _) n) (Nat.le_refl _) v) k) _ _
theorem and_add_or (x : Nat) : ∀ y : Nat, (x &&& y) + (x ||| y) = x + y := by
  induction x using Nat.strongRecOn with
  | ind x ih =>
    intro y
    by_cases h0 : x = 0
    · subst h0; simp
    · have h := ih (x / 2) (by omega) (y / 2)
      have e1 : (x &&& y) / 2 = x / 2 &&& y / 2 := Nat.and_div_two
      have e2 : (x ||| y) / 2 = x / 2 ||| y / 2 := Nat.or_div_two
      have e3 := Nat.and_mod_two_eq_one (a := x) (b := y)
      have e4 := Nat.or_mod_two_eq_one (a := x) (b := y)
      omega
theorem demorgan (n x y : Nat) (hx : x < 2 ^ n) (hy : y < 2 ^ n) : (x &&& y) ^^^ (2 ^ n - 1) = (x ^^^ (2 ^ n - 1)) ||| (y ^^^ (2 ^ n - 1)) := by
  apply Nat.eq_of_testBit_eq
  intro i
  simp only [Nat.testBit_xor, Nat.testBit_and, Nat.testBit_or, Nat.testBit_two_pow_sub_one]
  by_cases hi : i < n
  · cases x.testBit i <;> cases y.testBit i <;> simp [hi]
  · have h1 : x.testBit i = false := Nat.testBit_lt_two_pow (Nat.lt_of_lt_of_le hx (Nat.pow_le_pow_right (by decide) (by omega)))
    have h2 : y.testBit i = false := Nat.testBit_lt_two_pow (Nat.lt_of_lt_of_le hy (Nat.pow_le_pow_right (by decide) (by omega)))
    simp [h1, h2, hi]
/-- The three operations bit by bit, of numbers of a width, as natural numbers. -/
theorem reads (n : Nat) (hn : n ≤ 64) (x y : Nat) (hx : x < 2 ^ n) (hy : y < 2 ^ n) :
    (bits .and .u64 (x : Int) (y : Int) = ((x &&& y : Nat) : Int) ∧ bits .or .u64 (x : Int) (y : Int) = ((x ||| y : Nat) : Int) ∧ bits .xor .u64 (x : Int) (y : Int) = ((x ^^^ y : Nat) : Int))
      ∧ x &&& y < 2 ^ n ∧ x ||| y < 2 ^ n ∧ x ^^^ y < 2 ^ n := by
  have h : 2 ^ n ≤ 2 ^ 64 := Nat.pow_le_pow_right (by decide) hn
  exact ⟨⟨u64_and_nat x y (by omega) (by omega), u64_or_nat x y (by omega) (by omega), u64_xor_nat x y (by omega) (by omega)⟩, Nat.and_lt_two_pow _ hy, Nat.or_lt_two_pow hx hy, Nat.xor_lt_two_pow hx hy⟩
theorem pw_nat (n : Nat) : pw n = ((2 ^ n : Nat) : Int) := by rw [pw]; simp
theorem nat_mod {n z : Nat} (h : z < 2 ^ n) : (z : Int) % pw n = z := by
  rw [pw_nat]; exact_mod_cast Nat.mod_eq_of_lt h
theorem math (v a b : Int) (h1 : 1 ≤ v) (h2 : v ≤ 64) (ha : 0 ≤ a) (hb : 0 ≤ b) :
    let M := pw v.toNat
    let x := a % M
    let y := b % M
    let A := bits .and .u64 x y
    let NX := bits .xor .u64 x (msk v)
    let NY := bits .xor .u64 y (msk v)
    let Z := bits .xor .u64 x y
    let O := bits .or .u64 x y
    (0 ≤ A ∧ A < M) ∧ (0 ≤ NX ∧ NX < M) ∧ (0 ≤ NY ∧ NY < M) ∧ (0 ≤ Z ∧ Z < M) ∧ (0 ≤ O ∧ O < M) ∧
      msk v % M = msk v ∧ bits .xor .u64 A (msk v) = bits .or .u64 NX NY ∧ bits .xor .u64 Z y = x ∧ (A + O) % M = (a + b) % M := by
  obtain ⟨n, rfl⟩ : ∃ n : Nat, v = n := ⟨v.toNat, by omega⟩
  have hn : n ≤ 64 := by omega
  have hm := msk_in h1 h2
  simp only [Int.toNat_natCast] at hm ⊢
  have hq := pw_pos n
  obtain ⟨x, hx⟩ := Int.eq_ofNat_of_zero_le (Int.emod_nonneg a (show pw n ≠ 0 by omega))
  obtain ⟨y, hy⟩ := Int.eq_ofNat_of_zero_le (Int.emod_nonneg b (show pw n ≠ 0 by omega))
  have kx := Int.emod_lt_of_pos a hq
  have ky := Int.emod_lt_of_pos b hq
  rw [hx] at kx
  rw [hy] at ky
  have hs : (a + b) % pw n = ((x : Int) + y) % pw n := by rw [Int.add_emod, hx, hy]
  rw [hx, hy, hs, hm]
  clear hs hx hy hm
  have e0 : pw n - 1 = ((2 ^ n - 1 : Nat) : Int) := by
    rw [pw_nat, Int.natCast_sub (Nat.two_pow_pos n)]; rfl
  rw [e0]
  have hP := Nat.two_pow_pos n
  have kx' : x < 2 ^ n := by rw [pw_nat] at kx; exact_mod_cast kx
  have ky' : y < 2 ^ n := by rw [pw_nat] at ky; exact_mod_cast ky
  have km : 2 ^ n - 1 < 2 ^ n := by omega
  obtain ⟨⟨r1, r2, r3⟩, q1, q2, q3⟩ := reads n hn x y kx' ky'
  obtain ⟨⟨_, _, s3⟩, _, _, t3⟩ := reads n hn x (2 ^ n - 1) kx' km
  obtain ⟨⟨_, _, u3⟩, _, _, v3⟩ := reads n hn y (2 ^ n - 1) ky' km
  rw [r1, r2, r3, s3, u3]
  obtain ⟨⟨_, _, p3⟩, _, _, _⟩ := reads n hn (x &&& y) (2 ^ n - 1) q1 km
  obtain ⟨⟨_, o2, _⟩, _, _, _⟩ := reads n hn (x ^^^ (2 ^ n - 1)) (y ^^^ (2 ^ n - 1)) t3 v3
  obtain ⟨⟨_, _, z3⟩, _, _, _⟩ := reads n hn (x ^^^ y) y q3 ky'
  have lt : ∀ z : Nat, z < 2 ^ n → (0 : Int) ≤ (z : Int) ∧ (z : Int) < pw n := fun z hz => ⟨Int.natCast_nonneg _, by rw [pw_nat]; exact_mod_cast hz⟩
  refine ⟨lt _ q1, lt _ t3, lt _ v3, lt _ q3, lt _ q2, nat_mod km, ?_, ?_, ?_⟩
  · rw [p3, o2, demorgan n x y kx' ky']
  · rw [z3, Nat.xor_assoc, Nat.xor_self, Nat.xor_zero]
  · have := and_add_or x y
    congr 1; exact_mod_cast this

/-! ### STEP 1: THE WALK: the Go text returns true. 'Grown w w'': the world has at most new blocks (Derived/RowKit3.lean). Part the cases AHEAD of 'go_enter' where a test parts the walk; take each callee by a contract of your own. -/
set_option maxHeartbeats 2000000 in
theorem walk (a0 : Int) (a1 : Int) (a2 : Int) (w0 : (Lit.int .i64 a0).wf = true) (w1 : (Lit.int .u64 a1).wf = true) (w2 : (Lit.int .u64 a2).wf = true) (w : World) :
    Calls Try.prog 10 #[.int .i64 a0, .int .u64 a1, .int .u64 a2] w fun e w' => e = .returned (.bool true) ∧ Grown w w' := by
  obtain ⟨l0, u0⟩ := i64_wf w0
  obtain ⟨l1, u1⟩ := u64_wf w1
  obtain ⟨l2, u2⟩ := u64_wf w2
  have cl := lives_gives
  have cw := width_gives a0 l0 u0
  obtain ⟨g1, g2⟩ := wid_bd a0
  generalize wid a0 = v at *
  have cm := Gives.of_same (Mask_any v)
  have hA := and_msk v a1 g1 g2 l1 (by omega)
  have hM := pw_le64 (n := v.toNat) (by omega)
  have hm := msk_in g1 g2
  have hq := pw_pos v.toNat
  obtain ⟨kA, kX, kY, kZ, kO, m0, m1, m2, m3⟩ := math v a1 a2 g1 g2 l1 l2
  have c1 := of_8 v a1 a2 g1 g2 l1 u1 l2 u2
  have n1 := (of_10 v (bits .and .u64 (a1 % pw v.toNat) (a2 % pw v.toNat)) (msk v) g1 g2 kA.1 (by omega) (by omega) (by omega)).as (one_eq (by rw [Int.emod_eq_of_lt kA.1 kA.2, m0, m1]))
  have n2 := (of_10 v a1 (msk v) g1 g2 l1 u1 (by omega) (by omega)).as (one_eq (by rw [m0]))
  have n3 := (of_10 v a2 (msk v) g1 g2 l2 u2 (by omega) (by omega)).as (one_eq (by rw [m0]))
  have c2 := (of_9 v (bits .xor .u64 (a1 % pw v.toNat) (msk v)) (bits .xor .u64 (a2 % pw v.toNat) (msk v)) g1 g2 kX.1 (by omega) kY.1 (by omega)).as (one_eq (by rw [Int.emod_eq_of_lt kX.1 kX.2, Int.emod_eq_of_lt kY.1 kY.2]))
  have c3 := of_10 v a1 a2 g1 g2 l1 u1 l2 u2
  have c4 := (of_10 v (bits .xor .u64 (a1 % pw v.toNat) (a2 % pw v.toNat)) a2 g1 g2 kZ.1 (by omega) l2 u2).as (one_eq (by rw [Int.emod_eq_of_lt kZ.1 kZ.2, m2]))
  have c5 := of_9 v a1 a2 g1 g2 l1 u1 l2 u2
  have c6 := (of_1 v (bits .and .u64 (a1 % pw v.toNat) (a2 % pw v.toNat)) (bits .or .u64 (a1 % pw v.toNat) (a2 % pw v.toNat)) g1 g2 kA.1 (by omega) kO.1 (by omega)).as (one_eq m3)
  have c7 := of_1 v a1 a2 g1 g2 l1 u1 l2 u2
  have hmf : ∀ (fn : Fn) (first cap : Array Value) (w : World), (Instr.makeFunc fn first cap).run Try.prog w = .ok (.func fn first cap) w := fun _ _ _ _ => rfl
  clear hM hm hq kA kX kY kZ kO m0 m1 m2 m3 w0 w1 w2 l0 u0 l1 u1 l2 u2 g1 g2
  generalize bits .or .u64 (bits .xor .u64 (a1 % pw v.toNat) (msk v)) (bits .xor .u64 (a2 % pw v.toNat) (msk v)) = T at *
  generalize bits .xor .u64 (a1 % pw v.toNat) (msk v) = NX at *
  generalize bits .xor .u64 (a2 % pw v.toNat) (msk v) = NY at *
  generalize bits .xor .u64 (a1 % pw v.toNat) (a2 % pw v.toNat) = Z at *
  generalize bits .and .u64 (a1 % pw v.toNat) (a2 % pw v.toNat) = A at *
  generalize bits .or .u64 (a1 % pw v.toNat) (a2 % pw v.toNat) = O at *
  generalize (a1 + a2) % pw v.toNat = S at *
  generalize a1 % pw v.toNat = X at *
  generalize msk v = m at *
  go_enter Try.func10, Try.ntmps10
  go_wp2_with (first
      | ((with_reducible refine (cl.go _).mono ?_); rintro e w' ⟨rfl, k1, rfl⟩)
      | ((with_reducible refine (cw.go _).mono ?_); rintro e w' ⟨rfl, k2, rfl⟩)
      | ((with_reducible refine (cm.go _).mono ?_); rintro e w' ⟨rfl, k3, rfl⟩))
  obtain ⟨f1, f2, f3⟩ := facts w (.int .i64 a0) (.int .i64 v) (.int .u64 m) (k1 + k2) k3
  generalize hW : ((((w.alloc (.cells #[.int .i64 a0] 3)).drewN (k1 + k2)).setCell ⟨w.heap.size, 0, none⟩ (.int .i64 v)).drewN k3).alloc (.cells #[.int .u64 m] 22) = W at *
  clear hW
  have q1 := fun N => not_any w.heap.size (w.heap.size + 1) v m A T (W.drewN N) f1 f2 n1
  have q2 := fun N => not_any w.heap.size (w.heap.size + 1) v m a1 NX (W.drewN N) f1 f2 n2
  have q3 := fun N => not_any w.heap.size (w.heap.size + 1) v m a2 NY (W.drewN N) f1 f2 n3
  go_quiet (first
    | (with_reducible exact Calls.quiet_of (c1.go _))
    | (with_reducible exact Calls.quiet_of (c2.go _))
    | (with_reducible exact Calls.quiet_of (c3.go _))
    | (with_reducible exact Calls.quiet_of (c4.go _))
    | (with_reducible exact Calls.quiet_of (c5.go _))
    | (with_reducible exact Calls.quiet_of (c6.go _))
    | (with_reducible exact Calls.quiet_of (c7.go _))
    | (with_reducible exact Calls.quiet_of (q1 _))
    | (with_reducible exact Calls.quiet_of (q2 _))
    | (with_reducible exact Calls.quiet_of (q3 _)))
  go_wp2
  go_ret
  exact ⟨rfl, f3⟩

/-! ### THE ROW's STEP: WRITTEN OUT: LEAVE IT -/
set_option maxRecDepth 100000 in
theorem lifted (os : Os) (started : os.Started) (H : Type) (enc : TypeId × Value → H) :
    ReturnsInHanded {} Try.checked os 10 .any (Rows.bitsLogicSpec.pre6 enc Try.prog Try.f10 Rows.bitsLogicRow.domain false) (Rows.bitsLogicSpec.post enc Try.prog Try.f10 false true false false) := by
  refine returnsInHanded_of_change (C := Try.checked) own started (by kernel_rfl) Try.func10
    (ChangeSpec.witness6 (enc := enc) (C := Try.checked) false ⟨#[], #[.int .i64 0, .int .u64 0, .int .u64 0], []⟩ 8 (by kernel_rfl) (by kernel_rfl) (by kernel_rfl) (by kernel_rfl)) ?_
  intro W base args ds gs before hval0 hW hcnd _
  have hval : ∀ (j : Nat) t v, Try.f10.params[j]? = some t → args[j]? = some v → Value.okWide Try.prog W .any base t v := hval0
  have hW' := hW
  obtain ⟨p, q, hA0, hV, rfl, hfz, hnd⟩ := hW
  have hA : DataW.TrodAll enc Try.prog W 0 (fun _ => true) true Try.f10.params.toList args.toList ds p := hA0
  rw [Try.params10] at hA hval
  obtain ⟨v0, vs0, d0, ds0, p0, q0, hargs, rfl, rfl, h0, r0⟩ := trodAll_cons hA
  obtain ⟨v1, vs1, d1, ds1, p1, q1, rfl, rfl, rfl, h1, r1⟩ := trodAll_cons r0
  obtain ⟨v2, vs2, d2, ds2, p2, q2, rfl, rfl, rfl, h2, r2⟩ := trodAll_cons r1
  obtain ⟨rfl, rfl, rfl⟩ := trodAll_nil r2
  obtain rfl : args = #[v0, v1, v2] := by cases args; simp_all
  obtain ⟨rfl, rfl⟩ := trodVars_none hV
  obtain ⟨a0, rfl, rfl, rfl, w0⟩ := open_int Try.underlying3 (hval 0 3 v0 rfl rfl) h0
  obtain ⟨a1, rfl, rfl, rfl, w1⟩ := open_int Try.underlying22 (hval 1 22 v1 rfl rfl) h1
  obtain ⟨a2, rfl, rfl, rfl, w2⟩ := open_int Try.underlying22 (hval 2 22 v2 rfl rfl) h2
  clear hA0 hval0
  simp only [List.append_nil] at hW'
  refine (walk a0 a1 a2 w0 w1 w2 W).mono fun e W' ⟨he, hg⟩ => ?_
  subst he
  exact ⟨_, rfl, post_of_same (pa := []) (pv := []) hW' (fun _ _ _ => (trodAll_cons_mk (shut_bool Try.underlying4 _) trodAll_mk0)) (fun sp _ => (trodAll_cons_mk (shut_int Try.underlying3 w0) (trodAll_cons_mk (shut_int Try.underlying22 w1) (trodAll_cons_mk (shut_int Try.underlying22 w2) trodAll_mk0)))) (fun _ _ => rfl) rfl
    (hg.frame _) hg.2.1 (ok_one (by kernel_rfl) rfl (okWide_bool_mk Try.underlying4 _))⟩

theorem over : Rows.bitsLogicRow.holds Try.pinned (OpenSpec.ofChange Rows.bitsLogicSpec) :=
  OpenClaim.holds_of_wide 10 Try.f10 rfl rfl rfl rfl rfl rfl rfl ⟨rfl, rfl, rfl, rfl, rfl⟩ rfl rfl rfl rfl rfl (by kernel_rfl) Try.func10 (by kernel_rfl)
    (of_decide_eq_true (by kernel_rfl)) (by unfold Func.isWrapper; first | (rw [if_pos (by decide +kernel)]; kernel_rfl) | (rw [if_neg (by decide +kernel)]; exact ⟨rfl, rfl⟩))
    (fun os started H enc _ => lifted os started H enc)

/-- ████ THE STATEMENT ████ -/
theorem proved : Rows.BitsLogicSaid :=
  over
#print axioms proved
end Go.Proofs.Ythhdgfhndijmeaa.bitsLogic
