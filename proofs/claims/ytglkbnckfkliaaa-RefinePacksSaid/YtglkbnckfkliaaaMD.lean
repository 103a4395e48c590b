/- Package mem: Pack. -/
import Derived.Test.YtglkbnckfkliaaaMC
namespace Go.Proofs.Ytglkbnckfkliaaa
open Go.RowKit Go.Maps
set_option linter.unusedVariables false
set_option linter.unusedSimpArgs false

theorem infoBy : (Try.prog.info? 26).map (fun i => (i.zero, i.size, i.bytes)) = some (some (.agg #[.int .i64 0, .int .u8 0, .int .i64 0, .int .i64 0, .int .i64 0]), 5, 40) := by kernel_rfl
theorem infoBy2 : (Try.prog.info? 26).map (·.size) = some 5 := by kernel_rfl
theorem u8w (z : Int) : IntKind.u8.wrap z = z % 256 := by simp [IntKind.wrap, IntKind.bits, IntKind.signed]
theorem shr_run (b : Int) (k : Nat) (hk : k ≤ 7) (h0 : 0 ≤ b) (w : World) : (Op.shift .shr .u64 b .i64 (IntKind.i64.wrap (8 * (k : Int)))).run Try.prog w = .ok (.int .u64 (b / pw (8 * k))) w := by
  have e2 : IntKind.i64.wrap (8 * (k : Int)) = 8 * (k : Int) := by rw [IntKind.wrap_i64]; omega
  rw [e2]
  unfold Op.shift
  rw [if_neg (by omega)]
  have e4 : min (8 * (k : Int)).toNat IntKind.u64.bits = 8 * k := by
    have : IntKind.u64.bits = 64 := rfl
    omega
  simp only [e4, pw_eq]
  rw [Int.fdiv_eq_ediv_of_nonneg _ (by have := pw_pos (8 * k); omega)]
  rfl
theorem flat_rep (n : Nat) (y : By) : (List.replicate n y).flatMap byC = (List.replicate n (byC y)).flatten := by
  induction n with
  | zero => rfl
  | succ n ih => rw [List.replicate_succ, List.flatMap_cons, ih, List.replicate_succ, List.flatten_cons]
theorem made_rep (z : Array Value) (m : Nat) (hm : z.size = m) (h0 : 0 < m) : ∀ n : Nat, (madeCells z (n * m)).toList = (List.replicate n z.toList).flatten
  | 0 => by rw [Nat.zero_mul]; simp [madeCells]
  | n + 1 => by
    have ih := made_rep z m hm h0 n
    unfold madeCells at ih ⊢
    rw [Array.toList_map, Array.toList_range] at ih ⊢
    rw [show (n + 1) * m = m + n * m by rw [Nat.succ_mul]; omega, List.range_add, List.map_append, List.replicate_succ, List.flatten_cons, ← ih, List.map_map]
    congr 1
    · refine List.ext_getElem (by simp [hm]) (fun i h1 h2 => ?_)
      simp only [List.length_map, List.length_range] at h1
      rw [List.getElem_map, List.getElem_range]
      show z[i % z.size]! = _
      rw [hm, Nat.mod_eq_of_lt h1, getElem!_pos z i (by omega)]
      simp
    · refine List.map_congr_left fun i _ => ?_
      show z[(m + i) % z.size]! = z[i % z.size]!
      rw [hm, Nat.add_mod_left]
theorem made_zero (n : Nat) : (madeCells (#[.int .i64 0, .int .u8 0, .int .i64 0, .int .i64 0, .int .i64 0] : Array Value) (n * 5)).toList = (List.replicate n q0).flatMap byC := by
  rw [made_rep _ 5 rfl (by decide), flat_rep]
  rfl
/-- The first k bytes are packed. -/
def pkTo (t : Int) (x : Vl) (n k : Nat) : List By := (List.range n).map fun i => if i < k then packAt t x i else q0
theorem pkTo_0 (t : Int) (x : Vl) (n : Nat) : pkTo t x n 0 = List.replicate n q0 := by
  unfold pkTo
  rw [List.map_congr_left (g := fun _ => q0) (fun i _ => if_neg (Nat.not_lt_zero _)), List.map_const', List.length_range]
theorem pkTo_len (t : Int) (x : Vl) (n k : Nat) : (pkTo t x n k).length = n := by unfold pkTo; simp
theorem pkTo_at (t : Int) (x : Vl) (n k i : Nat) (h : i < (pkTo t x n k).length) : (pkTo t x n k)[i] = if i < k then packAt t x i else q0 := by
  simp only [pkTo, List.getElem_map, List.getElem_range]
theorem pkTo_succ (t : Int) (x : Vl) (n k : Nat) (hk : k < n) : (pkTo t x n k).set k (packAt t x k) = pkTo t x n (k + 1) := by
  refine List.ext_getElem (by rw [List.length_set, pkTo_len, pkTo_len]) (fun i h1 h2 => ?_)
  rw [List.getElem_set, pkTo_at, pkTo_at]
  by_cases e : k = i
  · subst e; rw [if_pos rfl, if_pos (Nat.lt_succ_self _)]
  · rw [if_neg e]
    by_cases h : i < k
    · rw [if_pos h, if_pos (by omega)]
    · rw [if_neg h, if_neg (by omega)]
theorem pkTo_get (t : Int) (x : Vl) (n k : Nat) (hk : k < n) : (pkTo t x n k)[k]'(by rw [pkTo_len]; exact hk) = q0 := by
  unfold pkTo
  rw [List.getElem_map, List.getElem_range, if_neg (Nat.lt_irrefl _)]
theorem pkTo_all (t : Int) (x : Vl) (n : Nat) : pkTo t x n n = (List.range n).map (packAt t x) := List.map_congr_left fun i hi => if_pos (List.mem_range.1 hi)
theorem pkTo_same (t : Int) (x : Vl) (n k : Nat) (hk : k < n) (h : packAt t x k = q0) : pkTo t x n k = pkTo t x n (k + 1) := by
  rw [← pkTo_succ t x n k hk, h]
  have := pkTo_get t x n k hk
  rw [← this, List.set_getElem_self]
theorem sets_more (xs : List Value) (o : Nat) (a : Value) (rest : List Value) (hl : o + (a :: rest).length ≤ xs.length) (h : ∀ j, j < rest.length → xs[o + 1 + j]? = rest[j]?) : sets xs o [a] = sets xs o (a :: rest) := by
  refine List.ext_getElem? fun j => ?_
  simp only [List.length_cons] at hl
  rw [sets_get _ _ _ _ (by simp; omega), sets_get _ _ _ _ (by simp; omega)]
  by_cases h1 : j = o
  · subst h1
    rw [if_pos (by simp), if_pos (by simp)]
    simp
  · by_cases h2 : o ≤ j ∧ j < o + (a :: rest).length
    · rw [if_neg (by simp; omega), if_pos h2]
      simp only [List.length_cons] at h2
      obtain ⟨i, rfl⟩ : ∃ i, j = o + 1 + i := ⟨j - (o + 1), by omega⟩
      rw [h i (by omega), show o + 1 + i - o = i + 1 by omega]
      rfl
    · rw [if_neg (by simp; omega), if_neg h2]
theorem sets_any (L : List By) (k : Nat) (hk : k < L.length) (hq : L[k] = q0) : sets (L.flatMap byC) (k * 5) [.int .i64 3] = (L.set k ⟨3, 0, 0, 0, 0⟩).flatMap byC := by
  rw [← sets_flat byC 5 (by decide) byC_len L k hk ⟨3, 0, 0, 0, 0⟩]
  refine sets_more _ _ _ [.int .u8 0, .int .i64 0, .int .i64 0, .int .i64 0] ?_ (fun j hj => ?_)
  · rw [flat_len byC 5 byC_len]
    show k * 5 + 5 ≤ _
    omega
  · simp only [List.length_cons, List.length_nil] at hj
    rw [show k * 5 + 1 + j = k * 5 + (1 + j) by omega, flat_get byC 5 byC_len L k hk (1 + j) (by omega), hq, show 1 + j = j + 1 by omega]
    rfl
/-- The cells of a byte of an own row. -/
theorem own_by {w : World} {B g n c : Nat} {L : List By} (h : w.ownsRow B 26 5 (.slice (some ⟨g, 0, none⟩) n c) n (L.flatMap byC)) (k : Nat) (hk : k < L.length) :
    w.cell? ⟨g, k * 5, none⟩ = some (.int .i64 L[k].k) ∧ w.cell? ⟨g, k * 5 + 1, none⟩ = some (.int .u8 L[k].b) ∧ w.cell? ⟨g, k * 5 + 2, none⟩ = some (.int .i64 L[k].bk) ∧ w.cell? ⟨g, k * 5 + 3, none⟩ = some (.int .i64 L[k].o) ∧ w.cell? ⟨g, k * 5 + 4, none⟩ = some (.int .i64 L[k].i) ∧ ∀ i, w.frozen? ⟨g, i, none⟩ = false := by
  have hr := own_range byC_len h k hk
  exact ⟨hr 0 _ rfl, hr 1 _ rfl, hr 2 _ rfl, hr 3 _ rfl, hr 4 _ rfl, fun i => h.frozenAt _⟩
theorem wr_store {w : World} {B g n c k : Nat} {L : List By} (h : w.ownsRow B 26 5 (.slice (some ⟨g, 0, none⟩) n c) n (L.flatMap byC)) (hk : k < L.length) (y : By) :
    (w.setCells g (k * 5) (byC y)).ownsRow B 26 5 (.slice (some ⟨g, 0, none⟩) n c) n ((L.set k y).flatMap byC) := by
  have := setCells_own (byC y) (k * 5) h
  rwa [sets_flat byC 5 (by decide) byC_len _ k hk y] at this
set_option maxHeartbeats 600000 in
theorem Pack_any (t : Int) (v : Vl) (W : World) (hv : v.ok) :
    Calls Try.prog 15 #[.int .i64 t, v.val] W fun e w' => ∃ p c, e = .returned (.slice p (wd t) c) ∧ w'.ownsRow W.heap.size 26 5 (.slice p (wd t) c) (wd t) ((pack t v).flatMap byC) ∧ Below W.heap.size W w' := by
  obtain ⟨iV, hiV, hz0, hz1, hz2⟩ := info_parts infoBy
  have HI := Lib.hid (And.intro hiV (And.intro hz0 (And.intro hz1 hz2)))
  clear hiV hz0 hz1 hz2
  have hwd := wd_le t
  have c1 := fun w => width_any t w
  have HV := Lib.hid hv
  have HO := Lib.hid (norm_ok t v)
  have HPK : Hid (pack t v = pkTo t (norm t v) (wd t) (wd t)) := Lib.hid (by rw [pkTo_all]; rfl)
  have c2 := fun w => Norm_any t v w hv
  obtain ⟨n, hn⟩ : ∃ n, wd t = n := ⟨_, rfl⟩
  simp only [hn] at c1 hwd HPK ⊢
  have HW : Hid (0 < n ∧ isW t = false → t = 65) := Lib.hid (fun h => by
    have := (wd_pos t).1 (by rw [hn]; exact h.1)
    have h2 : ¬ (1 ≤ t ∧ t ≤ 64) := isW_not.1 h.2
    omega)
  obtain ⟨x, hx⟩ : ∃ x, norm t v = x := ⟨_, rfl⟩
  simp only [hx] at c2 HO HPK
  have HK : Hid (x.k = 1 ∨ x.k = 2 ∨ x.k = 3 ∨ x = p0) := Lib.hid (by
    rw [← hx]
    rcases norm_k t v with ⟨h, _⟩ | ⟨h, _⟩ | ⟨h, _⟩ | h
    · exact .inl h
    · exact .inr (.inl h)
    · exact .inr (.inr (.inl h))
    · exact .inr (.inr (.inr h)))
  clear hn hx hv
  obtain ⟨vk, vb, vbk, vo⟩ := v
  obtain ⟨xk, xb, xbk, xo⟩ := x
  have c3 : ∀ w, Calls Try.prog 14 #[.int .i64 t, .agg #[.int .i64 vk, .int .u64 vb, .int .i64 vbk, .int .i64 vo]] w fun e w' => e = .returned (.agg #[.int .i64 xk, .int .u64 xb, .int .i64 xbk, .int .i64 xo]) ∧ Below w.heap.size w w' := c2
  clear c2
  have V0 : Box W.heap.size [.int .i64 vk, .int .u64 vb, .int .i64 vbk, .int .i64 vo] (W.alloc (.cells #[.int .i64 vk, .int .u64 vb, .int .i64 vbk, .int .i64 vo] 24)) := Box.new W rfl _ _
  have B2 : Hid (iV.bytes * n ≤ 281474976710656) := Lib.hid (by rw [HI.out.2.2.2]; omega)
  have B3 : Hid (n ≤ maxLen) := Lib.hid (by unfold maxLen; omega)
  have VV := Lib.hid V0
  have c4 := fun b w => number_any b w
  have c5 := fun a b i w => piece_any a b i w
  have c6 := fun w W => isNumber_any w W
  clear V0
  show Calls _ _ #[.int .i64 t, .agg #[.int .i64 vk, .int .u64 vb, .int .i64 vbk, .int .i64 vo]] W _
  go_enter Try.func15, Try.ntmps15
  go_wp2_with (first
    | ((with_reducible refine (c1 _).mono ?_); rintro e w' ⟨rfl, rfl⟩)
    | (at_make; refine wpList_make_full _ rfl _ _ 38 rfl W.heap.size 26 iV _ 5 Try.underlying38 HI.out.1 HI.out.2.1 HI.out.2.2.1 _ _ _ _ n rfl rfl rfl rfl B2.out B3.out (by simp) ?_; intro w1 hown1 hgrow1; simp only [World.size_alloc] at hown1; have b1 := VV.out.later (below_none hgrow1 (Nat.le_refl _)); have v0 := b1.get 0 _ rfl; have v1 := b1.get 1 _ rfl; have v2 := b1.get 2 _ rfl; have v3 := b1.get 3 _ rfl)
    | ((with_reducible refine (c3 _).mono ?_); rintro e w2 ⟨rfl, hb2⟩; have b2 := b1.later hb2; have v0 := b2.get 0 _ rfl; have v1 := b2.get 1 _ rfl; have v2 := b2.get 2 _ rfl; have v3 := b2.get 3 _ rfl; have vf := b2.2.1))
  have hb2 := Lib.hid hb2
  have hown1 := Lib.hid hown1
  have hgrow1 := Lib.hid hgrow1
  have b1 := Lib.hid b1
  have b2 := Lib.hid b2
  go_loopw [15] (fun u wr => ∃ k : Nat, k ≤ n ∧ u = .int .i64 k ∧ Past W.heap.size W wr ∧ Box W.heap.size [.int .i64 xk, .int .u64 xb, .int .i64 xbk, .int .i64 xo] wr ∧ wr.ownsRow W.heap.size 26 5 (.slice (some ⟨W.heap.size + 1, 0, none⟩) n n) n ((pkTo t ⟨xk, xb, xbk, xo⟩ n k).flatMap byC)) (fun u _ => n - (intOf u).toNat)
  case atStart =>
    have P1 : Past W.heap.size W w1 := ((Past.refl (Nat.le_refl _)).alloc (.cells #[.int .i64 vk, .int .u64 vb, .int .i64 vbk, .int .i64 vo] 24)).grownRow hgrow1.out (fun j e => by cases e)
    have P2 : Past W.heap.size W w2 := P1.trans ⟨P1.size, hb2.out.mono P1.size⟩
    have r2 := ownsRow_below hown1.out hb2.out
    have hne : ∀ (o : Nat), (Value.slice (some ⟨W.heap.size + 1, 0, none⟩) n n).ownBlock ≠ some (⟨W.heap.size, o, none⟩ : Addr).block := fun o e => by simp [Value.ownBlock] at e
    refine ⟨0, Nat.zero_le _, rfl, (((P2.set (Nat.le_refl _) _).set (Nat.le_refl _) _).set (Nat.le_refl _) _).set (Nat.le_refl _) _, (((b2.out.set 0 _).set 1 _).set 2 _).set 3 _, ?_⟩
    rw [pkTo_0, ← made_zero]
    exact ownsRow_ne (ownsRow_ne (ownsRow_ne (ownsRow_ne r2 (hne 0) _) (hne 1) _) (hne 2) _) (hne 3) _
  case round =>
    obtain ⟨k, hk, rfl, hp, hbx, hr⟩ := hrel
    have r0 := hbx.get 0 _ rfl
    have r1 := hbx.get 1 _ rfl
    have r2 := hbx.get 2 _ rfl
    have r3 := hbx.get 3 _ rfl
    have HB := Lib.hid hbx
    have HP := Lib.hid hp
    have HR := Lib.hid hr
    clear hp hbx hr
    by_cases hlt : k < n
    · have hil : k < (pkTo t ⟨xk, xb, xbk, xo⟩ n k).length := by rw [pkTo_len]; exact hlt
      by_cases k1 : xk = 1
      · have hy : packAt t ⟨xk, xb, xbk, xo⟩ k = ⟨1, xb / pw (8 * k) % 256, 0, 0, 0⟩ := if_pos k1
        have HS := Lib.hid (pkTo_succ t ⟨xk, xb, xbk, xo⟩ n k hlt)
        have HY := Lib.hid hy
        have c7 : ∀ w, Calls Try.prog 24 #[.int .u8 (xb / 2 ^ (8 * k) % 256)] w fun e w' => e = .returned (.agg #[.int .i64 1, .int .u8 (xb / 2 ^ (8 * k) % 256), .int .i64 0, .int .i64 0, .int .i64 0]) ∧ Below w.heap.size w w' := c4 (xb / 2 ^ (8 * k) % 256)
        have hd1 : (xk == 1) = true := by rw [k1]; rfl
        clear hy k1
        go_wp2_with (first
          | ((with_reducible refine (c7 _).mono ?_); rintro e w5 ⟨rfl, hb5⟩; have HB5 := Lib.hid hb5; obtain ⟨q0, q1, q2, q3, q4, qf⟩ := own_by (ownsRow_below HR.out hb5) k hil; clear hb5))
        have hset := wr_store (ownsRow_below HR.out HB5.out) hil (packAt t ⟨xk, xb, xbk, xo⟩ k)
        rw [HS.out, HY.out] at hset
        exact ⟨⟨_, hlt, by go_num, Past.setCells (Nat.le_succ _) (byC ⟨1, xb / pw (8 * k) % 256, 0, 0, 0⟩) (k * 5) (HP.out.trans ⟨HP.out.size, HB5.out.mono HP.out.size⟩), HB.out.later HB5.out |>.other (by omega) _ _ |>.other (by omega) _ _ |>.other (by omega) _ _ |>.other (by omega) _ _ |>.other (by omega) _ _, hset⟩, by simp [intOf]; omega⟩
      · by_cases k2 : xk = 2
        · have hy : packAt t ⟨xk, xb, xbk, xo⟩ k = ⟨2, 0, xbk, xo, k⟩ := (if_neg k1).trans (if_pos k2)
          have HS := Lib.hid (pkTo_succ t ⟨xk, xb, xbk, xo⟩ n k hlt)
          have HY := Lib.hid hy
          have c7 : ∀ w, Calls Try.prog 25 #[.int .i64 xbk, .int .i64 xo, .int .i64 k] w fun e w' => e = .returned (.agg #[.int .i64 2, .int .u8 0, .int .i64 xbk, .int .i64 xo, .int .i64 k]) ∧ Below w.heap.size w w' := c5 xbk xo k
          have hd1 : (xk == 1) = false := by simpa using k1
          have hd2 : (xk == 2) = true := by rw [k2]; rfl
          clear hy k1 k2
          go_wp2_with (first
            | ((with_reducible refine (c7 _).mono ?_); rintro e w5 ⟨rfl, hb5⟩; have HB5 := Lib.hid hb5; obtain ⟨q0, q1, q2, q3, q4, qf⟩ := own_by (ownsRow_below HR.out hb5) k hil; clear hb5))
          have hset := wr_store (ownsRow_below HR.out HB5.out) hil (packAt t ⟨xk, xb, xbk, xo⟩ k)
          rw [HS.out, HY.out] at hset
          exact ⟨⟨_, hlt, by go_num, Past.setCells (Nat.le_succ _) (byC ⟨2, 0, xbk, xo, k⟩) (k * 5) (HP.out.trans ⟨HP.out.size, HB5.out.mono HP.out.size⟩), HB.out.later HB5.out |>.other (by omega) _ _ |>.other (by omega) _ _ |>.other (by omega) _ _ |>.other (by omega) _ _ |>.other (by omega) _ _, hset⟩, by simp [intOf]; omega⟩
        · have hd1 : (xk == 1) = false := by simpa using k1
          have hd2 : (xk == 2) = false := by simpa using k2
          by_cases k3 : xk = 3 ∧ isW t = true
          · have hy : packAt t ⟨xk, xb, xbk, xo⟩ k = ⟨3, 0, 0, 0, 0⟩ := ((if_neg k1).trans (if_neg k2)).trans (if_pos k3)
            have HS := Lib.hid (pkTo_succ t ⟨xk, xb, xbk, xo⟩ n k hlt)
            have HY := Lib.hid hy
            have hd3 : (xk == 3) = true := by rw [k3.1]; rfl
            have hW := k3.2
            have c9 := c6 t
            simp only [hW] at c9
            have hq := pkTo_get t ⟨xk, xb, xbk, xo⟩ n k hlt
            have HQ := Lib.hid hq
            obtain ⟨q0, q1, q2, q3, q4, qf⟩ := own_by HR.out k hil
            rw [hq] at q0
            clear hy k1 k2 k3 hq q1 q2 q3 q4
            go_wp2_with (first
              | ((with_reducible refine (c9 _).mono ?_); rintro e w5 ⟨rfl, rfl⟩))
            have hset := setCells_own [.int .i64 3] (k * 5) HR.out
            rw [sets_any _ k hil HQ.out] at hset
            have e2 := HS.out
            rw [HY.out] at e2
            rw [e2] at hset
            exact ⟨⟨_, hlt, by go_num, HP.out.set (Nat.le_succ _) _, HB.out.other (by omega) _ _, hset⟩, by simp [intOf]; omega⟩
          · have hy : packAt t ⟨xk, xb, xbk, xo⟩ k = q0 := ((if_neg k1).trans (if_neg k2)).trans (if_neg k3)
            have HS := Lib.hid (pkTo_same t ⟨xk, xb, xbk, xo⟩ n k hlt hy)
            clear hy
            by_cases e3 : xk = 3
            · have hd3 : (xk == 3) = true := by rw [e3]; rfl
              have hW : isW t = false := by
                cases h : isW t
                · rfl
                · exact absurd ⟨e3, h⟩ k3
              have c9 := c6 t
              simp only [hW] at c9
              clear k1 k2 k3 e3
              go_wp2_with (first
                | ((with_reducible refine (c9 _).mono ?_); rintro e w5 ⟨rfl, rfl⟩))
              exact ⟨⟨_, hlt, by go_num, HP.out, HB.out, by rw [← HS.out]; exact HR.out⟩, by simp [intOf]; omega⟩
            · have hd3 : (xk == 3) = false := by simpa using e3
              clear k1 k2 k3 e3
              go_wp2_with fail
              exact ⟨⟨_, hlt, by go_num, HP.out, HB.out, by rw [← HS.out]; exact HR.out⟩, by simp [intOf]; omega⟩
    · obtain rfl : k = n := by omega
      go_wp2_with fail
      go_ret
      exact ⟨_, _, rfl, by rw [HPK.out]; exact HR.out, HP.out.2⟩
end Go.Proofs.Ytglkbnckfkliaaa
