/- Package mem: written, Unpack. -/
import Derived.Test.YtglkbnckfkliaaaMB
import Derived.Laws.Bits64b
namespace Go.Proofs.Ytglkbnckfkliaaa
open Go.RowKit Go.Maps
set_option linter.unusedVariables false
set_option linter.unusedSimpArgs false

theorem pw_cast (k : Nat) : pw k = ((2 ^ k : Nat) : Int) := by unfold pw; simp
theorem or_digit (b y : Int) (k : Nat) (h0 : 0 ≤ b) (h1 : b < pw (8 * k)) (y0 : 0 ≤ y) (y1 : y ≤ 255) (hk : k ≤ 7) : bits .or .u64 b (y * pw (8 * k)) = b + pw (8 * k) * y := by
  obtain ⟨b, rfl⟩ := Int.eq_ofNat_of_zero_le h0
  obtain ⟨y, rfl⟩ := Int.eq_ofNat_of_zero_le y0
  have hp : (2 : Nat) ^ (8 * k) ≤ 2 ^ 56 := Nat.pow_le_pow_right (by decide) (by omega)
  rw [pw_cast] at h1 ⊢
  have h2 : b < 2 ^ (8 * k) := by exact_mod_cast h1
  have h3 : y * 2 ^ (8 * k) ≤ 255 * 2 ^ (8 * k) := Nat.mul_le_mul_right _ (by omega)
  have h4 : y * 2 ^ (8 * k) < 18446744073709551616 := by omega
  have e : (y : Int) * ((2 ^ (8 * k) : Nat) : Int) = ((y * 2 ^ (8 * k) : Nat) : Int) := by simp
  rw [e, bits_or_u64_nat _ _ (by omega) h4]
  have e2 : b ||| y * 2 ^ (8 * k) = b + 2 ^ (8 * k) * y := by
    have := Nat.shiftLeft_add_eq_or_of_lt h2 y
    rw [Nat.shiftLeft_eq] at this
    rw [Nat.or_comm, ← this, Nat.mul_comm]; omega
  rw [e2]
  simp
theorem shl_run (y : Int) (k : Nat) (y0 : 0 ≤ y) (y1 : y ≤ 255) (hk : k ≤ 7) (w : World) : (Op.shift .shl .u64 (IntKind.u64.wrap y) .i64 (IntKind.i64.wrap (8 * (k : Int)))).run Try.prog w = .ok (.int .u64 (y * pw (8 * k))) w := by
  have e1 : IntKind.u64.wrap y = y := by rw [u64w]; omega
  have e2 : IntKind.i64.wrap (8 * (k : Int)) = 8 * (k : Int) := by rw [IntKind.wrap_i64]; omega
  have hp := pw_mono (show 8 * k ≤ 56 by omega)
  have hq := pw_pos (8 * k)
  have e : pw 56 = 72057594037927936 := by decide +kernel
  have h1 := Int.mul_le_mul_of_nonneg_right y1 (show 0 ≤ pw (8 * k) by omega)
  have h2 := Int.mul_nonneg y0 (show 0 ≤ pw (8 * k) by omega)
  have e3 : IntKind.u64.wrap (y * pw (8 * k)) = y * pw (8 * k) := by rw [u64w]; omega
  rw [e1, e2]
  unfold Op.shift
  rw [if_neg (by omega)]
  have e4 : min (8 * (k : Int)).toNat IntKind.u64.bits = 8 * k := by
    have : IntKind.u64.bits = 64 := rfl
    omega
  simp only [e4, pw_eq, e3]
  rfl
theorem shl_small (y : Int) (k : Nat) (y0 : 0 ≤ y) (y1 : y ≤ 255) (hk : k ≤ 7) : 0 ≤ y * pw (8 * k) ∧ y * pw (8 * k) < 18446744073709551616 := by
  have hp := pw_mono (show 8 * k ≤ 56 by omega)
  have hq := pw_pos (8 * k)
  have e : pw 56 = 72057594037927936 := by decide +kernel
  have h1 := Int.mul_le_mul_of_nonneg_right y1 (show 0 ≤ pw (8 * k) by omega)
  have h2 := Int.mul_nonneg y0 (show 0 ≤ pw (8 * k) by omega)
  omega
theorem box_drew {g : Nat} {cs : List Value} {w : World} (h : Box g cs w) : Box g cs w.drew := ⟨h.1, h.2.1, h.2.2⟩
structure Wr (l : List By) (k : Nat) (kd b : Int) : Prop where
  lo : 0 ≤ b
  hi : b < pw (8 * k)
  all : ∀ y ∈ l.take k, y.k = 1 ∨ y.k = 3
  kind : (kd = 3 ∧ ∃ y ∈ l.take k, y.k = 3) ∨ (kd = 1 ∧ (∀ y ∈ l.take k, y.k ≠ 3) ∧ b = num (l.take k))
theorem Wr.start (l : List By) : Wr l 0 1 0 := ⟨Int.le_refl _, by decide +kernel, fun y h => absurd h (by simp), .inr ⟨rfl, fun y h => absurd h (by simp), rfl⟩⟩
theorem pw_up (k : Nat) : pw (8 * (k + 1)) = 256 * pw (8 * k) := by rw [show 8 * (k + 1) = 8 + 8 * k by omega, pw_add]; rfl
theorem Wr.one {l : List By} {k : Nat} {kd b : Int} (h : Wr l k kd b) (hk : k < l.length) (h1 : l[k].k = 1) (hy : l[k].ok) : Wr l (k + 1) kd (b + pw (8 * k) * l[k].b) := by
  have hp := pw_pos (8 * k)
  have h2 := Int.mul_le_mul_of_nonneg_left hy.2 (show 0 ≤ pw (8 * k) by omega)
  have h3 := Int.mul_nonneg (show 0 ≤ pw (8 * k) by omega) hy.1
  have h4 := h.lo
  have h5 := h.hi
  refine ⟨by omega, by rw [pw_up]; omega, fun y hy => ?_, ?_⟩
  · rw [List.take_succ_eq_append_getElem hk] at hy
    rcases List.mem_append.1 hy with hy | hy
    · exact h.all y hy
    · simp at hy; subst hy; exact .inl h1
  · rw [List.take_succ_eq_append_getElem hk]
    rcases h.kind with ⟨rfl, y, hy, e⟩ | ⟨rfl, ha, e⟩
    · exact .inl ⟨rfl, y, List.mem_append_left _ hy, e⟩
    · refine .inr ⟨rfl, fun y hy => ?_, ?_⟩
      · rcases List.mem_append.1 hy with hy | hy
        · exact ha y hy
        · simp at hy; subst hy; rw [h1]; decide
      · rw [num_app, ← e, List.length_take, Nat.min_eq_left (by omega)]
        show b + pw (8 * k) * l[k].b = b + pw (8 * k) * (l[k].b + 256 * 0)
        rw [Int.mul_zero, Int.add_zero]
theorem Wr.any {l : List By} {k : Nat} {kd b : Int} (h : Wr l k kd b) (hk : k < l.length) (h1 : l[k].k = 3) : Wr l (k + 1) 3 b := by
  have hp := pw_pos (8 * k)
  have h5 := h.hi
  refine ⟨h.lo, by rw [pw_up]; omega, fun y hy => ?_, .inl ⟨rfl, l[k], by rw [List.take_succ_eq_append_getElem hk]; exact List.mem_append_right _ (List.mem_singleton.2 rfl), h1⟩⟩
  rw [List.take_succ_eq_append_getElem hk] at hy
  rcases List.mem_append.1 hy with hy | hy
  · exact h.all y hy
  · simp at hy; subst hy; exact .inr h1
open Classical in
noncomputable def wrV (t : Int) (l : List By) : Vl := if ∃ y ∈ l, y.k ≠ 1 ∧ y.k ≠ 3 then p0 else if ∃ y ∈ l, y.k = 3 then ⟨3, 0, 0, 0⟩ else ⟨1, num l % pw t.toNat, 0, 0⟩
theorem Wr.ends {l : List By} {kd b : Int} {t : Int} (h : Wr l l.length kd b) (hW : isW t = true) : norm t ⟨kd, b, 0, 0⟩ = wrV t l := by
  have hI := isW_iff.1 hW
  obtain ⟨_, _, ha, hk⟩ := h
  rw [List.take_length] at ha hk
  unfold wrV
  rw [if_neg (fun ⟨y, hy, x1, x2⟩ => (ha y hy).elim x1 x2)]
  rcases hk with ⟨rfl, y, hy, e⟩ | ⟨rfl, hn, rfl⟩
  · rw [if_pos ⟨y, hy, e⟩, norm_any rfl ((wd_pos t).2 (by omega))]
  · rw [if_neg (fun ⟨y, hy, e⟩ => hn y hy e), norm_num rfl hW]
theorem Wr.ok {l : List By} {k : Nat} {kd b : Int} (h : Wr l k kd b) (hk : k ≤ 8) : Vl.ok ⟨kd, b, 0, 0⟩ := ⟨h.lo, by have := h.hi; have := pw_mono (show 8 * k ≤ 64 by omega); rw [pw_64] at this; show b ≤ _; omega⟩
set_option maxHeartbeats 2000000 in
theorem written_any (t : Int) (W : World) (p : Option Addr) (c : Nat) (l : List By) (h : BysIn W.heap.size W p l.length c l) (hok : ∀ y ∈ l, y.ok) (hl : l.length ≤ 8) (hW : isW t = true) :
    Calls Try.prog 27 #[.int .i64 t, .slice p l.length c] W fun e w' => e = .returned (wrV t l).val ∧ Below W.heap.size W w' := by
  have b0 := bV0
  have b1 := bV1
  have hcap := h.2.1
  have hmx := h.2.2.1
  unfold maxLen at hmx
  have H := Lib.hid h
  have OK := Lib.hid hok
  have hP : Past W.heap.size W ((W.alloc (.cells #[.int .i64 0, .int .u64 0, .int .i64 0, .int .i64 0] 24)).alloc (.cells #[.int .i64 1, .int .u64 0, .int .i64 0, .int .i64 0] 24)) := ((Past.refl (Nat.le_refl _)).alloc _).alloc _
  have R0 : Box W.heap.size [.int .i64 0, .int .u64 0, .int .i64 0, .int .i64 0] ((W.alloc (.cells #[.int .i64 0, .int .u64 0, .int .i64 0, .int .i64 0] 24)).alloc (.cells #[.int .i64 1, .int .u64 0, .int .i64 0, .int .i64 0] 24)) := (Box.new W rfl _ _).alloc _
  have V0 : Box (W.heap.size + 1) [.int .i64 1, .int .u64 0, .int .i64 0, .int .i64 0] ((W.alloc (.cells #[.int .i64 0, .int .u64 0, .int .i64 0, .int .i64 0] 24)).alloc (.cells #[.int .i64 1, .int .u64 0, .int .i64 0, .int .i64 0] 24)) := Box.new _ (by simp) _ _
  clear h hok
  go_enter Try.func27, Try.ntmps27
  go_wp2_with fail
  go_loopw [11] (fun t wr => ∃ (k : Nat) (kd b : Int), k ≤ l.length ∧ t = .int .i64 k ∧ Past W.heap.size W wr ∧ Box W.heap.size [.int .i64 0, .int .u64 0, .int .i64 0, .int .i64 0] wr ∧ Box (W.heap.size + 1) [.int .i64 kd, .int .u64 b, .int .i64 0, .int .i64 0] wr ∧ Wr l k kd b) (fun t _ => l.length - (intOf t).toNat)
  case atStart => exact ⟨0, 1, 0, Nat.zero_le _, rfl, hP, R0, V0, Wr.start l⟩
  case round =>
    obtain ⟨k, kd, b, hk, rfl, hb, hR, hV, hw⟩ := hrel
    have r0 := hR.get 0 _ rfl
    have r1 := hR.get 1 _ rfl
    have r2 := hR.get 2 _ rfl
    have r3 := hR.get 3 _ rfl
    have rf := hR.2.1
    have v0 := hV.get 0 _ rfl
    have v1 := hV.get 1 _ rfl
    have v2 := hV.get 2 _ rfl
    have v3 := hV.get 3 _ rfl
    have vf := hV.2.1
    have rlt := hR.1
    have vlt := hV.1
    have HP := Lib.hid hb
    have HR := Lib.hid hR
    have HV := Lib.hid hV
    have HW := Lib.hid hw
    clear hb hR hV hw hP R0 V0
    by_cases hlt : k < l.length
    · obtain ⟨a, rfl, ha, hy⟩ := by_row H.out k hlt
      have hm := OK.out l[k] (List.getElem_mem hlt)
      obtain ⟨⟨yk, yb, ybk, yo, yi⟩, ek⟩ : ∃ x, l[k] = x := ⟨_, rfl⟩
      have EK := Lib.hid ek
      have hab : (a.add (k * 5)).block < W.heap.size := by rw [add_block]; exact ha
      obtain ⟨f0, f1, f2, f3, f4⟩ : ByAt wr (a.add (k * 5)) ⟨yk, yb, ybk, yo, yi⟩ := by
        rw [ek] at hy
        obtain ⟨h0, h1, h2, h3, h4⟩ := hy
        exact ⟨(HP.out.2.cell hab).trans h0, (HP.out.2.cell (p := ⟨(a.add (k * 5)).block, (a.add (k * 5)).off + 1, none⟩) hab).trans h1, (HP.out.2.cell (p := ⟨(a.add (k * 5)).block, (a.add (k * 5)).off + 2, none⟩) hab).trans h2, (HP.out.2.cell (p := ⟨(a.add (k * 5)).block, (a.add (k * 5)).off + 3, none⟩) hab).trans h3, (HP.out.2.cell (p := ⟨(a.add (k * 5)).block, (a.add (k * 5)).off + 4, none⟩) hab).trans h4⟩
      simp only at f0 f1 f2 f3 f4
      have lt : (a.add (k * 5)).block < wr.heap.size := Nat.lt_of_lt_of_le hab HP.out.2.size
      have HM : Hid (0 ≤ yb ∧ yb ≤ 255) := Lib.hid (by rw [ek] at hm; exact hm)
      clear hy ek hm
      by_cases e1 : yk = 1
      · have HN : Hid (Wr l (k + 1) kd (b + pw (8 * k) * yb)) := Lib.hid (by have := HW.out.one hlt (by rw [EK.out]; exact e1) (by rw [EK.out]; exact HM.out); rwa [EK.out] at this)
        subst e1
        have hsh := shl_run yb k HM.out.1 HM.out.2 (by omega)
        have hor : bits BinOp.or IntKind.u64 b (yb * pw (8 * k)) = b + pw (8 * k) * yb := or_digit b yb k HW.out.lo HW.out.hi HM.out.1 HM.out.2 (by omega)
        go_wp2_with fail
        go_region_law fail
        all_goals
          go_wp2_with fail
          exact ⟨⟨_, kd, _, hlt, by go_num, ((HP.out.set (Nat.le_succ _) _).alloc _).drew, box_drew ((HR.out.other (by omega) 1 _).alloc _), box_drew ((HV.out.set 1 _).alloc _), HN.out⟩, by simp [intOf]; omega⟩
      · by_cases e3 : yk = 3
        · have HN : Hid (Wr l (k + 1) 3 b) := Lib.hid (HW.out.any hlt (by rw [EK.out]; exact e3))
          subst e3
          clear e1
          go_wp2_with fail
          exact ⟨⟨_, 3, b, hlt, by go_num, (HP.out.set (Nat.le_succ _) _).alloc _, (HR.out.other (by omega) 0 _).alloc _, (HV.out.set 0 _).alloc _, HN.out⟩, by simp [intOf]; omega⟩
        · have HZ : Hid (wrV t l = p0) := Lib.hid (if_pos ⟨l[k], List.getElem_mem hlt, by rw [EK.out]; exact ⟨e1, e3⟩⟩)
          have g1 : (yk == 1) = false := by simpa using e1
          have g3 : (yk == 3) = false := by simpa using e3
          clear e1 e3
          go_wp2_with fail
          rw [HZ.out]
          exact bodyPost_ret (v := .agg #[.int .i64 0, .int .u64 0, .int .i64 0, .int .i64 0]) (by simp [results, Try.results27, go_sem, *]) rfl ⟨rfl, (((((HP.out.set (Nat.le_refl _) _).set (Nat.le_refl _) _).set (Nat.le_refl _) _).set (Nat.le_refl _) _).alloc _).2⟩
    · obtain rfl : k = l.length := by omega
      have HO := Lib.hid (HW.out.ok hl)
      have c1 : ∀ w, Calls Try.prog 14 #[.int .i64 t, .agg #[.int .i64 kd, .int .u64 b, .int .i64 0, .int .i64 0]] w fun e w' => e = .returned (.agg #[.int .i64 (wrV t l).k, .int .u64 (wrV t l).b, .int .i64 (wrV t l).bk, .int .i64 (wrV t l).o]) ∧ Below w.heap.size w w' := fun w => by
        have := Norm_any t ⟨kd, b, 0, 0⟩ w HO.out
        rw [HW.out.ends hW] at this
        exact this
      go_wp2_with ((with_reducible refine (c1 _).mono ?_); rintro e w9 ⟨rfl, hb1⟩; have R1 := HR.out.later hb1; have r0 := R1.get 0 _ rfl; have r1 := R1.get 1 _ rfl; have r2 := R1.get 2 _ rfl; have r3 := R1.get 3 _ rfl; have rf := R1.2.1)
      exact bodyPost_ret (v := .agg #[.int .i64 (wrV t l).k, .int .u64 (wrV t l).b, .int .i64 (wrV t l).bk, .int .i64 (wrV t l).o]) (by simp [results, Try.results27, go_sem, *]) rfl ⟨rfl, ((((Past.trans HP.out ⟨HP.out.size, hb1.mono HP.out.size⟩).set (Nat.le_refl _) _).set (Nat.le_refl _) _).set (Nat.le_refl _) _).2.setCell (Nat.le_refl _) _⟩
theorem BysIn.later {W w : World} {p : Option Addr} {n c : Nat} {l : List By} (h : BysIn W.heap.size W p n c l) (hb : Below W.heap.size W w) : BysIn w.heap.size w p n c l := ListIn.lasts lasts_NoMem h hb hb.size
theorem unpack_eq (t : Int) (l : List By) : unpack t l = if l.length = 0 ∨ l.length ≠ wd t then p0 else if t = 65 then addrV l else wrV t l := rfl
set_option maxHeartbeats 2000000 in
theorem Unpack_any (t : Int) (W : World) (p : Option Addr) (c : Nat) (l : List By) (h : BysIn W.heap.size W p l.length c l) (hok : ∀ y ∈ l, y.ok) :
    Calls Try.prog 16 #[.int .i64 t, .slice p l.length c] W fun e w' => e = .returned (unpack t l).val ∧ Below W.heap.size W w' := by
  have b0 := bV0
  have hcap := h.2.1
  have hmx := h.2.2.1
  unfold maxLen at hmx
  have HU := Lib.hid (unpack_eq t l)
  have c1 := fun w W => width_any w W
  have hP : Past (W.heap.size + 1) (W.alloc (.cells #[.int .i64 0, .int .u64 0, .int .i64 0, .int .i64 0] 24)) (W.alloc (.cells #[.int .i64 0, .int .u64 0, .int .i64 0, .int .i64 0] 24)) := Past.refl (by simp)
  have R0 : Box W.heap.size [.int .i64 0, .int .u64 0, .int .i64 0, .int .i64 0] (W.alloc (.cells #[.int .i64 0, .int .u64 0, .int .i64 0, .int .i64 0] 24)) := Box.new W rfl _ _
  have HW1 : Hid (BysIn (W.alloc (.cells #[.int .i64 0, .int .u64 0, .int .i64 0, .int .i64 0] 24)).heap.size (W.alloc (.cells #[.int .i64 0, .int .u64 0, .int .i64 0, .int .i64 0] 24)) p l.length c l) := Lib.hid (BysIn.later h (below1 W _))
  have HR := Lib.hid R0
  have OK := Lib.hid hok
  have hz := wd_le t
  clear h hok R0 hP
  by_cases h0 : l.length = 0
  · have HZ := Lib.hid (HU.out.trans (if_pos (.inl h0)))
    have hd : ((l.length : Int) == 0) = true := by simpa using h0
    go_enter Try.func16, Try.ntmps16
    go_wp2_with ((with_reducible refine (c1 _ _).mono ?_); rintro e w' ⟨rfl, rfl⟩)
    rw [HZ.out]
    exact bodyPost_ret (v := .agg #[.int .i64 0, .int .u64 0, .int .i64 0, .int .i64 0]) (by simp [results, Try.results16, go_sem]) rfl ⟨rfl, below1 _ _⟩
  · have hd : ((l.length : Int) == 0) = false := by simpa using h0
    by_cases h1 : l.length = wd t
    · have h2 : ¬ (l.length = 0 ∨ l.length ≠ wd t) := fun x => x.elim h0 (fun y => y h1)
      by_cases ht : t = 65
      · have HZ := Lib.hid ((HU.out.trans (if_neg h2)).trans (if_pos ht))
        have hd2 : ((l.length : Int) != (wd t : Int)) = false := by rw [h1]; simp
        subst ht
        clear h2 h1
        have c2 : Calls Try.prog 26 #[.slice p l.length c] (W.alloc (.cells #[.int .i64 0, .int .u64 0, .int .i64 0, .int .i64 0] 24)) fun e w' => e = .returned (.agg #[.int .i64 (addrV l).k, .int .u64 (addrV l).b, .int .i64 (addrV l).bk, .int .i64 (addrV l).o]) ∧ Below (W.alloc (.cells #[.int .i64 0, .int .u64 0, .int .i64 0, .int .i64 0] 24)).heap.size (W.alloc (.cells #[.int .i64 0, .int .u64 0, .int .i64 0, .int .i64 0] 24)) w' :=
          address_any _ p c l HW1.out (by omega)
        clear HW1
        go_enter Try.func16, Try.ntmps16
        go_wp2_with (first | ((with_reducible refine (c1 _ _).mono ?_); rintro e w' ⟨rfl, rfl⟩) | ((with_reducible refine c2.mono ?_); rintro e w9 ⟨rfl, hb1⟩; have R1 := HR.out.later hb1; have r0 := R1.get 0 _ rfl; have r1 := R1.get 1 _ rfl; have r2 := R1.get 2 _ rfl; have r3 := R1.get 3 _ rfl; have rf := R1.2.1))
        rw [HZ.out]
        exact bodyPost_ret (v := .agg #[.int .i64 (addrV l).k, .int .u64 (addrV l).b, .int .i64 (addrV l).bk, .int .i64 (addrV l).o]) (by simp [results, Try.results16, go_sem, *]) rfl ⟨rfl, ((((Past.trans ((Past.refl (Nat.le_refl _)).alloc _) ⟨by simp, hb1.mono (by simp)⟩).set (Nat.le_refl _) _).set (Nat.le_refl _) _).set (Nat.le_refl _) _).2.setCell (Nat.le_refl _) _⟩
      · have HZ := Lib.hid ((HU.out.trans (if_neg h2)).trans (if_neg ht))
        have hd2 : ((l.length : Int) != (wd t : Int)) = false := by rw [h1]; simp
        have hW : isW t = true := isW_iff.2 (by have := (wd_pos t).1 (by omega); omega)
        have g1 : (t == 65) = false := by simpa using ht
        clear h2 ht
        have hl8 : l.length ≤ 8 := by omega
        clear h1 hz
        have c2 : Calls Try.prog 27 #[.int .i64 t, .slice p l.length c] (W.alloc (.cells #[.int .i64 0, .int .u64 0, .int .i64 0, .int .i64 0] 24)) fun e w' => e = .returned (.agg #[.int .i64 (wrV t l).k, .int .u64 (wrV t l).b, .int .i64 (wrV t l).bk, .int .i64 (wrV t l).o]) ∧ Below (W.alloc (.cells #[.int .i64 0, .int .u64 0, .int .i64 0, .int .i64 0] 24)).heap.size (W.alloc (.cells #[.int .i64 0, .int .u64 0, .int .i64 0, .int .i64 0] 24)) w' :=
          written_any t _ p c l HW1.out OK.out hl8 hW
        clear HW1
        go_enter Try.func16, Try.ntmps16
        go_wp2_with (first | ((with_reducible refine (c1 _ _).mono ?_); rintro e w' ⟨rfl, rfl⟩) | ((with_reducible refine c2.mono ?_); rintro e w9 ⟨rfl, hb1⟩; have R1 := HR.out.later hb1; have r0 := R1.get 0 _ rfl; have r1 := R1.get 1 _ rfl; have r2 := R1.get 2 _ rfl; have r3 := R1.get 3 _ rfl; have rf := R1.2.1))
        rw [HZ.out]
        exact bodyPost_ret (v := .agg #[.int .i64 (wrV t l).k, .int .u64 (wrV t l).b, .int .i64 (wrV t l).bk, .int .i64 (wrV t l).o]) (by simp [results, Try.results16, go_sem, *]) rfl ⟨rfl, ((((Past.trans ((Past.refl (Nat.le_refl _)).alloc _) ⟨by simp, hb1.mono (by simp)⟩).set (Nat.le_refl _) _).set (Nat.le_refl _) _).set (Nat.le_refl _) _).2.setCell (Nat.le_refl _) _⟩
    · have HZ := Lib.hid (HU.out.trans (if_pos (.inr h1)))
      have hd2 : ((l.length : Int) != (wd t : Int)) = true := by simp; omega
      clear h1
      go_enter Try.func16, Try.ntmps16
      go_wp2_with ((with_reducible refine (c1 _ _).mono ?_); rintro e w' ⟨rfl, rfl⟩)
      rw [HZ.out]
      exact bodyPost_ret (v := .agg #[.int .i64 0, .int .u64 0, .int .i64 0, .int .i64 0]) (by simp [results, Try.results16, go_sem]) rfl ⟨rfl, below1 _ _⟩
end Go.Proofs.Ytglkbnckfkliaaa
