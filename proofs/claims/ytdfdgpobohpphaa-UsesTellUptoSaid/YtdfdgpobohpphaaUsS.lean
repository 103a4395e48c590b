/- UsesStay: the walk. -/
import Derived.Test.YtdfdgpobohpphaaUsL
namespace Go.Proofs.Ytdfdgpobohpphaa
open Go.RowKit Go.Maps
set_option linter.unusedVariables false
set_option linter.unusedSimpArgs false
set_option maxRecDepth 100000
set_option maxHeartbeats 2000000

def madeIn (cs : List (List Nf)) (r : Int) : Prop := ∃ x ∈ cs.flatten, x.res = true ∧ x.reg = r
theorem nfs_clF (f : PFn) : nfs (clF f) = cut (ndF (nfs f).flatten) 0 (nfs f) := by
  have := cut_map nfP (ndF (nfs f).flatten) f.bs 0
  unfold clF
  show (cut (ndF (nfs f).flatten) 0 f.bs).map (·.map nfP) = _
  rw [← this]
  rfl
theorem clF_clF (f : PFn) : clF (clF f) = clF f := by
  have h : (nfs (clF f)).flatten = sel (ndF (nfs f).flatten) 0 (nfs f).flatten := by rw [nfs_clF, cut_flat]
  have hall : ∀ i, i < (nfs (clF f)).flatten.length → ndF (nfs (clF f)).flatten i = true := fun i hi => by
    rw [h] at hi ⊢
    exact ndF_iff.2 (need_left hi)
  have hl : (nfs (clF f)).flatten.length = (clF f).bs.flatten.length := by unfold nfs; rw [flat_map_len]
  have hc : cut (ndF (nfs (clF f)).flatten) 0 (clF f).bs = (clF f).bs := cut_all _ _ 0 (fun i hi => by rw [Nat.zero_add]; exact hall i (by omega))
  have e : clF (clF f) = ⟨(clF f).nm, (clF f).ps, (clF f).rt, cut (ndF (nfs (clF f)).flatten) 0 (clF f).bs⟩ := rfl
  rw [e, hc]
theorem made_stay (f : PFn) {y : Nf} (hy : y ∈ (nfs (clF f)).flatten) {r : Int} (hu : y.use r = true) : madeIn (nfs f) r ↔ madeIn (nfs (clF f)) r := by
  rw [nfs_clF, cut_flat] at hy
  unfold madeIn
  rw [nfs_clF, cut_flat]
  constructor
  · rintro ⟨x, hx, h1, h2⟩
    obtain ⟨k, hk, e⟩ := List.mem_iff_getElem.1 hx
    exact ⟨x, made_left hy hu (k := k) (by rw [List.getElem?_eq_getElem hk, e]) h1 h2, h1, h2⟩
  · rintro ⟨x, hx, h1, h2⟩
    exact ⟨x, sel_sub _ _ _ _ hx, h1, h2⟩
theorem flat_nfs (y : LFn) : (nfs (fnD y)).flatten = (located y.bs).flatten.map fun d => (⟨idleB d.op, resV d.op d.ty != 0, d.reg, fun r => d.args.any (isU r)⟩ : Nf) := by
  obtain ⟨nm, pp, pn, pc, ps, rt, bp, bn, bc, bs⟩ := y
  unfold located nfs fnD
  simp only
  induction bs with
  | nil => rfl
  | cons c bs ih =>
    rw [List.map_cons, List.map_cons, List.map_cons, List.flatten_cons, List.flatten_cons, List.map_append, ih]
    unfold blkD
    rw [List.map_map, List.map_map]
    rfl
theorem made_def {y : LFn} {r : Int} {f : Bool} {a b : Int} (h : DefS (located y.bs) r (located y.bs).length 0 f a b) : f = true ↔ madeIn (nfs (fnD y)) r := by
  have key : (∃ b k, hit r (located y.bs) b k) ↔ madeIn (nfs (fnD y)) r := by
    unfold madeIn
    rw [flat_nfs]
    constructor
    · rintro ⟨b, k, c, d, h1, h2, h3⟩
      unfold mk at h3
      simp only [Bool.and_eq_true, beq_iff_eq] at h3
      exact ⟨_, List.mem_map_of_mem (List.mem_flatten.2 ⟨c, List.mem_of_getElem? h1, List.mem_of_getElem? h2⟩), h3.2, h3.1⟩
    · rintro ⟨x, hx, h1, h2⟩
      obtain ⟨d, hd, rfl⟩ := List.mem_map.1 hx
      obtain ⟨c, hc, hd2⟩ := List.mem_flatten.1 hd
      obtain ⟨b, hb, e1⟩ := List.mem_iff_getElem.1 hc
      obtain ⟨k, hk, e2⟩ := List.mem_iff_getElem.1 hd2
      refine ⟨b, k, c, d, by rw [List.getElem?_eq_getElem hb, e1], by rw [List.getElem?_eq_getElem hk, e2], ?_⟩
      unfold mk
      simp only at h1 h2
      rw [h1, h2]; simp
  rw [← key]
  rcases h with ⟨rfl, _, _, h⟩ | ⟨rfl, b', k', _, _, _, h, _⟩
  · constructor
    · intro h; cases h
    · rintro ⟨b, k, hk⟩
      have hb : b < (located y.bs).length := by
        obtain ⟨c, d, h1, _⟩ := hk
        exact (List.getElem?_eq_some_iff.1 h1).1
      exact absurd hk (h b k (.inl hb))
  · exact ⟨fun _ => ⟨b', k', h⟩, fun _ => rfl⟩
def wfP (f : PFn) : Prop := ∀ c ∈ f.bs, ∀ x ∈ c, wfI x.reg ∧ ∀ a ∈ x.args, wfI a.n
theorem wfP_of {f : LFn} (h : FnWf f) : wfP (fnD f) := by
  intro c hc x hx
  obtain ⟨c', hc', rfl⟩ := List.mem_map.1 hc
  obtain ⟨x', hx', rfl⟩ := List.mem_map.1 hx
  exact h c' hc' x' hx'
theorem of_wfP {f : LFn} (h : wfP (fnD f)) : FnWf f := by
  intro c hc x hx
  exact h (blkD c) (List.mem_map_of_mem hc) (insD x) (List.mem_map_of_mem hx)
theorem cut_sub {α : Type} (f : Nat → Bool) : ∀ (cs : List (List α)) (k : Nat) (c : List α), c ∈ cut f k cs → ∃ d ∈ cs, ∀ x ∈ c, x ∈ d
  | [], k, c, h => by cases h
  | d :: cs, k, c, h => by
    have h : c ∈ sel f k d :: cut f (k + d.length) cs := h
    rcases List.mem_cons.1 h with rfl | h
    · exact ⟨d, List.mem_cons_self, fun x hx => sel_sub _ _ _ _ hx⟩
    · obtain ⟨d', h1, h2⟩ := cut_sub f cs _ c h
      exact ⟨d', List.mem_cons_of_mem _ h1, h2⟩
theorem wfP_cl {f : PFn} (h : wfP f) : wfP (clF f) := by
  intro c hc x hx
  obtain ⟨d, h1, h2⟩ := cut_sub _ _ _ _ hc
  exact h d h1 x (h2 x hx)
/-- The module of one function. -/
def oneM (g : Nat) (f : LFn) : LMod := ⟨none, 0, 0, [], none, 0, 0, [], some ⟨g, 0, none⟩, 1, 1, [f]⟩
theorem one_in {W : World} {f : LFn} (h : FnIn W.heap.size W f) {g : Nat} (hg : g = W.heap.size) {w : World} (hw : w = W.alloc (.cells (fnC f).toArray 25)) : ModIn w.heap.size w (oneM g f) := by
  refine ⟨in_nilU _ _, in_nilU _ _, ?_⟩
  have := lit_in (cel := fnC) (E := FnIn) W hg [f] 25 (show 1 ≤ maxLen by decide) (w' := w) (by rw [hw]; rfl) (fun x hx => by
    obtain rfl := List.mem_singleton.1 hx
    rw [hw]
    exact lasts_Fn _ _ _ _ _ ((Below.refl _ _).alloc (Nat.le_refl _) _) (by simp) h)
  exact this
/-- Some function is answered, that reads so. -/
def GdY (D : PFn) (Y : Value) (w : World) : Prop := ∃ y : LFn, Y = .agg (fnC y).toArray ∧ fnD y = D ∧ FnIn w.heap.size w y
theorem Stands.owned {W w w' : World} {R : List (Nat × List Value)} {O : List Owned} {y : LFn} {a b : Nat} (h : Stands W R O w) (hb : Below w.heap.size w w') (ho : FnOwn a b w' y) (ha : w.heap.size ≤ a) (hbw : b ≤ w'.heap.size) : Stands W R ((a, b, fun u => FnOwn a b u y) :: O) w' := by
  have h1 := h.later hb
  refine ⟨h1.past, h1.box, fun x hx => ?_⟩
  rcases List.mem_cons.1 hx with rfl | hx
  · exact ⟨ho, fun _ _ hs hq => FnOwn.stays hq hs, hbw, Nat.le_trans h.past.size ha⟩
  · exact h1.own x hx
theorem ListOwn.caps' {α : Type} {ty m : Nat} {cel : α → List Value} {Q : Nat → Nat → World → α → Prop} {a b : Nat} {w : World} {p : Option Addr} {n c : Nat} {xs : List α} (h : ListOwn ty m cel Q a b w p n c xs) : xs.length ≤ c ∧ c ≤ maxLen := by
  obtain ⟨h1, h2, _⟩ := h
  rcases id h2.2 with ⟨e, h0⟩ | ⟨g, cap, cur, e, hg, hh, k1, k2, k3, k4⟩
  · injection e with e1 e2 e3; subst e3; omega
  · injection e with e1 e2 e3; subst e3; omega
theorem usesStay_walk (f : LFn) (W : World) (h : FnIn W.heap.size W f) (hwf : FnWf f) (hz : fnZ (fnD f) ≤ 1048576) :
    Calls Try.prog 4 #[.agg (fnC f).toArray] W fun e w' => e = .returned (.bool true) ∧ Below W.heap.size W w' := by
  have hclean := fun (w : World) (hb : Below W.heap.size W w) => Clean_any f w (lasts_Fn _ _ _ _ _ hb hb.size h) hwf hz
  have hcz := clF_Z (fnD f)
  have hwp := wfP_cl (wfP_of hwf)
  obtain ⟨D, eD⟩ : ∃ D, fnD f = D := ⟨_, rfl⟩
  have hlf : (located f.bs).flatten.length = D.bs.flatten.length := by rw [flat_located, eD]
  have hblen : f.bs.length = D.bs.length := by rw [← eD]; unfold fnD; simp
  have hfew : ∀ w1, Calls Try.prog 6 #[.agg #[.slice none 0 0, .slice none 0 0, .slice (some ⟨w1.heap.size, 0, none⟩) 1 1], .int .i64 2000] (w1.alloc (.cells (fnC f).toArray 25)) (SomeBool (w1.alloc (.cells (fnC f).toArray 25))) ∨ ¬ FnIn w1.heap.size w1 f := fun w1 => by
    by_cases c : FnIn w1.heap.size w1 f
    · exact .inl (Few_any (oneM w1.heap.size f) 2000 _ (one_in c rfl rfl))
    · exact .inr c
  obtain ⟨nm, pp, pn, pc, ps, rt, bp, bn, bc, bs⟩ := f
  obtain rfl : pn = ps.length := h.1.1
  obtain rfl : bn = bs.length := h.2.1
  have k2 : bs.length ≤ bc := h.2.2.1
  have k3 : bc ≤ maxLen := h.2.2.2.1
  unfold maxLen at k3
  simp only [fnC] at hclean hfew
  rw [eD] at hclean hz hcz hwp
  have H := Lib.hid (And.intro h (And.intro hwf (And.intro hz (And.intro hclean (And.intro hfew (And.intro hlf (And.intro hblen (And.intro eD (And.intro hcz hwp)))))))))
  clear h hwf hz hclean hfew hlf hblen eD hcz hwp
  show Calls Try.prog 4 #[.agg #[.string nm, .slice pp ps.length pc, .int .i64 rt, .slice bp bs.length bc]] W _
  have S0 := (Stands.start W).put [.string nm, .slice pp ps.length pc, .int .i64 rt, .slice bp bs.length bc] 25
  obtain ⟨b1, eb1⟩ : ∃ b1, b1 = W.heap.size := ⟨_, rfl⟩
  have HS0 := Lib.hid S0
  clear S0
  have hl := lives_any
  go_enter Try.func4, Try.ntmps4
  go_wp2_with fail
  refine (hl _).mono ?_
  rintro e w1 ⟨rfl, hb1⟩
  have S1 := HS0.out.later hb1
  have HS := Lib.hid S1
  have q0 := S1.get (.head _) 0 _ rfl
  have q1 := S1.get (.head _) 1 _ rfl
  have q2 := S1.get (.head _) 2 _ rfl
  have q3 := S1.get (.head _) 3 _ rfl
  have ql := S1.lt (.head _)
  clear S1 HS0 hb1 eb1
  go_wp2_with fail
  refine ((H.out.2.2.2.2.1 w1).resolve_right (fun c => c (HS.out.arg H.out.1))).mono ?_
  rintro e w2 ⟨few, rfl, hb2⟩
  have S2 := (HS.out.alloc (.cells #[.string nm, .slice pp ps.length pc, .int .i64 rt, .slice bp bs.length bc] 25)).later hb2
  have HS2 := Lib.hid S2
  have hql : W.heap.size < w2.heap.size := S2.lt (.head _)
  clear q0 q1 q2 q3 ql
  have q0 := S2.get (.head _) 0 _ rfl
  have q1 := S2.get (.head _) 1 _ rfl
  have q2 := S2.get (.head _) 2 _ rfl
  have q3 := S2.get (.head _) 3 _ rfl
  clear S2 hb2 HS
  cases few with
  | false =>
    go_wp2_with fail
    go_ret
    exact ⟨rfl, HS2.out.past.2⟩
  | true =>
    go_wp2_with fail
    refine (H.out.2.2.2.1 w2 HS2.out.past.2).mono ?_
    rintro e w3 ⟨y, a, b, rfl, hy, hb3, ho3, ha3, hb3'⟩
    obtain ⟨ynm, ypp, ypn, ypc, yps, yrt, ybp, ybn, ybc, ybs⟩ := y
    obtain rfl : ypn = yps.length := by obtain ⟨_, h1, _⟩ := ho3; exact h1.1
    obtain rfl : ybn = ybs.length := by obtain ⟨_, _, h1⟩ := ho3; exact h1.1
    have S3 := (HS2.out.owned hb3 ho3 ha3 hb3').put [.string ynm, .slice ypp yps.length ypc, .int .i64 yrt, .slice ybp ybs.length ybc] 25
    have HS3 := Lib.hid S3
    have HY := Lib.hid hy
    have y3 : w3.cell? ⟨W.heap.size, 3, none⟩ = some (.slice bp bs.length bc) := (hb3.cell (p := ⟨W.heap.size, 3, none⟩) hql).trans q3
    have yl : W.heap.size < w3.heap.size := Nat.lt_of_lt_of_le hql hb3.size
    clear S3 hy hb3 ho3 ha3 hb3' q0 q1 q2 q3
    simp only [fnC]
    go_wp2_with fail
    obtain ⟨gy, egy⟩ : ∃ gy, gy = w3.heap.size := ⟨_, rfl⟩
    obtain ⟨w4, ew4⟩ : ∃ w4, w4 = w3.alloc (.cells #[.string ynm, .slice ypp yps.length ypc, .int .i64 yrt, .slice ybp ybs.length ybc] 25) := ⟨_, rfl⟩
    have S4 := HS3.out
    rw [← ew4, ← egy] at S4
    simp only [← egy]
    rw [← ew4]
    have HS4 := Lib.hid S4
    clear ew4 egy HS3 HS2 y3 yl
    have q0 := S4.get (.tail _ (.head _)) 0 _ rfl
    have q1 := S4.get (.tail _ (.head _)) 1 _ rfl
    have q2 := S4.get (.tail _ (.head _)) 2 _ rfl
    have q3 := S4.get (.tail _ (.head _)) 3 _ rfl
    have p0 := S4.get (.head _) 0 _ rfl
    have p1 := S4.get (.head _) 1 _ rfl
    have p2 := S4.get (.head _) 2 _ rfl
    have p3 := S4.get (.head _) 3 _ rfl
    have kf : W.heap.size < w4.heap.size := S4.lt (.tail _ (.head _))
    have kg : gy < w4.heap.size := S4.lt (.head _)
    have hB4 : Below w4.heap.size w4 w4 := Below.refl _ _
    have hin4 : FnIn w4.heap.size w4 ⟨ynm, ypp, yps.length, ypc, yps, yrt, ybp, ybs.length, ybc, ybs⟩ := by
      have h1 := S4.own (a, b, fun u => FnOwn a b u ⟨ynm, ypp, yps.length, ypc, yps, yrt, ybp, ybs.length, ybc, ybs⟩) (.head _)
      exact FnOwn.lies h1.2.2.1 h1.1
    have hf4 : FnIn w4.heap.size w4 ⟨nm, pp, ps.length, pc, ps, rt, bp, bs.length, bc, bs⟩ := S4.arg H.out.1
    have hlen : ybs.length = bs.length := by
      have h1 : (clF D).bs.length = D.bs.length := by unfold clF; simp [cut_len]
      have h2 : ybs.length = (clF D).bs.length := by rw [← HY.out]; unfold fnD; simp
      have h3 : bs.length = D.bs.length := H.out.2.2.2.2.2.2.1
      omega
    obtain ⟨T1, eT1⟩ : ∃ T1, (located ybs).flatten.length = T1 := ⟨_, rfl⟩
    obtain ⟨T2, eT2⟩ : ∃ T2, (located bs).flatten.length = T2 := ⟨_, rfl⟩
    have hT12 : T1 ≤ T2 := by
      have h1 : T1 = (clF D).bs.flatten.length := by rw [← eT1, ← HY.out]; exact flat_located ⟨ynm, ypp, yps.length, ypc, yps, yrt, ybp, ybs.length, ybc, ybs⟩
      have h2 : T2 = D.bs.flatten.length := by rw [← eT2]; exact H.out.2.2.2.2.2.1
      have h3 : (clF D).bs.flatten = sel (ndF (nfs D).flatten) 0 D.bs.flatten := by unfold clF; exact cut_flat _ _ _
      rw [h1, h2, h3]
      exact sel_len _ _ _
    have hT2 : T2 < 4611686018427387904 := by
      have h2 : T2 = D.bs.flatten.length := by rw [← eT2]; exact H.out.2.2.2.2.2.1
      have h3 := codeZ_flat D.bs
      have h4 := H.out.2.2.1
      unfold fnZ at h4
      omega
    have HG := Lib.hid (And.intro hin4 (And.intro hf4 (And.intro eT1 eT2)))
    have hT12i : ¬ (T2 : Int) < (T1 : Int) := by omega
    have HLEN := Lib.hid hlen
    have hd1 : decide ((T2 : Int) < (T1 : Int)) = false := decide_eq_false hT12i
    have hd2 : decide (T2 < T1) = false := decide_eq_false (by omega)
    have hne : (((ybs.length : Nat) : Int) != ((bs.length : Nat) : Int)) = false := by simp [HLEN.out]
    have hSl : ∀ w w', (w.cell? ⟨W.heap.size, 0, none⟩ = some (.string nm) ∧ w.cell? ⟨W.heap.size, 1, none⟩ = some (.slice pp ps.length pc) ∧ w.cell? ⟨W.heap.size, 2, none⟩ = some (.int .i64 rt) ∧ w.cell? ⟨W.heap.size, 3, none⟩ = some (.slice bp bs.length bc) ∧ w.cell? ⟨gy, 0, none⟩ = some (.string ynm) ∧ w.cell? ⟨gy, 1, none⟩ = some (.slice ypp yps.length ypc) ∧ w.cell? ⟨gy, 2, none⟩ = some (.int .i64 yrt) ∧ w.cell? ⟨gy, 3, none⟩ = some (.slice ybp ybs.length ybc) ∧ Below w4.heap.size w4 w) → Below w.heap.size w w' → (w'.cell? ⟨W.heap.size, 0, none⟩ = some (.string nm) ∧ w'.cell? ⟨W.heap.size, 1, none⟩ = some (.slice pp ps.length pc) ∧ w'.cell? ⟨W.heap.size, 2, none⟩ = some (.int .i64 rt) ∧ w'.cell? ⟨W.heap.size, 3, none⟩ = some (.slice bp bs.length bc) ∧ w'.cell? ⟨gy, 0, none⟩ = some (.string ynm) ∧ w'.cell? ⟨gy, 1, none⟩ = some (.slice ypp yps.length ypc) ∧ w'.cell? ⟨gy, 2, none⟩ = some (.int .i64 yrt) ∧ w'.cell? ⟨gy, 3, none⟩ = some (.slice ybp ybs.length ybc) ∧ Below w4.heap.size w4 w') := fun w w' h hb => by
      obtain ⟨h0, h1, h2, h3, h4, h5, h6, h7, h8⟩ := h
      have e1 : W.heap.size < w.heap.size := Nat.lt_of_lt_of_le kf h8.size
      have e2 : gy < w.heap.size := Nat.lt_of_lt_of_le kg h8.size
      exact ⟨(hb.cell (p := ⟨W.heap.size, 0, none⟩) e1).trans h0, (hb.cell (p := ⟨W.heap.size, 1, none⟩) e1).trans h1, (hb.cell (p := ⟨W.heap.size, 2, none⟩) e1).trans h2, (hb.cell (p := ⟨W.heap.size, 3, none⟩) e1).trans h3,
        (hb.cell (p := ⟨gy, 0, none⟩) e2).trans h4, (hb.cell (p := ⟨gy, 1, none⟩) e2).trans h5, (hb.cell (p := ⟨gy, 2, none⟩) e2).trans h6, (hb.cell (p := ⟨gy, 3, none⟩) e2).trans h7, h8.trans (hb.mono h8.size)⟩
    have hyz : fnZ (fnD ⟨ynm, ypp, yps.length, ypc, yps, yrt, ybp, ybs.length, ybc, ybs⟩) ≤ 1048576 := by rw [HY.out]; exact Nat.le_trans H.out.2.2.2.2.2.2.2.2.1 H.out.2.2.1
    have hyw : FnWf ⟨ynm, ypp, yps.length, ypc, yps, yrt, ybp, ybs.length, ybc, ybs⟩ := of_wfP (by rw [HY.out]; exact H.out.2.2.2.2.2.2.2.2.2)
    have cC : ∀ w, (w.cell? ⟨W.heap.size, 0, none⟩ = some (.string nm) ∧ w.cell? ⟨W.heap.size, 1, none⟩ = some (.slice pp ps.length pc) ∧ w.cell? ⟨W.heap.size, 2, none⟩ = some (.int .i64 rt) ∧ w.cell? ⟨W.heap.size, 3, none⟩ = some (.slice bp bs.length bc) ∧ w.cell? ⟨gy, 0, none⟩ = some (.string ynm) ∧ w.cell? ⟨gy, 1, none⟩ = some (.slice ypp yps.length ypc) ∧ w.cell? ⟨gy, 2, none⟩ = some (.int .i64 yrt) ∧ w.cell? ⟨gy, 3, none⟩ = some (.slice ybp ybs.length ybc) ∧ Below w4.heap.size w4 w) → Calls Try.prog 10 #[.agg #[.string ynm, .slice ypp yps.length ypc, .int .i64 yrt, .slice ybp ybs.length ybc]] w fun e w' => ∃ Y, e = .returned Y ∧ GdY (clF D) Y w' ∧ (w'.cell? ⟨W.heap.size, 0, none⟩ = some (.string nm) ∧ w'.cell? ⟨W.heap.size, 1, none⟩ = some (.slice pp ps.length pc) ∧ w'.cell? ⟨W.heap.size, 2, none⟩ = some (.int .i64 rt) ∧ w'.cell? ⟨W.heap.size, 3, none⟩ = some (.slice bp bs.length bc) ∧ w'.cell? ⟨gy, 0, none⟩ = some (.string ynm) ∧ w'.cell? ⟨gy, 1, none⟩ = some (.slice ypp yps.length ypc) ∧ w'.cell? ⟨gy, 2, none⟩ = some (.int .i64 yrt) ∧ w'.cell? ⟨gy, 3, none⟩ = some (.slice ybp ybs.length ybc) ∧ Below w4.heap.size w4 w') := fun w hs =>
      (Clean_any ⟨ynm, ypp, yps.length, ypc, yps, yrt, ybp, ybs.length, ybc, ybs⟩ w (lasts_Fn _ _ _ _ _ hs.2.2.2.2.2.2.2.2 hs.2.2.2.2.2.2.2.2.size HG.out.1) hyw hyz).mono fun e w' ⟨y, a, b, he, hd, hb, ho, _, hbw⟩ =>
        ⟨_, he, ⟨y, rfl, by rw [hd, HY.out, clF_clF], FnOwn.lies hbw ho⟩, hSl w w' hs hb⟩
    have cS : ∀ w Y, GdY (clF D) Y w → (w.cell? ⟨W.heap.size, 0, none⟩ = some (.string nm) ∧ w.cell? ⟨W.heap.size, 1, none⟩ = some (.slice pp ps.length pc) ∧ w.cell? ⟨W.heap.size, 2, none⟩ = some (.int .i64 rt) ∧ w.cell? ⟨W.heap.size, 3, none⟩ = some (.slice bp bs.length bc) ∧ w.cell? ⟨gy, 0, none⟩ = some (.string ynm) ∧ w.cell? ⟨gy, 1, none⟩ = some (.slice ypp yps.length ypc) ∧ w.cell? ⟨gy, 2, none⟩ = some (.int .i64 yrt) ∧ w.cell? ⟨gy, 3, none⟩ = some (.slice ybp ybs.length ybc) ∧ Below w4.heap.size w4 w) → Calls Try.prog 14 #[.agg #[.string ynm, .slice ypp yps.length ypc, .int .i64 yrt, .slice ybp ybs.length ybc], Y] w fun e w' => e = .returned (.bool true) ∧ (w'.cell? ⟨W.heap.size, 0, none⟩ = some (.string nm) ∧ w'.cell? ⟨W.heap.size, 1, none⟩ = some (.slice pp ps.length pc) ∧ w'.cell? ⟨W.heap.size, 2, none⟩ = some (.int .i64 rt) ∧ w'.cell? ⟨W.heap.size, 3, none⟩ = some (.slice bp bs.length bc) ∧ w'.cell? ⟨gy, 0, none⟩ = some (.string ynm) ∧ w'.cell? ⟨gy, 1, none⟩ = some (.slice ypp yps.length ypc) ∧ w'.cell? ⟨gy, 2, none⟩ = some (.int .i64 yrt) ∧ w'.cell? ⟨gy, 3, none⟩ = some (.slice ybp ybs.length ybc) ∧ Below w4.heap.size w4 w') := fun w Y hg hs => by
      obtain ⟨y, rfl, hd, hin⟩ := hg
      refine (SameFunc_any ⟨ynm, ypp, yps.length, ypc, yps, yrt, ybp, ybs.length, ybc, ybs⟩ y w (lasts_Fn _ _ _ _ _ hs.2.2.2.2.2.2.2.2 hs.2.2.2.2.2.2.2.2.size HG.out.1) hin).mono ?_
      rintro e w' ⟨b, rfl, hb, hbe⟩
      have : b = true := hb.2 (by rw [hd]; exact HY.out)
      rw [this]
      exact ⟨rfl, hSl w w' hs hbe⟩
    have cZ1 : ∀ w, (w.cell? ⟨W.heap.size, 0, none⟩ = some (.string nm) ∧ w.cell? ⟨W.heap.size, 1, none⟩ = some (.slice pp ps.length pc) ∧ w.cell? ⟨W.heap.size, 2, none⟩ = some (.int .i64 rt) ∧ w.cell? ⟨W.heap.size, 3, none⟩ = some (.slice bp bs.length bc) ∧ w.cell? ⟨gy, 0, none⟩ = some (.string ynm) ∧ w.cell? ⟨gy, 1, none⟩ = some (.slice ypp yps.length ypc) ∧ w.cell? ⟨gy, 2, none⟩ = some (.int .i64 yrt) ∧ w.cell? ⟨gy, 3, none⟩ = some (.slice ybp ybs.length ybc) ∧ Below w4.heap.size w4 w) → Calls Try.prog 15 #[.agg #[.string ynm, .slice ypp yps.length ypc, .int .i64 yrt, .slice ybp ybs.length ybc]] w fun e w' => e = .returned (.int .i64 T1) ∧ (w'.cell? ⟨W.heap.size, 0, none⟩ = some (.string nm) ∧ w'.cell? ⟨W.heap.size, 1, none⟩ = some (.slice pp ps.length pc) ∧ w'.cell? ⟨W.heap.size, 2, none⟩ = some (.int .i64 rt) ∧ w'.cell? ⟨W.heap.size, 3, none⟩ = some (.slice bp bs.length bc) ∧ w'.cell? ⟨gy, 0, none⟩ = some (.string ynm) ∧ w'.cell? ⟨gy, 1, none⟩ = some (.slice ypp yps.length ypc) ∧ w'.cell? ⟨gy, 2, none⟩ = some (.int .i64 yrt) ∧ w'.cell? ⟨gy, 3, none⟩ = some (.slice ybp ybs.length ybc) ∧ Below w4.heap.size w4 w') := fun w hs =>
      (Size_any w.heap.size (located ybs) w (.string ynm) (.slice ypp yps.length ypc) yrt ynm ypp yps.length ypc ybp ybs.length ybc (Nat.le_refl _) (blocksAt_in (lasts_Fn _ _ _ _ _ hs.2.2.2.2.2.2.2.2 hs.2.2.2.2.2.2.2.2.size HG.out.1).2) T1 HG.out.2.2.1 (by omega)).mono fun e w' ⟨he, hb⟩ => ⟨he, hSl w w' hs hb⟩
    have cZ2 : ∀ w, (w.cell? ⟨W.heap.size, 0, none⟩ = some (.string nm) ∧ w.cell? ⟨W.heap.size, 1, none⟩ = some (.slice pp ps.length pc) ∧ w.cell? ⟨W.heap.size, 2, none⟩ = some (.int .i64 rt) ∧ w.cell? ⟨W.heap.size, 3, none⟩ = some (.slice bp bs.length bc) ∧ w.cell? ⟨gy, 0, none⟩ = some (.string ynm) ∧ w.cell? ⟨gy, 1, none⟩ = some (.slice ypp yps.length ypc) ∧ w.cell? ⟨gy, 2, none⟩ = some (.int .i64 yrt) ∧ w.cell? ⟨gy, 3, none⟩ = some (.slice ybp ybs.length ybc) ∧ Below w4.heap.size w4 w) → Calls Try.prog 15 #[.agg #[.string nm, .slice pp ps.length pc, .int .i64 rt, .slice bp bs.length bc]] w fun e w' => e = .returned (.int .i64 T2) ∧ (w'.cell? ⟨W.heap.size, 0, none⟩ = some (.string nm) ∧ w'.cell? ⟨W.heap.size, 1, none⟩ = some (.slice pp ps.length pc) ∧ w'.cell? ⟨W.heap.size, 2, none⟩ = some (.int .i64 rt) ∧ w'.cell? ⟨W.heap.size, 3, none⟩ = some (.slice bp bs.length bc) ∧ w'.cell? ⟨gy, 0, none⟩ = some (.string ynm) ∧ w'.cell? ⟨gy, 1, none⟩ = some (.slice ypp yps.length ypc) ∧ w'.cell? ⟨gy, 2, none⟩ = some (.int .i64 yrt) ∧ w'.cell? ⟨gy, 3, none⟩ = some (.slice ybp ybs.length ybc) ∧ Below w4.heap.size w4 w') := fun w hs =>
      (Size_any w.heap.size (located bs) w (.string nm) (.slice pp ps.length pc) rt nm pp ps.length pc bp bs.length bc (Nat.le_refl _) (blocksAt_in (lasts_Fn _ _ _ _ _ hs.2.2.2.2.2.2.2.2 hs.2.2.2.2.2.2.2.2.size HG.out.2.1).2) T2 HG.out.2.2.2 hT2).mono fun e w' ⟨he, hb⟩ => ⟨he, hSl w w' hs hb⟩
    have HcC := Lib.hid cC
    have HcS := Lib.hid cS
    have HcZ1 := Lib.hid cZ1
    have HcZ2 := Lib.hid cZ2
    clear eT1 eT2 hlen hin4 hf4 hyz hyw hSl cC cS cZ1 cZ2 hl S4 hT12 hT2
    go_region_held3 (fun w' => (w'.cell? ⟨W.heap.size, 0, none⟩ = some (.string nm) ∧ w'.cell? ⟨W.heap.size, 1, none⟩ = some (.slice pp ps.length pc) ∧ w'.cell? ⟨W.heap.size, 2, none⟩ = some (.int .i64 rt) ∧ w'.cell? ⟨W.heap.size, 3, none⟩ = some (.slice bp bs.length bc) ∧ w'.cell? ⟨gy, 0, none⟩ = some (.string ynm) ∧ w'.cell? ⟨gy, 1, none⟩ = some (.slice ypp yps.length ypc) ∧ w'.cell? ⟨gy, 2, none⟩ = some (.int .i64 yrt) ∧ w'.cell? ⟨gy, 3, none⟩ = some (.slice ybp ybs.length ybc) ∧ Below w4.heap.size w4 w'))
        (((try dsimp only); (repeat' apply And.intro) <;> (first | (with_reducible assumption) | (rw [World.cell?_drew]; with_reducible assumption) | (with_reducible apply below_drew; with_reducible assumption))))
        (first
          | ((with_reducible refine (HcC.out _ (by (repeat' apply And.intro) <;> (first | (with_reducible assumption) | (rw [World.cell?_drew]; with_reducible assumption) | (with_reducible apply below_drew; with_reducible assumption)))).mono ?_); rintro e w' ⟨Y, rfl, hY, k0, k1, k2, k3, k4, k5, k6, k7, k8⟩)
          | ((with_reducible refine (HcS.out _ _ (by with_reducible assumption) (by (repeat' apply And.intro) <;> (first | (with_reducible assumption) | (rw [World.cell?_drew]; with_reducible assumption) | (with_reducible apply below_drew; with_reducible assumption)))).mono ?_); rintro e w' ⟨rfl, k0, k1, k2, k3, k4, k5, k6, k7, k8⟩)
          | ((with_reducible refine (HcZ1.out _ (by (repeat' apply And.intro) <;> (first | (with_reducible assumption) | (rw [World.cell?_drew]; with_reducible assumption) | (with_reducible apply below_drew; with_reducible assumption)))).mono ?_); rintro e w' ⟨rfl, k0, k1, k2, k3, k4, k5, k6, k7, k8⟩)
          | ((with_reducible refine (HcZ2.out _ (by (repeat' apply And.intro) <;> (first | (with_reducible assumption) | (rw [World.cell?_drew]; with_reducible assumption) | (with_reducible apply below_drew; with_reducible assumption)))).mono ?_); rintro e w' ⟨rfl, k0, k1, k2, k3, k4, k5, k6, k7, k8⟩))
    have S5 := HS4.out.later k8
    have HS5 := Lib.hid S5
    have kyc : ybs.length ≤ ybc ∧ ybc ≤ maxLen := by
      have h1 := (S5.own (a, b, fun u => FnOwn a b u ⟨ynm, ypp, yps.length, ypc, yps, yrt, ybp, ybs.length, ybc, ybs⟩) (.head _)).1
      obtain ⟨d, _, h2⟩ := h1
      exact h2.caps'
    obtain ⟨kyc1, kyc2⟩ := kyc
    unfold maxLen at kyc2
    rename World => w6
    have p3 := S5.get (.head _) 3 _ rfl
    have q3 := S5.get (.tail _ (.head _)) 3 _ rfl
    clear S5 HcC HcS HcZ1 HcZ2 hne hd1 hd2 hT12i
    go_wp2_with fail
    have hfi : ∀ w, Stands W [(gy, [.string ynm, .slice ypp yps.length ypc, .int .i64 yrt, .slice ybp ybs.length ybc]), (W.heap.size, [.string nm, .slice pp ps.length pc, .int .i64 rt, .slice bp bs.length bc])] [(a, b, fun u => FnOwn a b u ⟨ynm, ypp, yps.length, ypc, yps, yrt, ybp, ybs.length, ybc, ybs⟩)] w → FnIn w.heap.size w ⟨ynm, ypp, yps.length, ypc, yps, yrt, ybp, ybs.length, ybc, ybs⟩ := fun w hS => by
      have h1 := hS.own (a, b, fun u => FnOwn a b u ⟨ynm, ypp, yps.length, ypc, yps, yrt, ybp, ybs.length, ybc, ybs⟩) (.head _)
      exact FnOwn.lies h1.2.2.1 h1.1
    have HFI := Lib.hid hfi
    clear hfi p3 q3 k0 k1 k2 k3 k4 k5 k6 k7 k8
    go_loopw [47] (fun t wr => ∃ b1 : Nat, b1 ≤ ybs.length ∧ t = .int .i64 b1 ∧ Stands W [(gy, [.string ynm, .slice ypp yps.length ypc, .int .i64 yrt, .slice ybp ybs.length ybc]), (W.heap.size, [.string nm, .slice pp ps.length pc, .int .i64 rt, .slice bp bs.length bc])] [(a, b, fun u => FnOwn a b u ⟨ynm, ypp, yps.length, ypc, yps, yrt, ybp, ybs.length, ybc, ybs⟩)] wr) (fun t _ => ybs.length - (intOf t).toNat)
    case atStart => exact ⟨0, Nat.zero_le _, rfl, HS5.out⟩
    case round =>
      obtain ⟨b1, hb1, rfl, hS⟩ := hrel
      by_cases hlt : b1 < ybs.length
      · obtain ⟨ad, rfl, hab, c0⟩ := blk_row (HFI.out wr hS).2 b1 hlt
        have hcode : BlkIn wr.heap.size wr ybs[b1] := (HFI.out wr hS).2.2.2.2.2 ybs[b1] (List.getElem_mem hlt)
        obtain ⟨c, ec⟩ : ∃ c, ybs[b1] = c := ⟨_, rfl⟩
        have hmem : c ∈ ybs := by rw [← ec]; exact List.getElem_mem hlt
        rw [ec] at c0 hcode
        clear ec
        obtain ⟨q, cn, cc, code⟩ := c
        obtain rfl : cn = code.length := hcode.1
        have kc1 : code.length ≤ cc := hcode.2.1
        have kc2 : cc ≤ maxLen := hcode.2.2.1
        unfold maxLen at kc2
        simp only at c0
        have hwl : wr.heap.size < (wr.alloc (.cells #[.slice q code.length cc] 43)).heap.size := by simp
        have hS1 := Lib.hid (hS.alloc (.cells #[.slice q code.length cc] 43))
        have HM := Lib.hid hmem
        clear hcode hS hmem
        go_wp2_with fail
        go_loopw [54] (fun t wi => ∃ i : Nat, i ≤ code.length ∧ t = .int .i64 i ∧ Stands W [(gy, [.string ynm, .slice ypp yps.length ypc, .int .i64 yrt, .slice (some ad) ybs.length ybc]), (W.heap.size, [.string nm, .slice pp ps.length pc, .int .i64 rt, .slice bp bs.length bc])] [(a, b, fun u => FnOwn a b u ⟨ynm, ypp, yps.length, ypc, yps, yrt, (some ad), ybs.length, ybc, ybs⟩)] wi) (fun t _ => code.length - (intOf t).toNat)
        case atStart => exact ⟨0, Nat.zero_le _, rfl, hS1.out⟩
        case round =>
          rename World => wi
          obtain ⟨i, hi, rfl, hI⟩ := hrel
          by_cases hil : i < code.length
          · have hbi : BlkIn wi.heap.size wi ⟨q, code.length, cc, code⟩ := (HFI.out wi hI).2.2.2.2.2 _ HM.out
            obtain ⟨a2, rfl, hab2, z0, z1, z2, z3, z4, z5, z6⟩ := li_row hbi i hil
            have hii : InsIn wi.heap.size wi code[i] := hbi.2.2.2.2 code[i] (List.getElem_mem hil)
            have hnf : nfP (insD code[i]) ∈ (nfs (clF D)).flatten := by
              rw [← HY.out]
              unfold nfs fnD
              exact List.mem_flatten.2 ⟨_, List.mem_map_of_mem (List.mem_map_of_mem HM.out), List.mem_map_of_mem (by unfold blkD; exact List.mem_map_of_mem (List.getElem_mem hil))⟩
            obtain ⟨x, ex⟩ : ∃ x, code[i] = x := ⟨_, rfl⟩
            have hxm : x ∈ code := by rw [← ex]; exact List.getElem_mem hil
            rw [ex] at z0 z1 z2 z3 z4 z5 z6 hii hnf
            clear ex
            obtain ⟨⟨op, rg, ty, xn, fl, ap, al, ac, tp2, tl, tc2, args⟩, tg⟩ := x
            obtain rfl : al = args.length := hii.1.1
            have ka1 : args.length ≤ ac := hii.1.2.1
            have ka2 : ac ≤ maxLen := hii.1.2.2.1
            unfold maxLen at ka2
            simp only at z0 z1 z2 z3 z4 z5 z6
            have hwl2 : wi.heap.size < (wi.alloc (.cells #[.int .i64 op, .int .i64 rg, .int .i64 ty, .int .i64 xn, .int .i64 fl, .slice ap args.length ac, .slice tp2 tl tc2] 46)).heap.size := by simp
            have hI1 := Lib.hid (hI.alloc (.cells #[.int .i64 op, .int .i64 rg, .int .i64 ty, .int .i64 xn, .int .i64 fl, .slice ap args.length ac, .slice tp2 tl tc2] 46))
            have HX := Lib.hid (And.intro hxm hnf)
            clear hbi hii hI hxm hnf
            go_wp2_with fail
            go_loopw [61] (fun t wj => ∃ j : Nat, j ≤ args.length ∧ t = .int .i64 j ∧ Stands W [(gy, [.string ynm, .slice ypp yps.length ypc, .int .i64 yrt, .slice (some ad) ybs.length ybc]), (W.heap.size, [.string nm, .slice pp ps.length pc, .int .i64 rt, .slice bp bs.length bc])] [(a, b, fun u => FnOwn a b u ⟨ynm, ypp, yps.length, ypc, yps, yrt, (some ad), ybs.length, ybc, ybs⟩)] wj) (fun t _ => args.length - (intOf t).toNat)
            case atStart => exact ⟨0, Nat.zero_le _, rfl, hI1.out⟩
            case round =>
              rename World => wj
              obtain ⟨j, hj, rfl, hJ⟩ := hrel
              by_cases hjl : j < args.length
              · have hbj : BlkIn wj.heap.size wj ⟨some a2, code.length, cc, code⟩ := (HFI.out wj hJ).2.2.2.2.2 _ HM.out
                have hij := hbj.2.2.2.2 _ HX.out.1
                obtain ⟨a3, rfl, hab3, y0, y1, y2⟩ := arg_row hij.1 j hjl
                obtain ⟨v, ev⟩ : ∃ v, args[j] = v := ⟨_, rfl⟩
                have hvm : v ∈ args := by rw [← ev]; exact List.getElem_mem hjl
                rw [ev] at y0 y1 y2
                clear ev
                obtain ⟨vk, vn, vb⟩ := v
                simp only at y0 y1 y2
                have hP := hJ.put [.int .i64 vk, .int .i64 vn, .int .u64 vb] 49
                have HP := Lib.hid hP
                have HV := Lib.hid hvm
                have hwl3 : wj.heap.size < (wj.alloc (.cells #[.int .i64 vk, .int .i64 vn, .int .u64 vb] 49)).heap.size := by simp
                have hfc : W.heap.size < wj.heap.size := hJ.lt (.tail _ (.head _))
                have hgc : gy < wj.heap.size := hJ.lt (.head _)
                have s0 := hP.get (.tail _ (.tail _ (.head _))) 0 _ rfl
                have s1 := hP.get (.tail _ (.tail _ (.head _))) 1 _ rfl
                have s2 := hP.get (.tail _ (.tail _ (.head _))) 2 _ rfl
                have s3 := hP.get (.tail _ (.tail _ (.head _))) 3 _ rfl
                clear hbj hij hJ hP hvm
                go_wp2_with fail
                have hP1 := HP.out
                refine (Def_any _ (located bs) _ rt vn nm pp ps.length pc bp bs.length bc (Nat.le_refl _) (blocksAt_in (hP1.arg H.out.1).2)).mono ?_
                rintro e w7 ⟨f1, dy1, dz1, hd1, rfl, hbw7⟩
                have hP7 := hP1.later hbw7
                have HP7 := Lib.hid (And.intro hP7 hd1)
                clear hP1 s0 s1 s2 s3 hbw7 hd1 HP c0 z0 z1 z2 z3 z4 z5 z6 y0 y1 y2 hwl3
                have hgv : wj.heap.size < w7.heap.size := hP7.lt (.head _)
                have hgy7 : gy < w7.heap.size := hP7.lt (.tail _ (.head _))
                have m0 := hP7.get (.head _) 0 _ rfl
                have m1 := hP7.get (.head _) 1 _ rfl
                have s0 := hP7.get (.tail _ (.head _)) 0 _ rfl
                have s1 := hP7.get (.tail _ (.head _)) 1 _ rfl
                have s2 := hP7.get (.tail _ (.head _)) 2 _ rfl
                have s3 := hP7.get (.tail _ (.head _)) 3 _ rfl
                clear hP7
                go_wp2_with fail
                have hP8 := HP7.out.1.alloc (.cells #[.int .i64 0, .int .i64 dy1, .int .i64 dz1] 51)
                have hS8 := hP8.sub (R' := [(gy, [.string ynm, .slice ypp yps.length ypc, .int .i64 yrt, .slice (some ad) ybs.length ybc]), (W.heap.size, [.string nm, .slice pp ps.length pc, .int .i64 rt, .slice bp bs.length bc])]) (O' := [(a, b, fun u => FnOwn a b u ⟨ynm, ypp, yps.length, ypc, yps, yrt, some ad, ybs.length, ybc, ybs⟩)]) (fun x hx => List.mem_cons_of_mem _ hx) (fun x hx => hx)
                refine (Def_any _ (located ybs) _ yrt vn ynm ypp yps.length ypc (some ad) ybs.length ybc (Nat.le_refl _) (blocksAt_in (HFI.out _ hS8).2)).mono ?_
                rintro e w9 ⟨f2, dy2, dz2, hd2, rfl, hbw9⟩
                have hP9 := hP8.later hbw9
                have hgv9 : wj.heap.size < w9.heap.size := hP9.lt (.head _)
                clear m0 m1
                have m0 := hP9.get (.head _) 0 _ rfl
                have hS9 := (hS8.later hbw9).alloc (.cells #[.int .i64 0, .int .i64 dy2, .int .i64 dz2] 51)
                have hff : vk = 1 → f1 = f2 := fun hk => by
                  have h1 := made_def (y := ⟨nm, pp, ps.length, pc, ps, rt, bp, bs.length, bc, bs⟩) HP7.out.2
                  have h2 := made_def (y := ⟨ynm, ypp, yps.length, ypc, yps, yrt, some ad, ybs.length, ybc, ybs⟩) hd2
                  rw [H.out.2.2.2.2.2.2.2.1] at h1
                  rw [HY.out] at h2
                  have h3 := made_stay D HX.out.2 (r := vn) (List.any_eq_true.2 ⟨_, HV.out, by unfold isU; rw [hk]; simp⟩)
                  have h4 : f1 = true ↔ f2 = true := h1.trans (h3.trans h2.symm)
                  cases f1 <;> cases f2 <;> simp_all
                have HE := Lib.hid (And.intro hS9 hff)
                clear hP8 hS8 hd2 hP9 hS9 hff s0 s1 s2 s3 hbw9
                by_cases hk : vk = 1
                · obtain rfl : f1 = f2 := HE.out.2 hk
                  subst hk
                  have hne : (f1 != f1) = false := by cases f1 <;> rfl
                  go_wp2_with fail
                  exact ⟨⟨j + 1, by omega, by go_num, HE.out.1⟩, by simp [intOf]; omega⟩
                · have hk2 : (vk == 1) = false := by simpa using hk
                  go_wp2_with fail
                  exact ⟨⟨j + 1, by omega, by go_num, HE.out.1⟩, by simp [intOf]; omega⟩
              · obtain rfl : j = args.length := by omega
                have HJ := Lib.hid hJ
                clear hJ
                go_wp2_with fail
                exact ⟨⟨i + 1, by omega, by go_num, HJ.out⟩, by simp [intOf]; omega⟩
          · obtain rfl : i = code.length := by omega
            have HI := Lib.hid hI
            clear hI
            go_wp2_with fail
            exact ⟨⟨b1 + 1, by omega, by go_num, HI.out⟩, by simp [intOf]; omega⟩
      · obtain rfl : b1 = ybs.length := by omega
        have HI := Lib.hid hS
        clear hS
        go_wp2_with fail
        go_ret
        exact ⟨rfl, HI.out.past.2⟩
end Go.Proofs.Ytdfdgpobohpphaa
