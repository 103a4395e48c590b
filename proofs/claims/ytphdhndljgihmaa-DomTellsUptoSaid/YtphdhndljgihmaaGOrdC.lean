/- Package graph: Order. -/
import Derived.Test.YtphdhndljgihmaaGRev
import Derived.Deep.LoopGhost
namespace Go.Proofs.Ytphdhndljgihmaa
open Go.RowKit Go.Maps
set_option linter.unusedVariables false
set_option linter.unusedSimpArgs false

theorem nodup_lt : ∀ (n : Nat) (l : List Nat), l.Nodup → (∀ x ∈ l, x < n) → l.length ≤ n
  | 0, [], _, _ => Nat.le_refl _
  | 0, a :: l, _, h => absurd (h a (List.mem_cons_self ..)) (Nat.not_lt_zero _)
  | n + 1, l, h1, h2 => by
    by_cases hm : n ∈ l
    · have h3 := nodup_lt n (l.erase n) (h1.erase n) (fun x hx => by
        have h4 := h2 x (List.mem_of_mem_erase hx)
        have h5 : x ≠ n := fun e => by subst e; exact (List.Nodup.not_mem_erase h1) hx
        omega)
      rw [List.length_erase_of_mem hm] at h3
      omega
    · have h3 := nodup_lt n l h1 (fun x hx => by
        have h4 := h2 x hx
        have h5 : x ≠ n := fun e => hm (e ▸ hx)
        omega)
      omega
theorem order_ends {S : Nat → List Nat} {n : Nat} (hS : ∀ b, ∀ t ∈ S b, t < n) : ∀ (k : Nat) (d : DS), mu S n d ≤ k → Ginv S n d → ∃ L mk, Gsts S d ⟨[], L, mk⟩
  | k, ⟨[], o, m⟩, _, _ => ⟨o, m, Gsts.refl _⟩
  | k, ⟨(b, l) :: u, o, m⟩, hk, hi => by
    have hn : ∀ x ∈ (b, l) :: u, ∀ t ∈ x.2, t < n := fun x hx t ht => hS _ t (hi.sub x hx t ht)
    obtain ⟨d', hd⟩ : ∃ d', Gst S ⟨(b, l) :: u, o, m⟩ d' := by
      cases l with
      | nil => exact ⟨_, Gst.pop b u o m⟩
      | cons t l =>
        by_cases h : t ∈ m
        · exact ⟨_, Gst.skip b t l u o m h⟩
        · exact ⟨_, Gst.push b t l u o m h⟩
    have hlt := hd.lower hn
    cases k with
    | zero => omega
    | succ k =>
      obtain ⟨L, mk, h⟩ := order_ends hS k d' (by omega) (hi.step hS hd)
      exact ⟨L, mk, (Gsts.tail _ _ _ (Gsts.refl _) hd).trans h⟩
theorem order_ex {S : Nat → List Nat} {n : Nat} (hS : ∀ b, ∀ t ∈ S b, t < n) : ∃ L, OrderIs S n L := by
  by_cases h0 : n = 0
  · exact ⟨[], .inl ⟨h0, rfl⟩⟩
  · obtain ⟨L, mk, h⟩ := order_ends hS _ _ (Nat.le_refl _) (Ginv.start S n (by omega))
    exact ⟨L, .inr ⟨by omega, mk, h⟩⟩
theorem Ginv.sizes {S : Nat → List Nat} {n : Nat} {d : DS} (h : Ginv S n d) : d.out.length + d.st.length ≤ n := by
  have h1 := nodup_lt n _ h.nd (fun x hx => h.lt x ((h.mks x).2 (List.mem_append.1 hx)))
  rw [List.length_append, List.length_map] at h1
  exact h1
theorem infoInt : (Try.prog.info? 3).map (fun i => (i.zero, i.size, i.bytes)) = some (some (.int .i64 0), 1, 8) := by kernel_rfl
theorem infoBool : (Try.prog.info? 4).map (fun i => (i.zero, i.size, i.bytes)) = some (some (.bool false), 1, 1) := by kernel_rfl
theorem snoc_cases {α : Type} (l : List α) : l = [] ∨ ∃ r v, l = r ++ [v] := by
  rcases List.eq_nil_or_concat l with h | ⟨r, v, h⟩
  · exact .inl h
  · exact .inr ⟨r, v, by rw [h, List.concat_eq_append]⟩
theorem addr_one (a : Addr) (j : Nat) : (a.add 1).add j = a.add (j + 1) := by
  by_cases h : j = 0
  · subst h; rw [add_zero]
  · rw [Nat.add_comm j 1, add_add a 1 j h, add_pos _ _ (by omega)]
theorem Lst.tail {lo : Nat} {g h : Option Nat} {w : World} {b k t : Nat} {a : Addr} {r : List Nat} (hv : Lst lo g h w ⟨b, some a, k, t :: r⟩) : Lst lo g h w ⟨b, some (a.add 1), k - 1, r⟩ := by
  obtain ⟨h1, h2, h3⟩ := hv
  simp only [List.length_cons] at h1 h2
  refine ⟨by show r.length ≤ k - 1; omega, by show k - 1 ≤ maxLen; omega, fun j hj => ?_⟩
  obtain ⟨a', e, k1, k2, k3, k4, k5⟩ := h3 (j + 1) (by simp only [List.length_cons]; have : j < r.length := hj; omega)
  injection e with e
  subst e
  refine ⟨a.add 1, rfl, by rw [add_block]; exact k1, by rw [add_block]; exact k2, by rw [add_block]; exact k3, by rw [add_block]; exact k4, ?_⟩
  rw [addr_one, k5]; rfl
theorem Lst.none_left {lo : Nat} {g h : Option Nat} {w : World} {b k : Nat} {p : Option Addr} (hk : k ≤ maxLen) : Lst lo g h w ⟨b, p, k, []⟩ := ⟨Nat.zero_le _, hk, fun j hj => absurd hj (Nat.not_lt_zero _)⟩
theorem ents_top {d : DS} {es : List VS} {v : VS} (h : d.st = ((es ++ [v]).map (fun v => (v.b, v.l))).reverse) : d.st = (v.b, v.l) :: d.st.tail := by
  rw [h]; simp
theorem ginv_low {S : Nat → List Nat} {n : Nat} (hS : ∀ b, ∀ t ∈ S b, t < n) {a b : DS} (h : Ginv S n a) (s : Gst S a b) : mu S n b < mu S n a := s.lower (fun x hx t ht => hS _ t (h.sub x hx t ht))
theorem gst_pop {S : Nat → List Nat} {d : DS} {b : Nat} (h : d.st = (b, []) :: d.st.tail) : Gst S d ⟨d.st.tail, b :: d.out, d.md⟩ := by
  obtain ⟨st, o, m⟩ := d
  simp only at h ⊢
  generalize st.tail = u at h ⊢
  subst h
  exact Gst.pop b u o m
theorem gst_skip {S : Nat → List Nat} {d : DS} {b t : Nat} {r : List Nat} (h : d.st = (b, t :: r) :: d.st.tail) (ht : t ∈ d.md) : Gst S d ⟨(b, r) :: d.st.tail, d.out, d.md⟩ := by
  obtain ⟨st, o, m⟩ := d
  simp only at h ht ⊢
  generalize st.tail = u at h ⊢
  subst h
  exact Gst.skip b t r u o m ht
theorem gst_push {S : Nat → List Nat} {d : DS} {b t : Nat} {r : List Nat} (h : d.st = (b, t :: r) :: d.st.tail) (ht : t ∉ d.md) : Gst S d ⟨(t, S t) :: (b, r) :: d.st.tail, d.out, t :: d.md⟩ := by
  obtain ⟨st, o, m⟩ := d
  simp only at h ht ⊢
  generalize st.tail = u at h ⊢
  subst h
  exact Gst.push b t r u o m ht
theorem OrdI.start (W : World) (cs : List Value) (n : Nat) : OrdI W cs n ⟨[], [], []⟩ [] (.slice none 0 0) (.slice none 0 0) ((((W.alloc (.cells cs.toArray 25)).alloc (.cells (madeCells #[.bool false] n) 4)).alloc (.cells #[.slice (some ⟨W.heap.size + 1, 0, none⟩) n n] 38)).alloc (.cells #[.slice none 0 0] 60)) := by
  have b0 : Box W.heap.size cs (W.alloc (.cells cs.toArray 25)) := Box.new W rfl _ _
  have r1 := World.rowIs_made (W.alloc (.cells cs.toArray 25)) (.bool false) n 4
  have b2 := Box.new ((W.alloc (.cells cs.toArray 25)).alloc (.cells (madeCells #[.bool false] n) 4)) (g := W.heap.size + 2) (by simp) [.slice (some ⟨W.heap.size + 1, 0, none⟩) n n] 38
  have b3 := Box.new (((W.alloc (.cells cs.toArray 25)).alloc (.cells (madeCells #[.bool false] n) 4)).alloc (.cells #[.slice (some ⟨W.heap.size + 1, 0, none⟩) n n] 38)) (g := W.heap.size + 3) (by simp) [.slice none 0 0] 60
  simp only [World.size_alloc] at r1
  refine ⟨(((((Past.refl (Nat.le_refl _)).alloc _).alloc _).alloc _).alloc _), ((b0.alloc _).alloc _).alloc _, ((r1.alloc _).alloc _).congr (fun i hi => by simp), b2.alloc _, b3, World.ownsRow_nil _ _ _ _, rfl, fun v hv => by simp at hv, World.ownsRow_nil _ _ _ _, fun x h => by simp [Value.ownBlock] at h, by simp⟩
set_option maxRecDepth 100000 in
set_option maxHeartbeats 2000000 in
theorem Order_own (f : LFn) (W : World) (hf : FnIn W.heap.size W f) (hs : FnSm f) (hbs : f.bs.length ≤ 1048576) (L : List Nat) (hL : OrderIs (succP (fnD f).bs) f.bs.length L) :
    Calls Try.prog 26 #[.agg (fnC f).toArray] W (OwnInts L W) := by
  have hF := Lib.hid (And.intro hf hs)
  have hS : ∀ b, ∀ t ∈ succP (fnD f).bs b, t < f.bs.length := fun b t ht => by
    have := succP_lt _ _ t ht
    simpa [fnD] using this
  have hP := (Past.refl (Nat.le_refl W.heap.size)).alloc (.cells (fnC f).toArray 25)
  have A1 : Box W.heap.size (fnC f) (W.alloc (.cells (fnC f).toArray 25)) := Box.new W rfl _ _
  have cB := fun (d : DS) (es : List VS) (vO vU : Value) (w : World) h => @begin_any W f hf hs d es vO vU w h
  obtain ⟨S, eS⟩ : ∃ S, succP (fnD f).bs = S := ⟨_, rfl⟩
  rw [eS] at hL hS cB
  obtain ⟨nm, pp, pn, pc, ps, rt, bp, bn, bc, bs⟩ := f
  obtain rfl : bn = bs.length := hf.2.1
  show Calls Try.prog 26 #[.agg #[.string nm, .slice pp pn pc, .int .i64 rt, .slice bp bs.length bc]] W (OwnInts L W)
  have hfc : fnC ⟨nm, pp, pn, pc, ps, rt, bp, bs.length, bc, bs⟩ = [.string nm, .slice pp pn pc, .int .i64 rt, .slice bp bs.length bc] := rfl
  rw [hfc] at A1 hP
  obtain ⟨n, en⟩ : ∃ n, bs.length = n := ⟨_, rfl⟩
  simp only [hfc] at cB
  simp only [en] at hL hS cB A1 hP hbs ⊢
  have a3 := A1.get 3 _ rfl
  have HL := Lib.hid (And.intro hL hS)
  clear hL hS hfc en hf hs
  have HB := Lib.hid (And.intro hP A1)
  have HC := Lib.hid cB
  clear cB hP A1 eS
  go_enter Try.func26, Try.ntmps26
  by_cases h0 : n = 0
  · subst h0
    go_wp2_with fail
    go_ret
    obtain rfl : L = [] := by
      rcases HL.out.1 with ⟨_, h⟩ | ⟨h, _⟩
      · exact h
      · exact absurd h (Nat.lt_irrefl _)
    exact ⟨none, 0, rfl, HB.out.1, own_nil _ HB.out.1.size⟩
  · have hpos : 0 < n := by omega
    have hz : (((n : Nat) : Int) == 0) = false := by simp; omega
    have hmk := run_make_row' (P := Try.prog) 38 4 _ _ Try.underlying38 infoBool rfl .i64 .i64 n (by omega) (by omega)
    clear h0
    go_wp2_with fail
    refine (HC.out ⟨[], [], []⟩ [] (.slice none 0 0) (.slice none 0 0) _ ?_ 0 hpos (by simp) hbs).mono ?_
    · exact OrdI.start W [.string nm, .slice pp pn pc, .int .i64 rt, .slice bp n bc] n
    · rintro e w1 ⟨rfl, vU1, v1, hb1, hl1, hI1⟩
      have HI1 := Lib.hid (And.intro hb1 (And.intro hl1 hI1))
      clear hb1 hl1 hI1 hmk hz a3
      go_wp2_with fail
      go_loopg [3] (mu S n ⟨[(0, S 0)], [], [0]⟩) (fun k vo wr => ∃ (d : DS) (es : List VS) (vU : Value), OrdI W [.string nm, .slice pp pn pc, .int .i64 rt, .slice bp n bc] n d es vo vU wr ∧ Gsts S ⟨[(0, S 0)], [], [0]⟩ d ∧ k = mu S n d)
      case atStart => exact ⟨_, _, _, HI1.out.2.2, Gsts.refl _, rfl⟩
      case round =>
        obtain ⟨d, es, vU, hI, hG, rfl⟩ := hrel
        have hV := (Ginv.start S n hpos).steps HL.out.2 hG
        have hsz := hV.sizes
        have hlen : d.st.length = es.length := by rw [hI.ents]; simp
        obtain ⟨q, c, rfl⟩ := row_slice hI.urow
        have u0 : wr.cell? ⟨W.heap.size + 1 + 1 + 1, 0, none⟩ = some (.slice q es.length c) := hI.ubox.get 0 _ rfl
        have m0 : wr.cell? ⟨W.heap.size + 1 + 1, 0, none⟩ = some (.slice (some ⟨W.heap.size + 1, 0, none⟩) n n) := hI.mbox.get 0 _ rfl
        rcases snoc_cases es with rfl | ⟨es, v, rfl⟩
        · have HI := Lib.hid (And.intro hI (And.intro hG (And.intro hV (And.intro hsz hlen))))
          obtain ⟨po, co, rfl⟩ := row_slice hI.orow
          clear hI hG hV hsz hlen
          have HX : ∃ X : List Int, ints d.out.reverse = X ∧ X.length = d.out.length := ⟨_, rfl, by simp [ints_len]⟩
          obtain ⟨X, eX, lX⟩ := HX
          have cR := Reverse_own (W.heap.size + 4) po co X wr (by have := HI.out.1.orow; rw [eX, ← lX] at this; exact this) (by rw [lX]; have := HI.out.2.2.2.1; omega)
          rw [lX] at cR
          have HE := Lib.hid (And.intro eX lX)
          clear eX lX
          go_wp2_with fail
          refine cR.mono ?_
          rintro e w2 ⟨rfl, hr2, hg2⟩
          clear cR u0 m0
          have HR := Lib.hid (And.intro hr2 hg2)
          clear hr2 hg2
          go_wp2_with fail
          go_ret
          have hd : d.st = [] := by rw [HI.out.1.ents]; rfl
          obtain ⟨st, o, md⟩ := d
          simp only at hd
          subst hd
          have hLo : L = o := OrderIs.unique HL.out.1 (.inr ⟨hpos, md, HI.out.2.1⟩)
          subst hLo
          have h1 := HR.out.1
          rw [← HE.out.1] at h1
          have e1 : (ints L.reverse).reverse = ints L := by unfold ints; rw [List.map_reverse, List.reverse_reverse]
          rw [e1] at h1
          have hP2 := HI.out.1.past.grownRow HR.out.2 (fun j e => by have := HI.out.1.orow.lt j e; omega)
          exact ⟨po, co, rfl, hP2, ints_own h1 (by omega) rfl hP2.size⟩
        · have el : (es ++ [v]).length = es.length + 1 := by simp
          obtain ⟨g, rfl⟩ : ∃ g, q = some ⟨g, 0, none⟩ := by
            rcases hI.urow.2 with ⟨_, h1⟩ | ⟨g, cap, _, hv, _⟩
            · rw [el] at h1; omega
            · injection hv with h1 h2 h3
              exact ⟨g, h1⟩
          obtain ⟨m, em⟩ : ∃ m, es.length = m := ⟨_, rfl⟩
          have hcap : m + 1 ≤ c := by
            rcases hI.urow.2 with ⟨_, h1⟩ | ⟨g', cap', cur, e, _, _, k1, k2, _⟩
            · rw [el] at h1; omega
            · injection e with _ _ e3; subst e3; rw [el, em] at k1; exact k1
          have c0 := hI.urow.cellAt (m * 2) (by rw [el, em]; omega)
          have c1 := hI.urow.cellAt (m * 2 + 1) (by rw [el, em]; omega)
          have hfl : ((es ++ [v]).flatMap visC) = (es.flatMap visC) ++ visC v := by simp
          have hfn : (es.flatMap visC).length = m * 2 := by rw [← em]; exact flat_len visC 2 (fun _ => rfl) es
          rw [hfl, List.getElem?_append_right (by omega), hfn, Nat.sub_self] at c0
          rw [hfl, List.getElem?_append_right (by omega), hfn, Nat.add_sub_cancel_left] at c1
          replace c0 : wr.cell? ⟨g, m * 2, none⟩ = some (.int .i64 v.b) := c0
          replace c1 : wr.cell? ⟨g, m * 2 + 1, none⟩ = some (.slice v.p v.l.length v.c) := c1
          rw [el, em] at u0
          rw [el, em] at hlen
          replace hI : OrdI W [.string nm, .slice pp pn pc, .int .i64 rt, .slice bp n bc] n d (es ++ [v]) u3 (.slice (some ⟨g, 0, none⟩) (m + 1) c) wr := by rw [el, em] at hI; exact hI
          have hm : m ≤ 1048576 := by omega
          have hcast : ((m + 1 : Nat) : Int) - 1 = m := by omega
          have hpos1 : decide ((0 : Int) < ((m + 1 : Nat) : Int)) = true := by simp
          have HI := Lib.hid (And.intro hI (And.intro hG (And.intro hV (And.intro hsz (And.intro hlen em)))))
          clear hI hG hV hsz hlen em el hfl hfn
          obtain ⟨po, co, rfl⟩ := row_slice HI.out.1.orow
          have hbig := HI.out.1.big
          have hdo : d.out.length ≤ 1048576 := by have := HI.out.2.2.2.1; omega
          obtain ⟨i0, hi, hz0, hz1, hz2⟩ := info_parts infoInt
          have hlt := HI.out.1.lst v (by simp)
          obtain ⟨vb, vp, vc, vl⟩ := v
          rcases vl with _ | ⟨t, r⟩
          · have HIA := Lib.hid (HI.out.1.alloc (.cells #[.int .i64 vb] 3))
            clear hlt
            simp only [List.length_nil] at c0 c1
            go_wp2_with (at_builtin; refine wpList_append_at rfl (.tmp 34) (.tmp 39) 22 rfl (W.heap.size + 4) 3 i0 _ 1 8 Try.underlying22 hi hz0 hz1 hz2 rfl (by decide) (.slice po d.out.length co) d.out.length ((ints d.out.reverse).flatMap intC) rfl HIA.out.orow (some ⟨wr.heap.size, 0, none⟩) 1 1 [.int .i64 vb] rfl rfl (lit_one _ _ _) (by intro u hu; simp at hu; subst hu; rfl) (by unfold maxLen; omega) (by omega) (by simp; omega) ?_
                         intro v6 w6 hown6 hgrow6 hmv6
                         have I6 := HIA.out.more hown6 hgrow6 hmv6
                         obtain ⟨p6, c6, rfl⟩ := row_slice hown6
                         have u6 : w6.cell? ⟨W.heap.size + 1 + 1 + 1, 0, none⟩ = some (.slice (some ⟨g, 0, none⟩) (m + 1) c) := I6.ubox.get 0 _ rfl
                         have u6f := I6.ubox.2.1
                         have HI6 := Lib.hid I6
                         clear I6 hown6 hgrow6 hmv6 u0 m0 c0 c1)
            have hst := gst_pop (S := S) (ents_top HI.out.1.ents)
            have hlow := ginv_low HL.out.2 HI.out.2.2.1 hst
            obtain rfl := HI.out.2.2.2.2.2
            have hnew := HI6.out.pop
            go_roundg (mu S n ⟨d.st.tail, vb :: d.out, d.md⟩)
            case rel => exact ⟨_, _, _, hnew, Gsts.tail _ _ _ HI.out.2.1 hst, rfl⟩
            case measure => exact hlow
          · obtain ⟨a, rfl, ha1, ha2, ha3, ha4, ha5⟩ := hlt.2.2 0 (by simp)
            have htn : t < n := HL.out.2 vb t (HI.out.2.2.1.sub _ (by rw [ents_top HI.out.1.ents]; exact List.mem_cons_self ..) t (List.mem_cons_self ..))
            simp only [List.length_cons] at c1 hlt
            have hk1 : r.length + 1 ≤ vc := hlt.1
            have hk2 : vc ≤ maxLen := hlt.2.1
            have hz2 : (((r.length + 1 : Nat) : Int) == 0) = false := by simp; omega
            have ha5 : wr.cell? (a.add 0) = some (.int .i64 t) := ha5
            have ha6 : wr.cell? a = some (.int .i64 t) := by rw [add_zero] at ha5; exact ha5
            have HT := Lib.hid hlt
            obtain ⟨z, ez⟩ : ∃ z, r.length = z := ⟨_, rfl⟩
            have HZ := Lib.hid ez
            simp only [ez] at c1 hk1 hz2
            clear hlt ez ha5
            unfold maxLen at hk2
            have hg : W.heap.size + 4 ≤ g := (HI.out.1.urow.lt g rfl).1
            have hur := HI.out.1.urow
            rw [show (es ++ [(⟨vb, some a, vc, t :: r⟩ : VS)]).length = m + 1 by rw [List.length_append, HI.out.2.2.2.2.2]; rfl] at hur
            have hgf := hur.frozenAt (m * 2 + 1)
            clear hur
            have mt := HI.out.1.mrow.cell htn
            by_cases hvc : vc = 1
            · subst hvc
              obtain rfl : z = 0 := by omega
              obtain rfl : r = [] := List.eq_nil_of_length_eq_zero HZ.out
              go_upto_region 15 with fail
              obtain ⟨w7, ew7⟩ : ∃ w7, wr.setCell ⟨g, m * 2 + 1, none⟩ (.slice (some a) 0 0) = w7 := ⟨_, rfl⟩
              have I7 : OrdI W [.string nm, .slice pp pn pc, .int .i64 rt, .slice bp n bc] n ⟨(vb, []) :: d.st.tail, d.out, d.md⟩ (es ++ [⟨vb, some a, 0, []⟩]) (.slice po d.out.length co) (.slice (some ⟨g, 0, none⟩) (m + 1) c) w7 := by
                have em := HI.out.2.2.2.2.2
                have ez := HZ.out
                subst em
                rw [← ew7]
                exact HI.out.1.next (t := t) (Lst.none_left (Nat.zero_le _))
              simp only [ew7]
              have hlow7 := HT.out
              clear m0 u0 c0 c1 hgf mt ew7 ha6 hlow7
              have m0 : w7.cell? ⟨W.heap.size + 1 + 1, 0, none⟩ = some (.slice (some ⟨W.heap.size + 1, 0, none⟩) n n) := I7.mbox.get 0 _ rfl
              by_cases htm : t ∈ d.md
              · have mt : w7.cell? ⟨W.heap.size + 1, t, none⟩ = some (.bool true) := (I7.mrow.cell htn).trans (by simp [htm])
                have hst := gst_skip (S := S) (ents_top HI.out.1.ents) htm
                have hlow := ginv_low HL.out.2 HI.out.2.2.1 hst
                have HX := Lib.hid (And.intro I7 (And.intro hst hlow))
                clear I7 hst hlow htm
                go_wp2_with fail
                go_roundg (mu S n ⟨(vb, []) :: d.st.tail, d.out, d.md⟩)
                case rel => exact ⟨_, _, _, HX.out.1, Gsts.tail _ _ _ HI.out.2.1 HX.out.2.1, rfl⟩
                case measure => exact HX.out.2.2
              · have mt : w7.cell? ⟨W.heap.size + 1, t, none⟩ = some (.bool false) := (I7.mrow.cell htn).trans (by simp [htm])
                have hst := gst_push (S := S) (ents_top HI.out.1.ents) htm
                have hlow := ginv_low HL.out.2 HI.out.2.2.1 hst
                have HX := Lib.hid (And.intro I7 (And.intro hst hlow))
                have hes : (es ++ [(⟨vb, some a, 0, []⟩ : VS)]).length ≤ 1048576 := by
                  have h1 := HI.out.2.2.2.1
                  have h2 := HI.out.2.2.2.2.1
                  rw [List.length_append, HI.out.2.2.2.2.2]
                  show m + 1 ≤ _
                  omega
                have cC := HC.out _ _ _ _ _ I7 t htn hes hbs
                clear I7 hst hlow htm hes
                go_wp2_with fail
                refine cC.mono ?_
                rintro e w8 ⟨rfl, vU8, v8, hb8, hl8, I8⟩
                have HX8 := Lib.hid (And.intro hb8 (And.intro hl8 I8))
                clear hb8 hl8 I8 cC m0 mt
                go_wp2_with fail
                go_roundg (mu S n ⟨(t, S t) :: (vb, []) :: d.st.tail, d.out, t :: d.md⟩)
                case rel => exact ⟨_, _, _, HX8.out.2.2, Gsts.tail _ _ _ HI.out.2.1 HX.out.2.1, rfl⟩
                case measure => exact HX.out.2.2
            · have hkz : 1 < vc := by omega
              go_upto_region 15 with fail
              obtain ⟨w7, ew7⟩ : ∃ w7, wr.setCell ⟨g, m * 2 + 1, none⟩ (.slice (some ⟨a.block, a.off + 1, none⟩) z (vc - 1)) = w7 := ⟨_, rfl⟩
              have I7 : OrdI W [.string nm, .slice pp pn pc, .int .i64 rt, .slice bp n bc] n ⟨(vb, r) :: d.st.tail, d.out, d.md⟩ (es ++ [⟨vb, some ⟨a.block, a.off + 1, none⟩, (vc - 1), r⟩]) (.slice po d.out.length co) (.slice (some ⟨g, 0, none⟩) (m + 1) c) w7 := by
                have em := HI.out.2.2.2.2.2
                have ez := HZ.out
                subst em
                rw [← ew7, ← ez]
                exact HI.out.1.next (t := t) (by have := HT.out.tail; rw [add_pos a 1 (by decide)] at this; exact this)
              simp only [ew7]
              have hlow7 := HT.out
              clear m0 u0 c0 c1 hgf mt ew7 ha6 hlow7
              have m0 : w7.cell? ⟨W.heap.size + 1 + 1, 0, none⟩ = some (.slice (some ⟨W.heap.size + 1, 0, none⟩) n n) := I7.mbox.get 0 _ rfl
              by_cases htm : t ∈ d.md
              · have mt : w7.cell? ⟨W.heap.size + 1, t, none⟩ = some (.bool true) := (I7.mrow.cell htn).trans (by simp [htm])
                have hst := gst_skip (S := S) (ents_top HI.out.1.ents) htm
                have hlow := ginv_low HL.out.2 HI.out.2.2.1 hst
                have HX := Lib.hid (And.intro I7 (And.intro hst hlow))
                clear I7 hst hlow htm
                go_wp2_with fail
                go_roundg (mu S n ⟨(vb, r) :: d.st.tail, d.out, d.md⟩)
                case rel => exact ⟨_, _, _, HX.out.1, Gsts.tail _ _ _ HI.out.2.1 HX.out.2.1, rfl⟩
                case measure => exact HX.out.2.2
              · have mt : w7.cell? ⟨W.heap.size + 1, t, none⟩ = some (.bool false) := (I7.mrow.cell htn).trans (by simp [htm])
                have hst := gst_push (S := S) (ents_top HI.out.1.ents) htm
                have hlow := ginv_low HL.out.2 HI.out.2.2.1 hst
                have HX := Lib.hid (And.intro I7 (And.intro hst hlow))
                have hes : (es ++ [(⟨vb, some ⟨a.block, a.off + 1, none⟩, (vc - 1), r⟩ : VS)]).length ≤ 1048576 := by
                  have h1 := HI.out.2.2.2.1
                  have h2 := HI.out.2.2.2.2.1
                  rw [List.length_append, HI.out.2.2.2.2.2]
                  show m + 1 ≤ _
                  omega
                have cC := HC.out _ _ _ _ _ I7 t htn hes hbs
                clear I7 hst hlow htm hes
                go_wp2_with fail
                refine cC.mono ?_
                rintro e w8 ⟨rfl, vU8, v8, hb8, hl8, I8⟩
                have HX8 := Lib.hid (And.intro hb8 (And.intro hl8 I8))
                clear hb8 hl8 I8 cC m0 mt
                go_wp2_with fail
                go_roundg (mu S n ⟨(t, S t) :: (vb, r) :: d.st.tail, d.out, t :: d.md⟩)
                case rel => exact ⟨_, _, _, HX8.out.2.2, Gsts.tail _ _ _ HI.out.2.1 HX.out.2.1, rfl⟩
                case measure => exact HX.out.2.2

end Go.Proofs.Ytphdhndljgihmaa
