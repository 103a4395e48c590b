/- The document's Idom. -/
import Derived.Test.YtphdhndljgihmaaTab
import Derived.Test.YtphdhndljgihmaaDList
import Derived.Test.YtphdhndljgihmaaIdom
namespace Go.Proofs.Ytphdhndljgihmaa
open Go.RowKit Go.Maps
set_option linter.unusedVariables false
set_option linter.unusedSimpArgs false

open Classical in
noncomputable def nrB (S : Nat → List Nat) (b a c : Nat) : Bool := decide (∀ x, x < c → x ≠ b → Dm S x b → Dm S x a)
theorem nrB_0 (S : Nat → List Nat) (b a : Nat) : nrB S b a 0 = true := by unfold nrB; simp
theorem nrB_succ (S : Nat → List Nat) (b a c : Nat) : nrB S b a (c + 1) = (nrB S b a c && !(!decide (c = b) && dmB S c b && !dmB S c a)) := by
  rw [Bool.eq_iff_iff]
  unfold nrB
  simp only [Bool.and_eq_true, decide_eq_true_eq, Bool.not_eq_true', Bool.and_eq_false_iff, Bool.not_eq_false', dmB_iff, ← Bool.not_eq_true]
  constructor
  · intro h
    refine ⟨fun x hx => h x (by omega), ?_⟩
    by_cases e : c = b
    · simp [e]
    · by_cases e2 : Dm S c b
      · have := h c (Nat.lt_succ_self c) e e2
        simp [dmB_iff, this]
      · simp [dmB_iff, e2]
  · rintro ⟨h1, h2⟩ x hx hne hd
    by_cases e : x = c
    · subst e
      simp [dmB_iff, hne, hd] at h2
      exact h2
    · exact h1 x (by omega) hne hd
theorem nrB_end {S : Nat → List Nat} {n a b : Nat} (hn : 0 < n) (hS : ∀ b, ∀ t ∈ S b, t < n) (hne : a ≠ b) (hd : Dm S a b) : nrB S b a n = true ↔ IsUp S b a := by
  rw [isUp_iff hn hS]
  have e : nrB S b a n = true ↔ ∀ x, x < n → x ≠ b → Dm S x b → Dm S x a := by unfold nrB; simp
  rw [e]
  exact ⟨fun h => ⟨hne, hd, h⟩, fun h => h.2.2⟩
noncomputable def upR (S : Nat → List Nat) (b a x : Nat) : Int := if x = b then upTo S b a else if x < b then upI S x else 0
set_option maxRecDepth 100000 in
set_option maxHeartbeats 8000000 in
theorem rIdom_own (f : LFn) (W : World) (hf : FnIn W.heap.size W f) (hs : FnSm f) (hbs : f.bs.length ≤ 1048576) :
    Calls Try.prog 19 #[.agg (fnC f).toArray] W (OwnUp (succP (fnD f).bs) f.bs.length W) := by
  have hmk := run_make_row' (P := Try.prog) 22 3 _ _ Try.underlying22 infoInt rfl .i64 .i64 f.bs.length (by omega) (by omega)
  have hP := (Past.refl (Nat.le_refl W.heap.size)).alloc (.cells (fnC f).toArray 25)
  have A1 : Box W.heap.size (fnC f) (W.alloc (.cells (fnC f).toArray 25)) := Box.new W rfl _ _
  have HN : Hid (∀ b, ∀ t ∈ succP (fnD f).bs b, t < f.bs.length) := Lib.hid (fun b t ht => by
    have := succP_lt _ _ t ht
    simpa [fnD] using this)
  have c1 := rTable_own f (W.alloc (.cells (fnC f).toArray 25)) (past_lasts lasts_Fn hf hP) hs hbs
  obtain ⟨S, eS⟩ : ∃ S, succP (fnD f).bs = S := ⟨_, rfl⟩
  simp only [eS] at c1 HN ⊢
  obtain ⟨nm, pp, pn, pc, ps, rt, bp, bn, bc, bs⟩ := f
  obtain rfl : bn = bs.length := hf.2.1
  show Calls Try.prog 19 #[.agg #[.string nm, .slice pp pn pc, .int .i64 rt, .slice bp bs.length bc]] W _
  have hfc : fnC ⟨nm, pp, pn, pc, ps, rt, bp, bs.length, bc, bs⟩ = [.string nm, .slice pp pn pc, .int .i64 rt, .slice bp bs.length bc] := rfl
  rw [hfc] at A1 hP
  simp only [hfc] at c1
  obtain ⟨n, en⟩ : ∃ n, bs.length = n := ⟨_, rfl⟩
  simp only [en] at c1 A1 hP hbs HN hmk ⊢
  have a0 := A1.get 0 _ rfl
  have a1 := A1.get 1 _ rfl
  have a2 := A1.get 2 _ rfl
  have a3 := A1.get 3 _ rfl
  have HB := Lib.hid (And.intro hP A1)
  clear hP A1 hf hs eS hfc en
  go_enter Try.func19, Try.ntmps19
  go_wp2_with fail
  refine c1.mono ?_
  rintro e w1 ⟨R, Bk, rfl, hp, hR, hB⟩
  have hPW := HB.out.1.trans ⟨HB.out.1.size, hp.2.mono HB.out.1.size⟩
  have HK := Lib.hid (And.intro hPW hB)
  clear a0 a1 a2 a3 c1 hp hR hB hPW HB
  have r0 := World.rowIs_made w1 (.int .i64 0) n 3
  have hb0 : Below w1.heap.size w1 (w1.alloc (.cells (madeCells #[.int .i64 0] n) 3)) := (Below.refl _ _).alloc (Nat.le_refl _) _
  have HI := Lib.hid (And.intro hb0 r0)
  clear hb0 r0
  go_wp2_with fail
  clear hmk
  go_loopw [6] (fun t wr => ∃ b : Nat, b ≤ n ∧ t = .int .i64 b ∧ Below w1.heap.size w1 wr ∧ wr.rowIs w1.heap.size 3 n (fun x => .int .i64 (if x < b then upI S x else 0))) (fun t _ => n - (intOf t).toNat)
  case atStart => exact ⟨0, Nat.zero_le _, rfl, HI.out.1, HI.out.2.congr (fun j _ => by simp)⟩
  case round =>
    obtain ⟨b, hbn, rfl, hb, hr⟩ := hrel
    by_cases hlt : b < n
    · have k0 := hr.cell hlt
      have kf := hr.frozen b
      have hset := (hr.set b (.int .i64 (-1))).congr (g := fun x => .int .i64 (upR S b 0 x)) (fun j hj => by
        unfold upR
        by_cases e : j = b
        · simp [e, upTo_0]
        · simp [e])
      have hbs2 := hb.setCell (show w1.heap.size ≤ (⟨w1.heap.size, b, none⟩ : Addr).block from Nat.le_refl _) (.int .i64 (-1))
      have HS := Lib.hid (And.intro hbs2 hset)
      clear hset hbs2 hb hr
      go_wp2_with fail
      clear k0 kf
      go_loopw [7] (fun t wr => ∃ a : Nat, a ≤ n ∧ t = .int .i64 a ∧ Below w1.heap.size w1 wr ∧ wr.rowIs w1.heap.size 3 n (fun x => .int .i64 (upR S b a x))) (fun t _ => n - (intOf t).toNat)
      case atStart => exact ⟨0, Nat.zero_le _, rfl, HS.out.1, HS.out.2⟩
      case round =>
        obtain ⟨a, han, rfl, hb, hr⟩ := hrel
        by_cases hlta : a < n
        · have HX := Lib.hid (And.intro hb hr)
          have hno : ¬ IsUp S b a → wr.rowIs w1.heap.size 3 n (fun x => .int .i64 (upR S b (a + 1) x)) := fun h => hr.congr (fun j hj => by
            unfold upR
            by_cases e : j = b
            · rw [if_pos e, if_pos e, upTo_no h]
            · rw [if_neg e, if_neg e])
          by_cases hab : a = b
          · have HZ := Lib.hid (hno (fun h => h.1 hab))
            have hd1 : ((a : Int) == (b : Int)) = true := by simp [hab]
            clear hno hab hb hr
            go_wp2_with fail
            exact ⟨⟨a + 1, by omega, by go_num, HX.out.1, HZ.out⟩, by simp [intOf]; omega⟩
          have hd1 : ((a : Int) == (b : Int)) = false := by simp; omega
          have hBn := HK.out.2.later hb
          have t0 := hBn.row.cell hlta
          simp only [hlta, if_true] at t0
          have t1 := (hBn.each a hlta).cell hlt
          by_cases hdm : Dm S a b
          · rw [dmB_iff.2 hdm] at t1
            have hend := nrB_end (show 0 < n by omega) HN.out hab hdm
            have HE := Lib.hid (And.intro hend (And.intro hno (nrB_0 S b a)))
            obtain ⟨g, eg⟩ : ∃ g, Bk a = g := ⟨_, rfl⟩
            rw [eg] at t0 t1
            have nr0 := nrB_0 S b a
            clear hno hab hb hr hBn hdm hend nr0 eg
            go_wp2_with fail
            clear t0 t1
            go_loopw [8, 9] (fun q t wr2 => ∃ c : Nat, c ≤ n ∧ t = .int .i64 c ∧ q = .bool (nrB S b a c) ∧ wr2 = wr) (fun _ t _ => n - (intOf t).toNat)
            case atStart => exact ⟨0, Nat.zero_le _, rfl, by rw [HE.out.2.2], rfl⟩
            case round =>
              obtain ⟨c, hcn, rfl, rfl, rfl⟩ := hrel
              by_cases hltc : c < n
              · have hBn := HK.out.2.later HX.out.1
                have t0 := hBn.row.cell hltc
                simp only [hltc, if_true] at t0
                have t1 := (hBn.each c hltc).cell hlt
                have t2 := (hBn.each c hltc).cell hlta
                have hsu := nrB_succ S b a c
                obtain ⟨d1, ed1⟩ : ∃ d, dmB S c b = d := ⟨_, rfl⟩
                obtain ⟨d2, ed2⟩ : ∃ d, dmB S c a = d := ⟨_, rfl⟩
                obtain ⟨g, eg⟩ : ∃ g, Bk c = g := ⟨_, rfl⟩
                obtain ⟨nr, enr⟩ : ∃ d, nrB S b a c = d := ⟨_, rfl⟩
                rw [eg] at t0 t1 t2
                rw [ed1] at t1 hsu
                rw [ed2] at t2 hsu
                rw [enr] at hsu
                simp only [enr]
                have HSU := Lib.hid hsu
                clear hsu ed1 ed2 eg enr hBn hd1
                by_cases hcb : c = b
                · have hd3 : ((c : Int) == (b : Int)) = true := by simp [hcb]
                  have hd4 : ((c : Int) != (b : Int)) = false := by simp [hcb]
                  have HR := Lib.hid (show nrB S b a (c + 1) = nr by rw [HSU.out]; simp [hcb])
                  clear hcb
                  go_wp2_with fail
                  exact ⟨⟨c + 1, by omega, by go_num, by rw [HR.out], by first | rfl | trivial⟩, by simp [intOf]; omega⟩
                · have hd3 : ((c : Int) == (b : Int)) = false := by simp; omega
                  have hd4 : ((c : Int) != (b : Int)) = true := by simp; omega
                  cases d1
                  case false =>
                    have HR := Lib.hid (show nrB S b a (c + 1) = nr by rw [HSU.out]; simp)
                    clear hcb
                    go_wp2_with fail
                    exact ⟨⟨c + 1, by omega, by go_num, by rw [HR.out], by first | rfl | trivial⟩, by simp [intOf]; omega⟩
                  case true =>
                    cases d2
                    case false =>
                      have HR := Lib.hid (show nrB S b a (c + 1) = false by rw [HSU.out]; simp [hcb])
                      clear hcb
                      go_wp2_with fail
                      exact ⟨⟨c + 1, by omega, by go_num, by rw [HR.out], by first | rfl | trivial⟩, by simp [intOf]; omega⟩
                    case true =>
                      have HR := Lib.hid (show nrB S b a (c + 1) = nr by rw [HSU.out]; simp)
                      clear hcb
                      go_wp2_with fail
                      exact ⟨⟨c + 1, by omega, by go_num, by rw [HR.out], by first | rfl | trivial⟩, by simp [intOf]; omega⟩
              · obtain rfl : c = n := by omega
                by_cases hup : IsUp S b a
                · have hq : nrB S b a c = true := HE.out.1.2 hup
                  rw [hq]
                  have k0 := HX.out.2.cell hlt
                  have kf := HX.out.2.frozen b
                  have hset := (HX.out.2.set b (.int .i64 (a : Int))).congr (g := fun x => .int .i64 (upR S b (a + 1) x)) (fun j hj => by
                    unfold upR
                    by_cases e : j = b
                    · rw [if_pos e, if_pos e, upTo_yes hup]
                    · rw [if_neg e, if_neg e, if_neg e])
                  have HZ := Lib.hid (And.intro (HX.out.1.setCell (show w1.heap.size ≤ (⟨w1.heap.size, b, none⟩ : Addr).block from Nat.le_refl _) (.int .i64 (a : Int))) hset)
                  clear hset hup hq
                  go_wp2_with fail
                  exact ⟨⟨a + 1, by omega, by go_num, HZ.out.1, HZ.out.2⟩, by simp [intOf]; omega⟩
                · have hq : nrB S b a c = false := by rw [Bool.eq_false_iff]; exact fun h => hup (HE.out.1.1 h)
                  rw [hq]
                  have HZ := Lib.hid (HE.out.2.1 hup)
                  clear hup hq
                  go_wp2_with fail
                  exact ⟨⟨a + 1, by omega, by go_num, HX.out.1, HZ.out⟩, by simp [intOf]; omega⟩
          · have hq : dmB S a b = false := by rw [Bool.eq_false_iff]; exact fun h => hdm (dmB_iff.1 h)
            rw [hq] at t1
            have HZ := Lib.hid (hno (fun h => hdm h.2.1))
            clear hno hab hb hr hBn hdm hq
            go_wp2_with fail
            exact ⟨⟨a + 1, by omega, by go_num, HX.out.1, HZ.out⟩, by simp [intOf]; omega⟩
        · obtain rfl : a = n := by omega
          have HZ := Lib.hid (And.intro hb (hr.congr (g := fun x => .int .i64 (if x < b + 1 then upI S x else 0)) (fun j hj => by
            unfold upR
            by_cases e : j = b
            · rw [if_pos e, if_pos (by omega), e, upTo_end (show 0 < a by omega) HN.out]
            · have : (j < b + 1) ↔ (j < b) := by omega
              rw [if_neg e]; simp only [this])))
          clear hb hr
          go_wp2_with fail
          exact ⟨⟨b + 1, by omega, by go_num, HZ.out.1, HZ.out.2⟩, by simp [intOf]; omega⟩
    · obtain rfl : b = n := by omega
      have HZ := Lib.hid (And.intro (HK.out.1.trans ⟨HK.out.1.size, hb.mono HK.out.1.size⟩) (hr.congr (g := fun x => .int .i64 (upI S x)) (fun j hj => by rw [if_pos hj])))
      have hle := HK.out.1.size
      clear hb hr
      go_wp2_with fail
      go_ret
      exact ⟨w1.heap.size, rfl, HZ.out.1, hle, HZ.out.2⟩
end Go.Proofs.Ytphdhndljgihmaa
