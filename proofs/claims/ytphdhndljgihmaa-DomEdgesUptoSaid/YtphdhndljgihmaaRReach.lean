/- The document's Reach. -/
import Derived.Test.YtphdhndljgihmaaRPre
namespace Go.Proofs.Ytphdhndljgihmaa
open Go.RowKit Go.Maps
set_option linter.unusedVariables false
set_option linter.unusedSimpArgs false

theorem LL.put {R n : Nat} {vs : Nat → Value} {M : Nat → List Int} {w w0 : World} (h : LL R n vs M w0) (hb : Below w0.heap.size w0 w) {t : Nat} (ht : t < n) {p : Option Addr} {c hi : Nat} {xs : List Int} (ho : ListOwn 3 1 intC NoOwn w0.heap.size hi w p xs.length c xs) :
    LL R n (fun j => if j = t then .slice p xs.length c else vs j) (fun j => if j = t then xs else M j) (w.setCell ⟨R, t, none⟩ (.slice p xs.length c)) := by
  have h' := h.later hb
  have hlt := fun i hi => (h.own i hi).lt
  have hR := h.row.lt
  have hnew : ∀ g, (Value.slice p xs.length c).ownBlock = some g → w0.heap.size ≤ g := fun g e => (ho.2.1.lt g e).1
  refine ⟨h'.row.set t _, fun i hi => ?_, fun i j hi hj hne g => ?_⟩
  · refine ownsRow_setCell_below ?_ (by dsimp only; omega) _
    by_cases e : i = t
    · subst e
      simp only [if_pos]
      exact ho.2.1.mono hR
    · simp only [if_neg e]
      exact h'.own i hi
  · have key : ∀ k, k < n → ∀ g, (Value.slice p xs.length c).ownBlock = some g → (vs k).ownBlock ≠ some g := fun k hk g e1 e2 => by
      have h1 := hnew g e1
      have h2 := (hlt k hk g e2).2
      omega
    by_cases ei : i = t
    · subst ei
      have ej : ¬ j = i := fun e => hne e.symm
      simp only [if_pos, if_neg ej]
      exact key j hj g
    · simp only [if_neg ei]
      by_cases ej : j = t
      · subst ej
        simp only [if_pos]
        exact fun e1 e2 => key i hi g e2 e1
      · simp only [if_neg ej]
        exact h.ap i j hi hj hne g
/-- What stands while Without goes on. -/
structure WI (W : World) (cs : List Value) (n : Nat) (T : List Nat) (vs : Nat → Value) (M : Nat → List Int) (w : World) : Prop where
  past : Past W.heap.size W w
  box : Box W.heap.size cs w
  marks : w.rowIs (W.heap.size + 1) 4 n (fun i => .bool (decide (i ∈ T)))
  ll : LL (W.heap.size + 2) n vs M w
section
variable {W w w' : World} {cs : List Value} {n : Nat} {T : List Nat} {vs : Nat → Value} {M : Nat → List Int}
theorem WI.later (h : WI W cs n T vs M w) (hb : Below w.heap.size w w') : WI W cs n T vs M w' :=
  ⟨h.past.trans ⟨h.past.size, hb.mono h.past.size⟩, h.box.later hb, rowIs_kept h.marks (below_grown hb) (by simp), h.ll.later hb⟩
theorem WI.mark (h : WI W cs n T vs M w) (t : Nat) : WI W cs n (t :: T) vs M (w.setCell ⟨W.heap.size + 1, t, none⟩ (.bool true)) := by
  refine ⟨h.past.set (a := ⟨W.heap.size + 1, t, none⟩) (by dsimp only; omega) _, h.box.other (by omega) _ _, (h.marks.set t _).congr (fun i hi => ?_), ?_⟩
  · by_cases e : i = t
    · subst e; simp
    · rw [if_neg e]; simp [e]
  · exact h.ll.stay (Nat.le_refl _) (fun k h1 h2 => Below.heap_setCell _ _ _ _ (by dsimp only; omega))
theorem WI.put (h : WI W cs n T vs M w) (hb : Below w.heap.size w w') {t : Nat} (ht : t < n) {p : Option Addr} {c hi : Nat} {xs : List Int} (ho : ListOwn 3 1 intC NoOwn w.heap.size hi w' p xs.length c xs) :
    WI W cs n T (fun j => if j = t then .slice p xs.length c else vs j) (fun j => if j = t then xs else M j) (w'.setCell ⟨W.heap.size + 2, t, none⟩ (.slice p xs.length c)) := by
  have h' := h.later hb
  exact ⟨h'.past.set (a := ⟨W.heap.size + 2, t, none⟩) (by dsimp only; omega) _, h'.box.other (by omega) _ _, h'.marks.setOther (by dsimp only; omega) _, h.ll.put hb ht ho⟩
theorem WI.congr {M' : Nat → List Int} (h : WI W cs n T vs M w) (e : ∀ i, i < n → M i = M' i) : WI W cs n T vs M' w := ⟨h.past, h.box, h.marks, h.ll.congr e⟩
end
/-- What is marked. -/
structure Mk (S : Nat → List Nat) (n : Nat) (T : List Nat) : Prop where
  nd : T.Nodup
  lt : ∀ x ∈ T, x < n
  zero : 0 ∈ T
  rch : ∀ x ∈ T, Rch S x
theorem Mk.more {S : Nat → List Nat} {n : Nat} {T : List Nat} (h : Mk S n T) {b t : Nat} (hb : b ∈ T) (ht : t ∈ S b) (hn : t < n) (hm : t ∉ T) : Mk S n (t :: T) :=
  ⟨List.nodup_cons.2 ⟨hm, h.nd⟩, fun x hx => by
    rcases List.mem_cons.1 hx with rfl | hx
    · exact hn
    · exact h.lt x hx, List.mem_cons_of_mem _ h.zero, fun x hx => by
    rcases List.mem_cons.1 hx with rfl | hx
    · exact Rch.step b x (h.rch b hb) ht
    · exact h.rch x hx⟩
theorem Mk.all {S : Nat → List Nat} {n : Nat} {T : List Nat} (h : Mk S n T) (hc : ∀ x ∈ T, ∀ t ∈ S x, t ∈ T) (x : Nat) : x ∈ T ↔ Rch S x :=
  ⟨h.rch x, fun hx => by induction hx with
    | zero => exact h.zero
    | step a t _ ht ih => exact hc a ih t ht⟩
/-- The state of the loops: nothing new so far, and what has been looked at is closed; or something new. -/
def Js (S : Nat → List Nat) (T0 T : List Nat) (mb : Bool) (b i : Nat) : Prop :=
  (mb = false ∧ T = T0 ∧ (∀ x, x < b → x ∈ T → ∀ t ∈ S x, t ∈ T) ∧ (b ∈ T → ∀ t ∈ (S b).take i, t ∈ T)) ∨ (mb = true ∧ T0.length < T.length)
theorem Js.next {S : Nat → List Nat} {T0 T : List Nat} {mb : Bool} {b i : Nat} (h : Js S T0 T mb b i) (hi : i < (S b).length) (ht : (S b)[i] ∈ T) : Js S T0 T mb b (i + 1) := by
  rcases h with ⟨h1, h2, h3, h4⟩ | h
  · refine .inl ⟨h1, h2, h3, fun hb t h => ?_⟩
    rcases (mem_take_succ (S b) i t hi).1 h with h | rfl
    · exact h4 hb t h
    · exact ht
  · exact .inr h
theorem Js.new {S : Nat → List Nat} {T0 T : List Nat} {mb : Bool} {b i t : Nat} (h : Js S T0 T mb b i) : Js S T0 (t :: T) true b (i + 1) := by
  rcases h with ⟨_, h2, _, _⟩ | h
  · exact .inr ⟨rfl, by rw [h2, List.length_cons]; omega⟩
  · exact .inr ⟨rfl, by rw [List.length_cons]; omega⟩
theorem Js.done {S : Nat → List Nat} {T0 T : List Nat} {mb : Bool} {b i : Nat} (h : Js S T0 T mb b i) (hd : b ∉ T ∨ i = (S b).length) : Js S T0 T mb (b + 1) 0 := by
  rcases h with ⟨h1, h2, h3, h4⟩ | h
  · refine .inl ⟨h1, h2, fun x hx hxT t ht => ?_, fun _ t ht => by simp at ht⟩
    by_cases e : x = b
    · subst e
      rcases hd with hd | hd
      · exact absurd hxT hd
      · exact h4 hxT t (by rw [hd, List.take_length]; exact ht)
    · exact h3 x (by omega) hxT t ht
  · exact .inr h
set_option maxRecDepth 100000 in
set_option maxHeartbeats 4000000 in
theorem rWithout_own (f : LFn) (W : World) (hf : FnIn W.heap.size W f) (hs : FnSm f) (hbs : f.bs.length ≤ 1048576) (L : List Nat) (hL : OrderIs (succP (fnD f).bs) f.bs.length L) :
    Calls Try.prog 44 #[.agg (fnC f).toArray, .int .i64 (-1)] W (OwnBools f.bs.length (fun i => decide (i ∈ L)) W) := by
  have hmk := run_make_row' (P := Try.prog) 38 4 _ _ Try.underlying38 infoBool rfl .i64 .i64 f.bs.length (by omega) (by omega)
  have hmk2 := run_make_row' (P := Try.prog) 29 22 _ _ Try.underlying29 infoInts rfl .i64 .i64 f.bs.length (by omega) (by omega)
  have hP := (Past.refl (Nat.le_refl W.heap.size)).alloc (.cells (fnC f).toArray 25)
  have A1 : Box W.heap.size (fnC f) (W.alloc (.cells (fnC f).toArray 25)) := Box.new W rfl _ _
  have hSn : ∀ b, (succP (fnD f).bs b).Nodup ∧ ∀ t ∈ succP (fnD f).bs b, t < f.bs.length := fun b => ⟨succP_nodup _ b, fun t ht => by
    have := succP_lt _ _ t ht
    simpa [fnD] using this⟩
  have hO := hL.ordered (fun b => (hSn b).2)
  have cS : ∀ (b : Nat) w, Past W.heap.size W w → Calls Try.prog 45 #[.agg (fnC f).toArray, .int .i64 b] w (OwnInts (succP (fnD f).bs b) w) := fun b w h => by
    have := rSuccs_own f b w (past_lasts lasts_Fn hf h) hs
    rw [succI_nat] at this
    exact this
  obtain ⟨S, eS⟩ : ∃ S, succP (fnD f).bs = S := ⟨_, rfl⟩
  simp only [eS] at hSn hO cS
  obtain ⟨nm, pp, pn, pc, ps, rt, bp, bn, bc, bs⟩ := f
  obtain rfl : bn = bs.length := hf.2.1
  show Calls Try.prog 44 #[.agg #[.string nm, .slice pp pn pc, .int .i64 rt, .slice bp bs.length bc], .int .i64 (-1)] W _
  have hfc : fnC ⟨nm, pp, pn, pc, ps, rt, bp, bs.length, bc, bs⟩ = [.string nm, .slice pp pn pc, .int .i64 rt, .slice bp bs.length bc] := rfl
  rw [hfc] at A1 hP
  simp only [hfc] at cS
  obtain ⟨n, en⟩ : ∃ n, bs.length = n := ⟨_, rfl⟩
  simp only [en] at cS A1 hP hbs hSn hO hmk hmk2 ⊢
  have a3 := A1.get 3 _ rfl
  have HC := Lib.hid cS
  have HO := Lib.hid (And.intro hO hSn)
  have HB := Lib.hid (And.intro hP A1)
  clear cS hP A1 hO hSn hfc hf hs hL eS en
  go_enter Try.func44, Try.ntmps44
  by_cases h0 : n = 0
  · subst h0
    have r1 := World.rowIs_made (W.alloc (.cells #[.string nm, .slice pp pn pc, .int .i64 rt, .slice bp 0 bc] 25)) (.bool false) 0 4
    have HR := Lib.hid r1
    have hmk0 := hmk
    rw [show ((0 : Nat) : Int) = 0 from rfl] at hmk0
    clear r1 hmk2
    go_wp2_with fail
    go_ret
    have h1 := HR.out
    rw [World.size_alloc] at h1
    exact ⟨W.heap.size + 1, rfl, HB.out.1.alloc _, Nat.le_succ _, h1.congr (fun i hi => absurd hi (Nat.not_lt_zero _))⟩
  · have hz : (((n : Nat) : Int) == 0) = false := by simp; omega
    have hpos : 0 < n := by omega
    have I0 : WI W [.string nm, .slice pp pn pc, .int .i64 rt, .slice bp n bc] n [0] (fun _ => .slice none 0 0) (fun j => if j < 0 then ints (S j) else []) ((((W.alloc (.cells #[.string nm, .slice pp pn pc, .int .i64 rt, .slice bp n bc] 25)).alloc (.cells (madeCells #[.bool false] n) 4)).setCell ⟨W.heap.size + 1, 0, none⟩ (.bool true)).alloc (.cells (madeCells #[.slice none 0 0] n) 22)) := by
      have r1 := World.rowIs_made (W.alloc (.cells #[.string nm, .slice pp pn pc, .int .i64 rt, .slice bp n bc] 25)) (.bool false) n 4
      rw [World.size_alloc] at r1
      have hl := LL.new (((W.alloc (.cells #[.string nm, .slice pp pn pc, .int .i64 rt, .slice bp n bc] 25)).alloc (.cells (madeCells #[.bool false] n) 4)).setCell ⟨W.heap.size + 1, 0, none⟩ (.bool true)) n
      rw [setCell_size, World.size_alloc, World.size_alloc] at hl
      refine ⟨((HB.out.1.alloc _).set (a := ⟨W.heap.size + 1, 0, none⟩) (by dsimp only; omega) _).alloc _, ((HB.out.2.alloc _).other (by omega) _ _).alloc _, ((r1.set 0 _).alloc _).congr (fun i hi => ?_), hl.congr (fun i hi => by simp)⟩
      by_cases e : i = 0
      · subst e; simp
      · rw [if_neg e]; simp [e]
    rw [World.setCell_alloc_at _ _ _ _ _ (by simp)] at I0
    have HI0 := Lib.hid I0
    have M0 : Mk S n [0] := ⟨by simp, fun x hx => by simp at hx; omega, by simp, fun x hx => by simp at hx; subst hx; exact Rch.zero⟩
    have r1 := World.rowIs_made (W.alloc (.cells #[.string nm, .slice pp pn pc, .int .i64 rt, .slice bp n bc] 25)) (.bool false) n 4
    rw [World.size_alloc] at r1
    have q0 := r1.cell hpos
    have q1 := r1.frozen 0
    have HM0 := Lib.hid M0
    clear h0 I0 M0 r1
    go_wp2_with fail
    clear hmk hmk2 a3 q0 q1
    go_loopw [8] (fun t wr => ∃ (b : Nat) (vs : Nat → Value), b ≤ n ∧ t = .int .i64 b ∧ WI W [.string nm, .slice pp pn pc, .int .i64 rt, .slice bp n bc] n [0] vs (fun j => if j < b then ints (S j) else []) wr) (fun t _ => n - (intOf t).toNat)
    case atStart => exact ⟨0, _, Nat.zero_le _, rfl, HI0.out⟩
    case round =>
      obtain ⟨b, vs, hbn, rfl, hI⟩ := hrel
      by_cases hlt : b < n
      · have b0 := hI.box.get 0 _ rfl
        have b1 := hI.box.get 1 _ rfl
        have b2 := hI.box.get 2 _ rfl
        have b3 := hI.box.get 3 _ rfl
        have c1 := HC.out b wr hI.past
        have HI := Lib.hid hI
        clear hI
        go_wp2_with fail
        refine c1.mono ?_
        rintro e w1 ⟨p, c, rfl, hp1, ho1⟩
        have hr1 := (HI.out.later hp1.2).ll.row
        have k0 := hr1.cell hlt
        obtain ⟨qv, cv, hqv⟩ := HI.out.ll.slice hlt
        rw [hqv] at k0
        have kf := hr1.frozen b
        rw [← ints_len] at ho1
        have hnew := HI.out.put hp1.2 hlt ho1
        rw [ints_len] at hnew
        have HN := Lib.hid (hnew.congr (M' := fun j => if j < b + 1 then ints (S j) else []) (fun j hj => by
          by_cases e : j = b
          · subst e; simp
          · simp only [if_neg e]
            by_cases e2 : j < b
            · rw [if_pos e2, if_pos (by omega)]
            · rw [if_neg e2, if_neg (by omega)]))
        clear c1 b0 b1 b2 b3 hnew ho1 hp1 hr1 hqv
        go_wp2_with fail
        exact ⟨⟨b + 1, _, by omega, by go_num, HN.out⟩, by simp [intOf]; omega⟩
      · obtain rfl : b = n := by omega
        have HI := Lib.hid (hI.congr (M' := fun j => ints (S j)) (fun j hj => if_pos hj))
        clear hI
        go_wp2_with fail
        go_loopg [9] (2 * b + 1) (fun k mv wr2 => ∃ (T : List Nat) (mb : Bool), mv = .bool mb ∧ Mk S b T ∧ WI W [.string nm, .slice pp pn pc, .int .i64 rt, .slice bp b bc] b T vs (fun j => ints (S j)) wr2 ∧ Hid ((mb = false → ∀ x ∈ T, ∀ t ∈ S x, t ∈ T) ∧ k + 2 * T.length = 2 * b + (if mb then 3 else 2)))
        case atStart => exact ⟨[0], true, rfl, HM0.out, HI.out, Lib.hid ⟨(fun h => by cases h), by simp⟩⟩
        case round =>
          obtain ⟨T, mb, rfl, hM, hI, hcl⟩ := hrel
          have HMM := Lib.hid hM
          have HII := Lib.hid hI
          clear hM hI
          cases mb with
          | false =>
            go_wp2_with fail
            go_ret
            refine ⟨W.heap.size + 1, rfl, HII.out.past, Nat.le_succ _, HII.out.marks.congr (fun i hi => ?_)⟩
            have h1 := HMM.out.all (hcl.out.1 (by trivial)) i
            have h2 := HO.out.1.rch i hpos
            have h3 : i ∈ T ↔ i ∈ L := h1.trans h2.symm
            by_cases e : i ∈ T
            · simp [e, h3.1 e]
            · have e' : i ∉ L := fun h => e (h3.2 h)
              simp [e, e']
          | true =>
            generalize wr = wk at *
            go_wp2_with fail
            go_loopw [9, 10] (fun mv t wr => ∃ (T' : List Nat) (mb : Bool) (x : Nat), x ≤ b ∧ t = .int .i64 x ∧ mv = .bool mb ∧ Mk S b T' ∧ WI W [.string nm, .slice pp pn pc, .int .i64 rt, .slice bp b bc] b T' vs (fun j => ints (S j)) wr ∧ Hid (Js S T T' mb x 0)) (fun _ t _ => b - (intOf t).toNat)
            case atStart => exact ⟨T, false, 0, Nat.zero_le _, rfl, rfl, HMM.out, HII.out, Lib.hid (.inl ⟨rfl, rfl, fun x hx => absurd hx (Nat.not_lt_zero _), fun _ t ht => by simp at ht⟩)⟩
            case round =>
              obtain ⟨T', mb, x, hxb, rfl, rfl, hM, hI, hJ⟩ := hrel
              have HM' := Lib.hid hM
              have HI' := Lib.hid hI
              clear hM hI
              by_cases hltx : x < b
              · generalize wr = wx at *
                go_wp2_with fail
                have hSl : (S x).length ≤ 1048576 := by
                  have h1 := HO.out.2 x
                  have := nodup_lt b _ h1.1 h1.2
                  omega
                go_loopw [9, 11] (fun mv t wr => ∃ (T' : List Nat) (mb : Bool) (i : Nat), i ≤ (S x).length ∧ t = .int .i64 i ∧ mv = .bool mb ∧ Mk S b T' ∧ WI W [.string nm, .slice pp pn pc, .int .i64 rt, .slice bp b bc] b T' vs (fun j => ints (S j)) wr ∧ Hid (Js S T T' mb x i)) (fun _ t _ => (S x).length - (intOf t).toNat)
                case atStart => exact ⟨T', mb, 0, Nat.zero_le _, rfl, rfl, HM'.out, HI'.out, hJ⟩
                case round =>
                  obtain ⟨T2, mb2, i, hile, rfl, rfl, hM, hI, hJ2⟩ := hrel
                  have cm := hI.marks.cell hltx
                  have cn := hI.ll.row.cell hltx
                  obtain ⟨q, cc, hq⟩ := hI.ll.slice hltx
                  have hown := hI.ll.own x hltx
                  rw [hq] at cn hown
                  have hown2 := Lib.hid hown
                  rw [ints_len] at cn
                  have HM2 := Lib.hid hM
                  have HI2 := Lib.hid hI
                  clear hM hI hown hq
                  by_cases hxT : x ∈ T2
                  · replace cm : wr.cell? ⟨W.heap.size + 1, x, none⟩ = some (.bool true) := cm.trans (by simp [hxT])
                    have HXT := Lib.hid hxT
                    clear hxT
                    by_cases hlti : i < (S x).length
                    · obtain ⟨a, rfl, ha, hc⟩ := own_int hown2.out hlti
                      have htS : (S x)[i] ∈ S x := List.getElem_mem hlti
                      have htb := (HO.out.2 x).2 _ htS
                      have ct := HI2.out.marks.cell htb
                      have ft := HI2.out.marks.frozen (S x)[i]
                      have HN := Lib.hid (fun h => Js.next hJ2.out hlti h)
                      obtain ⟨t, et⟩ : ∃ t, (S x)[i] = t := ⟨_, rfl⟩
                      rw [et] at hc htS htb ct ft HN
                      have hne : (((t : Nat) : Int) != -1) = true := by simp
                      have HTS := Lib.hid htS
                      obtain ⟨sl, esl⟩ : ∃ sl, (S x).length = sl := ⟨_, rfl⟩
                      simp only [esl] at hlti hile hSl cn ⊢
                      clear et htS
                      by_cases htT : t ∈ T2
                      · replace ct : wr.cell? ⟨W.heap.size + 1, t, none⟩ = some (.bool true) := ct.trans (by simp [htT])
                        have HNN := Lib.hid (HN.out htT)
                        clear htT ft
                        go_wp2_with fail
                        exact ⟨⟨T2, mb2, i + 1, by omega, by go_num, rfl, HM2.out, HI2.out, HNN⟩, by simp [intOf]; omega⟩
                      · replace ct : wr.cell? ⟨W.heap.size + 1, t, none⟩ = some (.bool false) := ct.trans (by simp [htT])
                        have HMN := Lib.hid (HM2.out.more HXT.out HTS.out htb htT)
                        have HNN : Hid (Js S T (t :: T2) true x (i + 1)) := Lib.hid hJ2.out.new
                        have HIN := Lib.hid (HI2.out.mark t)
                        clear htT
                        go_wp2_with fail
                        exact ⟨⟨t :: T2, true, i + 1, by omega, by go_num, rfl, HMN.out, HIN.out, HNN⟩, by simp [intOf]; omega⟩
                    · obtain rfl : i = (S x).length := by omega
                      have HD := Lib.hid (hJ2.out.done (.inr rfl))
                      obtain ⟨sl, esl⟩ : ∃ sl, (S x).length = sl := ⟨_, rfl⟩
                      simp only [esl] at hlti hile hSl cn ⊢
                      clear hJ2
                      go_wp2_with fail
                      exact ⟨⟨T2, mb2, x + 1, by omega, by go_num, rfl, HM2.out, HI2.out, HD⟩, by simp [intOf]; omega⟩
                  · replace cm : wr.cell? ⟨W.heap.size + 1, x, none⟩ = some (.bool false) := cm.trans (by simp [hxT])
                    have HD := Lib.hid (hJ2.out.done (.inl hxT))
                    clear hxT hJ2
                    go_wp2_with fail
                    exact ⟨⟨T2, mb2, x + 1, by omega, by go_num, rfl, HM2.out, HI2.out, HD⟩, by simp [intOf]; omega⟩
              · obtain rfl : x = b := by omega
                have hTl := nodup_lt x _ HM'.out.nd HM'.out.lt
                have HTL := Lib.hid hTl
                clear hTl
                go_wp2_with fail
                rcases hJ.out with ⟨h1, h2, h3, -⟩ | ⟨h1, h2⟩
                · subst h1 h2
                  have hk := hcl.out.2
                  simp only [if_true] at hk
                  go_roundg (gk - 1)
                  case rel => exact ⟨_, _, rfl, HM'.out, HI'.out, Lib.hid ⟨fun _ y hy => h3 y (HM'.out.lt y hy) hy, by simp; omega⟩⟩
                  case measure => have := HTL.out; omega
                · subst h1
                  have hk := hcl.out.2
                  simp only [if_true] at hk
                  go_roundg (2 * x + 3 - 2 * T'.length)
                  case rel => exact ⟨_, _, rfl, HM'.out, HI'.out, Lib.hid ⟨(fun h => by cases h), by simp; have := HTL.out; omega⟩⟩
                  case measure => have := HTL.out; omega
end Go.Proofs.Ytphdhndljgihmaa
