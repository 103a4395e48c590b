/- MemPacks: the walk. -/
import Derived.Test.YtdepgjonbodjlaaMV
import Derived.Test.YtdepgjonbodjlaaMF
import Derived.Test.YtdepgjonbodjlaaMG
import Derived.Test.YtdepgjonbodjlaaMX
namespace Go.Proofs.Ytdepgjonbodjlaa
open Go.RowKit Go.Maps
set_option linter.unusedVariables false
set_option linter.unusedSimpArgs false

structure PkSt (W : World) (v : Vl) (n : Nat) (P X : List By) (px py pz : Option Addr) (cx cy cz : Nat) (w : World) : Prop where
  past : Past W.heap.size W w
  box : Box W.heap.size (vlC v) w
  x : w.ownsRow W.heap.size 32 5 (.slice px n cx) n (X.flatMap byC)
  y : w.ownsRow W.heap.size 32 5 (.slice py n cy) n (P.flatMap byC)
  z : w.ownsRow W.heap.size 32 5 (.slice pz n cz) n (P.flatMap byC)
  xy : ∀ j, (Value.slice px n cx).ownBlock = some j → (Value.slice py n cy).ownBlock ≠ some j
  xz : ∀ j, (Value.slice px n cx).ownBlock = some j → (Value.slice pz n cz).ownBlock ≠ some j
  xb : ∀ j, (Value.slice px n cx).ownBlock = some j → W.heap.size < j
theorem PkSt.later {W : World} {v : Vl} {n : Nat} {P X : List By} {px py pz : Option Addr} {cx cy cz : Nat} {w w' : World} (h : PkSt W v n P X px py pz cx cy cz w) (hb : Below w.heap.size w w') : PkSt W v n P X px py pz cx cy cz w' :=
  ⟨h.past.trans ⟨h.past.size, hb.mono h.past.size⟩, h.box.later hb, ownsRow_below h.x hb, ownsRow_below h.y hb, ownsRow_below h.z hb, h.xy, h.xz, h.xb⟩
theorem PkSt.put {W : World} {v : Vl} {n : Nat} {P X : List By} {py pz : Option Addr} {g cx cy cz : Nat} {w : World} (h : PkSt W v n P X (some ⟨g, 0, none⟩) py pz cx cy cz w) {k : Nat} (hk : k < X.length) (y : By) : PkSt W v n P (X.set k y) (some ⟨g, 0, none⟩) py pz cx cy cz (w.setCells g (k * 5) (byC y)) := by
  have hg := h.xb g rfl
  have hs : ∀ j, j ≠ g → (w.setCells g (k * 5) (byC y)).heap[j]? = w.heap[j]? := fun j hj => setCells_heap g (byC y) (k * 5) w j hj
  exact ⟨Past.setCells (by omega) _ _ h.past, h.box.same (by rw [setCells_size]; exact Nat.le_refl _) (hs _ (by omega)), wr_store h.x hk y, row_same h.y (fun j hj => hs j (fun e => h.xy g rfl (e ▸ hj))), row_same h.z (fun j hj => hs j (fun e => h.xz g rfl (e ▸ hj))), h.xy, h.xz, h.xb⟩
set_option maxHeartbeats 4000000 in
theorem memPacks_walk (t : Int) (v : Vl) (q : Option Addr) (c : Nat) (l : List By) (W : World) (hv : v.ok) (hw : wf64 v.bk) (hl : BysIn W.heap.size W q l.length c l) (hlo : ∀ y ∈ l, y.ok) :
    Calls Try.prog 3 #[.int .i64 t, v.val, .slice q l.length c] W fun e w' => e = .returned (.bool true) ∧ Below W.heap.size W w' := by
  have b1 := bB1
  obtain ⟨vk, vb, vbk, vo⟩ := v
  have B1 := below1 W (.cells #[.int .i64 vk, .int .u64 vb, .int .i64 vbk, .int .i64 vo] 24)
  have V1 : Box W.heap.size (vlC ⟨vk, vb, vbk, vo⟩) (W.alloc (.cells #[.int .i64 vk, .int .u64 vb, .int .i64 vbk, .int .i64 vo] 24)) := Box.new W rfl _ _
  have c0 := lives_any (W.alloc (.cells #[.int .i64 vk, .int .u64 vb, .int .i64 vbk, .int .i64 vo] 24))
  have hwd := wd_le t
  have hpl := pack_len t ⟨vk, vb, vbk, vo⟩
  have hcap := hl.2.1
  have hmx := hl.2.2.1
  unfold maxLen at hmx
  have c1 : ∀ w, Calls Try.prog 15 #[.int .i64 t, .agg #[.int .i64 vk, .int .u64 vb, .int .i64 vbk, .int .i64 vo]] w fun e w' => e = .returned (.agg #[.int .i64 (norm t ⟨vk, vb, vbk, vo⟩).k, .int .u64 (norm t ⟨vk, vb, vbk, vo⟩).b, .int .i64 (norm t ⟨vk, vb, vbk, vo⟩).bk, .int .i64 (norm t ⟨vk, vb, vbk, vo⟩).o]) ∧ Below w.heap.size w w' := fun w => Norm_any t ⟨vk, vb, vbk, vo⟩ w hv
  have c2 : ∀ w, Calls Try.prog 16 #[.int .i64 t, .agg #[.int .i64 vk, .int .u64 vb, .int .i64 vbk, .int .i64 vo]] w fun e w' => e = .returned (.agg #[.int .i64 (norm t ⟨vk, vb, vbk, vo⟩).k, .int .u64 (norm t ⟨vk, vb, vbk, vo⟩).b, .int .i64 (norm t ⟨vk, vb, vbk, vo⟩).bk, .int .i64 (norm t ⟨vk, vb, vbk, vo⟩).o]) ∧ Below w.heap.size w w' := fun w => rNorm_any t ⟨vk, vb, vbk, vo⟩ w hv
  have c3 : ∀ w, Calls Try.prog 10 #[.int .i64 t, .agg #[.int .i64 vk, .int .u64 vb, .int .i64 vbk, .int .i64 vo]] w fun e w' => ∃ p c, e = .returned (.slice p (wd t) c) ∧ w'.ownsRow w.heap.size 32 5 (.slice p (wd t) c) (wd t) ((pack t ⟨vk, vb, vbk, vo⟩).flatMap byC) ∧ Below w.heap.size w w' := fun w => Pack_any t ⟨vk, vb, vbk, vo⟩ w hv
  have c4 : ∀ w, Calls Try.prog 11 #[.int .i64 t, .agg #[.int .i64 vk, .int .u64 vb, .int .i64 vbk, .int .i64 vo]] w fun e w' => ∃ p c, e = .returned (.slice p (wd t) c) ∧ w'.ownsRow w.heap.size 32 5 (.slice p (wd t) c) (wd t) ((pack t ⟨vk, vb, vbk, vo⟩).flatMap byC) ∧ Below w.heap.size w w' := fun w => rPack_any t ⟨vk, vb, vbk, vo⟩ w hv
  have c5 : ∀ w, Past W.heap.size W w → Calls Try.prog 13 #[.int .i64 t, .slice q l.length c] w fun e w' => e = .returned (.agg #[.int .i64 (unpack t l).k, .int .u64 (unpack t l).b, .int .i64 (unpack t l).bk, .int .i64 (unpack t l).o]) ∧ Below w.heap.size w w' := fun w h => Unpack_any t w q c l (hl.later h.2) hlo
  have c6 : ∀ w, Past W.heap.size W w → Calls Try.prog 14 #[.int .i64 t, .slice q l.length c] w fun e w' => e = .returned (.agg #[.int .i64 (unpack t l).k, .int .u64 (unpack t l).b, .int .i64 (unpack t l).bk, .int .i64 (unpack t l).o]) ∧ Below w.heap.size w w' := fun w h => rUnpack_any t w q c l (hl.later h.2) hlo
  obtain ⟨P, eP⟩ : ∃ P, pack t ⟨vk, vb, vbk, vo⟩ = P := ⟨_, rfl⟩
  simp only [eP] at c3 c4 hpl
  obtain ⟨n, en⟩ : ∃ n, wd t = n := ⟨_, rfl⟩
  simp only [en] at c3 c4 hpl hwd
  obtain ⟨⟨nk, nb, nbk, no⟩, en2⟩ : ∃ n, norm t ⟨vk, vb, vbk, vo⟩ = n := ⟨_, rfl⟩
  simp only [en2] at c1 c2
  obtain ⟨⟨uk, ub, ubk, uo⟩, eu⟩ : ∃ n, unpack t l = n := ⟨_, rfl⟩
  simp only [eu] at c5 c6
  have c7 : ∀ w p k p' k', w.ownsRow W.heap.size 32 5 (.slice p n k) n (P.flatMap byC) → w.ownsRow W.heap.size 32 5 (.slice p' n k') n (P.flatMap byC) → Calls Try.prog 12 #[.slice p n k, .slice p' n k'] w fun e w' => e = .returned (.bool true) ∧ Below w.heap.size w w' := fun w p k p' k' h h' => by
    have := Same_any w p p' k k' P P (by rw [hpl]; exact bytes_in h hpl.symm) (by rw [hpl]; exact bytes_in h' hpl.symm)
    rw [sameB_true rfl, hpl] at this
    exact this
  have HPL := Lib.hid hpl
  have HB := Lib.hid B1
  have HV := Lib.hid V1
  clear B1 V1 hpl eP en en2 eu
  show Calls _ _ #[.int .i64 t, .agg #[.int .i64 vk, .int .u64 vb, .int .i64 vbk, .int .i64 vo], .slice q l.length c] W _
  by_cases hbig : 10000 < l.length
  · have hbig2 : (10000 : Int) < (l.length : Int) := by omega
    clear hbig
    go_enter Try.func3, Try.ntmps3
    go_wp2_with (first
      | ((with_reducible refine c0.mono ?_); rintro e w1 ⟨rfl, hb1⟩))
    go_ret
    exact ⟨rfl, HB.out.trans (hb1.mono HB.out.size)⟩
  · have hbig2 : ¬ (10000 : Int) < (l.length : Int) := by omega
    clear hbig
    go_enter Try.func3, Try.ntmps3
    go_upto_region 5 with (first
      | ((with_reducible refine c0.mono ?_); rintro e w1 ⟨rfl, hb1⟩; have V2 := HV.out.later hb1; have v0 := V2.get 0 _ rfl; have v1 := V2.get 1 _ rfl; have v2 := V2.get 2 _ rfl; have v3 := V2.get 3 _ rfl))
    have P1 : Past W.heap.size W w1 := ⟨Nat.le_refl _, HB.out.trans (hb1.mono HB.out.size)⟩
    have HP1 := Lib.hid P1
    have HV2 := Lib.hid V2
    have hge : W.heap.size < w1.heap.size := V2.1
    clear P1 V2 hb1
    go_cut [7, 8] (fun s7 s8 wx => ∃ (px py : Option Addr) (cx cy : Nat), s7 = .slice px n cx ∧ s8 = .slice py n cy ∧ Past W.heap.size W wx ∧ Box W.heap.size (vlC ⟨vk, vb, vbk, vo⟩) wx ∧ wx.ownsRow w1.heap.size 32 5 (.slice px n cx) n (P.flatMap byC) ∧ wx.ownsRow w1.heap.size 32 5 (.slice py n cy) n (P.flatMap byC) ∧ ∀ j, (Value.slice px n cx).ownBlock = some j → (Value.slice py n cy).ownBlock ≠ some j)
    case first =>
      go_region_law (first
        | (go_simp
           (fail_if_success (have := HA6))
           (with_reducible refine (c3 _).mono ?_)
           rintro e w6 ⟨p6, k6, rfl, hr6, hb6⟩
           have HA6 := Lib.hid hr6
           have HB6 := Lib.hid hb6
           have V6 := HV2.out.later (Below.trans (below_drew (Below.refl _ _)) hb6)
           have v0 := V6.get 0 _ rfl
           have v1 := V6.get 1 _ rfl
           have v2 := V6.get 2 _ rfl
           have v3 := V6.get 3 _ rfl
           have HV6 := Lib.hid V6
           clear hr6 hb6 V6)
        | (go_simp
           (with_reducible refine (c3 _).mono ?_)
           rintro e w7 ⟨p7, k7, rfl, hr7, hb7⟩))
      all_goals
        go_wp2_with fail
        go_meet
        have hs6 : w1.heap.size ≤ w6.heap.size := HB6.out.size
        have hr6 : w7.ownsRow w1.heap.size 32 5 (.slice p6 n k6) n (P.flatMap byC) := ownsRow_below HA6.out hb7
        have hr7' : w7.ownsRow w1.heap.size 32 5 (.slice p7 n k7) n (P.flatMap byC) := hr7.mono hs6
        have hap : ∀ j, (Value.slice p6 n k6).ownBlock = some j → (Value.slice p7 n k7).ownBlock ≠ some j := fun j h1 h2 => by
          have := (HA6.out.lt j h1).2
          have := (hr7.lt j h2).1
          omega
        have hpast : Past W.heap.size W w7 := HP1.out.trans ⟨HP1.out.size, (Below.trans (below_drew (Below.refl w1.heap.size w1)) (HB6.out.trans (hb7.mono hs6))).mono HP1.out.size⟩
        first
          | exact ⟨_, _, _, _, rfl, rfl, hpast, HV6.out.later hb7, hr6, hr7', hap⟩
          | exact ⟨_, _, _, _, rfl, rfl, hpast, HV6.out.later hb7, hr7', hr6, fun j h1 h2 => hap j h2 h1⟩
    case rest =>
      obtain ⟨px, py, cx, cy, rfl, rfl, hpa, hbo, hx, hy, hxy⟩ := hcut
      have v0 := hbo.get 0 _ rfl
      have v1 := hbo.get 1 _ rfl
      have v2 := hbo.get 2 _ rfl
      have v3 := hbo.get 3 _ rfl
      have HC := Lib.hid (And.intro hpa (And.intro hbo (And.intro hx (And.intro hy hxy))))
      have HGE := Lib.hid hge
      clear hpa hbo hx hy hxy hge
      go_upto_region 7 with (first
        | ((with_reducible refine (c4 _).mono ?_); rintro e w8 ⟨pz, cz, rfl, hz8, hb8⟩))
      have S0 : PkSt W ⟨vk, vb, vbk, vo⟩ n P P px py pz cx cy cz w8 := by
        obtain ⟨hpa, hbo, hx, hy, hxy⟩ := HC.out
        have hg := HGE.out
        exact ⟨hpa.trans ⟨hpa.size, hb8.mono hpa.size⟩, hbo.later hb8, (ownsRow_below hx hb8).mono (by omega), (ownsRow_below hy hb8).mono (by omega), hz8.mono hpa.size, hxy, fun j h1 h2 => by
          have := (hx.lt j h1).2
          have := (hz8.lt j h2).1
          omega, fun j h1 => by have := (hx.lt j h1).1; omega⟩
      have v0 := S0.box.get 0 _ rfl
      have v1 := S0.box.get 1 _ rfl
      have v2 := S0.box.get 2 _ rfl
      have v3 := S0.box.get 3 _ rfl
      have HS := Lib.hid S0
      have c8 := c7 w8.drew px cx pz cz (row_drew S0.x) (row_drew S0.z)
      clear hz8 hb8 S0
      go_region_law (first
        | (go_simp
           (with_reducible refine c8.mono ?_)
           rintro e w9 ⟨rfl, hb9⟩
           have S9 := HS.out.later (Below.trans (below_drew (Below.refl _ _)) hb9)
           have v0 := S9.box.get 0 _ rfl
           have v1 := S9.box.get 1 _ rfl
           have v2 := S9.box.get 2 _ rfl
           have v3 := S9.box.get 3 _ rfl
           have d5 := c5 w9 S9.past
           have d6 := c6 w9 S9.past
           have HS := Lib.hid S9
           clear hb9 S9)
        | (go_simp
           (with_reducible refine d5.mono ?_)
           rintro e w10 ⟨rfl, hb10⟩
           have S9 := HS.out.later hb10
           have v0 := S9.box.get 0 _ rfl
           have v1 := S9.box.get 1 _ rfl
           have v2 := S9.box.get 2 _ rfl
           have v3 := S9.box.get 3 _ rfl
           have d6 := c6 w10 S9.past
           have HS := Lib.hid S9
           clear hb10 S9)
        | (go_simp
           (with_reducible refine d6.mono ?_)
           rintro e w11 ⟨rfl, hb11⟩
           have S9 := HS.out.later hb11
           have v0 := S9.box.get 0 _ rfl
           have v1 := S9.box.get 1 _ rfl
           have v2 := S9.box.get 2 _ rfl
           have v3 := S9.box.get 3 _ rfl
           have d5 := c5 w11 S9.past
           have HS := Lib.hid S9
           clear hb11 S9)
        | (go_simp
           (with_reducible refine (c1 _).mono ?_)
           rintro e w12 ⟨rfl, hb12⟩
           have S9 := HS.out.later hb12
           have v0 := S9.box.get 0 _ rfl
           have v1 := S9.box.get 1 _ rfl
           have v2 := S9.box.get 2 _ rfl
           have v3 := S9.box.get 3 _ rfl
           have HS := Lib.hid S9
           clear hb12 S9)
        | (go_simp
           (with_reducible refine (c2 _).mono ?_)
           rintro e w13 ⟨rfl, hb13⟩
           have S9 := HS.out.later hb13
           have v0 := S9.box.get 0 _ rfl
           have v1 := S9.box.get 1 _ rfl
           have v2 := S9.box.get 2 _ rfl
           have v3 := S9.box.get 3 _ rfl
           have HS := Lib.hid S9
           clear hb13 S9))
      all_goals
        clear v0 v1 v2 v3
        go_wp2_with fail
        go_loopw [49] (fun u wr => ∃ (k : Nat) (X : List By), k ≤ n ∧ u = .int .i64 k ∧ X.length = n ∧ PkSt W ⟨vk, vb, vbk, vo⟩ n P X px py pz cx cy cz wr) (fun u _ => n - (intOf u).toNat)
        case atStart => exact ⟨0, P, Nat.zero_le _, rfl, HPL.out, HS.out⟩
        case round =>
          obtain ⟨k, X, hk, rfl, hX, hS⟩ := hrel
          by_cases hlt : k < n
          · obtain ⟨g, rfl⟩ : ∃ g, px = some ⟨g, 0, none⟩ := by
              rcases hS.x.2 with ⟨e, h0⟩ | ⟨g, cap, cur, e, _⟩
              · omega
              · injection e with e1 e2 e3; exact ⟨g, e1⟩
            obtain ⟨q0, q1, q2, q3, q4, qf⟩ := own_by hS.x k (by omega)
            have hcx : n ≤ cx ∧ cx ≤ maxLen := by
              rcases hS.x.2 with ⟨e, h0⟩ | ⟨g, cap, cur, e, _, _, h1, h2, _⟩
              · omega
              · injection e with e1 e2 e3; subst e3; exact ⟨h1, h2⟩
            unfold maxLen at hcx
            obtain ⟨hcx1, hcx2⟩ := hcx
            have HS2 := Lib.hid (hS.put (k := k) (by omega) ⟨9, 0, 0, 0, 0⟩)
            have HX := Lib.hid hX
            clear hS
            go_wp2_with fail
            exact ⟨⟨k + 1, X.set k ⟨9, 0, 0, 0, 0⟩, hlt, by go_num, by rw [List.length_set]; exact HX.out, HS2.out⟩, by simp [intOf]; omega⟩
          · obtain rfl : k = n := by omega
            have c9 := c7 wr py cy pz cz hS.y hS.z
            have HP9 := Lib.hid hS.past
            clear hS hX
            go_wp2_with (first
              | ((with_reducible refine c9.mono ?_); rintro e w14 ⟨rfl, hb14⟩))
            go_ret
            exact ⟨rfl, (HP9.out.trans ⟨HP9.out.size, hb14.mono HP9.out.size⟩).2⟩
end Go.Proofs.Ytdepgjonbodjlaa
