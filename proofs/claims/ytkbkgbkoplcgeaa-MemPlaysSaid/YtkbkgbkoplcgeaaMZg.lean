/- The document's memory: Alloc, New. -/
import Derived.Test.YtkbkgbkoplcgeaaMZf
import Derived.Test.YtkbkgbkoplcgeaaMU
namespace Go.Proofs.Ytkbkgbkoplcgeaa
open Go.RowKit Go.Maps
set_option linter.unusedVariables false
set_option linter.unusedSimpArgs false

theorem RmNew.grows {W : World} {D : Dm} {q : Option Addr} {d : Nat} {ys : List Rk} {w : World} (h : RmNew W D q d ys w) : Grows 85 2 rkC RkOwn W.heap.size ys q d w := ⟨h.past.2.size, h.own.2.1, h.own.2.2.2⟩
/-- A block more. -/
theorem grows_more {W : World} {ys : List Rk} {q : Option Addr} {d : Nat} {w1 w2 w9 : World} (hg : Grows 85 2 rkC RkOwn W.heap.size ys q d w1) (hp : Past W.heap.size W w1) (hb : Below w1.heap.size w1 w2) (x : Rk)
    (hx : w2.ownsRow w1.heap.size 32 5 (.slice x.p x.l.length x.c) x.l.length (x.l.flatMap byC)) (o : Obj) {q' : Option Addr} {c' : Nat}
    (hown : w9.ownsRow W.heap.size 85 2 (.slice q' (ys.length + 1) c') (ys.length + 1) (ys.flatMap rkC ++ rkC x)) (hgr : (w2.alloc o).grownBy w9 (Value.slice q ys.length d).ownBlock) (hm : Moved (w2.alloc o) (Value.slice q ys.length d) (Value.slice q' (ys.length + 1) c')) :
    Grows 85 2 rkC RkOwn W.heap.size (ys ++ [x]) q' c' w9 ∧ Past W.heap.size W w9 := by
  have hBB : Below w1.heap.size w1 (w2.alloc o) := hb.trans (below1 _ _ |>.mono hb.size)
  have hRk : RkOwn w1.heap.size w2.heap.size (w2.alloc o) x := ⟨ownsRow_below hx (below1 _ _), fun g hg => (hx.lt g hg).2⟩
  exact ⟨Grows.snoc local_Rk hg hBB hRk (Nat.le_refl _) hb.size (by simp) hown hgr hm, Past.grownRow ⟨hp.1, hp.2.trans (hBB.mono hp.2.size)⟩ hgr (fun j e => (hg.row.lt j e).1)⟩
theorem RmNew.of {W : World} {D : Dm} {q : Option Addr} {d : Nat} {ys : List Rk} {w : World} (hg : Grows 85 2 rkC RkOwn W.heap.size ys q d w) (hp : Past W.heap.size W w) (hs : ∀ y ∈ ys, y.l.length ≤ 4096) (hD : D = ys.map rkD) : RmNew W D q d ys w := ⟨hg.own (lo := 0), hs, hD, hp⟩
set_option maxHeartbeats 2000000 in
theorem rAlloc_any (W : World) (p : Option Addr) (c : Nat) (xs : List Rk) (D : Dm) (n : Int) (hl : xs.length ≤ 100000) (h : RmIn W p c xs D) :
    Calls Try.prog 51 #[.slice p xs.length c, .int .i64 n] W fun e w' => ∃ q d ys, e = .returned (.slice q ys.length d) ∧ RmNew W (dNew D n q0) q d ys w' := by
  have c1 := mCopy_new W p c xs D hl h
  have hN := bnd_le n
  have c2 : ∀ w, Calls Try.prog 50 #[.int .i64 n, .agg #[.int .i64 0, .int .u8 0, .int .i64 0, .int .i64 0, .int .i64 0]] w fun e w' => ∃ p c, e = .returned (.agg #[.bool true, .slice p (bnd n) c]) ∧ w'.ownsRow w.heap.size 32 5 (.slice p (bnd n) c) (bnd n) ((List.replicate (bnd n) q0).flatMap byC) ∧ Below w.heap.size w w' := fun w => rFilled_any n q0 w
  have HX : Hid (dNew D n q0 = D ++ [some (List.replicate (bnd n) q0)]) := Lib.hid rfl
  have HLN : Hid ((List.replicate (bnd n) q0).length = bnd n) := Lib.hid (List.length_replicate ..)
  obtain ⟨L, eL⟩ : ∃ L, List.replicate (bnd n) q0 = L := ⟨_, rfl⟩
  obtain ⟨N, eN⟩ : ∃ N, bnd n = N := ⟨_, rfl⟩
  rw [eL] at HX HLN
  rw [eN] at HLN hN
  simp only [eL] at c2
  simp only [eN] at c2
  obtain ⟨iW, hiW, hy0, hy1, hy2⟩ := info_parts infoBl
  have HJ := Lib.hid (And.intro hiW (And.intro hy0 (And.intro hy1 hy2)))
  have HXL := Lib.hid hl
  have b0 := bB0
  clear h hiW hy0 hy1 hy2 eL eN hl
  go_enter Try.func51, Try.ntmps51
  go_wp2_with (first
    | ((with_reducible refine c1.mono ?_); rintro e w1 ⟨q, d, ys, rfl, hs, hn⟩; have hlen := rkS_len hs; have h64 : Hid (ys.length + 1 ≤ maxLen) := Lib.hid (by have := HXL.out; unfold maxLen; omega); have hb2 : Hid ((ys.length + 1) * 32 ≤ 140737488355328) := Lib.hid (by have := HXL.out; omega); have HG := Lib.hid hn.grows; have HN := Lib.hid hn; clear hs hn hlen)
    | ((with_reducible refine (c2 _).mono ?_); rintro e w2 ⟨p8, c8, rfl, hr8, hb8⟩; have HR8 := Lib.hid hr8; have HB8 := Lib.hid hb8; clear hr8 hb8)
    | (at_builtin; refine wpList_append_at rfl (.tmp 8) (.tmp 12) 40 rfl W.heap.size 85 iW _ 2 32 Try.underlying40 HJ.out.1 HJ.out.2.1 HJ.out.2.2.1 HJ.out.2.2.2 rfl (by decide) (.slice q ys.length d) ys.length _ rfl (ownsRow_below HG.out.row (HB8.out.trans (below1 _ _ |>.mono HB8.out.size))) (some ⟨w2.heap.size, 0, none⟩) 1 1 [.bool true, .slice p8 N c8] rfl rfl (lit_at' _ rfl _ _) (by intro u hu; simp at hu; rcases hu with rfl | rfl <;> rfl) h64.out hb2.out (by have h1 := HN.out.past.2.size; have h2 := HB8.out.size; simp; omega) ?_; intro v9 w9 hown9 hgrow9 hmv9))
  obtain ⟨q9, c9, rfl⟩ := row_slice hown9
  obtain ⟨G2, P2⟩ := grows_more HG.out HN.out.past HB8.out ⟨true, p8, c8, L⟩ (by show World.ownsRow _ _ _ _ (.slice p8 L.length c8) L.length _; rw [HLN.out]; exact HR8.out) _ (by show World.ownsRow _ _ _ _ _ _ (_ ++ [.bool true, .slice p8 L.length c8]); rw [HLN.out]; exact hown9) hgrow9 hmv9
  go_ret
  refine ⟨q9, c9, ys ++ [⟨true, p8, c8, L⟩], by rw [List.length_append]; rfl, RmNew.of G2 P2 (fun y hy => ?_) ?_⟩
  · rcases List.mem_append.1 hy with hy | hy
    · exact HN.out.small y hy
    · obtain rfl := List.mem_singleton.1 hy
      show L.length ≤ 4096
      rw [HLN.out]; exact hN
  · rw [HX.out, List.map_append, ← HN.out.shows]
    rfl
set_option maxHeartbeats 2000000 in
theorem rNew_any (W : World) (p : Option Addr) (c : Nat) (xs : List Int) (h : ListIn intC NoMem W.heap.size W p xs.length c xs) (hl : xs.length ≤ 1000) :
    Calls Try.prog 23 #[.slice p xs.length c] W fun e w' => ∃ q d ys, e = .returned (.slice q ys.length d) ∧ RmNew W (dNews xs) q d ys w' := by
  have hc := h.2.1
  have hc2 := h.2.2.1
  unfold maxLen at hc2
  have HH := Lib.hid h
  have c2 : ∀ (n : Int) w, Calls Try.prog 50 #[.int .i64 n, .agg #[.int .i64 1, .int .u8 0, .int .i64 0, .int .i64 0, .int .i64 0]] w fun e w' => ∃ p c, e = .returned (.agg #[.bool true, .slice p (bnd n) c]) ∧ w'.ownsRow w.heap.size 32 5 (.slice p (bnd n) c) (bnd n) ((List.replicate (bnd n) (nB 0)).flatMap byC) ∧ Below w.heap.size w w' := fun n w => rFilled_any n (nB 0) w
  obtain ⟨iW, hiW, hy0, hy1, hy2⟩ := info_parts infoBl
  have HJ := Lib.hid (And.intro hiW (And.intro hy0 (And.intro hy1 hy2)))
  have b1 := bB1
  clear h hiW hy0 hy1 hy2
  go_enter Try.func23, Try.ntmps23
  go_wp2_with fail
  go_loopw [3, 4] (fun vo vi wr => ∃ (k : Nat) (ys : List Rk) (q : Option Addr) (d : Nat), k ≤ xs.length ∧ vi = .int .i64 k ∧ vo = .slice q k d ∧ Hid (ys.length = k ∧ (∀ y ∈ ys, y.l.length ≤ 4096) ∧ dNews (xs.take k) = ys.map rkD) ∧ Hid (Past W.heap.size W wr) ∧ Hid (Grows 85 2 rkC RkOwn W.heap.size ys q d wr)) (fun _ vi _ => xs.length - (intOf vi).toNat)
  case atStart => exact ⟨0, [], none, 0, Nat.zero_le _, rfl, rfl, Lib.hid ⟨rfl, fun y hy => absurd hy List.not_mem_nil, rfl⟩, Lib.hid ⟨Nat.le_refl _, Below.refl _ _⟩, Lib.hid (Grows.start _ (Nat.le_refl _))⟩
  case round =>
    obtain ⟨k, ys, q, d, hk, rfl, rfl, HY, HP, HG⟩ := hrel
    by_cases t1 : k < xs.length
    · have t1' : (k : Int) < (xs.length : Int) := by omega
      obtain ⟨a, ea, f0⟩ := (ListIn.lasts lasts_NoMem HH.out HP.out.2 HP.out.2.size).cells k (.int .i64 xs[k]) (by
        have := flat_get intC 1 (fun _ => rfl) xs k t1 0 (by decide)
        rw [show k * 1 + 0 = k by omega] at this
        exact this)
      have HN := Lib.hid (bnd_le xs[k])
      have HT : Hid (xs.take (k + 1) = xs.take k ++ [xs[k]]) := Lib.hid (by rw [List.take_add_one, List.getElem?_eq_getElem t1]; rfl)
      obtain ⟨n, en⟩ : ∃ n, xs[k] = n := ⟨_, rfl⟩
      rw [en] at f0 HN HT
      have c3 := c2 n
      have HLN : Hid ((List.replicate (bnd n) (nB 0)).length = bnd n) := Lib.hid (List.length_replicate ..)
      have HX : Hid (dNew (dNews (xs.take k)) n (nB 0) = dNews (xs.take k) ++ [some (List.replicate (bnd n) (nB 0))]) := Lib.hid rfl
      obtain ⟨L, eL⟩ : ∃ L, List.replicate (bnd n) (nB 0) = L := ⟨_, rfl⟩
      obtain ⟨N, eN⟩ : ∃ N, bnd n = N := ⟨_, rfl⟩
      rw [eL] at HLN HX
      rw [eN] at HLN HN
      simp only [eL] at c3
      simp only [eN] at c3
      subst ea
      have h64 : Hid (k + 1 ≤ maxLen) := Lib.hid (by unfold maxLen; omega)
      have hb2 : Hid ((k + 1) * 32 ≤ 140737488355328) := Lib.hid (by omega)
      have HROW : Hid (wr.ownsRow W.heap.size 85 2 (.slice q k d) k (ys.flatMap rkC)) := Lib.hid (by have := HG.out.row; rw [HY.out.1] at this; exact this)
      clear en eL eN c2
      go_wp2_with (first
        | ((with_reducible refine (c3 _).mono ?_); rintro e w2 ⟨p8, c8, rfl, hr8, hb8⟩; have HR8 := Lib.hid hr8; have HB8 := Lib.hid hb8; clear hr8 hb8)
        | (at_builtin; refine wpList_append_at rfl (.tmp 11) (.tmp 18) 40 rfl W.heap.size 85 iW _ 2 32 Try.underlying40 HJ.out.1 HJ.out.2.1 HJ.out.2.2.1 HJ.out.2.2.2 rfl (by decide) (.slice q k d) k _ rfl (ownsRow_below HROW.out (HB8.out.trans (below1 _ _ |>.mono HB8.out.size))) (some ⟨w2.heap.size, 0, none⟩) 1 1 [.bool true, .slice p8 N c8] rfl rfl (lit_at' _ rfl _ _) (by intro u hu; simp at hu; rcases hu with rfl | rfl <;> rfl) h64.out hb2.out (by have h1 := HP.out.2.size; have h2 := HB8.out.size; simp; omega) ?_; intro v9 w9 hown9 hgrow9 hmv9))
      obtain ⟨q9, c9, rfl⟩ := row_slice hown9
      rw [← HY.out.1] at hown9 hgrow9 hmv9
      obtain ⟨G2, P2⟩ := grows_more HG.out HP.out HB8.out ⟨true, p8, c8, L⟩ (by show World.ownsRow _ _ _ _ (.slice p8 L.length c8) L.length _; rw [HLN.out]; exact HR8.out) _ (by show World.ownsRow _ _ _ _ _ _ (_ ++ [.bool true, .slice p8 L.length c8]); rw [HLN.out]; exact hown9) hgrow9 hmv9
      refine ⟨⟨k + 1, ys ++ [⟨true, p8, c8, L⟩], q9, c9, t1, by go_num, by rw [← HY.out.1], Lib.hid ⟨by rw [List.length_append, HY.out.1]; rfl, fun y hy => ?_, ?_⟩, Lib.hid P2, Lib.hid G2⟩, by simp [intOf]; omega⟩
      · rcases List.mem_append.1 hy with hy | hy
        · exact HY.out.2.1 y hy
        · obtain rfl := List.mem_singleton.1 hy
          show L.length ≤ 4096
          rw [HLN.out]; exact HN.out
      · rw [HT.out, dNews_snoc, HX.out, List.map_append, HY.out.2.2]
        rfl
    · obtain rfl : k = xs.length := by omega
      go_wp2_with fail
      go_ret
      exact ⟨q, d, ys, by rw [HY.out.1]; rfl, RmNew.of HG.out HP.out HY.out.2.1 (by rw [← HY.out.2.2, List.take_length])⟩
end Go.Proofs.Ytkbkgbkoplcgeaa
