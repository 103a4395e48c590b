/- The document's memory: Copy. -/
import Derived.Test.YtkbkgbkoplcgeaaMZc
import Derived.Test.YtkbkgbkoplcgeaaMR
namespace Go.Proofs.Ytkbkgbkoplcgeaa
open Go.RowKit Go.Maps
set_option linter.unusedVariables false
set_option linter.unusedSimpArgs false

theorem infoBl : (Try.prog.info? 85).map (fun i => (i.zero, i.size, i.bytes)) = some (some (.agg #[.bool false, .slice none 0 0]), 2, 32) := by kernel_rfl
/-- A block of the call's own. -/
def RkOwn (a b : Nat) (w : World) (x : Rk) : Prop := w.ownsRow a 32 5 (.slice x.p x.l.length x.c) x.l.length (x.l.flatMap byC) ∧ ∀ g, (Value.slice x.p x.l.length x.c).ownBlock = some g → g < b
theorem local_Rk : Local RkOwn := fun a b w w' x hs h => ⟨ownsRow_stay h.1 h.2 hs, h.2⟩
theorem RkOwn.lies {a b : Nat} {w : World} {x : Rk} (h : RkOwn a b w x) : RkIn w.heap.size w x := bytes_in h.1 rfl
/-- What stays of a block where it is copied. -/
def rkS (x : Rk) : Bool × List By := (x.a, x.l)
theorem rkD_eq (x : Rk) : rkD x = if (rkS x).1 then some (rkS x).2 else none := rfl
theorem rkS_shows {xs ys : List Rk} (h : ys.map rkS = xs.map rkS) : ys.map rkD = xs.map rkD := by
  have e : ∀ l : List Rk, l.map rkD = (l.map rkS).map fun x => if x.1 then some x.2 else none := fun l => by rw [List.map_map]; rfl
  rw [e, e, h]
theorem rkS_len {xs ys : List Rk} (h : ys.map rkS = xs.map rkS) : ys.length = xs.length := by
  have := congrArg List.length h
  rwa [List.length_map, List.length_map] at this
theorem rkS_small {xs ys : List Rk} (h : ys.map rkS = xs.map rkS) (hs : ∀ x ∈ xs, x.l.length ≤ 4096) : ∀ y ∈ ys, y.l.length ≤ 4096 := fun y hy => by
  have : rkS y ∈ xs.map rkS := by rw [← h]; exact List.mem_map_of_mem hy
  obtain ⟨x, hx, e⟩ := List.mem_map.1 this
  have := hs x hx
  have e2 : x.l = y.l := congrArg Prod.snd e
  rw [← e2]; exact this
abbrev RmOwn (a b : Nat) (w : World) (p : Option Addr) (c : Nat) (ys : List Rk) : Prop := ListOwn 85 2 rkC RkOwn a b w p ys.length c ys
theorem RmOwn.lies {a b : Nat} {w : World} {p : Option Addr} {c : Nat} {ys : List Rk} (h : RmOwn a b w p c ys) (hb : b ≤ w.heap.size) (hs : ∀ y ∈ ys, y.l.length ≤ 4096) : RmIn w p c ys (ys.map rkD) :=
  ⟨ListOwn.lies (by decide) rkC_len (fun _ _ _ _ _ hq => RkOwn.lies hq) h hb, rfl, hs⟩
set_option maxHeartbeats 4000000 in
theorem mCopy_any (W : World) (p : Option Addr) (c : Nat) (xs : List Rk) (D : Dm) (hl : xs.length ≤ 100000) (h : RmIn W p c xs D) :
    Calls Try.prog 68 #[.slice p xs.length c] W fun e w' => ∃ q d ys, e = .returned (.slice q xs.length d) ∧ ys.map rkS = xs.map rkS ∧ RmOwn W.heap.size w'.heap.size w' q d ys ∧ Past W.heap.size W w' := by
  have hc := h.row.2.1
  have hc2 := h.row.2.2.1
  unfold maxLen at hc2
  have HH := Lib.hid h
  obtain ⟨iV, hiV, hz0, hz1, hz2⟩ := info_parts infoBy
  have HI := Lib.hid (And.intro hiV (And.intro hz0 (And.intro hz1 hz2)))
  obtain ⟨iW, hiW, hy0, hy1, hy2⟩ := info_parts infoBl
  have HJ := Lib.hid (And.intro hiW (And.intro hy0 (And.intro hy1 hy2)))
  clear h hiV hz0 hz1 hz2 hiW hy0 hy1 hy2
  go_enter Try.func68, Try.ntmps68
  go_wp2_with fail
  go_loopw [3, 4] (fun vo vi wr => ∃ (k : Nat) (ys : List Rk) (q : Option Addr) (d : Nat), k ≤ xs.length ∧ vi = .int .i64 k ∧ vo = .slice q k d ∧ Hid (ys.length = k ∧ ys.map rkS = (xs.take k).map rkS) ∧ Hid (Past W.heap.size W wr) ∧ Hid (Grows 85 2 rkC RkOwn W.heap.size ys q d wr)) (fun _ vi _ => xs.length - (intOf vi).toNat)
  case atStart => exact ⟨0, [], none, 0, Nat.zero_le _, rfl, rfl, Lib.hid ⟨rfl, rfl⟩, Lib.hid ⟨Nat.le_refl _, Below.refl _ _⟩, Lib.hid (Grows.start _ (Nat.le_refl _))⟩
  case round =>
    obtain ⟨k, ys, q, d, hk, rfl, rfl, HY, HP, HG⟩ := hrel
    by_cases t1 : k < xs.length
    · have t1' : (k : Int) < (xs.length : Int) := by omega
      have HR : Hid (RmIn wr p c xs D) := Lib.hid (HH.out.later (HP.out.2))
      obtain ⟨a, ea, ha, _, f1, hby⟩ := HR.out.cell k t1
      have hsm := HR.out.small _ (List.getElem_mem t1)
      obtain ⟨⟨A, p2, d2, l⟩, eA⟩ : ∃ A, xs[k] = A := ⟨_, rfl⟩
      have EA := Lib.hid eA
      rw [eA] at f1 hby hsm
      simp only at f1 hsm
      subst ea
      have hbs : BysIn wr.heap.size wr p2 l.length d2 l := hby
      have HBY := Lib.hid hbs
      have h63 : Hid (0 + l.length ≤ maxLen) := Lib.hid (by unfold maxLen; omega)
      have hb1 : Hid ((0 + l.length) * 40 ≤ 140737488355328) := Lib.hid (by omega)
      have h64 : Hid (k + 1 ≤ maxLen) := Lib.hid (by unfold maxLen; omega)
      have hb2 : Hid ((k + 1) * 32 ≤ 140737488355328) := Lib.hid (by omega)
      have HL := Lib.hid (bys_len l)
      have HROW : Hid (wr.ownsRow W.heap.size 85 2 (.slice q k d) k (ys.flatMap rkC)) := Lib.hid (by have := HG.out.row; rw [HY.out.1] at this; exact this)
      clear eA hby hbs hsm
      go_wp2_with (first
        | (at_builtin; refine wpList_append_at rfl (.tmp 12) (.tmp 17) 25 rfl wr.heap.size 32 iV _ 5 40 Try.underlying25 HI.out.1 HI.out.2.1 HI.out.2.2.1 HI.out.2.2.2 rfl (by decide) (.slice none 0 0) 0 [] rfl (World.ownsRow_nil _ _ _ _) p2 l.length d2 (l.flatMap byC) rfl HL.out HBY.out.cells (bys_one l) h63.out hb1.out (Nat.le_refl _) ?_
           intro v8 w8 hown8 hgrow8 hmv8
           rw [Nat.zero_add, List.nil_append] at hown8
           obtain ⟨q8, c8, rfl⟩ := row_slice hown8
           have hb8 : Below wr.heap.size wr w8 := Below.refl _ _ |>.grown hgrow8 (Nat.le_refl _) (fun j e => by simp [Value.ownBlock] at e)
           obtain ⟨a', ea', _, f0, _, _⟩ := (HR.out.later hb8).cell k t1
           obtain rfl : a = a' := by injection ea'
           rw [EA.out] at f0
           simp only at f0
           have HO := Lib.hid hown8
           have HB8 := Lib.hid hb8
           clear ea' hown8 hgrow8 hmv8 hb8)
        | (at_builtin; refine wpList_append_at rfl (.tmp 19) (.tmp 27) 40 rfl W.heap.size 85 iW _ 2 32 Try.underlying40 HJ.out.1 HJ.out.2.1 HJ.out.2.2.1 HJ.out.2.2.2 rfl (by decide) (.slice q k d) k _ rfl (ownsRow_below HROW.out (HB8.out.trans (below1 _ _ |>.mono HB8.out.size))) (some ⟨w8.heap.size, 0, none⟩) 1 1 (rkC ⟨A, q8, c8, l⟩) rfl rfl (lit_at' _ rfl _ _) (by intro u hu; unfold rkC at hu; simp at hu; rcases hu with rfl | rfl <;> rfl) h64.out hb2.out (by have h1 := HP.out.2.size; have h2 := HB8.out.size; simp; omega) ?_; intro v9 w9 hown9 hgrow9 hmv9))
      obtain ⟨q9, c9, rfl⟩ := row_slice hown9
      have hBB : Below wr.heap.size wr (w8.alloc (.cells #[.bool A, .slice q8 l.length c8] 85)) := HB8.out.trans (below1 _ _ |>.mono HB8.out.size)
      have hRk : RkOwn wr.heap.size w8.heap.size (w8.alloc (.cells #[.bool A, .slice q8 l.length c8] 85)) ⟨A, q8, c8, l⟩ := ⟨ownsRow_below HO.out (below1 _ _), fun g hg => (HO.out.lt g hg).2⟩
      rw [← HY.out.1] at hown9 hgrow9 hmv9
      have G2 := Grows.snoc local_Rk HG.out hBB hRk (Nat.le_refl _) HB8.out.size (by simp) hown9 hgrow9 hmv9
      have P2 : Past W.heap.size W w9 := Past.grownRow ⟨HP.out.1, HP.out.2.trans (hBB.mono HP.out.2.size)⟩ hgrow9 (fun j e => (HG.out.row.lt j e).1)
      exact ⟨⟨k + 1, ys ++ [⟨A, q8, c8, l⟩], q9, c9, t1, by go_num, by rw [← HY.out.1], Lib.hid ⟨by rw [List.length_append, HY.out.1]; rfl, by rw [List.map_append, HY.out.2, List.take_add_one, List.map_append, List.getElem?_eq_getElem t1, EA.out]; rfl⟩, Lib.hid P2, Lib.hid G2⟩, by simp [intOf]; omega⟩
    · obtain rfl : k = xs.length := by omega
      go_wp2_with fail
      go_ret
      have hS : ys.map rkS = xs.map rkS := by rw [HY.out.2, List.take_length]
      exact ⟨q, d, ys, rfl, hS, HG.out.own (lo := 0), HP.out⟩
end Go.Proofs.Ytkbkgbkoplcgeaa
