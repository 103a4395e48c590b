/- Package ir: copies of externs and of whole modules. -/
import Derived.Test.YtpfeiolmkbibiaaOwnE
namespace Go.Proofs.Ytpfeiolmkbibiaa
open Go.RowKit Go.Maps
set_option linter.unusedVariables false
set_option linter.unusedSimpArgs false

theorem enters_cx : ∀ (args : Array Value) (w : World), (callFunc 49 args).run Try.prog w = .ok (.enter 49 args) w := fun _ _ => rfl
theorem enters_cf : ∀ (args : Array Value) (w : World), (callFunc 38 args).run Try.prog w = .ok (.enter 38 args) w := fun _ _ => rfl
set_option maxRecDepth 100000 in
set_option maxHeartbeats 2000000 in
theorem copyExtern_own (x : LExt) (W : World) (h : ExtIn W.heap.size W x) (hz : extZ (extD x) ≤ 1048576) :
    Calls Try.prog 49 #[.agg (extC x).toArray] W fun e w' => ∃ y, e = .returned (.agg (extC y).toArray) ∧ extD y = extD x ∧ Past W.heap.size W w' ∧ ExtOwn W.heap.size w'.heap.size w' y := by
  obtain ⟨nm, pp, pn, pc, ps, rt⟩ := x
  have hL : ListIn intC NoMem W.heap.size W pp pn pc ps := h
  have hz2 : 1 + ps.length ≤ 1048576 := hz
  show Calls Try.prog 49 #[.agg #[.string nm, .slice pp pn pc, .int .i64 rt]] W _
  have P0 := ((Past.refl (Nat.le_refl W.heap.size)).alloc (.cells #[.string nm, .slice pp pn pc, .int .i64 rt] 70)).alloc (.cells #[.string { data := #[] }, .slice none 0 0, .int .i64 0] 70)
  have S0 : Box W.heap.size [.string nm, .slice pp pn pc, .int .i64 rt] ((W.alloc (.cells #[.string nm, .slice pp pn pc, .int .i64 rt] 70)).alloc (.cells #[.string { data := #[] }, .slice none 0 0, .int .i64 0] 70)) := (Box.new W rfl _ _).alloc _
  have R0 : Box (W.heap.size + 1) [.string { data := #[] }, .slice none 0 0, .int .i64 0] ((W.alloc (.cells #[.string nm, .slice pp pn pc, .int .i64 rt] 70)).alloc (.cells #[.string { data := #[] }, .slice none 0 0, .int .i64 0] 70)) := Box.new _ (by simp) _ _
  have z0 : ((W.alloc (.cells #[.string nm, .slice pp pn pc, .int .i64 rt] 70)).alloc (.cells #[.string { data := #[] }, .slice none 0 0, .int .i64 0] 70)).heap.size = W.heap.size + 2 := by simp
  go_enter Try.func49, Try.ntmps49
  go_wp2_with fail
  generalize ((W.alloc (.cells #[.string nm, .slice pp pn pc, .int .i64 rt] 70)).alloc (.cells #[.string { data := #[] }, .slice none 0 0, .int .i64 0] 70)) = W2 at *
  refine (copyInts_own W2 pp pn pc ps (hL.lasts lasts_NoMem P0.2 P0.2.size) (by omega)).mono ?_
  rintro e w3 ⟨p3, c3, rfl, hp3, ho3⟩
  have S3 := S0.later hp3.2
  have R3 := R0.later hp3.2
  have a0 := S3.get 0 _ rfl
  have a1 := S3.get 1 _ rfl
  have a2 := S3.get 2 _ rfl
  have af := S3.2.1
  have S4 := S3.set 1 (.slice p3 pn c3)
  have R4 := R3.other (d := W.heap.size) (by omega) 1 (.slice p3 pn c3)
  have d0 := S4.get 0 _ rfl
  have d1 := S4.get 1 _ rfl
  have d2 := S4.get 2 _ rfl
  have b0 := R4.get 0 _ rfl
  have b1 := R4.get 1 _ rfl
  have b2 := R4.get 2 _ rfl
  have bf := R4.2.1
  have l1 := S3.1
  have l2 := R3.1
  have l3 := hp3.2.size
  have l4 : (w3.setCell ⟨W.heap.size, 1, none⟩ (.slice p3 pn c3)).heap.size = w3.heap.size := by simp [World.setCell]
  have P4 := (P0.trans ⟨P0.size, hp3.2.mono P0.size⟩).set (a := ⟨W.heap.size, 1, none⟩) (Nat.le_refl _) (.slice p3 pn c3)
  have st4 : Stay W2.heap.size w3.heap.size w3 (w3.setCell ⟨W.heap.size, 1, none⟩ (.slice p3 pn c3)) := fun k h1 h2 => Below.heap_setCell _ _ _ _ (by dsimp only; omega)
  have ho4 := ho3.stay local_NoOwn st4
  go_wp2_with fail
  generalize (w3.setCell ⟨W.heap.size, 1, none⟩ (.slice p3 pn c3)) = w4 at *
  have R5 := ((R4.set 0 (.string nm)).set 1 (.slice p3 pn c3)).set 2 (.int .i64 rt)
  have f0 := R5.get 0 _ rfl
  have f1 := R5.get 1 _ rfl
  have f2 := R5.get 2 _ rfl
  have st5 : Stay W2.heap.size w3.heap.size w4 (((w4.setCell ⟨W.heap.size + 1, 0, none⟩ (.string nm)).setCell ⟨W.heap.size + 1, 1, none⟩ (.slice p3 pn c3)).setCell ⟨W.heap.size + 1, 2, none⟩ (.int .i64 rt)) :=
    fun k h1 h2 => (Below.heap_setCell _ _ _ _ (by dsimp only; omega)).trans ((Below.heap_setCell _ _ _ _ (by dsimp only; omega)).trans (Below.heap_setCell _ _ _ _ (by dsimp only; omega)))
  have l5 : (((w4.setCell ⟨W.heap.size + 1, 0, none⟩ (.string nm)).setCell ⟨W.heap.size + 1, 1, none⟩ (.slice p3 pn c3)).setCell ⟨W.heap.size + 1, 2, none⟩ (.int .i64 rt)).heap.size = w3.heap.size := by simp [World.setCell]; omega
  have P5 := ((P4.set (a := ⟨W.heap.size + 1, 0, none⟩) (by dsimp only; omega) (.string nm)).set (a := ⟨W.heap.size + 1, 1, none⟩) (by dsimp only; omega) (.slice p3 pn c3)).set (a := ⟨W.heap.size + 1, 2, none⟩) (by dsimp only; omega) (.int .i64 rt)
  have ho5 := ho4.stay local_NoOwn st5
  refine bodyPost_ret (v := .agg #[.string nm, .slice p3 pn c3, .int .i64 rt]) (by simp [results, Try.results49, go_sem, f0, f1, f2]) rfl ⟨⟨nm, p3, pn, c3, ps, rt⟩, rfl, rfl, P5, ?_⟩
  rw [l5]
  obtain ⟨o1, o2, o3, o4⟩ := ho5
  exact ⟨o1, o2.mono (by omega), o3, o4.down (by omega)⟩

theorem extsZ_mem {l : List PExt} {x : PExt} (h : x ∈ l) : extZ x ≤ (l.map extZ).sum := sum_mem extZ h
theorem fnsZ_mem {l : List PFn} {x : PFn} (h : x ∈ l) : fnZ x ≤ (l.map fnZ).sum := sum_mem fnZ h
theorem copyExts_own (W : World) (p : Option Addr) (n c : Nat) (L : List LExt) (h : ListIn extC ExtIn W.heap.size W p n c L) (hz : ((L.map extD).map extZ).sum ≤ 1048576) :
    Calls Try.prog 48 #[.slice p n c, .func (.func 49) #[] #[]] W fun e w' => ∃ p' n' c' L', e = .returned (.slice p' n' c') ∧ L'.map extD = L.map extD ∧ Past W.heap.size W w' ∧ ListOwn 70 3 extC ExtOwn W.heap.size w'.heap.size w' p' n' c' L' := by
  have hn := h.1
  subst hn
  have hlen : L.length ≤ 1048576 := by have := len_sum extZ (fun x => by unfold extZ; omega) (L.map extD); rw [List.length_map] at this; omega
  refine (copyEach_X extC (fun _ => rfl) extC_one extD ExtOwn local_Ext _ enters_cx L p c W h.cells hlen (fun i hi w hp => ?_)).mono ?_
  · refine copyExtern_own L[i] w (past_lasts lasts_Ext (h.2.2.2.2 _ (List.getElem_mem hi)) hp) ?_
    have := extsZ_mem (List.mem_map_of_mem (f := extD) (List.getElem_mem hi)); omega
  · rintro e w' ⟨v', ys, rfl, hd, hp, hr, hs⟩
    obtain ⟨p', c', rfl⟩ := row_slice hr
    exact ⟨p', _, c', ys, rfl, hd, hp, own_intro rfl hr rfl hs⟩
theorem copyFns_own (W : World) (p : Option Addr) (n c : Nat) (L : List LFn) (h : ListIn fnC FnIn W.heap.size W p n c L) (hz : ((L.map fnD).map fnZ).sum ≤ 1048576) :
    Calls Try.prog 50 #[.slice p n c, .func (.func 38) #[] #[]] W fun e w' => ∃ p' n' c' L', e = .returned (.slice p' n' c') ∧ L'.map fnD = L.map fnD ∧ Past W.heap.size W w' ∧ ListOwn 41 4 fnC FnOwn W.heap.size w'.heap.size w' p' n' c' L' := by
  have hn := h.1
  subst hn
  have hlen : L.length ≤ 1048576 := by have := len_sum fnZ (fun x => by unfold fnZ; omega) (L.map fnD); rw [List.length_map] at this; omega
  refine (copyEach_F fnC (fun _ => rfl) fnC_one fnD FnOwn local_Fn _ enters_cf L p c W h.cells hlen (fun i hi w hp => ?_)).mono ?_
  · refine CopyFunc_own L[i] w (past_lasts lasts_Fn (h.2.2.2.2 _ (List.getElem_mem hi)) hp) ?_
    have := fnsZ_mem (List.mem_map_of_mem (f := fnD) (List.getElem_mem hi)); omega
  · rintro e w' ⟨v', ys, rfl, hd, hp, hr, hs⟩
    obtain ⟨p', c', rfl⟩ := row_slice hr
    exact ⟨p', _, c', ys, rfl, hd, hp, own_intro rfl hr rfl hs⟩
theorem copyVars_own (W : World) (p : Option Addr) (n c : Nat) (L : List PVar) (h : ListIn varC NoMem W.heap.size W p n c L) (hz : L.length ≤ 1048576) :
    Calls Try.prog 47 #[.slice p n c] W fun e w' => ∃ p' c', e = .returned (.slice p' n c') ∧ Past W.heap.size W w' ∧ ListOwn 73 2 varC NoOwn W.heap.size w'.heap.size w' p' n c' L := by
  have hn := h.1
  subst hn
  refine (copyList_G p L.length c (L.flatMap varC) W (flat_len varC 2 (fun _ => rfl) L) h.cells (fun u hu => by obtain ⟨x, _, hx⟩ := List.mem_flatMap.1 hu; exact varC_one x u hx) hz).mono ?_
  rintro e w' ⟨v', rfl, hp, hr⟩
  obtain ⟨p', c', rfl⟩ := row_slice hr
  exact ⟨p', c', rfl, hp, own_intro rfl hr rfl (spread_NoOwn hp.2.size _)⟩

set_option maxRecDepth 100000 in
set_option maxHeartbeats 4000000 in
theorem Copy_own (m : LMod) (W : World) (h : ModIn W.heap.size W m) (hz : modZ (modD m) ≤ 1048576) :
    Calls Try.prog 23 #[.agg (modC m).toArray] W fun e w' => ∃ y, e = .returned (.agg (modC y).toArray) ∧ modD y = modD m ∧ Past W.heap.size W w' ∧ ModOwn W.heap.size w'.heap.size w' y := by
  obtain ⟨vp, vn, vc, vs, xp, xn, xc, xs, fp, fn, fc, fs⟩ := m
  obtain ⟨h1, h2, h3⟩ := h
  simp only at h1 h2 h3
  have hz : vs.length + ((xs.map extD).map extZ).sum + ((fs.map fnD).map fnZ).sum ≤ 1048576 := hz
  show Calls Try.prog 23 #[.agg #[.slice vp vn vc, .slice xp xn xc, .slice fp fn fc]] W _
  have P0 := ((Past.refl (Nat.le_refl W.heap.size)).alloc (.cells #[.slice vp vn vc, .slice xp xn xc, .slice fp fn fc] 34)).alloc (.cells #[.slice none 0 0, .slice none 0 0, .slice none 0 0] 34)
  have S0 : Box W.heap.size [.slice vp vn vc, .slice xp xn xc, .slice fp fn fc] ((W.alloc (.cells #[.slice vp vn vc, .slice xp xn xc, .slice fp fn fc] 34)).alloc (.cells #[.slice none 0 0, .slice none 0 0, .slice none 0 0] 34)) := (Box.new W rfl _ _).alloc _
  have R0 : Box (W.heap.size + 1) [.slice none 0 0, .slice none 0 0, .slice none 0 0] ((W.alloc (.cells #[.slice vp vn vc, .slice xp xn xc, .slice fp fn fc] 34)).alloc (.cells #[.slice none 0 0, .slice none 0 0, .slice none 0 0] 34)) := Box.new _ (by simp) _ _
  have z0 : ((W.alloc (.cells #[.slice vp vn vc, .slice xp xn xc, .slice fp fn fc] 34)).alloc (.cells #[.slice none 0 0, .slice none 0 0, .slice none 0 0] 34)).heap.size = W.heap.size + 2 := by simp
  go_enter Try.func23, Try.ntmps23
  go_wp2_with fail
  generalize ((W.alloc (.cells #[.slice vp vn vc, .slice xp xn xc, .slice fp fn fc] 34)).alloc (.cells #[.slice none 0 0, .slice none 0 0, .slice none 0 0] 34)) = W2 at *
  refine (copyVars_own W2 vp vn vc vs (h1.lasts lasts_NoMem P0.2 P0.2.size) (by omega)).mono ?_
  rintro e w3 ⟨p3, c3, rfl, hp3, ho3⟩
  have S3 := S0.later hp3.2
  have R3 := R0.later hp3.2
  have P3 := P0.trans ⟨P0.size, hp3.2.mono P0.size⟩
  have l3 := hp3.2.size
  have a0 := S3.get 0 _ rfl
  have a1 := S3.get 1 _ rfl
  have a2 := S3.get 2 _ rfl
  have af := S3.2.1
  have S4 := S3.set 0 (.slice p3 vn c3)
  have R4 := R3.other (d := W.heap.size) (by omega) 0 (.slice p3 vn c3)
  have P4 := P3.set (a := ⟨W.heap.size, 0, none⟩) (Nat.le_refl _) (.slice p3 vn c3)
  have l4 : (w3.setCell ⟨W.heap.size, 0, none⟩ (.slice p3 vn c3)).heap.size = w3.heap.size := by simp [World.setCell]
  have st4 : ∀ b, Stay W2.heap.size b w3 (w3.setCell ⟨W.heap.size, 0, none⟩ (.slice p3 vn c3)) := fun b k h1 h2 => Below.heap_setCell _ _ _ _ (by dsimp only; omega)
  have ho4 := ho3.stay local_NoOwn (st4 _)
  have d1 := S4.get 1 _ rfl
  go_wp2_with fail
  clear a0 a1 a2 af d1
  generalize (w3.setCell ⟨W.heap.size, 0, none⟩ (.slice p3 vn c3)) = w4 at *
  refine (copyExts_own w4 xp xn xc xs (h2.lasts lasts_Ext P4.2 P4.2.size) (by omega)).mono ?_
  rintro e w5 ⟨p5, n5, c5, L5, rfl, hd5, hp5, ho5⟩
  have S5 := S4.later hp5.2
  have R5 := R4.later hp5.2
  have P5 := P4.trans ⟨P4.size, hp5.2.mono P4.size⟩
  have l5 := hp5.2.size
  have ho4' := ho4.stay local_NoOwn (hp5.stay (b := w3.heap.size) (by omega))
  have a0 := S5.get 0 _ rfl
  have a1 := S5.get 1 _ rfl
  have a2 := S5.get 2 _ rfl
  have af := S5.2.1
  have S6 := S5.set 1 (.slice p5 n5 c5)
  have R6 := R5.other (d := W.heap.size) (by omega) 1 (.slice p5 n5 c5)
  have P6 := P5.set (a := ⟨W.heap.size, 1, none⟩) (Nat.le_refl _) (.slice p5 n5 c5)
  have l6 : (w5.setCell ⟨W.heap.size, 1, none⟩ (.slice p5 n5 c5)).heap.size = w5.heap.size := by simp [World.setCell]
  have st6 : ∀ b, Stay W2.heap.size b w5 (w5.setCell ⟨W.heap.size, 1, none⟩ (.slice p5 n5 c5)) := fun b k h1 h2 => Below.heap_setCell _ _ _ _ (by dsimp only; omega)
  have ho6 := ho4'.stay local_NoOwn (st6 _)
  have ho7 := ho5.stay local_Ext ((st6 _).mono (by omega) (Nat.le_refl _))
  have d2 := S6.get 2 _ rfl
  go_wp2_with fail
  clear a0 a1 a2 af d2
  generalize (w5.setCell ⟨W.heap.size, 1, none⟩ (.slice p5 n5 c5)) = w6 at *
  refine (copyFns_own w6 fp fn fc fs (h3.lasts lasts_Fn P6.2 P6.2.size) (by omega)).mono ?_
  rintro e w7 ⟨p7, n7, c7, L7, rfl, hd7, hp7, ho8⟩
  have S7 := S6.later hp7.2
  have R7 := R6.later hp7.2
  have P7 := P6.trans ⟨P6.size, hp7.2.mono P6.size⟩
  have l7 := hp7.2.size
  have ho6' := ho6.stay local_NoOwn (hp7.stay (b := w3.heap.size) (by omega))
  have ho7' := ho7.stay local_Ext (hp7.stay (b := w5.heap.size) (by omega))
  have a0 := S7.get 0 _ rfl
  have a1 := S7.get 1 _ rfl
  have a2 := S7.get 2 _ rfl
  have af := S7.2.1
  have S8 := S7.set 2 (.slice p7 n7 c7)
  have R8 := R7.other (d := W.heap.size) (by omega) 2 (.slice p7 n7 c7)
  have P8 := P7.set (a := ⟨W.heap.size, 2, none⟩) (Nat.le_refl _) (.slice p7 n7 c7)
  have l8 : (w7.setCell ⟨W.heap.size, 2, none⟩ (.slice p7 n7 c7)).heap.size = w7.heap.size := by simp [World.setCell]
  have st8 : ∀ a b, W2.heap.size ≤ a → Stay a b w7 (w7.setCell ⟨W.heap.size, 2, none⟩ (.slice p7 n7 c7)) := fun a b ha k h1 h2 => Below.heap_setCell _ _ _ _ (by dsimp only; omega)
  have d0 := S8.get 0 _ rfl
  have d1 := S8.get 1 _ rfl
  have d2 := S8.get 2 _ rfl
  have b0 := R8.get 0 _ rfl
  have b1 := R8.get 1 _ rfl
  have b2 := R8.get 2 _ rfl
  have bf := R8.2.1
  have q1 := ho6'.stay local_NoOwn (st8 _ _ (Nat.le_refl _))
  have q2 := ho7'.stay local_Ext (st8 _ _ (by omega))
  have q3 := ho8.stay local_Fn (st8 _ _ (by omega))
  go_wp2_with fail
  generalize (w7.setCell ⟨W.heap.size, 2, none⟩ (.slice p7 n7 c7)) = w8 at *
  have R9 := ((R8.set 0 (.slice p3 vn c3)).set 1 (.slice p5 n5 c5)).set 2 (.slice p7 n7 c7)
  have f0 := R9.get 0 _ rfl
  have f1 := R9.get 1 _ rfl
  have f2 := R9.get 2 _ rfl
  have st9 : ∀ a b, W2.heap.size ≤ a → Stay a b w8 (((w8.setCell ⟨W.heap.size + 1, 0, none⟩ (.slice p3 vn c3)).setCell ⟨W.heap.size + 1, 1, none⟩ (.slice p5 n5 c5)).setCell ⟨W.heap.size + 1, 2, none⟩ (.slice p7 n7 c7)) :=
    fun a b ha k h1 h2 => (Below.heap_setCell _ _ _ _ (by dsimp only; omega)).trans ((Below.heap_setCell _ _ _ _ (by dsimp only; omega)).trans (Below.heap_setCell _ _ _ _ (by dsimp only; omega)))
  have l9 : (((w8.setCell ⟨W.heap.size + 1, 0, none⟩ (.slice p3 vn c3)).setCell ⟨W.heap.size + 1, 1, none⟩ (.slice p5 n5 c5)).setCell ⟨W.heap.size + 1, 2, none⟩ (.slice p7 n7 c7)).heap.size = w7.heap.size := by simp [World.setCell]; omega
  have P9 := ((P8.set (a := ⟨W.heap.size + 1, 0, none⟩) (by dsimp only; omega) (.slice p3 vn c3)).set (a := ⟨W.heap.size + 1, 1, none⟩) (by dsimp only; omega) (.slice p5 n5 c5)).set (a := ⟨W.heap.size + 1, 2, none⟩) (by dsimp only; omega) (.slice p7 n7 c7)
  refine bodyPost_ret (v := .agg #[.slice p3 vn c3, .slice p5 n5 c5, .slice p7 n7 c7]) (by simp [results, Try.results23, go_sem, f0, f1, f2]) rfl ⟨⟨p3, vn, c3, vs, p5, n5, c5, L5, p7, n7, c7, L7⟩, rfl, by unfold modD; rw [hd5, hd7], P9, w3.heap.size, w5.heap.size, ?_, ?_, ?_⟩
  · obtain ⟨o1, o2, o3, o4⟩ := q1.stay local_NoOwn (st9 _ _ (Nat.le_refl _))
    exact ⟨o1, o2.mono (by omega), o3, o4.down (by omega)⟩
  · obtain ⟨o1, o2, o3, o4⟩ := q2.stay local_Ext (st9 _ _ (by omega))
    exact ⟨o1, o2.mono (by omega), o3, o4.down (by omega)⟩
  · rw [l9]
    obtain ⟨o1, o2, o3, o4⟩ := q3.stay local_Fn (st9 _ _ (by omega))
    exact ⟨o1, o2.mono (by omega), o3, o4.down (by omega)⟩
end Go.Proofs.Ytpfeiolmkbibiaa
