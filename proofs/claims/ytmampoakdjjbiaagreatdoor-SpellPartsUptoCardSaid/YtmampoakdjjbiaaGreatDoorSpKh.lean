/- form of any instruction; append of a list of one's own at a step of a drawn region. -/
import Derived.Test.YtmampoakdjjbiaaGreatDoorSpKga
import Derived.Test.YtmampoakdjjbiaaGreatDoorSpKgb
import Derived.Test.YtmampoakdjjbiaaGreatDoorSpKgc
import Derived.Test.YtmampoakdjjbiaaGreatDoorSpKgd
import Derived.Test.YtmampoakdjjbiaaGreatDoorSpKge
import Derived.Test.YtmampoakdjjbiaaGreatDoorSpZ
namespace Go.Proofs.YtmampoakdjjbiaaGreatDoor
open Go.RowKit Go.Maps
set_option linter.unusedVariables false
set_option linter.unusedSimpArgs false

theorem step_append_OS {w : World} {ops : Array Oper} {o : Oper} {a : Act} {K : Act → World → Prop} {Q : Exit → Act → World → Prop} {E : Prop} (hgd : o.guard = none) (s x : Operand)
    (ho : o.op = .call { callee := .builtin .append, args := #[s, x], argTypes := #[95, 95] }) (B C : Nat) (v vx : Value) (xs ys : List ByteArray) (hs : a.eval s = v) (hown : OS w B v xs) (hx : a.eval x = vx) (hsrc : OS w C vx ys)
    (hlen : xs.length + ys.length ≤ 4194304) (hB : B ≤ w.heap.size) (h : ∀ v' w', OS w' B v' (xs ++ ys) → Below B w w' → K (a.put o.dst v') w') :
    if Region.wanted o (yielded ops a.tmps) = true then Oper.wp Tryz.prog o a w K Q else E := by
  obtain ⟨i0, hi, hz0, hz1, hz2⟩ := info_parts infoStr
  obtain ⟨p, c, e, hn⟩ : ∃ p c, vx = .slice p ys.length c ∧ ∀ j u, (ys.map Value.string)[j]? = some u → ∃ ad, p = some ad ∧ w.cell? (ad.add j) = some u := by
    rcases hsrc.2 with ⟨rfl, hz⟩ | ⟨g, cap, cur, rfl, hr⟩
    · refine ⟨none, 0, by rw [hz], fun j u hj => ?_⟩
      have : ys = [] := List.length_eq_zero_iff.1 hz
      subst this
      simp at hj
    · exact ⟨_, cap, rfl, fun j u hj => ⟨_, rfl, hsrc.cells (g := g) rfl j u hj⟩⟩
  subst e
  refine step_append_at hgd s x 95 ho B 9 i0 (.string ⟨#[]⟩) 1 16 Tryz.underlying95 hi hz0 hz1 hz2 rfl (by decide) v xs.length _ hs hown p ys.length c (ys.map .string) hx (by simp) hn (fun u hu => ?_) (by unfold maxLen; omega) (by omega) hB (fun v' w' h1 h2 _ => h v' w' ?_ ?_)
  · obtain ⟨t, _, rfl⟩ := List.mem_map.1 hu
    rfl
  · unfold OS
    rw [List.length_append, List.map_append]
    exact h1
  · exact (Below.refl B w).grown h2 hB (fun k hk => hown.heap_le k hk)
theorem map_byt {α : Type} (f : α → Tx) (l : List α) : (l.map fun x => mkS (f x)).map byt = l.map f := by
  rw [List.map_map]
  exact List.map_congr_left fun x _ => byt_mkS _
theorem lay2_len (a b : Tx) : (layT [a, b]).length ≤ a.length + b.length + 1 := by
  show (layS (layS [] a) b).length ≤ _
  have h1 : layS [] a = a := by unfold layS; rw [if_neg fun k => k.1 rfl]; rfl
  rw [h1]
  unfold layS
  split
  · simp; omega
  · simp
section
variable (m : LMod) (x : LI) (b : Nat) (W : World) (hT : TabOk W) (hm : ModIn W.heap.size W m) (hk : LenOk (modD m)) (hx : InsIn W.heap.size W x) (hb : MB m b W) (hB : insB (modD m) (insD x) = true) (hw : insW (insD x)) (hz : insZ (insD x) ≤ 1048576)
include hT hm hk hx hb hB hw hz
set_option maxRecDepth 100000 in
set_option maxHeartbeats 2000000 in
theorem form_any : Calls Tryz.prog 105 #[.pointer (some ⟨b, 0, none⟩), .agg (liC x).toArray] W (OwnS ((formP (modD m) (insD x)).map mkS) W) := by
  have hA := insB_arg hB
  have hTg := insB_tg hB
  have hb0 := hw.2
  have hl : x.1.args.length ≤ 1048576 := by unfold insZ insD at hz; simp only at hz; omega
  have hlt : x.2.length ≤ 1048576 := by unfold insZ insD at hz; simp only at hz; omega
  have hn := hw.1
  unfold insB at hB
  simp only [Bool.and_eq_true, decide_eq_true_eq] at hB
  obtain ⟨⟨⟨⟨⟨⟨⟨h1, h2⟩, h3⟩, h4⟩, h5⟩, h6⟩, -⟩, -⟩ := hB
  obtain ⟨⟨op, rg, ty, nn, fl, ap, al, ac, tp, tl, tc, rs⟩, ts⟩ := x
  obtain ⟨hrs, hts⟩ := hx
  simp only at hl hlt hrs hts
  replace hA : ∀ a ∈ rs, argB (modD m) a = true := hA
  replace hb0 : ∀ a ∈ rs, 0 ≤ a.bits ∧ a.bits < 18446744073709551616 := hb0
  replace hTg : ∀ t ∈ ts, 0 ≤ t ∧ t ≤ 999 := hTg
  have e0 : insD (⟨op, rg, ty, nn, fl, ap, al, ac, tp, tl, tc, rs⟩, ts) = ⟨op, rg, ty, nn, fl, rs, ts⟩ := rfl
  rw [e0] at h1 h2 h3 h4 h5 hn ⊢
  simp only at h1 hn
  show Calls Tryz.prog 105 #[.pointer (some ⟨b, 0, none⟩), .agg #[.int .i64 op, .int .i64 rg, .int .i64 ty, .int .i64 nn, .int .i64 fl, .slice ap al ac, .slice tp tl tc]] W _
  have cA : ∀ w, Below W.heap.size W w → Calls Tryz.prog 122 #[.slice ap al ac, .func (.func 123) #[.pointer (some ⟨b, 0, none⟩)] #[]] w (OwnS (rs.map fun a => mkS (argT m.vs a)) w) := fun w hbw =>
    spellEach_A (argT m.vs) ap al ac rs w (hrs.lasts lasts_NoMem hbw hbw.size) hl _ #[.pointer (some ⟨b, 0, none⟩)] (fun _ _ => rfl) (fun i hi w' hb' => by
      have hbb := hbw.trans (hb'.mono hbw.size)
      exact sOperand_any m b rs[i] w' (hT.later hbb) (lasts_Mod _ _ _ _ _ hbb hbb.size hm) (hb.later hbb) hk.vs (hA _ (List.getElem_mem hi)) (hb0 _ (List.getElem_mem hi)).1 (hb0 _ (List.getElem_mem hi)).2)
  have cB : ∀ w, Below W.heap.size W w → Calls Tryz.prog 78 #[.slice tp tl tc, .func (.func 79) #[] #[]] w (OwnS (ts.map fun t => mkS (blockT t)) w) := fun w hbw =>
    spellEach_I blockT tp tl tc ts w (hts.lasts lasts_NoMem hbw hbw.size) hlt _ #[] (fun _ _ => rfl) (fun i hi w' hb' => by
      have hbb := hbw.trans (hb'.mono hbw.size)
      have ht := hTg _ (List.getElem_mem hi)
      obtain ⟨k, hk2⟩ : ∃ k : Nat, ts[i] = k := ⟨ts[i].toNat, by omega⟩
      rw [hk2]
      exact sBlock_any k (by omega) w' (hT.later hbb))
  have hla0 : (listT (rs.map (argT m.vs))).length ≤ rs.length * 1048602 := listA_len hk hA hb0
  have hla : (listT (rs.map (argT m.vs))).length ≤ 1099538890752 := by omega
  have cL : ∀ v w, SL w v (rs.map fun a => mkS (argT m.vs a)) → Calls Tryz.prog 77 #[v] w (StrV (mkS (listT (rs.map (argT m.vs)))) w) := fun v w h => by
    have := list_any v _ w h (by rw [List.length_map]; omega) (by rw [map_byt]; omega)
    rw [map_byt] at this
    exact this
  have cT : ∀ t w, Below W.heap.size W w → Calls Tryz.prog 12 #[.int .i64 t] w (StrV (mkS (typeT t)) w) := fun t w hbw => sType_any t w (hT.later hbw)
  have hfl : 0 ≤ fl ∧ fl ≤ 7 := by
    unfold flB at h5
    simp only at h5
    split at h5
    · have := of_decide_eq_true h5; omega
    · exact of_decide_eq_true h5
  have cF : ∀ w, Calls Tryz.prog 126 #[.int .i64 fl] w (StrV (mkS (flagsP fl)) w) := sFlags_any fl hfl
  unfold cntB at h2
  unfold hasTyB at h3
  unfold numB at h4
  unfold formP
  simp only at h2 h3 h4 ⊢
  by_cases c1 : 20 ≤ op ∧ op ≤ 22
  · rw [if_pos c1]
    obtain rfl | rfl | rfl : op = 20 ∨ op = 21 ∨ op = 22 := by omega
    · exact fm_20 b rg ty nn fl ap tp al tl ac tc _ _ W cA cB (fun t => mkS (typeT t)) cT _ cL
    · exact fm_21 b rg ty nn fl ap tp al tl ac tc _ _ W cA cB (fun t => mkS (typeT t)) cT _ cL
    · exact fm_22 b rg ty nn fl ap tp al tl ac tc _ _ W cA cB (fun t => mkS (typeT t)) cT _ cL
  rw [if_neg c1]
  by_cases c2 : op = 25
  · subst c2
    rw [if_pos rfl] at h2 ⊢
    have hlen : ts.length = rs.length := of_decide_eq_true h2
    have hbl : ∀ t ∈ ts, (blockT t).length ≤ 21 := fun t ht => blockT_len (by have := hTg t ht; omega)
    have hal : ∀ a ∈ rs, (argT m.vs a).length ≤ 1048600 := fun a ha => argT_len hk (hA a ha) (hb0 a ha).2
    have hpl := sepBy_len [44, 32] 1048622 ((ts.zip rs).map fun p => layT [blockT p.1, argT m.vs p.2]) (fun y hy => by
      obtain ⟨p, hp, rfl⟩ := List.mem_map.1 hy
      have h1 := hbl p.1 (List.of_mem_zip hp).1
      have h2 := hal p.2 (List.of_mem_zip hp).2
      have := lay2_len (blockT p.1) (argT m.vs p.2)
      omega)
    rw [List.length_map, List.length_zip] at hpl
    have hpl2 : min ts.length rs.length * (1048622 + 2) ≤ 1048576 * (1048622 + 2) := Nat.mul_le_mul_right _ (by omega)
    refine fm_25 b rg ty nn fl ap tp al tl ac tc _ _ W cA cB ((ts.zip rs).map fun p => mkS (layT [blockT p.1, argT m.vs p.2])) rs.length (by simp) (by simp [hlen]) (by simp [hlen]) hl (fun i x y hx hy => ?_) (fun t => mkS (typeT t)) cT _ (fun v w h => ?_) _ cF
    · rw [List.getElem?_map] at hx hy
      cases ht : ts[i]? with
      | none => rw [ht] at hx; cases hx
      | some t =>
        cases ha : rs[i]? with
        | none => rw [ha] at hy; cases hy
        | some a =>
          rw [ht] at hx
          rw [ha] at hy
          injection hx with hx
          injection hy with hy
          subst hx hy
          refine ⟨mkS (layT [blockT t, argT m.vs a]), ?_, fun w v h => ?_⟩
          · have hzz : (ts.zip rs)[i]? = some (t, a) := List.getElem?_zip_eq_some.2 ⟨ht, ha⟩
            rw [List.getElem?_map, hzz]
            rfl
          · have h1 := hbl t (List.mem_of_getElem? ht)
            have h2 := hal a (List.mem_of_getElem? ha)
            have h3 := lay2_len (blockT t) (argT m.vs a)
            have := lay_any v _ w h (by simp) (by
              show (layT [byt (mkS (blockT t)), byt (mkS (argT m.vs a))]).length ≤ _
              rw [byt_mkS, byt_mkS]
              omega)
            have e : layT ([mkS (blockT t), mkS (argT m.vs a)].map byt) = layT [blockT t, argT m.vs a] := by
              show layT [byt (mkS (blockT t)), byt (mkS (argT m.vs a))] = _
              rw [byt_mkS, byt_mkS]
            rw [e] at this
            exact this
    · have := list_any v _ w h (by simp; omega) (by
        rw [map_byt]
        refine Nat.le_trans hpl ?_
        show min ts.length rs.length * (1048622 + 2) ≤ _
        omega)
      rw [map_byt] at this
      exact this
  rw [if_neg c2] at h2 ⊢
  by_cases c3 : op = 26
  · subst c3
    rw [if_pos rfl]
    rw [if_neg (by omega), if_pos rfl] at h4
    have h0 : 0 ≤ nn := of_decide_eq_true h4
    obtain ⟨k, rfl⟩ : ∃ k : Nat, nn = k := ⟨nn.toNat, by omega⟩
    exact fm_26 b rg ty _ fl ap tp al tl ac tc _ _ W cA cB k rfl _ (fun w hbw => itoa_any k (by omega) w (hT.later hbw))
  rw [if_neg c3]
  by_cases c4 : op = 30
  · subst c4
    rw [if_pos rfl]
    rw [if_neg (by omega), if_pos rfl] at h3
    have hc : calR (modD m).xs (modD m).fs nn = some ty := of_decide_eq_true h3
    unfold calR at hc
    have fin : ∀ nm : ByteArray, nm ++ (⟨#[40]⟩ : ByteArray) ++ mkS (listT (rs.map (argT m.vs))) ++ (⟨#[41]⟩ : ByteArray) = mkS (byt nm ++ 40 :: (listT (rs.map (argT m.vs)) ++ [41])) := fun nm => by
      rw [show (⟨#[40]⟩ : ByteArray) = mkS [40] from rfl, show (⟨#[41]⟩ : ByteArray) = mkS [41] from rfl]
      conv => lhs; rw [← mkS_byt nm]
      rw [mkS_app, mkS_app, mkS_app]
      congr 1
      simp
    by_cases h0 : 0 ≤ nn
    · obtain ⟨k, rfl⟩ : ∃ k : Nat, nn = k := ⟨nn.toNat, by omega⟩
      rw [if_pos h0, Int.toNat_natCast] at hc
      have hkl : k < m.fs.length := by
        rcases Nat.lt_or_ge k m.fs.length with h | h
        · exact h
        · rw [show (modD m).fs = m.fs.map fnD from rfl, List.getElem?_eq_none (by simpa using h)] at hc
          cases hc
      rw [calT_fn hkl]
      show Calls _ _ _ _ (OwnS [mkS (byt m.fs[k].nm ++ 40 :: (listT (rs.map (argT m.vs)) ++ [41]))] W)
      rw [← fin]
      exact fm_30 b rg ty _ fl ap tp al tl ac tc _ _ W cA cB m.fs[k].nm _ (hk.fs (fnD m.fs[k]) (List.mem_map_of_mem (List.getElem_mem hkl))) (by rw [size_mkS]; exact hla) cL (fun w hbw => callee_fn m b k hkl w (lasts_Mod _ _ _ _ _ hbw hbw.size hm) (hb.later hbw))
    · obtain ⟨k, rfl⟩ : ∃ k : Nat, nn = -1 - (k : Int) := ⟨(-1 - nn).toNat, by omega⟩
      rw [if_neg h0, show (-1 - (-1 - (k : Int))).toNat = k by omega] at hc
      have hkl : k < m.xs.length := by
        rcases Nat.lt_or_ge k m.xs.length with h | h
        · exact h
        · rw [show (modD m).xs = m.xs.map extD from rfl, List.getElem?_eq_none (by simpa using h)] at hc
          cases hc
      rw [calT_ext hkl]
      show Calls _ _ _ _ (OwnS [mkS (byt m.xs[k].nm ++ 40 :: (listT (rs.map (argT m.vs)) ++ [41]))] W)
      rw [← fin]
      exact fm_30 b rg ty _ fl ap tp al tl ac tc _ _ W cA cB m.xs[k].nm _ (hk.xs (extD m.xs[k]) (List.mem_map_of_mem (List.getElem_mem hkl))) (by rw [size_mkS]; exact hla) cL (fun w hbw => callee_ext m b k hkl w (lasts_Mod _ _ _ _ _ hbw hbw.size hm) (hb.later hbw))
  rw [if_neg c4] at h2 ⊢
  have cLc : ∀ v w, SL w v ((rs.map fun a => mkS (argT m.vs a)) ++ ts.map fun t => mkS (blockT t)) → Calls Tryz.prog 77 #[v] w (StrV (mkS (listT (rs.map (argT m.vs) ++ ts.map blockT))) w) := fun v w h => by
    have hbl : ∀ t ∈ ts, (blockT t).length ≤ 21 := fun t ht => blockT_len (by have := hTg t ht; omega)
    have hal : ∀ a ∈ rs, (argT m.vs a).length ≤ 1048600 := fun a ha => argT_len hk (hA a ha) (hb0 a ha).2
    have hpl := sepBy_len [44, 32] 1048600 (rs.map (argT m.vs) ++ ts.map blockT) (fun y hy => by
      rcases List.mem_append.1 hy with hy | hy
      · obtain ⟨a, ha, rfl⟩ := List.mem_map.1 hy
        exact hal a ha
      · obtain ⟨t, ht, rfl⟩ := List.mem_map.1 hy
        have := hbl t ht
        omega)
    rw [List.length_append, List.length_map, List.length_map] at hpl
    have hpl2 : (rs.length + ts.length) * (1048600 + 2) ≤ 2097152 * (1048600 + 2) := Nat.mul_le_mul_right _ (by omega)
    have e : ((rs.map fun a => mkS (argT m.vs a)) ++ ts.map fun t => mkS (blockT t)).map byt = rs.map (argT m.vs) ++ ts.map blockT := by rw [List.map_append, map_byt, map_byt]
    have := list_any v _ w h (by simp; omega) (by
      rw [e]
      refine Nat.le_trans hpl ?_
      show (rs.length + ts.length) * (1048600 + 2) ≤ _
      omega)
    rw [e] at this
    exact this
  have lA : (rs.map fun a => mkS (argT m.vs a)).length ≤ 1048576 := by rw [List.length_map]; exact hl
  have lB : (ts.map fun t => mkS (blockT t)).length ≤ 1048576 := by rw [List.length_map]; exact hlt
  by_cases c5 : op = 29
  · subst c5
    rw [if_pos (.inl rfl)]
    exact fm_29 b rg ty nn fl ap tp al tl ac tc _ _ W cA cB lA lB _ cLc
  by_cases c6 : op = 31
  · subst c6
    rw [if_pos (.inr (.inl rfl))]
    exact fm_31 b rg ty nn fl ap tp al tl ac tc _ _ W cA cB lA lB _ cLc
  by_cases c7 : op = 32
  · subst c7
    rw [if_pos (.inr (.inr (.inl rfl)))]
    exact fm_32 b rg ty nn fl ap tp al tl ac tc _ _ W cA cB lA lB _ cLc
  by_cases c8 : op = 34
  · subst c8
    rw [if_pos (.inr (.inr (.inr rfl)))]
    exact fm_34 b rg ty nn fl ap tp al tl ac tc _ _ W cA cB lA lB _ cLc
  rw [if_neg (by omega)]
  by_cases c9 : op = 33
  · subst c9
    by_cases e : rs = []
    · rw [if_pos ⟨rfl, e⟩]
      exact fm_33n b rg ty nn fl ap tp al tl ac tc _ _ W cA cB (by rw [e]; rfl)
    · rw [if_neg (fun k => e k.2)]
      exact fm_33 b rg ty nn fl ap tp al tl ac tc _ _ W cA cB (fun k => e (List.length_eq_zero_iff.1 (by rw [List.length_map] at k; exact k))) (fun t => mkS (typeT t)) cT _ cL _ cF
  rw [if_neg (fun k => c9 k.1)]
  exact fm_o b op rg ty nn fl ap tp al tl ac tc _ _ W cA cB ⟨by omega, by omega, by omega, c2, c3, c5, c6, c7, c8, c4, c9⟩ (fun t => mkS (typeT t)) cT _ cL _ cF
end
end Go.Proofs.YtmampoakdjjbiaaGreatDoor
