/- What the document puts behind an operation's word, whole; the words; instructions. -/
import Derived.Test.YtmampoakdjjbiaaGreatDoorSpY
namespace Go.Proofs.YtmampoakdjjbiaaGreatDoor
open Go.RowKit Go.Maps
set_option linter.unusedVariables false
set_option linter.unusedSimpArgs false

theorem calT_fn {m : LMod} {k : Nat} (h : k < m.fs.length) : calT (modD m).xs (modD m).fs (k : Int) = byt m.fs[k].nm := by
  unfold calT
  rw [if_pos (by omega), Int.toNat_natCast]
  show (match (m.fs.map fnD)[k]? with | some f => byt f.nm | none => []) = _
  rw [List.getElem?_map, List.getElem?_eq_getElem h]
  rfl
theorem calT_ext {m : LMod} {k : Nat} (h : k < m.xs.length) : calT (modD m).xs (modD m).fs (-1 - (k : Int)) = byt m.xs[k].nm := by
  unfold calT
  rw [if_neg (by omega), show (-1 - (-1 - (k : Int))).toNat = k by omega]
  show (match (m.xs.map extD)[k]? with | some f => byt f.nm | none => []) = _
  rw [List.getElem?_map, List.getElem?_eq_getElem h]
  rfl
theorem len_two {α : Type} {l : List α} (h : l.length = 2) : ∃ a b, l = [a, b] := by
  match l, h with
  | [a, b], _ => exact ⟨a, b, rfl⟩
theorem rBehind_any (m : LMod) (x : LI) (W : World) (hm : ModIn W.heap.size W m) (hk : LenOk (modD m)) (hx : InsIn W.heap.size W x) (hB : insB (modD m) (insD x) = true) (hw : insW (insD x)) (hz : insZ (insD x) ≤ 1048576) :
    Calls Tryz.prog 82 #[.agg (modC m).toArray, .agg (liC x).toArray] W (StrV (mkS (behindT (modD m) (insD x))) W) := by
  have hA := insB_arg hB
  have hT := insB_tg hB
  have hb0 := hw.2
  have hl : x.1.args.length ≤ 1048576 := by unfold insZ insD at hz; simp only at hz; omega
  have hlt : x.2.length ≤ 1048576 := by unfold insZ insD at hz; simp only at hz; omega
  have hn := hw.1
  unfold insB at hB
  simp only [Bool.and_eq_true, decide_eq_true_eq] at hB
  obtain ⟨⟨⟨⟨⟨⟨⟨h1, h2⟩, h3⟩, h4⟩, h5⟩, h6⟩, -⟩, -⟩ := hB
  obtain ⟨⟨op, rg, ty, nn, fl, ap, al, ac, tp, tl, tc, rs⟩, ts⟩ := x
  obtain ⟨hrs, hts⟩ := hx
  simp only at hl hlt hrs hts
  replace hA : ∀ a ∈ rs, argB (modD m) a = true := hA
  replace hb0 : ∀ a ∈ rs, 0 ≤ a.bits ∧ a.bits < 18446744073709551616 := hb0
  replace hT : ∀ t ∈ ts, 0 ≤ t ∧ t ≤ 999 := hT
  have e0 : insD (⟨op, rg, ty, nn, fl, ap, al, ac, tp, tl, tc, rs⟩, ts) = ⟨op, rg, ty, nn, fl, rs, ts⟩ := rfl
  rw [e0] at h1 h2 h3 h4 hn ⊢
  simp only at h1 hn
  show Calls Tryz.prog 82 #[.agg (modC m).toArray, .agg #[.int .i64 op, .int .i64 rg, .int .i64 ty, .int .i64 nn, .int .i64 fl, .slice ap al ac, .slice tp tl tc]] W _
  unfold cntB at h2
  unfold hasTyB at h3
  unfold numB at h4
  unfold behindT
  simp only at h2 h3 h4 ⊢
  by_cases c1 : 20 ≤ op ∧ op ≤ 22
  · rw [if_pos c1]
    rw [if_neg (by omega), if_neg (by omega), if_neg (by omega), if_neg (by omega), if_neg (by omega), if_neg (by omega), if_pos (.inl c1)] at h2
    obtain ⟨a0, rfl⟩ : ∃ a0, rs = [a0] := List.length_eq_one_iff.1 (of_decide_eq_true h2).2
    obtain rfl | rfl | rfl : op = 20 ∨ op = 21 ∨ op = 22 := by omega
    · exact rBeh_20 m rg ty nn fl ap tp al tl ac tc _ ts W hm hk hrs hts hA hb0 hT hl hlt a0 rfl
    · exact rBeh_21 m rg ty nn fl ap tp al tl ac tc _ ts W hm hk hrs hts hA hb0 hT hl hlt a0 rfl
    · exact rBeh_22 m rg ty nn fl ap tp al tl ac tc _ ts W hm hk hrs hts hA hb0 hT hl hlt a0 rfl
  rw [if_neg c1]
  by_cases c2 : op = 25
  · subst c2
    rw [if_pos rfl] at h2 ⊢
    have hlen : ts.length = rs.length := of_decide_eq_true h2
    have e : (if rs = [] then [] else 32 :: listT ((ts.zip rs).map (pairT (modD m).vs)) : Tx) = phiT m.vs (ts.zip rs) := by
      unfold phiT
      by_cases e : rs = []
      · rw [if_pos e, if_pos (by rw [e, List.zip_nil_right])]
      · rw [if_neg e, if_neg (fun k => by
          have h := congrArg List.length k
          rw [List.length_zip, List.length_nil] at h
          exact e (List.length_eq_zero_iff.1 (by omega)))]
        rfl
    rw [e]
    exact rBeh_25 m rg ty nn fl ap tp al tl ac tc rs ts W hm hk hrs hts hA hb0 hT hl hlt hlen
  rw [if_neg c2] at h2 ⊢
  by_cases c3 : op = 26
  · subst c3
    rw [if_pos rfl]
    rw [if_neg (by omega), if_pos rfl] at h4
    exact rBeh_26 m rg ty nn fl ap tp al tl ac tc rs ts W hm hk hrs hts hA hb0 hT hl hlt (of_decide_eq_true h4) hn
  rw [if_neg c3]
  by_cases c4 : op = 30
  · subst c4
    rw [if_pos rfl]
    rw [if_neg (by omega), if_pos rfl] at h3
    have hc : calR (modD m).xs (modD m).fs nn = some ty := of_decide_eq_true h3
    unfold calR at hc
    by_cases h0 : 0 ≤ nn
    · obtain ⟨k, rfl⟩ : ∃ k : Nat, nn = k := ⟨nn.toNat, by omega⟩
      rw [if_pos h0, Int.toNat_natCast] at hc
      have hkl : k < m.fs.length := by
        rcases Nat.lt_or_ge k m.fs.length with h | h
        · exact h
        · rw [show (modD m).fs = m.fs.map fnD from rfl, List.getElem?_eq_none (by simpa using h)] at hc
          cases hc
      rw [calT_fn hkl]
      exact rBeh_30f m rg ty _ fl ap tp al tl ac tc rs ts W hm hk hrs hts hA hb0 hT hl hlt k rfl hkl
    · obtain ⟨k, rfl⟩ : ∃ k : Nat, nn = -1 - (k : Int) := ⟨(-1 - nn).toNat, by omega⟩
      rw [if_neg h0, show (-1 - (-1 - (k : Int))).toNat = k by omega] at hc
      have hkl : k < m.xs.length := by
        rcases Nat.lt_or_ge k m.xs.length with h | h
        · exact h
        · rw [show (modD m).xs = m.xs.map extD from rfl, List.getElem?_eq_none (by simpa using h)] at hc
          cases hc
      rw [calT_ext hkl]
      exact rBeh_30x m rg ty _ fl ap tp al tl ac tc rs ts W hm hk hrs hts hA hb0 hT hl hlt k rfl hkl
  rw [if_neg c4] at h2 ⊢
  by_cases c5 : op = 29
  · subst c5
    rw [if_pos (.inl rfl)]
    rw [if_neg (by omega), if_neg (by omega), if_neg (by omega), if_neg (by omega), if_neg (by omega), if_neg (by omega)] at h2
    obtain rfl : ts = [] := List.length_eq_zero_iff.1 (of_decide_eq_true h2).1
    rw [List.map_nil, List.append_nil]
    exact rBeh_29 m rg ty nn fl ap tp al tl ac tc rs _ W hm hk hrs hts hA hb0 hT hl hlt
  by_cases c6 : op = 31
  · subst c6
    rw [if_pos (.inr (.inl rfl))]
    rw [if_neg (by omega), if_pos rfl] at h2
    obtain rfl : rs = [] := List.length_eq_zero_iff.1 (of_decide_eq_true h2).2
    obtain ⟨t0, rfl⟩ : ∃ t0, ts = [t0] := List.length_eq_one_iff.1 (of_decide_eq_true h2).1
    rw [List.map_nil, List.nil_append]
    exact rBeh_31 m rg ty nn fl ap tp al tl ac tc _ _ W hm hk hrs hts hA hb0 hT hl hlt t0 rfl
  by_cases c7 : op = 32
  · subst c7
    rw [if_pos (.inr (.inr rfl))]
    rw [if_neg (by omega), if_neg (by omega), if_pos rfl] at h2
    obtain ⟨a0, rfl⟩ : ∃ a0, rs = [a0] := List.length_eq_one_iff.1 (of_decide_eq_true h2).2
    obtain ⟨t0, t1, rfl⟩ : ∃ t0 t1, ts = [t0, t1] := len_two (of_decide_eq_true h2).1
    exact rBeh_32 m rg ty nn fl ap tp al tl ac tc _ _ W hm hk hrs hts hA hb0 hT hl hlt a0 rfl t0 t1 rfl
  rw [if_neg (by omega)]
  by_cases c8 : op = 34
  · subst c8
    rw [if_pos (.inl rfl)]
    exact rBeh_34 m rg ty nn fl ap tp al tl ac tc rs ts W hm hk hrs hts hA hb0 hT hl hlt
  by_cases c9 : op = 33
  · subst c9
    by_cases e : rs = []
    · rw [if_pos (.inr ⟨rfl, e⟩)]
      exact rBeh_33n m rg ty nn fl ap tp al tl ac tc rs ts W hm hk hrs hts hA hb0 hT hl hlt e
    · rw [if_neg (fun k => k.elim (by omega) (fun k => e k.2))]
      exact rBeh_33 m rg ty nn fl ap tp al tl ac tc rs ts W hm hk hrs hts hA hb0 hT hl hlt (fun k => e (List.length_eq_zero_iff.1 k))
  rw [if_neg (fun k => k.elim c8 (fun k => c9 k.1))]
  exact rBeh_o m op rg ty nn fl ap tp al tl ac tc rs ts W hm hk hrs hts hA hb0 hT hl hlt ⟨by omega, by omega, by omega, c2, c3, c5, c6, c7, c8, c4, c9⟩
def namesC : List Value := [.string ⟨#[]⟩, .string ⟨#[97, 100, 100]⟩, .string ⟨#[115, 117, 98]⟩, .string ⟨#[109, 117, 108]⟩, .string ⟨#[117, 100, 105, 118]⟩, .string ⟨#[115, 100, 105, 118]⟩, .string ⟨#[117, 114, 101, 109]⟩, .string ⟨#[115, 114, 101, 109]⟩, .string ⟨#[97, 110, 100]⟩, .string ⟨#[111, 114]⟩, .string ⟨#[120, 111, 114]⟩, .string ⟨#[115, 104, 108]⟩, .string ⟨#[108, 115, 104, 114]⟩, .string ⟨#[97, 115, 104, 114]⟩, .string ⟨#[101, 113]⟩, .string ⟨#[110, 101]⟩, .string ⟨#[117, 108, 116]⟩, .string ⟨#[117, 108, 101]⟩, .string ⟨#[115, 108, 116]⟩, .string ⟨#[115, 108, 101]⟩, .string ⟨#[122, 101, 120, 116]⟩, .string ⟨#[115, 101, 120, 116]⟩, .string ⟨#[116, 114, 117, 110, 99]⟩, .string ⟨#[115, 101, 108, 101, 99, 116]⟩, .string ⟨#[102, 114, 101, 101, 122, 101]⟩, .string ⟨#[112, 104, 105]⟩, .string ⟨#[97, 108, 108, 111, 99, 97]⟩, .string ⟨#[108, 111, 97, 100]⟩, .string ⟨#[115, 116, 111, 114, 101]⟩, .string ⟨#[103, 101, 112]⟩, .string ⟨#[99, 97, 108, 108]⟩, .string ⟨#[98, 114]⟩, .string ⟨#[98, 114, 105, 102]⟩, .string ⟨#[114, 101, 116]⟩, .string ⟨#[104, 97, 108, 116]⟩]
theorem namesC_eq : namesC.toArray = #[.string ⟨#[]⟩, .string ⟨#[97, 100, 100]⟩, .string ⟨#[115, 117, 98]⟩, .string ⟨#[109, 117, 108]⟩, .string ⟨#[117, 100, 105, 118]⟩, .string ⟨#[115, 100, 105, 118]⟩, .string ⟨#[117, 114, 101, 109]⟩, .string ⟨#[115, 114, 101, 109]⟩, .string ⟨#[97, 110, 100]⟩, .string ⟨#[111, 114]⟩, .string ⟨#[120, 111, 114]⟩, .string ⟨#[115, 104, 108]⟩, .string ⟨#[108, 115, 104, 114]⟩, .string ⟨#[97, 115, 104, 114]⟩, .string ⟨#[101, 113]⟩, .string ⟨#[110, 101]⟩, .string ⟨#[117, 108, 116]⟩, .string ⟨#[117, 108, 101]⟩, .string ⟨#[115, 108, 116]⟩, .string ⟨#[115, 108, 101]⟩, .string ⟨#[122, 101, 120, 116]⟩, .string ⟨#[115, 101, 120, 116]⟩, .string ⟨#[116, 114, 117, 110, 99]⟩, .string ⟨#[115, 101, 108, 101, 99, 116]⟩, .string ⟨#[102, 114, 101, 101, 122, 101]⟩, .string ⟨#[112, 104, 105]⟩, .string ⟨#[97, 108, 108, 111, 99, 97]⟩, .string ⟨#[108, 111, 97, 100]⟩, .string ⟨#[115, 116, 111, 114, 101]⟩, .string ⟨#[103, 101, 112]⟩, .string ⟨#[99, 97, 108, 108]⟩, .string ⟨#[98, 114]⟩, .string ⟨#[98, 114, 105, 102]⟩, .string ⟨#[114, 101, 116]⟩, .string ⟨#[104, 97, 108, 116]⟩] := rfl
theorem namesC_get : ∀ {k : Nat}, k < 35 → namesC[k]? = some (.string (mkS (opT (k : Int))))
  | 0, _ => rfl
  | 1, _ => rfl
  | 2, _ => rfl
  | 3, _ => rfl
  | 4, _ => rfl
  | 5, _ => rfl
  | 6, _ => rfl
  | 7, _ => rfl
  | 8, _ => rfl
  | 9, _ => rfl
  | 10, _ => rfl
  | 11, _ => rfl
  | 12, _ => rfl
  | 13, _ => rfl
  | 14, _ => rfl
  | 15, _ => rfl
  | 16, _ => rfl
  | 17, _ => rfl
  | 18, _ => rfl
  | 19, _ => rfl
  | 20, _ => rfl
  | 21, _ => rfl
  | 22, _ => rfl
  | 23, _ => rfl
  | 24, _ => rfl
  | 25, _ => rfl
  | 26, _ => rfl
  | 27, _ => rfl
  | 28, _ => rfl
  | 29, _ => rfl
  | 30, _ => rfl
  | 31, _ => rfl
  | 32, _ => rfl
  | 33, _ => rfl
  | 34, _ => rfl
  | n + 35, h => absurd h (by omega)
set_option maxRecDepth 100000 in
theorem rNames_any (W : World) : Calls Tryz.prog 107 #[] W fun e w' => e = .returned (.slice (some ⟨W.heap.size, 0, none⟩) 35 35) ∧ w' = W.alloc (.cells namesC.toArray 9) := by
  rw [namesC_eq]
  go_enter Tryz.func107, Tryz.ntmps107
  go_wp2_with fail
  go_ret
  exact ⟨rfl, rfl⟩
set_option maxRecDepth 100000 in
theorem rName_any (op : Int) (h : 0 ≤ op ∧ op ≤ 34) (W : World) : Calls Tryz.prog 81 #[.int .i64 op] W (StrV (mkS (opT op)) W) := by
  obtain ⟨k, rfl⟩ : ∃ k : Nat, op = k := ⟨op.toNat, by omega⟩
  have hk : k < 35 := by omega
  have c := rNames_any W
  have hc : (W.alloc (.cells namesC.toArray 9)).cell? ⟨W.heap.size, k, none⟩ = some (.string (mkS (opT (k : Int)))) := by
    rw [World.cell?_alloc_at _ _ _ _ rfl]
    simpa using namesC_get hk
  have hb : Below W.heap.size W (W.alloc (.cells namesC.toArray 9)) := (Below.refl _ _).alloc (Nat.le_refl _) _
  obtain ⟨w1, e1⟩ : ∃ w, W.alloc (.cells namesC.toArray 9) = w := ⟨_, rfl⟩
  rw [e1] at hc hb
  simp only [e1] at c
  have HB := Lib.hid hb
  clear e1 hb h
  obtain ⟨s, es⟩ : ∃ s, mkS (opT (k : Int)) = s := ⟨_, rfl⟩
  rw [es] at hc ⊢
  clear es
  have hkI : (k : Int) < 35 := by omega
  go_enter Tryz.func81, Tryz.ntmps81
  go_wp2_with fail
  refine c.mono ?_
  rintro e w2 ⟨rfl, rfl⟩
  go_wp2_with fail
  go_ret
  exact ⟨rfl, HB.out⟩
theorem op_size (op : Int) : (mkS (opT op)).size ≤ 6 := by rw [size_mkS]; exact opT_len op
theorem mkS_lit (l : Tx) : (⟨l.toArray⟩ : ByteArray) = mkS l := rfl
set_option maxRecDepth 100000 in
set_option maxHeartbeats 4000000 in
theorem rIns_p0 (m : LMod) (op  ty nn : Int) (ap tp : Option Addr) (al tl ac tc : Nat) (rs : List Arg) (ts : List Int) (W : World) (ho : 0 ≤ op ∧ op ≤ 34) (k : Nat) (hk4 : k ≤ 4095)
    (hb : ∀ w, Below W.heap.size W w → Calls Tryz.prog 82 #[.agg (modC m).toArray, .agg #[.int .i64 op, .int .i64 (k : Int), .int .i64 ty, .int .i64 nn, .int .i64 0, .slice ap al ac, .slice tp tl tc]] w (StrV (mkS (behindT (modD m) ⟨op, (k : Int), ty, nn, 0, rs, ts⟩)) w)) (hs : (mkS (behindT (modD m) ⟨op, (k : Int), ty, nn, 0, rs, ts⟩)).size ≤ 4398046511104) :
    Calls Tryz.prog 40 #[.agg (modC m).toArray, .agg #[.int .i64 op, .int .i64 (k : Int), .int .i64 ty, .int .i64 nn, .int .i64 0, .slice ap al ac, .slice tp tl tc]] W (StrV (mkS (insT (modD m) ⟨op, (k : Int), ty, nn, 0, rs, ts⟩)) W) := by
  have c0 := rName_any op ho
  have z0 := op_size op
  have HF : Hid (⟨#[37]⟩ ++ mkS (Lib.decDigits k) ++ ⟨#[32, 61, 32]⟩ ++ mkS (opT op) ++ mkS (behindT (modD m) ⟨op, (k : Int), ty, nn, 0, rs, ts⟩) = mkS (insT (modD m) ⟨op, (k : Int), ty, nn, 0, rs, ts⟩)) := Lib.hid (by
    simp only [mkS_lit, mkS_app]
    congr 1
    unfold insT
    simp only
    rw [if_pos (by omega)]
    simp [flagsT, regT, decI])
  have c2 := Digits_any k (by omega)
  have z2 : (mkS (Lib.decDigits k)).size ≤ 20 := by rw [size_mkS]; exact dec_20 (by omega)
  have HS := Lib.hid (IS.new W (modC m) [.int .i64 op, .int .i64 (k : Int), .int .i64 ty, .int .i64 nn, .int .i64 0, .slice ap al ac, .slice tp tl tc] 26 39)
  obtain ⟨T, eT⟩ : ∃ T, mkS (insT (modD m) ⟨op, (k : Int), ty, nn, 0, rs, ts⟩) = T := ⟨_, rfl⟩
  obtain ⟨v, ev⟩ : ∃ t, mkS (behindT (modD m) ⟨op, (k : Int), ty, nn, 0, rs, ts⟩) = t := ⟨_, rfl⟩
  obtain ⟨o, eo⟩ : ∃ t, mkS (opT op) = t := ⟨_, rfl⟩
  obtain ⟨d, ed⟩ : ∃ t, mkS (Lib.decDigits k) = t := ⟨_, rfl⟩
  rw [ed] at z2 HF
  simp only [ed] at c2
  rw [eT] at HF ⊢
  rw [ev, eo] at HF
  rw [ev] at hs
  rw [eo] at z0
  simp only [ev] at hb
  simp only [eo] at c0
  have HV := Lib.hid (And.intro hb c0)
  clear eT ev eo hb c0 ho ed
  obtain ⟨vp, vn, vc, vs, xp, xn, xc, xs, fp, fn, fc, fs⟩ := m
  have HS : Hid (IS W [.slice vp vn vc, .slice xp xn xc, .slice fp fn fc] [.int .i64 op, .int .i64 (k : Int), .int .i64 ty, .int .i64 nn, .int .i64 0, .slice ap al ac, .slice tp tl tc] ((W.alloc (.cells #[.slice vp vn vc, .slice xp xn xc, .slice fp fn fc] 26)).alloc (.cells #[.int .i64 op, .int .i64 (k : Int), .int .i64 ty, .int .i64 nn, .int .i64 0, .slice ap al ac, .slice tp tl tc] 39))) := HS
  show Calls Tryz.prog 40 #[.agg #[.slice vp vn vc, .slice xp xn xc, .slice fp fn fc], .agg #[.int .i64 op, .int .i64 (k : Int), .int .i64 ty, .int .i64 nn, .int .i64 0, .slice ap al ac, .slice tp tl tc]] W _
  go_enter Tryz.func40, Tryz.ntmps40
  go_wp2_with fail
  refine (c2 _).mono ?_
  rintro e w2 ⟨rfl, hb2⟩
  replace HS := Lib.hid (HS.out.later hb2)
  clear hb2 c2
  have z_0 := HS.out.2.1.get 0 _ rfl
  have c0 := HV.out.2 w2
  go_wp2_with fail
  refine c0.mono ?_
  rintro e w3 ⟨rfl, hb3⟩
  replace HS := Lib.hid (HS.out.later hb3)
  clear hb3 c0 z_0
  obtain ⟨y0, y1, y2⟩ : w3.cell? ⟨W.heap.size, 0, none⟩ = some (.slice vp vn vc) ∧ w3.cell? ⟨W.heap.size, 1, none⟩ = some (.slice xp xn xc) ∧ w3.cell? ⟨W.heap.size, 2, none⟩ = some (.slice fp fn fc) := ⟨HS.out.1.get 0 _ rfl, HS.out.1.get 1 _ rfl, HS.out.1.get 2 _ rfl⟩
  have z_0 := HS.out.2.1.get 0 _ rfl
  have z_1 := HS.out.2.1.get 1 _ rfl
  have z_2 := HS.out.2.1.get 2 _ rfl
  have z_3 := HS.out.2.1.get 3 _ rfl
  have z_4 := HS.out.2.1.get 4 _ rfl
  have z_5 := HS.out.2.1.get 5 _ rfl
  have z_6 := HS.out.2.1.get 6 _ rfl
  have cb := HV.out.1 w3 HS.out.2.2
  go_wp2_with fail
  refine cb.mono ?_
  rintro e w4 ⟨rfl, hb4⟩
  replace HS := Lib.hid (HS.out.later hb4)
  clear hb4 cb y0 y1 y2 z_0 z_1 z_2 z_3 z_4 z_5 z_6
  go_wp2_with fail
  go_ret
  exact ⟨by rw [← HF.out]; rfl, HS.out.2.2⟩
set_option maxRecDepth 100000 in
set_option maxHeartbeats 4000000 in
theorem rIns_p1 (m : LMod) (op  ty nn : Int) (ap tp : Option Addr) (al tl ac tc : Nat) (rs : List Arg) (ts : List Int) (W : World) (ho : 0 ≤ op ∧ op ≤ 34) (k : Nat) (hk4 : k ≤ 4095)
    (hb : ∀ w, Below W.heap.size W w → Calls Tryz.prog 82 #[.agg (modC m).toArray, .agg #[.int .i64 op, .int .i64 (k : Int), .int .i64 ty, .int .i64 nn, .int .i64 1, .slice ap al ac, .slice tp tl tc]] w (StrV (mkS (behindT (modD m) ⟨op, (k : Int), ty, nn, 1, rs, ts⟩)) w)) (hs : (mkS (behindT (modD m) ⟨op, (k : Int), ty, nn, 1, rs, ts⟩)).size ≤ 4398046511104) :
    Calls Tryz.prog 40 #[.agg (modC m).toArray, .agg #[.int .i64 op, .int .i64 (k : Int), .int .i64 ty, .int .i64 nn, .int .i64 1, .slice ap al ac, .slice tp tl tc]] W (StrV (mkS (insT (modD m) ⟨op, (k : Int), ty, nn, 1, rs, ts⟩)) W) := by
  have c0 := rName_any op ho
  have z0 := op_size op
  have HF : Hid (⟨#[37]⟩ ++ mkS (Lib.decDigits k) ++ ⟨#[32, 61, 32]⟩ ++ mkS (opT op) ++ ⟨#[32, 110, 115, 119]⟩ ++ mkS (behindT (modD m) ⟨op, (k : Int), ty, nn, 1, rs, ts⟩) = mkS (insT (modD m) ⟨op, (k : Int), ty, nn, 1, rs, ts⟩)) := Lib.hid (by
    simp only [mkS_lit, mkS_app]
    congr 1
    unfold insT
    simp only
    rw [if_pos (by omega)]
    simp [flagsT, regT, decI])
  have c2 := Digits_any k (by omega)
  have z2 : (mkS (Lib.decDigits k)).size ≤ 20 := by rw [size_mkS]; exact dec_20 (by omega)
  have HS := Lib.hid (IS.new W (modC m) [.int .i64 op, .int .i64 (k : Int), .int .i64 ty, .int .i64 nn, .int .i64 1, .slice ap al ac, .slice tp tl tc] 26 39)
  obtain ⟨T, eT⟩ : ∃ T, mkS (insT (modD m) ⟨op, (k : Int), ty, nn, 1, rs, ts⟩) = T := ⟨_, rfl⟩
  obtain ⟨v, ev⟩ : ∃ t, mkS (behindT (modD m) ⟨op, (k : Int), ty, nn, 1, rs, ts⟩) = t := ⟨_, rfl⟩
  obtain ⟨o, eo⟩ : ∃ t, mkS (opT op) = t := ⟨_, rfl⟩
  obtain ⟨d, ed⟩ : ∃ t, mkS (Lib.decDigits k) = t := ⟨_, rfl⟩
  rw [ed] at z2 HF
  simp only [ed] at c2
  rw [eT] at HF ⊢
  rw [ev, eo] at HF
  rw [ev] at hs
  rw [eo] at z0
  simp only [ev] at hb
  simp only [eo] at c0
  have HV := Lib.hid (And.intro hb c0)
  clear eT ev eo hb c0 ho ed
  obtain ⟨vp, vn, vc, vs, xp, xn, xc, xs, fp, fn, fc, fs⟩ := m
  have HS : Hid (IS W [.slice vp vn vc, .slice xp xn xc, .slice fp fn fc] [.int .i64 op, .int .i64 (k : Int), .int .i64 ty, .int .i64 nn, .int .i64 1, .slice ap al ac, .slice tp tl tc] ((W.alloc (.cells #[.slice vp vn vc, .slice xp xn xc, .slice fp fn fc] 26)).alloc (.cells #[.int .i64 op, .int .i64 (k : Int), .int .i64 ty, .int .i64 nn, .int .i64 1, .slice ap al ac, .slice tp tl tc] 39))) := HS
  show Calls Tryz.prog 40 #[.agg #[.slice vp vn vc, .slice xp xn xc, .slice fp fn fc], .agg #[.int .i64 op, .int .i64 (k : Int), .int .i64 ty, .int .i64 nn, .int .i64 1, .slice ap al ac, .slice tp tl tc]] W _
  go_enter Tryz.func40, Tryz.ntmps40
  go_wp2_with fail
  refine (c2 _).mono ?_
  rintro e w2 ⟨rfl, hb2⟩
  replace HS := Lib.hid (HS.out.later hb2)
  clear hb2 c2
  have z_0 := HS.out.2.1.get 0 _ rfl
  have c0 := HV.out.2 w2
  go_wp2_with fail
  refine c0.mono ?_
  rintro e w3 ⟨rfl, hb3⟩
  replace HS := Lib.hid (HS.out.later hb3)
  clear hb3 c0 z_0
  obtain ⟨y0, y1, y2⟩ : w3.cell? ⟨W.heap.size, 0, none⟩ = some (.slice vp vn vc) ∧ w3.cell? ⟨W.heap.size, 1, none⟩ = some (.slice xp xn xc) ∧ w3.cell? ⟨W.heap.size, 2, none⟩ = some (.slice fp fn fc) := ⟨HS.out.1.get 0 _ rfl, HS.out.1.get 1 _ rfl, HS.out.1.get 2 _ rfl⟩
  have z_0 := HS.out.2.1.get 0 _ rfl
  have z_1 := HS.out.2.1.get 1 _ rfl
  have z_2 := HS.out.2.1.get 2 _ rfl
  have z_3 := HS.out.2.1.get 3 _ rfl
  have z_4 := HS.out.2.1.get 4 _ rfl
  have z_5 := HS.out.2.1.get 5 _ rfl
  have z_6 := HS.out.2.1.get 6 _ rfl
  have cb := HV.out.1 w3 HS.out.2.2
  go_wp2_with fail
  refine cb.mono ?_
  rintro e w4 ⟨rfl, hb4⟩
  replace HS := Lib.hid (HS.out.later hb4)
  clear hb4 cb y0 y1 y2 z_0 z_1 z_2 z_3 z_4 z_5 z_6
  go_wp2_with fail
  go_ret
  exact ⟨by rw [← HF.out]; rfl, HS.out.2.2⟩
set_option maxRecDepth 100000 in
set_option maxHeartbeats 4000000 in
theorem rIns_p2 (m : LMod) (op  ty nn : Int) (ap tp : Option Addr) (al tl ac tc : Nat) (rs : List Arg) (ts : List Int) (W : World) (ho : 0 ≤ op ∧ op ≤ 34) (k : Nat) (hk4 : k ≤ 4095)
    (hb : ∀ w, Below W.heap.size W w → Calls Tryz.prog 82 #[.agg (modC m).toArray, .agg #[.int .i64 op, .int .i64 (k : Int), .int .i64 ty, .int .i64 nn, .int .i64 2, .slice ap al ac, .slice tp tl tc]] w (StrV (mkS (behindT (modD m) ⟨op, (k : Int), ty, nn, 2, rs, ts⟩)) w)) (hs : (mkS (behindT (modD m) ⟨op, (k : Int), ty, nn, 2, rs, ts⟩)).size ≤ 4398046511104) :
    Calls Tryz.prog 40 #[.agg (modC m).toArray, .agg #[.int .i64 op, .int .i64 (k : Int), .int .i64 ty, .int .i64 nn, .int .i64 2, .slice ap al ac, .slice tp tl tc]] W (StrV (mkS (insT (modD m) ⟨op, (k : Int), ty, nn, 2, rs, ts⟩)) W) := by
  have c0 := rName_any op ho
  have z0 := op_size op
  have HF : Hid (⟨#[37]⟩ ++ mkS (Lib.decDigits k) ++ ⟨#[32, 61, 32]⟩ ++ mkS (opT op) ++ ⟨#[32, 110, 117, 119]⟩ ++ mkS (behindT (modD m) ⟨op, (k : Int), ty, nn, 2, rs, ts⟩) = mkS (insT (modD m) ⟨op, (k : Int), ty, nn, 2, rs, ts⟩)) := Lib.hid (by
    simp only [mkS_lit, mkS_app]
    congr 1
    unfold insT
    simp only
    rw [if_pos (by omega)]
    simp [flagsT, regT, decI])
  have c2 := Digits_any k (by omega)
  have z2 : (mkS (Lib.decDigits k)).size ≤ 20 := by rw [size_mkS]; exact dec_20 (by omega)
  have HS := Lib.hid (IS.new W (modC m) [.int .i64 op, .int .i64 (k : Int), .int .i64 ty, .int .i64 nn, .int .i64 2, .slice ap al ac, .slice tp tl tc] 26 39)
  obtain ⟨T, eT⟩ : ∃ T, mkS (insT (modD m) ⟨op, (k : Int), ty, nn, 2, rs, ts⟩) = T := ⟨_, rfl⟩
  obtain ⟨v, ev⟩ : ∃ t, mkS (behindT (modD m) ⟨op, (k : Int), ty, nn, 2, rs, ts⟩) = t := ⟨_, rfl⟩
  obtain ⟨o, eo⟩ : ∃ t, mkS (opT op) = t := ⟨_, rfl⟩
  obtain ⟨d, ed⟩ : ∃ t, mkS (Lib.decDigits k) = t := ⟨_, rfl⟩
  rw [ed] at z2 HF
  simp only [ed] at c2
  rw [eT] at HF ⊢
  rw [ev, eo] at HF
  rw [ev] at hs
  rw [eo] at z0
  simp only [ev] at hb
  simp only [eo] at c0
  have HV := Lib.hid (And.intro hb c0)
  clear eT ev eo hb c0 ho ed
  obtain ⟨vp, vn, vc, vs, xp, xn, xc, xs, fp, fn, fc, fs⟩ := m
  have HS : Hid (IS W [.slice vp vn vc, .slice xp xn xc, .slice fp fn fc] [.int .i64 op, .int .i64 (k : Int), .int .i64 ty, .int .i64 nn, .int .i64 2, .slice ap al ac, .slice tp tl tc] ((W.alloc (.cells #[.slice vp vn vc, .slice xp xn xc, .slice fp fn fc] 26)).alloc (.cells #[.int .i64 op, .int .i64 (k : Int), .int .i64 ty, .int .i64 nn, .int .i64 2, .slice ap al ac, .slice tp tl tc] 39))) := HS
  show Calls Tryz.prog 40 #[.agg #[.slice vp vn vc, .slice xp xn xc, .slice fp fn fc], .agg #[.int .i64 op, .int .i64 (k : Int), .int .i64 ty, .int .i64 nn, .int .i64 2, .slice ap al ac, .slice tp tl tc]] W _
  go_enter Tryz.func40, Tryz.ntmps40
  go_wp2_with fail
  refine (c2 _).mono ?_
  rintro e w2 ⟨rfl, hb2⟩
  replace HS := Lib.hid (HS.out.later hb2)
  clear hb2 c2
  have z_0 := HS.out.2.1.get 0 _ rfl
  have c0 := HV.out.2 w2
  go_wp2_with fail
  refine c0.mono ?_
  rintro e w3 ⟨rfl, hb3⟩
  replace HS := Lib.hid (HS.out.later hb3)
  clear hb3 c0 z_0
  obtain ⟨y0, y1, y2⟩ : w3.cell? ⟨W.heap.size, 0, none⟩ = some (.slice vp vn vc) ∧ w3.cell? ⟨W.heap.size, 1, none⟩ = some (.slice xp xn xc) ∧ w3.cell? ⟨W.heap.size, 2, none⟩ = some (.slice fp fn fc) := ⟨HS.out.1.get 0 _ rfl, HS.out.1.get 1 _ rfl, HS.out.1.get 2 _ rfl⟩
  have z_0 := HS.out.2.1.get 0 _ rfl
  have z_1 := HS.out.2.1.get 1 _ rfl
  have z_2 := HS.out.2.1.get 2 _ rfl
  have z_3 := HS.out.2.1.get 3 _ rfl
  have z_4 := HS.out.2.1.get 4 _ rfl
  have z_5 := HS.out.2.1.get 5 _ rfl
  have z_6 := HS.out.2.1.get 6 _ rfl
  have cb := HV.out.1 w3 HS.out.2.2
  go_wp2_with fail
  refine cb.mono ?_
  rintro e w4 ⟨rfl, hb4⟩
  replace HS := Lib.hid (HS.out.later hb4)
  clear hb4 cb y0 y1 y2 z_0 z_1 z_2 z_3 z_4 z_5 z_6
  go_wp2_with fail
  go_ret
  exact ⟨by rw [← HF.out]; rfl, HS.out.2.2⟩
set_option maxRecDepth 100000 in
set_option maxHeartbeats 4000000 in
theorem rIns_p3 (m : LMod) (op  ty nn : Int) (ap tp : Option Addr) (al tl ac tc : Nat) (rs : List Arg) (ts : List Int) (W : World) (ho : 0 ≤ op ∧ op ≤ 34) (k : Nat) (hk4 : k ≤ 4095)
    (hb : ∀ w, Below W.heap.size W w → Calls Tryz.prog 82 #[.agg (modC m).toArray, .agg #[.int .i64 op, .int .i64 (k : Int), .int .i64 ty, .int .i64 nn, .int .i64 3, .slice ap al ac, .slice tp tl tc]] w (StrV (mkS (behindT (modD m) ⟨op, (k : Int), ty, nn, 3, rs, ts⟩)) w)) (hs : (mkS (behindT (modD m) ⟨op, (k : Int), ty, nn, 3, rs, ts⟩)).size ≤ 4398046511104) :
    Calls Tryz.prog 40 #[.agg (modC m).toArray, .agg #[.int .i64 op, .int .i64 (k : Int), .int .i64 ty, .int .i64 nn, .int .i64 3, .slice ap al ac, .slice tp tl tc]] W (StrV (mkS (insT (modD m) ⟨op, (k : Int), ty, nn, 3, rs, ts⟩)) W) := by
  have c0 := rName_any op ho
  have z0 := op_size op
  have HF : Hid (⟨#[37]⟩ ++ mkS (Lib.decDigits k) ++ ⟨#[32, 61, 32]⟩ ++ mkS (opT op) ++ ⟨#[32, 110, 115, 119]⟩ ++ ⟨#[32, 110, 117, 119]⟩ ++ mkS (behindT (modD m) ⟨op, (k : Int), ty, nn, 3, rs, ts⟩) = mkS (insT (modD m) ⟨op, (k : Int), ty, nn, 3, rs, ts⟩)) := Lib.hid (by
    simp only [mkS_lit, mkS_app]
    congr 1
    unfold insT
    simp only
    rw [if_pos (by omega)]
    simp [flagsT, regT, decI])
  have c2 := Digits_any k (by omega)
  have z2 : (mkS (Lib.decDigits k)).size ≤ 20 := by rw [size_mkS]; exact dec_20 (by omega)
  have HS := Lib.hid (IS.new W (modC m) [.int .i64 op, .int .i64 (k : Int), .int .i64 ty, .int .i64 nn, .int .i64 3, .slice ap al ac, .slice tp tl tc] 26 39)
  obtain ⟨T, eT⟩ : ∃ T, mkS (insT (modD m) ⟨op, (k : Int), ty, nn, 3, rs, ts⟩) = T := ⟨_, rfl⟩
  obtain ⟨v, ev⟩ : ∃ t, mkS (behindT (modD m) ⟨op, (k : Int), ty, nn, 3, rs, ts⟩) = t := ⟨_, rfl⟩
  obtain ⟨o, eo⟩ : ∃ t, mkS (opT op) = t := ⟨_, rfl⟩
  obtain ⟨d, ed⟩ : ∃ t, mkS (Lib.decDigits k) = t := ⟨_, rfl⟩
  rw [ed] at z2 HF
  simp only [ed] at c2
  rw [eT] at HF ⊢
  rw [ev, eo] at HF
  rw [ev] at hs
  rw [eo] at z0
  simp only [ev] at hb
  simp only [eo] at c0
  have HV := Lib.hid (And.intro hb c0)
  clear eT ev eo hb c0 ho ed
  obtain ⟨vp, vn, vc, vs, xp, xn, xc, xs, fp, fn, fc, fs⟩ := m
  have HS : Hid (IS W [.slice vp vn vc, .slice xp xn xc, .slice fp fn fc] [.int .i64 op, .int .i64 (k : Int), .int .i64 ty, .int .i64 nn, .int .i64 3, .slice ap al ac, .slice tp tl tc] ((W.alloc (.cells #[.slice vp vn vc, .slice xp xn xc, .slice fp fn fc] 26)).alloc (.cells #[.int .i64 op, .int .i64 (k : Int), .int .i64 ty, .int .i64 nn, .int .i64 3, .slice ap al ac, .slice tp tl tc] 39))) := HS
  show Calls Tryz.prog 40 #[.agg #[.slice vp vn vc, .slice xp xn xc, .slice fp fn fc], .agg #[.int .i64 op, .int .i64 (k : Int), .int .i64 ty, .int .i64 nn, .int .i64 3, .slice ap al ac, .slice tp tl tc]] W _
  go_enter Tryz.func40, Tryz.ntmps40
  go_wp2_with fail
  refine (c2 _).mono ?_
  rintro e w2 ⟨rfl, hb2⟩
  replace HS := Lib.hid (HS.out.later hb2)
  clear hb2 c2
  have z_0 := HS.out.2.1.get 0 _ rfl
  have c0 := HV.out.2 w2
  go_wp2_with fail
  refine c0.mono ?_
  rintro e w3 ⟨rfl, hb3⟩
  replace HS := Lib.hid (HS.out.later hb3)
  clear hb3 c0 z_0
  obtain ⟨y0, y1, y2⟩ : w3.cell? ⟨W.heap.size, 0, none⟩ = some (.slice vp vn vc) ∧ w3.cell? ⟨W.heap.size, 1, none⟩ = some (.slice xp xn xc) ∧ w3.cell? ⟨W.heap.size, 2, none⟩ = some (.slice fp fn fc) := ⟨HS.out.1.get 0 _ rfl, HS.out.1.get 1 _ rfl, HS.out.1.get 2 _ rfl⟩
  have z_0 := HS.out.2.1.get 0 _ rfl
  have z_1 := HS.out.2.1.get 1 _ rfl
  have z_2 := HS.out.2.1.get 2 _ rfl
  have z_3 := HS.out.2.1.get 3 _ rfl
  have z_4 := HS.out.2.1.get 4 _ rfl
  have z_5 := HS.out.2.1.get 5 _ rfl
  have z_6 := HS.out.2.1.get 6 _ rfl
  have cb := HV.out.1 w3 HS.out.2.2
  go_wp2_with fail
  refine cb.mono ?_
  rintro e w4 ⟨rfl, hb4⟩
  replace HS := Lib.hid (HS.out.later hb4)
  clear hb4 cb y0 y1 y2 z_0 z_1 z_2 z_3 z_4 z_5 z_6
  go_wp2_with fail
  go_ret
  exact ⟨by rw [← HF.out]; rfl, HS.out.2.2⟩
set_option maxRecDepth 100000 in
set_option maxHeartbeats 4000000 in
theorem rIns_p4 (m : LMod) (op  ty nn : Int) (ap tp : Option Addr) (al tl ac tc : Nat) (rs : List Arg) (ts : List Int) (W : World) (ho : 0 ≤ op ∧ op ≤ 34) (k : Nat) (hk4 : k ≤ 4095)
    (hb : ∀ w, Below W.heap.size W w → Calls Tryz.prog 82 #[.agg (modC m).toArray, .agg #[.int .i64 op, .int .i64 (k : Int), .int .i64 ty, .int .i64 nn, .int .i64 4, .slice ap al ac, .slice tp tl tc]] w (StrV (mkS (behindT (modD m) ⟨op, (k : Int), ty, nn, 4, rs, ts⟩)) w)) (hs : (mkS (behindT (modD m) ⟨op, (k : Int), ty, nn, 4, rs, ts⟩)).size ≤ 4398046511104) :
    Calls Tryz.prog 40 #[.agg (modC m).toArray, .agg #[.int .i64 op, .int .i64 (k : Int), .int .i64 ty, .int .i64 nn, .int .i64 4, .slice ap al ac, .slice tp tl tc]] W (StrV (mkS (insT (modD m) ⟨op, (k : Int), ty, nn, 4, rs, ts⟩)) W) := by
  have c0 := rName_any op ho
  have z0 := op_size op
  have HF : Hid (⟨#[37]⟩ ++ mkS (Lib.decDigits k) ++ ⟨#[32, 61, 32]⟩ ++ mkS (opT op) ++ ⟨#[32, 101, 120, 97, 99, 116]⟩ ++ mkS (behindT (modD m) ⟨op, (k : Int), ty, nn, 4, rs, ts⟩) = mkS (insT (modD m) ⟨op, (k : Int), ty, nn, 4, rs, ts⟩)) := Lib.hid (by
    simp only [mkS_lit, mkS_app]
    congr 1
    unfold insT
    simp only
    rw [if_pos (by omega)]
    simp [flagsT, regT, decI])
  have c2 := Digits_any k (by omega)
  have z2 : (mkS (Lib.decDigits k)).size ≤ 20 := by rw [size_mkS]; exact dec_20 (by omega)
  have HS := Lib.hid (IS.new W (modC m) [.int .i64 op, .int .i64 (k : Int), .int .i64 ty, .int .i64 nn, .int .i64 4, .slice ap al ac, .slice tp tl tc] 26 39)
  obtain ⟨T, eT⟩ : ∃ T, mkS (insT (modD m) ⟨op, (k : Int), ty, nn, 4, rs, ts⟩) = T := ⟨_, rfl⟩
  obtain ⟨v, ev⟩ : ∃ t, mkS (behindT (modD m) ⟨op, (k : Int), ty, nn, 4, rs, ts⟩) = t := ⟨_, rfl⟩
  obtain ⟨o, eo⟩ : ∃ t, mkS (opT op) = t := ⟨_, rfl⟩
  obtain ⟨d, ed⟩ : ∃ t, mkS (Lib.decDigits k) = t := ⟨_, rfl⟩
  rw [ed] at z2 HF
  simp only [ed] at c2
  rw [eT] at HF ⊢
  rw [ev, eo] at HF
  rw [ev] at hs
  rw [eo] at z0
  simp only [ev] at hb
  simp only [eo] at c0
  have HV := Lib.hid (And.intro hb c0)
  clear eT ev eo hb c0 ho ed
  obtain ⟨vp, vn, vc, vs, xp, xn, xc, xs, fp, fn, fc, fs⟩ := m
  have HS : Hid (IS W [.slice vp vn vc, .slice xp xn xc, .slice fp fn fc] [.int .i64 op, .int .i64 (k : Int), .int .i64 ty, .int .i64 nn, .int .i64 4, .slice ap al ac, .slice tp tl tc] ((W.alloc (.cells #[.slice vp vn vc, .slice xp xn xc, .slice fp fn fc] 26)).alloc (.cells #[.int .i64 op, .int .i64 (k : Int), .int .i64 ty, .int .i64 nn, .int .i64 4, .slice ap al ac, .slice tp tl tc] 39))) := HS
  show Calls Tryz.prog 40 #[.agg #[.slice vp vn vc, .slice xp xn xc, .slice fp fn fc], .agg #[.int .i64 op, .int .i64 (k : Int), .int .i64 ty, .int .i64 nn, .int .i64 4, .slice ap al ac, .slice tp tl tc]] W _
  go_enter Tryz.func40, Tryz.ntmps40
  go_wp2_with fail
  refine (c2 _).mono ?_
  rintro e w2 ⟨rfl, hb2⟩
  replace HS := Lib.hid (HS.out.later hb2)
  clear hb2 c2
  have z_0 := HS.out.2.1.get 0 _ rfl
  have c0 := HV.out.2 w2
  go_wp2_with fail
  refine c0.mono ?_
  rintro e w3 ⟨rfl, hb3⟩
  replace HS := Lib.hid (HS.out.later hb3)
  clear hb3 c0 z_0
  obtain ⟨y0, y1, y2⟩ : w3.cell? ⟨W.heap.size, 0, none⟩ = some (.slice vp vn vc) ∧ w3.cell? ⟨W.heap.size, 1, none⟩ = some (.slice xp xn xc) ∧ w3.cell? ⟨W.heap.size, 2, none⟩ = some (.slice fp fn fc) := ⟨HS.out.1.get 0 _ rfl, HS.out.1.get 1 _ rfl, HS.out.1.get 2 _ rfl⟩
  have z_0 := HS.out.2.1.get 0 _ rfl
  have z_1 := HS.out.2.1.get 1 _ rfl
  have z_2 := HS.out.2.1.get 2 _ rfl
  have z_3 := HS.out.2.1.get 3 _ rfl
  have z_4 := HS.out.2.1.get 4 _ rfl
  have z_5 := HS.out.2.1.get 5 _ rfl
  have z_6 := HS.out.2.1.get 6 _ rfl
  have cb := HV.out.1 w3 HS.out.2.2
  go_wp2_with fail
  refine cb.mono ?_
  rintro e w4 ⟨rfl, hb4⟩
  replace HS := Lib.hid (HS.out.later hb4)
  clear hb4 cb y0 y1 y2 z_0 z_1 z_2 z_3 z_4 z_5 z_6
  go_wp2_with fail
  go_ret
  exact ⟨by rw [← HF.out]; rfl, HS.out.2.2⟩
set_option maxRecDepth 100000 in
set_option maxHeartbeats 4000000 in
theorem rIns_p5 (m : LMod) (op  ty nn : Int) (ap tp : Option Addr) (al tl ac tc : Nat) (rs : List Arg) (ts : List Int) (W : World) (ho : 0 ≤ op ∧ op ≤ 34) (k : Nat) (hk4 : k ≤ 4095)
    (hb : ∀ w, Below W.heap.size W w → Calls Tryz.prog 82 #[.agg (modC m).toArray, .agg #[.int .i64 op, .int .i64 (k : Int), .int .i64 ty, .int .i64 nn, .int .i64 5, .slice ap al ac, .slice tp tl tc]] w (StrV (mkS (behindT (modD m) ⟨op, (k : Int), ty, nn, 5, rs, ts⟩)) w)) (hs : (mkS (behindT (modD m) ⟨op, (k : Int), ty, nn, 5, rs, ts⟩)).size ≤ 4398046511104) :
    Calls Tryz.prog 40 #[.agg (modC m).toArray, .agg #[.int .i64 op, .int .i64 (k : Int), .int .i64 ty, .int .i64 nn, .int .i64 5, .slice ap al ac, .slice tp tl tc]] W (StrV (mkS (insT (modD m) ⟨op, (k : Int), ty, nn, 5, rs, ts⟩)) W) := by
  have c0 := rName_any op ho
  have z0 := op_size op
  have HF : Hid (⟨#[37]⟩ ++ mkS (Lib.decDigits k) ++ ⟨#[32, 61, 32]⟩ ++ mkS (opT op) ++ ⟨#[32, 110, 115, 119]⟩ ++ ⟨#[32, 101, 120, 97, 99, 116]⟩ ++ mkS (behindT (modD m) ⟨op, (k : Int), ty, nn, 5, rs, ts⟩) = mkS (insT (modD m) ⟨op, (k : Int), ty, nn, 5, rs, ts⟩)) := Lib.hid (by
    simp only [mkS_lit, mkS_app]
    congr 1
    unfold insT
    simp only
    rw [if_pos (by omega)]
    simp [flagsT, regT, decI])
  have c2 := Digits_any k (by omega)
  have z2 : (mkS (Lib.decDigits k)).size ≤ 20 := by rw [size_mkS]; exact dec_20 (by omega)
  have HS := Lib.hid (IS.new W (modC m) [.int .i64 op, .int .i64 (k : Int), .int .i64 ty, .int .i64 nn, .int .i64 5, .slice ap al ac, .slice tp tl tc] 26 39)
  obtain ⟨T, eT⟩ : ∃ T, mkS (insT (modD m) ⟨op, (k : Int), ty, nn, 5, rs, ts⟩) = T := ⟨_, rfl⟩
  obtain ⟨v, ev⟩ : ∃ t, mkS (behindT (modD m) ⟨op, (k : Int), ty, nn, 5, rs, ts⟩) = t := ⟨_, rfl⟩
  obtain ⟨o, eo⟩ : ∃ t, mkS (opT op) = t := ⟨_, rfl⟩
  obtain ⟨d, ed⟩ : ∃ t, mkS (Lib.decDigits k) = t := ⟨_, rfl⟩
  rw [ed] at z2 HF
  simp only [ed] at c2
  rw [eT] at HF ⊢
  rw [ev, eo] at HF
  rw [ev] at hs
  rw [eo] at z0
  simp only [ev] at hb
  simp only [eo] at c0
  have HV := Lib.hid (And.intro hb c0)
  clear eT ev eo hb c0 ho ed
  obtain ⟨vp, vn, vc, vs, xp, xn, xc, xs, fp, fn, fc, fs⟩ := m
  have HS : Hid (IS W [.slice vp vn vc, .slice xp xn xc, .slice fp fn fc] [.int .i64 op, .int .i64 (k : Int), .int .i64 ty, .int .i64 nn, .int .i64 5, .slice ap al ac, .slice tp tl tc] ((W.alloc (.cells #[.slice vp vn vc, .slice xp xn xc, .slice fp fn fc] 26)).alloc (.cells #[.int .i64 op, .int .i64 (k : Int), .int .i64 ty, .int .i64 nn, .int .i64 5, .slice ap al ac, .slice tp tl tc] 39))) := HS
  show Calls Tryz.prog 40 #[.agg #[.slice vp vn vc, .slice xp xn xc, .slice fp fn fc], .agg #[.int .i64 op, .int .i64 (k : Int), .int .i64 ty, .int .i64 nn, .int .i64 5, .slice ap al ac, .slice tp tl tc]] W _
  go_enter Tryz.func40, Tryz.ntmps40
  go_wp2_with fail
  refine (c2 _).mono ?_
  rintro e w2 ⟨rfl, hb2⟩
  replace HS := Lib.hid (HS.out.later hb2)
  clear hb2 c2
  have z_0 := HS.out.2.1.get 0 _ rfl
  have c0 := HV.out.2 w2
  go_wp2_with fail
  refine c0.mono ?_
  rintro e w3 ⟨rfl, hb3⟩
  replace HS := Lib.hid (HS.out.later hb3)
  clear hb3 c0 z_0
  obtain ⟨y0, y1, y2⟩ : w3.cell? ⟨W.heap.size, 0, none⟩ = some (.slice vp vn vc) ∧ w3.cell? ⟨W.heap.size, 1, none⟩ = some (.slice xp xn xc) ∧ w3.cell? ⟨W.heap.size, 2, none⟩ = some (.slice fp fn fc) := ⟨HS.out.1.get 0 _ rfl, HS.out.1.get 1 _ rfl, HS.out.1.get 2 _ rfl⟩
  have z_0 := HS.out.2.1.get 0 _ rfl
  have z_1 := HS.out.2.1.get 1 _ rfl
  have z_2 := HS.out.2.1.get 2 _ rfl
  have z_3 := HS.out.2.1.get 3 _ rfl
  have z_4 := HS.out.2.1.get 4 _ rfl
  have z_5 := HS.out.2.1.get 5 _ rfl
  have z_6 := HS.out.2.1.get 6 _ rfl
  have cb := HV.out.1 w3 HS.out.2.2
  go_wp2_with fail
  refine cb.mono ?_
  rintro e w4 ⟨rfl, hb4⟩
  replace HS := Lib.hid (HS.out.later hb4)
  clear hb4 cb y0 y1 y2 z_0 z_1 z_2 z_3 z_4 z_5 z_6
  go_wp2_with fail
  go_ret
  exact ⟨by rw [← HF.out]; rfl, HS.out.2.2⟩
set_option maxRecDepth 100000 in
set_option maxHeartbeats 4000000 in
theorem rIns_p6 (m : LMod) (op  ty nn : Int) (ap tp : Option Addr) (al tl ac tc : Nat) (rs : List Arg) (ts : List Int) (W : World) (ho : 0 ≤ op ∧ op ≤ 34) (k : Nat) (hk4 : k ≤ 4095)
    (hb : ∀ w, Below W.heap.size W w → Calls Tryz.prog 82 #[.agg (modC m).toArray, .agg #[.int .i64 op, .int .i64 (k : Int), .int .i64 ty, .int .i64 nn, .int .i64 6, .slice ap al ac, .slice tp tl tc]] w (StrV (mkS (behindT (modD m) ⟨op, (k : Int), ty, nn, 6, rs, ts⟩)) w)) (hs : (mkS (behindT (modD m) ⟨op, (k : Int), ty, nn, 6, rs, ts⟩)).size ≤ 4398046511104) :
    Calls Tryz.prog 40 #[.agg (modC m).toArray, .agg #[.int .i64 op, .int .i64 (k : Int), .int .i64 ty, .int .i64 nn, .int .i64 6, .slice ap al ac, .slice tp tl tc]] W (StrV (mkS (insT (modD m) ⟨op, (k : Int), ty, nn, 6, rs, ts⟩)) W) := by
  have c0 := rName_any op ho
  have z0 := op_size op
  have HF : Hid (⟨#[37]⟩ ++ mkS (Lib.decDigits k) ++ ⟨#[32, 61, 32]⟩ ++ mkS (opT op) ++ ⟨#[32, 110, 117, 119]⟩ ++ ⟨#[32, 101, 120, 97, 99, 116]⟩ ++ mkS (behindT (modD m) ⟨op, (k : Int), ty, nn, 6, rs, ts⟩) = mkS (insT (modD m) ⟨op, (k : Int), ty, nn, 6, rs, ts⟩)) := Lib.hid (by
    simp only [mkS_lit, mkS_app]
    congr 1
    unfold insT
    simp only
    rw [if_pos (by omega)]
    simp [flagsT, regT, decI])
  have c2 := Digits_any k (by omega)
  have z2 : (mkS (Lib.decDigits k)).size ≤ 20 := by rw [size_mkS]; exact dec_20 (by omega)
  have HS := Lib.hid (IS.new W (modC m) [.int .i64 op, .int .i64 (k : Int), .int .i64 ty, .int .i64 nn, .int .i64 6, .slice ap al ac, .slice tp tl tc] 26 39)
  obtain ⟨T, eT⟩ : ∃ T, mkS (insT (modD m) ⟨op, (k : Int), ty, nn, 6, rs, ts⟩) = T := ⟨_, rfl⟩
  obtain ⟨v, ev⟩ : ∃ t, mkS (behindT (modD m) ⟨op, (k : Int), ty, nn, 6, rs, ts⟩) = t := ⟨_, rfl⟩
  obtain ⟨o, eo⟩ : ∃ t, mkS (opT op) = t := ⟨_, rfl⟩
  obtain ⟨d, ed⟩ : ∃ t, mkS (Lib.decDigits k) = t := ⟨_, rfl⟩
  rw [ed] at z2 HF
  simp only [ed] at c2
  rw [eT] at HF ⊢
  rw [ev, eo] at HF
  rw [ev] at hs
  rw [eo] at z0
  simp only [ev] at hb
  simp only [eo] at c0
  have HV := Lib.hid (And.intro hb c0)
  clear eT ev eo hb c0 ho ed
  obtain ⟨vp, vn, vc, vs, xp, xn, xc, xs, fp, fn, fc, fs⟩ := m
  have HS : Hid (IS W [.slice vp vn vc, .slice xp xn xc, .slice fp fn fc] [.int .i64 op, .int .i64 (k : Int), .int .i64 ty, .int .i64 nn, .int .i64 6, .slice ap al ac, .slice tp tl tc] ((W.alloc (.cells #[.slice vp vn vc, .slice xp xn xc, .slice fp fn fc] 26)).alloc (.cells #[.int .i64 op, .int .i64 (k : Int), .int .i64 ty, .int .i64 nn, .int .i64 6, .slice ap al ac, .slice tp tl tc] 39))) := HS
  show Calls Tryz.prog 40 #[.agg #[.slice vp vn vc, .slice xp xn xc, .slice fp fn fc], .agg #[.int .i64 op, .int .i64 (k : Int), .int .i64 ty, .int .i64 nn, .int .i64 6, .slice ap al ac, .slice tp tl tc]] W _
  go_enter Tryz.func40, Tryz.ntmps40
  go_wp2_with fail
  refine (c2 _).mono ?_
  rintro e w2 ⟨rfl, hb2⟩
  replace HS := Lib.hid (HS.out.later hb2)
  clear hb2 c2
  have z_0 := HS.out.2.1.get 0 _ rfl
  have c0 := HV.out.2 w2
  go_wp2_with fail
  refine c0.mono ?_
  rintro e w3 ⟨rfl, hb3⟩
  replace HS := Lib.hid (HS.out.later hb3)
  clear hb3 c0 z_0
  obtain ⟨y0, y1, y2⟩ : w3.cell? ⟨W.heap.size, 0, none⟩ = some (.slice vp vn vc) ∧ w3.cell? ⟨W.heap.size, 1, none⟩ = some (.slice xp xn xc) ∧ w3.cell? ⟨W.heap.size, 2, none⟩ = some (.slice fp fn fc) := ⟨HS.out.1.get 0 _ rfl, HS.out.1.get 1 _ rfl, HS.out.1.get 2 _ rfl⟩
  have z_0 := HS.out.2.1.get 0 _ rfl
  have z_1 := HS.out.2.1.get 1 _ rfl
  have z_2 := HS.out.2.1.get 2 _ rfl
  have z_3 := HS.out.2.1.get 3 _ rfl
  have z_4 := HS.out.2.1.get 4 _ rfl
  have z_5 := HS.out.2.1.get 5 _ rfl
  have z_6 := HS.out.2.1.get 6 _ rfl
  have cb := HV.out.1 w3 HS.out.2.2
  go_wp2_with fail
  refine cb.mono ?_
  rintro e w4 ⟨rfl, hb4⟩
  replace HS := Lib.hid (HS.out.later hb4)
  clear hb4 cb y0 y1 y2 z_0 z_1 z_2 z_3 z_4 z_5 z_6
  go_wp2_with fail
  go_ret
  exact ⟨by rw [← HF.out]; rfl, HS.out.2.2⟩
set_option maxRecDepth 100000 in
set_option maxHeartbeats 4000000 in
theorem rIns_p7 (m : LMod) (op  ty nn : Int) (ap tp : Option Addr) (al tl ac tc : Nat) (rs : List Arg) (ts : List Int) (W : World) (ho : 0 ≤ op ∧ op ≤ 34) (k : Nat) (hk4 : k ≤ 4095)
    (hb : ∀ w, Below W.heap.size W w → Calls Tryz.prog 82 #[.agg (modC m).toArray, .agg #[.int .i64 op, .int .i64 (k : Int), .int .i64 ty, .int .i64 nn, .int .i64 7, .slice ap al ac, .slice tp tl tc]] w (StrV (mkS (behindT (modD m) ⟨op, (k : Int), ty, nn, 7, rs, ts⟩)) w)) (hs : (mkS (behindT (modD m) ⟨op, (k : Int), ty, nn, 7, rs, ts⟩)).size ≤ 4398046511104) :
    Calls Tryz.prog 40 #[.agg (modC m).toArray, .agg #[.int .i64 op, .int .i64 (k : Int), .int .i64 ty, .int .i64 nn, .int .i64 7, .slice ap al ac, .slice tp tl tc]] W (StrV (mkS (insT (modD m) ⟨op, (k : Int), ty, nn, 7, rs, ts⟩)) W) := by
  have c0 := rName_any op ho
  have z0 := op_size op
  have HF : Hid (⟨#[37]⟩ ++ mkS (Lib.decDigits k) ++ ⟨#[32, 61, 32]⟩ ++ mkS (opT op) ++ ⟨#[32, 110, 115, 119]⟩ ++ ⟨#[32, 110, 117, 119]⟩ ++ ⟨#[32, 101, 120, 97, 99, 116]⟩ ++ mkS (behindT (modD m) ⟨op, (k : Int), ty, nn, 7, rs, ts⟩) = mkS (insT (modD m) ⟨op, (k : Int), ty, nn, 7, rs, ts⟩)) := Lib.hid (by
    simp only [mkS_lit, mkS_app]
    congr 1
    unfold insT
    simp only
    rw [if_pos (by omega)]
    simp [flagsT, regT, decI])
  have c2 := Digits_any k (by omega)
  have z2 : (mkS (Lib.decDigits k)).size ≤ 20 := by rw [size_mkS]; exact dec_20 (by omega)
  have HS := Lib.hid (IS.new W (modC m) [.int .i64 op, .int .i64 (k : Int), .int .i64 ty, .int .i64 nn, .int .i64 7, .slice ap al ac, .slice tp tl tc] 26 39)
  obtain ⟨T, eT⟩ : ∃ T, mkS (insT (modD m) ⟨op, (k : Int), ty, nn, 7, rs, ts⟩) = T := ⟨_, rfl⟩
  obtain ⟨v, ev⟩ : ∃ t, mkS (behindT (modD m) ⟨op, (k : Int), ty, nn, 7, rs, ts⟩) = t := ⟨_, rfl⟩
  obtain ⟨o, eo⟩ : ∃ t, mkS (opT op) = t := ⟨_, rfl⟩
  obtain ⟨d, ed⟩ : ∃ t, mkS (Lib.decDigits k) = t := ⟨_, rfl⟩
  rw [ed] at z2 HF
  simp only [ed] at c2
  rw [eT] at HF ⊢
  rw [ev, eo] at HF
  rw [ev] at hs
  rw [eo] at z0
  simp only [ev] at hb
  simp only [eo] at c0
  have HV := Lib.hid (And.intro hb c0)
  clear eT ev eo hb c0 ho ed
  obtain ⟨vp, vn, vc, vs, xp, xn, xc, xs, fp, fn, fc, fs⟩ := m
  have HS : Hid (IS W [.slice vp vn vc, .slice xp xn xc, .slice fp fn fc] [.int .i64 op, .int .i64 (k : Int), .int .i64 ty, .int .i64 nn, .int .i64 7, .slice ap al ac, .slice tp tl tc] ((W.alloc (.cells #[.slice vp vn vc, .slice xp xn xc, .slice fp fn fc] 26)).alloc (.cells #[.int .i64 op, .int .i64 (k : Int), .int .i64 ty, .int .i64 nn, .int .i64 7, .slice ap al ac, .slice tp tl tc] 39))) := HS
  show Calls Tryz.prog 40 #[.agg #[.slice vp vn vc, .slice xp xn xc, .slice fp fn fc], .agg #[.int .i64 op, .int .i64 (k : Int), .int .i64 ty, .int .i64 nn, .int .i64 7, .slice ap al ac, .slice tp tl tc]] W _
  go_enter Tryz.func40, Tryz.ntmps40
  go_wp2_with fail
  refine (c2 _).mono ?_
  rintro e w2 ⟨rfl, hb2⟩
  replace HS := Lib.hid (HS.out.later hb2)
  clear hb2 c2
  have z_0 := HS.out.2.1.get 0 _ rfl
  have c0 := HV.out.2 w2
  go_wp2_with fail
  refine c0.mono ?_
  rintro e w3 ⟨rfl, hb3⟩
  replace HS := Lib.hid (HS.out.later hb3)
  clear hb3 c0 z_0
  obtain ⟨y0, y1, y2⟩ : w3.cell? ⟨W.heap.size, 0, none⟩ = some (.slice vp vn vc) ∧ w3.cell? ⟨W.heap.size, 1, none⟩ = some (.slice xp xn xc) ∧ w3.cell? ⟨W.heap.size, 2, none⟩ = some (.slice fp fn fc) := ⟨HS.out.1.get 0 _ rfl, HS.out.1.get 1 _ rfl, HS.out.1.get 2 _ rfl⟩
  have z_0 := HS.out.2.1.get 0 _ rfl
  have z_1 := HS.out.2.1.get 1 _ rfl
  have z_2 := HS.out.2.1.get 2 _ rfl
  have z_3 := HS.out.2.1.get 3 _ rfl
  have z_4 := HS.out.2.1.get 4 _ rfl
  have z_5 := HS.out.2.1.get 5 _ rfl
  have z_6 := HS.out.2.1.get 6 _ rfl
  have cb := HV.out.1 w3 HS.out.2.2
  go_wp2_with fail
  refine cb.mono ?_
  rintro e w4 ⟨rfl, hb4⟩
  replace HS := Lib.hid (HS.out.later hb4)
  clear hb4 cb y0 y1 y2 z_0 z_1 z_2 z_3 z_4 z_5 z_6
  go_wp2_with fail
  go_ret
  exact ⟨by rw [← HF.out]; rfl, HS.out.2.2⟩
set_option maxRecDepth 100000 in
set_option maxHeartbeats 4000000 in
theorem rIns_n0 (m : LMod) (op rg ty nn : Int) (ap tp : Option Addr) (al tl ac tc : Nat) (rs : List Arg) (ts : List Int) (W : World) (ho : 0 ≤ op ∧ op ≤ 34) (hr : rg < 0)
    (hb : ∀ w, Below W.heap.size W w → Calls Tryz.prog 82 #[.agg (modC m).toArray, .agg #[.int .i64 op, .int .i64 rg, .int .i64 ty, .int .i64 nn, .int .i64 0, .slice ap al ac, .slice tp tl tc]] w (StrV (mkS (behindT (modD m) ⟨op, rg, ty, nn, 0, rs, ts⟩)) w)) (hs : (mkS (behindT (modD m) ⟨op, rg, ty, nn, 0, rs, ts⟩)).size ≤ 4398046511104) :
    Calls Tryz.prog 40 #[.agg (modC m).toArray, .agg #[.int .i64 op, .int .i64 rg, .int .i64 ty, .int .i64 nn, .int .i64 0, .slice ap al ac, .slice tp tl tc]] W (StrV (mkS (insT (modD m) ⟨op, rg, ty, nn, 0, rs, ts⟩)) W) := by
  have c0 := rName_any op ho
  have z0 := op_size op
  have HF : Hid (⟨#[]⟩ ++ mkS (opT op) ++ mkS (behindT (modD m) ⟨op, rg, ty, nn, 0, rs, ts⟩) = mkS (insT (modD m) ⟨op, rg, ty, nn, 0, rs, ts⟩)) := Lib.hid (by
    simp only [mkS_lit, mkS_app]
    congr 1
    unfold insT
    simp only
    rw [if_neg (by omega)]
    simp [flagsT])
  have HS := Lib.hid (IS.new W (modC m) [.int .i64 op, .int .i64 rg, .int .i64 ty, .int .i64 nn, .int .i64 0, .slice ap al ac, .slice tp tl tc] 26 39)
  obtain ⟨T, eT⟩ : ∃ T, mkS (insT (modD m) ⟨op, rg, ty, nn, 0, rs, ts⟩) = T := ⟨_, rfl⟩
  obtain ⟨v, ev⟩ : ∃ t, mkS (behindT (modD m) ⟨op, rg, ty, nn, 0, rs, ts⟩) = t := ⟨_, rfl⟩
  obtain ⟨o, eo⟩ : ∃ t, mkS (opT op) = t := ⟨_, rfl⟩
  rw [eT] at HF ⊢
  rw [ev, eo] at HF
  rw [ev] at hs
  rw [eo] at z0
  simp only [ev] at hb
  simp only [eo] at c0
  have HV := Lib.hid (And.intro hb c0)
  clear eT ev eo hb c0 ho
  obtain ⟨vp, vn, vc, vs, xp, xn, xc, xs, fp, fn, fc, fs⟩ := m
  have HS : Hid (IS W [.slice vp vn vc, .slice xp xn xc, .slice fp fn fc] [.int .i64 op, .int .i64 rg, .int .i64 ty, .int .i64 nn, .int .i64 0, .slice ap al ac, .slice tp tl tc] ((W.alloc (.cells #[.slice vp vn vc, .slice xp xn xc, .slice fp fn fc] 26)).alloc (.cells #[.int .i64 op, .int .i64 rg, .int .i64 ty, .int .i64 nn, .int .i64 0, .slice ap al ac, .slice tp tl tc] 39))) := HS
  show Calls Tryz.prog 40 #[.agg #[.slice vp vn vc, .slice xp xn xc, .slice fp fn fc], .agg #[.int .i64 op, .int .i64 rg, .int .i64 ty, .int .i64 nn, .int .i64 0, .slice ap al ac, .slice tp tl tc]] W _
  go_enter Tryz.func40, Tryz.ntmps40
  have d0 : decide ((0 : Int) ≤ rg) = false := by simp; omega
  go_wp2_with fail
  have c0 := HV.out.2 ((W.alloc (.cells #[.slice vp vn vc, .slice xp xn xc, .slice fp fn fc] 26)).alloc (.cells #[.int .i64 op, .int .i64 rg, .int .i64 ty, .int .i64 nn, .int .i64 0, .slice ap al ac, .slice tp tl tc] 39))
  refine c0.mono ?_
  rintro e w3 ⟨rfl, hb3⟩
  replace HS := Lib.hid (HS.out.later hb3)
  clear hb3 c0 
  obtain ⟨y0, y1, y2⟩ : w3.cell? ⟨W.heap.size, 0, none⟩ = some (.slice vp vn vc) ∧ w3.cell? ⟨W.heap.size, 1, none⟩ = some (.slice xp xn xc) ∧ w3.cell? ⟨W.heap.size, 2, none⟩ = some (.slice fp fn fc) := ⟨HS.out.1.get 0 _ rfl, HS.out.1.get 1 _ rfl, HS.out.1.get 2 _ rfl⟩
  have z_0 := HS.out.2.1.get 0 _ rfl
  have z_1 := HS.out.2.1.get 1 _ rfl
  have z_2 := HS.out.2.1.get 2 _ rfl
  have z_3 := HS.out.2.1.get 3 _ rfl
  have z_4 := HS.out.2.1.get 4 _ rfl
  have z_5 := HS.out.2.1.get 5 _ rfl
  have z_6 := HS.out.2.1.get 6 _ rfl
  have cb := HV.out.1 w3 HS.out.2.2
  go_wp2_with fail
  refine cb.mono ?_
  rintro e w4 ⟨rfl, hb4⟩
  replace HS := Lib.hid (HS.out.later hb4)
  clear hb4 cb y0 y1 y2 z_0 z_1 z_2 z_3 z_4 z_5 z_6
  go_wp2_with fail
  go_ret
  exact ⟨by rw [← HF.out]; rfl, HS.out.2.2⟩
set_option maxRecDepth 100000 in
set_option maxHeartbeats 4000000 in
theorem rIns_n1 (m : LMod) (op rg ty nn : Int) (ap tp : Option Addr) (al tl ac tc : Nat) (rs : List Arg) (ts : List Int) (W : World) (ho : 0 ≤ op ∧ op ≤ 34) (hr : rg < 0)
    (hb : ∀ w, Below W.heap.size W w → Calls Tryz.prog 82 #[.agg (modC m).toArray, .agg #[.int .i64 op, .int .i64 rg, .int .i64 ty, .int .i64 nn, .int .i64 1, .slice ap al ac, .slice tp tl tc]] w (StrV (mkS (behindT (modD m) ⟨op, rg, ty, nn, 1, rs, ts⟩)) w)) (hs : (mkS (behindT (modD m) ⟨op, rg, ty, nn, 1, rs, ts⟩)).size ≤ 4398046511104) :
    Calls Tryz.prog 40 #[.agg (modC m).toArray, .agg #[.int .i64 op, .int .i64 rg, .int .i64 ty, .int .i64 nn, .int .i64 1, .slice ap al ac, .slice tp tl tc]] W (StrV (mkS (insT (modD m) ⟨op, rg, ty, nn, 1, rs, ts⟩)) W) := by
  have c0 := rName_any op ho
  have z0 := op_size op
  have HF : Hid (⟨#[]⟩ ++ mkS (opT op) ++ ⟨#[32, 110, 115, 119]⟩ ++ mkS (behindT (modD m) ⟨op, rg, ty, nn, 1, rs, ts⟩) = mkS (insT (modD m) ⟨op, rg, ty, nn, 1, rs, ts⟩)) := Lib.hid (by
    simp only [mkS_lit, mkS_app]
    congr 1
    unfold insT
    simp only
    rw [if_neg (by omega)]
    simp [flagsT])
  have HS := Lib.hid (IS.new W (modC m) [.int .i64 op, .int .i64 rg, .int .i64 ty, .int .i64 nn, .int .i64 1, .slice ap al ac, .slice tp tl tc] 26 39)
  obtain ⟨T, eT⟩ : ∃ T, mkS (insT (modD m) ⟨op, rg, ty, nn, 1, rs, ts⟩) = T := ⟨_, rfl⟩
  obtain ⟨v, ev⟩ : ∃ t, mkS (behindT (modD m) ⟨op, rg, ty, nn, 1, rs, ts⟩) = t := ⟨_, rfl⟩
  obtain ⟨o, eo⟩ : ∃ t, mkS (opT op) = t := ⟨_, rfl⟩
  rw [eT] at HF ⊢
  rw [ev, eo] at HF
  rw [ev] at hs
  rw [eo] at z0
  simp only [ev] at hb
  simp only [eo] at c0
  have HV := Lib.hid (And.intro hb c0)
  clear eT ev eo hb c0 ho
  obtain ⟨vp, vn, vc, vs, xp, xn, xc, xs, fp, fn, fc, fs⟩ := m
  have HS : Hid (IS W [.slice vp vn vc, .slice xp xn xc, .slice fp fn fc] [.int .i64 op, .int .i64 rg, .int .i64 ty, .int .i64 nn, .int .i64 1, .slice ap al ac, .slice tp tl tc] ((W.alloc (.cells #[.slice vp vn vc, .slice xp xn xc, .slice fp fn fc] 26)).alloc (.cells #[.int .i64 op, .int .i64 rg, .int .i64 ty, .int .i64 nn, .int .i64 1, .slice ap al ac, .slice tp tl tc] 39))) := HS
  show Calls Tryz.prog 40 #[.agg #[.slice vp vn vc, .slice xp xn xc, .slice fp fn fc], .agg #[.int .i64 op, .int .i64 rg, .int .i64 ty, .int .i64 nn, .int .i64 1, .slice ap al ac, .slice tp tl tc]] W _
  go_enter Tryz.func40, Tryz.ntmps40
  have d0 : decide ((0 : Int) ≤ rg) = false := by simp; omega
  go_wp2_with fail
  have c0 := HV.out.2 ((W.alloc (.cells #[.slice vp vn vc, .slice xp xn xc, .slice fp fn fc] 26)).alloc (.cells #[.int .i64 op, .int .i64 rg, .int .i64 ty, .int .i64 nn, .int .i64 1, .slice ap al ac, .slice tp tl tc] 39))
  refine c0.mono ?_
  rintro e w3 ⟨rfl, hb3⟩
  replace HS := Lib.hid (HS.out.later hb3)
  clear hb3 c0 
  obtain ⟨y0, y1, y2⟩ : w3.cell? ⟨W.heap.size, 0, none⟩ = some (.slice vp vn vc) ∧ w3.cell? ⟨W.heap.size, 1, none⟩ = some (.slice xp xn xc) ∧ w3.cell? ⟨W.heap.size, 2, none⟩ = some (.slice fp fn fc) := ⟨HS.out.1.get 0 _ rfl, HS.out.1.get 1 _ rfl, HS.out.1.get 2 _ rfl⟩
  have z_0 := HS.out.2.1.get 0 _ rfl
  have z_1 := HS.out.2.1.get 1 _ rfl
  have z_2 := HS.out.2.1.get 2 _ rfl
  have z_3 := HS.out.2.1.get 3 _ rfl
  have z_4 := HS.out.2.1.get 4 _ rfl
  have z_5 := HS.out.2.1.get 5 _ rfl
  have z_6 := HS.out.2.1.get 6 _ rfl
  have cb := HV.out.1 w3 HS.out.2.2
  go_wp2_with fail
  refine cb.mono ?_
  rintro e w4 ⟨rfl, hb4⟩
  replace HS := Lib.hid (HS.out.later hb4)
  clear hb4 cb y0 y1 y2 z_0 z_1 z_2 z_3 z_4 z_5 z_6
  go_wp2_with fail
  go_ret
  exact ⟨by rw [← HF.out]; rfl, HS.out.2.2⟩
set_option maxRecDepth 100000 in
set_option maxHeartbeats 4000000 in
theorem rIns_n2 (m : LMod) (op rg ty nn : Int) (ap tp : Option Addr) (al tl ac tc : Nat) (rs : List Arg) (ts : List Int) (W : World) (ho : 0 ≤ op ∧ op ≤ 34) (hr : rg < 0)
    (hb : ∀ w, Below W.heap.size W w → Calls Tryz.prog 82 #[.agg (modC m).toArray, .agg #[.int .i64 op, .int .i64 rg, .int .i64 ty, .int .i64 nn, .int .i64 2, .slice ap al ac, .slice tp tl tc]] w (StrV (mkS (behindT (modD m) ⟨op, rg, ty, nn, 2, rs, ts⟩)) w)) (hs : (mkS (behindT (modD m) ⟨op, rg, ty, nn, 2, rs, ts⟩)).size ≤ 4398046511104) :
    Calls Tryz.prog 40 #[.agg (modC m).toArray, .agg #[.int .i64 op, .int .i64 rg, .int .i64 ty, .int .i64 nn, .int .i64 2, .slice ap al ac, .slice tp tl tc]] W (StrV (mkS (insT (modD m) ⟨op, rg, ty, nn, 2, rs, ts⟩)) W) := by
  have c0 := rName_any op ho
  have z0 := op_size op
  have HF : Hid (⟨#[]⟩ ++ mkS (opT op) ++ ⟨#[32, 110, 117, 119]⟩ ++ mkS (behindT (modD m) ⟨op, rg, ty, nn, 2, rs, ts⟩) = mkS (insT (modD m) ⟨op, rg, ty, nn, 2, rs, ts⟩)) := Lib.hid (by
    simp only [mkS_lit, mkS_app]
    congr 1
    unfold insT
    simp only
    rw [if_neg (by omega)]
    simp [flagsT])
  have HS := Lib.hid (IS.new W (modC m) [.int .i64 op, .int .i64 rg, .int .i64 ty, .int .i64 nn, .int .i64 2, .slice ap al ac, .slice tp tl tc] 26 39)
  obtain ⟨T, eT⟩ : ∃ T, mkS (insT (modD m) ⟨op, rg, ty, nn, 2, rs, ts⟩) = T := ⟨_, rfl⟩
  obtain ⟨v, ev⟩ : ∃ t, mkS (behindT (modD m) ⟨op, rg, ty, nn, 2, rs, ts⟩) = t := ⟨_, rfl⟩
  obtain ⟨o, eo⟩ : ∃ t, mkS (opT op) = t := ⟨_, rfl⟩
  rw [eT] at HF ⊢
  rw [ev, eo] at HF
  rw [ev] at hs
  rw [eo] at z0
  simp only [ev] at hb
  simp only [eo] at c0
  have HV := Lib.hid (And.intro hb c0)
  clear eT ev eo hb c0 ho
  obtain ⟨vp, vn, vc, vs, xp, xn, xc, xs, fp, fn, fc, fs⟩ := m
  have HS : Hid (IS W [.slice vp vn vc, .slice xp xn xc, .slice fp fn fc] [.int .i64 op, .int .i64 rg, .int .i64 ty, .int .i64 nn, .int .i64 2, .slice ap al ac, .slice tp tl tc] ((W.alloc (.cells #[.slice vp vn vc, .slice xp xn xc, .slice fp fn fc] 26)).alloc (.cells #[.int .i64 op, .int .i64 rg, .int .i64 ty, .int .i64 nn, .int .i64 2, .slice ap al ac, .slice tp tl tc] 39))) := HS
  show Calls Tryz.prog 40 #[.agg #[.slice vp vn vc, .slice xp xn xc, .slice fp fn fc], .agg #[.int .i64 op, .int .i64 rg, .int .i64 ty, .int .i64 nn, .int .i64 2, .slice ap al ac, .slice tp tl tc]] W _
  go_enter Tryz.func40, Tryz.ntmps40
  have d0 : decide ((0 : Int) ≤ rg) = false := by simp; omega
  go_wp2_with fail
  have c0 := HV.out.2 ((W.alloc (.cells #[.slice vp vn vc, .slice xp xn xc, .slice fp fn fc] 26)).alloc (.cells #[.int .i64 op, .int .i64 rg, .int .i64 ty, .int .i64 nn, .int .i64 2, .slice ap al ac, .slice tp tl tc] 39))
  refine c0.mono ?_
  rintro e w3 ⟨rfl, hb3⟩
  replace HS := Lib.hid (HS.out.later hb3)
  clear hb3 c0 
  obtain ⟨y0, y1, y2⟩ : w3.cell? ⟨W.heap.size, 0, none⟩ = some (.slice vp vn vc) ∧ w3.cell? ⟨W.heap.size, 1, none⟩ = some (.slice xp xn xc) ∧ w3.cell? ⟨W.heap.size, 2, none⟩ = some (.slice fp fn fc) := ⟨HS.out.1.get 0 _ rfl, HS.out.1.get 1 _ rfl, HS.out.1.get 2 _ rfl⟩
  have z_0 := HS.out.2.1.get 0 _ rfl
  have z_1 := HS.out.2.1.get 1 _ rfl
  have z_2 := HS.out.2.1.get 2 _ rfl
  have z_3 := HS.out.2.1.get 3 _ rfl
  have z_4 := HS.out.2.1.get 4 _ rfl
  have z_5 := HS.out.2.1.get 5 _ rfl
  have z_6 := HS.out.2.1.get 6 _ rfl
  have cb := HV.out.1 w3 HS.out.2.2
  go_wp2_with fail
  refine cb.mono ?_
  rintro e w4 ⟨rfl, hb4⟩
  replace HS := Lib.hid (HS.out.later hb4)
  clear hb4 cb y0 y1 y2 z_0 z_1 z_2 z_3 z_4 z_5 z_6
  go_wp2_with fail
  go_ret
  exact ⟨by rw [← HF.out]; rfl, HS.out.2.2⟩
set_option maxRecDepth 100000 in
set_option maxHeartbeats 4000000 in
theorem rIns_n3 (m : LMod) (op rg ty nn : Int) (ap tp : Option Addr) (al tl ac tc : Nat) (rs : List Arg) (ts : List Int) (W : World) (ho : 0 ≤ op ∧ op ≤ 34) (hr : rg < 0)
    (hb : ∀ w, Below W.heap.size W w → Calls Tryz.prog 82 #[.agg (modC m).toArray, .agg #[.int .i64 op, .int .i64 rg, .int .i64 ty, .int .i64 nn, .int .i64 3, .slice ap al ac, .slice tp tl tc]] w (StrV (mkS (behindT (modD m) ⟨op, rg, ty, nn, 3, rs, ts⟩)) w)) (hs : (mkS (behindT (modD m) ⟨op, rg, ty, nn, 3, rs, ts⟩)).size ≤ 4398046511104) :
    Calls Tryz.prog 40 #[.agg (modC m).toArray, .agg #[.int .i64 op, .int .i64 rg, .int .i64 ty, .int .i64 nn, .int .i64 3, .slice ap al ac, .slice tp tl tc]] W (StrV (mkS (insT (modD m) ⟨op, rg, ty, nn, 3, rs, ts⟩)) W) := by
  have c0 := rName_any op ho
  have z0 := op_size op
  have HF : Hid (⟨#[]⟩ ++ mkS (opT op) ++ ⟨#[32, 110, 115, 119]⟩ ++ ⟨#[32, 110, 117, 119]⟩ ++ mkS (behindT (modD m) ⟨op, rg, ty, nn, 3, rs, ts⟩) = mkS (insT (modD m) ⟨op, rg, ty, nn, 3, rs, ts⟩)) := Lib.hid (by
    simp only [mkS_lit, mkS_app]
    congr 1
    unfold insT
    simp only
    rw [if_neg (by omega)]
    simp [flagsT])
  have HS := Lib.hid (IS.new W (modC m) [.int .i64 op, .int .i64 rg, .int .i64 ty, .int .i64 nn, .int .i64 3, .slice ap al ac, .slice tp tl tc] 26 39)
  obtain ⟨T, eT⟩ : ∃ T, mkS (insT (modD m) ⟨op, rg, ty, nn, 3, rs, ts⟩) = T := ⟨_, rfl⟩
  obtain ⟨v, ev⟩ : ∃ t, mkS (behindT (modD m) ⟨op, rg, ty, nn, 3, rs, ts⟩) = t := ⟨_, rfl⟩
  obtain ⟨o, eo⟩ : ∃ t, mkS (opT op) = t := ⟨_, rfl⟩
  rw [eT] at HF ⊢
  rw [ev, eo] at HF
  rw [ev] at hs
  rw [eo] at z0
  simp only [ev] at hb
  simp only [eo] at c0
  have HV := Lib.hid (And.intro hb c0)
  clear eT ev eo hb c0 ho
  obtain ⟨vp, vn, vc, vs, xp, xn, xc, xs, fp, fn, fc, fs⟩ := m
  have HS : Hid (IS W [.slice vp vn vc, .slice xp xn xc, .slice fp fn fc] [.int .i64 op, .int .i64 rg, .int .i64 ty, .int .i64 nn, .int .i64 3, .slice ap al ac, .slice tp tl tc] ((W.alloc (.cells #[.slice vp vn vc, .slice xp xn xc, .slice fp fn fc] 26)).alloc (.cells #[.int .i64 op, .int .i64 rg, .int .i64 ty, .int .i64 nn, .int .i64 3, .slice ap al ac, .slice tp tl tc] 39))) := HS
  show Calls Tryz.prog 40 #[.agg #[.slice vp vn vc, .slice xp xn xc, .slice fp fn fc], .agg #[.int .i64 op, .int .i64 rg, .int .i64 ty, .int .i64 nn, .int .i64 3, .slice ap al ac, .slice tp tl tc]] W _
  go_enter Tryz.func40, Tryz.ntmps40
  have d0 : decide ((0 : Int) ≤ rg) = false := by simp; omega
  go_wp2_with fail
  have c0 := HV.out.2 ((W.alloc (.cells #[.slice vp vn vc, .slice xp xn xc, .slice fp fn fc] 26)).alloc (.cells #[.int .i64 op, .int .i64 rg, .int .i64 ty, .int .i64 nn, .int .i64 3, .slice ap al ac, .slice tp tl tc] 39))
  refine c0.mono ?_
  rintro e w3 ⟨rfl, hb3⟩
  replace HS := Lib.hid (HS.out.later hb3)
  clear hb3 c0 
  obtain ⟨y0, y1, y2⟩ : w3.cell? ⟨W.heap.size, 0, none⟩ = some (.slice vp vn vc) ∧ w3.cell? ⟨W.heap.size, 1, none⟩ = some (.slice xp xn xc) ∧ w3.cell? ⟨W.heap.size, 2, none⟩ = some (.slice fp fn fc) := ⟨HS.out.1.get 0 _ rfl, HS.out.1.get 1 _ rfl, HS.out.1.get 2 _ rfl⟩
  have z_0 := HS.out.2.1.get 0 _ rfl
  have z_1 := HS.out.2.1.get 1 _ rfl
  have z_2 := HS.out.2.1.get 2 _ rfl
  have z_3 := HS.out.2.1.get 3 _ rfl
  have z_4 := HS.out.2.1.get 4 _ rfl
  have z_5 := HS.out.2.1.get 5 _ rfl
  have z_6 := HS.out.2.1.get 6 _ rfl
  have cb := HV.out.1 w3 HS.out.2.2
  go_wp2_with fail
  refine cb.mono ?_
  rintro e w4 ⟨rfl, hb4⟩
  replace HS := Lib.hid (HS.out.later hb4)
  clear hb4 cb y0 y1 y2 z_0 z_1 z_2 z_3 z_4 z_5 z_6
  go_wp2_with fail
  go_ret
  exact ⟨by rw [← HF.out]; rfl, HS.out.2.2⟩
set_option maxRecDepth 100000 in
set_option maxHeartbeats 4000000 in
theorem rIns_n4 (m : LMod) (op rg ty nn : Int) (ap tp : Option Addr) (al tl ac tc : Nat) (rs : List Arg) (ts : List Int) (W : World) (ho : 0 ≤ op ∧ op ≤ 34) (hr : rg < 0)
    (hb : ∀ w, Below W.heap.size W w → Calls Tryz.prog 82 #[.agg (modC m).toArray, .agg #[.int .i64 op, .int .i64 rg, .int .i64 ty, .int .i64 nn, .int .i64 4, .slice ap al ac, .slice tp tl tc]] w (StrV (mkS (behindT (modD m) ⟨op, rg, ty, nn, 4, rs, ts⟩)) w)) (hs : (mkS (behindT (modD m) ⟨op, rg, ty, nn, 4, rs, ts⟩)).size ≤ 4398046511104) :
    Calls Tryz.prog 40 #[.agg (modC m).toArray, .agg #[.int .i64 op, .int .i64 rg, .int .i64 ty, .int .i64 nn, .int .i64 4, .slice ap al ac, .slice tp tl tc]] W (StrV (mkS (insT (modD m) ⟨op, rg, ty, nn, 4, rs, ts⟩)) W) := by
  have c0 := rName_any op ho
  have z0 := op_size op
  have HF : Hid (⟨#[]⟩ ++ mkS (opT op) ++ ⟨#[32, 101, 120, 97, 99, 116]⟩ ++ mkS (behindT (modD m) ⟨op, rg, ty, nn, 4, rs, ts⟩) = mkS (insT (modD m) ⟨op, rg, ty, nn, 4, rs, ts⟩)) := Lib.hid (by
    simp only [mkS_lit, mkS_app]
    congr 1
    unfold insT
    simp only
    rw [if_neg (by omega)]
    simp [flagsT])
  have HS := Lib.hid (IS.new W (modC m) [.int .i64 op, .int .i64 rg, .int .i64 ty, .int .i64 nn, .int .i64 4, .slice ap al ac, .slice tp tl tc] 26 39)
  obtain ⟨T, eT⟩ : ∃ T, mkS (insT (modD m) ⟨op, rg, ty, nn, 4, rs, ts⟩) = T := ⟨_, rfl⟩
  obtain ⟨v, ev⟩ : ∃ t, mkS (behindT (modD m) ⟨op, rg, ty, nn, 4, rs, ts⟩) = t := ⟨_, rfl⟩
  obtain ⟨o, eo⟩ : ∃ t, mkS (opT op) = t := ⟨_, rfl⟩
  rw [eT] at HF ⊢
  rw [ev, eo] at HF
  rw [ev] at hs
  rw [eo] at z0
  simp only [ev] at hb
  simp only [eo] at c0
  have HV := Lib.hid (And.intro hb c0)
  clear eT ev eo hb c0 ho
  obtain ⟨vp, vn, vc, vs, xp, xn, xc, xs, fp, fn, fc, fs⟩ := m
  have HS : Hid (IS W [.slice vp vn vc, .slice xp xn xc, .slice fp fn fc] [.int .i64 op, .int .i64 rg, .int .i64 ty, .int .i64 nn, .int .i64 4, .slice ap al ac, .slice tp tl tc] ((W.alloc (.cells #[.slice vp vn vc, .slice xp xn xc, .slice fp fn fc] 26)).alloc (.cells #[.int .i64 op, .int .i64 rg, .int .i64 ty, .int .i64 nn, .int .i64 4, .slice ap al ac, .slice tp tl tc] 39))) := HS
  show Calls Tryz.prog 40 #[.agg #[.slice vp vn vc, .slice xp xn xc, .slice fp fn fc], .agg #[.int .i64 op, .int .i64 rg, .int .i64 ty, .int .i64 nn, .int .i64 4, .slice ap al ac, .slice tp tl tc]] W _
  go_enter Tryz.func40, Tryz.ntmps40
  have d0 : decide ((0 : Int) ≤ rg) = false := by simp; omega
  go_wp2_with fail
  have c0 := HV.out.2 ((W.alloc (.cells #[.slice vp vn vc, .slice xp xn xc, .slice fp fn fc] 26)).alloc (.cells #[.int .i64 op, .int .i64 rg, .int .i64 ty, .int .i64 nn, .int .i64 4, .slice ap al ac, .slice tp tl tc] 39))
  refine c0.mono ?_
  rintro e w3 ⟨rfl, hb3⟩
  replace HS := Lib.hid (HS.out.later hb3)
  clear hb3 c0 
  obtain ⟨y0, y1, y2⟩ : w3.cell? ⟨W.heap.size, 0, none⟩ = some (.slice vp vn vc) ∧ w3.cell? ⟨W.heap.size, 1, none⟩ = some (.slice xp xn xc) ∧ w3.cell? ⟨W.heap.size, 2, none⟩ = some (.slice fp fn fc) := ⟨HS.out.1.get 0 _ rfl, HS.out.1.get 1 _ rfl, HS.out.1.get 2 _ rfl⟩
  have z_0 := HS.out.2.1.get 0 _ rfl
  have z_1 := HS.out.2.1.get 1 _ rfl
  have z_2 := HS.out.2.1.get 2 _ rfl
  have z_3 := HS.out.2.1.get 3 _ rfl
  have z_4 := HS.out.2.1.get 4 _ rfl
  have z_5 := HS.out.2.1.get 5 _ rfl
  have z_6 := HS.out.2.1.get 6 _ rfl
  have cb := HV.out.1 w3 HS.out.2.2
  go_wp2_with fail
  refine cb.mono ?_
  rintro e w4 ⟨rfl, hb4⟩
  replace HS := Lib.hid (HS.out.later hb4)
  clear hb4 cb y0 y1 y2 z_0 z_1 z_2 z_3 z_4 z_5 z_6
  go_wp2_with fail
  go_ret
  exact ⟨by rw [← HF.out]; rfl, HS.out.2.2⟩
set_option maxRecDepth 100000 in
set_option maxHeartbeats 4000000 in
theorem rIns_n5 (m : LMod) (op rg ty nn : Int) (ap tp : Option Addr) (al tl ac tc : Nat) (rs : List Arg) (ts : List Int) (W : World) (ho : 0 ≤ op ∧ op ≤ 34) (hr : rg < 0)
    (hb : ∀ w, Below W.heap.size W w → Calls Tryz.prog 82 #[.agg (modC m).toArray, .agg #[.int .i64 op, .int .i64 rg, .int .i64 ty, .int .i64 nn, .int .i64 5, .slice ap al ac, .slice tp tl tc]] w (StrV (mkS (behindT (modD m) ⟨op, rg, ty, nn, 5, rs, ts⟩)) w)) (hs : (mkS (behindT (modD m) ⟨op, rg, ty, nn, 5, rs, ts⟩)).size ≤ 4398046511104) :
    Calls Tryz.prog 40 #[.agg (modC m).toArray, .agg #[.int .i64 op, .int .i64 rg, .int .i64 ty, .int .i64 nn, .int .i64 5, .slice ap al ac, .slice tp tl tc]] W (StrV (mkS (insT (modD m) ⟨op, rg, ty, nn, 5, rs, ts⟩)) W) := by
  have c0 := rName_any op ho
  have z0 := op_size op
  have HF : Hid (⟨#[]⟩ ++ mkS (opT op) ++ ⟨#[32, 110, 115, 119]⟩ ++ ⟨#[32, 101, 120, 97, 99, 116]⟩ ++ mkS (behindT (modD m) ⟨op, rg, ty, nn, 5, rs, ts⟩) = mkS (insT (modD m) ⟨op, rg, ty, nn, 5, rs, ts⟩)) := Lib.hid (by
    simp only [mkS_lit, mkS_app]
    congr 1
    unfold insT
    simp only
    rw [if_neg (by omega)]
    simp [flagsT])
  have HS := Lib.hid (IS.new W (modC m) [.int .i64 op, .int .i64 rg, .int .i64 ty, .int .i64 nn, .int .i64 5, .slice ap al ac, .slice tp tl tc] 26 39)
  obtain ⟨T, eT⟩ : ∃ T, mkS (insT (modD m) ⟨op, rg, ty, nn, 5, rs, ts⟩) = T := ⟨_, rfl⟩
  obtain ⟨v, ev⟩ : ∃ t, mkS (behindT (modD m) ⟨op, rg, ty, nn, 5, rs, ts⟩) = t := ⟨_, rfl⟩
  obtain ⟨o, eo⟩ : ∃ t, mkS (opT op) = t := ⟨_, rfl⟩
  rw [eT] at HF ⊢
  rw [ev, eo] at HF
  rw [ev] at hs
  rw [eo] at z0
  simp only [ev] at hb
  simp only [eo] at c0
  have HV := Lib.hid (And.intro hb c0)
  clear eT ev eo hb c0 ho
  obtain ⟨vp, vn, vc, vs, xp, xn, xc, xs, fp, fn, fc, fs⟩ := m
  have HS : Hid (IS W [.slice vp vn vc, .slice xp xn xc, .slice fp fn fc] [.int .i64 op, .int .i64 rg, .int .i64 ty, .int .i64 nn, .int .i64 5, .slice ap al ac, .slice tp tl tc] ((W.alloc (.cells #[.slice vp vn vc, .slice xp xn xc, .slice fp fn fc] 26)).alloc (.cells #[.int .i64 op, .int .i64 rg, .int .i64 ty, .int .i64 nn, .int .i64 5, .slice ap al ac, .slice tp tl tc] 39))) := HS
  show Calls Tryz.prog 40 #[.agg #[.slice vp vn vc, .slice xp xn xc, .slice fp fn fc], .agg #[.int .i64 op, .int .i64 rg, .int .i64 ty, .int .i64 nn, .int .i64 5, .slice ap al ac, .slice tp tl tc]] W _
  go_enter Tryz.func40, Tryz.ntmps40
  have d0 : decide ((0 : Int) ≤ rg) = false := by simp; omega
  go_wp2_with fail
  have c0 := HV.out.2 ((W.alloc (.cells #[.slice vp vn vc, .slice xp xn xc, .slice fp fn fc] 26)).alloc (.cells #[.int .i64 op, .int .i64 rg, .int .i64 ty, .int .i64 nn, .int .i64 5, .slice ap al ac, .slice tp tl tc] 39))
  refine c0.mono ?_
  rintro e w3 ⟨rfl, hb3⟩
  replace HS := Lib.hid (HS.out.later hb3)
  clear hb3 c0 
  obtain ⟨y0, y1, y2⟩ : w3.cell? ⟨W.heap.size, 0, none⟩ = some (.slice vp vn vc) ∧ w3.cell? ⟨W.heap.size, 1, none⟩ = some (.slice xp xn xc) ∧ w3.cell? ⟨W.heap.size, 2, none⟩ = some (.slice fp fn fc) := ⟨HS.out.1.get 0 _ rfl, HS.out.1.get 1 _ rfl, HS.out.1.get 2 _ rfl⟩
  have z_0 := HS.out.2.1.get 0 _ rfl
  have z_1 := HS.out.2.1.get 1 _ rfl
  have z_2 := HS.out.2.1.get 2 _ rfl
  have z_3 := HS.out.2.1.get 3 _ rfl
  have z_4 := HS.out.2.1.get 4 _ rfl
  have z_5 := HS.out.2.1.get 5 _ rfl
  have z_6 := HS.out.2.1.get 6 _ rfl
  have cb := HV.out.1 w3 HS.out.2.2
  go_wp2_with fail
  refine cb.mono ?_
  rintro e w4 ⟨rfl, hb4⟩
  replace HS := Lib.hid (HS.out.later hb4)
  clear hb4 cb y0 y1 y2 z_0 z_1 z_2 z_3 z_4 z_5 z_6
  go_wp2_with fail
  go_ret
  exact ⟨by rw [← HF.out]; rfl, HS.out.2.2⟩
set_option maxRecDepth 100000 in
set_option maxHeartbeats 4000000 in
theorem rIns_n6 (m : LMod) (op rg ty nn : Int) (ap tp : Option Addr) (al tl ac tc : Nat) (rs : List Arg) (ts : List Int) (W : World) (ho : 0 ≤ op ∧ op ≤ 34) (hr : rg < 0)
    (hb : ∀ w, Below W.heap.size W w → Calls Tryz.prog 82 #[.agg (modC m).toArray, .agg #[.int .i64 op, .int .i64 rg, .int .i64 ty, .int .i64 nn, .int .i64 6, .slice ap al ac, .slice tp tl tc]] w (StrV (mkS (behindT (modD m) ⟨op, rg, ty, nn, 6, rs, ts⟩)) w)) (hs : (mkS (behindT (modD m) ⟨op, rg, ty, nn, 6, rs, ts⟩)).size ≤ 4398046511104) :
    Calls Tryz.prog 40 #[.agg (modC m).toArray, .agg #[.int .i64 op, .int .i64 rg, .int .i64 ty, .int .i64 nn, .int .i64 6, .slice ap al ac, .slice tp tl tc]] W (StrV (mkS (insT (modD m) ⟨op, rg, ty, nn, 6, rs, ts⟩)) W) := by
  have c0 := rName_any op ho
  have z0 := op_size op
  have HF : Hid (⟨#[]⟩ ++ mkS (opT op) ++ ⟨#[32, 110, 117, 119]⟩ ++ ⟨#[32, 101, 120, 97, 99, 116]⟩ ++ mkS (behindT (modD m) ⟨op, rg, ty, nn, 6, rs, ts⟩) = mkS (insT (modD m) ⟨op, rg, ty, nn, 6, rs, ts⟩)) := Lib.hid (by
    simp only [mkS_lit, mkS_app]
    congr 1
    unfold insT
    simp only
    rw [if_neg (by omega)]
    simp [flagsT])
  have HS := Lib.hid (IS.new W (modC m) [.int .i64 op, .int .i64 rg, .int .i64 ty, .int .i64 nn, .int .i64 6, .slice ap al ac, .slice tp tl tc] 26 39)
  obtain ⟨T, eT⟩ : ∃ T, mkS (insT (modD m) ⟨op, rg, ty, nn, 6, rs, ts⟩) = T := ⟨_, rfl⟩
  obtain ⟨v, ev⟩ : ∃ t, mkS (behindT (modD m) ⟨op, rg, ty, nn, 6, rs, ts⟩) = t := ⟨_, rfl⟩
  obtain ⟨o, eo⟩ : ∃ t, mkS (opT op) = t := ⟨_, rfl⟩
  rw [eT] at HF ⊢
  rw [ev, eo] at HF
  rw [ev] at hs
  rw [eo] at z0
  simp only [ev] at hb
  simp only [eo] at c0
  have HV := Lib.hid (And.intro hb c0)
  clear eT ev eo hb c0 ho
  obtain ⟨vp, vn, vc, vs, xp, xn, xc, xs, fp, fn, fc, fs⟩ := m
  have HS : Hid (IS W [.slice vp vn vc, .slice xp xn xc, .slice fp fn fc] [.int .i64 op, .int .i64 rg, .int .i64 ty, .int .i64 nn, .int .i64 6, .slice ap al ac, .slice tp tl tc] ((W.alloc (.cells #[.slice vp vn vc, .slice xp xn xc, .slice fp fn fc] 26)).alloc (.cells #[.int .i64 op, .int .i64 rg, .int .i64 ty, .int .i64 nn, .int .i64 6, .slice ap al ac, .slice tp tl tc] 39))) := HS
  show Calls Tryz.prog 40 #[.agg #[.slice vp vn vc, .slice xp xn xc, .slice fp fn fc], .agg #[.int .i64 op, .int .i64 rg, .int .i64 ty, .int .i64 nn, .int .i64 6, .slice ap al ac, .slice tp tl tc]] W _
  go_enter Tryz.func40, Tryz.ntmps40
  have d0 : decide ((0 : Int) ≤ rg) = false := by simp; omega
  go_wp2_with fail
  have c0 := HV.out.2 ((W.alloc (.cells #[.slice vp vn vc, .slice xp xn xc, .slice fp fn fc] 26)).alloc (.cells #[.int .i64 op, .int .i64 rg, .int .i64 ty, .int .i64 nn, .int .i64 6, .slice ap al ac, .slice tp tl tc] 39))
  refine c0.mono ?_
  rintro e w3 ⟨rfl, hb3⟩
  replace HS := Lib.hid (HS.out.later hb3)
  clear hb3 c0 
  obtain ⟨y0, y1, y2⟩ : w3.cell? ⟨W.heap.size, 0, none⟩ = some (.slice vp vn vc) ∧ w3.cell? ⟨W.heap.size, 1, none⟩ = some (.slice xp xn xc) ∧ w3.cell? ⟨W.heap.size, 2, none⟩ = some (.slice fp fn fc) := ⟨HS.out.1.get 0 _ rfl, HS.out.1.get 1 _ rfl, HS.out.1.get 2 _ rfl⟩
  have z_0 := HS.out.2.1.get 0 _ rfl
  have z_1 := HS.out.2.1.get 1 _ rfl
  have z_2 := HS.out.2.1.get 2 _ rfl
  have z_3 := HS.out.2.1.get 3 _ rfl
  have z_4 := HS.out.2.1.get 4 _ rfl
  have z_5 := HS.out.2.1.get 5 _ rfl
  have z_6 := HS.out.2.1.get 6 _ rfl
  have cb := HV.out.1 w3 HS.out.2.2
  go_wp2_with fail
  refine cb.mono ?_
  rintro e w4 ⟨rfl, hb4⟩
  replace HS := Lib.hid (HS.out.later hb4)
  clear hb4 cb y0 y1 y2 z_0 z_1 z_2 z_3 z_4 z_5 z_6
  go_wp2_with fail
  go_ret
  exact ⟨by rw [← HF.out]; rfl, HS.out.2.2⟩
set_option maxRecDepth 100000 in
set_option maxHeartbeats 4000000 in
theorem rIns_n7 (m : LMod) (op rg ty nn : Int) (ap tp : Option Addr) (al tl ac tc : Nat) (rs : List Arg) (ts : List Int) (W : World) (ho : 0 ≤ op ∧ op ≤ 34) (hr : rg < 0)
    (hb : ∀ w, Below W.heap.size W w → Calls Tryz.prog 82 #[.agg (modC m).toArray, .agg #[.int .i64 op, .int .i64 rg, .int .i64 ty, .int .i64 nn, .int .i64 7, .slice ap al ac, .slice tp tl tc]] w (StrV (mkS (behindT (modD m) ⟨op, rg, ty, nn, 7, rs, ts⟩)) w)) (hs : (mkS (behindT (modD m) ⟨op, rg, ty, nn, 7, rs, ts⟩)).size ≤ 4398046511104) :
    Calls Tryz.prog 40 #[.agg (modC m).toArray, .agg #[.int .i64 op, .int .i64 rg, .int .i64 ty, .int .i64 nn, .int .i64 7, .slice ap al ac, .slice tp tl tc]] W (StrV (mkS (insT (modD m) ⟨op, rg, ty, nn, 7, rs, ts⟩)) W) := by
  have c0 := rName_any op ho
  have z0 := op_size op
  have HF : Hid (⟨#[]⟩ ++ mkS (opT op) ++ ⟨#[32, 110, 115, 119]⟩ ++ ⟨#[32, 110, 117, 119]⟩ ++ ⟨#[32, 101, 120, 97, 99, 116]⟩ ++ mkS (behindT (modD m) ⟨op, rg, ty, nn, 7, rs, ts⟩) = mkS (insT (modD m) ⟨op, rg, ty, nn, 7, rs, ts⟩)) := Lib.hid (by
    simp only [mkS_lit, mkS_app]
    congr 1
    unfold insT
    simp only
    rw [if_neg (by omega)]
    simp [flagsT])
  have HS := Lib.hid (IS.new W (modC m) [.int .i64 op, .int .i64 rg, .int .i64 ty, .int .i64 nn, .int .i64 7, .slice ap al ac, .slice tp tl tc] 26 39)
  obtain ⟨T, eT⟩ : ∃ T, mkS (insT (modD m) ⟨op, rg, ty, nn, 7, rs, ts⟩) = T := ⟨_, rfl⟩
  obtain ⟨v, ev⟩ : ∃ t, mkS (behindT (modD m) ⟨op, rg, ty, nn, 7, rs, ts⟩) = t := ⟨_, rfl⟩
  obtain ⟨o, eo⟩ : ∃ t, mkS (opT op) = t := ⟨_, rfl⟩
  rw [eT] at HF ⊢
  rw [ev, eo] at HF
  rw [ev] at hs
  rw [eo] at z0
  simp only [ev] at hb
  simp only [eo] at c0
  have HV := Lib.hid (And.intro hb c0)
  clear eT ev eo hb c0 ho
  obtain ⟨vp, vn, vc, vs, xp, xn, xc, xs, fp, fn, fc, fs⟩ := m
  have HS : Hid (IS W [.slice vp vn vc, .slice xp xn xc, .slice fp fn fc] [.int .i64 op, .int .i64 rg, .int .i64 ty, .int .i64 nn, .int .i64 7, .slice ap al ac, .slice tp tl tc] ((W.alloc (.cells #[.slice vp vn vc, .slice xp xn xc, .slice fp fn fc] 26)).alloc (.cells #[.int .i64 op, .int .i64 rg, .int .i64 ty, .int .i64 nn, .int .i64 7, .slice ap al ac, .slice tp tl tc] 39))) := HS
  show Calls Tryz.prog 40 #[.agg #[.slice vp vn vc, .slice xp xn xc, .slice fp fn fc], .agg #[.int .i64 op, .int .i64 rg, .int .i64 ty, .int .i64 nn, .int .i64 7, .slice ap al ac, .slice tp tl tc]] W _
  go_enter Tryz.func40, Tryz.ntmps40
  have d0 : decide ((0 : Int) ≤ rg) = false := by simp; omega
  go_wp2_with fail
  have c0 := HV.out.2 ((W.alloc (.cells #[.slice vp vn vc, .slice xp xn xc, .slice fp fn fc] 26)).alloc (.cells #[.int .i64 op, .int .i64 rg, .int .i64 ty, .int .i64 nn, .int .i64 7, .slice ap al ac, .slice tp tl tc] 39))
  refine c0.mono ?_
  rintro e w3 ⟨rfl, hb3⟩
  replace HS := Lib.hid (HS.out.later hb3)
  clear hb3 c0 
  obtain ⟨y0, y1, y2⟩ : w3.cell? ⟨W.heap.size, 0, none⟩ = some (.slice vp vn vc) ∧ w3.cell? ⟨W.heap.size, 1, none⟩ = some (.slice xp xn xc) ∧ w3.cell? ⟨W.heap.size, 2, none⟩ = some (.slice fp fn fc) := ⟨HS.out.1.get 0 _ rfl, HS.out.1.get 1 _ rfl, HS.out.1.get 2 _ rfl⟩
  have z_0 := HS.out.2.1.get 0 _ rfl
  have z_1 := HS.out.2.1.get 1 _ rfl
  have z_2 := HS.out.2.1.get 2 _ rfl
  have z_3 := HS.out.2.1.get 3 _ rfl
  have z_4 := HS.out.2.1.get 4 _ rfl
  have z_5 := HS.out.2.1.get 5 _ rfl
  have z_6 := HS.out.2.1.get 6 _ rfl
  have cb := HV.out.1 w3 HS.out.2.2
  go_wp2_with fail
  refine cb.mono ?_
  rintro e w4 ⟨rfl, hb4⟩
  replace HS := Lib.hid (HS.out.later hb4)
  clear hb4 cb y0 y1 y2 z_0 z_1 z_2 z_3 z_4 z_5 z_6
  go_wp2_with fail
  go_ret
  exact ⟨by rw [← HF.out]; rfl, HS.out.2.2⟩
theorem rIns_any (m : LMod) (x : LI) (W : World) (hm : ModIn W.heap.size W m) (hk : LenOk (modD m)) (hx : InsIn W.heap.size W x) (hB : insB (modD m) (insD x) = true) (hw : insW (insD x)) (hz : insZ (insD x) ≤ 1048576) :
    Calls Tryz.prog 40 #[.agg (modC m).toArray, .agg (liC x).toArray] W (StrV (mkS (insT (modD m) (insD x))) W) := by
  have hb : ∀ w, Below W.heap.size W w → Calls Tryz.prog 82 #[.agg (modC m).toArray, .agg (liC x).toArray] w (StrV (mkS (behindT (modD m) (insD x))) w) := fun w hb =>
    rBehind_any m x w (lasts_Mod _ _ _ _ _ hb hb.size hm) hk (lasts_Ins _ _ _ _ _ hb hb.size hx) hB hw hz
  have hs : (mkS (behindT (modD m) (insD x))).size ≤ 4398046511104 := by
    rw [size_mkS]
    have h1 := behindT_len hk hB hw
    have h2 : ((insD x).args.length + (insD x).tg.length) * 1048700 ≤ 1048576 * 1048700 := Nat.mul_le_mul_right _ (by unfold insZ at hz; omega)
    omega
  have hr := insB_reg hB
  unfold insB at hB
  simp only [Bool.and_eq_true, decide_eq_true_eq] at hB
  obtain ⟨⟨⟨⟨⟨⟨⟨h1, -⟩, -⟩, -⟩, h5⟩, h6⟩, -⟩, -⟩ := hB
  obtain ⟨⟨op, rg, ty, nn, fl, ap, al, ac, tp, tl, tc, rs⟩, ts⟩ := x
  have e0 : insD (⟨op, rg, ty, nn, fl, ap, al, ac, tp, tl, tc, rs⟩, ts) = ⟨op, rg, ty, nn, fl, rs, ts⟩ := rfl
  rw [e0] at h1 h5 h6 hr hs ⊢
  simp only [e0] at hb
  simp only at h1 hr
  have ho : 0 ≤ op ∧ op ≤ 34 := by omega
  have hf : 0 ≤ fl ∧ fl ≤ 7 := by
    unfold flB at h5
    simp only at h5
    split at h5
    · have := of_decide_eq_true h5; omega
    · exact of_decide_eq_true h5
  have h8 : fl = 0 ∨ fl = 1 ∨ fl = 2 ∨ fl = 3 ∨ fl = 4 ∨ fl = 5 ∨ fl = 6 ∨ fl = 7 := by omega
  by_cases h0 : rg < 0
  · rcases h8 with rfl | rfl | rfl | rfl | rfl | rfl | rfl | rfl
    · exact rIns_n0 m op rg ty nn ap tp al tl ac tc rs ts W ho h0 hb hs
    · exact rIns_n1 m op rg ty nn ap tp al tl ac tc rs ts W ho h0 hb hs
    · exact rIns_n2 m op rg ty nn ap tp al tl ac tc rs ts W ho h0 hb hs
    · exact rIns_n3 m op rg ty nn ap tp al tl ac tc rs ts W ho h0 hb hs
    · exact rIns_n4 m op rg ty nn ap tp al tl ac tc rs ts W ho h0 hb hs
    · exact rIns_n5 m op rg ty nn ap tp al tl ac tc rs ts W ho h0 hb hs
    · exact rIns_n6 m op rg ty nn ap tp al tl ac tc rs ts W ho h0 hb hs
    · exact rIns_n7 m op rg ty nn ap tp al tl ac tc rs ts W ho h0 hb hs
  · obtain ⟨k, rfl⟩ : ∃ k : Nat, rg = k := ⟨rg.toNat, by omega⟩
    rcases h8 with rfl | rfl | rfl | rfl | rfl | rfl | rfl | rfl
    · exact rIns_p0 m op ty nn ap tp al tl ac tc rs ts W ho k (by omega) hb hs
    · exact rIns_p1 m op ty nn ap tp al tl ac tc rs ts W ho k (by omega) hb hs
    · exact rIns_p2 m op ty nn ap tp al tl ac tc rs ts W ho k (by omega) hb hs
    · exact rIns_p3 m op ty nn ap tp al tl ac tc rs ts W ho k (by omega) hb hs
    · exact rIns_p4 m op ty nn ap tp al tl ac tc rs ts W ho k (by omega) hb hs
    · exact rIns_p5 m op ty nn ap tp al tl ac tc rs ts W ho k (by omega) hb hs
    · exact rIns_p6 m op ty nn ap tp al tl ac tc rs ts W ho k (by omega) hb hs
    · exact rIns_p7 m op ty nn ap tp al tl ac tc rs ts W ho k (by omega) hb hs
end Go.Proofs.YtmampoakdjjbiaaGreatDoor
