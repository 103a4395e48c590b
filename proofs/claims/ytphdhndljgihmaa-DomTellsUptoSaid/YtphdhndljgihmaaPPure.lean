/- Blocks changed about: as data. -/
import Derived.Test.YtphdhndljgihmaaGPairs
namespace Go.Proofs.Ytphdhndljgihmaa
open Go.RowKit Go.Maps
set_option linter.unusedVariables false
set_option linter.unusedSimpArgs false

def mvI (a b : Nat) (x : Int) : Int := if x = (a : Int) then (b : Int) else if x = (b : Int) then (a : Int) else x
def mvN (a b x : Nat) : Nat := if x = a then b else if x = b then a else x
theorem mvI_nat (a b x : Nat) : mvI a b (x : Int) = (mvN a b x : Nat) := by
  unfold mvI mvN
  by_cases h1 : x = a
  · subst h1; simp
  · by_cases h2 : x = b
    · subst h2; rw [if_neg (by omega), if_pos rfl, if_neg h1, if_pos rfl]
    · rw [if_neg (by omega), if_neg (by omega), if_neg h1, if_neg h2]
theorem mvN_mvN (a b x : Nat) : mvN a b (mvN a b x) = x := by
  unfold mvN
  by_cases h1 : x = a
  · subst h1
    rw [if_pos rfl]
    by_cases h3 : b = x
    · rw [if_pos h3]; exact h3
    · rw [if_neg h3, if_pos rfl]
  · by_cases h2 : x = b
    · subst h2; rw [if_neg h1, if_pos rfl, if_pos rfl]
    · rw [if_neg h1, if_neg h2, if_neg h1, if_neg h2]
theorem mvN_inj {a b x y : Nat} (h : mvN a b x = mvN a b y) : x = y := by rw [← mvN_mvN a b x, h, mvN_mvN]
theorem mvN_lt {a b n x : Nat} (ha : a < n) (hb : b < n) : mvN a b x < n ↔ x < n := by
  unfold mvN
  by_cases h1 : x = a
  · rw [if_pos h1]; omega
  · rw [if_neg h1]
    by_cases h2 : x = b
    · rw [if_pos h2]; omega
    · rw [if_neg h2]
theorem mvN_zero {a b : Nat} (ha : 0 < a) (hb : 0 < b) : mvN a b 0 = 0 := by
  unfold mvN; rw [if_neg (by omega), if_neg (by omega)]
theorem mem_mv {a b x : Nat} {l : List Nat} : mvN a b x ∈ l.map (mvN a b) ↔ x ∈ l := by
  rw [List.mem_map]
  exact ⟨fun ⟨y, hy, e⟩ => mvN_inj e ▸ hy, fun h => ⟨x, h, rfl⟩⟩
theorem newT_mv {a b n : Nat} (ha : a < n) (hb : b < n) (acc : List Nat) (t : Int) : newT n (acc.map (mvN a b)) (mvI a b t) = (newT n acc t).map (mvN a b) := by
  by_cases h0 : 0 ≤ t
  · obtain ⟨x, rfl⟩ := Int.eq_ofNat_of_zero_le h0
    rw [mvI_nat]
    by_cases h : x < n ∧ x ∉ acc
    · have h1 := (mvN_lt (x := x) ha hb).2 h.1
      rw [newT_new ⟨by omega, by omega, by rw [Int.toNat_natCast, mem_mv]; exact h.2⟩, newT_new ⟨by omega, by omega, by rw [Int.toNat_natCast]; exact h.2⟩, List.map_append]
      simp
    · have h1 := mvN_lt (x := x) ha hb
      rw [newT_old (fun k => h ⟨h1.1 (by omega), fun hm => k.2.2 (by rw [Int.toNat_natCast, mem_mv]; exact hm)⟩), newT_old (fun k => h ⟨by omega, fun hm => k.2.2 (by rw [Int.toNat_natCast]; exact hm)⟩)]
  · have e : mvI a b t = t := by unfold mvI; rw [if_neg (by omega), if_neg (by omega)]
    rw [e, newT_old (fun k => h0 k.1), newT_old (fun k => h0 k.1)]
theorem fold_mv {a b n : Nat} (ha : a < n) (hb : b < n) : ∀ (ts : List Int) (acc : List Nat), (ts.map (mvI a b)).foldl (newT n) (acc.map (mvN a b)) = (ts.foldl (newT n) acc).map (mvN a b)
  | [], acc => rfl
  | t :: ts, acc => by
    rw [List.map_cons, List.foldl_cons, List.foldl_cons, newT_mv ha hb, fold_mv ha hb ts]
theorem succL_mv {a b n : Nat} (ha : a < n) (hb : b < n) (ts : List Int) : succL n (ts.map (mvI a b)) = (succL n ts).map (mvN a b) := fold_mv ha hb ts []
def pI (a b : Nat) (x : PIns) : PIns := { x with tg := x.tg.map (mvI a b) }
theorem tgtP_mv (a b : Nat) (c : List PIns) : tgtP (c.map (pI a b)) = (tgtP c).map (mvI a b) := by
  unfold tgtP
  rw [List.getLast?_map]
  cases c.getLast? with
  | none => rfl
  | some x =>
    simp only [Option.map_some]
    show (if x.op = 31 ∨ x.op = 32 then x.tg.map (mvI a b) else []) = _
    split <;> rfl
/-- One function's blocks are the other's, changed about. -/
structure Perm (a b : Nat) (bs bs' : List (List PIns)) : Prop where
  len : bs'.length = bs.length
  get : ∀ i, i < bs.length → bs'.getD (mvN a b i) [] = (bs.getD i []).map (pI a b)
theorem Perm.succ {a b : Nat} {bs bs' : List (List PIns)} (h : Perm a b bs bs') (ha : a < bs.length) (hb : b < bs.length) (x : Nat) : succP bs' (mvN a b x) = (succP bs x).map (mvN a b) := by
  unfold succP
  by_cases hx : x < bs.length
  · rw [h.get x hx, h.len, tgtP_mv, succL_mv ha hb]
  · have h1 : ¬ mvN a b x < bs'.length := fun k => hx ((mvN_lt ha hb).1 (by rw [← h.len]; exact k))
    rw [List.getD_eq_getElem?_getD, List.getD_eq_getElem?_getD, List.getElem?_eq_none (by omega), List.getElem?_eq_none (by omega)]
    rfl
def mvD (a b : Nat) (d : DS) : DS := ⟨d.st.map fun x => (mvN a b x.1, x.2.map (mvN a b)), d.out.map (mvN a b), d.md.map (mvN a b)⟩
theorem gst_mv {a b : Nat} {S S' : Nat → List Nat} (hS : ∀ x, S' (mvN a b x) = (S x).map (mvN a b)) {d e : DS} (h : Gst S d e) : Gst S' (mvD a b d) (mvD a b e) := by
  cases h with
  | pop c u o m => exact Gst.pop _ _ _ _
  | skip c t l u o m ht => exact Gst.skip _ _ _ _ _ _ (mem_mv.2 ht)
  | push c t l u o m ht =>
    have h1 := Gst.push (S := S') (mvN a b c) (mvN a b t) (l.map (mvN a b)) (u.map fun x => (mvN a b x.1, x.2.map (mvN a b))) (o.map (mvN a b)) (m.map (mvN a b)) (fun k => ht (mem_mv.1 k))
    rw [hS] at h1
    exact h1
theorem gsts_mv {a b : Nat} {S S' : Nat → List Nat} (hS : ∀ x, S' (mvN a b x) = (S x).map (mvN a b)) {d e : DS} (h : Gsts S d e) : Gsts S' (mvD a b d) (mvD a b e) := by
  induction h with
  | refl => exact Gsts.refl _
  | tail x y _ s ih => exact Gsts.tail _ _ _ ih (gst_mv hS s)
theorem order_mv {a b n : Nat} {S S' : Nat → List Nat} (hS : ∀ x, S' (mvN a b x) = (S x).map (mvN a b)) (ha : 0 < a) (hb : 0 < b) {L : List Nat} (h : OrderIs S n L) : OrderIs S' n (L.map (mvN a b)) := by
  rcases h with ⟨h0, rfl⟩ | ⟨h0, mk, h⟩
  · exact .inl ⟨h0, rfl⟩
  · have h1 := gsts_mv hS h
    have e0 := mvN_zero (a := a) (b := b) ha hb
    have e1 : mvD a b ⟨[(0, S 0)], [], [0]⟩ = ⟨[(0, S' 0)], [], [0]⟩ := by
      unfold mvD
      simp only [List.map_cons, List.map_nil, e0]
      rw [← hS 0, e0]
    rw [e1] at h1
    exact .inr ⟨h0, mk.map (mvN a b), h1⟩
/-- Numbers of a list, those ahead of a place moved. -/
def tlv (a b : Nat) (ts : List Int) (j : Nat) : List Int := ts.mapIdx fun i t => if i < j then mvI a b t else t
theorem tlv_len (a b : Nat) (ts : List Int) (j : Nat) : (tlv a b ts j).length = ts.length := by simp [tlv]
theorem tlv_0 (a b : Nat) (ts : List Int) : tlv a b ts 0 = ts := by
  unfold tlv
  apply List.ext_getElem?
  intro i
  rw [List.getElem?_mapIdx]
  cases ts[i]? <;> simp
theorem tlv_all (a b : Nat) (ts : List Int) : tlv a b ts ts.length = ts.map (mvI a b) := by
  unfold tlv
  apply List.ext_getElem?
  intro i
  rw [List.getElem?_mapIdx, List.getElem?_map]
  cases h : ts[i]? with
  | none => rfl
  | some t =>
    have := (List.getElem?_eq_some_iff.1 h).1
    simp [this]
theorem tlv_get (a b : Nat) (ts : List Int) (j : Nat) (h : j < ts.length) : (tlv a b ts j)[j]'(by rw [tlv_len]; exact h) = ts[j] := by simp [tlv]
theorem tlv_succ (a b : Nat) (ts : List Int) (j : Nat) (h : j < ts.length) : tlv a b ts (j + 1) = (tlv a b ts j).set j (mvI a b ts[j]) := by
  apply List.ext_getElem?
  intro i
  rw [List.getElem?_set, tlv_len]
  unfold tlv
  rw [List.getElem?_mapIdx, List.getElem?_mapIdx]
  by_cases e : j = i
  · subst e
    rw [if_pos rfl, if_pos h, List.getElem?_eq_getElem h]
    simp
  · rw [if_neg e]
    cases ts[i]? with
    | none => rfl
    | some t =>
      simp only [Option.map_some]
      congr 1
      by_cases h2 : i < j
      · rw [if_pos (by omega), if_pos h2]
      · rw [if_neg (by omega), if_neg h2]
set_option maxRecDepth 100000 in
theorem Moved_any (x : Int) (a b : Nat) (W : World) : Calls Try.prog 29 #[.int .i64 x, .int .i64 a, .int .i64 b] W fun e w' => e = .returned (.int .i64 (mvI a b x)) ∧ W = w' := by
  go_enter Try.func29, Try.ntmps29
  by_cases h1 : x = (a : Int)
  · have hd : (x == (a : Int)) = true := by simp [h1]
    have e : mvI a b x = b := if_pos h1
    rw [e]
    clear h1 e
    go_wp2_with fail
    go_ret
    exact ⟨rfl, rfl⟩
  · have hd : (x == (a : Int)) = false := by simpa using h1
    by_cases h2 : x = (b : Int)
    · have hd2 : (x == (b : Int)) = true := by simp [h2]
      have e : mvI a b x = a := by unfold mvI; rw [if_neg h1, if_pos h2]
      rw [e]
      clear h1 h2 e
      go_wp2_with fail
      go_ret
      exact ⟨rfl, rfl⟩
    · have hd2 : (x == (b : Int)) = false := by simpa using h2
      have e : mvI a b x = x := by unfold mvI; rw [if_neg h1, if_neg h2]
      rw [e]
      clear h1 h2 e
      go_wp2_with fail
      go_ret
      exact ⟨rfl, rfl⟩
end Go.Proofs.Ytphdhndljgihmaa
