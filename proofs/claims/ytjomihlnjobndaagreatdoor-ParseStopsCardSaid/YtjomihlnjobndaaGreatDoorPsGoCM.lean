/- A text behind another one: names are answered likewise; what is read of the first text stays. No program here. -/
import Derived.Test.YtjomihlnjobndaaGreatDoorPsGoBM
import Derived.Test.YtjomihlnjobndaaGreatDoorMg19
namespace Go.Proofs.YtjomihlnjobndaaGreatDoor
set_option linter.unusedVariables false
set_option linter.unusedSimpArgs false

theorem findVar_ext {m n : PMod} (h : Ext m n) {w : Tx} {k : Int} (e : findVarP m w = some k) : findVarP n w = some k := by
  obtain ⟨V, X, F, h1, h2, h3, h4⟩ := h
  unfold findVarP at e ⊢
  rw [h1, List.findIdx?_append]
  obtain ⟨i, hi, rfl⟩ := Option.map_eq_some_iff.1 e
  rw [hi]; rfl
theorem findCal_ext {m n : PMod} (h : Ext m n) {w : Tx} {k : Int} (e : findCalP m w = some k) : findCalP n w = some k ∧ calR n.xs n.fs k = calR m.xs m.fs k := by
  obtain ⟨V, X, F, h1, h2, h3, h4⟩ := h
  unfold findCalP at e ⊢
  cases hx : m.xs.findIdx? (fun x => byt x.nm == w) with
  | some i =>
    rw [hx] at e
    cases e
    rw [h2, List.findIdx?_append, hx]
    refine ⟨rfl, ?_⟩
    have hi := (List.findIdx?_eq_some_iff_getElem.1 hx).1
    unfold calR
    rw [if_neg (by omega), if_neg (by omega)]
    have e2 : (-1 - (-1 - (i : Int))).toNat = i := by omega
    rw [e2, List.getElem?_append_left hi]
  | none =>
    rw [hx] at e
    simp only at e
    obtain ⟨i, hi, rfl⟩ := Option.map_eq_some_iff.1 e
    obtain ⟨hl, hp, _⟩ := List.findIdx?_eq_some_iff_getElem.1 hi
    have hw : byt m.fs[i].nm = w := by simpa using hp
    have hX : X.findIdx? (fun x => byt x.nm == w) = none := by
      rw [List.findIdx?_eq_none_iff]
      intro x hx
      have := h4 x hx _ (List.getElem_mem hl)
      rw [hw] at this
      simpa using this
    rw [h2, List.findIdx?_append, hx, hX]
    refine ⟨?_, ?_⟩
    · simp only [Option.map_none, Option.or_none]
      rw [h3, List.findIdx?_append, hi]; rfl
    · unfold calR
      rw [if_pos (by omega), if_pos (by omega)]
      have e2 : ((i : Int)).toNat = i := by omega
      rw [e2, h3, List.getElem?_append_left hl]
theorem Each.same {α β : Type} {f g : α → Except Flt β} : ∀ {l : List α} {r r' : List β}, Each f l r → Each g l r' → (∀ a ∈ l, ∀ b b', f a = .ok b → g a = .ok b' → b = b') → r = r'
  | [], _, _, .nil, .nil, _ => rfl
  | a :: l, _, _, .cons h1 h2, .cons k1 k2, h => by
    rw [h a (List.mem_cons_self ..) _ _ h1 k1, Each.same h2 k2 fun x hx => h x (List.mem_cons_of_mem _ hx)]
theorem Each.front {α β : Type} {f : α → Except Flt β} : ∀ {l k : List α} {r : List β}, Each f (l ++ k) r → Each f l (r.take l.length) ∧ l.length ≤ r.length
  | [], k, r, h => ⟨by rw [List.length_nil, List.take_zero]; exact .nil, Nat.zero_le _⟩
  | a :: l, k, _, .cons h1 h2 => by
    obtain ⟨k1, k2⟩ := Each.front h2
    exact ⟨.cons h1 k1, Nat.succ_le_succ k2⟩
section
variable {en en' : Tok} {m n : PMod} {A B : List Tok} (hb : en.body = []) (hE : Ext m n) (hv : findVarP m [] = none) (hc : findCalP m [] = none)
theorem answer_two {find find' : Tx → Option Int} (hb : en.body = []) (h0 : find [] = none) (hf : ∀ w k, find w = some k → find' w = some k) {i k k' : Int} (e : answerP en A find i = .ok k) (e' : answerP en' (A ++ B) find' i = .ok k') : k = k' ∧ ∃ w, find w = some k := by
  unfold answerP at e e'
  simp only at e e'
  by_cases hi : i.toNat < A.length
  · have g1 : A.getD i.toNat en = A[i.toNat] := by rw [List.getD_eq_getElem?_getD, List.getElem?_eq_getElem hi]; rfl
    have g2 : (A ++ B).getD i.toNat en' = A[i.toNat] := by rw [List.getD_eq_getElem?_getD, List.getElem?_append_left hi, List.getElem?_eq_getElem hi]; rfl
    rw [g1] at e
    rw [g2] at e'
    cases hw : find A[i.toNat].body with
    | none => rw [hw] at e; cases e
    | some j =>
      rw [hw] at e
      rw [hf _ _ hw] at e'
      cases e; cases e'
      exact ⟨rfl, _, hw⟩
  · have g1 : A.getD i.toNat en = en := by rw [List.getD_eq_getElem?_getD, List.getElem?_eq_none (by omega)]; rfl
    rw [g1, hb, h0] at e
    cases e
include hb hE hv hc
omit hc in
theorem settleA_same {a b b' : Arg} (e : settleA en m A a = .ok b) (e' : settleA en' n (A ++ B) a = .ok b') : b = b' := by
  unfold settleA at e e'
  by_cases c : a.kind = 5
  · simp only [if_pos c] at e e'
    cases h1 : answerP en A (findVarP m) a.n with
    | error f => rw [h1] at e; cases e
    | ok k =>
      cases h2 : answerP en' (A ++ B) (findVarP n) a.n with
      | error f => rw [h2] at e'; cases e'
      | ok k' =>
        rw [h1] at e
        rw [h2] at e'
        obtain ⟨rfl, _⟩ := answer_two hb hv (fun w k h => findVar_ext hE h) h1 h2
        cases e; cases e'; rfl
  · simp only [if_neg c] at e e'
    cases e; cases e'; rfl
theorem settleI_same {x y y' : PIns} (e : settleI en m A x = .ok y) (e' : settleI en' n (A ++ B) x = .ok y') : y = y' := by
  unfold settleI at e e'
  have args : ∀ {l r r' : List Arg}, l.mapM (settleA en m A) = .ok r → l.mapM (settleA en' n (A ++ B)) = .ok r' → r = r' := fun h h' => (each_of h).same (each_of h') fun a _ b b' => settleA_same hb hE hv
  by_cases c : x.op = 30
  · simp only [if_pos c] at e e'
    cases h1 : answerP en A (findCalP m) x.n with
    | error f => rw [h1] at e; cases e
    | ok k =>
      cases h2 : answerP en' (A ++ B) (findCalP n) x.n with
      | error f => rw [h2] at e'; cases e'
      | ok k' =>
        rw [h1] at e
        rw [h2] at e'
        obtain ⟨rfl, w, hw⟩ := answer_two hb hc (fun w k h => (findCal_ext hE h).1) h1 h2
        have hr := (findCal_ext hE hw).2
        change (x.args.mapM (settleA en m A) >>= _) = _ at e
        change (x.args.mapM (settleA en' n (A ++ B)) >>= _) = _ at e'
        cases h3 : x.args.mapM (settleA en m A) with
        | error f => rw [h3] at e; cases e
        | ok r =>
          cases h4 : x.args.mapM (settleA en' n (A ++ B)) with
          | error f => rw [h4] at e'; cases e'
          | ok r' =>
            rw [h3] at e
            rw [h4] at e'
            obtain rfl := args h3 h4
            cases e; cases e'
            rw [hr]
  · simp only [if_neg c] at e e'
    change (x.args.mapM (settleA en m A) >>= _) = _ at e
    change (x.args.mapM (settleA en' n (A ++ B)) >>= _) = _ at e'
    cases h3 : x.args.mapM (settleA en m A) with
    | error f => rw [h3] at e; cases e
    | ok r =>
      cases h4 : x.args.mapM (settleA en' n (A ++ B)) with
      | error f => rw [h4] at e'; cases e'
      | ok r' =>
        rw [h3] at e
        rw [h4] at e'
        obtain rfl := args h3 h4
        cases e; cases e'; rfl
theorem settleF_same {f g g' : PFn} (e : settleF en m A f = .ok g) (e' : settleF en' n (A ++ B) f = .ok g') : g = g' := by
  unfold settleF at e e'
  cases h3 : f.bs.mapM (fun c : List PIns => c.mapM (settleI en m A)) with
  | error q => rw [h3] at e; cases e
  | ok r =>
    cases h4 : f.bs.mapM (fun c : List PIns => c.mapM (settleI en' n (A ++ B))) with
    | error q => rw [h4] at e'; cases e'
    | ok r' =>
      rw [h3] at e
      rw [h4] at e'
      have : r = r' := (each_of h3).same (each_of h4) fun c _ d d' k k' => (each_of k).same (each_of k') fun x _ y y' => settleI_same hb hE hv hc
      subst this
      cases e; cases e'; rfl
theorem settleM_same {p q : PMod} (e : settleM en m A = .ok p) (e' : settleM en' n (A ++ B) = .ok q) : p.vs.length ≤ q.vs.length ∧ q.vs.take p.vs.length = p.vs ∧ p.xs.length ≤ q.xs.length ∧ q.xs.take p.xs.length = p.xs ∧ p.fs.length ≤ q.fs.length ∧ q.fs.take p.fs.length = p.fs := by
  unfold settleM at e e'
  obtain ⟨V, X, F, h1, h2, h3, h4⟩ := id hE
  cases k3 : m.fs.mapM (settleF en m A) with
  | error x => rw [k3] at e; cases e
  | ok r =>
    cases k4 : n.fs.mapM (settleF en' n (A ++ B)) with
    | error x => rw [k4] at e'; cases e'
    | ok r' =>
      rw [k3] at e
      rw [k4] at e'
      cases e; cases e'
      have b1 := each_of k3
      have b2 := each_of k4
      rw [h3] at b2
      obtain ⟨b3, b4⟩ := b2.front
      have b5 : r = r'.take m.fs.length := b1.same b3 fun f _ g g' => settleF_same hb hE hv hc
      have b6 : r.length = m.fs.length := b1.len
      refine ⟨?_, ?_, ?_, ?_, ?_, ?_⟩
      · show m.vs.length ≤ n.vs.length; rw [h1, List.length_append]; omega
      · show n.vs.take m.vs.length = m.vs; rw [h1]; simp
      · show m.xs.length ≤ n.xs.length; rw [h2, List.length_append]; omega
      · show n.xs.take m.xs.length = m.xs; rw [h2]; simp
      · show r.length ≤ r'.length; omega
      · show r'.take r.length = r; rw [b6]; exact b5.symm
end
end Go.Proofs.YtjomihlnjobndaaGreatDoor
