/- Graphs as data: successors, the machine that visits blocks, what its order has. No program here. -/
import Derived.Test.YtphdhndljgihmaaBaseE
namespace Go.Proofs.Ytphdhndljgihmaa
open Go.RowKit Go.Maps
set_option linter.unusedVariables false
set_option linter.unusedSimpArgs false

def ints (l : List Nat) : List Int := l.map (fun k : Nat => (k : Int))
theorem ints_len (l : List Nat) : (ints l).length = l.length := List.length_map _
theorem ints_app (l m : List Nat) : ints (l ++ m) = ints l ++ ints m := List.map_append
theorem ints_get (l : List Nat) (i : Nat) (h : i < l.length) : (ints l)[i]'(by rw [ints_len]; exact h) = (l[i] : Int) := by unfold ints; rw [List.getElem_map]
theorem mem_ints (l : List Nat) (k : Nat) : ((k : Nat) : Int) ∈ ints l ↔ k ∈ l := by
  unfold ints
  rw [List.mem_map]
  constructor
  · rintro ⟨a, ha, e⟩
    obtain rfl : a = k := by omega
    exact ha
  · exact fun h => ⟨k, h, rfl⟩

def tgtP (c : List PIns) : List Int :=
  match c.getLast? with
  | none => []
  | some x => if x.op = 31 ∨ x.op = 32 then x.tg else []
def newT (n : Nat) (acc : List Nat) (t : Int) : List Nat := if 0 ≤ t ∧ t < (n : Int) ∧ t.toNat ∉ acc then acc ++ [t.toNat] else acc
def succL (n : Nat) (ts : List Int) : List Nat := ts.foldl (newT n) []
def succP (bs : List (List PIns)) (b : Nat) : List Nat := succL bs.length (tgtP (bs.getD b []))
def succI (bs : List (List PIns)) (b : Int) : List Nat := if 0 ≤ b then succP bs b.toNat else []
theorem succI_nat (bs : List (List PIns)) (b : Nat) : succI bs (b : Int) = succP bs b := by
  unfold succI
  rw [if_pos (by omega), Int.toNat_natCast]
theorem succI_out (bs : List (List PIns)) (b : Int) (h : ¬ (0 ≤ b ∧ b < (bs.length : Int))) : succI bs b = [] := by
  unfold succI
  by_cases h0 : 0 ≤ b
  · rw [if_pos h0]
    unfold succP
    rw [List.getD_eq_getElem?_getD, List.getElem?_eq_none (by omega)]
    rfl
  · rw [if_neg h0]
theorem newT_new {n : Nat} {acc : List Nat} {t : Int} (h : 0 ≤ t ∧ t < (n : Int) ∧ t.toNat ∉ acc) : newT n acc t = acc ++ [t.toNat] := if_pos h
theorem newT_old {n : Nat} {acc : List Nat} {t : Int} (h : ¬ (0 ≤ t ∧ t < (n : Int) ∧ t.toNat ∉ acc)) : newT n acc t = acc := if_neg h
theorem newT_len (n : Nat) (acc : List Nat) (t : Int) : (newT n acc t).length ≤ acc.length + 1 := by
  unfold newT; split <;> simp
theorem succL_nil (n : Nat) : succL n [] = [] := rfl
theorem succL_snoc (n : Nat) (ts : List Int) (t : Int) : succL n (ts ++ [t]) = newT n (succL n ts) t := by unfold succL; rw [List.foldl_append]; rfl
theorem succL_take (n : Nat) (ts : List Int) (i : Nat) (h : i < ts.length) : succL n (ts.take (i + 1)) = newT n (succL n (ts.take i)) ts[i] := by
  rw [List.take_succ_eq_append_getElem h, succL_snoc]
theorem fold_good (n : Nat) : ∀ (ts : List Int) (acc : List Nat), acc.Nodup → (∀ x ∈ acc, x < n) → (ts.foldl (newT n) acc).Nodup ∧ (∀ x ∈ ts.foldl (newT n) acc, x < n) ∧ (ts.foldl (newT n) acc).length ≤ acc.length + ts.length
  | [], acc, h1, h2 => ⟨h1, h2, Nat.le_refl _⟩
  | t :: ts, acc, h1, h2 => by
    have key : (newT n acc t).Nodup ∧ ∀ x ∈ newT n acc t, x < n := by
      by_cases h : 0 ≤ t ∧ t < (n : Int) ∧ t.toNat ∉ acc
      · rw [newT_new h]
        refine ⟨?_, fun x hx => ?_⟩
        · rw [List.nodup_append]
          exact ⟨h1, by simp, fun a ha b hb => by obtain rfl := List.mem_singleton.1 hb; exact fun e => h.2.2 (e ▸ ha)⟩
        · rcases List.mem_append.1 hx with hx | hx
          · exact h2 x hx
          · obtain rfl := List.mem_singleton.1 hx; omega
      · rw [newT_old h]; exact ⟨h1, h2⟩
    have h3 := fold_good n ts (newT n acc t) key.1 key.2
    have h4 := newT_len n acc t
    refine ⟨h3.1, h3.2.1, Nat.le_trans h3.2.2 (by simp only [List.length_cons]; omega)⟩
theorem succL_nodup (n : Nat) (ts : List Int) : (succL n ts).Nodup := (fold_good n ts [] List.nodup_nil (fun x h => absurd h (by simp))).1
theorem succL_lt (n : Nat) (ts : List Int) : ∀ x ∈ succL n ts, x < n := (fold_good n ts [] List.nodup_nil (fun x h => absurd h (by simp))).2.1
theorem succL_len (n : Nat) (ts : List Int) : (succL n ts).length ≤ ts.length := by
  have := (fold_good n ts [] List.nodup_nil (fun x h => absurd h (by simp))).2.2
  rw [List.length_nil, Nat.zero_add] at this
  exact this
theorem succP_nodup (bs : List (List PIns)) (b : Nat) : (succP bs b).Nodup := succL_nodup _ _
theorem succP_lt (bs : List (List PIns)) (b : Nat) : ∀ x ∈ succP bs b, x < bs.length := succL_lt _ _

/-! The machine that visits blocks. -/
structure DS where
  st : List (Nat × List Nat)
  out : List Nat
  md : List Nat
inductive Gst (S : Nat → List Nat) : DS → DS → Prop
  | pop (b u o m) : Gst S ⟨(b, []) :: u, o, m⟩ ⟨u, b :: o, m⟩
  | skip (b t l u o m) : t ∈ m → Gst S ⟨(b, t :: l) :: u, o, m⟩ ⟨(b, l) :: u, o, m⟩
  | push (b t l u o m) : t ∉ m → Gst S ⟨(b, t :: l) :: u, o, m⟩ ⟨(t, S t) :: (b, l) :: u, o, t :: m⟩
inductive Gsts (S : Nat → List Nat) : DS → DS → Prop
  | refl (a) : Gsts S a a
  | tail (a b c) : Gsts S a b → Gst S b c → Gsts S a c
theorem Gsts.trans {S : Nat → List Nat} {a b c : DS} (h : Gsts S a b) (k : Gsts S b c) : Gsts S a c := by
  induction k with
  | refl => exact h
  | tail x y _ s ih => exact Gsts.tail _ _ _ ih s
theorem Gst.det {S : Nat → List Nat} {a b c : DS} (h : Gst S a b) (k : Gst S a c) : b = c := by
  cases h <;> cases k <;> first | rfl | contradiction
theorem Gsts.head {S : Nat → List Nat} {a c : DS} (h : Gsts S a c) : a = c ∨ ∃ b, Gst S a b ∧ Gsts S b c := by
  induction h with
  | refl => exact .inl rfl
  | tail x y _ s ih =>
    rcases ih with rfl | ⟨b, h1, h2⟩
    · exact .inr ⟨_, s, Gsts.refl _⟩
    · exact .inr ⟨b, h1, Gsts.tail _ _ _ h2 s⟩
theorem Gsts.final {S : Nat → List Nat} {a b c : DS} (h : Gsts S a b) : Gsts S a c → b.st = [] → c.st = [] → b = c := by
  induction h with
  | refl =>
    intro k hb hc
    rcases k.head with e | ⟨y, s, _⟩
    · exact e
    · cases s <;> simp at hb
  | tail x y hx s ih =>
    intro k hb hc
    -- what comes of x by any way ends alike
    have key : ∀ {p q : DS}, Gsts S p q → q.st = [] → ∀ {r : DS}, Gsts S p r → Gsts S r q := by
      intro p q hpq hq r hpr
      induction hpr with
      | refl => exact hpq
      | tail u v _ s2 ih2 =>
        rcases ih2.head with e | ⟨z, s3, h3⟩
        · rw [e] at s2
          exfalso
          cases s2 <;> simp at hq
        · rw [s2.det s3]; exact h3
    rcases (key k hc (Gsts.tail _ _ _ hx s)).head with e | ⟨z, s3, _⟩
    · exact e
    · exfalso
      cases s3 <;> simp at hb

def pot (S : Nat → List Nat) (m : List Nat) : Nat → Nat
  | 0 => 0
  | k + 1 => pot S m k + (if k ∈ m then 0 else 1 + (S k).length)
theorem nodup_mid {a : Nat} {l m : List Nat} : (l ++ a :: m).Nodup ↔ (a :: (l ++ m)).Nodup := (List.perm_middle (a := a) (l₁ := l) (l₂ := m)).nodup_iff
theorem mem_far {k t : Nat} {m : List Nat} (h : k ≠ t) : k ∈ t :: m ↔ k ∈ m := by
  rw [List.mem_cons]
  exact ⟨fun x => x.elim (fun e => absurd e h) id, .inr⟩
theorem pot_far (S : Nat → List Nat) (m : List Nat) (t : Nat) : ∀ k, k ≤ t → pot S (t :: m) k = pot S m k
  | 0, _ => rfl
  | k + 1, h => by
    unfold pot
    rw [pot_far S m t k (by omega)]
    have : k ∈ t :: m ↔ k ∈ m := mem_far (by omega)
    simp only [this]
theorem pot_mark (S : Nat → List Nat) (m : List Nat) (t : Nat) (ht : t ∉ m) : ∀ k, t < k → pot S (t :: m) k + (1 + (S t).length) = pot S m k
  | 0, h => absurd h (Nat.not_lt_zero _)
  | k + 1, h => by
    unfold pot
    by_cases e : t = k
    · subst e
      rw [pot_far S m t t (Nat.le_refl _), if_pos (List.mem_cons_self ..), if_neg ht]
      omega
    · have := pot_mark S m t ht k (by omega)
      have hk : k ∈ t :: m ↔ k ∈ m := mem_far (fun h => e h.symm)
      simp only [hk]
      omega
def stZ (st : List (Nat × List Nat)) : Nat := (st.map fun x => 1 + x.2.length).sum
def mu (S : Nat → List Nat) (n : Nat) (d : DS) : Nat := stZ d.st + pot S d.md n
theorem Gst.lower {S : Nat → List Nat} {n : Nat} {a b : DS} (h : Gst S a b) (hn : ∀ x ∈ a.st, ∀ t ∈ x.2, t < n) : mu S n b < mu S n a := by
  cases h with
  | pop b u o m => simp [mu, stZ]
  | skip b t l u o m ht => simp [mu, stZ]
  | push b t l u o m ht =>
    have h1 := pot_mark S m t ht n (hn _ (List.mem_cons_self ..) t (List.mem_cons_self ..))
    simp [mu, stZ]; omega

inductive Rch (S : Nat → List Nat) : Nat → Prop
  | zero : Rch S 0
  | step (a t) : Rch S a → t ∈ S a → Rch S t
/-- Each but the last follows the next. -/
def Chain (S : Nat → List Nat) : List (Nat × List Nat) → Prop
  | [] => True
  | [x] => x.1 = 0
  | x :: y :: r => x.1 ∈ S y.1 ∧ Chain S (y :: r)
def Ahead (p x : Nat) (l : List Nat) : Prop := ∃ l1 l2, l = l1 ++ x :: l2 ∧ p ∈ l1
theorem Ahead.cons {p x : Nat} {l : List Nat} (h : Ahead p x l) (b : Nat) : Ahead p x (b :: l) := by
  obtain ⟨l1, l2, e, hp⟩ := h
  exact ⟨b :: l1, l2, by rw [e]; rfl, List.mem_cons_of_mem _ hp⟩
theorem Ahead.now {b x : Nat} {l : List Nat} (h : x ∈ l) : Ahead b x (b :: l) := by
  obtain ⟨l1, l2, e⟩ := List.append_of_mem h
  exact ⟨b :: l1, l2, by rw [e]; rfl, List.mem_cons_self ..⟩
structure Ginv (S : Nat → List Nat) (n : Nat) (d : DS) : Prop where
  nd : (d.out ++ d.st.map (·.1)).Nodup
  mks : ∀ x, x ∈ d.md ↔ x ∈ d.out ∨ x ∈ d.st.map (·.1)
  lt : ∀ x ∈ d.md, x < n
  done : ∀ x ∈ d.out, ∀ t ∈ S x, t ∈ d.md
  sub : ∀ x ∈ d.st, ∀ t ∈ x.2, t ∈ S x.1
  left : ∀ x ∈ d.st, ∀ t ∈ S x.1, t ∈ x.2 ∨ t ∈ d.md
  chain : Chain S d.st
  bot : d.st = [] → d.out.head? = some 0
  pred : ∀ x ∈ d.out, x = 0 ∨ ∃ p, x ∈ S p ∧ (p ∈ d.st.map (·.1) ∨ Ahead p x d.out)
  rch : ∀ x ∈ d.md, Rch S x
theorem Ginv.start (S : Nat → List Nat) (n : Nat) (h : 0 < n) : Ginv S n ⟨[(0, S 0)], [], [0]⟩ where
  nd := by simp
  mks := fun x => by simp
  lt := fun x hx => by simp at hx; omega
  done := fun x hx => by simp at hx
  sub := fun x hx t ht => by simp at hx; subst hx; exact ht
  left := fun x hx t ht => by simp at hx; subst hx; exact .inl ht
  chain := rfl
  bot := fun h => by simp at h
  pred := fun x hx => by simp at hx
  rch := fun x hx => by simp at hx; subst hx; exact Rch.zero
theorem Ginv.step {S : Nat → List Nat} {n : Nat} (hS : ∀ b, ∀ t ∈ S b, t < n) {a b : DS} (h : Ginv S n a) (s : Gst S a b) : Ginv S n b := by
  cases s with
  | pop b u o m =>
    obtain ⟨h1, h2, h3, h4, h5, h6, h7, h8, h9, h10⟩ := h
    simp only [List.map_cons] at h1 h2 h4 h5 h6 h9
    have hu : Chain S u := by
      cases u with
      | nil => trivial
      | cons y r => exact h7.2
    refine ⟨?_, fun x => ?_, h3, fun x hx t ht => ?_, fun x hx => h5 x (List.mem_cons_of_mem _ hx), fun x hx => h6 x (List.mem_cons_of_mem _ hx), hu, fun e => ?_, fun x hx => ?_, h10⟩
    · rw [List.cons_append]
      exact nodup_mid.1 h1
    · rw [h2 x]; simp only [List.mem_cons]
      constructor
      · rintro (h | h | h)
        · exact .inl (.inr h)
        · exact .inl (.inl h)
        · exact .inr h
      · rintro ((h | h) | h)
        · exact .inr (.inl h)
        · exact .inl h
        · exact .inr (.inr h)
    · rcases List.mem_cons.1 hx with rfl | hx
      · rcases h6 _ (List.mem_cons_self ..) t ht with h | h
        · simp at h
        · exact h
      · exact h4 x hx t ht
    · subst e
      have : b = 0 := h7
      rw [this]; rfl
    · rcases List.mem_cons.1 hx with rfl | hx
      · cases u with
        | nil => exact .inl h7
        | cons y r => exact .inr ⟨y.1, h7.1, .inl (by simp)⟩
      · rcases h9 x hx with e | ⟨p, hp, hq⟩
        · exact .inl e
        · refine .inr ⟨p, hp, ?_⟩
          rcases hq with hq | hq
          · rcases List.mem_cons.1 hq with e | hq
            · rw [e]; exact .inr (Ahead.now hx)
            · exact .inl hq
          · exact .inr (hq.cons b)
  | skip b t l u o m ht =>
    obtain ⟨h1, h2, h3, h4, h5, h6, h7, h8, h9, h10⟩ := h
    refine ⟨h1, h2, h3, h4, fun x hx => ?_, fun x hx => ?_, ?_, fun e => by simp at e, h9, h10⟩
    · rcases List.mem_cons.1 hx with rfl | hx
      · exact fun t' h' => h5 _ (List.mem_cons_self ..) t' (List.mem_cons_of_mem _ h')
      · exact h5 x (List.mem_cons_of_mem _ hx)
    · rcases List.mem_cons.1 hx with rfl | hx
      · intro t' h'
        rcases h6 _ (List.mem_cons_self ..) t' h' with h | h
        · rcases List.mem_cons.1 h with rfl | h
          · exact .inr ht
          · exact .inl h
        · exact .inr h
      · exact h6 x (List.mem_cons_of_mem _ hx)
    · cases u with
      | nil => exact h7
      | cons y r => exact h7
  | push b t l u o m ht =>
    obtain ⟨h1, h2, h3, h4, h5, h6, h7, h8, h9, h10⟩ := h
    have htS : t ∈ S b := h5 _ (List.mem_cons_self ..) t (List.mem_cons_self ..)
    have hbm : b ∈ m := (h2 b).2 (.inr (by simp))
    refine ⟨?_, fun x => ?_, fun x hx => ?_, fun x hx t' h' => List.mem_cons_of_mem _ (h4 x hx t' h'), fun x hx => ?_, fun x hx => ?_, ?_, fun e => by simp at e, fun x hx => ?_, fun x hx => ?_⟩
    · have h0 : t ∉ o ++ (b :: u.map (·.1)) := fun h => ht ((h2 t).2 (by simpa using h))
      simp only [List.map_cons]
      rw [nodup_mid, List.nodup_cons]
      exact ⟨h0, h1⟩
    · have := h2 x
      simp only [List.map_cons, List.mem_cons] at this ⊢
      rw [this]
      constructor
      · rintro (h | h | h | h)
        · exact .inr (.inl h)
        · exact .inl h
        · exact .inr (.inr (.inl h))
        · exact .inr (.inr (.inr h))
      · rintro (h | h | h | h)
        · exact .inr (.inl h)
        · exact .inl h
        · exact .inr (.inr (.inl h))
        · exact .inr (.inr (.inr h))
    · rcases List.mem_cons.1 hx with rfl | hx
      · exact hS b x htS
      · exact h3 x hx
    · rcases List.mem_cons.1 hx with rfl | hx
      · exact fun _ h => h
      · rcases List.mem_cons.1 hx with rfl | hx
        · exact fun t' h' => h5 _ (List.mem_cons_self ..) t' (List.mem_cons_of_mem _ h')
        · exact h5 x (List.mem_cons_of_mem _ hx)
    · rcases List.mem_cons.1 hx with rfl | hx
      · exact fun _ h => .inl h
      · rcases List.mem_cons.1 hx with rfl | hx
        · intro t' h'
          rcases h6 _ (List.mem_cons_self ..) t' h' with h | h
          · rcases List.mem_cons.1 h with rfl | h
            · exact .inr (List.mem_cons_self ..)
            · exact .inl h
          · exact .inr (List.mem_cons_of_mem _ h)
        · intro t' h'
          rcases h6 x (List.mem_cons_of_mem _ hx) t' h' with h | h
          · exact .inl h
          · exact .inr (List.mem_cons_of_mem _ h)
    · refine ⟨htS, ?_⟩
      cases u with
      | nil => exact h7
      | cons y r => exact h7
    · rcases h9 x hx with e | ⟨p, hp, hq⟩
      · exact .inl e
      · refine .inr ⟨p, hp, ?_⟩
        rcases hq with hq | hq
        · exact .inl (by simp only [List.map_cons] at hq ⊢; exact List.mem_cons_of_mem _ hq)
        · exact .inr hq
    · rcases List.mem_cons.1 hx with rfl | hx
      · exact Rch.step b _ (h10 b hbm) htS
      · exact h10 x hx
theorem Ginv.steps {S : Nat → List Nat} {n : Nat} (hS : ∀ b, ∀ t ∈ S b, t < n) {a b : DS} (h : Ginv S n a) (s : Gsts S a b) : Ginv S n b := by
  induction s with
  | refl => exact h
  | tail x y _ s ih => exact ih.step hS s
/-- The order of a function of n blocks. -/
def OrderIs (S : Nat → List Nat) (n : Nat) (L : List Nat) : Prop := (n = 0 ∧ L = []) ∨ (0 < n ∧ ∃ mk, Gsts S ⟨[(0, S 0)], [], [0]⟩ ⟨[], L, mk⟩)
theorem OrderIs.unique {S : Nat → List Nat} {n : Nat} {L L' : List Nat} (h : OrderIs S n L) (k : OrderIs S n L') : L = L' := by
  rcases h with ⟨h0, rfl⟩ | ⟨h0, mk, h⟩
  · rcases k with ⟨_, rfl⟩ | ⟨k0, _⟩
    · rfl
    · omega
  · rcases k with ⟨k0, _⟩ | ⟨_, mk', k⟩
    · omega
    · exact congrArg DS.out (h.final k rfl rfl)
structure Ordered (S : Nat → List Nat) (n : Nat) (L : List Nat) : Prop where
  nd : L.Nodup
  lt : ∀ x ∈ L, x < n
  done : ∀ x ∈ L, ∀ t ∈ S x, t ∈ L
  bot : 0 < n → L.head? = some 0
  pred : ∀ x ∈ L, x = 0 ∨ ∃ p, x ∈ S p ∧ Ahead p x L
  rch : ∀ x, 0 < n → (x ∈ L ↔ Rch S x)
theorem OrderIs.ordered {S : Nat → List Nat} {n : Nat} (hS : ∀ b, ∀ t ∈ S b, t < n) {L : List Nat} (h : OrderIs S n L) : Ordered S n L := by
  rcases h with ⟨rfl, rfl⟩ | ⟨h0, mk, h⟩
  · exact ⟨List.nodup_nil, fun x hx => by simp at hx, fun x hx => by simp at hx, fun h => absurd h (Nat.lt_irrefl _), fun x hx => by simp at hx, fun x h => absurd h (Nat.lt_irrefl _)⟩
  · obtain ⟨h1, h2, h3, h4, h5, h6, h7, h8, h9, h10⟩ := (Ginv.start S n h0).steps hS h
    simp only [List.map_nil, List.append_nil, List.not_mem_nil, or_false, false_or] at h1 h2 h3 h4 h8 h9 h10
    have hb := h8 trivial
    refine ⟨h1, fun x hx => h3 x ((h2 x).2 hx), fun x hx t ht => (h2 t).1 (h4 x hx t ht), fun _ => hb, h9, fun x _ => ⟨fun hx => h10 x ((h2 x).2 hx), fun hx => ?_⟩⟩
    induction hx with
    | zero =>
      cases L with
      | nil => simp at hb
      | cons y r => simp at hb; subst hb; exact List.mem_cons_self ..
    | step a t _ ht ih => exact (h2 t).1 (h4 a ih t ht)
end Go.Proofs.Ytphdhndljgihmaa
