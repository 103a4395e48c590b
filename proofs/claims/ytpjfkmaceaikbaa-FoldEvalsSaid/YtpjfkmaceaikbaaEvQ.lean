/- Package eval: better values make a better value; flags; the order. -/
import Derived.Test.YtpjfkmaceaikbaaEvP
import Derived.Test.YtpjfkmaceaikbaaEvF
namespace Go.Proofs.Ytpjfkmaceaikbaa
open Go.RowKit Go.Maps
set_option linter.unusedVariables false
set_option linter.unusedSimpArgs false

theorem betE_iff {a b : EV} : betE a b = true ↔ a = .poi ∨ (a = .any ∧ b ≠ .poi) ∨ a = b := by
  cases a <;> cases b <;> simp [betE, eqE]
theorem betE_np {a b : EV} (h : betE a b = true) (hn : a ≠ .poi) : b ≠ .poi := by
  rcases betE_iff.1 h with e | ⟨_, e⟩ | e
  · exact absurd e hn
  · exact e
  · rw [← e]; exact hn
theorem betE_any {b : EV} (h : b ≠ .poi) : betE .any b = true := betE_iff.2 (.inr (.inl ⟨rfl, h⟩))
theorem betE_poi (b : EV) : betE .poi b = true := betE_iff.2 (.inl rfl)
/-- What was defined stays defined, or nobody says; what comes of it is better. -/
def Cmp (r r' : EV × Int) : Prop := r.2 = 0 → r'.2 = 4 ∨ (r'.2 = 0 ∧ betE r.1 r'.1 = true)
theorem Cmp.refl (r : EV × Int) : Cmp r r := fun h => .inr ⟨h, betE_refl _⟩
theorem aplE_0 (n : Nat) (op x y : Int) : aplE n op 0 x y = plE n op x y := by
  unfold aplE brB
  by_cases h : plE n op x y = 0 <;> simp [h]
theorem aplE_bit {n : Nat} {op fl x y : Int} (h : plE n op x y = 0) : aplE n op fl x y = 0 ∨ aplE n op fl x y = 1 := by
  unfold aplE
  rw [if_pos h]
  split
  · exact .inr rfl
  · exact .inl rfl
theorem app_end {op ty fl x y : Int} (h : plE ty.toNat op x y = 0) : (appE op ty fl x y).2 = 0 ∧ betE (unfE fl) (appE op ty fl x y).1 = true := by
  unfold appE unfE
  by_cases hf : fl = 0
  · subst hf
    rw [aplE_0, h]
    exact ⟨rfl, rfl⟩
  · rw [if_neg hf]
    rcases aplE_bit (fl := fl) h with e | e
    · rw [if_pos e]; exact ⟨rfl, rfl⟩
    · rw [if_neg (by rw [e]; decide), if_pos e]; exact ⟨rfl, rfl⟩
theorem join_poi {op ty fl : Int} {a b : EV} (h : a = .poi ∨ b = .poi) : joinE op ty fl a b = (.poi, 0) := by
  rcases h with rfl | rfl
  · rfl
  · cases a <;> rfl
theorem join_any {op ty fl : Int} {a b : EV} (ha : a ≠ .poi) (hb : b ≠ .poi) (h : a = .any ∨ b = .any) : joinE op ty fl a b = (unfE fl, 0) := by
  rcases h with rfl | rfl
  · cases b <;> first | rfl | exact absurd rfl hb
  · cases a <;> first | rfl | exact absurd rfl ha
theorem unf_unf (fl : Int) : betE (unfE fl) (unfE fl) = true := betE_refl _
theorem unf_np (fl : Int) {b : EV} (h : b ≠ .poi) : betE (unfE fl) b = true := by
  unfold unfE
  split
  · exact betE_any h
  · exact betE_poi b
theorem fit_mix {t x bk o : Int} (h : Fit t (.num x)) (h' : Fit t (.adr bk o)) : False := by
  have := Fit.num_in h
  have : t = 65 := h'
  omega
theorem join_end {op ty fl : Int} {a b : EV} (hz : ∀ x y, a = .num x → b = .num y → plE ty.toNat op x y = 0) : (joinE op ty fl a b).2 = 0 := by
  by_cases h : a = .poi ∨ b = .poi
  · rw [join_poi h]
  · have ha : a ≠ .poi := fun e => h (.inl e)
    have hb : b ≠ .poi := fun e => h (.inr e)
    by_cases h2 : a = .any ∨ b = .any
    · rw [join_any ha hb h2]
    · cases a with
      | poi => exact absurd rfl ha
      | any => exact absurd (.inl rfl) h2
      | num x =>
        cases b with
        | poi => exact absurd rfl hb
        | any => exact absurd (.inr rfl) h2
        | num y => exact (app_end (hz x y rfl rfl)).1
        | adr c d => rfl
      | adr c d =>
        cases b with
        | poi => exact absurd rfl hb
        | any => exact absurd (.inr rfl) h2
        | num y => rfl
        | adr c d => rfl
theorem join_unf {op ty fl : Int} {a b : EV} (fa : Fit ty a) (fb : Fit ty b) (ha : a ≠ .poi) (hb : b ≠ .poi) (hz : ∀ x y, a = .num x → b = .num y → plE ty.toNat op x y = 0) : betE (unfE fl) (joinE op ty fl a b).1 = true := by
  by_cases h2 : a = .any ∨ b = .any
  · rw [join_any ha hb h2]; exact unf_unf fl
  · cases a with
    | poi => exact absurd rfl ha
    | any => exact absurd (.inl rfl) h2
    | num x =>
      cases b with
      | poi => exact absurd rfl hb
      | any => exact absurd (.inr rfl) h2
      | num y => exact (app_end (hz x y rfl rfl)).2
      | adr c d => exact (fit_mix fa fb).elim
    | adr c d =>
      cases b with
      | poi => exact absurd rfl hb
      | any => exact absurd (.inr rfl) h2
      | num y => exact (fit_mix fb fa).elim
      | adr c d => exact unf_np fl (fun e => by cases e)
theorem join_mono {op ty fl : Int} {a a' b b' : EV} (fa' : Fit ty a') (fb' : Fit ty b') (ha : betE a a' = true) (hb : betE b b' = true)
    (hz : ∀ x y, a' = .num x → b' = .num y → (a ≠ a' ∨ b ≠ b') → plE ty.toNat op x y = 0) : Cmp (joinE op ty fl a b) (joinE op ty fl a' b') := by
  by_cases hs : a = a' ∧ b = b'
  · rw [hs.1, hs.2]; exact Cmp.refl _
  · have hd : a ≠ a' ∨ b ≠ b' := by
      by_cases h1 : a = a'
      · exact .inr fun h2 => hs ⟨h1, h2⟩
      · exact .inl h1
    have hz' : ∀ x y, a' = .num x → b' = .num y → plE ty.toNat op x y = 0 := fun x y e1 e2 => hz x y e1 e2 hd
    intro _
    refine .inr ⟨join_end hz', ?_⟩
    by_cases hp : a = .poi ∨ b = .poi
    · rw [join_poi hp]; exact betE_poi _
    · have na : a ≠ .poi := fun e => hp (.inl e)
      have nb : b ≠ .poi := fun e => hp (.inr e)
      have h2 : a = .any ∨ b = .any := by
        rcases betE_iff.1 ha with e | e | e
        · exact absurd e na
        · exact .inl e.1
        · rcases betE_iff.1 hb with e' | e' | e'
          · exact absurd e' nb
          · exact .inr e'.1
          · exact absurd ⟨e, e'⟩ hs
      rw [join_any na nb h2]
      exact join_unf fa' fb' (betE_np ha na) (betE_np hb nb) hz'
theorem betE_num {y : Int} {b : EV} (h : betE (.num y) b = true) : b = .num y := by
  rcases betE_iff.1 h with e | e | e
  · cases e
  · cases e.1
  · exact e.symm
theorem betE_adr {x y : Int} {b : EV} (h : betE (.adr x y) b = true) : b = .adr x y := by
  rcases betE_iff.1 h with e | e | e
  · cases e
  · cases e.1
  · exact e.symm
theorem div_mono {op ty fl : Int} {a a' b b' : EV} (ho : op = 4 ∨ op = 5 ∨ op = 6 ∨ op = 7) (fa' : Fit ty a') (fb' : Fit ty b') (ha : betE a a' = true) (hb : betE b b' = true) : Cmp (divE op ty fl a b) (divE op ty fl a' b') := by
  cases b with
  | poi => intro h; exact absurd (show (2 : Int) = 0 from h) (by decide)
  | any => intro h; exact absurd (show (4 : Int) = 0 from h) (by decide)
  | adr x y => intro h; exact absurd (show (2 : Int) = 0 from h) (by decide)
  | num y =>
    obtain rfl := betE_num hb
    have hy := Fit.num_in fb'
    have hm := msk_in hy.1 hy.2.1
    unfold divE
    by_cases h0 : y = 0
    · simp only [if_pos h0]; intro h; exact absurd (show (2 : Int) = 0 from h) (by decide)
    · simp only [if_neg h0]
      by_cases h1 : (op = 5 ∨ op = 7) ∧ y = msk ty
      · simp only [if_pos h1]
        cases a with
        | poi => intro h; exact absurd (show (2 : Int) = 0 from h) (by decide)
        | any => intro h; exact absurd (show (4 : Int) = 0 from h) (by decide)
        | num x => obtain rfl := betE_num ha; exact Cmp.refl _
        | adr x z => obtain rfl := betE_adr ha; exact Cmp.refl _
      · simp only [if_neg h1]
        refine join_mono fa' fb' ha hb fun x z e1 e2 _ => ?_
        injection e2 with e2
        subst e2
        unfold plE
        rw [← hm]
        rcases ho with rfl | rfl | rfl | rfl <;> simp [h0] <;> simp at h1 <;> simp [h1]
theorem shf_pl {op ty x y : Int} (ho : op = 11 ∨ op = 12 ∨ op = 13) (h1 : 1 ≤ ty) (h : ¬ ty ≤ y) : plE ty.toNat op x y = 0 := by
  have : ¬ ((ty.toNat : Nat) : Int) ≤ y := by omega
  unfold plE
  rw [if_neg (by omega), if_neg (by omega), if_pos ho, if_neg this]
theorem shf_end {op ty fl : Int} {a b : EV} (ho : op = 11 ∨ op = 12 ∨ op = 13) (h1 : 1 ≤ ty) : (shfE op ty fl a b).2 = 0 := by
  cases b with
  | poi => exact join_end fun x y _ e => by cases e
  | any => rfl
  | adr x y => exact join_end fun x y _ e => by cases e
  | num y =>
    unfold shfE
    by_cases h : ty ≤ y
    · simp only [if_pos h]
    · simp only [if_neg h]
      refine join_end fun x z _ e => ?_
      injection e with e
      subst e
      exact shf_pl ho h1 h
theorem shf_mono {op ty fl : Int} {a a' b b' : EV} (ho : op = 11 ∨ op = 12 ∨ op = 13) (h1 : 1 ≤ ty) (fa' : Fit ty a') (fb' : Fit ty b') (ha : betE a a' = true) (hb : betE b b' = true) : Cmp (shfE op ty fl a b) (shfE op ty fl a' b') := by
  cases b with
  | poi =>
    intro _
    refine .inr ⟨shf_end ho h1, ?_⟩
    show betE (joinE op ty fl a .poi).1 _ = true
    rw [join_poi (.inr rfl)]
    exact betE_poi _
  | any => intro _; exact .inr ⟨shf_end ho h1, betE_poi _⟩
  | adr x y =>
    obtain rfl := betE_adr hb
    exact join_mono fa' fb' ha hb fun x z _ e => by cases e
  | num y =>
    obtain rfl := betE_num hb
    unfold shfE
    by_cases h : ty ≤ y
    · simp only [if_pos h]; exact Cmp.refl _
    · simp only [if_neg h]
      refine join_mono fa' fb' ha hb fun x z _ e2 _ => ?_
      injection e2 with e2
      subst e2
      exact shf_pl ho h1 h
theorem cho_np {a b c : EV} (ha : a ≠ .poi) (hb : b ≠ .poi) (hc : c ≠ .poi) : choE a b c ≠ .poi := by
  unfold choE
  cases a with
  | poi => exact absurd rfl ha
  | num x => show (if x = 1 then b else c) ≠ .poi; split <;> assumption
  | _ =>
    show (if eqE b c = true then b else if eqE b .poi = true ∨ eqE c .poi = true then .poi else .any) ≠ .poi
    split
    · exact hb
    · split
      · rename_i h
        rcases h with h | h
        · exact absurd (eqE_iff.1 h) hb
        · exact absurd (eqE_iff.1 h) hc
      · intro e; cases e
theorem cho_mono {a a' b b' c c' : EV} (ha : betE a a' = true) (hb : betE b b' = true) (hc : betE c c' = true) : betE (choE a b c) (choE a' b' c') = true := by
  have gen : ∀ a : EV, betE a a' = true → a ≠ .poi → (∀ x, a ≠ .num x) → betE (if eqE b c = true then b else if eqE b .poi = true ∨ eqE c .poi = true then .poi else .any) (choE a' b' c') = true := fun a ha na nn => by
    have na' := betE_np ha na
    by_cases h1 : eqE b c = true
    · rw [if_pos h1]
      have := eqE_iff.1 h1
      subst this
      by_cases hp : b = .poi
      · subst hp; exact betE_poi _
      · rcases betE_iff.1 hb with e | e | e
        · exact absurd e hp
        · obtain ⟨rfl, e2⟩ := e
          exact betE_any (cho_np na' e2 (betE_np hc (fun e => by cases e)))
        · subst e
          rcases betE_iff.1 hc with e' | e' | e'
          · exact absurd e' hp
          · obtain ⟨rfl, e2⟩ := e'
            exact betE_any (cho_np na' (fun e => by cases e) e2)
          · subst e'
            have : choE a' b b = b := by
              unfold choE
              cases a' with
              | poi => exact absurd rfl na'
              | num x => show (if x = 1 then b else b) = b; split <;> rfl
              | _ => show (if eqE b b = true then b else _) = b; rw [if_pos (eqE_refl b)]
            rw [this]; exact betE_refl b
    · rw [if_neg h1]
      by_cases h2 : eqE b .poi = true ∨ eqE c .poi = true
      · rw [if_pos h2]; exact betE_poi _
      · rw [if_neg h2]
        have nb : b ≠ .poi := fun e => h2 (.inl (eqE_iff.2 e))
        have nc : c ≠ .poi := fun e => h2 (.inr (eqE_iff.2 e))
        exact betE_any (cho_np na' (betE_np hb nb) (betE_np hc nc))
  cases a with
  | poi => exact betE_poi _
  | num x =>
    obtain rfl := betE_num ha
    show betE (if x = 1 then b else c) (if x = 1 then b' else c') = true
    split <;> assumption
  | any => exact gen .any ha (fun e => by cases e) (fun x e => by cases e)
  | adr x y => exact gen (.adr x y) ha (fun e => by cases e) (fun x e => by cases e)
theorem fro_np (a : EV) : froE a ≠ .poi := by cases a <;> intro e <;> cases e
theorem fro_mono {a a' : EV} (ha : betE a a' = true) : betE (froE a) (froE a') = true := by
  cases a with
  | poi => exact betE_any (fro_np _)
  | any => exact betE_any (fro_np _)
  | num x => obtain rfl := betE_num ha; exact betE_refl _
  | adr x y => obtain rfl := betE_adr ha; exact betE_refl _
theorem mov_poi {a b : EV} (h : a = .poi ∨ b = .poi) : movE a b = .poi := by
  rcases h with rfl | rfl
  · rfl
  · cases a <;> rfl
theorem mov_any {a b : EV} (ha : a ≠ .poi) (hb : b ≠ .poi) (h : a = .any ∨ b = .any) (fa : Fit 65 a) : movE a b = .any := by
  rcases h with rfl | rfl
  · cases b <;> first | rfl | exact absurd rfl hb
  · cases a <;> first | rfl | exact absurd rfl ha
theorem mov_np {a b : EV} (ha : a ≠ .poi) (hb : b ≠ .poi) (fa : Fit 65 a) (fb : Fit 64 b) : movE a b ≠ .poi := by
  cases a with
  | poi => exact absurd rfl ha
  | any => rw [mov_any ha hb (.inl rfl) fa]; intro e; cases e
  | num x => have := Fit.num_in fa; omega
  | adr x y =>
    cases b with
    | poi => exact absurd rfl hb
    | any => intro e; cases e
    | num z => intro e; cases e
    | adr z u => exact absurd (show (64 : Int) = 65 from fb) (by decide)
theorem mov_mono {a a' b b' : EV} (fa : Fit 65 a) (fa' : Fit 65 a') (fb' : Fit 64 b') (ha : betE a a' = true) (hb : betE b b' = true) : betE (movE a b) (movE a' b') = true := by
  by_cases hp : a = .poi ∨ b = .poi
  · rw [mov_poi hp]; exact betE_poi _
  · have na : a ≠ .poi := fun e => hp (.inl e)
    have nb : b ≠ .poi := fun e => hp (.inr e)
    by_cases h2 : a = .any ∨ b = .any
    · rw [mov_any na nb h2 fa]; exact betE_any (mov_np (betE_np ha na) (betE_np hb nb) fa' fb')
    · have e1 : a = a' := by
        rcases betE_iff.1 ha with e | e | e
        · exact absurd e na
        · exact absurd (.inl e.1) h2
        · exact e
      have e2 : b = b' := by
        rcases betE_iff.1 hb with e | e | e
        · exact absurd e nb
        · exact absurd (.inr e.1) h2
        · exact e
      rw [e1, e2]; exact betE_refl _
theorem con_mono {op n ty : Int} {a a' : EV} (ha : betE a a' = true) (fa' : Fit n a') : betE (conE op n ty a) (conE op n ty a') = true := by
  cases a with
  | poi => exact betE_poi _
  | any =>
    have := betE_np ha (fun e => by cases e)
    cases a' <;> first | rfl | exact absurd rfl this
  | num x => obtain rfl := betE_num ha; exact betE_refl _
  | adr x y => obtain rfl := betE_adr ha; exact betE_refl _
theorem cmp0 {a b : EV} (h : betE a b = true) : Cmp (a, 0) (b, 0) := fun _ => .inr ⟨rfl, h⟩
theorem pl_plain {n : Nat} {op x y : Int} (h1 : ¬ (op = 4 ∨ op = 5 ∨ op = 6 ∨ op = 7)) (h2 : ¬ (op = 11 ∨ op = 12 ∨ op = 13)) : plE n op x y = 0 := by
  unfold plE
  rw [if_neg (by omega), if_neg (by omega), if_neg h2]
theorem wnt_ty {op ty n i : Int} (h2 : ¬ (op = 20 ∨ op = 21 ∨ op = 22)) (h3 : op ≠ 23) (h4 : op ≠ 29) : wntE op ty n i = ty := by
  unfold wntE
  rw [if_neg h2, if_neg h3, if_neg h4]
theorem mad_mono {op ty n fl : Int} (hf : typE op ty n = true) {a a' b b' c c' : EV} (fa : Fit (wntE op ty n 0) a) (fa' : Fit (wntE op ty n 0) a') (fb' : Fit (wntE op ty n 1) b') (ha : betE a a' = true) (hb : betE b b' = true) (hc : betE c c' = true) :
    Cmp (madE op ty n fl a b c) (madE op ty n fl a' b' c') := by
  unfold madE
  by_cases h1 : op = 4 ∨ op = 5 ∨ op = 6 ∨ op = 7
  · rw [if_pos h1, if_pos h1]
    rw [wnt_ty (by omega) (by omega) (by omega)] at fa' fb'
    exact div_mono h1 fa' fb' ha hb
  · rw [if_neg h1, if_neg h1]
    by_cases h2 : op = 11 ∨ op = 12 ∨ op = 13
    · rw [if_pos h2, if_pos h2]
      rw [wnt_ty (by omega) (by omega) (by omega)] at fa' fb'
      have ht : 1 ≤ ty := by
        unfold typE at hf
        rw [if_neg (by omega), if_neg (by omega), if_neg (by omega)] at hf
        simp at hf
        omega
      exact shf_mono h2 ht fa' fb' ha hb
    · rw [if_neg h2, if_neg h2]
      by_cases h3 : op = 20 ∨ op = 21 ∨ op = 22
      · rw [if_pos h3, if_pos h3]
        unfold wntE at fa'
        rw [if_pos h3] at fa'
        exact cmp0 (con_mono ha fa')
      · rw [if_neg h3, if_neg h3]
        by_cases h4 : op = 23
        · rw [if_pos h4, if_pos h4]
          exact cmp0 (cho_mono ha hb hc)
        · rw [if_neg h4, if_neg h4]
          by_cases h5 : op = 24
          · rw [if_pos h5, if_pos h5]; exact cmp0 (fro_mono ha)
          · rw [if_neg h5, if_neg h5]
            by_cases h6 : op = 29
            · rw [if_pos h6, if_pos h6]
              have hty : ty = 65 := by
                unfold typE at hf
                rw [if_neg (by omega), if_neg (by omega), if_pos h6] at hf
                simpa using hf
              unfold wntE at fa fa' fb'
              rw [if_neg h3, if_neg h4, if_pos h6] at fa fa' fb'
              rw [if_neg (by decide), hty] at fa fa'
              rw [if_pos rfl] at fb'
              exact cmp0 (mov_mono fa fa' fb' ha hb)
            · rw [if_neg h6, if_neg h6]
              rw [wnt_ty h3 h4 h6] at fa' fb'
              exact join_mono fa' fb' ha hb fun x y _ _ _ => pl_plain h1 h2
/-! Without its flags. -/
/-- Both end alike, and where it is a value, the second is better. -/
def Alk (r r' : EV × Int) : Prop := r.2 = r'.2 ∧ (r.2 = 0 → betE r.1 r'.1 = true)
theorem Alk.refl (r : EV × Int) : Alk r r := ⟨rfl, fun _ => betE_refl _⟩
theorem app_flags {op ty fl x y : Int} (h1 : plE ty.toNat op x y = 0 ∨ plE ty.toNat op x y = 2 ∨ plE ty.toNat op x y = 1) : Alk (appE op ty fl x y) (appE op ty 0 x y) := by
  unfold appE
  rw [aplE_0]
  rcases h1 with h | h | h
  · rw [h]
    rcases aplE_bit (fl := fl) h with e | e
    · rw [e]; exact ⟨rfl, fun _ => betE_refl _⟩
    · rw [e]; exact ⟨rfl, fun _ => betE_poi _⟩
  · have e : aplE ty.toNat op fl x y = 2 := by unfold aplE; rw [if_neg (by rw [h]; decide), h]
    rw [h, e]; exact Alk.refl _
  · have e : aplE ty.toNat op fl x y = 1 := by unfold aplE; rw [if_neg (by rw [h]; decide), h]
    rw [h, e]; exact Alk.refl _
theorem pl_three (n : Nat) (op x y : Int) : plE n op x y = 0 ∨ plE n op x y = 2 ∨ plE n op x y = 1 := by
  unfold plE
  repeat' split
  all_goals first | exact .inl rfl | exact .inr (.inl rfl) | exact .inr (.inr rfl)
theorem unf_flags (fl : Int) : Alk (unfE fl, 0) (unfE 0, 0) := ⟨rfl, fun _ => by unfold unfE; split <;> rfl⟩
theorem join_flags (op ty fl : Int) (a b : EV) : Alk (joinE op ty fl a b) (joinE op ty 0 a b) := by
  cases a <;> cases b <;> first | exact Alk.refl _ | exact unf_flags fl | exact app_flags (pl_three _ _ _ _)
theorem div_flags (op ty fl : Int) (a b : EV) : Alk (divE op ty fl a b) (divE op ty 0 a b) := by
  cases b with
  | num y =>
    unfold divE
    by_cases h0 : y = 0
    · simp only [if_pos h0]; exact Alk.refl _
    · simp only [if_neg h0]
      by_cases h1 : (op = 5 ∨ op = 7) ∧ y = msk ty
      · simp only [if_pos h1]
        cases a <;> first | exact Alk.refl _ | exact join_flags ..
      · simp only [if_neg h1]; exact join_flags ..
  | _ => exact Alk.refl _
theorem shf_flags (op ty fl : Int) (a b : EV) : Alk (shfE op ty fl a b) (shfE op ty 0 a b) := by
  cases b with
  | num y =>
    unfold shfE
    by_cases h0 : ty ≤ y
    · simp only [if_pos h0]; exact Alk.refl _
    · simp only [if_neg h0]; exact join_flags ..
  | any => exact Alk.refl _
  | _ => exact join_flags ..
theorem mad_flags (op ty n fl : Int) (a b c : EV) : Alk (madE op ty n fl a b c) (madE op ty n 0 a b c) := by
  unfold madE
  repeat' split
  all_goals first | exact Alk.refl _ | exact div_flags .. | exact shf_flags .. | exact join_flags ..
theorem andNot_0 (F : Int) : bits .andNot .i64 0 F = 0 := by
  simp [bits]
  decide +kernel
theorem frm_0 {op ty n fl : Int} (h : frmE op ty n fl = true) : frmE op ty n 0 = true := by
  unfold frmE at h ⊢
  rw [andNot_0]
  simpa using (by simpa using h : _ ∧ _).2
theorem eval_flags {op ty n fl : Int} {l : List Vl} (h : (evalE op ty n fl l).2 ≠ 3) : Alk (evalE op ty n fl l) (evalE op ty n 0 l) := by
  unfold evalE at h ⊢
  by_cases hc : frmE op ty n fl = true ∧ (l.length : Int) = cntE op
  · rw [if_pos hc, if_pos ⟨frm_0 hc.1, hc.2⟩]; exact mad_flags ..
  · rw [if_neg hc] at h; exact absurd rfl h
/-! The order. -/
theorem and_comm' (x y : Int) : bits .and .u64 x y = bits .and .u64 y x := by simp [bits, BitVec.and_comm]
theorem or_comm' (x y : Int) : bits .or .u64 x y = bits .or .u64 y x := by simp [bits, BitVec.or_comm]
theorem xor_comm' (x y : Int) : bits .xor .u64 x y = bits .xor .u64 y x := by simp [bits, BitVec.xor_comm]
def comB (op : Int) : Bool := decide (op = 1 ∨ op = 3 ∨ op = 8 ∨ op = 9 ∨ op = 10 ∨ op = 14 ∨ op = 15)
theorem beq_comm' (x y : Int) : (x == y) = (y == x) := by
  rw [Bool.eq_iff_iff]; simp; exact eq_comm
theorem app_comm {op ty fl x y : Int} (h : comB op = true) (hf : (op = 1 ∨ op = 3) ∧ (fl = 0 ∨ fl = 1 ∨ fl = 2 ∨ fl = 3) ∨ fl = 0) : appE op ty fl x y = appE op ty fl y x := by
  have ho : op = 1 ∨ op = 3 ∨ op = 8 ∨ op = 9 ∨ op = 10 ∨ op = 14 ∨ op = 15 := by simpa [comB] using h
  have e0 : ∀ x y, plE ty.toNat op x y = 0 := fun x y => pl_plain (by omega) (by omega)
  have eV : plV ty.toNat op x y = plV ty.toNat op y x := by
    rcases ho with rfl | rfl | rfl | rfl | rfl | rfl | rfl
    · simp [plV, Int.add_comm]
    · simp [plV, Int.mul_comm]
    · simp [plV, and_comm']
    · simp [plV, or_comm']
    · simp [plV, xor_comm']
    · show (if (x == y) = true then (1 : Int) else 0) = if (y == x) = true then 1 else 0
      rw [beq_comm']
    · show (if (x != y) = true then (1 : Int) else 0) = if (y != x) = true then 1 else 0
      unfold bne
      rw [beq_comm']
  have eB : brB ty.toNat op fl x y = brB ty.toNat op fl y x := by
    rcases hf with ⟨hx, hf⟩ | rfl
    · have hw : wrB ty.toNat op x y = wrB ty.toNat op y x ∧ wsB ty.toNat op x y = wsB ty.toNat op y x := by
        rcases hx with rfl | rfl
        · simp [wrB, wsB, ex, Int.add_comm]
        · simp [wrB, wsB, ex, Int.mul_comm]
      have h4 : fl ≠ 4 := by omega
      unfold brB
      rw [hw.1, hw.2]
      simp [h4]
    · simp [brB]
  unfold appE aplE
  rw [e0, e0, eV, eB]
theorem join_comm {op ty fl : Int} (h : comB op = true) (hf : (op = 1 ∨ op = 3) ∧ (fl = 0 ∨ fl = 1 ∨ fl = 2 ∨ fl = 3) ∨ fl = 0) (a b : EV) : joinE op ty fl a b = joinE op ty fl b a := by
  cases a <;> cases b <;> first | rfl | exact app_comm h hf | skip
  rename_i a b c d
  show (EV.num (if (decide (a = c) && decide (b = d)) = decide (op = 14) then 1 else 0), (0 : Int)) = (EV.num (if (decide (c = a) && decide (d = b)) = decide (op = 14) then 1 else 0), 0)
  rw [decide_eq_decide.2 (show a = c ↔ c = a from eq_comm), decide_eq_decide.2 (show b = d ↔ d = b from eq_comm)]
theorem com_flags {op ty n fl : Int} (h : comB op = true) (h0 : -9223372036854775808 ≤ fl) (h1 : fl ≤ 9223372036854775807) (hf : frmE op ty n fl = true) : (op = 1 ∨ op = 3) ∧ (fl = 0 ∨ fl = 1 ∨ fl = 2 ∨ fl = 3) ∨ fl = 0 := by
  have ho : op = 1 ∨ op = 3 ∨ op = 8 ∨ op = 9 ∨ op = 10 ∨ op = 14 ∨ op = 15 := by simpa [comB] using h
  have hb : bits .andNot .i64 fl (flg op) = 0 := by
    unfold frmE at hf
    simp at hf
    exact hf.1
  rcases ho with rfl | rfl | rfl | rfl | rfl | rfl | rfl
  · exact .inl ⟨.inl rfl, flags_3 h0 h1 hb⟩
  · exact .inl ⟨.inr rfl, flags_3 h0 h1 hb⟩
  all_goals exact .inr (flags_0 h0 h1 hb)
theorem eval_comm {op ty n fl : Int} (h : comB op = true) (h0 : -9223372036854775808 ≤ fl) (h1 : fl ≤ 9223372036854775807) (a b : Vl) : evalE op ty n fl [a, b] = evalE op ty n fl [b, a] := by
  have ho : op = 1 ∨ op = 3 ∨ op = 8 ∨ op = 9 ∨ op = 10 ∨ op = 14 ∨ op = 15 := by simpa [comB] using h
  unfold evalE
  by_cases hc : frmE op ty n fl = true ∧ (([a, b] : List Vl).length : Int) = cntE op
  · have hc' : frmE op ty n fl = true ∧ (([b, a] : List Vl).length : Int) = cntE op := hc
    rw [if_pos hc, if_pos hc']
    rw [wnt_ty (by omega) (by omega) (by omega), wnt_ty (by omega) (by omega) (by omega), wnt_ty (by omega) (by omega) (by omega)]
    unfold madE
    rw [if_neg (by omega), if_neg (by omega), if_neg (by omega), if_neg (by omega), if_neg (by omega), if_neg (by omega)]
    rw [if_neg (by omega), if_neg (by omega), if_neg (by omega), if_neg (by omega), if_neg (by omega), if_neg (by omega)]
    exact join_comm h (com_flags h h0 h1 hc.1) _ _
  · have hc' : ¬ (frmE op ty n fl = true ∧ (([b, a] : List Vl).length : Int) = cntE op) := hc
    rw [if_neg hc, if_neg hc']
end Go.Proofs.Ytpjfkmaceaikbaa
