/- Several texts in one: EvP, EvQ, EvR, EvB0, PgA, StA. -/
import Derived.Deep.RegionLaw
import Derived.Deep.OwnRows
import Derived.Test.YtpjfkmaceaikbaaMg6
namespace Go.Proofs.Ytpjfkmaceaikbaa
open Go.RowKit Go.Maps
set_option linter.unusedVariables false
set_option linter.unusedSimpArgs false

/-- A value that was read as one of a type. -/
inductive EV where
  | poi
  | num (x : Int)
  | adr (bk o : Int)
  | any
def EV.vl : EV → Vl
  | .poi => p0
  | .num x => ⟨1, x, 0, 0⟩
  | .adr bk o => ⟨2, 0, bk, o⟩
  | .any => ⟨3, 0, 0, 0⟩
def nf (t : Int) (v : Vl) : EV := if v.k = 1 ∧ isW t = true then .num (v.b % pw t.toNat) else if v.k = 2 ∧ t = 65 then .adr v.bk v.o else if v.k = 3 ∧ 0 < wd t then .any else .poi
theorem nf_vl (t : Int) (v : Vl) : (nf t v).vl = norm t v := by
  unfold nf norm
  split
  · rfl
  · split
    · rfl
    · split <;> rfl
theorem nf_p0 (t : Int) : nf t p0 = .poi := by
  unfold nf
  rw [if_neg (fun x => absurd (show (0 : Int) = 1 from x.1) (by decide)), if_neg (fun x => absurd (show (0 : Int) = 2 from x.1) (by decide)), if_neg (fun x => absurd (show (0 : Int) = 3 from x.1) (by decide))]
/-- It may be what a type's value reads. -/
def Fit (t : Int) : EV → Prop
  | .poi => True
  | .num x => isW t = true ∧ 0 ≤ x ∧ x < pw t.toNat
  | .adr _ _ => t = 65
  | .any => 0 < wd t
theorem nf_fit (t : Int) (v : Vl) : Fit t (nf t v) := by
  unfold nf
  split
  · rename_i h
    exact ⟨h.2, Int.emod_nonneg _ (by have := pw_pos t.toNat; omega), Int.emod_lt_of_pos _ (pw_pos _)⟩
  · split
    · rename_i h; exact h.2
    · split
      · rename_i h; exact h.2
      · trivial
theorem Fit.num_in {t x : Int} (h : Fit t (.num x)) : 1 ≤ t ∧ t ≤ 64 ∧ 0 ≤ x ∧ x ≤ 18446744073709551615 ∧ x % pw t.toNat = x := by
  obtain ⟨h1, h2, h3⟩ := h
  have h4 := isW_iff.1 h1
  have h5 := pw_le64 (n := t.toNat) (by omega)
  exact ⟨h4.1, h4.2, h2, by omega, Int.emod_eq_of_lt h2 h3⟩
theorem Fit.ok {t : Int} {a : EV} (h : Fit t a) : a.vl.ok := by
  cases a with
  | num x => have := Fit.num_in h; exact ⟨this.2.2.1, this.2.2.2.1⟩
  | _ => exact ⟨by show (0 : Int) ≤ 0; decide, by show (0 : Int) ≤ _; decide⟩
/-- The same value? -/
def eqE : EV → EV → Bool
  | .poi, .poi => true
  | .num x, .num y => decide (x = y)
  | .adr a b, .adr c d => decide (a = c) && decide (b = d)
  | .any, .any => true
  | _, _ => false
theorem eqE_iff {a b : EV} : eqE a b = true ↔ a = b := by
  cases a <;> cases b <;> simp [eqE]
theorem eqE_refl (a : EV) : eqE a a = true := eqE_iff.2 rfl
/-- Does the second refine the first? -/
def betE : EV → EV → Bool
  | .poi, _ => true
  | .any, .poi => false
  | .any, _ => true
  | a, b => eqE a b
theorem betE_refl (a : EV) : betE a a = true := by cases a <;> simp [betE, eqE]
def unfE (fl : Int) : EV := if fl = 0 then .any else .poi
/-- What comes of two numbers; how it ends. -/
def appE (op ty fl x y : Int) : EV × Int :=
  if aplE ty.toNat op fl x y = 0 then (.num (plV ty.toNat op x y), 0) else if aplE ty.toNat op fl x y = 1 then (.poi, 0) else (.poi, aplE ty.toNat op fl x y)
def joinE (op ty fl : Int) : EV → EV → EV × Int
  | .poi, _ => (.poi, 0)
  | .num _, .poi => (.poi, 0)
  | .adr _ _, .poi => (.poi, 0)
  | .any, .poi => (.poi, 0)
  | .any, _ => (unfE fl, 0)
  | .num _, .any => (unfE fl, 0)
  | .adr _ _, .any => (unfE fl, 0)
  | .num x, .num y => appE op ty fl x y
  | .adr a b, .adr c d => (.num (if (decide (a = c) && decide (b = d)) = decide (op = 14) then 1 else 0), 0)
  | .num _, .adr _ _ => (.poi, 0)
  | .adr _ _, .num _ => (.poi, 0)
def divE (op ty fl : Int) (a b : EV) : EV × Int :=
  match b with
  | .poi => (.poi, 2)
  | .any => (.poi, 4)
  | .adr _ _ => (.poi, 2)
  | .num y => if y = 0 then (.poi, 2) else if (op = 5 ∨ op = 7) ∧ y = msk ty then (match a with | .poi => (.poi, 2) | .any => (.poi, 4) | _ => joinE op ty fl a b) else joinE op ty fl a b
def shfE (op ty fl : Int) (a b : EV) : EV × Int :=
  match b with
  | .any => (.poi, 0)
  | .num y => if ty ≤ y then (.poi, 0) else joinE op ty fl a b
  | _ => joinE op ty fl a b
def conE (op n ty : Int) : EV → EV
  | .num x => .num (cvV op n ty x)
  | a => a
def choE (a b c : EV) : EV :=
  match a with
  | .poi => .poi
  | .num x => if x = 1 then b else c
  | _ => if eqE b c = true then b else if eqE b .poi = true ∨ eqE c .poi = true then .poi else .any
def froE : EV → EV
  | .poi => .any
  | a => a
def movE : EV → EV → EV
  | .poi, _ => .poi
  | .num _, .poi => .poi
  | .adr _ _, .poi => .poi
  | .any, .poi => .poi
  | .any, _ => .any
  | .num _, .any => .any
  | .adr _ _, .any => .any
  | .adr bk o, .num y => .adr bk (wrap64 (o + sgn 64 y))
  | .num _, _ => .poi
  | .adr _ _, .adr _ _ => .poi
/-- What an instruction makes of the values that were read; how it ends. -/
def madE (op ty n fl : Int) (a b c : EV) : EV × Int :=
  if op = 4 ∨ op = 5 ∨ op = 6 ∨ op = 7 then divE op ty fl a b
  else if op = 11 ∨ op = 12 ∨ op = 13 then shfE op ty fl a b
  else if op = 20 ∨ op = 21 ∨ op = 22 then (conE op n ty a, 0)
  else if op = 23 then (choE a b c, 0)
  else if op = 24 then (froE a, 0)
  else if op = 29 then (movE a b, 0)
  else joinE op ty fl a b
def typE (op ty n : Int) : Bool :=
  if op = 14 ∨ op = 15 ∨ op = 23 ∨ op = 24 then decide (1 ≤ ty) && decide (ty ≤ 65)
  else if op = 20 ∨ op = 21 ∨ op = 22 then cvB op n ty
  else if op = 29 then decide (ty = 65)
  else (decide (1 ≤ op) && decide (op ≤ 19)) && (decide (1 ≤ ty) && decide (ty ≤ 64))
def cntE (op : Int) : Int := if op = 20 ∨ op = 21 ∨ op = 22 ∨ op = 24 then 1 else if op = 23 then 3 else 2
def wntE (op ty n i : Int) : Int :=
  if op = 20 ∨ op = 21 ∨ op = 22 then n else if op = 23 then (if i = 0 then 1 else ty) else if op = 29 then (if i = 1 then 64 else ty) else ty
def frmE (op ty n fl : Int) : Bool := decide (bits .andNot .i64 fl (flg op) = 0) && typE op ty n
/-- What Eval answers. -/
def evalE (op ty n fl : Int) (l : List Vl) : EV × Int :=
  if frmE op ty n fl = true ∧ (l.length : Int) = cntE op then
    madE op ty n fl (nf (wntE op ty n 0) (l.getD 0 p0)) (nf (wntE op ty n 1) (l.getD 1 p0)) (nf (wntE op ty n 2) (l.getD 2 p0))
  else (.poi, 3)
/-- What was defined stays defined, or nobody says; what comes of it is better. -/
def Cmp (r r' : EV × Int) : Prop := r.2 = 0 → r'.2 = 4 ∨ (r'.2 = 0 ∧ betE r.1 r'.1 = true)
theorem Cmp.refl (r : EV × Int) : Cmp r r := fun h => .inr ⟨h, betE_refl _⟩
theorem join_poi {op ty fl : Int} {a b : EV} (h : a = .poi ∨ b = .poi) : joinE op ty fl a b = (.poi, 0) := by
  rcases h with rfl | rfl
  · rfl
  · cases a <;> rfl
theorem join_any {op ty fl : Int} {a b : EV} (ha : a ≠ .poi) (hb : b ≠ .poi) (h : a = .any ∨ b = .any) : joinE op ty fl a b = (unfE fl, 0) := by
  rcases h with rfl | rfl
  · cases b <;> first | rfl | exact absurd rfl hb
  · cases a <;> first | rfl | exact absurd rfl ha
theorem fit_mix {t x bk o : Int} (h : Fit t (.num x)) (h' : Fit t (.adr bk o)) : False := by
  have := Fit.num_in h
  have : t = 65 := h'
  omega
theorem mov_poi {a b : EV} (h : a = .poi ∨ b = .poi) : movE a b = .poi := by
  rcases h with rfl | rfl
  · rfl
  · cases a <;> rfl
theorem mov_any {a b : EV} (ha : a ≠ .poi) (hb : b ≠ .poi) (h : a = .any ∨ b = .any) (fa : Fit 65 a) : movE a b = .any := by
  rcases h with rfl | rfl
  · cases b <;> first | rfl | exact absurd rfl hb
  · cases a <;> first | rfl | exact absurd rfl ha
theorem wnt_ty {op ty n i : Int} (h2 : ¬ (op = 20 ∨ op = 21 ∨ op = 22)) (h3 : op ≠ 23) (h4 : op ≠ 29) : wntE op ty n i = ty := by
  unfold wntE
  rw [if_neg h2, if_neg h3, if_neg h4]
/-! Without its flags. -/
/-- Both end alike, and where it is a value, the second is better. -/
def Alk (r r' : EV × Int) : Prop := r.2 = r'.2 ∧ (r.2 = 0 → betE r.1 r'.1 = true)
theorem Alk.refl (r : EV × Int) : Alk r r := ⟨rfl, fun _ => betE_refl _⟩
/-! The order. -/

/-- Beside what W had, there are these boxes. -/
def Fr (W : World) (bs : List (Nat × List Value)) (w : World) : Prop := Below W.heap.size W w ∧ ∀ x ∈ bs, W.heap.size ≤ x.1 ∧ Box x.1 x.2 w
theorem Fr.start (W : World) : Fr W [] W := ⟨Below.refl _ _, fun _ h => by cases h⟩
theorem Fr.later {W w w' : World} {bs : List (Nat × List Value)} (F : Fr W bs w) (hb : Below w.heap.size w w') : Fr W bs w' := ⟨F.1.trans (hb.mono F.1.size), fun x hx => ⟨(F.2 x hx).1, (F.2 x hx).2.later hb⟩⟩
theorem Fr.drew {W w : World} {bs : List (Nat × List Value)} (F : Fr W bs w) : Fr W bs w.drew := F.later (below_drew (Below.refl _ _))
theorem below_drewN (w : World) (n : Nat) : Below w.heap.size w (w.drewN n) := by
  have h := Below.refl w.heap.size w
  exact ⟨h.os, h.tape, h.output, h.size, h.block⟩
theorem Fr.drewN {W w : World} {bs : List (Nat × List Value)} (F : Fr W bs w) (n : Nat) : Fr W bs (w.drewN n) := F.later (below_drewN w n)
theorem Fr.push {W w : World} {bs : List (Nat × List Value)} {g : Nat} (F : Fr W bs w) (hg : g = w.heap.size) (cs : List Value) (t : TypeId) : Fr W ((g, cs) :: bs) (w.alloc (.cells cs.toArray t)) := by
  refine ⟨F.1.alloc F.1.size _, fun x hx => ?_⟩
  rcases List.mem_cons.1 hx with rfl | hx
  · exact ⟨by rw [hg]; exact F.1.size, Box.new w hg cs t⟩
  · exact ⟨(F.2 x hx).1, (F.2 x hx).2.alloc _⟩
theorem Fr.alloc {W w : World} {bs : List (Nat × List Value)} (F : Fr W bs w) (o : Obj) : Fr W bs (w.alloc o) := F.later ((Below.refl _ _).alloc (Nat.le_refl _) o)
theorem Fr.at {W w : World} {bs : List (Nat × List Value)} (F : Fr W bs w) (i : Nat) {g : Nat} {cs : List Value} (h : bs[i]? = some (g, cs)) : W.heap.size ≤ g ∧ Box g cs w := F.2 (g, cs) (List.mem_of_getElem? h)
theorem Fr.c4 {W w : World} {bs : List (Nat × List Value)} (F : Fr W bs w) (i : Nat) {g : Nat} {v0 v1 v2 v3 : Value} (h : bs[i]? = some (g, [v0, v1, v2, v3])) :
    w.cell? ⟨g, 0, none⟩ = some v0 ∧ w.cell? ⟨g, 1, none⟩ = some v1 ∧ w.cell? ⟨g, 2, none⟩ = some v2 ∧ w.cell? ⟨g, 3, none⟩ = some v3 ∧ ∀ i, w.frozen? ⟨g, i, none⟩ = false :=
  ⟨(F.at i h).2.get 0 _ rfl, (F.at i h).2.get 1 _ rfl, (F.at i h).2.get 2 _ rfl, (F.at i h).2.get 3 _ rfl, (F.at i h).2.2.1⟩
theorem Fr.c7 {W w : World} {bs : List (Nat × List Value)} (F : Fr W bs w) (i : Nat) {g : Nat} {v0 v1 v2 v3 v4 v5 v6 : Value} (h : bs[i]? = some (g, [v0, v1, v2, v3, v4, v5, v6])) :
    w.cell? ⟨g, 0, none⟩ = some v0 ∧ w.cell? ⟨g, 1, none⟩ = some v1 ∧ w.cell? ⟨g, 2, none⟩ = some v2 ∧ w.cell? ⟨g, 3, none⟩ = some v3 ∧ w.cell? ⟨g, 4, none⟩ = some v4 ∧ w.cell? ⟨g, 5, none⟩ = some v5 ∧ w.cell? ⟨g, 6, none⟩ = some v6 :=
  ⟨(F.at i h).2.get 0 _ rfl, (F.at i h).2.get 1 _ rfl, (F.at i h).2.get 2 _ rfl, (F.at i h).2.get 3 _ rfl, (F.at i h).2.get 4 _ rfl, (F.at i h).2.get 5 _ rfl, (F.at i h).2.get 6 _ rfl⟩
/-- The result's box has been stored into. -/
theorem Fr.set4 {W w : World} {bs : List (Nat × List Value)} (F : Fr W bs w) (i : Nat) {g : Nat} {cs : List Value} (h : bs[i]? = some (g, cs)) (u0 u1 u2 u3 : Value) :
    Below W.heap.size W ((((w.setCell ⟨g, 0, none⟩ u0).setCell ⟨g, 1, none⟩ u1).setCell ⟨g, 2, none⟩ u2).setCell ⟨g, 3, none⟩ u3) := by
  have hg := (F.at i h).1
  have P : Past W.heap.size W w := ⟨Nat.le_refl _, F.1⟩
  exact ((((P.set (a := ⟨g, 0, none⟩) hg u0).set (a := ⟨g, 1, none⟩) hg u1).set (a := ⟨g, 2, none⟩) hg u2).set (a := ⟨g, 3, none⟩) hg u3).2
structure As where
  c : Nat → Nat
  sat : World → Prop
  stay : ∀ w w', sat w → (∀ k, c k ≠ 0 → w'.heap[k]? = w.heap[k]?) → sat w'
  inH : ∀ w, sat w → ∀ k, c k ≠ 0 → k < w.heap.size
def As.emp : As := ⟨fun _ => 0, fun _ => True, fun _ _ h _ => h, fun _ _ _ h => absurd rfl h⟩
def As.and (a b : As) : As :=
  ⟨fun k => a.c k + b.c k, fun w => a.sat w ∧ b.sat w, fun w w' h hk => ⟨a.stay w w' h.1 (fun k x => hk k (by omega)), b.stay w w' h.2 (fun k x => hk k (by omega))⟩,
    fun w h k hk => by
      by_cases h0 : a.c k = 0
      · exact b.inH w h.2 k (by omega)
      · exact a.inH w h.1 k h0⟩
theorem As.and_c (a b : As) (k : Nat) : ((As.and a b)).c k = a.c k + b.c k := rfl
theorem As.emp_c (k : Nat) : As.emp.c k = 0 := rfl
/-- One for each. -/
def As.all {α : Type} (f : α → As) : List α → As
  | [] => .emp
  | x :: xs => (As.and (f x) (As.all f xs))
/-- One assertion follows from another one, and speaks of no more blocks. -/
def As.le (a b : As) : Prop := (∀ w, a.sat w → b.sat w) ∧ ∀ k, b.c k ≤ a.c k
theorem As.le.refl (a : As) : a.le a := ⟨fun _ h => h, fun _ => Nat.le_refl _⟩
theorem As.le.trans {a b c : As} (h : a.le b) (k : b.le c) : a.le c := ⟨fun w x => k.1 w (h.1 w x), fun j => Nat.le_trans (k.2 j) (h.2 j)⟩
theorem As.le.and {a b c d : As} (h : a.le b) (k : c.le d) : ((As.and a c)).le ((As.and b d)) := ⟨fun w x => ⟨h.1 w x.1, k.1 w x.2⟩, fun j => Nat.add_le_add (h.2 j) (k.2 j)⟩
/-- What holds of a call's memory: all below B is as it was in W; X tells what is owned, each block once, none below B. -/
structure St (B : Nat) (W : World) (X : As) (w : World) : Prop where
  below : Below B W w
  le : B ≤ w.heap.size
  sat : X.sat w
  one : ∀ k, X.c k ≤ 1
  own : ∀ k, X.c k ≠ 0 → B ≤ k
section
variable {B : Nat} {W w w' : World} {X Y Z : As}
theorem St.imp (h : St B W X w) (k : X.le Y) : St B W Y w :=
  ⟨h.below, h.le, k.1 w h.sat, fun j => Nat.le_trans (k.2 j) (h.one j), fun j hj => h.own j (by have := k.2 j; omega)⟩
theorem St.inH (h : St B W X w) (k : Nat) (hk : X.c k ≠ 0) : k < w.heap.size := X.inH w h.sat k hk
/-- Nothing below the heap's end has changed. -/
theorem St.later (h : St B W X w) (hb : Below w.heap.size w w') : St B W X w' :=
  ⟨h.below.trans (hb.mono h.le), Nat.le_trans h.le hb.size, X.stay w w' h.sat (fun k hk => hb.block k (h.inH k hk)), h.one, h.own⟩
theorem St.drew (h : St B W X w) : St B W X w.drew := h.later (below_drew (Below.refl _ _))
theorem St.alloc (h : St B W X w) (o : Obj) : St B W X (w.alloc o) := h.later ((Below.refl _ _).alloc (Nat.le_refl _) o)
/-- What one part speaks of has changed, or is new; the rest not. -/
theorem St.change (h : St B W ((As.and X Z)) w) (hos : w'.os = w.os) (htp : w'.tape = w.tape) (hout : w'.output = w.output) (hsz : w.heap.size ≤ w'.heap.size)
    (hk : ∀ k, k < w.heap.size → X.c k = 0 → w'.heap[k]? = w.heap[k]?) (hY : Y.sat w') (hc : ∀ k, Y.c k ≤ X.c k ∨ (w.heap.size ≤ k ∧ Y.c k ≤ 1)) : St B W ((As.and Y Z)) w' := by
  have hz : ∀ k, Z.c k ≠ 0 → k < w.heap.size ∧ X.c k = 0 := fun k hk => ⟨h.inH k (by rw [As.and_c]; omega), by have := h.one k; rw [As.and_c] at this; omega⟩
  refine ⟨⟨hos.trans h.below.os, htp.trans h.below.tape, hout.trans h.below.output, Nat.le_trans h.below.size hsz, fun k hB => ?_⟩, Nat.le_trans h.le hsz, ⟨hY, Z.stay w w' h.sat.2 (fun k x => hk k (hz k x).1 (hz k x).2)⟩, fun k => ?_, fun k x => ?_⟩
  · refine (hk k (Nat.lt_of_lt_of_le hB h.le) ?_).trans (h.below.block k hB)
    by_cases hx : X.c k = 0
    · exact hx
    · have := h.own k (by rw [As.and_c]; omega); omega
  · rw [As.and_c]
    have h1 := h.one k
    rw [As.and_c] at h1
    rcases hc k with h2 | ⟨h2, h3⟩
    · omega
    · have : Z.c k = 0 := by
        by_cases h0 : Z.c k = 0
        · exact h0
        · have := (hz k h0).1; omega
      omega
  · rw [As.and_c] at x
    rcases hc k with h2 | ⟨h2, h3⟩
    · exact h.own k (by rw [As.and_c]; omega)
    · exact Nat.le_trans h.le h2
end

/-! Boxes. -/
def bx (g : Nat) (cs : List Value) : As :=
  ⟨fun k => if g = k then 1 else 0, Box g cs, fun w w' h hk => by
      have e := hk g (by simp)
      have hg : g < w'.heap.size := by
        have h1 : w.heap[g]? = some (w.heap[g]'h.1) := Array.getElem?_eq_getElem h.1
        rw [h1] at e
        exact (Array.getElem?_eq_some_iff.1 e).1
      exact ⟨hg, fun i => (World.frozen?_of_block (a := ⟨g, i, none⟩) e).trans (h.2.1 i), fun i u hu => (World.cell?_of_block (a := ⟨g, i, none⟩) e).trans (h.2.2 i u hu)⟩,
    fun w h k hk => by
      by_cases e : g = k
      · subst e; exact h.1
      · simp [e] at hk⟩
theorem bx_c (g : Nat) (cs : List Value) (k : Nat) : (bx g cs).c k = if g = k then 1 else 0 := rfl
section
variable {B : Nat} {W w w' : World} {X Y Z : As}
theorem St.push (h : St B W Z w) {g : Nat} (hg : g = w.heap.size) (cs : List Value) (t : TypeId) : St B W ((As.and (bx g cs) Z)) (w.alloc (.cells cs.toArray t)) := by
  have h0 : St B W ((As.and As.emp Z)) w := h.imp ⟨fun w x => ⟨trivial, x⟩, fun k => by rw [As.and_c, As.emp_c]; omega⟩
  refine h0.change rfl rfl rfl (by simp) (fun k hk _ => heap_alloc_old w _ hk) (Box.new w hg cs t) (fun k => ?_)
  rw [bx_c]
  by_cases e : g = k
  · exact .inr ⟨by omega, by rw [if_pos e]; exact Nat.le_refl _⟩
  · exact .inl (by rw [if_neg e]; exact Nat.zero_le _)
theorem St.box {g : Nat} {cs : List Value} (h : St B W ((As.and (bx g cs) Z)) w) : Box g cs w := h.sat.1
theorem St.set {g : Nat} {cs : List Value} (h : St B W ((As.and (bx g cs) Z)) w) (i : Nat) (v : Value) : St B W ((As.and (bx g (cs.set i v)) Z)) (w.setCell ⟨g, i, none⟩ v) :=
  h.change rfl rfl rfl (by simp [World.setCell]) (fun k hk h0 => Below.heap_setCell w ⟨g, i, none⟩ v k (fun e => by rw [bx_c, if_pos e.symm] at h0; cases h0)) (h.box.set i v) (fun k => .inl (Nat.le_refl _))
end

/-! Rows of one's own. -/
def cR (p : Option Addr) (k : Nat) : Nat := match p with | some a => if a.block = k then 1 else 0 | none => 0
theorem cR_le (p : Option Addr) (k : Nat) : cR p k ≤ 1 := by unfold cR; split <;> (try split) <;> omega
theorem cR_block {p : Option Addr} {k n c : Nat} (h : cR p k ≠ 0) : (Value.slice p n c).ownBlock = some k := by
  unfold cR at h
  split at h
  · split at h
    · rename_i a e; rw [← e]; rfl
    · exact absurd rfl h
  · exact absurd rfl h
def rowP {α : Type} (B : Nat) (ty : TypeId) (m : Nat) (cel : α → List Value) (p : Option Addr) (n c : Nat) (xs : List α) (w : World) : Prop := n = xs.length ∧ w.ownsRow B ty m (.slice p n c) n (xs.flatMap cel)
def rw' {α : Type} (B : Nat) (ty : TypeId) (m : Nat) (cel : α → List Value) (p : Option Addr) (n c : Nat) (xs : List α) : As :=
  ⟨cR p, rowP B ty m cel p n c xs, fun w w' h hk => by
      refine ⟨h.1, h.2.1, ?_⟩
      rcases h.2.2 with hn | ⟨g, cap, cur, hv, hB, hg, rest⟩
      · exact .inl hn
      · refine .inr ⟨g, cap, cur, hv, hB, (hk g ?_).trans hg, rest⟩
        injection hv with e1 e2 e3
        subst e1
        show (if g = g then 1 else 0) ≠ 0
        simp,
    fun w h k hk => (h.2.lt k (cR_block hk)).2⟩
section
variable {α : Type} {B0 : Nat} {ty : TypeId} {m : Nat} {cel : α → List Value} {p : Option Addr} {n c : Nat} {xs : List α}
theorem rw_c (k : Nat) : (rw' B0 ty m cel p n c xs).c k = cR p k := rfl
theorem rw_nil (w : World) : (rw' B0 ty m cel none 0 0 ([] : List α)).sat w := ⟨rfl, World.ownsRow_nil _ _ _ _⟩
/-- A row that has grown. -/
theorem St.grown {B : Nat} {W w w' : World} {Z : As} (h : St B W ((As.and (rw' B ty m cel p n c xs) Z)) w) {ys : List α} {v' : Value} {k : Nat} (hk : k = xs.length + ys.length) (hr : w'.ownsRow B ty m v' k (xs.flatMap cel ++ ys.flatMap cel)) (hg : w.grownBy w' (Value.slice p n c).ownBlock)
    (hm : Moved w (.slice p n c) v') : ∃ p' c', v' = .slice p' k c' ∧ St B W ((As.and (rw' B ty m cel p' k c' (xs ++ ys)) Z)) w' := by
  obtain ⟨p', c', rfl⟩ := row_slice hr
  refine ⟨p', c', rfl, h.change hg.os hg.tape hg.output hg.size (fun j hj h0 => hg.block j hj (fun e => ?_)) ⟨by rw [List.length_append]; exact hk, by rw [List.flatMap_append]; exact hr⟩ (fun j => ?_)⟩
  · rw [rw_c] at h0
    cases p with
    | none => cases e
    | some a =>
      have e2 : j = a.block := by injection e
      unfold cR at h0
      simp [e2] at h0
  · rw [rw_c, rw_c]
    by_cases hj : cR p' j = 0
    · exact .inl (by omega)
    · have e1 := cR_block (n := k) (c := c') hj
      rcases hm with e | e
      · rw [e1] at e
        left
        cases p with
        | none => cases e
        | some a =>
          have e2 : j = a.block := by injection e
          have : cR (some a) j = 1 := by unfold cR; simp [e2]
          have := cR_le p' j
          omega
      · rw [e1] at e
        right
        have e2 : j = w.heap.size := by injection e
        exact ⟨by omega, cR_le p' j⟩
/-- append of one element, within a walk. -/
theorem wpList_app {P : Program} {B : Nat} {W w : World} {Y : As} {ops : Array Oper} {rest : List Oper} {o : Oper} {a : Act} {Q : Exit → Act → World → Prop} (hgd : o.guard = none) (s x : Operand) (t : TypeId)
    (ho : o.op = .call { callee := .builtin .append, args := #[s, x], argTypes := #[t, t] })
    (i : TypeInfo) (z : Value) (bytes : Nat) (ht : P.underlying t = some (.slice ty)) (hi : P.info? ty = some i) (hz : i.zero = some z) (hsize : i.size = m) (hby : i.bytes = bytes) (hzs : z.cells.size = m) (hm : 0 < m)
    (hs : a.eval s = .slice p n c) (h : St B W ((As.and (rw' B ty m cel p n c xs) Y)) w) (y : α) (q : Addr) (cx : Nat) (hx : a.eval x = .slice (some q) 1 cx) (hc : (cel y).length = m) (hq : ∀ j u, (cel y)[j]? = some u → w.cell? (q.add j) = some u) (h1 : ∀ u ∈ cel y, u.oneCell' = true)
    (h63 : xs.length + 1 ≤ maxLen) (hbytes : (xs.length + 1) * bytes ≤ 140737488355328)
    (k : ∀ p' c' w', St B W ((As.and (rw' B ty m cel p' (xs.length + 1) c' (xs ++ [y])) Y)) w' → wpList P ops Q rest (a.put o.dst (.slice p' (xs.length + 1) c')) w') : wpList P ops Q (o :: rest) a w := by
  have hn : n = xs.length := h.sat.1.1
  subst hn
  refine wpList_append_at hgd s x t ho B ty i z m bytes ht hi hz hsize hby hzs hm (.slice p xs.length c) xs.length (xs.flatMap cel) hs h.sat.1.2 (some q) 1 cx (cel y) hx (by rw [hc, Nat.one_mul]) (fun j u hj => ⟨q, rfl, hq j u hj⟩) h1 h63 hbytes h.le (fun v' w' h2 h3 h4 => ?_)
  obtain ⟨p', c', rfl, hS⟩ := h.grown (ys := [y]) (k := xs.length + 1) rfl (by simpa using h2) h3 h4
  exact k p' c' w' hS
end
end Go.Proofs.Ytpjfkmaceaikbaa
namespace Go.Proofs.Ytpjfkmaceaikbaa
open Go.RowKit Go.Maps
set_option linter.unusedVariables false
set_option linter.unusedSimpArgs false
set_option maxRecDepth 100000

/-- append of one element, at a step of a region that draws its order. -/
theorem step_app {P : Program} {α : Type} {B : Nat} {ty : TypeId} {m : Nat} {cel : α → List Value} {p : Option Addr} {n c : Nat} {xs : List α} {W w : World} {Y : As} {ops : Array Oper} {o : Oper} {a : Act} {K : Act → World → Prop} {Q : Exit → Act → World → Prop} {E : Prop} (hgd : o.guard = none) (s x : Operand) (t : TypeId)
    (ho : o.op = .call { callee := .builtin .append, args := #[s, x], argTypes := #[t, t] })
    (i : TypeInfo) (z : Value) (bytes : Nat) (ht : P.underlying t = some (.slice ty)) (hi : P.info? ty = some i) (hz : i.zero = some z) (hsize : i.size = m) (hby : i.bytes = bytes) (hzs : z.cells.size = m) (hm : 0 < m)
    (hs : a.eval s = .slice p n c) (h : St B W ((As.and (rw' B ty m cel p n c xs) Y)) w) (y : α) (q : Addr) (cx : Nat) (hx : a.eval x = .slice (some q) 1 cx) (hc : (cel y).length = m) (hq : ∀ j u, (cel y)[j]? = some u → w.cell? (q.add j) = some u) (h1 : ∀ u ∈ cel y, u.oneCell' = true)
    (h63 : xs.length + 1 ≤ maxLen) (hbytes : (xs.length + 1) * bytes ≤ 140737488355328)
    (k : ∀ p' c' w', St B W ((As.and (rw' B ty m cel p' (xs.length + 1) c' (xs ++ [y])) Y)) w' → K (a.put o.dst (.slice p' (xs.length + 1) c')) w') :
    if Region.wanted o (yielded ops a.tmps) = true then Oper.wp P o a w K Q else E := by
  have hn : n = xs.length := h.sat.1.1
  subst hn
  have hw : Region.wanted o (yielded ops a.tmps) = true := by simp [Region.wanted, hgd]
  rw [if_pos hw]
  obtain ⟨v', w', hr, h2, h3, -⟩ := run_append_own (P := P) w B t o.type ty i z m bytes ht hi hz hsize hby hzs hm (.slice p xs.length c) xs.length (xs.flatMap cel) h.sat.1.2 q 1 cx (cel y) (by rw [hc, Nat.one_mul]) hq h1 h63 hbytes h.le
  have h4 := append_where w B t o.type ty i z m bytes ht hi hz hsize hby hm (.slice p xs.length c) xs.length (xs.flatMap cel) h.sat.1.2 q 1 cx (cel y) (by rw [hc, Nat.one_mul]) hq h1 h63 hbytes v' w' hr
  unfold Oper.wp execOp
  simp only [ho, resolve, invoke, builtin, Sem.run_bind, Sem.run_pure, Result.andThen_ok, List.map_toArray, List.map_cons, List.map_nil, hs, hx, hr]
  obtain ⟨p', c', rfl, hS⟩ := h.grown (ys := [y]) (k := xs.length + 1) rfl (by simpa using h2) h3 h4
  exact k p' c' w' hS
section
variable {B : Nat} {W w : World} {Y : As} {bs : List (Nat × List Value)}
end
theorem lit_cells2 (w : World) (o : Obj) (cs : Array Value) (ty : TypeId) : ∀ (j : Nat) (u : Value), cs.toList[j]? = some u → ((w.alloc o).alloc (.cells cs ty)).cell? ((⟨w.heap.size + 1, 0, none⟩ : Addr).add j) = some u := by
  intro j u h
  have h2 := lit_cells (w.alloc o) cs ty j u h
  have e : (w.alloc o).heap.size = w.heap.size + 1 := by simp
  rwa [e] at h2
theorem row_cell {α : Type} {B ty m : Nat} {cel : α → List Value} {p : Option Addr} {n c : Nat} {xs : List α} {w : World} (h : rowP B ty m cel p n c xs w) (hm : ∀ x, (cel x).length = m) (i : Nat) (hi : i < xs.length) :
    ∃ R, p = some ⟨R, 0, none⟩ ∧ B ≤ R ∧ R < w.heap.size ∧ xs.length ≤ c ∧ c ≤ maxLen ∧ (∀ j, j < m → w.cell? ⟨R, i * m + j, none⟩ = (cel xs[i])[j]?) := by
  obtain ⟨h1, h2⟩ := h
  rcases id h2.2 with ⟨e, h0⟩ | ⟨g, cap, cur, e, hg, hh, k1, k2, k3, k4⟩
  · injection e with e1 e2 e3; omega
  · injection e with e1 e2 e3
    subst e1 e3
    refine ⟨g, rfl, hg, (Array.getElem?_eq_some_iff.1 hh).1, by omega, k2, fun j hj => ?_⟩
    have hlt : i * m + j < n * m := by
      have := Nat.mul_le_mul_right m (Nat.succ_le_of_lt hi)
      rw [Nat.succ_mul] at this
      rw [h1]; omega
    rw [h2.cellAt _ hlt]
    exact flat_get cel m hm xs i hi j hj
theorem St.start (W : World) : St W.heap.size W As.emp W := ⟨Below.refl _ _, Nat.le_refl _, trivial, fun _ => Nat.zero_le _, fun _ h => absurd rfl h⟩
/-- A row of one's own lies in memory. -/
theorem rowP_in {α : Type} {B ty m : Nat} {cel : α → List Value} {E : Nat → World → α → Prop} {p : Option Addr} {n c : Nat} {xs : List α} {w : World} (hm : ∀ x, (cel x).length = m) (h : rowP B ty m cel p n c xs w) (hE : ∀ x ∈ xs, E w.heap.size w x) : ListIn cel E w.heap.size w p n c xs := by
  obtain ⟨h1, h2⟩ := h
  rcases id h2.2 with ⟨e, h0⟩ | ⟨g, cap, cur, e, hg, hh, k1, k2, k3, k4⟩
  · injection e with e1 e2 e3
    subst e1 e2 e3
    have : xs = [] := List.eq_nil_of_length_eq_zero h1.symm
    subst this
    exact ⟨h1, Nat.le_refl _, Nat.zero_le _, fun j u hu => by simp at hu, hE⟩
  · injection e with e1 e2 e3
    subst e1 e3
    refine ⟨h1, k1, k2, fun j u hu => ⟨⟨g, 0, none⟩, rfl, (Array.getElem?_eq_some_iff.1 hh).1, ?_⟩, hE⟩
    have hj : j < n * m := by rw [h1, ← flat_len cel m hm]; exact (List.getElem?_eq_some_iff.1 hu).1
    rw [add0, h2.cellAt j hj]
    exact hu
end Go.Proofs.Ytpjfkmaceaikbaa
