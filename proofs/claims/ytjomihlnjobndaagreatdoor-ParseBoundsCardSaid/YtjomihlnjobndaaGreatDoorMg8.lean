/- Several texts in one: PgB, PsGd, SpLay, PsLx, PsRel. -/
import Derived.Test.YtjomihlnjobndaaGreatDoorMg7
/- The parser's state in memory. -/
namespace Go.Proofs.YtjomihlnjobndaaGreatDoor
open Go.RowKit Go.Maps
set_option linter.unusedVariables false
set_option linter.unusedSimpArgs false

def fC (f : Option Flt) : Int := match f with | none => 0 | some x => x.code
def fL (f : Option Flt) : Int := match f with | none => 0 | some x => x.line
def fK (f : Option Flt) : Int := match f with | none => 0 | some x => x.col
def FltOk (f : Option Flt) : Prop := ∀ x, f = some x → x.code ≠ 0
/-- What the pieces of a text are like. -/
def Gt (t : Tok) : Prop := Gd t ∧ t.body.length ≤ 65536 ∧ Go.Lib.parseUintB 64 t.body ≠ .range ∧ ∀ d ∈ t.body, d.toNat ≠ 45
def tkP (tp : Option Addr) (tn tc : Nat) (ts : List Tok) (w : World) : Prop :=
  tn = ts.length ∧ tn ≤ tc ∧ tc ≤ maxLen ∧ (∀ j u, (ts.flatMap tokC)[j]? = some u → ∃ g o, tp = some ⟨g, o, none⟩ ∧ w.cell? ⟨g, o + j, none⟩ = some u) ∧ ∀ k, cR tp k ≠ 0 → k < w.heap.size
theorem cR_self (a : Addr) : cR (some a) a.block ≠ 0 := by unfold cR; simp
def tk (tp : Option Addr) (tn tc : Nat) (ts : List Tok) : As :=
  ⟨cR tp, tkP tp tn tc ts, fun w w' h hk => ⟨h.1, h.2.1, h.2.2.1, fun j u hu => by
      obtain ⟨g, o, e, hc⟩ := h.2.2.2.1 j u hu
      exact ⟨g, o, e, (World.cell?_of_block (a := ⟨g, o + j, none⟩) (hk _ (by rw [e]; exact cR_self ⟨g, o, none⟩))).trans hc⟩, fun k x => by
      have e := hk k x
      have h1 : w.heap[k]? = some (w.heap[k]'(h.2.2.2.2 k x)) := Array.getElem?_eq_getElem (h.2.2.2.2 k x)
      rw [h1] at e
      exact (Array.getElem?_eq_some_iff.1 e).1⟩, fun w h => h.2.2.2.2⟩
theorem tk_c (tp : Option Addr) (tn tc : Nat) (ts : List Tok) (k : Nat) : (tk tp tn tc ts).c k = cR tp k := rfl
theorem tk_at (tp : Option Addr) (tn tc : Nat) (ts : List Tok) (w : World) : (tk tp tn tc ts).sat w = tkP tp tn tc ts w := rfl
theorem fC_zero {f : Option Flt} (h : FltOk f) : fC f = 0 ↔ f = none := by
  cases f with
  | none => simp [fC]
  | some x => have := h x rfl; simp only [fC]; constructor <;> intro e <;> first | (exact absurd (by exact_mod_cast e) this) | cases e
def rdC (tp : Option Addr) (tn tc : Nat) (en : Tok) (f : Option Flt) (m0 m1 m2 r : Value) : List Value :=
  [.slice tp tn tc, .int .i64 en.kind, .string (str en.body), .int .i64 en.line, .int .i64 en.col, .int .i64 (fC f), .int .i64 (fL f), .int .i64 (fK f), m0, m1, m2, r]
/-- The reader: its box, and the pieces that are still to be read. -/
def Rd (B : Nat) (W : World) (b : Nat) (en : Tok) (m0 m1 m2 r : Value) (s : RS) (Z : As) (w : World) : Prop :=
  (∀ t ∈ s.ts, Gt t) ∧ FltOk s.flt ∧ ∃ tp tn tc, St B W ((As.and (bx b (rdC tp tn tc en s.flt m0 m1 m2 r)) (As.and (tk tp tn tc s.ts) Z))) w
section
variable {B b : Nat} {W w w' : World} {en : Tok} {m0 m1 m2 r : Value} {s : RS} {Z Z' : As}
theorem Rd.imp (h : Rd B W b en m0 m1 m2 r s Z w) (k : Z.le Z') : Rd B W b en m0 m1 m2 r s Z' w := by
  obtain ⟨h1, h2, tp, tn, tc, h⟩ := h
  exact ⟨h1, h2, tp, tn, tc, h.imp ((As.le.refl _).and ((As.le.refl _).and k))⟩
theorem Rd.later (h : Rd B W b en m0 m1 m2 r s Z w) (hb : Below w.heap.size w w') : Rd B W b en m0 m1 m2 r s Z w' := by
  obtain ⟨h1, h2, tp, tn, tc, h⟩ := h
  exact ⟨h1, h2, tp, tn, tc, h.later hb⟩
theorem Rd.alloc (h : Rd B W b en m0 m1 m2 r s Z w) (o : Obj) : Rd B W b en m0 m1 m2 r s Z (w.alloc o) := h.later ((Below.refl _ _).alloc (Nat.le_refl _) o)
theorem Rd.drew (h : Rd B W b en m0 m1 m2 r s Z w) : Rd B W b en m0 m1 m2 r s Z w.drew := h.later (below_drew (Below.refl _ _))
theorem Rd.below (h : Rd B W b en m0 m1 m2 r s Z w) : Below B W w := by obtain ⟨h1, h2, tp, tn, tc, h⟩ := h; exact h.below
theorem Rd.same {s' : RS} (h : Rd B W b en m0 m1 m2 r s Z w) (e1 : s'.ts = s.ts) (e2 : s'.flt = s.flt) : Rd B W b en m0 m1 m2 r s' Z w := by
  unfold Rd
  rw [e1, e2]; exact h
theorem Rd.nx_gt (h : Rd B W b en m0 m1 m2 r s Z w) (he : Gt en) : Gt (nx en s) := by
  unfold nx
  cases e : s.ts with
  | nil => simpa using he
  | cons t ts => have h1 := h.1; rw [e] at h1; simpa using h1 t (by simp)
/-- The frame: what lies beside. -/
theorem Rd.st (h : Rd B W b en m0 m1 m2 r s Z w) : ∃ Y, St B W ((As.and Z Y)) w ∧ ∀ Z' w', St B W ((As.and Z' Y)) w' → Rd B W b en m0 m1 m2 r s Z' w' := by
  obtain ⟨h1, h2, tp, tn, tc, h⟩ := h
  refine ⟨(As.and (bx b (rdC tp tn tc en s.flt m0 m1 m2 r)) (tk tp tn tc s.ts)), h.imp ⟨fun w x => ⟨x.2.2, x.1, x.2.1⟩, fun k => by simp only [As.and_c]; omega⟩, fun Z' w' h' => ⟨h1, h2, tp, tn, tc, h'.imp ⟨fun w x => ⟨x.2.1, x.2.2, x.1⟩, fun k => by simp only [As.and_c]; omega⟩⟩⟩
end

/-! The parser's box, with the names asked. -/
def askRow (B : Nat) (ap : Option Addr) (ac : Nat) (l : List Tok) : As := rw' B 30 4 tokC ap l.length ac l
def Pk (B : Nat) (W : World) (b : Nat) (en : Tok) (m0 m1 m2 : Value) (s : RS) (Z : As) (w : World) : Prop :=
  (∀ t ∈ s.asked, Gt t) ∧ ∃ ap ac, Rd B W b en m0 m1 m2 (.slice ap s.asked.length ac) s ((As.and (askRow B ap ac s.asked) Z)) w
section
variable {B b g : Nat} {W w w' : World} {en : Tok} {m0 m1 m2 : Value} {s : RS} {Z Z' : As}
theorem Pk.imp (h : Pk B W b en m0 m1 m2 s Z w) (k : Z.le Z') : Pk B W b en m0 m1 m2 s Z' w := by
  obtain ⟨h1, ap, ac, h⟩ := h
  exact ⟨h1, ap, ac, h.imp ((As.le.refl _).and k)⟩
theorem Pk.later (h : Pk B W b en m0 m1 m2 s Z w) (hb : Below w.heap.size w w') : Pk B W b en m0 m1 m2 s Z w' := by
  obtain ⟨h1, ap, ac, h⟩ := h
  exact ⟨h1, ap, ac, h.later hb⟩
theorem Pk.alloc (h : Pk B W b en m0 m1 m2 s Z w) (o : Obj) : Pk B W b en m0 m1 m2 s Z (w.alloc o) := h.later ((Below.refl _ _).alloc (Nat.le_refl _) o)
theorem Pk.drew (h : Pk B W b en m0 m1 m2 s Z w) : Pk B W b en m0 m1 m2 s Z w.drew := h.later (below_drew (Below.refl _ _))
theorem Pk.below (h : Pk B W b en m0 m1 m2 s Z w) : Below B W w := by obtain ⟨h1, ap, ac, h⟩ := h; exact h.below
/-- The reader within. -/
theorem Pk.rd (h : Pk B W b en m0 m1 m2 s Z w) : ∃ r Z', Rd B W b en m0 m1 m2 r s Z' w ∧ ∀ s' w', s'.asked = s.asked → Rd B W b en m0 m1 m2 r s' Z' w' → Pk B W b en m0 m1 m2 s' Z w' := by
  obtain ⟨h1, ap, ac, h⟩ := h
  refine ⟨_, _, h, fun s' w' e h' => ⟨by rw [e]; exact h1, ap, ac, ?_⟩⟩
  rw [e]
  exact h'
theorem Pk.st (h : Pk B W b en m0 m1 m2 s Z w) : ∃ Y, St B W ((As.and Z Y)) w ∧ ∀ Z' w', St B W ((As.and Z' Y)) w' → Pk B W b en m0 m1 m2 s Z' w' := by
  obtain ⟨h1, ap, ac, h⟩ := h
  obtain ⟨Y, hs, back⟩ := h.st
  refine ⟨(As.and (askRow B ap ac s.asked) Y), hs.imp ⟨fun w x => ⟨x.1.2, x.1.1, x.2⟩, fun k => by simp only [As.and_c]; omega⟩, fun Z' w' h' => ⟨h1, ap, ac, back _ _ (h'.imp ⟨fun w x => ⟨⟨x.2.1, x.1⟩, x.2.2⟩, fun k => by simp only [As.and_c]; omega⟩)⟩⟩
theorem Pk.box {cs : List Value} (h : Pk B W b en m0 m1 m2 s ((As.and (bx g cs) Z)) w) : Box g cs w := by
  obtain ⟨Y, hs, _⟩ := h.st
  exact hs.sat.1.1
theorem Pk.set {cs : List Value} (h : Pk B W b en m0 m1 m2 s ((As.and (bx g cs) Z)) w) (i : Nat) (v : Value) : Pk B W b en m0 m1 m2 s ((As.and (bx g (cs.set i v)) Z)) (w.setCell ⟨g, i, none⟩ v) := by
  obtain ⟨Y, hs, back⟩ := h.st
  refine back _ _ ?_
  have h2 : St B W ((As.and (bx g cs) ((As.and Z Y)))) w := hs.imp ⟨fun w x => ⟨x.1.1, x.1.2, x.2⟩, fun k => by simp only [As.and_c]; omega⟩
  exact (h2.set i v).imp ⟨fun w x => ⟨⟨x.1, x.2.1⟩, x.2.2⟩, fun k => by simp only [As.and_c]; omega⟩
theorem Pk.push (h : Pk B W b en m0 m1 m2 s Z w) {g : Nat} (hg : g = w.heap.size) (cs : List Value) (t : TypeId) : Pk B W b en m0 m1 m2 s ((As.and (bx g cs) Z)) (w.alloc (.cells cs.toArray t)) := by
  obtain ⟨Y, hs, back⟩ := h.st
  exact back _ _ ((hs.push hg cs t).imp ⟨fun w x => ⟨⟨x.1, x.2.1⟩, x.2.2⟩, fun k => by simp only [As.and_c]; omega⟩)
/-- The box's cells. -/
theorem Pk.asked (h : Pk B W b en m0 m1 m2 s Z w) : ∃ ap ac Y, w.cell? ⟨b, 11, none⟩ = some (.slice ap s.asked.length ac) ∧ w.frozen? ⟨b, 11, none⟩ = false ∧ b < w.heap.size ∧ St B W ((As.and (askRow B ap ac s.asked) Y)) w ∧ (∀ X w', St B W ((As.and X Y)) w' → w'.cell? ⟨b, 11, none⟩ = some (.slice ap s.asked.length ac) ∧ w'.frozen? ⟨b, 11, none⟩ = false ∧ b < w'.heap.size) ∧
    ∀ ap' ac' t w', Gt t → St B W ((As.and (askRow B ap' ac' (s.asked ++ [t])) Y)) w' → Pk B W b en m0 m1 m2 (sAsk t s) Z (w'.setCell ⟨b, 11, none⟩ (.slice ap' (s.asked.length + 1) ac')) := by
  obtain ⟨h1, ap, ac, h2, h3, tp, tn, tc, h⟩ := h
  refine ⟨ap, ac, (As.and (bx b (rdC tp tn tc en s.flt m0 m1 m2 (.slice ap s.asked.length ac))) (As.and (tk tp tn tc s.ts) Z)), h.box.get 11 _ rfl, h.box.2.1 11, h.box.1, h.imp ⟨fun w x => ⟨x.2.2.1, x.1, x.2.1, x.2.2.2⟩, fun k => by simp only [As.and_c]; omega⟩, fun X w' h' => (have hb : Box b (rdC tp tn tc en s.flt m0 m1 m2 (.slice ap s.asked.length ac)) w' := h'.sat.2.1; ⟨hb.get 11 _ rfl, hb.2.1 11, hb.1⟩), fun ap' ac' t w' ht h' => ?_⟩
  refine ⟨fun x hx => ?_, ap', ac', h2, h3, tp, tn, tc, ?_⟩
  · rcases List.mem_append.1 hx with hx | hx
    · exact h1 x hx
    · rw [List.mem_singleton.1 hx]; exact ht
  · have h4 : St B W ((As.and (bx b (rdC tp tn tc en s.flt m0 m1 m2 (.slice ap s.asked.length ac))) (As.and (tk tp tn tc s.ts) (As.and (askRow B ap' ac' (s.asked ++ [t])) Z)))) w' := h'.imp ⟨fun w x => ⟨x.2.1, x.2.2.1, x.1, x.2.2.2⟩, fun k => by simp only [As.and_c]; omega⟩
    have e : (sAsk t s).asked.length = s.asked.length + 1 := by unfold sAsk; simp
    rw [e]
    exact h4.set 11 _
theorem Pk.cells (h : Pk B W b en m0 m1 m2 s Z w) : w.cell? ⟨b, 8, none⟩ = some m0 ∧ w.cell? ⟨b, 9, none⟩ = some m1 ∧ w.cell? ⟨b, 10, none⟩ = some m2 ∧ ∀ i, w.frozen? ⟨b, i, none⟩ = false := by
  obtain ⟨h1, ap, ac, h2, h3, tp, tn, tc, h⟩ := h
  exact ⟨h.box.get 8 _ rfl, h.box.get 9 _ rfl, h.box.get 10 _ rfl, h.box.2.1⟩
/-- The module's lists are told anew. -/
theorem Pk.mods (h : Pk B W b en m0 m1 m2 s Z w) : (∀ v, Pk B W b en v m1 m2 s Z (w.setCell ⟨b, 8, none⟩ v)) ∧ (∀ v, Pk B W b en m0 v m2 s Z (w.setCell ⟨b, 9, none⟩ v)) ∧ (∀ v, Pk B W b en m0 m1 v s Z (w.setCell ⟨b, 10, none⟩ v)) := by
  obtain ⟨h1, ap, ac, h2, h3, tp, tn, tc, h⟩ := h
  exact ⟨fun v => ⟨h1, ap, ac, h2, h3, tp, tn, tc, h.set 8 v⟩, fun v => ⟨h1, ap, ac, h2, h3, tp, tn, tc, h.set 9 v⟩, fun v => ⟨h1, ap, ac, h2, h3, tp, tn, tc, h.set 10 v⟩⟩
end

/-! An instruction that is being read. -/
def insRow (B : Nat) (x : LI) : As := (As.and (rw' B 80 3 argC x.1.ap x.1.al x.1.ac x.1.args) (rw' B 3 1 intC x.1.tp x.1.tl x.1.tc x.2))
def Ik (B : Nat) (W : World) (b : Nat) (en : Tok) (m0 m1 m2 : Value) (g : Nat) (p : PIns × RS) (Z : As) (w : World) : Prop :=
  ∃ x : LI, insD x = p.1 ∧ Pk B W b en m0 m1 m2 p.2 ((As.and (bx g (insC x.1)) (As.and (insRow B x) Z))) w
section
variable {B b g : Nat} {W w w' : World} {en : Tok} {m0 m1 m2 : Value} {p : PIns × RS} {Z Z' : As}
theorem Ik.imp (h : Ik B W b en m0 m1 m2 g p Z w) (k : Z.le Z') : Ik B W b en m0 m1 m2 g p Z' w := by
  obtain ⟨x, e, h⟩ := h
  exact ⟨x, e, h.imp ((As.le.refl _).and ((As.le.refl _).and k))⟩
theorem Ik.later (h : Ik B W b en m0 m1 m2 g p Z w) (hb : Below w.heap.size w w') : Ik B W b en m0 m1 m2 g p Z w' := by
  obtain ⟨x, e, h⟩ := h
  exact ⟨x, e, h.later hb⟩
theorem Ik.alloc (h : Ik B W b en m0 m1 m2 g p Z w) (o : Obj) : Ik B W b en m0 m1 m2 g p Z (w.alloc o) := h.later ((Below.refl _ _).alloc (Nat.le_refl _) o)
theorem Ik.drew (h : Ik B W b en m0 m1 m2 g p Z w) : Ik B W b en m0 m1 m2 g p Z w.drew := h.later (below_drew (Below.refl _ _))
theorem Ik.below (h : Ik B W b en m0 m1 m2 g p Z w) : Below B W w := by obtain ⟨x, e, h⟩ := h; exact h.below
theorem Ik.pk (h : Ik B W b en m0 m1 m2 g p Z w) : ∃ Z', Pk B W b en m0 m1 m2 p.2 Z' w ∧ ∀ s' w', Pk B W b en m0 m1 m2 s' Z' w' → Ik B W b en m0 m1 m2 g (p.1, s') Z w' := by
  obtain ⟨x, e, h⟩ := h
  exact ⟨_, h, fun s' w' h' => ⟨x, e, h'⟩⟩
theorem Ik.rd (h : Ik B W b en m0 m1 m2 g p Z w) : ∃ r Z', Rd B W b en m0 m1 m2 r p.2 Z' w ∧ ∀ s' w', s'.asked = p.2.asked → Rd B W b en m0 m1 m2 r s' Z' w' → Ik B W b en m0 m1 m2 g (p.1, s') Z w' := by
  obtain ⟨Z1, h1, k1⟩ := h.pk
  obtain ⟨r, Z2, h2, k2⟩ := h1.rd
  exact ⟨r, Z2, h2, fun s' w' e h' => k1 _ _ (k2 _ _ e h')⟩
/-- Another frame beside. -/
theorem Ik.st (h : Ik B W b en m0 m1 m2 g p Z w) : ∃ Y, St B W ((As.and Z Y)) w ∧ ∀ Z' w', St B W ((As.and Z' Y)) w' → Ik B W b en m0 m1 m2 g p Z' w' := by
  obtain ⟨x, e, h⟩ := h
  obtain ⟨Y, hs, back⟩ := h.st
  refine ⟨(As.and (bx g (insC x.1)) (As.and (insRow B x) Y)), hs.imp ⟨fun w x => ⟨x.1.2.2, x.1.1, x.1.2.1, x.2⟩, fun k => by simp only [As.and_c]; omega⟩, fun Z' w' h' => ⟨x, e, back _ _ (h'.imp ⟨fun w x => ⟨⟨x.2.1, x.2.2.1, x.1⟩, x.2.2.2⟩, fun k => by simp only [As.and_c]; omega⟩)⟩⟩
theorem Ik.box {g' : Nat} {cs : List Value} (h : Ik B W b en m0 m1 m2 g p ((As.and (bx g' cs) Z)) w) : Box g' cs w := by
  obtain ⟨Y, hs, _⟩ := h.st
  exact hs.sat.1.1
theorem Ik.push (h : Ik B W b en m0 m1 m2 g p Z w) {g' : Nat} (hg : g' = w.heap.size) (cs : List Value) (t : TypeId) : Ik B W b en m0 m1 m2 g p ((As.and (bx g' cs) Z)) (w.alloc (.cells cs.toArray t)) := by
  obtain ⟨Y, hs, back⟩ := h.st
  exact back _ _ ((hs.push hg cs t).imp ⟨fun w x => ⟨⟨x.1, x.2.1⟩, x.2.2⟩, fun k => by simp only [As.and_c]; omega⟩)
theorem Ik.frozen (h : Ik B W b en m0 m1 m2 g p Z w) (i : Nat) : w.frozen? ⟨g, i, none⟩ = false := by
  obtain ⟨x, e, h⟩ := h
  exact h.box.2.1 i
theorem Ik.cells (h : Ik B W b en m0 m1 m2 g p Z w) : w.cell? ⟨g, 0, none⟩ = some (.int .i64 p.1.op) ∧ w.cell? ⟨g, 1, none⟩ = some (.int .i64 p.1.reg) ∧ w.cell? ⟨g, 2, none⟩ = some (.int .i64 p.1.ty) ∧ w.cell? ⟨g, 3, none⟩ = some (.int .i64 p.1.n) ∧ w.cell? ⟨g, 4, none⟩ = some (.int .i64 p.1.fl) := by
  obtain ⟨x, e, h⟩ := h
  rw [← e]
  exact ⟨h.box.get 0 _ rfl, h.box.get 1 _ rfl, h.box.get 2 _ rfl, h.box.get 3 _ rfl, h.box.get 4 _ rfl⟩
theorem Ik.op (h : Ik B W b en m0 m1 m2 g p Z w) (v : Int) : Ik B W b en m0 m1 m2 g ({ p.1 with op := v }, p.2) Z (w.setCell ⟨g, 0, none⟩ (.int .i64 v)) := by
  obtain ⟨x, e, h⟩ := h
  exact ⟨({ x.1 with op := v }, x.2), by rw [← e]; rfl, h.set 0 _⟩
theorem Ik.reg (h : Ik B W b en m0 m1 m2 g p Z w) (v : Int) : Ik B W b en m0 m1 m2 g ({ p.1 with reg := v }, p.2) Z (w.setCell ⟨g, 1, none⟩ (.int .i64 v)) := by
  obtain ⟨x, e, h⟩ := h
  exact ⟨({ x.1 with reg := v }, x.2), by rw [← e]; rfl, h.set 1 _⟩
theorem Ik.ty (h : Ik B W b en m0 m1 m2 g p Z w) (v : Int) : Ik B W b en m0 m1 m2 g ({ p.1 with ty := v }, p.2) Z (w.setCell ⟨g, 2, none⟩ (.int .i64 v)) := by
  obtain ⟨x, e, h⟩ := h
  exact ⟨({ x.1 with ty := v }, x.2), by rw [← e]; rfl, h.set 2 _⟩
theorem Ik.n (h : Ik B W b en m0 m1 m2 g p Z w) (v : Int) : Ik B W b en m0 m1 m2 g ({ p.1 with n := v }, p.2) Z (w.setCell ⟨g, 3, none⟩ (.int .i64 v)) := by
  obtain ⟨x, e, h⟩ := h
  exact ⟨({ x.1 with n := v }, x.2), by rw [← e]; rfl, h.set 3 _⟩
theorem Ik.fl (h : Ik B W b en m0 m1 m2 g p Z w) (v : Int) : Ik B W b en m0 m1 m2 g ({ p.1 with fl := v }, p.2) Z (w.setCell ⟨g, 4, none⟩ (.int .i64 v)) := by
  obtain ⟨x, e, h⟩ := h
  exact ⟨({ x.1 with fl := v }, x.2), by rw [← e]; rfl, h.set 4 _⟩
/-- Its operands' row, that grows. -/
theorem Ik.args (h : Ik B W b en m0 m1 m2 g p Z w) : ∃ ap ac Y, w.cell? ⟨g, 5, none⟩ = some (.slice ap p.1.args.length ac) ∧ St B W ((As.and (rw' B 80 3 argC ap p.1.args.length ac p.1.args) Y)) w ∧ (∀ X w', St B W ((As.and X Y)) w' → w'.cell? ⟨g, 5, none⟩ = some (.slice ap p.1.args.length ac) ∧ w'.frozen? ⟨g, 5, none⟩ = false ∧ g < w'.heap.size) ∧
    ∀ ap' ac' n' args' w', St B W ((As.and (rw' B 80 3 argC ap' n' ac' args') Y)) w' → Ik B W b en m0 m1 m2 g ({ p.1 with args := args' }, p.2) Z (w'.setCell ⟨g, 5, none⟩ (.slice ap' n' ac')) := by
  obtain ⟨x, e, h⟩ := h
  have hc := h.box.get 5 _ rfl
  obtain ⟨Y, hs, back⟩ := h.st
  have hr := hs.sat.1.2.1.1.1
  rw [← e]
  have hr' : x.1.al = x.1.args.length := hr
  refine ⟨x.1.ap, x.1.ac, (As.and (bx g (insC x.1)) (As.and (rw' B 3 1 intC x.1.tp x.1.tl x.1.tc x.2) (As.and Z Y))), by rw [hc, hr']; rfl, ?_, fun X w' h' => (have hb : Box g (insC x.1) w' := h'.sat.2.1; ⟨by rw [hb.get 5 _ rfl, hr']; rfl, hb.2.1 5, hb.1⟩), fun ap' ac' n' args' w' h' => ⟨({ x.1 with ap := ap', al := n', ac := ac', args := args' }, x.2), rfl, ?_⟩⟩
  · show St B W ((As.and (rw' B 80 3 argC x.1.ap x.1.args.length x.1.ac x.1.args) _)) w
    rw [← hr']
    exact hs.imp ⟨fun w x => ⟨x.1.2.1.1, x.1.1, x.1.2.1.2, x.1.2.2, x.2⟩, fun k => by simp only [As.and_c, insRow]; omega⟩
  · refine back _ _ ?_
    have h4 : St B W ((As.and (bx g (insC x.1)) (As.and (rw' B 80 3 argC ap' n' ac' args') (As.and (rw' B 3 1 intC x.1.tp x.1.tl x.1.tc x.2) (As.and Z Y))))) w' := h'.imp ⟨fun w x => ⟨x.2.1, x.1, x.2.2.1, x.2.2.2.1, x.2.2.2.2⟩, fun k => by simp only [As.and_c]; omega⟩
    exact (h4.set 5 _).imp ⟨fun w x => ⟨⟨x.1, ⟨x.2.1, x.2.2.1⟩, x.2.2.2.1⟩, x.2.2.2.2⟩, fun k => by simp only [As.and_c, insRow]; exact Nat.le_of_eq (by simp only [bx_c]; omega)⟩
/-- Its targets' row. -/
theorem Ik.tgs (h : Ik B W b en m0 m1 m2 g p Z w) : ∃ ap ac Y, w.cell? ⟨g, 6, none⟩ = some (.slice ap p.1.tg.length ac) ∧ St B W ((As.and (rw' B 3 1 intC ap p.1.tg.length ac p.1.tg) Y)) w ∧ (∀ X w', St B W ((As.and X Y)) w' → w'.cell? ⟨g, 6, none⟩ = some (.slice ap p.1.tg.length ac) ∧ w'.frozen? ⟨g, 6, none⟩ = false ∧ g < w'.heap.size) ∧
    ∀ ap' ac' n' tg' w', St B W ((As.and (rw' B 3 1 intC ap' n' ac' tg') Y)) w' → Ik B W b en m0 m1 m2 g ({ p.1 with tg := tg' }, p.2) Z (w'.setCell ⟨g, 6, none⟩ (.slice ap' n' ac')) := by
  obtain ⟨x, e, h⟩ := h
  have hc := h.box.get 6 _ rfl
  obtain ⟨Y, hs, back⟩ := h.st
  have hr := hs.sat.1.2.1.2.1
  rw [← e]
  have hr' : x.1.tl = x.2.length := hr
  refine ⟨x.1.tp, x.1.tc, (As.and (bx g (insC x.1)) (As.and (rw' B 80 3 argC x.1.ap x.1.al x.1.ac x.1.args) (As.and Z Y))), by rw [hc, hr']; rfl, ?_, fun X w' h' => (have hb : Box g (insC x.1) w' := h'.sat.2.1; ⟨by rw [hb.get 6 _ rfl, hr']; rfl, hb.2.1 6, hb.1⟩), fun ap' ac' n' tg' w' h' => ⟨({ x.1 with tp := ap', tl := n', tc := ac' }, tg'), rfl, ?_⟩⟩
  · show St B W ((As.and (rw' B 3 1 intC x.1.tp x.2.length x.1.tc x.2) _)) w
    rw [← hr']
    exact hs.imp ⟨fun w x => ⟨x.1.2.1.2, x.1.1, x.1.2.1.1, x.1.2.2, x.2⟩, fun k => by simp only [As.and_c, insRow]; omega⟩
  · refine back _ _ ?_
    have h4 : St B W ((As.and (bx g (insC x.1)) (As.and (rw' B 3 1 intC ap' n' ac' tg') (As.and (rw' B 80 3 argC x.1.ap x.1.al x.1.ac x.1.args) (As.and Z Y))))) w' := h'.imp ⟨fun w x => ⟨x.2.1, x.1, x.2.2.1, x.2.2.2.1, x.2.2.2.2⟩, fun k => by simp only [As.and_c]; omega⟩
    exact (h4.set 6 _).imp ⟨fun w x => ⟨⟨x.1, ⟨x.2.2.1, x.2.1⟩, x.2.2.2.1⟩, x.2.2.2.2⟩, fun k => by simp only [As.and_c, insRow]; exact Nat.le_of_eq (by simp only [bx_c]; omega)⟩
end
end Go.Proofs.YtjomihlnjobndaaGreatDoor
/- The pieces of a text are as the parser's bounds ask. No program here. -/
namespace Go.Proofs.YtjomihlnjobndaaGreatDoor
set_option linter.unusedVariables false
set_option linter.unusedSimpArgs false

theorem word_gd {c : UInt8} {r : List UInt8} (hc : isLetter c = true) : 0 < ((c :: r).take (wordSize (c :: r))).length ∧ wordSize ((c :: r).take (wordSize (c :: r))) = ((c :: r).take (wordSize (c :: r))).length := by
  have hp := wordSize_pos c r hc
  have hle := wordSize_le (c :: r)
  have hw : wordSize (c :: r) = runOf isOfWord (c :: r) := by simp only [wordSize, if_pos hc]
  obtain ⟨n, en⟩ : ∃ n, wordSize (c :: r) = n + 1 := ⟨wordSize (c :: r) - 1, by omega⟩
  have hlen : ((c :: r).take (wordSize (c :: r))).length = wordSize (c :: r) := by rw [List.length_take]; omega
  refine ⟨by omega, ?_⟩
  rw [hlen]
  have e1 : (c :: r).take (wordSize (c :: r)) = c :: r.take n := by rw [en, List.take_succ_cons]
  have e2 : wordSize (c :: r.take n) = runOf isOfWord (c :: r.take n) := by simp only [wordSize, if_pos hc]
  rw [e1, e2, ← e1]
  refine runOf_eq _ _ _ (by omega) (fun i hi => ?_) (fun h => by omega)
  rw [List.getElem_take]
  obtain ⟨_, k⟩ := runOf_at isOfWord (c :: r) i (by omega)
  exact k
theorem number_gd {kind : Nat} {l : List UInt8} {most extra k s : Nat} {b : List UInt8} (h : number kind l most extra = .ok k b s) (line col : Nat) : k = kind ∧ numOf ⟨k, b, line, col⟩ ≤ most := by
  unfold number at h
  split at h
  · cases h
  · split at h
    · rename_i u hp
      split at h
      · cases h
      · rename_i hm
        injection h with h1 h2 h3
        subst h1 h2
        refine ⟨rfl, ?_⟩
        unfold numOf
        simp only [hp]
        omega
    · cases h
theorem first_len {l : List UInt8} {k s : Nat} {b : List UInt8} (h : first l = .ok k b s) : b.length ≤ l.length := by
  have num : ∀ {kind : Nat} {l : List UInt8} {most extra k s : Nat} {b : List UInt8}, number kind l most extra = .ok k b s → b.length ≤ l.length := by
    intro kind l most extra k s b h
    unfold number at h
    split at h
    · cases h
    · split at h
      · split at h
        · cases h
        · injection h with h1 h2 h3
          subst h2
          rw [← take_runOf, List.length_take]; exact Nat.min_le_right _ _
      · cases h
  cases l with
  | nil => cases h
  | cons c r =>
    unfold first at h
    simp only at h
    split at h
    · cases h; simp
    split at h
    · cases h; simp
    split at h
    · cases h; rw [List.length_take]; exact Nat.min_le_right _ _
    split at h
    · exact num h
    split at h
    · exact Nat.le_trans (num h) (Nat.le_succ _)
    split at h
    · cases h; rw [List.length_take, List.length_cons]; omega
    · cases h
theorem first_gd {l : List UInt8} {k s : Nat} {b : List UInt8} (h : first l = .ok k b s) (hl : l.length ≤ 65536) (line col : Nat) : Gd ⟨k, b, line, col⟩ := by
  have hb : b.length ≤ 65536 := Nat.le_trans (first_len h) hl
  have no : ∀ {j : Nat}, j ≠ 1 → j ≠ 3 → Gd ⟨j, b, line, col⟩ := fun h1 h3 => ⟨fun e => absurd e h1, fun e => absurd e h3, hb⟩
  cases l with
  | nil => cases h
  | cons c r =>
    unfold first at h
    simp only at h
    split at h
    · cases h; exact no (by decide) (by decide)
    split at h
    · cases h; exact no (by decide) (by decide)
    split at h
    · rename_i hc
      cases h
      exact ⟨fun _ => word_gd hc, fun e => by simp at e, hb⟩
    split at h
    · obtain ⟨e, _⟩ := number_gd h line col
      subst e
      exact no (by decide) (by decide)
    split at h
    · obtain ⟨e, hm⟩ := number_gd h line col
      subst e
      exact ⟨fun e => by simp at e, fun _ => hm, hb⟩
    split at h
    · cases h; exact no (by decide) (by decide)
    · cases h
theorem lexed_gd {l : List UInt8} {line col : Nat} {ts : List Tok} {f : Option Flt} (h : Lexed l line col ts f) : l.length ≤ 65536 → ∀ t ∈ ts, Gd t := by
  induction h with
  | done _ => intro _ t ht; simp at ht
  | bad _ _ => intro _ t ht; simp at ht
  | step h0 h1 _ ih =>
    rename_i l line col c r k b s ts f h3
    intro hl t ht
    have hlen : (c :: r).length ≤ l.length := by rw [← h0, List.length_drop]; omega
    rcases List.mem_cons.1 ht with rfl | ht
    · exact first_gd h1 (by omega) _ _
    · exact ih (by rw [List.length_drop]; omega) t ht
theorem endTk_gd (t : Tx) : Gd (endTk t) := ⟨fun e => by simp [endTk] at e, fun e => by simp [endTk] at e, by simp [endTk]⟩
end Go.Proofs.YtjomihlnjobndaaGreatDoor
/- A line's parts, as the program lays them together: the same text. No program here. -/
namespace Go.Proofs.YtjomihlnjobndaaGreatDoor
set_option linter.unusedVariables false
set_option linter.unusedSimpArgs false

/-- One part more. -/
def layS (acc p : Tx) : Tx := if acc ≠ [] ∧ p ≠ [] then acc ++ 32 :: p else acc ++ p
def layT (ps : List Tx) : Tx := ps.foldl layS []
def beh (p : Tx) : Tx := if p = [] then [] else 32 :: p
theorem layT_snoc (ps : List Tx) (p : Tx) : layT (ps ++ [p]) = layS (layT ps) p := by unfold layT; rw [List.foldl_append]; rfl
theorem layS_ne {acc : Tx} (h : acc ≠ []) (p : Tx) : layS acc p = acc ++ beh p := by
  unfold layS beh
  by_cases e : p = []
  · rw [if_neg (fun k => k.2 e), if_pos e, e]
  · rw [if_pos ⟨h, e⟩, if_neg e]
theorem fold_ne : ∀ (ps : List Tx) (acc : Tx), acc ≠ [] → ps.foldl layS acc = acc ++ (ps.map beh).flatten
  | [], acc, _ => by simp
  | p :: ps, acc, h => by
    rw [List.foldl_cons, layS_ne h, fold_ne ps _ (by simp [h])]
    simp only [List.map_cons, List.flatten_cons, List.append_assoc]
theorem layT_cons {p : Tx} (h : p ≠ []) (ps : List Tx) : layT (p :: ps) = p ++ (ps.map beh).flatten := by
  unfold layT
  rw [List.foldl_cons, show layS [] p = p from by unfold layS; rw [if_neg fun k => k.1 rfl]; rfl, fold_ne ps p h]
theorem layT_nil (ps : List Tx) : layT ([] :: ps) = layT ps := by
  unfold layT
  rw [List.foldl_cons]
  rfl
theorem beh_ne {p : Tx} (h : p ≠ []) : beh p = 32 :: p := if_neg h
theorem beh_nil : beh [] = [] := rfl
/-- The words of flags, as the program finds them. -/
def flagsP (fl : Int) : Tx := layT ((if fl % 2 = 1 then [[110, 115, 119]] else []) ++ (if fl / 2 % 2 = 1 then [[110, 117, 119]] else []) ++ (if fl / 4 % 2 = 1 then [[101, 120, 97, 99, 116]] else []))
theorem flags_same {fl : Int} (h : 0 ≤ fl ∧ fl ≤ 7) : beh (flagsP fl) = flagsT fl := by
  have : fl = 0 ∨ fl = 1 ∨ fl = 2 ∨ fl = 3 ∨ fl = 4 ∨ fl = 5 ∨ fl = 6 ∨ fl = 7 := by omega
  rcases this with rfl | rfl | rfl | rfl | rfl | rfl | rfl | rfl <;> rfl
def formP (m : PMod) (x : PIns) : List Tx :=
  if 20 ≤ x.op ∧ x.op ≤ 22 then [typeT x.n, listT (x.args.map (argT m.vs)), [116, 111], typeT x.ty]
  else if x.op = 25 then [flagsP x.fl, typeT x.ty, listT ((x.tg.zip x.args).map fun p => layT [blockT p.1, argT m.vs p.2])]
  else if x.op = 26 then [decI x.n]
  else if x.op = 30 then [calT m.xs m.fs x.n ++ 40 :: (listT (x.args.map (argT m.vs)) ++ [41])]
  else if x.op = 29 ∨ x.op = 31 ∨ x.op = 32 ∨ x.op = 34 then [listT (x.args.map (argT m.vs) ++ x.tg.map blockT)]
  else if x.op = 33 ∧ x.args = [] then []
  else [flagsP x.fl, typeT x.ty, listT (x.args.map (argT m.vs))]
def instrP (m : PMod) (x : PIns) : List Tx := (if x.reg < 0 then [] else [regT x.reg, [61]]) ++ opT x.op :: formP m x

theorem dec_ne (n : Nat) : Lib.decDigits n ≠ [] := by
  rw [Lib.decDigits]
  split <;> simp
theorem typeT_ne {t : Int} (h : tyB t = true) : typeT t ≠ [] := by
  have ht := of_decide_eq_true h
  unfold typeT
  by_cases h0 : t = 0
  · rw [if_pos h0]; simp
  rw [if_neg h0]
  by_cases h1 : t = 65
  · rw [if_pos h1]; simp
  rw [if_neg h1, if_pos (by omega)]
  simp
theorem argT_ne (gs : List PVar) (a : Arg) : argT gs a ≠ [] := by
  unfold argT regT decI
  split
  · simp
  split
  · exact dec_ne _
  split
  · simp
  split
  · simp
  · simp
theorem sepBy_ne {sep : Tx} : ∀ {l : List Tx}, l ≠ [] → (∀ x ∈ l, x ≠ []) → sepBy sep l ≠ []
  | [], h, _ => absurd rfl h
  | [x], _, h => h x (List.mem_singleton.2 rfl)
  | x :: y :: l, _, h => by
    show x ++ sep ++ sepBy sep (y :: l) ≠ []
    have := h x (List.mem_cons_self ..)
    simp [this]
theorem list_ne {gs : List PVar} {l : List Arg} (h : l ≠ []) : listT (l.map (argT gs)) ≠ [] :=
  sepBy_ne (by simpa using h) (fun x hx => by
    obtain ⟨a, _, rfl⟩ := List.mem_map.1 hx
    exact argT_ne gs a)
theorem pair_lay (gs : List PVar) (p : Int × Arg) : layT [blockT p.1, argT gs p.2] = pairT gs p := by
  rw [layT_cons (by simp [blockT])]
  show blockT p.1 ++ (beh (argT gs p.2) ++ []) = pairT gs p
  rw [beh_ne (argT_ne _ _), List.append_nil]
  rfl
theorem opT_ne {op : Int} (h : 1 ≤ op ∧ op ≤ 34) : opT op ≠ [] := by
  obtain ⟨k, rfl⟩ : ∃ k : Nat, op = k := ⟨op.toNat, by omega⟩
  have h1 : 1 ≤ k ∧ k ≤ 34 := by omega
  have : ∀ j : Fin 35, 1 ≤ j.val → opT (j.val : Int) ≠ [] := by decide
  exact this ⟨k, by omega⟩ h1.1
theorem behindT_lay {m : PMod} {x : PIns} (h : insB m x = true) : ((formP m x).map beh).flatten = flagsT x.fl ++ behindT m x := by
  unfold insB at h
  simp only [Bool.and_eq_true, decide_eq_true_eq] at h
  obtain ⟨⟨⟨⟨⟨⟨⟨h1, h2⟩, h3⟩, h4⟩, h5⟩, h6⟩, h7⟩, h8⟩ := h
  have hz : 13 < x.op → flagsT x.fl = [] := fun h => by
    unfold flB at h5
    rw [if_pos h] at h5
    rw [of_decide_eq_true h5]
    rfl
  have hzp : 13 < x.op → flagsP x.fl = [] := fun h => by
    unfold flB at h5
    rw [if_pos h] at h5
    rw [of_decide_eq_true h5]
    rfl
  unfold formP behindT
  by_cases c1 : 20 ≤ x.op ∧ x.op ≤ 22
  · rw [if_pos c1, if_pos c1, hz (by omega)]
    have n1 : typeT x.n ≠ [] := typeT_ne (by unfold numB at h4; rw [if_pos c1] at h4; exact h4)
    have n2 : typeT x.ty ≠ [] := typeT_ne (by unfold hasTyB at h3; rw [if_neg (by omega), if_neg (by omega), if_neg (by omega), if_neg (by omega)] at h3; exact h3)
    have n3 : x.args ≠ [] := fun e => by
      unfold cntB at h2
      rw [if_neg (by omega), if_neg (by omega), if_neg (by omega), if_neg (by omega), if_neg (by omega), if_neg (by omega), if_pos (.inl c1)] at h2
      have := (of_decide_eq_true h2).2
      rw [e] at this
      simp at this
    have n4 := list_ne (gs := m.vs) n3
    simp only [List.map_cons, List.map_nil, List.flatten_cons, List.flatten_nil, beh_ne n1, beh_ne n2, beh_ne n4, List.nil_append, List.cons_append, List.append_assoc, List.append_nil]
    rfl
  rw [if_neg c1, if_neg c1]
  by_cases c2 : x.op = 25
  · rw [if_pos c2, if_pos c2, hz (by omega), hzp (by omega)]
    have n2 : typeT x.ty ≠ [] := typeT_ne (by unfold hasTyB at h3; rw [if_neg (by omega), if_neg (by omega), if_neg (by omega), if_neg (by omega)] at h3; exact h3)
    have hp : (fun p : Int × Arg => layT [blockT p.1, argT m.vs p.2]) = pairT m.vs := funext fun p => pair_lay m.vs p
    rw [hp]
    by_cases e : x.args = []
    · rw [if_pos e, e]
      simp only [List.zip_nil_right, List.map_cons, List.map_nil, List.flatten_cons, List.flatten_nil, beh_nil, beh_ne n2, List.nil_append, List.append_nil]
      show 32 :: typeT x.ty ++ beh [] = _
      rw [beh_nil, List.append_nil]
    · have ht : x.tg.length = x.args.length := by
        unfold cntB at h2
        rw [if_pos c2] at h2
        exact of_decide_eq_true h2
      have n5 : listT ((x.tg.zip x.args).map (pairT m.vs)) ≠ [] := sepBy_ne (fun k => by
        have := congrArg List.length k
        rw [List.length_map, List.length_zip, ht, Nat.min_self, List.length_nil] at this
        exact e (List.length_eq_zero_iff.1 this)) (fun y hy => by
        obtain ⟨p, _, rfl⟩ := List.mem_map.1 hy
        simp [pairT, blockT])
      rw [if_neg e]
      simp only [List.map_cons, List.map_nil, List.flatten_cons, List.flatten_nil, beh_nil, beh_ne n2, beh_ne n5, List.nil_append, List.append_nil, List.cons_append]
  rw [if_neg c2, if_neg c2]
  by_cases c3 : x.op = 26
  · rw [if_pos c3, if_pos c3, hz (by omega)]
    simp only [List.map_cons, List.map_nil, List.flatten_cons, List.flatten_nil, beh_ne (dec_ne _), decI, List.nil_append, List.append_nil]
  rw [if_neg c3, if_neg c3]
  by_cases c4 : x.op = 30
  · rw [if_pos c4, if_pos c4, hz (by omega)]
    have n1 : calT m.xs m.fs x.n ++ 40 :: (listT (x.args.map (argT m.vs)) ++ [41]) ≠ [] := by simp
    simp only [List.map_cons, List.map_nil, List.flatten_cons, List.flatten_nil, beh_ne n1, List.nil_append, List.append_nil]
  rw [if_neg c4, if_neg c4]
  by_cases c5 : x.op = 34
  · rw [if_pos (by omega), if_neg (by omega), if_pos (.inl c5), hz (by omega)]
    unfold cntB at h2
    rw [if_neg (by omega), if_neg (by omega), if_neg (by omega), if_neg (by omega), if_neg (by omega), if_pos (by omega)] at h2
    obtain ⟨e1, e2⟩ := of_decide_eq_true h2
    rw [List.length_eq_zero_iff.1 e1, List.length_eq_zero_iff.1 e2]
    rfl
  by_cases c6 : x.op = 29 ∨ x.op = 31 ∨ x.op = 32
  · rw [if_pos (by omega), if_pos c6, hz (by omega)]
    have n1 : listT (x.args.map (argT m.vs) ++ x.tg.map blockT) ≠ [] := sepBy_ne (fun k => by
      have k1 := (List.append_eq_nil_iff.1 k)
      have e1 : x.args.length = 0 := by have := congrArg List.length k1.1; simpa using this
      have e2 : x.tg.length = 0 := by have := congrArg List.length k1.2; simpa using this
      unfold cntB at h2
      rcases c6 with c | c | c
      · rw [if_neg (by omega), if_neg (by omega), if_neg (by omega), if_neg (by omega), if_neg (by omega), if_neg (by omega), if_neg (by omega), if_neg (by omega)] at h2
        have := (of_decide_eq_true h2).2
        omega
      · rw [if_neg (by omega), if_neg (by omega), if_neg (by omega), if_pos c] at h2
        have := (of_decide_eq_true h2).1
        omega
      · rw [if_neg (by omega), if_neg (by omega), if_neg (by omega), if_neg (by omega), if_pos c] at h2
        have := (of_decide_eq_true h2).1
        omega) (fun y hy => by
      rcases List.mem_append.1 hy with hy | hy
      · obtain ⟨a, _, rfl⟩ := List.mem_map.1 hy
        exact argT_ne _ _
      · obtain ⟨a, _, rfl⟩ := List.mem_map.1 hy
        simp [blockT])
    simp only [List.map_cons, List.map_nil, List.flatten_cons, List.flatten_nil, beh_ne n1, List.nil_append, List.append_nil]
  rw [if_neg (by omega), if_neg c6]
  by_cases c7 : x.op = 33 ∧ x.args = []
  · rw [if_pos c7, if_pos (.inr c7), hz (by omega)]
    rfl
  rw [if_neg c7, if_neg (fun k => k.elim c5 c7)]
  have n2 : typeT x.ty ≠ [] := typeT_ne (by
    unfold hasTyB at h3
    rw [if_neg (by omega), if_neg (by omega), if_neg (by omega)] at h3
    by_cases c : x.op = 33
    · rw [if_pos c] at h3
      rw [Bool.and_eq_true] at h3; exact h3.1
    · rw [if_neg c] at h3; exact h3)
  have n3 : x.args ≠ [] := fun e => by
    by_cases c : x.op = 33
    · exact c7 ⟨c, e⟩
    unfold cntB at h2
    rw [e] at h2
    rw [if_neg (by omega), if_neg (by omega), if_neg (by omega), if_neg (by omega), if_neg (by omega), if_neg (by omega)] at h2
    split at h2
    · have := (of_decide_eq_true h2).2; simp at this
    split at h2
    · have := (of_decide_eq_true h2).2; simp at this
    · have := (of_decide_eq_true h2).2; simp at this
  have n4 := list_ne (gs := m.vs) n3
  have hfl : beh (flagsP x.fl) = flagsT x.fl := by
    by_cases c : 13 < x.op
    · rw [hz c, hzp c]; rfl
    · unfold flB at h5
      rw [if_neg c] at h5
      exact flags_same (of_decide_eq_true h5)
  simp only [List.map_cons, List.map_nil, List.flatten_cons, List.flatten_nil, hfl, beh_ne n2, beh_ne n4, List.nil_append, List.append_nil, List.cons_append]
/-- The parts laid together are the line. -/
theorem ins_lay {m : PMod} {x : PIns} (h : insB m x = true) : layT (instrP m x) = insT m x := by
  have hb := behindT_lay h
  have ho : opT x.op ≠ [] := opT_ne (by
    unfold insB at h
    simp only [Bool.and_eq_true, decide_eq_true_eq] at h
    exact h.1.1.1.1.1.1.1)
  unfold instrP insT
  by_cases c : x.reg < 0
  · rw [if_pos c, if_neg (by omega), List.nil_append, List.nil_append, layT_cons ho, hb]
  · rw [if_neg c, if_pos (by omega)]
    show layT (regT x.reg :: [61] :: opT x.op :: formP m x) = _
    rw [layT_cons (by simp [regT])]
    simp only [List.map_cons, List.flatten_cons, hb, beh_ne ho, beh_ne (show ([61] : Tx) ≠ [] by simp), List.append_assoc, List.cons_append, List.nil_append]
end Go.Proofs.YtjomihlnjobndaaGreatDoor
/- The pieces of a spelled text, part by part: words, numbers, registers, names, marks, ends of lines, blanks. No program here. -/
namespace Go.Proofs.YtjomihlnjobndaaGreatDoor
set_option linter.unusedVariables false
set_option linter.unusedSimpArgs false

theorem dg_nat {d : Nat} (h : d < 10) : (UInt8.ofNat (48 + d)).toNat = 48 + d := by
  show (48 + d) % 2 ^ 8 = 48 + d
  omega
theorem dg_digit {d : Nat} (h : d < 10) : isDigit (UInt8.ofNat (48 + d)) = true := by
  unfold isDigit
  rw [dg_nat h]
  simp
  omega
theorem dec_digit (n : Nat) : ∀ c ∈ Lib.decDigits n, isDigit c = true := by
  induction n using Nat.strongRecOn with
  | _ n ih =>
    intro c hc
    rw [Lib.decDigits] at hc
    by_cases h : n < 10
    · rw [dif_pos h, List.mem_singleton] at hc
      subst hc
      exact dg_digit h
    · rw [dif_neg h, List.mem_append, List.mem_singleton] at hc
      rcases hc with hc | rfl
      · exact ih _ (by omega) c hc
      · exact dg_digit (by omega)
theorem dec_head (n : Nat) : n ≠ 0 → ∃ c r, Lib.decDigits n = c :: r ∧ c.toNat ≠ 48 := by
  induction n using Nat.strongRecOn with
  | _ n ih =>
    intro hn
    rw [Lib.decDigits]
    by_cases h : n < 10
    · rw [dif_pos h]
      exact ⟨_, _, rfl, by rw [dg_nat h]; omega⟩
    · rw [dif_neg h]
      obtain ⟨c, r, e, hc⟩ := ih (n / 10) (by omega) (by omega)
      rw [e]
      exact ⟨c, _, rfl, hc⟩
theorem parse_app {M : Nat} (r : List UInt8) : ∀ (l : List UInt8) (a b : Nat), Lib.parseUintM M a l = .ok b → Lib.parseUintM M a (l ++ r) = Lib.parseUintM M b r
  | [], a, b, h => by
    unfold Lib.parseUintM at h
    injection h with h
    subst h
    rfl
  | c :: l, a, b, h => by
    rw [List.cons_append]
    rw [Lib.parseUintM] at h ⊢
    by_cases h1 : 48 ≤ c.toNat ∧ c.toNat ≤ 57
    · rw [if_pos h1] at h ⊢
      by_cases h2 : 1844674407370955162 ≤ a
      · rw [if_pos h2] at h; cases h
      · rw [if_neg h2] at h ⊢
        by_cases h3 : M < a * 10 + (c.toNat - 48)
        · rw [if_pos h3] at h; cases h
        · rw [if_neg h3] at h ⊢
          exact parse_app r l _ b h
    · rw [if_neg h1] at h; cases h
theorem parse_one {M a d : Nat} (hd : d < 10) (ha : a ≤ 1844674407370955161) (hm : a * 10 + d ≤ M) : Lib.parseUintM M a [UInt8.ofNat (48 + d)] = .ok (a * 10 + d) := by
  unfold Lib.parseUintM
  rw [dg_nat hd, if_pos (by omega), if_neg (by omega), if_neg (by omega), show 48 + d - 48 = d by omega]
  rfl
theorem parse_dec {M : Nat} (hM : M ≤ 18446744073709551615) (n : Nat) : n ≤ M → Lib.parseUintM M 0 (Lib.decDigits n) = .ok n := by
  induction n using Nat.strongRecOn with
  | _ n ih =>
    intro hn
    rw [Lib.decDigits]
    by_cases h : n < 10
    · rw [dif_pos h, parse_one h (by omega) (by omega)]
      congr 1
      omega
    · rw [dif_neg h, parse_app _ _ _ _ (ih (n / 10) (by omega) (by omega)), parse_one (by omega) (by omega) (by omega)]
      congr 1
      omega
/-- What follows does not go on. -/
def Stop (p : UInt8 → Bool) (t : Tx) : Prop := ∀ c r, t = c :: r → p c = false
theorem run_all {p : UInt8 → Bool} {t : Tx} (ht : Stop p t) : ∀ {w : Tx}, (∀ c ∈ w, p c = true) → runOf p (w ++ t) = w.length ∧ (w ++ t).takeWhile p = w
  | [], hw => by
    cases t with
    | nil => exact ⟨rfl, rfl⟩
    | cons c r =>
      have h := ht c r rfl
      rw [List.nil_append]
      exact ⟨by rw [runOf_cons, if_neg (by simp [h])]; rfl, by simp [h]⟩
  | c :: w, hw => by
    have h := run_all ht (w := w) (fun x hx => hw x (by simp [hx]))
    have hc := hw c (by simp)
    rw [List.cons_append]
    exact ⟨by rw [runOf_cons, if_pos hc, h.1]; rfl, by rw [List.takeWhile_cons, if_pos hc, h.2]⟩
def KB (t : Tok) : Nat × Tx := (t.kind, t.body)
/-- Ahead of t the text s has these pieces. -/
def Lx (s : Tx) (P : List (Nat × Tx)) (t : Tx) : Prop :=
  ∀ line col, ∃ (line' col' : Nat) (pre : List Tok), pre.map KB = P ∧ ∀ ts f, Lexed t line' col' ts f → Lexed (s ++ t) line col (pre ++ ts) f
theorem Lx.nil (t : Tx) : Lx [] [] t := fun line col => ⟨line, col, [], rfl, fun ts f h => h⟩
theorem Lx.app {s u t : Tx} {P Q : List (Nat × Tx)} (h : Lx s P (u ++ t)) (k : Lx u Q t) : Lx (s ++ u) (P ++ Q) t := by
  intro line col
  obtain ⟨l1, c1, p1, e1, f1⟩ := h line col
  obtain ⟨l2, c2, p2, e2, f2⟩ := k l1 c1
  refine ⟨l2, c2, p1 ++ p2, by rw [List.map_append, e1, e2], fun ts f h => ?_⟩
  rw [List.append_assoc, List.append_assoc]
  exact f1 _ _ (f2 _ _ h)
theorem passed_zero {c : UInt8} {r : Tx} (hc : isBlank c = false) (h : c.toNat ≠ 35) : passed (c :: r) = 0 := by
  unfold passed
  have e : runOf isBlank (c :: r) = 0 := by rw [runOf_cons, if_neg (by simp [hc])]
  rw [e]
  show (if c.toNat = 35 then 0 + runOf isOfLine (c :: r) else 0) = 0
  rw [if_neg h]
theorem Lx.one {c : UInt8} {r t : Tx} {k : Nat} {b : Tx} (hc : isBlank c = false) (h35 : c.toNat ≠ 35) (hf : first (c :: r ++ t) = .ok k b (r.length + 1)) : Lx (c :: r) [(k, b)] t := by
  intro line col
  have hp : passed (c :: r ++ t) = 0 := passed_zero hc h35
  refine ⟨if k = 6 then line + 1 else line, if k = 6 then 1 else col + 0 + (r.length + 1), [⟨k, b, line, col + 0⟩], rfl, fun ts f h => ?_⟩
  have hd : (c :: (r ++ t)).drop (r.length + 1) = t := by simp
  have := Lexed.step (l := c :: r ++ t) (line := line) (col := col) (c := c) (r := r ++ t) (k := k) (b := b) (s := r.length + 1) (ts := ts) (f := f) (by rw [hp]; rfl) hf (by rw [hd, hp]; exact h)
  rw [hp] at this
  exact this
theorem Lx.blank (t : Tx) : Lx [32] [] t := by
  intro line col
  refine ⟨line, col + 1, [], rfl, fun ts f h => ?_⟩
  have hr : runOf isBlank (32 :: t) = runOf isBlank t + 1 := by rw [runOf_cons, if_pos (by decide)]
  have hp : passed (32 :: t) = passed t + 1 := by
    unfold passed
    rw [hr, List.drop_succ_cons]
    split
    · rfl
    · split <;> omega
  rw [List.nil_append]
  show Lexed (32 :: t) line col ts f
  cases h with
  | done h0 => exact .done (by rw [hp, List.drop_succ_cons]; exact h0)
  | bad h0 h1 =>
    have := Lexed.bad (l := 32 :: t) (line := line) (col := col) (by rw [hp, List.drop_succ_cons]; exact h0) h1
    rw [hp, show col + (passed t + 1) = col + 1 + passed t by omega] at this
    exact this
  | step h0 h1 h2 =>
    have := Lexed.step (l := 32 :: t) (line := line) (col := col) (by rw [hp, List.drop_succ_cons]; exact h0) h1 (by rw [hp, show col + (passed t + 1) = col + 1 + passed t by omega]; exact h2)
    rw [hp, show col + (passed t + 1) = col + 1 + passed t by omega] at this
    exact this
theorem Lx.line (t : Tx) : Lx [10] [(6, [])] t := Lx.one (by decide) (by decide) (by unfold first; rfl)
theorem Lx.mark {c : UInt8} (hc : isMark c = true) (t : Tx) : Lx [c] [(5, [c])] t := by
  have h : c.toNat = 61 ∨ c.toNat = 44 ∨ c.toNat = 40 ∨ c.toNat = 41 ∨ c.toNat = 58 := by
    unfold isMark at hc
    simp only [Bool.or_eq_true, beq_iff_eq] at hc
    omega
  refine Lx.one (by unfold isBlank; simp; omega) (by omega) ?_
  show first (c :: t) = _
  unfold first
  dsimp only
  rw [if_neg (by omega), if_pos hc]
  rfl
theorem letter_nat {c : UInt8} (h : isLetter c = true) : (97 ≤ c.toNat ∧ c.toNat ≤ 122) ∨ c.toNat = 95 := by
  unfold isLetter at h
  simpa using h
theorem digit_nat {c : UInt8} (h : isDigit c = true) : 48 ≤ c.toNat ∧ c.toNat ≤ 57 := by
  unfold isDigit at h
  simpa using h
/-- A word: a letter, then letters and digits. -/
def IsW (w : Tx) : Prop := ∃ c r, w = c :: r ∧ isLetter c = true ∧ ∀ x ∈ w, isOfWord x = true
theorem wordSize_all {w t : Tx} (hw : IsW w) (ht : Stop isOfWord t) : wordSize (w ++ t) = w.length := by
  obtain ⟨c, r, rfl, hc, ha⟩ := hw
  have := (run_all ht ha).1
  rw [List.cons_append] at this ⊢
  unfold wordSize
  dsimp only
  rw [if_pos hc]
  exact this
theorem Lx.word {w t : Tx} (hw : IsW w) (ht : Stop isOfWord t) : Lx w [(1, w)] t := by
  have hs := wordSize_all hw ht
  obtain ⟨c, r, rfl, hc, ha⟩ := hw
  have hn := letter_nat hc
  refine Lx.one (by unfold isBlank; simp; omega) (by omega) ?_
  rw [List.cons_append] at hs ⊢
  unfold first
  dsimp only
  rw [if_neg (by omega), if_neg (by unfold isMark; simp; omega), if_pos hc, hs]
  simp
theorem Lx.at {w t : Tx} (hw : IsW w) (ht : Stop isOfWord t) : Lx (64 :: w) [(4, w)] t := by
  have hs := wordSize_all hw ht
  have hl : 0 < w.length := by obtain ⟨c, r, rfl, _⟩ := hw; simp
  refine Lx.one (by decide) (by decide) ?_
  rw [List.cons_append]
  unfold first
  dsimp only
  rw [if_neg (by decide), if_neg (by decide), if_neg (by decide), if_neg (by decide), if_neg (by decide), if_pos ⟨by decide, by rw [hs]; exact hl⟩, hs]
  simp
  omega
theorem number_dec {kind most extra n : Nat} {t : Tx} (ht : Stop isDigit t) (hn : n ≤ most) (hm : most ≤ 18446744073709551615) :
    number kind (Lib.decDigits n ++ t) most extra = .ok kind (Lib.decDigits n) (extra + (Lib.decDigits n).length) := by
  obtain ⟨h1, h2⟩ := run_all ht (dec_digit n)
  unfold number
  rw [h1, h2]
  have h3 : ¬ (1 < (Lib.decDigits n).length ∧ ((Lib.decDigits n ++ t).head?.map UInt8.toNat) = some 48) := by
    rintro ⟨h4, h5⟩
    by_cases h0 : n = 0
    · subst h0
      rw [Lib.decDigits_one (by decide)] at h4
      simp at h4
    · obtain ⟨c, r, e, hc⟩ := dec_head n h0
      rw [e] at h5
      simp at h5
      exact hc h5
  rw [if_neg h3]
  have h6 : Lib.parseUintB 64 (Lib.decDigits n) = .ok n := by
    unfold Lib.parseUintB
    rw [if_neg (dec_ne n)]
    exact parse_dec (by decide) n (by omega)
  rw [h6]
  dsimp only
  rw [if_neg (by omega)]
theorem Lx.num {n : Nat} {t : Tx} (hn : n < 18446744073709551616) (ht : Stop isDigit t) : Lx (Lib.decDigits n) [(2, Lib.decDigits n)] t := by
  have hk := number_dec (kind := 2) (extra := 0) ht (show n ≤ 18446744073709551615 by omega) (Nat.le_refl _)
  have hd := dec_digit n
  obtain ⟨c, r, e⟩ : ∃ c r, Lib.decDigits n = c :: r := by
    cases h : Lib.decDigits n with
    | nil => exact absurd h (dec_ne n)
    | cons c r => exact ⟨c, r, rfl⟩
  rw [e] at hk hd ⊢
  have hc := hd c (by simp)
  have hcn := digit_nat hc
  refine Lx.one (by unfold isBlank; simp; omega) (by omega) ?_
  rw [List.cons_append] at hk ⊢
  unfold first
  dsimp only
  rw [if_neg (by omega), if_neg (by unfold isMark; simp; omega), if_neg (by unfold isLetter; simp; omega), if_pos hc, hk]
  simp
theorem Lx.reg {n : Nat} {t : Tx} (hn : n ≤ 4095) (ht : Stop isDigit t) : Lx (37 :: Lib.decDigits n) [(3, Lib.decDigits n)] t := by
  have hk := number_dec (kind := 3) (extra := 1) ht hn (by decide)
  refine Lx.one (by decide) (by decide) ?_
  rw [List.cons_append]
  unfold first
  dsimp only
  rw [if_neg (by decide), if_neg (by decide), if_neg (by decide), if_neg (by decide), if_pos (by decide), hk, Nat.add_comm]
end Go.Proofs.YtjomihlnjobndaaGreatDoor
/- Two texts with the same pieces, but for more ends of lines: the pure parser reads the same of a line. No program here. -/
namespace Go.Proofs.YtjomihlnjobndaaGreatDoor
set_option linter.unusedVariables false
set_option linter.unusedSimpArgs false

/-- The same piece, wherever it stands. -/
def sameT (t t' : Tok) : Prop := t.kind = t'.kind ∧ t.body = t'.body
theorem isTk_same {k : Nat} {b : Tx} {t t' : Tok} (h : sameT t t') : isTk k b t = isTk k b t' := by
  unfold isTk
  rw [h.1, h.2]
theorem isTk_kind {k : Nat} {b : Tx} {t : Tok} (h : isTk k b t = true) : t.kind = k := by
  unfold isTk at h
  rw [Bool.and_eq_true] at h
  simpa using h.1
/-- The same pieces; where an end of a line stands, one more may stand. -/
inductive Wd : List Tok → List Tok → Prop
  | nil : Wd [] []
  | one {t t' l l'} : sameT t t' → Wd l l' → Wd (t :: l) (t' :: l')
  | more {t t' u l l'} : isTk 6 [] t = true → sameT t t' → sameT t u → Wd l l' → Wd (t :: l) (t' :: u :: l')
def keyT (t : Tok) : Nat × Tx := (t.kind, t.body)
def W2 (n n' : Nat) (s s' : PS) : Prop := Wd s.ts s'.ts ∧ s.asked.map keyT = s'.asked.map keyT ∧ s.ts.length ≤ n ∧ s'.ts.length ≤ n'
theorem W2.mono {n n' k k' : Nat} {s s' : PS} (h : W2 n n' s s') (h1 : n ≤ k) (h2 : n' ≤ k') : W2 k k' s s' := ⟨h.1, h.2.1, Nat.le_trans h.2.2.1 h1, Nat.le_trans h.2.2.2 h2⟩
/-- Both answer, and so, or both refuse for the same reason. -/
def RlAt {α : Type} (x y : Except Flt (α × PS)) (Q : α → α → PS → PS → Prop) : Prop :=
  match x, y with
  | .ok (a, t), .ok (a', t') => Q a a' t t'
  | .error e, .error e' => e.code = e'.code
  | _, _ => False
def Rl {α : Type} (p p' : PM α) (R : PS → PS → Prop) (Q : α → α → PS → PS → Prop) : Prop := ∀ s s', R s s' → RlAt (p s) (p' s') Q
theorem RlAt.mono {α : Type} {x y : Except Flt (α × PS)} {Q T : α → α → PS → PS → Prop} (h : RlAt x y Q) (k : ∀ a a' s s', Q a a' s s' → T a a' s s') : RlAt x y T := by
  cases x with
  | error e =>
    cases y with
    | error e' => exact h
    | ok y => exact h.elim
  | ok x =>
    cases y with
    | error e' => exact h.elim
    | ok y => exact k _ _ _ _ h
section
variable {α β : Type} {R : PS → PS → Prop}
theorem Rl.bind {p p' : PM α} {f f' : α → PM β} {Q : α → α → PS → PS → Prop} {T : β → β → PS → PS → Prop} (h : Rl p p' R Q) (k : ∀ a a', Rl (f a) (f' a') (Q a a') T) : Rl (p >>= f) (p' >>= f') R T := by
  intro s s' hs
  have h1 := h s s' hs
  show RlAt (p s >>= fun x => f x.1 x.2) (p' s' >>= fun x => f' x.1 x.2) T
  cases hp : p s with
  | error e =>
    cases hp' : p' s' with
    | error e' => rw [hp, hp'] at h1; exact h1
    | ok x' => rw [hp, hp'] at h1; exact h1.elim
  | ok x =>
    cases hp' : p' s' with
    | error e' => rw [hp, hp'] at h1; exact h1.elim
    | ok x' =>
      rw [hp, hp'] at h1
      exact k x.1 x'.1 x.2 x'.2 h1
theorem Rl.pure {a a' : α} {Q : α → α → PS → PS → Prop} (h : ∀ s s', R s s' → Q a a' s s') : Rl (Pure.pure a) (Pure.pure a') R Q := fun s s' hs => h s s' hs
theorem Rl.bad {c : Nat} {t t' : Tok} {Q : α → α → PS → PS → Prop} : Rl (qBad c t) (qBad c t') R Q := fun s s' hs => rfl
theorem Rl.pre {R' : PS → PS → Prop} {p p' : PM α} {Q : α → α → PS → PS → Prop} (h : Rl p p' R Q) (k : ∀ s s', R' s s' → R s s') : Rl p p' R' Q := fun s s' hs => h s s' (k s s' hs)
theorem Rl.of {P : Prop} {p p' : PM α} {Q : α → α → PS → PS → Prop} (h : P → Rl p p' R Q) (k : ∀ s s', R s s' → P) : Rl p p' R Q := fun s s' hs => h (k s s' hs) s s' hs
theorem Rl.ite {c c' : Prop} [Decidable c] [Decidable c'] {p q p' q' : PM α} {Q : α → α → PS → PS → Prop} (e : c ↔ c') (h : c → Rl p p' R Q) (k : ¬ c → Rl q q' R Q) : Rl (if c then p else q) (if c' then p' else q') R Q := by
  by_cases hc : c
  · rw [if_pos hc, if_pos (e.1 hc)]; exact h hc
  · rw [if_neg hc, if_neg (fun x => hc (e.2 x))]; exact k hc
end
/-- The pieces that stand there are the same. -/
def Hd (n n' : Nat) (en en' t t' : Tok) (s s' : PS) : Prop := W2 n n' s s' ∧ sameT t t' ∧ s.ts.head?.getD en = t ∧ s'.ts.head?.getD en' = t'
theorem next_rl {n n' : Nat} {en en' : Tok} (he : sameT en en') : Rl (qNext en) (qNext en') (W2 n n') (Hd n n' en en') := by
  intro s s' hs
  show Hd n n' en en' (s.ts.head?.getD en) (s'.ts.head?.getD en') s s'
  refine ⟨hs, ?_, rfl, rfl⟩
  obtain ⟨hw, _⟩ := hs
  revert hw
  generalize s.ts = l
  generalize s'.ts = l'
  intro hw
  cases hw with
  | nil => exact he
  | one h _ => exact h
  | more _ h _ _ => exact h
/-- Going on behind what is no end of a line. -/
theorem pass_rl {n n' : Nat} {en en' t t' : Tok} (h6 : t.kind ≠ 6) (hen : en.kind = 6) : Rl qPass qPass (Hd n n' en en' t t') (fun _ _ s s' => W2 (n - 1) (n' - 1) s s' ∧ 0 < n ∧ 0 < n') := by
  intro s s' hs
  obtain ⟨⟨hw, ha, l1, l2⟩, _, h1, h2⟩ := hs
  show W2 (n - 1) (n' - 1) { s with ts := s.ts.tail } { s' with ts := s'.ts.tail } ∧ 0 < n ∧ 0 < n'
  cases hw' : s.ts with
  | nil => rw [hw'] at h1; exact absurd (by rw [← h1]; exact hen) h6
  | cons x l =>
    rw [hw'] at hw h1 l1
    obtain rfl : x = t := h1
    cases hw'' : s'.ts with
    | nil => rw [hw''] at hw; cases hw
    | cons y l' =>
      rw [hw''] at hw l2
      rw [List.length_cons] at l1 l2
      refine ⟨⟨?_, ha, by show l.length ≤ n - 1; omega, by show l'.length ≤ n' - 1; omega⟩, by omega, by omega⟩
      cases hw with
      | one _ h => exact h
      | more k _ _ _ => exact absurd (isTk_kind k) h6
theorem pass_rl2 {n n' : Nat} {en en' t t' : Tok} (h6 : t.kind ≠ 6) (hen : en.kind = 6) : Rl qPass qPass (Hd n n' en en' t t') (fun _ _ => W2 n n') := by
  intro s s' hs
  have := pass_rl h6 hen s s' hs
  exact this.1.mono (Nat.sub_le _ _) (Nat.sub_le _ _)
theorem num_same {t t' : Tok} (h : sameT t t') : numOf t = numOf t' := by unfold numOf; rw [h.2]
def Eqs (n n' : Nat) {α : Type} (a a' : α) (s s' : PS) : Prop := a = a' ∧ W2 n n' s s'
section
variable {n n' : Nat} {en en' : Tok} (he : sameT en en') (hk : en.kind = 6)
include he hk
theorem passed_rl3 {k : Nat} (h6 : k ≠ 6) (b : Tx) : Rl (qPassed en k b) (qPassed en' k b) (W2 n n') (fun b b' s s' => b = b' ∧ W2 n n' s s' ∧ (b = true → W2 (n - 1) (n' - 1) s s' ∧ 0 < n ∧ 0 < n')) := by
  unfold qPassed
  refine Rl.bind (next_rl he) fun t t' => Rl.of (fun hs => ?_) (fun s s' h => h.2.1)
  refine Rl.ite (by rw [isTk_same hs]) (fun hc => Rl.bind (pass_rl (by rw [isTk_kind hc]; exact h6) hk) fun _ _ => Rl.pure fun s s' h => ⟨rfl, h.1.mono (Nat.sub_le _ _) (Nat.sub_le _ _), fun _ => h⟩) (fun _ => Rl.pure fun s s' h => ⟨rfl, h.1, fun e => by cases e⟩)
theorem passed_rl {k : Nat} (h6 : k ≠ 6) (b : Tx) : Rl (qPassed en k b) (qPassed en' k b) (W2 n n') (Eqs n n') := by
  exact fun s s' hs => (passed_rl3 he hk h6 b s s' hs).mono fun _ _ _ _ h => ⟨h.1, h.2.1⟩
theorem this_rl {k : Nat} (h6 : k ≠ 6) (b : Tx) : Rl (qThis en k b) (qThis en' k b) (W2 n n') (Eqs n n') := by
  unfold qThis
  refine Rl.bind (next_rl he) fun t t' => Rl.of (fun hs => ?_) (fun s s' h => h.2.1)
  refine Rl.ite (by rw [isTk_same hs]) (fun hc s s' h => ⟨rfl, pass_rl2 (by rw [isTk_kind hc]; exact h6) hk s s' h⟩) (fun _ => Rl.bad)
theorem want_rl {k : Nat} (h6 : k ≠ 6) : Rl (qWant en k) (qWant en' k) (W2 n n') (fun t t' s s' => sameT t t' ∧ W2 n n' s s') := by
  unfold qWant
  refine Rl.bind (next_rl he) fun t t' => Rl.of (fun hs => ?_) (fun s s' h => h.2.1)
  refine Rl.ite (by rw [hs.1]) (fun hc => ?_) (fun _ => Rl.bad)
  have e : t.kind = k := by simpa using hc
  exact Rl.bind (pass_rl2 (by rw [e]; exact h6) hk) fun _ _ => Rl.pure fun s s' h => ⟨hs, h⟩
theorem type_rl : Rl (qType en) (qType en') (W2 n n') (Eqs n n') := by
  unfold qType
  refine Rl.bind (want_rl he hk (by decide)) fun t t' => Rl.of (fun hs => ?_) (fun s s' h => h.1)
  rw [hs.2]
  split
  · exact Rl.pure fun s s' h => ⟨rfl, h.2⟩
  · exact Rl.bad
theorem size_rl : Rl (qSize en) (qSize en') (W2 n n') (Eqs n n') := by
  unfold qSize
  refine Rl.bind (want_rl he hk (by decide)) fun t t' => Rl.of (fun hs => ?_) (fun s s' h => h.1)
  rw [num_same hs]
  exact Rl.ite Iff.rfl (fun _ => Rl.bad) (fun _ => Rl.pure fun s s' h => ⟨rfl, h.2⟩)
theorem block_rl : Rl (qBlock en) (qBlock en') (W2 n n') (Eqs n n') := by
  unfold qBlock
  refine Rl.bind (next_rl he) fun t t' => Rl.of (fun hs => ?_) (fun s s' h => h.2.1)
  have e : blockOfP t = blockOfP t' := by unfold blockOfP; rw [hs.1, hs.2]
  rw [← e]
  split
  · rename_i j hn
    refine Rl.bind (pass_rl2 (fun h => ?_) hk) fun _ _ => Rl.pure fun s s' h => ⟨rfl, h⟩
    unfold blockOfP at hn
    rw [h] at hn
    cases hn
  · exact Rl.bad
theorem more_rl {α : Type} {item item' : List α → PM α} (hi : ∀ (n n' : Nat) acc, Rl (item acc) (item' acc) (W2 n n') (Eqs n n')) : ∀ (k k' : Nat) (n n' : Nat) (acc : List α), n < k → n' < k' → Rl (qMore en item k acc) (qMore en' item' k' acc) (W2 n n') (Eqs n n')
  | 0, _, _, _, _, h, _ => absurd h (Nat.not_lt_zero _)
  | _ + 1, 0, _, _, _, _, h => absurd h (Nat.not_lt_zero _)
  | k + 1, k' + 1, n, n', acc, h1, h2 => by
    unfold qMore
    refine Rl.bind (passed_rl3 he hk (by decide) _) fun b b' => Rl.of (fun hb => ?_) (fun s s' h => h.1)
    subst hb
    refine Rl.ite Iff.rfl (fun hb => ?_) (fun _ => Rl.pure fun s s' h => ⟨rfl, h.2.1⟩)
    refine Rl.of (P := 0 < n ∧ 0 < n') (fun hn => ?_) (fun s s' h => (h.2.2 hb).2)
    refine Rl.bind ((hi (n - 1) (n' - 1) acc).pre fun s s' h => (h.2.2 hb).1) fun a a' => Rl.of (fun ha => ?_) (fun s s' h => h.1)
    subst ha
    exact fun s s' h => (more_rl hi k k' (n - 1) (n' - 1) (acc ++ [a]) (by omega) (by omega) s s' h.2).mono fun _ _ _ _ h3 => ⟨h3.1, h3.2.mono (Nat.sub_le _ _) (Nat.sub_le _ _)⟩
theorem commas_rl {α : Type} {item item' : List α → PM α} (hi : ∀ (n n' : Nat) acc, Rl (item acc) (item' acc) (W2 n n') (Eqs n n')) : Rl (qCommas en item) (qCommas en' item') (W2 n n') (Eqs n n') := by
  unfold qCommas
  refine Rl.bind (hi n n' []) fun a a' => Rl.of (fun ha => ?_) (fun s s' h => h.1)
  subst ha
  intro s s' h
  show RlAt (qMore en item (s.ts.length + 1) [a] s) (qMore en' item' (s'.ts.length + 1) [a] s') (Eqs n n')
  exact (more_rl he hk hi (s.ts.length + 1) (s'.ts.length + 1) s.ts.length s'.ts.length [a] (Nat.lt_succ_self _) (Nat.lt_succ_self _) s s' ⟨h.2.1, h.2.2.1, Nat.le_refl _, Nat.le_refl _⟩).mono fun _ _ _ _ h3 => ⟨h3.1, h3.2.mono h.2.2.2.1 h.2.2.2.2⟩
end
end Go.Proofs.YtjomihlnjobndaaGreatDoor
