/- Package dom: lookUp. -/
import Derived.Test.YtphdhndljgihmaaRound
import Derived.BigQuiet
import Derived.Deep.QuietTactic
import Derived.Deep.RegionHeld3
import Derived.Deep.DeepCutAuto
namespace Go.Proofs.Ytphdhndljgihmaa
open Go.RowKit Go.Maps
set_option linter.unusedVariables false
set_option linter.unusedSimpArgs false

theorem below_drewM (B : Nat) (w : World) (n : Nat) : Below B w (w.drewN n) := ⟨rfl, rfl, rfl, Nat.le_refl _, fun _ _ => rfl⟩
/-- Blocks but those of p lie as they lay. -/
structure Exc (p : Nat → Prop) (W w : World) : Prop where
  os : w.os = W.os
  tape : w.tape = W.tape
  output : w.output = W.output
  size : W.heap.size ≤ w.heap.size
  block : ∀ k, k < W.heap.size → ¬ p k → w.heap[k]? = W.heap[k]?
section
variable {p : Nat → Prop} {W w w' : World}
theorem Exc.refl (p : Nat → Prop) (W : World) : Exc p W W := ⟨rfl, rfl, rfl, Nat.le_refl _, fun _ _ _ => rfl⟩
theorem Exc.trans (h : Exc p W w) (k : Exc p w w') : Exc p W w' :=
  ⟨k.os.trans h.os, k.tape.trans h.tape, k.output.trans h.output, Nat.le_trans h.size k.size, fun i hi hp => (k.block i (by have := h.size; omega) hp).trans (h.block i hi hp)⟩
theorem Exc.of (h : Below w.heap.size w w') : Exc p w w' := ⟨h.os, h.tape, h.output, h.size, fun i hi _ => h.block i hi⟩
theorem Exc.later (h : Exc p W w) (hb : Below w.heap.size w w') : Exc p W w' := h.trans (Exc.of hb)
theorem Exc.set (h : Exc p W w) {a : Addr} (ha : p a.block ∨ W.heap.size ≤ a.block) (v : Value) : Exc p W (w.setCell a v) :=
  ⟨h.os, h.tape, h.output, by rw [setCell_size]; exact h.size, fun i hi hp => (Below.heap_setCell w a v i (fun e => by
    rcases ha with ha | ha
    · exact hp (by first | exact e ▸ ha | exact e.symm ▸ ha)
    · omega)).trans (h.block i hi hp)⟩
theorem Exc.grown (h : Exc p W w) {row : Option Nat} (hg : w.grownBy w' row) (hr : ∀ r, row = some r → p r ∨ W.heap.size ≤ r) : Exc p W w' :=
  ⟨hg.os.trans h.os, hg.tape.trans h.tape, hg.output.trans h.output, Nat.le_trans h.size hg.size, fun i hi hp => (hg.block i (by have := h.size; omega) (fun e => by
    rcases hr i e.symm with k | k
    · exact hp k
    · omega)).trans (h.block i hi hp)⟩
theorem Exc.mono {q : Nat → Prop} (h : Exc p W w) (hq : ∀ k, k < W.heap.size → p k → q k) : Exc q W w := ⟨h.os, h.tape, h.output, h.size, fun k hk hn => h.block k hk fun hp => hn (hq k hk hp)⟩
theorem Exc.past (h : Exc p W w) {B : Nat} (hB : B ≤ W.heap.size) (hp : ∀ k, p k → B ≤ k) : Past B W w := ⟨hB, h.os, h.tape, h.output, h.size, fun k hk => h.block k (by omega) fun e => by have := hp k e; omega⟩
end
/-- The forest in memory: three rows that lie apart. -/
structure ForM (sz a b c : Nat) (smr : Nat → Nat) (ab : Nat → Int) (be : Nat → Nat) (w : World) : Prop where
  ra : w.rowIs a 3 sz (fun i => .int .i64 (smr i : Nat))
  rb : w.rowIs b 3 sz (fun i => .int .i64 (ab i))
  rc : w.rowIs c 3 sz (fun i => .int .i64 (be i : Nat))
  nab : a ≠ b
  nac : a ≠ c
  nbc : b ≠ c
section
variable {sz a b c : Nat} {smr : Nat → Nat} {ab : Nat → Int} {be : Nat → Nat} {w w' : World}
theorem ForM.later (h : ForM sz a b c smr ab be w) (hb : Below w.heap.size w w') : ForM sz a b c smr ab be w' :=
  ⟨rowIs_kept h.ra (below_grown hb) (by simp), rowIs_kept h.rb (below_grown hb) (by simp), rowIs_kept h.rc (below_grown hb) (by simp), h.nab, h.nac, h.nbc⟩
theorem ForM.kept (h : ForM sz a b c smr ab be w) {row : Option Nat} (hg : w.grownBy w' row) (ha : some a ≠ row) (hb : some b ≠ row) (hc : some c ≠ row) : ForM sz a b c smr ab be w' :=
  ⟨rowIs_kept h.ra hg ha, rowIs_kept h.rb hg hb, rowIs_kept h.rc hg hc, h.nab, h.nac, h.nbc⟩
theorem ForM.alloc (h : ForM sz a b c smr ab be w) (o : Obj) : ForM sz a b c smr ab be (w.alloc o) := h.later ((Below.refl _ _).alloc (Nat.le_refl _) o)
theorem ForM.setA (h : ForM sz a b c smr ab be w) (i x : Nat) : ForM sz a b c (fun j => if j = i then x else smr j) ab be (w.setCell ⟨a, i, none⟩ (.int .i64 x)) :=
  ⟨(h.ra.set i _).congr (fun j hj => by by_cases e : j = i <;> simp [e]), h.rb.setOther (by have := h.nab; dsimp only; omega) _, h.rc.setOther (by have := h.nac; dsimp only; omega) _, h.nab, h.nac, h.nbc⟩
theorem ForM.setB (h : ForM sz a b c smr ab be w) (i : Nat) (x : Int) : ForM sz a b c smr (fun j => if j = i then x else ab j) be (w.setCell ⟨b, i, none⟩ (.int .i64 x)) :=
  ⟨h.ra.setOther (by have := h.nab; dsimp only; omega) _, (h.rb.set i _).congr (fun j hj => by by_cases e : j = i <;> simp [e]), h.rc.setOther (by have := h.nbc; dsimp only; omega) _, h.nab, h.nac, h.nbc⟩
theorem ForM.setC (h : ForM sz a b c smr ab be w) (i x : Nat) : ForM sz a b c smr ab (fun j => if j = i then x else be j) (w.setCell ⟨c, i, none⟩ (.int .i64 x)) :=
  ⟨h.ra.setOther (by have := h.nac; dsimp only; omega) _, h.rb.setOther (by have := h.nbc; dsimp only; omega) _, (h.rc.set i _).congr (fun j hj => by by_cases e : j = i <;> simp [e]), h.nab, h.nac, h.nbc⟩
theorem ForM.setOther (h : ForM sz a b c smr ab be w) {g : Addr} (ha : a ≠ g.block) (hb : b ≠ g.block) (hc : c ≠ g.block) (v : Value) : ForM sz a b c smr ab be (w.setCell g v) :=
  ⟨h.ra.setOther ha _, h.rb.setOther hb _, h.rc.setOther hc _, h.nab, h.nac, h.nbc⟩
theorem ForM.congr {smr' : Nat → Nat} {ab' : Nat → Int} {be' : Nat → Nat} (h : ForM sz a b c smr ab be w) (e1 : ∀ i, i < sz → smr i = smr' i) (e2 : ∀ i, i < sz → ab i = ab' i) (e3 : ∀ i, i < sz → be i = be' i) : ForM sz a b c smr' ab' be' w :=
  ⟨h.ra.congr (fun i hi => by rw [e1 i hi]), h.rb.congr (fun i hi => by rw [e2 i hi]), h.rc.congr (fun i hi => by rw [e3 i hi]), h.nab, h.nac, h.nbc⟩
end
/-- The forest's value. -/
def forV (sz a b c : Nat) : List Value := [.slice (some ⟨a, 0, none⟩) sz sz, .slice (some ⟨b, 0, none⟩) sz sz, .slice (some ⟨c, 0, none⟩) sz sz]
/-- What stands while lookUp goes on. -/
structure LkI (W : World) (sz a b c : Nat) (smr : Nat → Nat) (ab : Nat → Int) (be : Nat → Nat) (w : World) : Prop where
  exc : Exc (fun k => k = b ∨ k = c) W w
  tbox : Box W.heap.size (forV sz a b c) w
  fm : ForM sz a b c smr ab be w
section
variable {W w w' : World} {sz a b c : Nat} {smr : Nat → Nat} {ab : Nat → Int} {be : Nat → Nat}
theorem LkI.later (h : LkI W sz a b c smr ab be w) (hb : Below w.heap.size w w') : LkI W sz a b c smr ab be w' := ⟨h.exc.later hb, h.tbox.later hb, h.fm.later hb⟩
theorem LkI.alloc (h : LkI W sz a b c smr ab be w) (o : Obj) : LkI W sz a b c smr ab be (w.alloc o) := h.later ((Below.refl _ _).alloc (Nat.le_refl _) o)
theorem LkI.kept (h : LkI W sz a b c smr ab be w) {row : Option Nat} (hg : w.grownBy w' row) (hr : ∀ r, row = some r → W.heap.size < r) (ha : a < W.heap.size) (hb : b < W.heap.size) (hc : c < W.heap.size) : LkI W sz a b c smr ab be w' :=
  ⟨h.exc.grown hg (fun r e => .inr (Nat.le_of_lt (hr r e))), h.tbox.kept hg (fun e => by have := hr _ e.symm; omega), h.fm.kept hg (fun e => by have := hr _ e.symm; omega) (fun e => by have := hr _ e.symm; omega) (fun e => by have := hr _ e.symm; omega)⟩
end
/-- What lookUp answers. -/
def LkEnds (W : World) (sz a b c : Nat) (smr : Nat → Nat) (pa sg : Nat → Nat) (k p : Nat) (e : Ending) (w' : World) : Prop :=
  ∃ (ab' : Nat → Int) (be' : Nat → Nat), e = .returned (.int .i64 (be' p : Nat)) ∧ be' p < sz ∧ Exc (fun k => k = b ∨ k = c) W w' ∧ ForM sz a b c smr ab' be' w' ∧ For sz pa sg k ab' be' ∧ Look pa sg k p (be' p)
theorem nat_ne (x : Nat) : (((x : Nat) : Int) != -1) = true := bne_iff_ne.2 (by omega)
theorem one_ne : ((-1 : Int) != -1) = false := rfl
end Go.Proofs.Ytphdhndljgihmaa
