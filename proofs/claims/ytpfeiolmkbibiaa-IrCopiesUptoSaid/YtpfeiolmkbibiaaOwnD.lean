/- Modules as data; modules that lie in memory, and modules that a call owns. -/
import Derived.Test.YtpfeiolmkbibiaaOwnC
namespace Go.Proofs.Ytpfeiolmkbibiaa
open Go.RowKit Go.Maps
set_option linter.unusedVariables false
set_option linter.unusedSimpArgs false

/-! Data. -/
structure PIns where
  op : Int
  reg : Int
  ty : Int
  n : Int
  fl : Int
  args : List Arg
  tg : List Int
structure PFn where
  nm : ByteArray
  ps : List Int
  rt : Int
  bs : List (List PIns)
structure PExt where
  nm : ByteArray
  ps : List Int
  rt : Int
structure PVar where
  nm : ByteArray
  size : Int
structure PMod where
  vs : List PVar
  xs : List PExt
  fs : List PFn
/-! Data with the places of its lists. -/
abbrev LI := Ins × List Int
structure LB where
  p : Option Addr
  n : Nat
  k : Nat
  code : List LI
structure LFn where
  nm : ByteArray
  pp : Option Addr
  pn : Nat
  pc : Nat
  ps : List Int
  rt : Int
  bp : Option Addr
  bn : Nat
  bc : Nat
  bs : List LB
structure LExt where
  nm : ByteArray
  pp : Option Addr
  pn : Nat
  pc : Nat
  ps : List Int
  rt : Int
structure LMod where
  vp : Option Addr
  vn : Nat
  vc : Nat
  vs : List PVar
  xp : Option Addr
  xn : Nat
  xc : Nat
  xs : List LExt
  fp : Option Addr
  fn : Nat
  fc : Nat
  fs : List LFn
def insD (x : LI) : PIns := ⟨x.1.op, x.1.reg, x.1.ty, x.1.n, x.1.fl, x.1.args, x.2⟩
def blkD (c : LB) : List PIns := c.code.map insD
def fnD (f : LFn) : PFn := ⟨f.nm, f.ps, f.rt, f.bs.map blkD⟩
def extD (f : LExt) : PExt := ⟨f.nm, f.ps, f.rt⟩
def modD (m : LMod) : PMod := ⟨m.vs, m.xs.map extD, m.fs.map fnD⟩
def intC (i : Int) : List Value := [.int .i64 i]
def liC (x : LI) : List Value := insC x.1
def blkC (c : LB) : List Value := [.slice c.p c.n c.k]
def fnC (f : LFn) : List Value := [.string f.nm, .slice f.pp f.pn f.pc, .int .i64 f.rt, .slice f.bp f.bn f.bc]
def extC (f : LExt) : List Value := [.string f.nm, .slice f.pp f.pn f.pc, .int .i64 f.rt]
def varC (v : PVar) : List Value := [.string v.nm, .int .i64 v.size]
def modC (m : LMod) : List Value := [.slice m.vp m.vn m.vc, .slice m.xp m.xn m.xc, .slice m.fp m.fn m.fc]
theorem liC_one (x : LI) : ∀ u ∈ liC x, u.oneCell' = true := insC_one x.1
theorem blkC_one (x : LB) : ∀ u ∈ blkC x, u.oneCell' = true := by intro u hu; unfold blkC at hu; simp at hu; rw [hu]; rfl
theorem fnC_one (x : LFn) : ∀ u ∈ fnC x, u.oneCell' = true := by intro u hu; unfold fnC at hu; simp at hu; rcases hu with rfl | rfl | rfl | rfl <;> rfl
theorem extC_one (x : LExt) : ∀ u ∈ extC x, u.oneCell' = true := by intro u hu; unfold extC at hu; simp at hu; rcases hu with rfl | rfl | rfl <;> rfl
theorem varC_one (x : PVar) : ∀ u ∈ varC x, u.oneCell' = true := by intro u hu; unfold varC at hu; simp at hu; rcases hu with rfl | rfl <;> rfl
theorem intC_one (x : Int) : ∀ u ∈ intC x, u.oneCell' = true := by intro u hu; unfold intC at hu; simp at hu; rw [hu]; rfl
theorem intC_map (l : List Int) : l.flatMap intC = l.map (Value.int .i64) := by induction l with | nil => rfl | cons x l ih => rw [List.flatMap_cons, ih]; rfl

/-! A list in memory, below B. -/
def RowAt (B : Nat) (w : World) (p : Option Addr) (cs : List Value) : Prop := ∀ j u, cs[j]? = some u → ∃ a, p = some a ∧ a.block < B ∧ w.cell? (a.add j) = some u
def ListIn {α : Type} (cel : α → List Value) (E : Nat → World → α → Prop) (B : Nat) (w : World) (p : Option Addr) (n c : Nat) (xs : List α) : Prop :=
  n = xs.length ∧ n ≤ c ∧ c ≤ maxLen ∧ RowAt B w p (xs.flatMap cel) ∧ ∀ x ∈ xs, E B w x
def NoMem {α : Type} : Nat → World → α → Prop := fun _ _ _ => True
def InsIn (B : Nat) (w : World) (x : LI) : Prop := ListIn argC NoMem B w x.1.ap x.1.al x.1.ac x.1.args ∧ ListIn intC NoMem B w x.1.tp x.1.tl x.1.tc x.2
def BlkIn (B : Nat) (w : World) (c : LB) : Prop := ListIn liC InsIn B w c.p c.n c.k c.code
def FnIn (B : Nat) (w : World) (f : LFn) : Prop := ListIn intC NoMem B w f.pp f.pn f.pc f.ps ∧ ListIn blkC BlkIn B w f.bp f.bn f.bc f.bs
def ExtIn (B : Nat) (w : World) (f : LExt) : Prop := ListIn intC NoMem B w f.pp f.pn f.pc f.ps
def ModIn (B : Nat) (w : World) (m : LMod) : Prop := ListIn varC NoMem B w m.vp m.vn m.vc m.vs ∧ ListIn extC ExtIn B w m.xp m.xn m.xc m.xs ∧ ListIn fnC FnIn B w m.fp m.fn m.fc m.fs
theorem RowAt.below {B : Nat} {W w : World} {p : Option Addr} {cs : List Value} (h : RowAt B W p cs) (hb : Below B W w) : RowAt B w p cs := fun j u hu => by
  obtain ⟨a, e, ha, hc⟩ := h j u hu
  exact ⟨a, e, ha, (hb.cell (p := a.add j) (by rw [add_block]; exact ha)).trans hc⟩
theorem RowAt.mono {B B' : Nat} {w : World} {p : Option Addr} {cs : List Value} (h : RowAt B w p cs) (hB : B ≤ B') : RowAt B' w p cs := fun j u hu => by
  obtain ⟨a, e, ha, hc⟩ := h j u hu
  exact ⟨a, e, Nat.lt_of_lt_of_le ha hB, hc⟩
/-- What lies below B stays, when all below B stays; and lies below each greater number. -/
def Lasts {α : Type} (E : Nat → World → α → Prop) : Prop := ∀ B B' W w x, Below B W w → B ≤ B' → E B W x → E B' w x
theorem lasts_NoMem {α : Type} : Lasts (NoMem (α := α)) := fun _ _ _ _ _ _ _ _ => trivial
theorem ListIn.lasts {α : Type} {cel : α → List Value} {E : Nat → World → α → Prop} (hE : Lasts E) {B B' : Nat} {W w : World} {p : Option Addr} {n c : Nat} {xs : List α} (h : ListIn cel E B W p n c xs) (hb : Below B W w) (hB : B ≤ B') : ListIn cel E B' w p n c xs :=
  ⟨h.1, h.2.1, h.2.2.1, (h.2.2.2.1.below hb).mono hB, fun x hx => hE _ _ _ _ _ hb hB (h.2.2.2.2 x hx)⟩
theorem lasts_Ins : Lasts InsIn := fun _ _ _ _ _ hb hB h => ⟨h.1.lasts lasts_NoMem hb hB, h.2.lasts lasts_NoMem hb hB⟩
theorem lasts_Blk : Lasts BlkIn := fun _ _ _ _ _ hb hB h => ListIn.lasts lasts_Ins h hb hB
theorem lasts_Fn : Lasts FnIn := fun _ _ _ _ _ hb hB h => ⟨h.1.lasts lasts_NoMem hb hB, h.2.lasts lasts_Blk hb hB⟩
theorem lasts_Ext : Lasts ExtIn := fun _ _ _ _ _ hb hB h => ListIn.lasts lasts_NoMem h hb hB
theorem lasts_Mod : Lasts ModIn := fun _ _ _ _ _ hb hB h => ⟨h.1.lasts lasts_NoMem hb hB, h.2.1.lasts lasts_Ext hb hB, h.2.2.lasts lasts_Fn hb hB⟩
theorem RowAt.at {α : Type} {cel : α → List Value} {m : Nat} (hc : ∀ x, (cel x).length = m) {B : Nat} {w : World} {p : Option Addr} {xs : List α} (h : RowAt B w p (xs.flatMap cel)) (i : Nat) (hi : i < xs.length) (hm : 0 < m) :
    ∃ a, p = some a ∧ a.block < B ∧ ∀ r, r < m → w.cell? (a.add (i * m + r)) = (cel xs[i])[r]? := by
  have key : ∀ r, r < m → ∃ a, p = some a ∧ a.block < B ∧ w.cell? (a.add (i * m + r)) = (cel xs[i])[r]? := fun r hr => by
    have e := flat_get cel m hc xs i hi r hr
    have hs : (cel xs[i])[r]? = some ((cel xs[i])[r]'(by rw [hc]; exact hr)) := List.getElem?_eq_getElem _
    rw [hs] at e ⊢
    exact h _ _ e
  obtain ⟨a, e, ha, _⟩ := key 0 hm
  refine ⟨a, e, ha, fun r hr => ?_⟩
  obtain ⟨a', e', _, h'⟩ := key r hr
  rw [e] at e'
  cases e'
  exact h'
theorem rowAt_of {α : Type} {cel : α → List Value} {m : Nat} (hc : ∀ x, (cel x).length = m) {B : Nat} {w : World} {p : Option Addr} {xs : List α} (hm : 0 < m)
    (h : ∀ i (hi : i < xs.length), ∃ a, p = some a ∧ a.block < B ∧ ∀ r, r < m → w.cell? (a.add (i * m + r)) = (cel xs[i])[r]?) : RowAt B w p (xs.flatMap cel) := fun j u hu => by
  have hj : j < xs.length * m := by rw [← flat_len cel m hc]; exact (List.getElem?_eq_some_iff.1 hu).1
  have hq : j / m < xs.length := Nat.div_lt_of_lt_mul (by rw [Nat.mul_comm]; exact hj)
  have hr : j % m < m := Nat.mod_lt _ hm
  have e : j = j / m * m + j % m := by rw [Nat.mul_comm]; exact (Nat.div_add_mod j m).symm
  obtain ⟨a, e1, ha, hcell⟩ := h (j / m) hq
  refine ⟨a, e1, ha, ?_⟩
  have h1 := hcell (j % m) hr
  rw [← e] at h1
  rw [h1, ← flat_get cel m hc xs (j / m) hq (j % m) hr, ← e]
  exact hu
theorem ListIn.cells {α : Type} {cel : α → List Value} {E : Nat → World → α → Prop} {B : Nat} {w : World} {p : Option Addr} {n c : Nat} {xs : List α} (h : ListIn cel E B w p n c xs) : ∀ j u, (xs.flatMap cel)[j]? = some u → ∃ a, p = some a ∧ w.cell? (a.add j) = some u := fun j u hu => by
  obtain ⟨a, e, _, hc⟩ := h.2.2.2.1 j u hu
  exact ⟨a, e, hc⟩

/-! Own lists. -/
def NoOwn {α : Type} : Nat → Nat → World → α → Prop := fun _ _ _ _ => True
def ListOwn {α : Type} (ty : TypeId) (m : Nat) (cel : α → List Value) (Q : Nat → Nat → World → α → Prop) (a b : Nat) (w : World) (p : Option Addr) (n c : Nat) (xs : List α) : Prop :=
  n = xs.length ∧ w.ownsRow a ty m (.slice p n c) n (xs.flatMap cel) ∧ (∀ g, (Value.slice p n c).ownBlock = some g → g < b) ∧ Spread Q (Value.slice p n c).ownBlock a b w xs
theorem spread_NoOwn {α : Type} {g : Option Nat} {lo hi : Nat} {w : World} (h : lo ≤ hi) : ∀ xs : List α, Spread NoOwn g lo hi w xs
  | [] => h
  | x :: xs => ⟨lo, lo, Nat.le_refl _, Nat.le_refl _, fun k _ => by omega, trivial, spread_NoOwn h xs⟩
theorem local_NoOwn {α : Type} : Local (NoOwn (α := α)) := fun _ _ _ _ _ _ _ => trivial
theorem ownsRow_stay {w w' : World} {B e m n b : Nat} {v : Value} {xs : List Value} (h : w.ownsRow B e m v n xs) (hb : ∀ g, v.ownBlock = some g → g < b) (hs : Stay B b w w') : w'.ownsRow B e m v n xs := by
  refine ⟨h.1, ?_⟩
  rcases h.2 with hn | ⟨g, cap, cur, hv, hB, hg, h1, h2, h3, h4⟩
  · exact .inl hn
  · exact .inr ⟨g, cap, cur, hv, hB, (hs g hB (hb g (by rw [hv]; rfl))).trans hg, h1, h2, h3, h4⟩
theorem ListOwn.stay {α : Type} {ty m : Nat} {cel : α → List Value} {Q : Nat → Nat → World → α → Prop} (hQ : Local Q) {a b : Nat} {w w' : World} {p : Option Addr} {n c : Nat} {xs : List α} (h : ListOwn ty m cel Q a b w p n c xs) (hs : Stay a b w w') : ListOwn ty m cel Q a b w' p n c xs :=
  ⟨h.1, ownsRow_stay h.2.1 h.2.2.1 hs, h.2.2.1, h.2.2.2.stay hQ (fun k x y _ => hs k x y)⟩
theorem ListOwn.le {α : Type} {ty m : Nat} {cel : α → List Value} {Q : Nat → Nat → World → α → Prop} {a b : Nat} {w : World} {p : Option Addr} {n c : Nat} {xs : List α} (h : ListOwn ty m cel Q a b w p n c xs) : a ≤ b := h.2.2.2.le
def InsOwn (a b : Nat) (w : World) (x : LI) : Prop := ListOwn 55 3 argC NoOwn a b w x.1.ap x.1.al x.1.ac x.1.args ∧ ListOwn 3 1 intC NoOwn a b w x.1.tp x.1.tl x.1.tc x.2
def BlkOwn (a b : Nat) (w : World) (c : LB) : Prop := ListOwn 25 7 liC InsOwn a b w c.p c.n c.k c.code
def FnOwn (a b : Nat) (w : World) (f : LFn) : Prop := ∃ d, ListOwn 3 1 intC NoOwn a d w f.pp f.pn f.pc f.ps ∧ ListOwn 67 1 blkC BlkOwn d b w f.bp f.bn f.bc f.bs
def ExtOwn (a b : Nat) (w : World) (f : LExt) : Prop := ListOwn 3 1 intC NoOwn a b w f.pp f.pn f.pc f.ps
def ModOwn (a b : Nat) (w : World) (m : LMod) : Prop := ∃ d e, ListOwn 73 2 varC NoOwn a d w m.vp m.vn m.vc m.vs ∧ ListOwn 70 3 extC ExtOwn d e w m.xp m.xn m.xc m.xs ∧ ListOwn 41 4 fnC FnOwn e b w m.fp m.fn m.fc m.fs
theorem local_Ins : Local InsOwn := fun a b w w' x hs ⟨h, k⟩ => ⟨h.stay local_NoOwn hs, k.stay local_NoOwn hs⟩
theorem local_Blk : Local BlkOwn := fun a b w w' x hs h => ListOwn.stay local_Ins h hs
theorem local_Fn : Local FnOwn := fun a b w w' x hs ⟨d, h, k⟩ => ⟨d, h.stay local_NoOwn (hs.mono (Nat.le_refl _) k.le), k.stay local_Blk (hs.mono h.le (Nat.le_refl _))⟩
theorem local_Ext : Local ExtOwn := fun a b w w' x hs h => ListOwn.stay local_NoOwn h hs
theorem local_Mod : Local ModOwn := fun a b w w' x hs ⟨d, e, h, k, l⟩ => by
  have h1 := h.le
  have h2 := k.le
  have h3 := l.le
  exact ⟨d, e, h.stay local_NoOwn (hs.mono (by omega) (by omega)), k.stay local_Ext (hs.mono (by omega) (by omega)), l.stay local_Fn (hs.mono (by omega) (by omega))⟩
/-- What is owned lies in memory. -/
theorem Spread.mem {α : Type} {Q : Nat → Nat → World → α → Prop} {g : Option Nat} : ∀ {xs : List α} {lo hi : Nat} {w : World}, Spread Q g lo hi w xs → ∀ x ∈ xs, ∃ a b, b ≤ hi ∧ Q a b w x
  | [], _, _, _, _, _, hx => absurd hx (by simp)
  | y :: xs, lo, hi, w, ⟨a, b, h1, h2, h3, h4, h⟩, x, hx => by
    rcases List.mem_cons.1 hx with rfl | hx
    · exact ⟨a, b, h.le, h4⟩
    · exact Spread.mem h x hx
theorem ListOwn.lies {α : Type} {ty m : Nat} {cel : α → List Value} {Q : Nat → Nat → World → α → Prop} {E : Nat → World → α → Prop} (hm : 0 < m) (hc : ∀ x, (cel x).length = m) (hQE : ∀ a b w x, b ≤ w.heap.size → Q a b w x → E w.heap.size w x) {a b : Nat} {w : World} {p : Option Addr} {n c : Nat} {xs : List α}
    (h : ListOwn ty m cel Q a b w p n c xs) (hb : b ≤ w.heap.size) : ListIn cel E w.heap.size w p n c xs := by
  obtain ⟨h1, h2, h3, h4⟩ := h
  have hE : ∀ x ∈ xs, E w.heap.size w x := fun x hx => by
    obtain ⟨a', b', hb', hq⟩ := h4.mem x hx
    exact hQE a' b' w x (by omega) hq
  rcases id h2.2 with ⟨e, h0⟩ | ⟨g, cap, cur, e, hg, hh, k1, k2, k3, k4⟩
  · injection e with e1 e2 e3
    subst e1 e2 e3
    have : xs = [] := List.eq_nil_of_length_eq_zero h1.symm
    subst this
    exact ⟨h1, Nat.le_refl _, Nat.zero_le _, fun j u hu => by simp at hu, hE⟩
  · injection e with e1 e2 e3
    subst e1 e3
    refine ⟨h1, k1, k2, fun j u hu => ⟨⟨g, 0, none⟩, rfl, (Array.getElem?_eq_some_iff.1 hh).1, ?_⟩, hE⟩
    have hj : j < n * m := by rw [h1, ← flat_len cel m hc]; exact (List.getElem?_eq_some_iff.1 hu).1
    rw [add0, h2.cellAt j hj]
    exact hu
theorem InsOwn.lies {a b : Nat} {w : World} {x : LI} (hb : b ≤ w.heap.size) (h : InsOwn a b w x) : InsIn w.heap.size w x := by
  obtain ⟨h, k⟩ := h
  exact ⟨h.lies (m := 3) (by decide) (fun _ => rfl) (fun _ _ _ _ _ _ => trivial) hb, k.lies (m := 1) (by decide) (fun _ => rfl) (fun _ _ _ _ _ _ => trivial) hb⟩
theorem BlkOwn.lies {a b : Nat} {w : World} {x : LB} (hb : b ≤ w.heap.size) (h : BlkOwn a b w x) : BlkIn w.heap.size w x := by
  unfold BlkOwn at h
  exact h.lies (m := 7) (by decide) (fun _ => rfl) (fun _ _ _ _ hb hq => InsOwn.lies hb hq) hb
theorem FnOwn.lies {a b : Nat} {w : World} {x : LFn} (hb : b ≤ w.heap.size) (h : FnOwn a b w x) : FnIn w.heap.size w x := by
  obtain ⟨d, h, k⟩ := h
  exact ⟨h.lies (m := 1) (by decide) (fun _ => rfl) (fun _ _ _ _ _ _ => trivial) (by have := k.le; omega), k.lies (m := 1) (by decide) (fun _ => rfl) (fun _ _ _ _ hb hq => BlkOwn.lies hb hq) hb⟩
theorem ExtOwn.lies {a b : Nat} {w : World} {x : LExt} (hb : b ≤ w.heap.size) (h : ExtOwn a b w x) : ExtIn w.heap.size w x := by
  unfold ExtOwn at h
  exact h.lies (m := 1) (by decide) (fun _ => rfl) (fun _ _ _ _ _ _ => trivial) hb
theorem ModOwn.lies {a b : Nat} {w : World} {x : LMod} (hb : b ≤ w.heap.size) (h : ModOwn a b w x) : ModIn w.heap.size w x := by
  obtain ⟨d, e, h, k, l⟩ := h
  have h1 := k.le
  have h2 := l.le
  exact ⟨h.lies (m := 2) (by decide) (fun _ => rfl) (fun _ _ _ _ _ _ => trivial) (by omega), k.lies (m := 3) (by decide) (fun _ => rfl) (fun _ _ _ _ hb hq => ExtOwn.lies hb hq) (by omega), l.lies (m := 4) (by decide) (fun _ => rfl) (fun _ _ _ _ hb hq => FnOwn.lies hb hq) hb⟩

/-! The older words for the same. -/
theorem InsIn.args {B : Nat} {w : World} {x : LI} (h : InsIn B w x) : ArgsAt B w x.1 := by
  obtain ⟨h1, h2, h3, h4, -⟩ := h.1
  refine ⟨h1, by omega, h3, fun i hi => ?_⟩
  obtain ⟨a, e, ha, hc⟩ := h4.at (m := 3) (fun _ => rfl) i hi (by decide)
  refine ⟨a, e, ha, hc 0 (by decide), ?_, ?_⟩
  · have := hc 1 (by decide); rw [add_add a _ 1 (by decide)] at this; exact this
  · have := hc 2 (by decide); rw [add_add a _ 2 (by decide)] at this; exact this
theorem InsIn.ints {B : Nat} {w : World} {x : LI} (h : InsIn B w x) : IntsAt B w x.1.tp x.1.tl x.1.tc x.2 := by
  obtain ⟨h1, h2, h3, h4, -⟩ := h.2
  refine ⟨h1.symm, h2, h3, fun i hi => ?_⟩
  obtain ⟨a, e, ha, hc⟩ := h4.at (m := 1) (fun _ => rfl) i hi (by decide)
  refine ⟨a, e, ha, ?_⟩
  have := hc 0 (by decide)
  rw [Nat.mul_one, Nat.add_zero] at this
  exact this
theorem codeAt_in {B : Nat} {w : World} {p : Option Addr} {n c : Nat} {L : List LI} (h : ListIn liC InsIn B w p n c L) : CodeAt B w (.slice p n c) (L.map Prod.fst) := by
  obtain ⟨h1, h2, h3, h4, -⟩ := h
  refine ⟨p, c, by rw [List.length_map, h1], by rw [List.length_map]; omega, h3, fun i hi => ?_⟩
  have hi' : i < L.length := by simpa using hi
  obtain ⟨a, e, ha, hc⟩ := h4.at (m := 7) (fun _ => rfl) i hi' (by decide)
  refine ⟨a, e, ha, ?_⟩
  rw [List.getElem_map]
  refine ⟨hc 0 (by decide), ?_, ?_, ?_, ?_, ?_, ?_⟩
  · have := hc 1 (by decide); rw [add_add a _ 1 (by decide)] at this; exact this
  · have := hc 2 (by decide); rw [add_add a _ 2 (by decide)] at this; exact this
  · have := hc 3 (by decide); rw [add_add a _ 3 (by decide)] at this; exact this
  · have := hc 4 (by decide); rw [add_add a _ 4 (by decide)] at this; exact this
  · have := hc 5 (by decide); rw [add_add a _ 5 (by decide)] at this; exact this
  · have := hc 6 (by decide); rw [add_add a _ 6 (by decide)] at this; exact this
def located (bs : List LB) : List (List Ins) := bs.map fun c => c.code.map Prod.fst
theorem blocksAt_in {B : Nat} {w : World} {p : Option Addr} {n c : Nat} {bs : List LB} (h : ListIn blkC BlkIn B w p n c bs) : BlocksAt B w (.slice p n c) (located bs) := by
  obtain ⟨h1, h2, h3, h4, h5⟩ := h
  refine ⟨p, c, by unfold located; rw [List.length_map, h1], by unfold located; rw [List.length_map]; omega, h3, fun i hi => ?_⟩
  have hi' : i < bs.length := by simpa [located] using hi
  obtain ⟨a, e, ha, hc⟩ := h4.at (m := 1) (fun _ => rfl) i hi' (by decide)
  have hx := codeAt_in (h5 bs[i] (List.getElem_mem hi'))
  refine ⟨a, .slice bs[i].p bs[i].n bs[i].k, e, ha, ?_, by simpa [located] using hx⟩
  have := hc 0 (by decide)
  rw [Nat.mul_one, Nat.add_zero] at this
  exact this
theorem allArgs_in {B : Nat} {w : World} {p : Option Addr} {n c : Nat} {bs : List LB} (h : ListIn blkC BlkIn B w p n c bs) : AllArgs B w (located bs) := fun b hb k hk => by
  have hb' : b < bs.length := by simpa [located] using hb
  have h' := h.2.2.2.2 bs[b] (List.getElem_mem hb')
  have hk' : k < bs[b].code.length := by simpa [located] using hk
  have := (h'.2.2.2.2 (bs[b].code[k]) (List.getElem_mem hk')).args
  simpa [located] using this
end Go.Proofs.Ytpfeiolmkbibiaa
