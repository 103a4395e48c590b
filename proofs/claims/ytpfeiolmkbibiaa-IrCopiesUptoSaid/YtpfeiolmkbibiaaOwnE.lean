/- Package ir: copies of instructions, blocks, functions. -/
import Derived.Test.YtpfeiolmkbibiaaOwnD
namespace Go.Proofs.Ytpfeiolmkbibiaa
open Go.RowKit Go.Maps
set_option linter.unusedVariables false
set_option linter.unusedSimpArgs false

/-! How much there is. -/
def insZ (x : PIns) : Nat := 1 + x.args.length + x.tg.length
def codeZ (c : List PIns) : Nat := (c.map insZ).sum
def blksZ (b : List (List PIns)) : Nat := (b.map fun c => 1 + codeZ c).sum
def fnZ (f : PFn) : Nat := 1 + f.ps.length + blksZ f.bs
def extZ (f : PExt) : Nat := 1 + f.ps.length
def modZ (m : PMod) : Nat := m.vs.length + (m.xs.map extZ).sum + (m.fs.map fnZ).sum
theorem sum_mem {α : Type} (f : α → Nat) : ∀ {xs : List α} {x : α}, x ∈ xs → f x ≤ (xs.map f).sum
  | y :: xs, x, h => by
    simp only [List.map_cons, List.sum_cons]
    rcases List.mem_cons.1 h with rfl | h
    · omega
    · have := sum_mem f h; omega
theorem len_sum {α : Type} (f : α → Nat) (hf : ∀ x, 1 ≤ f x) : ∀ xs : List α, xs.length ≤ (xs.map f).sum
  | [] => Nat.le_refl _
  | x :: xs => by simp only [List.map_cons, List.sum_cons, List.length_cons]; have := len_sum f hf xs; have := hf x; omega
theorem codeZ_len (c : List PIns) : c.length ≤ codeZ c := len_sum insZ (fun x => by unfold insZ; omega) c
theorem codeZ_mem {c : List PIns} {x : PIns} (h : x ∈ c) : insZ x ≤ codeZ c := sum_mem insZ h
theorem blksZ_len (b : List (List PIns)) : b.length ≤ blksZ b := len_sum _ (fun x => by omega) b
theorem blksZ_mem {b : List (List PIns)} {x : List PIns} (h : x ∈ b) : 1 + codeZ x ≤ blksZ b := sum_mem (fun c => 1 + codeZ c) h

theorem own_intro {α : Type} {ty m : Nat} {cel : α → List Value} {Q : Nat → Nat → World → α → Prop} {a b : Nat} {w : World} {p : Option Addr} {n c : Nat} {xs : List α} (hn : n = xs.length) (h : w.ownsRow a ty m (.slice p n c) n (xs.flatMap cel)) (hb : b = w.heap.size) (hs : Spread Q (Value.slice p n c).ownBlock a b w xs) : ListOwn ty m cel Q a b w p n c xs :=
  ⟨hn, h, fun g hg => by rw [hb]; exact (h.lt g hg).2, hs⟩
theorem copyIns_own (x : LI) (W : World) (h : InsIn W.heap.size W x) (hz : insZ (insD x) ≤ 1048576) :
    Calls Try.prog 73 #[.agg (liC x).toArray] W fun e w' => ∃ y, e = .returned (.agg (liC y).toArray) ∧ insD y = insD x ∧ Past W.heap.size W w' ∧ InsOwn W.heap.size w'.heap.size w' y := by
  have h1 : x.1.args.length ≤ 1048576 := by have : 1 + x.1.args.length + x.2.length ≤ 1048576 := hz; omega
  have h2 : x.2.length ≤ 1048576 := by have : 1 + x.1.args.length + x.2.length ≤ 1048576 := hz; omega
  have e1 := h.1.1
  have e2 := h.2.1
  refine (copyInstr_any W.heap.size x.1 x.2 W (Nat.le_refl _) h.args h.ints h1 h2).mono ?_
  rintro e w' ⟨ap, ac, tp, tc, rfl, hp, r1, r2⟩
  refine ⟨(x.1.with ap ac tp tc, x.2), rfl, rfl, hp, own_intro e1 ?_ rfl (spread_NoOwn hp.2.size _), own_intro e2 ?_ rfl (spread_NoOwn hp.2.size _)⟩
  · show w'.ownsRow W.heap.size 55 3 (.slice ap x.1.al ac) x.1.al (x.1.args.flatMap argC)
    rw [e1]; exact r1
  · show w'.ownsRow W.heap.size 3 1 (.slice tp x.1.tl tc) x.1.tl (x.2.flatMap intC)
    rw [e2, intC_map]; exact r2
theorem enters_ci : ∀ (args : Array Value) (w : World), (callFunc 73 args).run Try.prog w = .ok (.enter 73 args) w := fun _ _ => rfl
theorem enters_cb : ∀ (args : Array Value) (w : World), (callFunc 66 args).run Try.prog w = .ok (.enter 66 args) w := fun _ _ => rfl
theorem past_lasts {α : Type} {E : Nat → World → α → Prop} (hE : Lasts E) {W w : World} {x : α} (h : E W.heap.size W x) (hp : Past W.heap.size W w) : E w.heap.size w x := hE _ _ _ _ _ hp.2 hp.2.size h

theorem copyCode_own (W : World) (p : Option Addr) (n c : Nat) (L : List LI) (h : ListIn liC InsIn W.heap.size W p n c L) (hz : codeZ (L.map insD) ≤ 1048576) :
    Calls Try.prog 72 #[.slice p n c, .func (.func 73) #[] #[]] W fun e w' => ∃ p' n' c' L', e = .returned (.slice p' n' c') ∧ L'.map insD = L.map insD ∧ Past W.heap.size W w' ∧ ListOwn 25 7 liC InsOwn W.heap.size w'.heap.size w' p' n' c' L' := by
  have hn := h.1
  subst hn
  have hlen : L.length ≤ 1048576 := by have := codeZ_len (L.map insD); rw [List.length_map] at this; omega
  refine (copyEach_C liC (fun _ => rfl) liC_one insD InsOwn local_Ins _ enters_ci L p c W h.cells hlen (fun i hi w hp => ?_)).mono ?_
  · refine copyIns_own L[i] w (past_lasts lasts_Ins (h.2.2.2.2 _ (List.getElem_mem hi)) hp) ?_
    have := codeZ_mem (List.mem_map_of_mem (f := insD) (List.getElem_mem hi)); omega
  · rintro e w' ⟨v', ys, rfl, hd, hp, hr, hs⟩
    obtain ⟨p', c', rfl⟩ := row_slice hr
    exact ⟨p', _, c', ys, rfl, hd, hp, own_intro rfl hr rfl hs⟩

/-- Own blocks of few cells. -/
def Box (g : Nat) (cs : List Value) (w : World) : Prop := g < w.heap.size ∧ (∀ i, w.frozen? ⟨g, i, none⟩ = false) ∧ ∀ i u, cs[i]? = some u → w.cell? ⟨g, i, none⟩ = some u
theorem Box.new (w : World) {g : Nat} (hg : g = w.heap.size) (cs : List Value) (t : TypeId) : Box g cs (w.alloc (.cells cs.toArray t)) := by
  subst hg
  refine ⟨by simp, fun i => World.frozen?_alloc_at _ _ _ _ rfl, fun i u h => ?_⟩
  rw [World.cell?_alloc_at _ _ _ _ rfl]
  simpa using h
theorem Box.below {B g : Nat} {cs : List Value} {W w : World} (h : Box g cs W) (hb : Below B W w) (hg : g < B) : Box g cs w :=
  ⟨Nat.lt_of_lt_of_le h.1 hb.size, fun i => (hb.frozen (p := ⟨g, i, none⟩) hg).trans (h.2.1 i), fun i u e => (hb.cell (p := ⟨g, i, none⟩) hg).trans (h.2.2 i u e)⟩
theorem Box.later {g : Nat} {cs : List Value} {W w : World} (h : Box g cs W) (hb : Below W.heap.size W w) : Box g cs w := h.below hb h.1
theorem Box.alloc {g : Nat} {cs : List Value} {W : World} (h : Box g cs W) (o : Obj) : Box g cs (W.alloc o) := h.later ((Below.refl _ _).alloc (Nat.le_refl _) o)
theorem Box.other {g d : Nat} {cs : List Value} {w : World} (h : Box g cs w) (hd : d ≠ g) (i : Nat) (v : Value) : Box g cs (w.setCell ⟨d, i, none⟩ v) :=
  ⟨by simpa [World.setCell] using h.1, fun i => by rw [World.frozen?_setCell]; exact h.2.1 i, fun j u e => by rw [World.cell?_setCell_other (h := fun e => hd (by injection e))]; exact h.2.2 j u e⟩
theorem Box.set {g : Nat} {cs : List Value} {w : World} (h : Box g cs w) (i : Nat) (v : Value) : Box g (cs.set i v) (w.setCell ⟨g, i, none⟩ v) := by
  refine ⟨by simpa [World.setCell] using h.1, fun i => by rw [World.frozen?_setCell]; exact h.2.1 i, fun j u e => ?_⟩
  rw [List.getElem?_set] at e
  by_cases hij : i = j
  · subst hij
    rw [if_pos rfl] at e
    by_cases hl : i < cs.length
    · rw [if_pos hl] at e
      obtain ⟨u0, hu0⟩ : ∃ u0, cs[i]? = some u0 := ⟨_, List.getElem?_eq_getElem hl⟩
      rw [World.cell?_setCell_same' _ _ _ (by rw [h.2.2 i u0 hu0]; rfl)]
      exact e
    · rw [if_neg hl] at e; cases e
  · rw [if_neg hij] at e
    rw [World.cell?_setCell_other (h := fun e => hij (by injection e))]
    exact h.2.2 j u e
theorem Box.get {g : Nat} {cs : List Value} {w : World} (h : Box g cs w) (i : Nat) (u : Value) (e : cs[i]? = some u) : w.cell? ⟨g, i, none⟩ = some u := h.2.2 i u e

set_option maxRecDepth 100000 in
set_option maxHeartbeats 2000000 in
theorem copyBlock_own (x : LB) (W : World) (h : BlkIn W.heap.size W x) (hz : 1 + codeZ (blkD x) ≤ 1048576) :
    Calls Try.prog 66 #[.agg (blkC x).toArray] W fun e w' => ∃ y, e = .returned (.agg (blkC y).toArray) ∧ blkD y = blkD x ∧ Past W.heap.size W w' ∧ BlkOwn W.heap.size w'.heap.size w' y := by
  obtain ⟨p, n, c, L⟩ := x
  have hL : ListIn liC InsIn W.heap.size W p n c L := h
  show Calls Try.prog 66 #[.agg #[.slice p n c]] W _
  have P0 := ((Past.refl (Nat.le_refl W.heap.size)).alloc (.cells #[.slice p n c] 67)).alloc (.cells #[.slice none 0 0] 67)
  have S0 : Box W.heap.size [.slice p n c] ((W.alloc (.cells #[.slice p n c] 67)).alloc (.cells #[.slice none 0 0] 67)) := (Box.new W rfl _ _).alloc _
  have R0 : Box (W.heap.size + 1) [.slice none 0 0] ((W.alloc (.cells #[.slice p n c] 67)).alloc (.cells #[.slice none 0 0] 67)) := Box.new _ (by simp) _ _
  have z0 : ((W.alloc (.cells #[.slice p n c] 67)).alloc (.cells #[.slice none 0 0] 67)).heap.size = W.heap.size + 2 := by simp
  go_enter Try.func66, Try.ntmps66
  go_wp2_with fail
  generalize ((W.alloc (.cells #[.slice p n c] 67)).alloc (.cells #[.slice none 0 0] 67)) = W2 at *
  refine (copyCode_own W2 p n c L (hL.lasts lasts_Ins P0.2 P0.2.size) (by have : 1 + codeZ (L.map insD) ≤ 1048576 := hz; omega)).mono ?_
  rintro e w3 ⟨p3, n3, c3, L3, rfl, hd3, hp3, ho3⟩
  have S3 := S0.later hp3.2
  have R3 := R0.later hp3.2
  have a0 := S3.get 0 _ rfl
  have af := S3.2.1
  have S4 := S3.set 0 (.slice p3 n3 c3)
  have R4 := R3.other (d := W.heap.size) (by omega) 0 (.slice p3 n3 c3)
  have a1 := S4.get 0 _ rfl
  have b1 := R4.get 0 _ rfl
  have bf := R4.2.1
  have l1 := S3.1
  have l2 := R3.1
  have l3 : (w3.setCell ⟨W.heap.size, 0, none⟩ (.slice p3 n3 c3)).heap.size = w3.heap.size := by simp [World.setCell]
  have P4 := (P0.trans ⟨P0.size, hp3.2.mono P0.size⟩).set (a := ⟨W.heap.size, 0, none⟩) (Nat.le_refl _) (.slice p3 n3 c3)
  have st4 : Stay W2.heap.size w3.heap.size w3 (w3.setCell ⟨W.heap.size, 0, none⟩ (.slice p3 n3 c3)) := fun k h1 h2 => Below.heap_setCell _ _ _ _ (by dsimp only; omega)
  have ho4 := ho3.stay local_Ins st4
  go_wp2_with fail
  generalize (w3.setCell ⟨W.heap.size, 0, none⟩ (.slice p3 n3 c3)) = w4 at *
  have R5 := R4.set 0 (.slice p3 n3 c3)
  have b2 := R5.get 0 _ rfl
  have st5 : Stay W2.heap.size w3.heap.size w4 (w4.setCell ⟨W.heap.size + 1, 0, none⟩ (.slice p3 n3 c3)) := fun k h1 h2 => Below.heap_setCell _ _ _ _ (by dsimp only; omega)
  have ho5 := ho4.stay local_Ins st5
  have l5 : (w4.setCell ⟨W.heap.size + 1, 0, none⟩ (.slice p3 n3 c3)).heap.size = w3.heap.size := by simp [World.setCell]; omega
  refine bodyPost_ret (v := .agg #[.slice p3 n3 c3]) (by simp [results, Try.results66, go_sem, b2]) rfl ⟨⟨p3, n3, c3, L3⟩, rfl, hd3, P4.set (a := ⟨W.heap.size + 1, 0, none⟩) (by dsimp only; omega) _, ?_⟩
  rw [l5]
  obtain ⟨o1, o2, o3, o4⟩ := ho5
  exact ⟨o1, o2.mono (by omega), o3, o4.down (by omega)⟩
theorem copyBlks_own (W : World) (p : Option Addr) (n c : Nat) (L : List LB) (h : ListIn blkC BlkIn W.heap.size W p n c L) (hz : blksZ (L.map blkD) ≤ 1048576) :
    Calls Try.prog 65 #[.slice p n c, .func (.func 66) #[] #[]] W fun e w' => ∃ p' n' c' L', e = .returned (.slice p' n' c') ∧ L'.map blkD = L.map blkD ∧ Past W.heap.size W w' ∧ ListOwn 67 1 blkC BlkOwn W.heap.size w'.heap.size w' p' n' c' L' := by
  have hn := h.1
  subst hn
  have hlen : L.length ≤ 1048576 := by have := blksZ_len (L.map blkD); rw [List.length_map] at this; omega
  refine (copyEach_B blkC (fun _ => rfl) blkC_one blkD BlkOwn local_Blk _ enters_cb L p c W h.cells hlen (fun i hi w hp => ?_)).mono ?_
  · refine copyBlock_own L[i] w (past_lasts lasts_Blk (h.2.2.2.2 _ (List.getElem_mem hi)) hp) ?_
    have := blksZ_mem (List.mem_map_of_mem (f := blkD) (List.getElem_mem hi)); omega
  · rintro e w' ⟨v', ys, rfl, hd, hp, hr, hs⟩
    obtain ⟨p', c', rfl⟩ := row_slice hr
    exact ⟨p', _, c', ys, rfl, hd, hp, own_intro rfl hr rfl hs⟩
theorem copyInts_own (W : World) (p : Option Addr) (n c : Nat) (L : List Int) (h : ListIn intC NoMem W.heap.size W p n c L) (hz : L.length ≤ 1048576) :
    Calls Try.prog 64 #[.slice p n c] W fun e w' => ∃ p' c', e = .returned (.slice p' n c') ∧ Past W.heap.size W w' ∧ ListOwn 3 1 intC NoOwn W.heap.size w'.heap.size w' p' n c' L := by
  have hn := h.1
  subst hn
  refine (copyList_N p L.length c (L.flatMap intC) W (flat_len intC 1 (fun _ => rfl) L) h.cells (fun u hu => by obtain ⟨x, _, hx⟩ := List.mem_flatMap.1 hu; exact intC_one x u hx) hz).mono ?_
  rintro e w' ⟨v', rfl, hp, hr⟩
  obtain ⟨p', c', rfl⟩ := row_slice hr
  exact ⟨p', c', rfl, hp, own_intro rfl hr rfl (spread_NoOwn hp.2.size _)⟩

set_option maxRecDepth 100000 in
set_option maxHeartbeats 2000000 in
theorem CopyFunc_own (f : LFn) (W : World) (h : FnIn W.heap.size W f) (hz : fnZ (fnD f) ≤ 1048576) :
    Calls Try.prog 38 #[.agg (fnC f).toArray] W fun e w' => ∃ y, e = .returned (.agg (fnC y).toArray) ∧ fnD y = fnD f ∧ Past W.heap.size W w' ∧ FnOwn W.heap.size w'.heap.size w' y := by
  obtain ⟨nm, pp, pn, pc, ps, rt, bp, bn, bc, bs⟩ := f
  obtain ⟨h1, h2⟩ := h
  simp only at h1 h2
  have hz : 1 + ps.length + blksZ (bs.map blkD) ≤ 1048576 := hz
  show Calls Try.prog 38 #[.agg #[.string nm, .slice pp pn pc, .int .i64 rt, .slice bp bn bc]] W _
  have P0 := ((Past.refl (Nat.le_refl W.heap.size)).alloc (.cells #[.string nm, .slice pp pn pc, .int .i64 rt, .slice bp bn bc] 41)).alloc (.cells #[.string { data := #[] }, .slice none 0 0, .int .i64 0, .slice none 0 0] 41)
  have S0 : Box W.heap.size [.string nm, .slice pp pn pc, .int .i64 rt, .slice bp bn bc] ((W.alloc (.cells #[.string nm, .slice pp pn pc, .int .i64 rt, .slice bp bn bc] 41)).alloc (.cells #[.string { data := #[] }, .slice none 0 0, .int .i64 0, .slice none 0 0] 41)) := (Box.new W rfl _ _).alloc _
  have R0 : Box (W.heap.size + 1) [.string { data := #[] }, .slice none 0 0, .int .i64 0, .slice none 0 0] ((W.alloc (.cells #[.string nm, .slice pp pn pc, .int .i64 rt, .slice bp bn bc] 41)).alloc (.cells #[.string { data := #[] }, .slice none 0 0, .int .i64 0, .slice none 0 0] 41)) := Box.new _ (by simp) _ _
  have z0 : ((W.alloc (.cells #[.string nm, .slice pp pn pc, .int .i64 rt, .slice bp bn bc] 41)).alloc (.cells #[.string { data := #[] }, .slice none 0 0, .int .i64 0, .slice none 0 0] 41)).heap.size = W.heap.size + 2 := by simp
  go_enter Try.func38, Try.ntmps38
  go_wp2_with fail
  generalize ((W.alloc (.cells #[.string nm, .slice pp pn pc, .int .i64 rt, .slice bp bn bc] 41)).alloc (.cells #[.string { data := #[] }, .slice none 0 0, .int .i64 0, .slice none 0 0] 41)) = W2 at *
  refine (copyInts_own W2 pp pn pc ps (h1.lasts lasts_NoMem P0.2 P0.2.size) (by omega)).mono ?_
  rintro e w3 ⟨p3, c3, rfl, hp3, ho3⟩
  have S3 := S0.later hp3.2
  have R3 := R0.later hp3.2
  have af := S3.2.1
  have S4 := S3.set 1 (.slice p3 pn c3)
  have R4 := R3.other (d := W.heap.size) (by omega) 1 (.slice p3 pn c3)
  have P3 := P0.trans ⟨P0.size, hp3.2.mono P0.size⟩
  have P4 := P3.set (a := ⟨W.heap.size, 1, none⟩) (Nat.le_refl _) (.slice p3 pn c3)
  have st4 : Stay W2.heap.size w3.heap.size w3 (w3.setCell ⟨W.heap.size, 1, none⟩ (.slice p3 pn c3)) := fun k h1 h2 => Below.heap_setCell _ _ _ _ (by dsimp only; omega)
  have ho4 := ho3.stay local_NoOwn st4
  have l4 : (w3.setCell ⟨W.heap.size, 1, none⟩ (.slice p3 pn c3)).heap.size = w3.heap.size := by simp [World.setCell]
  have l3 := hp3.2.size
  have a0 := S3.get 0 _ rfl
  have a1 := S3.get 1 _ rfl
  have a2 := S3.get 2 _ rfl
  have a3 := S3.get 3 _ rfl
  have d0 := S4.get 0 _ rfl
  have d1 := S4.get 1 _ rfl
  have d2 := S4.get 2 _ rfl
  have d3 := S4.get 3 _ rfl
  go_wp2_with fail
  generalize (w3.setCell ⟨W.heap.size, 1, none⟩ (.slice p3 pn c3)) = w4 at *
  refine (copyBlks_own w4 bp bn bc bs (h2.lasts lasts_Blk P4.2 P4.2.size) (by omega)).mono ?_
  rintro e w5 ⟨p5, n5, c5, L5, rfl, hd5, hp5, ho5⟩
  have ho4' := ho4.stay local_NoOwn (hp5.stay (b := w3.heap.size) (by omega))
  have S5 := S4.later hp5.2
  have R5 := R4.later hp5.2
  have l5 := hp5.2.size
  clear a0 a1 a2 a3 af d0 d1 d2 d3
  have af := S5.2.1
  have a0 := S5.get 0 _ rfl
  have a1 := S5.get 1 _ rfl
  have a2 := S5.get 2 _ rfl
  have a3 := S5.get 3 _ rfl
  have S6 := S5.set 3 (.slice p5 n5 c5)
  have R6 := R5.other (d := W.heap.size) (by omega) 3 (.slice p5 n5 c5)
  have P5 := P4.trans ⟨P4.size, hp5.2.mono P4.size⟩
  have P6 := P5.set (a := ⟨W.heap.size, 3, none⟩) (Nat.le_refl _) (.slice p5 n5 c5)
  have st6 : Stay W2.heap.size w5.heap.size w5 (w5.setCell ⟨W.heap.size, 3, none⟩ (.slice p5 n5 c5)) := fun k h1 h2 => Below.heap_setCell _ _ _ _ (by dsimp only; omega)
  have ho6 := ho4'.stay local_NoOwn (st6.mono (Nat.le_refl _) (by omega))
  have ho7 := ho5.stay local_Blk (st6.mono (by omega) (Nat.le_refl _))
  have l6 : (w5.setCell ⟨W.heap.size, 3, none⟩ (.slice p5 n5 c5)).heap.size = w5.heap.size := by simp [World.setCell]
  have d0 := S6.get 0 _ rfl
  have d1 := S6.get 1 _ rfl
  have d2 := S6.get 2 _ rfl
  have d3 := S6.get 3 _ rfl
  have b0 := R6.get 0 _ rfl
  have b1 := R6.get 1 _ rfl
  have b2 := R6.get 2 _ rfl
  have b3 := R6.get 3 _ rfl
  have bf := R6.2.1
  go_wp2_with fail
  generalize (w5.setCell ⟨W.heap.size, 3, none⟩ (.slice p5 n5 c5)) = w6 at *
  have R7 := (((R6.set 0 (.string nm)).set 1 (.slice p3 pn c3)).set 2 (.int .i64 rt)).set 3 (.slice p5 n5 c5)
  have f0 := R7.get 0 _ rfl
  have f1 := R7.get 1 _ rfl
  have f2 := R7.get 2 _ rfl
  have f3 := R7.get 3 _ rfl
  have st7 : Stay W2.heap.size w5.heap.size w6 ((((w6.setCell ⟨W.heap.size + 1, 0, none⟩ (.string nm)).setCell ⟨W.heap.size + 1, 1, none⟩ (.slice p3 pn c3)).setCell ⟨W.heap.size + 1, 2, none⟩ (.int .i64 rt)).setCell ⟨W.heap.size + 1, 3, none⟩ (.slice p5 n5 c5)) :=
    fun k h1 h2 => (Below.heap_setCell _ _ _ _ (by dsimp only; omega)).trans ((Below.heap_setCell _ _ _ _ (by dsimp only; omega)).trans ((Below.heap_setCell _ _ _ _ (by dsimp only; omega)).trans (Below.heap_setCell _ _ _ _ (by dsimp only; omega))))
  have l7 : ((((w6.setCell ⟨W.heap.size + 1, 0, none⟩ (.string nm)).setCell ⟨W.heap.size + 1, 1, none⟩ (.slice p3 pn c3)).setCell ⟨W.heap.size + 1, 2, none⟩ (.int .i64 rt)).setCell ⟨W.heap.size + 1, 3, none⟩ (.slice p5 n5 c5)).heap.size = w5.heap.size := by simp [World.setCell]; omega
  have P7 := (((P6.set (a := ⟨W.heap.size + 1, 0, none⟩) (by dsimp only; omega) (.string nm)).set (a := ⟨W.heap.size + 1, 1, none⟩) (by dsimp only; omega) (.slice p3 pn c3)).set (a := ⟨W.heap.size + 1, 2, none⟩) (by dsimp only; omega) (.int .i64 rt)).set (a := ⟨W.heap.size + 1, 3, none⟩) (by dsimp only; omega) (.slice p5 n5 c5)
  refine bodyPost_ret (v := .agg #[.string nm, .slice p3 pn c3, .int .i64 rt, .slice p5 n5 c5]) (by simp [results, Try.results38, go_sem, f0, f1, f2, f3]) rfl ⟨⟨nm, p3, pn, c3, ps, rt, p5, n5, c5, L5⟩, rfl, by unfold fnD; rw [hd5], P7, w3.heap.size, ?_, ?_⟩
  · obtain ⟨o1, o2, o3, o4⟩ := ho6.stay local_NoOwn (st7.mono (Nat.le_refl _) (by omega))
    exact ⟨o1, o2.mono (by omega), o3, o4.down (by omega)⟩
  · rw [l7]
    obtain ⟨o1, o2, o3, o4⟩ := ho7.stay local_Blk (st7.mono (by omega) (Nat.le_refl _))
    exact ⟨o1, o2.mono (by omega), o3, o4.down (by omega)⟩
end Go.Proofs.Ytpfeiolmkbibiaa
