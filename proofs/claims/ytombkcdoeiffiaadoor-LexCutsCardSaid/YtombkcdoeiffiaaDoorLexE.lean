/- Package lex: Tokens. -/
import Derived.Test.YtombkcdoeiffiaaDoorLexD
import Derived.LoopN
import Derived.ScopeJumps
import Derived.WalkMore
import Derived.Deep.Heap
import Derived.Deep.Onto
namespace Go.Proofs.YtombkcdoeiffiaaDoor
open Go.RowKit Go.Maps
set_option linter.unusedVariables false
set_option linter.unusedSimpArgs false

theorem wp_scope_again {P : Program} {a : Act} {w : World} {Q : Exit → Act → World → Prop} {c r : Code} (l : Nat) (J : Act → World → Prop) (μ : Act → World → Nat) (hf : findLabel c l = some (.seq .skip r))
    (pass : ∀ a w, J a w → r.wp P (Exit.jump l (fun a' w' => J a' w' ∧ μ a' w' < μ a w) Q) a w)
    (first : (∀ a w, J a w → r.wp P (Exit.jump l J Q) a w) → c.wp P (Exit.jump l J Q) a w) : (Code.scope c).wp P Q a w := by
  refine wp_scope_jumps l J μ hf (first fun a w h => Code.wp_mono ?_ (pass a w h)) (fun a w h => wp_seq (wp_skip (pass a w h)))
  intro e a' w' h
  cases e <;> first | exact h | exact ⟨h.1, h.2.1⟩

def tokC (t : Tok) : List Value := [.int .i64 t.kind, .string (str t.body), .int .i64 t.line, .int .i64 t.col]
def fltV : Option Flt → Value
  | none => .agg #[.int .i64 0, .int .i64 0, .int .i64 0]
  | some f => .agg #[.int .i64 f.code, .int .i64 f.line, .int .i64 f.col]
/-- What is answered: no piece beside a fault. -/
def Toks (l : List UInt8) (ts : List Tok) (f : Option Flt) : Prop :=
  (65536 < l.length ∧ ts = [] ∧ f = some ⟨6, 0, 0⟩) ∨ (l.length ≤ 65536 ∧ ∃ ts', Lexed l 1 1 ts' f ∧ ts = if f.isNone then ts' else [])
theorem Toks.unique {l ts f ts' f'} (h : Toks l ts f) (h' : Toks l ts' f') : ts = ts' ∧ f = f' := by
  rcases h with ⟨h1, rfl, rfl⟩ | ⟨h1, t, h2, rfl⟩
  · rcases h' with ⟨_, rfl, rfl⟩ | ⟨h3, _⟩
    · exact ⟨rfl, rfl⟩
    · omega
  · rcases h' with ⟨h3, _⟩ | ⟨_, t', h4, rfl⟩
    · omega
    · obtain ⟨rfl, rfl⟩ := h2.unique h4
      exact ⟨rfl, rfl⟩
/-- How Tokens ends. -/
def TokEnds (W : World) (l : List UInt8) (e : Ending) (w : World) : Prop :=
  ∃ (ts : List Tok) (f : Option Flt) (v : Value), Toks l ts f ∧ e = .returned (.tuple #[v, fltV f]) ∧ Below W.heap.size W w ∧ w.ownsRow W.heap.size 33 4 v ts.length (ts.flatMap tokC)

/-- A block of three cells of the call's own, that may be written. -/
def Three (c : Nat) (v0 v1 v2 : Value) (w : World) : Prop :=
  c < w.heap.size ∧ w.cell? ⟨c, 0, none⟩ = some v0 ∧ w.cell? ⟨c, 1, none⟩ = some v1 ∧ w.cell? ⟨c, 2, none⟩ = some v2 ∧ w.frozen? ⟨c, 0, none⟩ = false ∧ w.frozen? ⟨c, 1, none⟩ = false ∧ w.frozen? ⟨c, 2, none⟩ = false
theorem Three.new (W : World) (v0 v1 v2 : Value) (t : TypeId) : Three W.heap.size v0 v1 v2 (W.alloc (.cells #[v0, v1, v2] t)) := by
  refine ⟨by simp, ?_, ?_, ?_, World.frozen?_alloc_at _ _ _ _ rfl, World.frozen?_alloc_at _ _ _ _ rfl, World.frozen?_alloc_at _ _ _ _ rfl⟩ <;> (rw [World.cell?_alloc_at _ _ _ _ rfl]; rfl)
theorem Three.below {c : Nat} {v0 v1 v2 : Value} {W w : World} {B : Nat} (h : Three c v0 v1 v2 W) (hb : Below B W w) (hc : c < B) : Three c v0 v1 v2 w := by
  obtain ⟨z, y0, y1, y2, f0, f1, f2⟩ := h
  exact ⟨Nat.lt_of_lt_of_le z hb.size, (hb.cell (p := ⟨c, 0, none⟩) hc).trans y0, (hb.cell (p := ⟨c, 1, none⟩) hc).trans y1, (hb.cell (p := ⟨c, 2, none⟩) hc).trans y2,
    (hb.frozen (p := ⟨c, 0, none⟩) hc).trans f0, (hb.frozen (p := ⟨c, 1, none⟩) hc).trans f1, (hb.frozen (p := ⟨c, 2, none⟩) hc).trans f2⟩
theorem Past.set3 {B : Nat} {W w : World} {c : Nat} (h : Past B W w) (hc : B ≤ c) (v0 v1 v2 : Value) : Past B W (((w.setCell ⟨c, 0, none⟩ v0).setCell ⟨c, 1, none⟩ v1).setCell ⟨c, 2, none⟩ v2) :=
  ((h.set (a := ⟨c, 0, none⟩) hc _).set (a := ⟨c, 1, none⟩) hc _).set (a := ⟨c, 2, none⟩) hc _
theorem Past.mono {B C : Nat} {W w : World} (h : Past B W w) (hc : C ≤ B) : Past C W w := ⟨Nat.le_trans hc h.1, h.2.mono hc⟩
theorem Past.grownRow {B : Nat} {row : Option Nat} {W w w' : World} (h : Past B W w) (g : w.grownBy w' row) (hr : ∀ j, row = some j → B ≤ j) : Past B W w' := ⟨h.1, h.2.grown g h.size hr⟩
theorem ownsRow_set {w : World} {B e s n : Nat} {v : Value} {xs : List Value} (h : w.ownsRow B e s v n xs) {a : Addr} (ha : a.block < B) (u : Value) : (w.setCell a u).ownsRow B e s v n xs := by
  refine ⟨h.1, ?_⟩
  rcases h.2 with hn | ⟨g, cap, cur, hv, hB, hg, h1, h2, h3, h4⟩
  · exact .inl hn
  · exact .inr ⟨g, cap, cur, hv, hB, (Go.Deep.blk_setCell_other w a u g (by omega)).trans hg, h1, h2, h3, h4⟩
theorem ownsRow_set3 {w : World} {c e s n : Nat} {v : Value} {xs : List Value} (h : w.ownsRow (c + 1) e s v n xs) (v0 v1 v2 : Value) : (((w.setCell ⟨c, 0, none⟩ v0).setCell ⟨c, 1, none⟩ v1).setCell ⟨c, 2, none⟩ v2).ownsRow c e s v n xs :=
  World.ownsRow.mono (ownsRow_set (ownsRow_set (ownsRow_set h (Nat.lt_succ_self c) v0) (Nat.lt_succ_self c) v1) (Nat.lt_succ_self c) v2) (Nat.le_succ _)
theorem lit_cells (w : World) (cs : Array Value) (ty : TypeId) : ∀ (j : Nat) (u : Value), cs.toList[j]? = some u → (w.alloc (.cells cs ty)).cell? ((⟨w.heap.size, 0, none⟩ : Addr).add j) = some u := by
  intro j u h
  have e : (⟨w.heap.size, 0, none⟩ : Addr).add j = ⟨w.heap.size, j, none⟩ := by
    unfold Addr.add
    by_cases hj : j = 0
    · subst hj; rfl
    · rw [if_neg hj]; simp
  rw [e, World.cell?_alloc_at _ _ _ _ rfl]
  simpa using h
theorem lit_cells2 (w : World) (o : Obj) (cs : Array Value) (ty : TypeId) : ∀ (j : Nat) (u : Value), cs.toList[j]? = some u → ((w.alloc o).alloc (.cells cs ty)).cell? ((⟨w.heap.size + 1, 0, none⟩ : Addr).add j) = some u := by
  intro j u h
  have h2 := lit_cells (w.alloc o) cs ty j u h
  have e : (w.alloc o).heap.size = w.heap.size + 1 := by simp
  rwa [e] at h2
theorem ownsRow_below {w w2 : World} {B e s n : Nat} {v : Value} {xs : List Value} (h : w.ownsRow B e s v n xs) (hb : Below w.heap.size w w2) : w2.ownsRow B e s v n xs := by
  have hlt := h.lt
  refine ⟨h.1, ?_⟩
  rcases h.2 with hn | ⟨g, cap, cur, hv, hB, hg, h1, h2, h3, h4⟩
  · exact .inl hn
  · have h5 : g < w.heap.size := (hlt g (by rw [hv]; rfl)).2
    exact .inr ⟨g, cap, cur, hv, hB, (hb.block g h5).trans hg, h1, h2, h3, h4⟩
theorem Three.set3 {c : Nat} {v0 v1 v2 : Value} {w : World} (h : Three c v0 v1 v2 w) (u0 u1 u2 : Value) : Three c u0 u1 u2 (((w.setCell ⟨c, 0, none⟩ u0).setCell ⟨c, 1, none⟩ u1).setCell ⟨c, 2, none⟩ u2) := by
  obtain ⟨z, y0, y1, y2, f0, f1, f2⟩ := h
  refine ⟨by simpa [World.setCell] using z, ?_, ?_, ?_, ?_, ?_, ?_⟩ <;> simp [World.frozen?_setCell, go_sem, y0, y1, y2, f0, f1, f2]
theorem Three.alloc {c : Nat} {v0 v1 v2 : Value} {w : World} (h : Three c v0 v1 v2 w) (o : Obj) : Three c v0 v1 v2 (w.alloc o) :=
  h.below ((Below.refl w.heap.size w).alloc (Nat.le_refl _) o) h.1
theorem tokC_one (t : Tok) : ∀ u ∈ tokC t, u.oneCell' = true := by intro u hu; unfold tokC at hu; simp at hu; rcases hu with rfl | rfl | rfl | rfl <;> rfl
theorem tokC_one' (a c d : Int) (s : ByteArray) : ∀ u ∈ [Value.int .i64 a, .string s, .int .i64 c, .int .i64 d], u.oneCell' = true := by intro u hu; simp at hu; rcases hu with rfl | rfl | rfl | rfl <;> rfl
theorem cell_two (w : World) (cs : Array Value) (t : TypeId) (o : Obj) (v : Value) (h : cs[0]? = some v) : ((w.alloc (.cells cs t)).alloc o).cell? ⟨w.heap.size, 0, none⟩ = some v := by
  have h1 : w.heap.size < (w.alloc (.cells cs t)).heap.size := by simp
  rw [World.cell?_alloc_past _ _ _ h1, World.cell?_alloc_at _ _ _ _ rfl]
  exact h
theorem infoT : (Tryd.prog.info? 33).map (fun i => (i.zero, i.size, i.bytes)) = some (some (.agg #[.int .i64 0, .string ⟨#[]⟩, .int .i64 0, .int .i64 0]), 4, 40) := by kernel_rfl

/-- What holds at the label. -/
def At (W : World) (s : ByteArray) (k line front : Nat) (acc : List Tok) (pv : Value) (w : World) : Prop :=
  k ≤ s.size ∧ front ≤ k ∧ line ≤ k + 1 ∧ acc.length ≤ k ∧ Past (W.heap.size + 1) (W.alloc (.cells #[.int .i64 0, .int .i64 0, .int .i64 0] 26)) w ∧
  w.ownsRow (W.heap.size + 1) 33 4 pv acc.length (acc.flatMap tokC) ∧ (∀ ts f, Lexed (s.data.toList.drop k) line (k - front + 1) ts f → Lexed s.data.toList 1 1 (acc ++ ts) f)

set_option maxRecDepth 100000 in
set_option maxHeartbeats 4000000 in
theorem Tokens_short (s : ByteArray) (hs : s.size ≤ 65536) (W : World) (hE : Errs W) : Calls Tryd.prog 9 #[.string s] W (TokEnds W s.data.toList) := by
  obtain ⟨iT, hiT, hz0, hz1, hz2⟩ := info_parts infoT
  have HI := Lib.hid (And.intro hiT (And.intro hz0 (And.intro hz1 hz2)))
  clear hiT hz0 hz1 hz2
  have h1 : ¬ ((65536 : Int) < (s.size : Int)) := by omega
  have hlen : s.data.toList.length = s.size := (Lib.size_eq s).symm
  go_enter Tryd.func9, Tryd.ntmps9
  go_wp2_with fail
  refine wp_scope_again 0 (fun a' w' => ∃ (k line front : Nat) (acc : List Tok) (pv u8 u9 u10 u11 u12 u13 u14 u15 u16 u17 u18 u19 u20 u21 u22 u23 u24 u25 u26 u27 u28 u29 u30 u31 u32 u33 u34 u35 u36 u37 u38 u39 u40 u41 u42 u43 u44 u45 u46 u47 u48 u49 u50 u51 u52 u53 u54 u55 u56 u57 u58 u59 u60 u61 u62 : Value), a' = { tmps := #[.string s, undef, .slice none 0 0, .pointer (some ⟨W.heap.size, 0, none⟩), pv, .int .i64 (k : Nat), .int .i64 (line : Nat), .int .i64 (front : Nat), u8, u9, u10, u11, u12, u13, u14, u15, u16, u17, u18, u19, u20, u21, u22, u23, u24, u25, u26, u27, u28, u29, u30, u31, u32, u33, u34, u35, u36, u37, u38, u39, u40, u41, u42, u43, u44, u45, u46, u47, u48, u49, u50, u51, u52, u53, u54, u55, u56, u57, u58, u59, u60, u61, u62], defers := [] } ∧ At W s k line front acc pv w') (fun a' _ => s.size - (intOf (a'.tmps.getD 5 undef)).toNat) rfl ?_ ?_
  · rintro a' w' ⟨k, line, front, acc, pv, u8, u9, u10, u11, u12, u13, u14, u15, u16, u17, u18, u19, u20, u21, u22, u23, u24, u25, u26, u27, u28, u29, u30, u31, u32, u33, u34, u35, u36, u37, u38, u39, u40, u41, u42, u43, u44, u45, u46, u47, u48, u49, u50, u51, u52, u53, u54, u55, u56, u57, u58, u59, u60, u61, u62, rfl, hk, hf, hl, ha, hp, hr, hcont⟩
    have HC := Lib.hid hcont
    have c1 := passedOver_any (s.extract k s.size) (by rw [from_size]; omega)
    rw [from_data] at c1
    have hple := passed_le (s.data.toList.drop k)
    rw [List.length_drop, ← Lib.size_eq] at hple
    obtain ⟨p, ep⟩ : ∃ p, p = passed (s.data.toList.drop k) := ⟨_, rfl⟩
    rw [← ep] at c1 hple
    have EP := Lib.hid ep
    clear ep hcont
    have hth := (Three.new W (.int .i64 0) (.int .i64 0) (.int .i64 0) 26).below hp.2 (Nat.lt_succ_self _)
    by_cases hend : k + p = s.size
    · have he : ((k : Int) + (p : Int) == (s.size : Int)) = true := by simp; omega
      obtain ⟨z, y0, y1, y2, f0, f1, f2⟩ := hth
      go_wp2_with ((with_reducible refine (c1 _).mono ?_); rintro e w1 ⟨rfl, rfl⟩)
      simp only [Exit.jump]
      refine bodyPost_ret (v := .tuple #[pv, fltV none]) (by simp [results, Tryd.results9, go_sem, fltV, y0, y1, y2]) rfl ⟨acc, none, pv, .inr ⟨by omega, acc, ?_, rfl⟩, rfl, ?_, ?_⟩
      · have h := HC.out [] none (.done (by rw [← EP.out, List.drop_drop]; exact List.drop_eq_nil_of_le (by omega)))
        rwa [List.append_nil] at h
      · exact (((Past.refl (Nat.le_refl W.heap.size)).alloc _).trans (hp.mono (Nat.le_succ _)) |>.set3 (Nat.le_refl _) _ _ _).2
      · exact ownsRow_set3 hr _ _ _
    · have he : ((k : Int) + (p : Int) == (s.size : Int)) = false := by simp; omega
      have hlt : k + p < s.size := by omega
      have c2 := first_any (s.extract (k + p) s.size) (by rw [from_size]; omega) (by rw [from_size]; omega) w' (hE.below ((Past.refl (Nat.le_refl W.heap.size)).alloc _ |>.trans (hp.mono (Nat.le_succ _))).2 (Nat.le_refl _))
      rw [from_data] at c2
      have hcons := cons_of s (k + p) hlt
      have hcol : ((k - front + 1 + p : Nat) : Int) = (k : Int) + p - front + 1 := by omega
      cases hfst : first (s.data.toList.drop (k + p)) with
      | bad c =>
        rw [hfst] at c2
        have eW : ∀ x : Nat, cutW x (.bad c) = .tuple #[.agg #[.int .i64 0, .string ⟨#[]⟩, .int .i64 0, .int .i64 0], .int .i64 x, .int .i64 c] := fun _ => rfl
        simp only [eW] at c2
        have hc12 := first_bad hfst
        have hc0 : ((c : Int) != 0) = true := by simp; omega
        clear eW
        go_wp2_with (first
          | ((with_reducible refine (c1 _).mono ?_); rintro e w1 ⟨rfl, rfl⟩)
          | ((with_reducible refine c2.mono ?_); rintro e w2 ⟨⟨x, rfl⟩, hb2⟩; obtain ⟨z, y0, y1, y2, f0, f1, f2⟩ := hth.below hb2 hth.1))
        simp only [Exit.jump]
        obtain ⟨_, r0, r1, r2, _⟩ := ((hth.below hb2 hth.1).set3 (.int .i64 c) (.int .i64 line) (.int .i64 ((k : Int) + p - front + 1))).alloc (.cells #[.int .i64 0, .string ⟨#[]⟩, .int .i64 0, .int .i64 0] 33)
        refine bodyPost_ret (v := .tuple #[.slice none 0 0, .agg #[.int .i64 c, .int .i64 line, .int .i64 ((k : Int) + p - front + 1)]]) (by simp [results, Tryd.results9, go_sem, r0, r1, r2]) rfl ⟨[], some ⟨c, line, k - front + 1 + p⟩, .slice none 0 0, .inr ⟨by omega, acc, ?_, rfl⟩, ?_, ?_, World.ownsRow_nil _ _ _ _⟩
        · have h := HC.out [] _ (.bad (by rw [← EP.out, List.drop_drop]; exact hcons) (by rw [← hcons]; exact hfst))
          rwa [List.append_nil, ← EP.out] at h
        · simp only [fltV, hcol]
        · exact ((((((Past.refl (Nat.le_refl W.heap.size)).alloc _).trans (hp.mono (Nat.le_succ _))).on hb2).set3 (Nat.le_refl _) _ _ _).alloc _).2
      | ok kd b sz =>
        rw [hfst] at c2
        have eW : ∀ x : Nat, cutW x (.ok kd b sz) = .tuple #[.agg #[.int .i64 kd, .string (str b), .int .i64 0, .int .i64 0], .int .i64 sz, .int .i64 0] := fun _ => rfl
        simp only [eW] at c2
        obtain ⟨hsz1, hsz2, hsz3⟩ := first_size hfst
        rw [List.length_drop, ← Lib.size_eq] at hsz2
        clear eW hsz3
        have H63 : Hid (acc.length + 1 ≤ maxLen) := Lib.hid (by unfold maxLen; omega)
        have HB1 : Hid ((acc.length + 1) * 40 ≤ 140737488355328) := Lib.hid (by omega)
        have hnext : ∀ l' c' ts f, l' = (if kd = 6 then line + 1 else line) → c' = (if kd = 6 then 1 else k - front + 1 + p + sz) → Lexed (s.data.toList.drop (k + p + sz)) l' c' ts f → Lexed s.data.toList 1 1 ((acc ++ [⟨kd, b, line, k - front + 1 + p⟩]) ++ ts) f := by
          intro l' c' ts f e1 e2 h
          subst e1 e2
          rw [List.append_assoc]
          have h2 := Lexed.step (line := line) (col := k - front + 1) (by rw [← EP.out, List.drop_drop]; exact hcons) (by rw [← hcons]; exact hfst) (ts := ts) (f := f) (by rw [← hcons, List.drop_drop, ← EP.out]; exact h)
          rw [← EP.out] at h2
          exact HC.out _ _ h2
        have HN := Lib.hid hnext
        have hcells : (acc ++ [(⟨kd, b, line, k - front + 1 + p⟩ : Tok)]).flatMap tokC = acc.flatMap tokC ++ [.int .i64 kd, .string (str b), .int .i64 line, .int .i64 ((k : Int) + p - front + 1)] := by
          rw [List.flatMap_append]
          simp [tokC, hcol]
        have HCE := Lib.hid hcells
        clear hnext hcells hcons hcol hfst
        by_cases h6 : kd = 6
        · subst h6
          go_wp2_with (first
            | ((with_reducible refine (c1 _).mono ?_); rintro e w1 ⟨rfl, rfl⟩)
            | ((with_reducible refine c2.mono ?_); rintro e w2 ⟨⟨x, rfl⟩, hb2⟩; have hr2 := ownsRow_below hr hb2; have P2 := hp.on hb2)
            | (at_builtin; refine wpList_append_own _ rfl (.tmp 50) (.tmp 52) 23 rfl (W.heap.size + 1) 33 iT _ 4 40 Tryd.underlying23 HI.out.1 HI.out.2.1 HI.out.2.2.1 HI.out.2.2.2 rfl (by decide) _ _ _ rfl ((hr2.alloc _).alloc _) ⟨w2.heap.size + 1, 0, none⟩ 1 1 [.int .i64 6, .string (str b), .int .i64 line, .int .i64 ((k : Int) + p - front + 1)] rfl rfl (lit_cells2 _ _ _ _) (tokC_one' _ _ _ _) H63.out HB1.out (by have := P2.size; simp; omega) ?_; intro pv2 w3 hown3 hgrow3 _; have kf : w3.cell? ⟨w2.heap.size, 0, none⟩ = some (.int .i64 6) := hgrow3.cell (a := ⟨w2.heap.size, 0, none⟩) (cell_two _ _ _ _ _ rfl) (fun e => Nat.lt_irrefl _ (hr2.lt _ e.symm).2)))
          have P3 := ((P2.alloc (.cells #[.int .i64 6, .string (str b), .int .i64 line, .int .i64 ((k : Int) + p - front + 1)] 33)).alloc (.cells #[.int .i64 6, .string (str b), .int .i64 line, .int .i64 ((k : Int) + p - front + 1)] 33)).grownRow hgrow3 (fun j hj => (hr2.lt j hj).1)
          have e1 : (k : Int) + p + sz = ((k + p + sz : Nat) : Int) := by omega
          have e2 : (line : Int) + 1 = ((line + 1 : Nat) : Int) := by omega
          rw [e1, e2]
          refine wp_goto ⟨rfl, ⟨k + p + sz, line + 1, k + p + sz, acc ++ [⟨6, b, line, k - front + 1 + p⟩], pv2, _, _, _, _, _, _, _, _, _, _, _, _, _, _, _, _, _, _, _, _, _, _, _, _, _, _, _, _, _, _, _, _, _, _, _, _, _, _, _, _, _, _, _, _, _, _, _, _, _, _, _, _, _, _, _, rfl, by omega, by omega, by omega, by rw [List.length_append]; simp; omega, P3, ?_, fun ts f h => HN.out (line + 1) 1 ts f rfl rfl (by rw [Nat.sub_self] at h; exact h)⟩, ?_⟩
          · rw [HCE.out, List.length_append]
            exact hown3
          · simp [intOf]
            omega
        · have hk6 : ((kd : Int) == 6) = false := by simp; omega
          have HK6 := Lib.hid h6
          clear h6
          go_wp2_with (first
            | ((with_reducible refine (c1 _).mono ?_); rintro e w1 ⟨rfl, rfl⟩)
            | ((with_reducible refine c2.mono ?_); rintro e w2 ⟨⟨x, rfl⟩, hb2⟩; have hr2 := ownsRow_below hr hb2; have P2 := hp.on hb2)
            | (at_builtin; refine wpList_append_own _ rfl (.tmp 50) (.tmp 52) 23 rfl (W.heap.size + 1) 33 iT _ 4 40 Tryd.underlying23 HI.out.1 HI.out.2.1 HI.out.2.2.1 HI.out.2.2.2 rfl (by decide) _ _ _ rfl ((hr2.alloc _).alloc _) ⟨w2.heap.size + 1, 0, none⟩ 1 1 [.int .i64 kd, .string (str b), .int .i64 line, .int .i64 ((k : Int) + p - front + 1)] rfl rfl (lit_cells2 _ _ _ _) (tokC_one' _ _ _ _) H63.out HB1.out (by have := P2.size; simp; omega) ?_; intro pv2 w3 hown3 hgrow3 _; have kf : w3.cell? ⟨w2.heap.size, 0, none⟩ = some (.int .i64 kd) := hgrow3.cell (a := ⟨w2.heap.size, 0, none⟩) (cell_two _ _ _ _ _ rfl) (fun e => Nat.lt_irrefl _ (hr2.lt _ e.symm).2)))
          have P3 := ((P2.alloc (.cells #[.int .i64 kd, .string (str b), .int .i64 line, .int .i64 ((k : Int) + p - front + 1)] 33)).alloc (.cells #[.int .i64 kd, .string (str b), .int .i64 line, .int .i64 ((k : Int) + p - front + 1)] 33)).grownRow hgrow3 (fun j hj => (hr2.lt j hj).1)
          have e1 : (k : Int) + p + sz = ((k + p + sz : Nat) : Int) := by omega
          rw [e1]
          refine wp_goto ⟨rfl, ⟨k + p + sz, line, front, acc ++ [⟨kd, b, line, k - front + 1 + p⟩], pv2, _, _, _, _, _, _, _, _, _, _, _, _, _, _, _, _, _, _, _, _, _, _, _, _, _, _, _, _, _, _, _, _, _, _, _, _, _, _, _, _, _, _, _, _, _, _, _, _, _, _, _, _, _, _, _, rfl, by omega, by omega, by omega, by rw [List.length_append]; simp; omega, P3, ?_, fun ts f h => HN.out _ _ ts f (by rw [if_neg HK6.out]) (by rw [if_neg HK6.out]; omega) h⟩, ?_⟩
          · rw [HCE.out, List.length_append]
            exact hown3
          · simp [intOf]
            omega
  · intro hpass
    go_wp2_with fail
    go_step3
    rename_i K hK
    refine hK _ _ (hpass _ _ ?_)
    exact ⟨0, 1, 0, [], .slice none 0 0, _, _, _, _, _, _, _, _, _, _, _, _, _, _, _, _, _, _, _, _, _, _, _, _, _, _, _, _, _, _, _, _, _, _, _, _, _, _, _, _, _, _, _, _, _, _, _, _, _, _, _, _, _, _, _, rfl, Nat.zero_le _, Nat.le_refl _, Nat.le_refl _, Nat.le_refl _, Past.refl (by simp), World.ownsRow_nil _ _ _ _, fun ts f h => h⟩
theorem Tokens_any (s : ByteArray) (hs : s.size < 9223372036854775807) (W : World) (hE : Errs W) : Calls Tryd.prog 9 #[.string s] W (TokEnds W s.data.toList) := by
  by_cases h : s.size ≤ 65536
  · exact Tokens_short s h W hE
  · have h1 : (65536 : Int) < (s.size : Int) := by omega
    go_enter Tryd.func9, Tryd.ntmps9
    go_wp2_with fail
    go_step3
    go_wp2_with fail
    rw [Exit.noGoto_ret]
    refine bodyPost_ret (v := .tuple #[.slice none 0 0, .agg #[.int .i64 6, .int .i64 0, .int .i64 0]]) (by simp [results, Tryd.results9, go_sem]) rfl ⟨[], some ⟨6, 0, 0⟩, .slice none 0 0, .inl ⟨by rw [← Lib.size_eq]; omega, rfl, rfl⟩, rfl, ((Past.refl (Nat.le_refl _)).alloc _).2, World.ownsRow_nil _ _ _ _⟩
end Go.Proofs.YtombkcdoeiffiaaDoor
