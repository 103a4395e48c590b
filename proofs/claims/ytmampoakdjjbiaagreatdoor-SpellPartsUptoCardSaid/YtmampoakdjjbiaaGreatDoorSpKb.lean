/- The program's lists of texts, and how it lays a line's parts together. -/
import Derived.Test.YtmampoakdjjbiaaGreatDoorSpK
import Derived.Test.YtmampoakdjjbiaaGreatDoorSpBle
namespace Go.Proofs.YtmampoakdjjbiaaGreatDoor
open Go.RowKit Go.Maps
set_option linter.unusedVariables false
set_option linter.unusedSimpArgs false

/-- A list of strings of the call's own. -/
def OS (W : World) (B : Nat) (v : Value) (xs : List ByteArray) : Prop := W.ownsRow B 9 1 v xs.length (xs.map .string)
theorem OS.sl {W : World} {B : Nat} {v : Value} {xs : List ByteArray} (h : OS W B v xs) : SL W v xs := by
  have h0 := h
  rcases h.2 with ⟨rfl, h1⟩ | ⟨g, cap, cur, rfl, hb, hg, hn, hm, hs, ht⟩
  · exact .inl ⟨List.length_eq_zero_iff.1 h1, _, _, rfl⟩
  · refine .inr ⟨g, cap, rfl, hn, hm, heap_lt hg, fun j x hj => ?_⟩
    have := h0.cells (g := g) rfl j (.string x) (by rw [List.getElem?_map, hj]; rfl)
    rw [Lib.add_plain, Nat.zero_add] at this
    exact this
theorem OS.later {W w : World} {B : Nat} {v : Value} {xs : List ByteArray} (h : OS W B v xs) (hb : Below W.heap.size W w) : OS w B v xs := ownsRow_below h hb
theorem OS.mono {W : World} {B C : Nat} {v : Value} {xs : List ByteArray} (h : OS W B v xs) (hC : C ≤ B) : OS W C v xs := by
  refine ⟨h.1, h.2.imp id fun ⟨g, cap, cur, h1, h2, h3⟩ => ⟨g, cap, cur, h1, Nat.le_trans hC h2, h3⟩⟩
theorem OS.nil (W : World) (B : Nat) : OS W B (.slice none 0 0) [] := ⟨rfl, .inl ⟨rfl, rfl⟩⟩
theorem heap_new (w : World) (o : Obj) : (w.alloc o).heap[w.heap.size]? = some o := by
  show (w.heap.push o)[w.heap.size]? = some o
  simp
theorem OS.lit (W : World) {B : Nat} (hB : B ≤ W.heap.size) (xs : List ByteArray) (cs : Array Value) (e : cs = (xs.map Value.string).toArray) (n : Nat) (hn : n = xs.length) (hm : n ≤ maxLen) : OS (W.alloc (.cells cs 9)) B (.slice (some ⟨W.heap.size, 0, none⟩) n n) xs := by
  subst e hn
  refine ⟨by simp, .inr ⟨W.heap.size, xs.length, _, rfl, hB, heap_new _ _, Nat.le_refl _, hm, by simp, by rw [Nat.mul_one]; exact List.take_of_length_le (by simp)⟩⟩
theorem infoStr : (Tryz.prog.info? 9).map (fun i => (i.zero, i.size, i.bytes)) = some (some (.string ⟨#[]⟩), 1, 16) := by kernel_rfl
/-- It answers a list of its own. -/
def OwnS (xs : List ByteArray) (W : World) (e : Ending) (w' : World) : Prop := ∃ v, e = .returned v ∧ OS w' W.heap.size v xs ∧ Below W.heap.size W w'
set_option maxRecDepth 100000 in
set_option maxHeartbeats 4000000 in
theorem spellEach_I (f : Int → Tx) (p : Option Addr) (n c : Nat) (xs : List Int) (W : World) (h : ListIn intC NoMem W.heap.size W p n c xs) (hl : xs.length ≤ 1048576) (g : FuncId) (bnd : Array Value)
    (hen : ∀ (args : Array Value) (w : World), (callFunc g args).run Tryz.prog w = .ok (.enter g args) w)
    (hg : ∀ i (hi : i < xs.length) w, Below W.heap.size W w → Calls Tryz.prog g (bnd ++ #[.int .i64 xs[i]]) w (StrV (mkS (f xs[i])) w)) :
    Calls Tryz.prog 78 #[.slice p n c, .func (.func g) bnd #[]] W (OwnS (xs.map fun x => mkS (f x)) W) := by
  obtain rfl : n = xs.length := h.1
  have hc1 := h.2.1
  have hc2 := h.2.2.1
  unfold maxLen at hc2
  have HH := Lib.hid h
  have HG := Lib.hid hg
  obtain ⟨i0, hi, hz0, hz1, hz2⟩ := info_parts infoStr
  have HI := Lib.hid (And.intro hi (And.intro hz0 (And.intro hz1 hz2)))
  clear h hg hi hz0 hz1 hz2
  obtain ⟨F, eF⟩ : ∃ F, (fun x => mkS (f x)) = F := ⟨_, rfl⟩
  have eF' : ∀ x, mkS (f x) = F x := fun x => by rw [← eF]
  simp only [eF'] at HG ⊢
  clear eF eF'
  go_enter Tryz.func78, Tryz.ntmps78
  go_wp2_with fail
  go_loopw [5, 10] (fun tp ti wr => ∃ i : Nat, i ≤ xs.length ∧ ti = .int .i64 i ∧ Hid (OS wr W.heap.size tp ((xs.take i).map F)) ∧ Below W.heap.size W wr) (fun _ ti _ => xs.length - (intOf ti).toNat)
  case atStart => exact ⟨0, Nat.zero_le _, rfl, Lib.hid (OS.nil _ _), Below.refl _ _⟩
  case round =>
    obtain ⟨i, hi, rfl, ho, hb⟩ := hrel
    by_cases hlt : i < xs.length
    · obtain ⟨a, rfl, hab, c0⟩ := row_I HH.out i hlt
      have k0 := (hb.cell (p := a.add i) (by rw [add_block]; exact hab)).trans c0
      have cg := HG.out i hlt
      have HT : Hid ((xs.take (i + 1)).map F = (xs.take i).map F ++ [F xs[i]]) := Lib.hid (by rw [List.take_succ_eq_append_getElem hlt, List.map_append]; rfl)
      have hil : ((xs.take i).map F).length = i := by rw [List.length_map, List.length_take]; omega
      have hi20 : i ≤ 1048576 := by omega
      have HB := Lib.hid hb
      obtain ⟨x, ex⟩ : ∃ x, xs[i] = x := ⟨_, rfl⟩
      simp only [ex] at cg HT k0
      obtain ⟨l, el⟩ : ∃ l, (xs.take i).map F = l := ⟨_, rfl⟩
      rw [el] at HT ho hil
      have HIL := Lib.hid hil
      clear ex el hil hb c0
      have CG := Lib.hid cg
      clear cg
      obtain ⟨s, es⟩ : ∃ s, F x = s := ⟨_, rfl⟩
      rw [es] at HT CG
      clear es
      have cg := CG.out wr HB.out
      have HO := Lib.hid ho.out
      clear ho
      go_wp2_with fail
      refine cg.mono ?_
      rintro e w1 ⟨rfl, hb1⟩
      have HO := Lib.hid (OS.later HO.out hb1)
      have HB := Lib.hid (HB.out.trans (hb1.mono HB.out.size))
      clear cg hb1 k0
      go_wp2_with (at_builtin; refine wpList_append_own _ rfl _ _ 95 rfl W.heap.size 9 i0 (.string ⟨#[]⟩) 1 16 Tryz.underlying95 HI.out.1 HI.out.2.1 HI.out.2.2.1 HI.out.2.2.2 rfl (by decide) _ _ _ rfl (HO.out.alloc _) ⟨w1.heap.size, 0, none⟩ 1 1 [.string s] rfl rfl ?c1 ?c2 ?c3 ?c4 ?c5 ?_)
      case c1 =>
        intro j u hj
        match j, hj with
        | 0, hj => simp at hj; subst hj; simp [Addr.add]
      case c2 => intro u hu; simp at hu; subst hu; rfl
      case c3 => have := HIL.out; unfold maxLen; omega
      case c4 => have := HIL.out; omega
      case c5 => have := HB.out.size; simp; omega
      intro v' w2 hown' hgrow _
      have HN : Hid (OS w2 W.heap.size v' (l ++ [s])) := Lib.hid (by
        unfold OS
        rw [List.length_append, List.map_append]
        exact hown')
      have HB2 := Lib.hid ((HB.out.alloc HB.out.size _).grown hgrow (by have := HB.out.size; simp; omega) (fun k hk => (HO.out.lt k hk).1))
      clear hown' hgrow
      go_wp2_with fail
      exact ⟨⟨i + 1, by omega, by go_num, Lib.hid (by rw [HT.out]; exact HN.out), HB2.out⟩, by simp [intOf]; omega⟩
    · obtain rfl : i = xs.length := by omega
      have HO := Lib.hid ho.out
      rw [List.take_length] at HO
      have HB := Lib.hid hb
      clear ho hb
      go_wp2_with fail
      go_ret
      exact ⟨_, rfl, HO.out, HB.out⟩
set_option maxRecDepth 100000 in
set_option maxHeartbeats 4000000 in
theorem spellEach_A (f : Arg → Tx) (p : Option Addr) (n c : Nat) (xs : List Arg) (W : World) (h : ListIn argC NoMem W.heap.size W p n c xs) (hl : xs.length ≤ 1048576) (g : FuncId) (bnd : Array Value)
    (hen : ∀ (args : Array Value) (w : World), (callFunc g args).run Tryz.prog w = .ok (.enter g args) w)
    (hg : ∀ i (hi : i < xs.length) w, Below W.heap.size W w → Calls Tryz.prog g (bnd ++ #[.agg #[.int .i64 xs[i].kind, .int .i64 xs[i].n, .int .u64 xs[i].bits]]) w (StrV (mkS (f xs[i])) w)) :
    Calls Tryz.prog 122 #[.slice p n c, .func (.func g) bnd #[]] W (OwnS (xs.map fun x => mkS (f x)) W) := by
  obtain rfl : n = xs.length := h.1
  have hc1 := h.2.1
  have hc2 := h.2.2.1
  unfold maxLen at hc2
  have HH := Lib.hid h
  have HG := Lib.hid hg
  obtain ⟨i0, hi, hz0, hz1, hz2⟩ := info_parts infoStr
  have HI := Lib.hid (And.intro hi (And.intro hz0 (And.intro hz1 hz2)))
  clear h hg hi hz0 hz1 hz2
  obtain ⟨F, eF⟩ : ∃ F, (fun x => mkS (f x)) = F := ⟨_, rfl⟩
  have eF' : ∀ x, mkS (f x) = F x := fun x => by rw [← eF]
  simp only [eF'] at HG ⊢
  clear eF eF'
  go_enter Tryz.func122, Tryz.ntmps122
  go_wp2_with fail
  go_loopw [5, 10] (fun tp ti wr => ∃ i : Nat, i ≤ xs.length ∧ ti = .int .i64 i ∧ Hid (OS wr W.heap.size tp ((xs.take i).map F)) ∧ Below W.heap.size W wr) (fun _ ti _ => xs.length - (intOf ti).toNat)
  case atStart => exact ⟨0, Nat.zero_le _, rfl, Lib.hid (OS.nil _ _), Below.refl _ _⟩
  case round =>
    obtain ⟨i, hi, rfl, ho, hb⟩ := hrel
    by_cases hlt : i < xs.length
    · obtain ⟨a, rfl, hab, c0, c1, c2⟩ := row_A HH.out i hlt
      have k0 := (hb.cell (p := a.add (i * 3)) (by rw [add_block]; exact hab)).trans c0
      have k1 := (hb.cell (p := ⟨(a.add (i * 3)).block, (a.add (i * 3)).off + 1, none⟩) (by dsimp only; rw [add_block]; exact hab)).trans c1
      have k2 := (hb.cell (p := ⟨(a.add (i * 3)).block, (a.add (i * 3)).off + 2, none⟩) (by dsimp only; rw [add_block]; exact hab)).trans c2
      have cg := HG.out i hlt
      have HT : Hid ((xs.take (i + 1)).map F = (xs.take i).map F ++ [F xs[i]]) := Lib.hid (by rw [List.take_succ_eq_append_getElem hlt, List.map_append]; rfl)
      have hil : ((xs.take i).map F).length = i := by rw [List.length_map, List.length_take]; omega
      have hi20 : i ≤ 1048576 := by omega
      have HB := Lib.hid hb
      obtain ⟨x, ex⟩ : ∃ x, xs[i] = x := ⟨_, rfl⟩
      simp only [ex] at cg HT k0 k1 k2
      obtain ⟨l, el⟩ : ∃ l, (xs.take i).map F = l := ⟨_, rfl⟩
      rw [el] at HT ho hil
      have HIL := Lib.hid hil
      clear ex el hil hb c0 c1 c2
      have CG := Lib.hid cg
      clear cg
      obtain ⟨s, es⟩ : ∃ s, F x = s := ⟨_, rfl⟩
      rw [es] at HT CG
      clear es
      obtain ⟨kd, nv, bv⟩ := x
      simp only at k0 k1 k2 CG
      have hal : Below wr.heap.size wr (wr.alloc (.cells #[.int .i64 kd, .int .i64 nv, .int .u64 bv] 86)) := (Below.refl _ _).alloc (Nat.le_refl _) _
      have hb2 := HB.out.trans (hal.mono HB.out.size)
      have cg := CG.out _ hb2
      have HO := Lib.hid (OS.later ho.out hal)
      have HB := Lib.hid hb2
      clear ho hal hb2
      go_wp2_with fail
      refine cg.mono ?_
      rintro e w1 ⟨rfl, hb1⟩
      have HO := Lib.hid (OS.later HO.out hb1)
      have HB := Lib.hid (HB.out.trans (hb1.mono HB.out.size))
      clear cg hb1 k0 k1 k2
      go_wp2_with (at_builtin; refine wpList_append_own _ rfl _ _ 95 rfl W.heap.size 9 i0 (.string ⟨#[]⟩) 1 16 Tryz.underlying95 HI.out.1 HI.out.2.1 HI.out.2.2.1 HI.out.2.2.2 rfl (by decide) _ _ _ rfl (HO.out.alloc _) ⟨w1.heap.size, 0, none⟩ 1 1 [.string s] rfl rfl ?c1 ?c2 ?c3 ?c4 ?c5 ?_)
      case c1 =>
        intro j u hj
        match j, hj with
        | 0, hj => simp at hj; subst hj; simp [Addr.add]
      case c2 => intro u hu; simp at hu; subst hu; rfl
      case c3 => have := HIL.out; unfold maxLen; omega
      case c4 => have := HIL.out; omega
      case c5 => have := HB.out.size; simp; omega
      intro v' w2 hown' hgrow _
      have HN : Hid (OS w2 W.heap.size v' (l ++ [s])) := Lib.hid (by
        unfold OS
        rw [List.length_append, List.map_append]
        exact hown')
      have HB2 := Lib.hid ((HB.out.alloc HB.out.size _).grown hgrow (by have := HB.out.size; simp; omega) (fun k hk => (HO.out.lt k hk).1))
      clear hown' hgrow
      go_wp2_with fail
      exact ⟨⟨i + 1, by omega, by go_num, Lib.hid (by rw [HT.out]; exact HN.out), HB2.out⟩, by simp [intOf]; omega⟩
    · obtain rfl : i = xs.length := by omega
      have HO := Lib.hid ho.out
      rw [List.take_length] at HO
      have HB := Lib.hid hb
      clear ho hb
      go_wp2_with fail
      go_ret
      exact ⟨_, rfl, HO.out, HB.out⟩
theorem layS_len (acc p : Tx) : acc.length ≤ (layS acc p).length := by
  unfold layS
  split <;> simp
theorem layT_take (ps : List Tx) (i : Nat) : (layT (ps.take i)).length ≤ (layT ps).length := by
  have h : ∀ (l : List Tx) (acc : Tx), acc.length ≤ (l.foldl layS acc).length := by
    intro l
    induction l with
    | nil => intro acc; exact Nat.le_refl _
    | cons p l ih => intro acc; exact Nat.le_trans (layS_len acc p) (ih _)
  unfold layT
  conv => rhs; rw [← List.take_append_drop i ps, List.foldl_append]
  exact h _ _
theorem layT_step (xs : List ByteArray) (i : Nat) (h : i < xs.length) : layT ((xs.take (i + 1)).map byt) = layS (layT ((xs.take i).map byt)) (byt xs[i]) := by
  rw [List.take_succ_eq_append_getElem h, List.map_append]
  exact layT_snoc _ _
theorem byt_nil (s : ByteArray) : byt s = [] ↔ s = ⟨#[]⟩ := by
  refine ⟨fun h => ?_, fun h => by rw [h]; rfl⟩
  rw [← mkS_byt s, h]
  rfl
set_option maxRecDepth 100000 in
set_option maxHeartbeats 4000000 in
theorem lay_any (v : Value) (xs : List ByteArray) (W : World) (h : SL W v xs) (hn : xs.length ≤ 1048576) (hlen : (layT (xs.map byt)).length ≤ 140737488355327) : Calls Tryz.prog 74 #[v] W (StrV (mkS (layT (xs.map byt))) W) := by
  obtain ⟨p, cc, rfl⟩ := h.slice
  have hcc : xs.length ≤ cc ∧ cc ≤ 9223372036854775807 ∨ xs = [] := by
    rcases h with h | ⟨g, c, h1, h2, h3, _⟩
    · exact .inr h.1
    · injection h1 with _ _ h4
      subst h4
      unfold maxLen at h3
      exact .inl ⟨h2, by omega⟩
  have HH := Lib.hid h
  have HLEN := Lib.hid hlen
  have HCC := Lib.hid hcc
  obtain ⟨L, eL⟩ : ∃ L : Nat → Tx, (fun i => layT ((xs.take i).map byt)) = L := ⟨_, rfl⟩
  have hL0 : L 0 = [] := by rw [← eL]; rfl
  have hLs : ∀ i (h : i < xs.length), L (i + 1) = layS (L i) (byt xs[i]) := fun i h => by rw [← eL]; exact layT_step xs i h
  have hLz : ∀ i, (L i).length ≤ 140737488355327 := fun i => by
    rw [← eL]
    refine Nat.le_trans ?_ hlen
    show (layT ((xs.take i).map byt)).length ≤ _
    rw [List.map_take]
    exact layT_take _ i
  have hLe : L xs.length = layT (xs.map byt) := by rw [← eL]; show layT ((xs.take xs.length).map byt) = _; rw [List.take_length]
  rw [← hLe]
  have HL := Lib.hid (And.intro hL0 (And.intro hLs hLz))
  clear eL hL0 hLs hLz hLe h hlen hcc
  have hb0 : Bld 69 [] W.heap.size W.heap.size [] (W.alloc (.cells #[.pointer none, .slice none 0 0] 69)) :=
    ⟨Nat.le_refl _, .pointer none, .slice none 0 0, heap_new _ _, .inl rfl, ⟨rfl, .inl ⟨rfl, rfl⟩⟩, by simp [Value.ownBlock]⟩
  have HB0 := Lib.hid (And.intro hb0 ((Below.refl W.heap.size W).alloc (Nat.le_refl _) (.cells #[.pointer none, .slice none 0 0] 69)))
  clear hb0
  go_enter Tryz.func74, Tryz.ntmps74
  go_wp2_with fail
  go_loopw [8] (fun ti wr => ∃ i : Nat, i ≤ xs.length ∧ ti = .int .i64 i ∧ Hid (Bld 69 [] W.heap.size W.heap.size (L i) wr ∧ Below W.heap.size W wr)) (fun ti _ => xs.length - (intOf ti).toNat)
  case atStart => exact ⟨0, Nat.zero_le _, rfl, Lib.hid ⟨by rw [HL.out.1]; exact HB0.out.1, HB0.out.2⟩⟩
  case round =>
    obtain ⟨i, hi, rfl, hS⟩ := hrel
    by_cases hlt : i < xs.length
    · obtain ⟨g, k0, hpg⟩ : ∃ g, wr.cell? ⟨g, i, none⟩ = some (.string xs[i]) ∧ p = some ⟨g, 0, none⟩ := by
        rcases HH.out with h | ⟨g, c, h1, h2, h3, h4, h5⟩
        · have := h.1; subst this; simp at hlt
        · injection h1 with h6 _ _
          exact ⟨g, (hS.out.2.cell (p := ⟨g, i, none⟩) h4).trans (h5 i _ (List.getElem?_eq_getElem hlt)), h6⟩
      subst hpg
      have hcc : xs.length ≤ cc ∧ cc ≤ 9223372036854775807 := HCC.out.resolve_right (fun e => by rw [e] at hlt; simp at hlt)
      have hst := HL.out.2.1 i hlt
      have hsz := HL.out.2.2 (i + 1)
      have hsz0 := HL.out.2.2 i
      obtain ⟨x, ex⟩ : ∃ x, xs[i] = x := ⟨_, rfl⟩
      simp only [ex] at hst k0
      obtain ⟨l, el⟩ : ∃ l, L i = l := ⟨_, rfl⟩
      rw [el] at hst hS hsz0
      have HST := Lib.hid hst
      have cl : Calls Tryz.prog 102 #[.pointer (some ⟨W.heap.size, 0, none⟩)] wr fun e w' => e = .returned (.int .i64 l.length) ∧ w' = wr := Len_any (pre := []) W.heap.size W.heap.size l wr hS.out.1
      have HS := Lib.hid hS.out
      rw [hst] at hsz
      have HSZ := Lib.hid (And.intro hsz hsz0)
      have hk0 : wr.cell? (⟨g, 0, none⟩ : Addr) = wr.cell? ⟨g, 0, none⟩ := rfl
      clear hst hS ex el hsz hk0 hsz0
      have fin : ∀ w', Bld 69 [] W.heap.size W.heap.size (layS l (byt x)) w' → Bld 69 [] W.heap.size W.heap.size (L (i + 1)) w' := fun w' h => by rw [HST.out]; exact h
      have HFIN := Lib.hid fin
      clear fin
      by_cases h0 : l = []
      · obtain ⟨nl, en⟩ : ∃ n, l.length = n := ⟨_, rfl⟩
        have hn0 : nl = 0 := by rw [← en, h0]; rfl
        rw [en] at cl
        subst hn0
        have HW : Hid (layS l (byt x) = l ++ byt x) := Lib.hid (by unfold layS; rw [if_neg fun k => k.1 h0])
        have H0 := Lib.hid h0
        have cw := WriteString_any lies_own W.heap.size W.heap.size l x wr HS.out.1 (by have h1 := HSZ.out.1; rw [HW.out, List.length_append, byt_len] at h1; omega)
        replace cw : Calls Tryz.prog 73 #[.pointer (some ⟨W.heap.size, 0, none⟩), .string x] wr _ := cw
        clear h0 en
        go_wp2_with fail
        refine cl.mono ?_
        rintro e w1 ⟨rfl, rfl⟩
        go_wp2_with fail
        refine cw.mono ?_
        rintro e w2 ⟨rfl, hB, hb, -⟩
        have HB := Lib.hid (And.intro hB.bld hb)
        clear hB hb
        go_wp2_with fail
        exact ⟨⟨i + 1, by omega, by go_num, Lib.hid ⟨HFIN.out _ (by rw [HW.out]; exact HB.out.1), HS.out.2.trans HB.out.2⟩⟩, by simp [intOf]; omega⟩
      · by_cases h1 : byt x = []
        · have hx0 : x = ⟨#[]⟩ := (byt_nil x).1 h1
          have HW : Hid (layS l (byt x) = l ++ byt x) := Lib.hid (by unfold layS; rw [if_neg fun k => k.2 h1])
          have d0 : decide (0 < l.length) = true := by simp; exact List.length_pos_iff.2 h0
          have d0' : decide ((0 : Int) < (l.length : Int)) = true := by have := List.length_pos_iff.2 h0; simp; omega
          have cw := WriteString_any lies_own W.heap.size W.heap.size l x wr HS.out.1 (by have h2 := HSZ.out.1; rw [HW.out, List.length_append, byt_len] at h2; omega)
          replace cw : Calls Tryz.prog 73 #[.pointer (some ⟨W.heap.size, 0, none⟩), .string x] wr _ := cw
          have HE := Lib.hid (And.intro h0 h1)
          clear h0 h1
          subst hx0
          go_wp2_with fail
          refine cl.mono ?_
          rintro e w1 ⟨rfl, rfl⟩
          go_wp2_with fail
          refine cw.mono ?_
          rintro e w2 ⟨rfl, hB, hb, -⟩
          have HB := Lib.hid (And.intro hB.bld hb)
          clear hB hb
          go_wp2_with fail
          exact ⟨⟨i + 1, by omega, by go_num, Lib.hid ⟨HFIN.out _ (by rw [HW.out]; exact HB.out.1), HS.out.2.trans HB.out.2⟩⟩, by simp [intOf]; omega⟩
        · have hx0 : ¬ x.toList = (⟨#[]⟩ : ByteArray).toList := fun k => h1 ((byt_nil x).2 (WideShapes.bytes_inj (by rw [← ByteArray.toList_eq, ← ByteArray.toList_eq]; exact k)))
          have hx2 : x.toList.isEmpty = false := by rw [ByteArray.toList_eq]; exact List.isEmpty_eq_false_iff.2 h1
          have hx1 : ¬ x = ⟨#[]⟩ := fun k => h1 ((byt_nil x).2 k)
          have HW : Hid (layS l (byt x) = l ++ [32] ++ byt x) := Lib.hid (by unfold layS; rw [if_pos ⟨h0, h1⟩]; simp)
          have d0 : decide (0 < l.length) = true := by simp; exact List.length_pos_iff.2 h0
          have d0' : decide ((0 : Int) < (l.length : Int)) = true := by have := List.length_pos_iff.2 h0; simp; omega
          have hz : l.length + 1 + x.size ≤ 140737488355327 := by have h2 := HSZ.out.1; rw [HW.out] at h2; simp [byt_len] at h2; omega
          have cw := WriteByte_any lies_own W.heap.size W.heap.size l 32 wr HS.out.1 (by omega)
          replace cw : Calls Tryz.prog 75 #[.pointer (some ⟨W.heap.size, 0, none⟩), .int .u8 32] wr _ := cw
          have HZ := Lib.hid hz
          have HE := Lib.hid (And.intro h0 h1)
          clear h0 h1 hz
          go_wp2_with fail
          refine cl.mono ?_
          rintro e w1 ⟨rfl, rfl⟩
          go_wp2_with fail
          refine cw.mono ?_
          rintro e w2 ⟨rfl, hB, hb, -⟩
          have HB := Lib.hid (And.intro hB.bld (HS.out.2.trans hb))
          have cw2 := WriteString_any lies_own W.heap.size W.heap.size (l ++ [32]) x w2 HB.out.1 (by have := HZ.out; simp; omega)
          replace cw2 : Calls Tryz.prog 73 #[.pointer (some ⟨W.heap.size, 0, none⟩), .string x] w2 _ := cw2
          clear hB hb cw
          go_wp2_with fail
          refine cw2.mono ?_
          rintro e w3 ⟨rfl, hB, hb, -⟩
          have HB3 := Lib.hid (And.intro hB.bld (HB.out.2.trans hb))
          clear hB hb cw2
          go_wp2_with fail
          exact ⟨⟨i + 1, by omega, by go_num, Lib.hid ⟨HFIN.out _ (by rw [HW.out]; exact HB3.out.1), HB3.out.2⟩⟩, by simp [intOf]; omega⟩
    · obtain rfl : i = xs.length := by omega
      have HS := Lib.hid hS.out
      have cs : Calls Tryz.prog 36 #[.pointer (some ⟨W.heap.size, 0, none⟩)] wr _ := String_any (pre := []) W.heap.size W.heap.size (L xs.length) wr HS.out.1 HS.out.2.size
      obtain ⟨s, es⟩ : ∃ s, mkS (L xs.length) = s := ⟨_, rfl⟩
      replace cs : Calls Tryz.prog 36 #[.pointer (some ⟨W.heap.size, 0, none⟩)] wr (fun e w' => e = .returned (.string s) ∧ Below W.heap.size wr w') := by rw [← es]; exact cs
      have HES := Lib.hid es
      clear hS es
      go_wp2_with fail
      refine cs.mono ?_
      rintro e w2 ⟨rfl, hb⟩
      have HB := Lib.hid (HS.out.2.trans hb)
      clear hb cs
      go_wp2_with fail
      go_ret
      exact ⟨by rw [HES.out]; rfl, HB.out⟩
end Go.Proofs.YtmampoakdjjbiaaGreatDoor
