/- Package ir: Replace. -/
import Derived.Test.YtpfeiolmkbibiaaOwnE
import Derived.Maps.AppendAt
import Derived.Deep.RegionHeld3
namespace Go.Proofs.Ytpfeiolmkbibiaa
open Go.RowKit Go.Maps
set_option linter.unusedVariables false
set_option linter.unusedSimpArgs false

/-- The rows of the blocks, no operand. -/
def BlkRow (B : Nat) (w : World) (c : LB) : Prop := ListIn liC NoMem B w c.p c.n c.k c.code
theorem li_row {B : Nat} {w : World} {p : Option Addr} {n c : Nat} {L : List LI} {E : Nat → World → LI → Prop} (h : ListIn liC E B w p n c L) (i : Nat) (hi : i < L.length) :
    ∃ a, p = some a ∧ a.block < B ∧ InsAt w (a.add (i * 7)) L[i].1 := by
  obtain ⟨h1, h2, h3, h4, -⟩ := h
  obtain ⟨a, e, ha, hc⟩ := h4.at (m := 7) (fun _ => rfl) i hi (by decide)
  refine ⟨a, e, ha, hc 0 (by decide), ?_, ?_, ?_, ?_, ?_, ?_⟩
  · have := hc 1 (by decide); rw [add_add a _ 1 (by decide)] at this; exact this
  · have := hc 2 (by decide); rw [add_add a _ 2 (by decide)] at this; exact this
  · have := hc 3 (by decide); rw [add_add a _ 3 (by decide)] at this; exact this
  · have := hc 4 (by decide); rw [add_add a _ 4 (by decide)] at this; exact this
  · have := hc 5 (by decide); rw [add_add a _ 5 (by decide)] at this; exact this
  · have := hc 6 (by decide); rw [add_add a _ 6 (by decide)] at this; exact this
theorem blk_row {B : Nat} {w : World} {p : Option Addr} {n c : Nat} {L : List LB} {E : Nat → World → LB → Prop} (h : ListIn blkC E B w p n c L) (i : Nat) (hi : i < L.length) :
    ∃ a, p = some a ∧ a.block < B ∧ w.cell? (a.add i) = some (.slice L[i].p L[i].n L[i].k) := by
  obtain ⟨h1, h2, h3, h4, -⟩ := h
  obtain ⟨a, e, ha, hc⟩ := h4.at (m := 1) (fun _ => rfl) i hi (by decide)
  refine ⟨a, e, ha, ?_⟩
  have := hc 0 (by decide)
  rw [Nat.mul_one, Nat.add_zero] at this
  exact this

set_option maxHeartbeats 1000000 in
/-- The walk over all instructions, whatever the closure does, as long as the rows can be read. -/
theorem each_all (bs : List LB) (W : World) (nm pa rt : Value) (bp : Option Addr) (bn bc : Nat) (g : FuncId) (caps : Array Value) (Inv : Nat → Nat → World → Prop)
    (hen : ∀ (args : Array Value) (w : World), (callFunc g args).run Try.prog w = .ok (.enter g args) w)
    (hread : ∀ b k w, Inv b k w → ListIn blkC BlkRow w.heap.size w bp bn bc bs)
    (h0 : Inv 0 0 W) (hnext : ∀ b (h : b < bs.length) w, Inv b bs[b].code.length w → Inv (b + 1) 0 w) (halloc : ∀ b k w c t, Inv b k w → Inv b k (w.alloc (.cells c t)))
    (hstep : ∀ b k (hb : b < bs.length) (hk : k < bs[b].code.length) w, Inv b k w → Calls Try.prog g (#[.agg #[.int .i64 0, .int .i64 b, .int .i64 k], (bs[b].code[k]).1.val] ++ caps) w fun e w' => e = .returned (.tuple #[]) ∧ Inv b (k + 1) w') :
    Calls Try.prog 51 #[.agg #[nm, pa, rt, .slice bp bn bc], .func (.func g) #[] caps] W fun e w' => e = .returned (.tuple #[]) ∧ Inv bs.length 0 w' := by
  have HR := Lib.hid hread
  have HS := Lib.hid hstep
  have HN := Lib.hid hnext
  have HA := Lib.hid halloc
  have h00 := hread 0 0 W h0
  have e1 := h00.1
  have e2 := h00.2.1
  have e3 := h00.2.2.1
  subst e1
  unfold maxLen at e3
  have i0 : Inv 0 0 (W.alloc (.cells #[nm, pa, rt, .slice bp bs.length bc] 41)) := HA.out 0 0 W _ _ h0
  have I0 := Lib.hid i0
  clear hread hstep hnext halloc h0 h00 i0
  go_enter Try.func51, Try.ntmps51
  go_wp2_with fail
  go_loopw [11] (fun t wr => ∃ b : Nat, b ≤ bs.length ∧ t = .int .i64 b ∧ Inv b 0 wr) (fun t _ => bs.length - (intOf t).toNat)
  case atStart => exact ⟨0, Nat.zero_le _, rfl, I0.out⟩
  case round =>
    obtain ⟨b, hb, rfl, hI⟩ := hrel
    by_cases hlt : b < bs.length
    · have hrd := HR.out b 0 wr hI
      obtain ⟨a, rfl, hab, hcell⟩ := blk_row hrd b hlt
      have hcode := hrd.2.2.2.2 bs[b] (List.getElem_mem hlt)
      have d1 : bs[b].n = bs[b].code.length := hcode.1
      have d2 : bs[b].n ≤ bs[b].k := hcode.2.1
      have d3 : bs[b].k ≤ maxLen := hcode.2.2.1
      rw [d1] at hcell d2
      unfold maxLen at d3
      have i1 := HA.out b 0 wr #[.slice bs[b].p bs[b].code.length bs[b].k] 67 hI
      have I1 := Lib.hid i1
      have D1 := Lib.hid d1
      clear hrd hcode i1 d1
      go_wp2_with fail
      go_loopw [19] (fun t wi => ∃ k : Nat, k ≤ bs[b].code.length ∧ t = .int .i64 k ∧ Inv b k wi) (fun t _ => bs[b].code.length - (intOf t).toNat)
      case atStart => exact ⟨0, Nat.zero_le _, rfl, I1.out⟩
      case round =>
        obtain ⟨k, hk, rfl, hJ⟩ := hrel
        by_cases hkl : k < bs[b].code.length
        · obtain ⟨a2, ea2, ha2, hins⟩ := li_row ((HR.out b k wr hJ).2.2.2.2 bs[b] (List.getElem_mem hlt)) k hkl
          rw [ea2]
          rw [ea2] at hcell
          obtain ⟨f0, f1, f2, f3, f4, f5, f6⟩ := hins
          have i2 := HA.out b k wr #[.int .i64 bs[b].code[k].1.op, .int .i64 bs[b].code[k].1.reg, .int .i64 bs[b].code[k].1.ty, .int .i64 bs[b].code[k].1.n, .int .i64 bs[b].code[k].1.fl, .slice bs[b].code[k].1.ap bs[b].code[k].1.al bs[b].code[k].1.ac, .slice bs[b].code[k].1.tp bs[b].code[k].1.tl bs[b].code[k].1.tc] 25 hJ
          have hst := HS.out b k hlt hkl _ i2
          have HST := Lib.hid hst
          clear hst
          go_wp2_with fail
          refine HST.out.mono ?_
          rintro e w2 ⟨rfl, hI2⟩
          go_wp2
          exact ⟨⟨k + 1, by omega, by go_num, hI2⟩, by simp [intOf]; omega⟩
        · go_wp2_with fail
          obtain rfl : k = bs[b].code.length := by omega
          have i3 := HN.out b hlt wr hJ
          refine ⟨⟨b + 1, by omega, by go_num, i3⟩, by simp [intOf]; omega⟩
    · go_wp2_with fail
      obtain rfl : b = bs.length := by omega
      go_end0
      exact ⟨rfl, hI⟩

/-! The closure. -/
theorem argC_one1 (v : Arg) : ∀ u ∈ argC v, u.oneCell' = true := by intro u hu; unfold argC at hu; simp at hu; rcases hu with rfl | rfl | rfl <;> rfl
def rp (reg : Int) (v : Arg) (a : Arg) : Arg := if isU reg a then v else a
def rl (reg : Int) (v : Arg) (l : List Arg) (k : Nat) : List Arg := (l.take k).map (rp reg v) ++ l.drop k
theorem rl_len (reg : Int) (v : Arg) (l : List Arg) (k : Nat) (h : k ≤ l.length) : (rl reg v l k).length = l.length := by unfold rl; simp; omega
theorem rl_0 (reg : Int) (v : Arg) (l : List Arg) : rl reg v l 0 = l := by simp [rl]
theorem rl_all (reg : Int) (v : Arg) (l : List Arg) : rl reg v l l.length = l.map (rp reg v) := by simp [rl]
theorem rl_get (reg : Int) (v : Arg) (l : List Arg) (k : Nat) (h : k < l.length) (h' : k < (rl reg v l k).length) : (rl reg v l k)[k] = l[k] := by
  have e : ((l.take k).map (rp reg v)).length = k := by simp; omega
  have h2 : (rl reg v l k)[k]? = some l[k] := by
    unfold rl
    rw [List.getElem?_append_right (by omega), e, Nat.sub_self, List.getElem?_drop, Nat.add_zero, List.getElem?_eq_getElem h]
  rw [List.getElem?_eq_getElem h'] at h2
  exact Option.some.inj h2
theorem rl_succ (reg : Int) (v : Arg) (l : List Arg) (k : Nat) (h : k < l.length) : rl reg v l (k + 1) = (rl reg v l k).set k (rp reg v l[k]) := by
  unfold rl
  have e : ((l.take k).map (rp reg v)).length = k := by simp; omega
  rw [List.set_append_right _ _ (by omega), e, Nat.sub_self, List.drop_eq_getElem_cons h, List.set_cons_zero, List.take_succ_eq_append_getElem h, List.map_append, List.append_assoc]
  rfl
theorem rl_same (reg : Int) (v : Arg) (l : List Arg) (k : Nat) (h : k < l.length) (hu : isU reg l[k] = false) : rl reg v l (k + 1) = rl reg v l k := by
  have h' : k < (rl reg v l k).length := by rw [rl_len _ _ _ _ (Nat.le_of_lt h)]; exact h
  rw [rl_succ reg v l k h]
  have e : rp reg v l[k] = (rl reg v l k)[k] := by rw [rl_get _ _ _ _ h]; unfold rp; rw [hu]; rfl
  rw [e, List.set_getElem_self]
theorem Box.kept {g : Nat} {cs : List Value} {w w' : World} {row : Option Nat} (h : Box g cs w) (hg : w.grownBy w' row) (hne : some g ≠ row) : Box g cs w' :=
  ⟨Nat.lt_of_lt_of_le h.1 hg.size, fun i => (World.frozen?_of_block (w := w) (hg.block g h.1 hne)).trans (h.2.1 i), fun i u e => (World.cell?_of_block (w := w) (hg.block g h.1 hne)).trans (h.2.2 i u e)⟩
theorem grown_alloc {w w' : World} {row : Option Nat} (h : w.grownBy w' row) (o : Obj) : w.grownBy (w'.alloc o) row := h.trans (World.grownBy_alloc w' o row)
theorem grown_drew {w w' : World} {row : Option Nat} (h : w.grownBy w' row) : w.grownBy w'.drew row := ⟨h.os, h.tape, h.output, h.size, h.block⟩
theorem Box.drew {g : Nat} {cs : List Value} {w : World} (h : Box g cs w) : Box g cs w.drew := h
theorem grown_setCells {g : Nat} : ∀ (cs : List Value) (o : Nat) {w w' : World}, w.grownBy w' (some g) → w.grownBy (w'.setCells g o cs) (some g)
  | [], _, _, _, h => h
  | c :: r, o, w, w', h => by
    unfold World.setCells
    refine grown_setCells r (o + 1) (h.trans ⟨rfl, rfl, rfl, by simp [World.setCell], fun k hk hne => Below.heap_setCell _ _ _ _ (fun e => hne (by rw [e]))⟩)

set_option maxRecDepth 100000 in
set_option maxHeartbeats 2000000 in
theorem rep1_any (B r q : Nat) (reg : Int) (v : Arg) (p0 p1 p2 : Int) (d : Ins) (W : World) (hr : Box r [.int .i64 reg] W) (hv : Box q (argC v) W) (hrow : W.ownsRow B 55 3 (.slice d.ap d.al d.ac) d.al (d.args.flatMap argC)) (hal : d.al = d.args.length)
    (n1 : some r ≠ (Value.slice d.ap d.al d.ac).ownBlock) (n2 : some q ≠ (Value.slice d.ap d.al d.ac).ownBlock) :
    Calls Try.prog 59 #[.agg #[.int .i64 p0, .int .i64 p1, .int .i64 p2], d.val, .pointer (some ⟨r, 0, none⟩), .pointer (some ⟨q, 0, none⟩)] W
      fun e w' => e = .returned (.tuple #[]) ∧ W.grownBy w' (Value.slice d.ap d.al d.ac).ownBlock ∧ w'.ownsRow B 55 3 (.slice d.ap d.al d.ac) d.al ((d.args.map (rp reg v)).flatMap argC) := by
  obtain ⟨op, rg, ty, nn, fl, ap, al, ac, tp, tl, tc, args⟩ := d
  simp only [] at *
  subst hal
  unfold Ins.val
  have HI : Hid ((Try.prog.info? 55).map (·.size) = some 3) := Lib.hid (by kernel_rfl)
  have HN1 := Lib.hid n1
  have HN2 := Lib.hid n2
  clear n1 n2
  go_enter Try.func59, Try.ntmps59
  go_wp2_with fail
  have g0 := grown_alloc (grown_alloc (World.grownBy.refl W (Value.slice ap args.length ac).ownBlock) (.cells #[.int .i64 p0, .int .i64 p1, .int .i64 p2] 47)) (.cells #[.int .i64 op, .int .i64 rg, .int .i64 ty, .int .i64 nn, .int .i64 fl, .slice ap args.length ac, .slice tp tl tc] 25)
  have o0 := (hrow.alloc (.cells #[.int .i64 p0, .int .i64 p1, .int .i64 p2] 47)).alloc (.cells #[.int .i64 op, .int .i64 rg, .int .i64 ty, .int .i64 nn, .int .i64 fl, .slice ap args.length ac, .slice tp tl tc] 25)
  have S0 : Box (W.heap.size + 1) (insC ⟨op, rg, ty, nn, fl, ap, args.length, ac, tp, tl, tc, args⟩) ((W.alloc (.cells #[.int .i64 p0, .int .i64 p1, .int .i64 p2] 47)).alloc (.cells #[.int .i64 op, .int .i64 rg, .int .i64 ty, .int .i64 nn, .int .i64 fl, .slice ap args.length ac, .slice tp tl tc] 25)) := Box.new _ (by simp) _ _
  have hsz : some (W.heap.size + 1) ≠ (Value.slice ap args.length ac).ownBlock := fun e => by have := hrow.lt _ e.symm; omega
  generalize ((W.alloc (.cells #[.int .i64 p0, .int .i64 p1, .int .i64 p2] 47)).alloc (.cells #[.int .i64 op, .int .i64 rg, .int .i64 ty, .int .i64 nn, .int .i64 fl, .slice ap args.length ac, .slice tp tl tc] 25)) = W2 at *
  go_loopw [10] (fun t wr => ∃ k : Nat, k ≤ args.length ∧ t = .int .i64 k ∧ W.grownBy wr (Value.slice ap args.length ac).ownBlock ∧ W2.grownBy wr (Value.slice ap args.length ac).ownBlock ∧ wr.ownsRow B 55 3 (.slice ap args.length ac) args.length ((rl reg v args k).flatMap argC)) (fun t _ => args.length - (intOf t).toNat)
  case atStart => exact ⟨0, Nat.zero_le _, rfl, g0, World.grownBy.refl _ _, by rw [rl_0]; exact o0⟩
  case round =>
    obtain ⟨k, hk, rfl, hg, hg2, ho⟩ := hrel
    by_cases hlt : k < args.length
    · obtain ⟨g, rfl⟩ : ∃ g, ap = some ⟨g, 0, none⟩ := by
        rcases id ho.2 with ⟨_, h0⟩ | ⟨g, cap, cur, e, _⟩
        · omega
        · injection e with e1 e2 e3; exact ⟨g, e1⟩
      have hlg := ho.lt g rfl
      have hcap : args.length ≤ ac ∧ ac ≤ maxLen := by
        rcases id ho.2 with ⟨h0, _⟩ | ⟨g, cap, cur, e, _, _, h1, h2, _⟩
        · cases h0
        · injection e with e1 e2 e3; subst e3; exact ⟨h1, h2⟩
      obtain ⟨hcap1, hcap2⟩ := hcap
      unfold maxLen at hcap2
      have hil : k < (rl reg v args k).length := by rw [rl_len _ _ _ _ hk]; exact hlt
      have hrg := own_range (f := argC) (m := 3) (fun _ => rfl) ho k hil
      rw [rl_get _ _ _ _ hlt] at hrg
      have hth := own_there (f := argC) (m := 3) (fun _ => rfl) ho k hil
      have f0 := hrg 0 _ rfl
      have f1 := hrg 1 _ rfl
      have f2 := hrg 2 _ rfl
      have bR := hr.kept hg HN1.out
      have bV := hv.kept hg HN2.out
      have bS := S0.kept hg2 hsz
      have hls := bS.1
      have hlr := bR.1
      have r0 := bR.get 0 _ rfl
      have s5 := bS.get 5 _ rfl
      have ci := fun W => isUse_any 0 args[k].kind args[k].n args[k].bits reg W (Nat.zero_le _)
      have HRS := Lib.hid (rl_succ reg v args k hlt)
      have HTH := Lib.hid hth
      have HO := Lib.hid ho
      have HV := Lib.hid bV
      have HS := Lib.hid bS
      clear hrg hth ho bV bR bS
      simp only [Nat.add_zero] at f0
      cases hI : isU reg args[k]
      · have cj : ∀ W, Calls Try.prog 58 #[.agg #[.int .i64 args[k].kind, .int .i64 args[k].n, .int .u64 args[k].bits], .int .i64 reg] W fun e w' => e = .returned (.bool false) ∧ w' = W.alloc (.cells #[.int .i64 args[k].kind, .int .i64 args[k].n, .int .u64 args[k].bits] 55) := by
          intro W; have := ci W; unfold isU at hI; rw [hI] at this; exact this
        have HSM := Lib.hid (rl_same reg v args k hlt hI)
        clear hI ci
        go_wp2_with fail
        go_region_held3 (fun w' => w'.cell? ⟨W.heap.size + 1, 5, none⟩ = some (.slice (some ⟨g, 0, none⟩) args.length ac) ∧ w'.cell? ⟨g, k * 3, none⟩ = some (.int .i64 args[k].kind) ∧ w'.cell? ⟨g, k * 3 + 1, none⟩ = some (.int .i64 args[k].n) ∧ w'.cell? ⟨g, k * 3 + 2, none⟩ = some (.int .u64 args[k].bits) ∧ w'.cell? ⟨r, 0, none⟩ = some (.int .i64 reg))
          (((try dsimp only); (repeat' apply And.intro) <;> (first | (with_reducible assumption) | ((repeat (first | rw [World.cell?_drew] | rw [World.cell?_alloc_past _ _ _ (by first | omega | (simp <;> omega))])); with_reducible assumption) | (simp <;> omega))))
          (first
            | ((with_reducible refine (cj _).mono ?_); rintro e w' ⟨rfl, rfl⟩))
        all_goals go_wp2_with fail
        exact ⟨⟨k + 1, by omega, by go_num, grown_drew (grown_alloc hg _), grown_drew (grown_alloc hg2 _), by rw [HSM.out]; exact (HO.out.alloc _).drew⟩, by simp [intOf]; omega⟩
      · have cj : ∀ W, Calls Try.prog 58 #[.agg #[.int .i64 args[k].kind, .int .i64 args[k].n, .int .u64 args[k].bits], .int .i64 reg] W fun e w' => e = .returned (.bool true) ∧ w' = W.alloc (.cells #[.int .i64 args[k].kind, .int .i64 args[k].n, .int .u64 args[k].bits] 55) := by
          intro W; have := ci W; unfold isU at hI; rw [hI] at this; exact this
        have HSM : Hid (rp reg v args[k] = v) := Lib.hid (by unfold rp; rw [hI]; rfl)
        clear hI ci
        go_wp2_with fail
        go_region_held3 (fun w' => w'.cell? ⟨W.heap.size + 1, 5, none⟩ = some (.slice (some ⟨g, 0, none⟩) args.length ac) ∧ w'.cell? ⟨g, k * 3, none⟩ = some (.int .i64 args[k].kind) ∧ w'.cell? ⟨g, k * 3 + 1, none⟩ = some (.int .i64 args[k].n) ∧ w'.cell? ⟨g, k * 3 + 2, none⟩ = some (.int .u64 args[k].bits) ∧ w'.cell? ⟨r, 0, none⟩ = some (.int .i64 reg))
          (((try dsimp only); (repeat' apply And.intro) <;> (first | (with_reducible assumption) | ((repeat (first | rw [World.cell?_drew] | rw [World.cell?_alloc_past _ _ _ (by first | omega | (simp <;> omega))])); with_reducible assumption) | (simp <;> omega))))
          (first
            | ((with_reducible refine (cj _).mono ?_); rintro e w' ⟨rfl, rfl⟩))
        have ox := (HO.out.alloc (.cells #[.int .i64 args[k].kind, .int .i64 args[k].n, .int .u64 args[k].bits] 55)).drew
        have bx := (HV.out.alloc (.cells #[.int .i64 args[k].kind, .int .i64 args[k].n, .int .u64 args[k].bits] 55)).drew
        have sx := (HS.out.alloc (.cells #[.int .i64 args[k].kind, .int .i64 args[k].n, .int .u64 args[k].bits] 55)).drew
        have gx := grown_drew (grown_alloc hg (.cells #[.int .i64 args[k].kind, .int .i64 args[k].n, .int .u64 args[k].bits] 55))
        have gx2 := grown_drew (grown_alloc hg2 (.cells #[.int .i64 args[k].kind, .int .i64 args[k].n, .int .u64 args[k].bits] 55))
        clear f0 f1 f2 r0 s5 cj
        generalize (wr.alloc (.cells #[.int .i64 args[k].kind, .int .i64 args[k].n, .int .u64 args[k].bits] 55)).drew = wx at *
        have v0 := bx.get 0 _ rfl
        have v1 := bx.get 1 _ rfl
        have v2 := bx.get 2 _ rfl
        have s5 := sx.get 5 _ rfl
        have hth := own_there (f := argC) (m := 3) (fun _ => rfl) ox k hil
        have TH2 := Lib.hid hth
        have OX := Lib.hid ox
        clear hth ox bx sx
        go_wp2_with (first
          | (refine wpList_store_mid rfl 55 (.tmp 24) (.tmp 23) rfl g (k * 3) (argC v).toArray (by simp [go_sem]) (by simp [go_sem, argC]) TH2.out HI.out (all_oneCell_toArray (argC_one1 v)) ?_))
        have hset := setCells_own (argC v) (k * 3) OX.out
        rw [sets_flat argC 3 (by decide) (fun _ => rfl) _ k hil v] at hset
        exact ⟨⟨k + 1, by omega, by go_num, grown_setCells _ _ gx, grown_setCells _ _ gx2, by rw [HRS.out, HSM.out]; exact hset⟩, by simp [intOf]; omega⟩
    · obtain rfl : k = args.length := by omega
      rw [rl_all] at ho
      go_wp2_with fail
      go_end0
      exact ⟨rfl, hg, ho⟩
end Go.Proofs.Ytpfeiolmkbibiaa
