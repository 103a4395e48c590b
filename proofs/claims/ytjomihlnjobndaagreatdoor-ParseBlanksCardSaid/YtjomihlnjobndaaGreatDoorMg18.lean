/- Several texts in one: PgZ7, PgZ8, PgZ9, PgZA, PgZB, PgZC, PgZD, PgZE, PbLv. -/
import Derived.Lib.LastIndexByte
import Derived.Lib.Bytealg
import Derived.Test.YtjomihlnjobndaaGreatDoorShelf
import Derived.Deep.Onto
import Derived.Test.YtjomihlnjobndaaGreatDoorMg17
/- The parser: an instruction's names are settled, one that calls. -/
namespace Go.Proofs.YtjomihlnjobndaaGreatDoor
open Go.RowKit Go.Maps
set_option linter.unusedVariables false
set_option linter.unusedSimpArgs false

theorem psOk_heads {m m' : PMod} (h : heads m = heads m') (hp : PsOk m) : PsOk m' := by
  have h1 : m.xs = m'.xs := congrArg (fun x => x.2.1) h
  have h2 : (m.fs.map fun f => (f.nm, f.ps, f.rt)) = m'.fs.map fun f => (f.nm, f.ps, f.rt) := congrArg (fun x => x.2.2) h
  refine ⟨fun f hf => ?_, fun x hx => hp.2 x (by rw [h1]; exact hx)⟩
  have h3 : (f.nm, f.ps, f.rt) ∈ m'.fs.map fun f => (f.nm, f.ps, f.rt) := List.mem_map_of_mem hf
  rw [← h2] at h3
  obtain ⟨g, hg, e⟩ := List.mem_map.1 h3
  have e2 : g.ps = f.ps := congrArg (fun x => x.2.1) e
  rw [← e2]
  exact hp.1 g hg
section
variable {B b : Nat} {W w w' : World} {en : Tok} {m : LMod} {s : RS} {Z Z' : As} {F1 F2 : List LFn} {f : LFn} {B1 B2 : List LB} {c : LB} {C1 C2 : List LI} {x : LI} {gc : Nat}
set_option maxRecDepth 100000 in
set_option maxHeartbeats 4000000 in
theorem names_call (hc : c.p = some ⟨gc, 0, none⟩) (hop : x.1.op = 30) (hts : s.ts = []) (hn : 0 ≤ x.1.n ∧ x.1.n < s.asked.length) (hin : ∀ a ∈ x.1.args, ArgIn s.asked.length a) (hp : PsOk (modD (hole m F1 F2 f B1 B2 c (C1 ++ x :: C2)))) (hml : mlen (modD (hole m F1 F2 f B1 B2 c (C1 ++ x :: C2))) ≤ 1000000) (h : Px B W b en (hole m F1 F2 f B1 B2 c (C1 ++ x :: C2)) s Z w) :
    Calls Tryz.prog 67 #[.pointer (some ⟨b, 0, none⟩), .pointer (some ⟨gc, C1.length * 7, none⟩)] w (fun e w' => e = .returned (.tuple #[]) ∧ ∃ x' : LI, insD x' = (gI en (modD (hole m F1 F2 f B1 B2 c (C1 ++ x :: C2))) s.asked (insD x) s.flt).1 ∧ Px B W b en (hole m F1 F2 f B1 B2 c (C1 ++ x' :: C2)) (wF s (gI en (modD (hole m F1 F2 f B1 B2 c (C1 ++ x :: C2))) s.asked (insD x) s.flt).2) Z w') := by
  obtain ⟨hcell, hfr, hgl, _⟩ := h.cells hc
  obtain ⟨hal, hmx, hap⟩ := h.argsP
  have bl := Pk.lt h
  obtain ⟨⟨op, reg, ty, nn, fl, ap, al, ac, tp, tl, tc, args⟩, tg⟩ := x
  simp only at hop hin hal hmx hap hn
  subst hop
  obtain ⟨q0, rfl, hq0⟩ : ∃ q0 : Nat, nn = (q0 : Int) ∧ q0 < s.asked.length := ⟨nn.toNat, by omega, by omega⟩
  have c0 := hcell 0 _ (by decide) rfl
  have c3 := hcell 3 _ (by decide) rfl
  rw [Nat.add_zero] at c0
  obtain ⟨mm, emm⟩ : ∃ mm, modD (hole m F1 F2 f B1 B2 c (C1 ++ ((⟨30, reg, ty, (q0 : Int), fl, ap, al, ac, tp, tl, tc, args⟩, tg) : LI) :: C2)) = mm := ⟨_, rfl⟩
  rw [emm] at hp hml
  rw [emm]
  obtain ⟨v0, ev0⟩ : ∃ v0, (findCalP mm (nameOf en s.asked (q0 : Int))).getD (-1) = v0 := ⟨_, rfl⟩
  obtain ⟨f0, ef0⟩ : ∃ f0, sAnswer en s.asked (findCalP mm) (q0 : Int) s.flt = f0 := ⟨_, rfl⟩
  obtain ⟨t, et⟩ : ∃ t, (calR mm.xs mm.fs v0).getD 0 = t := ⟨_, rfl⟩
  have hv0 : -1000001 ≤ v0 ∧ v0 ≤ 1000000 := by rw [← ev0]; exact findCal_range hml _
  have eg : gI en mm s.asked (insD ((⟨30, reg, ty, (q0 : Int), fl, ap, al, ac, tp, tl, tc, args⟩, tg) : LI)) s.flt = ({ insD ((⟨30, reg, t, v0, fl, ap, al, ac, tp, tl, tc, args⟩, tg) : LI) with args := (sFold (gA en mm s.asked) args f0).1 }, (sFold (gA en mm s.asked) args f0).2) := by
    unfold gI
    rw [show gC en mm s.asked (insD ((⟨30, reg, ty, (q0 : Int), fl, ap, al, ac, tp, tl, tc, args⟩, tg) : LI)) s.flt = (insD ((⟨30, reg, t, v0, fl, ap, al, ac, tp, tl, tc, args⟩, tg) : LI), f0) from (if_pos rfl).trans (by
      show (({ insD ((⟨30, reg, ty, (q0 : Int), fl, ap, al, ac, tp, tl, tc, args⟩, tg) : LI) with n := (findCalP mm (nameOf en s.asked (q0 : Int))).getD (-1), ty := (calR mm.xs mm.fs ((findCalP mm (nameOf en s.asked (q0 : Int))).getD (-1))).getD 0 } : PIns), sAnswer en s.asked (findCalP mm) (q0 : Int) s.flt) = _
      rw [ev0, ef0, et]
      rfl)]
    rfl
  have hh := congrArg heads emm
  have CA0 := Px.calAt (mm := mm) (f' := s.flt) hh hts q0 hq0 h
  rw [ev0, ef0] at CA0
  have CC : ∀ {Z' : As} w1, Px B W b en (hole m F1 F2 f B1 B2 c (C1 ++ ((⟨30, reg, ty, v0, fl, ap, al, ac, tp, tl, tc, args⟩, tg) : LI) :: C2)) (wF s f0) Z' w1 → Calls Tryz.prog 32 #[.agg #[.slice m.vp m.vn m.vc, .slice m.xp m.xn m.xc, .slice m.fp m.fn m.fc], .int .i64 v0] w1 (fun e w' => ∃ p k c' bb, e = .returned (.tuple #[.slice p k c', .int .i64 t, .bool bb]) ∧ Below w1.heap.size w1 w') := fun {Z'} w1 h1 => by
    have hh2 := (heads_hole (m := m) (F1 := F1) (F2 := F2) (f := f) (B1 := B1) (B2 := B2) (c := c) (C1 ++ ((⟨30, reg, ty, v0, fl, ap, al, ac, tp, tl, tc, args⟩, tg) : LI) :: C2) (C1 ++ ((⟨30, reg, ty, (q0 : Int), fl, ap, al, ac, tp, tl, tc, args⟩, tg) : LI) :: C2)).trans hh
    have h9 := Px.calleeH h1 (psOk_heads hh2.symm hp) v0 (by omega) (by omega)
    rw [calR_heads hh2, et] at h9
    exact h9
  have HN := Lib.hid (And.intro hal (And.intro hmx (And.intro hap (And.intro hin (And.intro eg (And.intro hh (And.intro hts hc)))))))
  clear h hcell hfr hmx hap hin eg emm hts hc ev0 ef0 et hp hml hq0 hn hh
  go_enter Tryz.func67, Tryz.ntmps67
  have hmf : ∀ (fn : Fn) (first cap : Array Value) (w : World), (Instr.makeFunc fn first cap).run Tryz.prog w = .ok (.func fn first cap) w := fun _ _ _ _ => rfl
  go_wp2_with ((with_reducible refine CA0.mono ?_); rintro e w1 ⟨rfl, h1⟩; obtain ⟨hcell1, fr1, gl1, _⟩ := Px.cells h1 HN.out.2.2.2.2.2.2.2; have fr3 := fr1 (C1.length * 7 + 3); have c31 := hcell1 3 _ (by decide) rfl; clear fr1 hcell1; have h2 := Px.setc h1 HN.out.2.2.2.2.2.2.2 3 (by decide) (.int .i64 v0) ((⟨30, reg, ty, v0, fl, ap, al, ac, tp, tl, tc, args⟩, tg) : LI) rfl rfl; have HP1 := Lib.hid h2; obtain ⟨x8, x9, x10, bl2⟩ := Px.mcells h2; obtain ⟨hcell2, _, gl2, _⟩ := Px.cells h2 HN.out.2.2.2.2.2.2.2; have c33 := hcell2 3 _ (by decide) rfl; clear hcell2 h2 h1)
  go_region_law (first | (go_simp; (with_reducible refine (CC _ HP1.out.drew).mono ?_); rintro e w3 ⟨p3, k3, c3', bb, rfl, hb3⟩; have h3 := Px.later HP1.out.drew hb3; obtain ⟨hcell3, fr33, gl3, _⟩ := Px.cells h3 HN.out.2.2.2.2.2.2.2; have fr32 := fr33 (C1.length * 7 + 2); have c32 := hcell3 2 _ (by decide) rfl; clear fr33 hcell3; have h4 := Px.setc h3 HN.out.2.2.2.2.2.2.2 2 (by decide) (.int .i64 t) ((⟨30, reg, t, v0, fl, ap, al, ac, tp, tl, tc, args⟩, tg) : LI) rfl rfl; have HP4 := Lib.hid h4; obtain ⟨hcell4, _, gl4, _⟩ := Px.cells h4 HN.out.2.2.2.2.2.2.2; have c5 := hcell4 5 _ (by decide) rfl; clear hcell4 h4 h3))
  all_goals
    go_wp2_with fail
    go_loopw [43] (fun t43 wr => ∃ (A1 A2 : List Arg) (f' : Option Flt), t43 = .int .i64 (A1.length : Nat) ∧ Hid (A1.length + A2.length = al ∧ Px B W b en (hole m F1 F2 f B1 B2 c (C1 ++ ((⟨30, reg, t, v0, fl, ap, al, ac, tp, tl, tc, A1 ++ A2⟩, tg) : LI) :: C2)) (wF s f') Z wr ∧ Ak en mm s.asked args f0 A1 A2 f')) (fun t43 _ => al - (intOf t43).toNat)
    case atStart => exact ⟨[], args, f0, rfl, Lib.hid ⟨by have := HN.out.1; simp; omega, HP4.out, rfl, HN.out.2.2.2.1⟩⟩
    case round =>
      obtain ⟨A1, A2, f', rfl, HR⟩ := hrel
      cases A2 with
      | nil =>
        have hl : A1.length = al := by have := HR.out.1; simpa using this
        have hd : decide ((al : Int) < (al : Int)) = false := by simp
        rw [hl]
        clear hl
        go_wp2_with fail
        go_end0
        refine ⟨rfl, ((⟨30, reg, t, v0, fl, ap, al, ac, tp, tl, tc, A1 ++ []⟩, tg) : LI), ?_, ?_⟩
        · rw [HN.out.2.2.2.2.1, HR.out.2.2.1]; rfl
        · rw [HN.out.2.2.2.2.1, HR.out.2.2.1]; exact HR.out.2.1
      | cons a A2 =>
        have hne : args ≠ [] := fun e => by have h1 := HR.out.1; have h2 := HN.out.1; rw [e] at h2; simp at h1 h2; omega
        obtain ⟨ga, rfl⟩ := HN.out.2.2.1 hne
        obtain ⟨kd, nv, bits⟩ := a
        obtain ⟨⟨⟨d0, d1, d2⟩, dfr, dgl, dal, dac, dmx⟩, hset⟩ := Px.arg (A1 := A1) (A2 := A2) (a := ⟨kd, nv, bits⟩) (ga := ga) HR.out.2.1 rfl rfl
        obtain ⟨i, ei⟩ : ∃ i, A1.length = i := ⟨_, rfl⟩
        have hi : i < al := by have h1 := HR.out.1; simp at h1; omega
        have HL := Lib.hid (And.intro ei hi)
        have hd : decide ((i : Int) < (al : Int)) = true := by simp; omega
        simp only at d0 d1 d2 dgl dac
        rw [ei] at d0 d1 d2
        rw [ei]
        have h2 := Px.bpush (Px.b0 HR.out.2.1) rfl [.int .i64 kd, .int .i64 nv, .int .u64 bits] 80
        have HP2 := Lib.hid h2
        have hmax : ac ≤ 9223372036854775807 := by unfold maxLen at dmx; exact dmx
        have halac : al ≤ ac := dac
        clear h2 hset dal dac dmx hne ei dfr
        by_cases hk : kd = 5
        · subst hk
          obtain ⟨q, rfl, hq⟩ : ∃ q : Nat, nv = (q : Int) ∧ q < s.asked.length := by
            obtain ⟨h1, h2⟩ := HR.out.2.2.2 _ (List.mem_cons_self) rfl
            exact ⟨nv.toNat, by simp only at h1 h2; omega, by simp only at h1 h2; omega⟩
          have CA : ∀ {Z' : As} w1, Px B W b en (hole m F1 F2 f B1 B2 c (C1 ++ ((⟨30, reg, t, v0, fl, some ⟨ga, 0, none⟩, al, ac, tp, tl, tc, A1 ++ (⟨5, (q : Int), bits⟩ : Arg) :: A2⟩, tg) : LI) :: C2)) (wF s f') Z' w1 → _ := fun {Z'} w1 h1 => Px.varAt (mm := mm) ((heads_hole _ _).trans HN.out.2.2.2.2.2.1) HN.out.2.2.2.2.2.2.1 q hq h1
          obtain ⟨v, ev⟩ : ∃ v, (findVarP mm (nameOf en s.asked (q : Int))).getD (-1) = v := ⟨_, rfl⟩
          simp only [ev] at CA
          have e0 := HP2.out.bget 0 rfl
          have b0 := e0.get 0 _ rfl
          have b1 := e0.get 1 _ rfl
          have gbl := e0.1
          obtain ⟨hcell, hfr, hgl, _⟩ := Px.cells HP2.out HN.out.2.2.2.2.2.2.2
          have c5 := hcell 5 _ (by decide) rfl
          have HV := Lib.hid (And.intro ev hq)
          clear hcell hfr hgl e0 ev hq
          go_wp2_with fail
          go_region_law (first | (go_simp; (with_reducible refine (CA _ HP2.out.drew).mono ?_); rintro e w5 ⟨rfl, h5⟩; obtain ⟨hcell5, hfr5, hgl5, _⟩ := Px.cells h5 HN.out.2.2.2.2.2.2.2; have c55 := hcell5 5 _ (by decide) rfl; obtain ⟨⟨⟨_, i1, _⟩, ifr, igl, _, _, _⟩, hset⟩ := Px.arg (A1 := A1) (A2 := A2) (a := ⟨5, (q : Int), bits⟩) (ga := ga) h5 rfl rfl; rw [HL.out.1] at i1 hset; have if1 := ifr (i * 3 + 1); have HS := Lib.hid hset; clear hcell5 hfr5 hgl5 ifr hset))
          all_goals
            go_wp2_with fail
            have hS := (HS.out v).nobx
            have hA := HR.out.2.2.step
            have eA : gA en mm s.asked (⟨5, (q : Int), bits⟩ : Arg) f' = (⟨5, v, bits⟩, sAnswer en s.asked (findVarP mm) (q : Int) f') := by unfold gA; rw [if_pos rfl, HV.out.1]
            rw [eA] at hA
            refine ⟨⟨A1 ++ [⟨5, v, bits⟩], A2, _, ?_, Lib.hid ⟨?_, ?_, hA⟩⟩, ?_⟩
            · rw [List.length_append, List.length_singleton, HL.out.1]; go_num
            · have h1 := HR.out.1; simp at h1 ⊢; omega
            · rw [List.append_assoc]; exact hS
            · have h1 := HL.out.2; simp [intOf]; omega
        · have hk5 : (kd == 5) = false := beq_false_of_ne hk
          have e0 := HP2.out.bget 0 rfl
          have b0 := e0.get 0 _ rfl
          have gbl := e0.1
          have HK := Lib.hid hk
          clear e0 hk
          go_wp2_with fail
          have hS := HP2.out.nobx
          have hA := HR.out.2.2.step
          have eA : gA en mm s.asked (⟨kd, nv, bits⟩ : Arg) f' = (⟨kd, nv, bits⟩, f') := by unfold gA; rw [if_neg HK.out]
          rw [eA] at hA
          refine ⟨⟨A1 ++ [⟨kd, nv, bits⟩], A2, _, ?_, Lib.hid ⟨?_, ?_, hA⟩⟩, ?_⟩
          · rw [List.length_append, List.length_singleton, HL.out.1]; go_num
          · have h1 := HR.out.1; simp at h1 ⊢; omega
          · rw [List.append_assoc]; exact hS
          · have h1 := HL.out.2; simp [intOf]; omega
end
end Go.Proofs.YtjomihlnjobndaaGreatDoor
/- The parser: what settle reads, and how its folds go on. -/
namespace Go.Proofs.YtjomihlnjobndaaGreatDoor
open Go.RowKit Go.Maps
set_option linter.unusedVariables false
set_option linter.unusedSimpArgs false

/-! A fold, half gone. -/
def Sf {α : Type} (g : α → Option Flt → α × Option Flt) (xs : List α) (f0 : Option Flt) (A1 A2 : List α) (f' : Option Flt) : Prop :=
  sFold g xs f0 = (A1 ++ (sFold g A2 f').1, (sFold g A2 f').2)
theorem Sf.step {α : Type} {g : α → Option Flt → α × Option Flt} {xs : List α} {f0 : Option Flt} {A1 A2 : List α} {a : α} {f' : Option Flt} (h : Sf g xs f0 A1 (a :: A2) f') : Sf g xs f0 (A1 ++ [(g a f').1]) A2 (g a f').2 := by
  have e : sFold g (a :: A2) f' = ((g a f').1 :: (sFold g A2 (g a f').2).1, (sFold g A2 (g a f').2).2) := rfl
  unfold Sf at h ⊢
  rw [h, e]
  simp
theorem Sf.fin {α : Type} {g : α → Option Flt → α × Option Flt} {xs : List α} {f0 : Option Flt} {A1 : List α} {f' : Option Flt} (h : Sf g xs f0 A1 [] f') : sFold g xs f0 = (A1, f') := by
  have e : sFold g ([] : List α) f' = ([], f') := rfl
  unfold Sf at h
  rw [h, e]
  simp
theorem Sf.start {α : Type} {g : α → Option Flt → α × Option Flt} {xs : List α} {f0 : Option Flt} : Sf g xs f0 [] xs f0 := rfl
def mF (m : LMod) (fs : List LFn) : LMod := { m with fs := fs }
def fB (f : LFn) (bs : List LB) : LFn := { f with bs := bs }
theorem heads_mF {m : LMod} {F1 F2 : List LFn} {f f' : LFn} (e : (f.nm, f.ps, f.rt) = (f'.nm, f'.ps, f'.rt)) : heads (modD (mF m (F1 ++ f :: F2))) = heads (modD (mF m (F1 ++ f' :: F2))) := by
  have e1 : f.nm = f'.nm := congrArg (fun x => x.1) e
  have e2 : f.ps = f'.ps := congrArg (fun x => x.2.1) e
  have e3 : f.rt = f'.rt := congrArg (fun x => x.2.2) e
  unfold heads modD mF fnD
  simp [e1, e2, e3]
theorem mlen_heads {m m' : PMod} (h : heads m = heads m') : mlen m = mlen m' := by
  have h0 : m.vs = m'.vs := congrArg (fun x => x.1) h
  have h1 : m.xs = m'.xs := congrArg (fun x => x.2.1) h
  have h2 : (m.fs.map fun f => (f.nm, f.ps, f.rt)) = m'.fs.map fun f => (f.nm, f.ps, f.rt) := congrArg (fun x => x.2.2) h
  have h3 := congrArg List.length h2
  simp only [List.length_map] at h3
  unfold mlen
  rw [h0, h1, h3]
theorem gF_heads {en : Tok} {m m' : PMod} (h : heads m = heads m') (asked : List Tok) : gI en m asked = gI en m' asked := by
  funext x f; exact gI_heads h asked x f
section
variable {B b : Nat} {W w w' : World} {en : Tok} {m : LMod} {s : RS} {Z Z' : As} {F1 F2 : List LFn} {f : LFn} {B1 B2 : List LB} {c : LB} {C1 C2 : List LI} {x : LI} {gc : Nat}
theorem row_some {α : Type} {B : Nat} {ty : TypeId} {m : Nat} {cel : α → List Value} {p : Option Addr} {n c : Nat} {xs : List α} {w : World} (h : rowP B ty m cel p n c xs w) (hne : xs ≠ []) : ∃ g, p = some ⟨g, 0, none⟩ := by
  rcases id h.2.2 with ⟨e, h0⟩ | ⟨g', cap, cur, e, hg, hh, k1, k2, _⟩
  · injection e with e1 e2 e3
    exact absurd (List.eq_nil_of_length_eq_zero (by rw [← h.1, e2])) hne
  · injection e with e1 e2 e3; exact ⟨g', e1⟩
theorem Px.fsAt (h : Px B W b en (mF m (F1 ++ f :: F2)) s Z w) : ∃ g, m.fp = some ⟨g, 0, none⟩ ∧ (w.cell? ⟨g, F1.length * 4, none⟩ = some (.string f.nm) ∧ w.cell? ⟨g, F1.length * 4 + 1, none⟩ = some (.slice f.pp f.pn f.pc) ∧ w.cell? ⟨g, F1.length * 4 + 2, none⟩ = some (.int .i64 f.rt) ∧ w.cell? ⟨g, F1.length * 4 + 3, none⟩ = some (.slice f.bp f.bn f.bc)) ∧ g < w.heap.size ∧ m.fn ≤ m.fc ∧ m.fc ≤ maxLen := by
  have h1 : rowP B 46 4 fnC m.fp m.fn m.fc (F1 ++ f :: F2) w := (Pk.satZ h).1.2.2.1
  obtain ⟨g, e⟩ := row_some h1 (by simp)
  rw [e] at h1
  obtain ⟨a1, a2, a3, a4, a5, a6⟩ := row_at' (cel := fnC) (m := 4) (fun _ => rfl) h1
  exact ⟨g, e, ⟨a1 0 _ (by decide) rfl, a1 1 _ (by decide) rfl, a1 2 _ (by decide) rfl, a1 3 _ (by decide) rfl⟩, a3, a5, a6⟩
theorem Px.bsLen (h : Px B W b en (mF m (F1 ++ f :: F2)) s Z w) : f.bn = f.bs.length := by
  have h1 := ((As.all_at_mid (fnAs B) w F1 f F2).1 (Pk.satZ h).1.2.2.2).2.1
  exact h1.2.1.1
theorem Px.bsAt (h : Px B W b en (mF m (F1 ++ fB f (B1 ++ c :: B2) :: F2)) s Z w) : (∃ g, f.bp = some ⟨g, 0, none⟩ ∧ w.cell? ⟨g, B1.length, none⟩ = some (.slice c.p c.n c.k) ∧ g < w.heap.size ∧ f.bn ≤ f.bc ∧ f.bc ≤ maxLen) ∧ c.n = c.code.length := by
  have h0 := ((As.all_at_mid (fnAs B) w F1 (fB f (B1 ++ c :: B2)) F2).1 (Pk.satZ h).1.2.2.2).2.1
  have h1 : rowP B 50 1 blkC f.bp f.bn f.bc (B1 ++ c :: B2) w := h0.2.1
  obtain ⟨g, e⟩ := row_some h1 (by simp)
  rw [e] at h1
  obtain ⟨a1, a2, a3, a4, a5, a6⟩ := row_at' (cel := blkC) (m := 1) (fun _ => rfl) h1
  have a10 := a1 0 _ (by decide) rfl
  rw [Nat.mul_one, Nat.add_zero] at a10
  exact ⟨⟨g, e, a10, a3, a5, a6⟩, ((As.all_at_mid (blkAs B) w B1 c B2).1 h0.2.2).2.1.1.1⟩
theorem Px.cdAt (h : Px B W b en (hole m F1 F2 f B1 B2 c (C1 ++ x :: C2)) s Z w) : ∃ g, c.p = some ⟨g, 0, none⟩ ∧ g < w.heap.size ∧ c.n ≤ c.k ∧ c.k ≤ maxLen := by
  obtain ⟨Y0, hs, _⟩ := h.cod
  have h1 : rowP B 53 7 liC c.p c.n c.k (C1 ++ x :: C2) w := hs.sat.1
  obtain ⟨g, e⟩ := row_some h1 (by simp)
  rw [e] at h1
  obtain ⟨a1, a2, a3, a4, a5, a6⟩ := row_at' (cel := liC) (m := 7) (fun _ => rfl) h1
  exact ⟨g, e, a3, a5, a6⟩
theorem names_any {mm : PMod} (hm : heads (modD (hole m F1 F2 f B1 B2 c (C1 ++ x :: C2))) = heads mm) (hc : c.p = some ⟨gc, 0, none⟩) (hts : s.ts = []) (hinn : InsInn s.asked.length (insD x)) (hp : PsOk mm) (hml : mlen mm ≤ 1000000) {f' : Option Flt} (h : Px B W b en (hole m F1 F2 f B1 B2 c (C1 ++ x :: C2)) (wF s f') Z w) :
    Calls Tryz.prog 67 #[.pointer (some ⟨b, 0, none⟩), .pointer (some ⟨gc, C1.length * 7, none⟩)] w (fun e w' => e = .returned (.tuple #[]) ∧ ∃ x' : LI, insD x' = (gI en mm s.asked (insD x) f').1 ∧ Px B W b en (hole m F1 F2 f B1 B2 c (C1 ++ x' :: C2)) (wF s (gI en mm s.asked (insD x) f').2) Z w') := by
  rw [← gI_heads hm]
  by_cases hop : x.1.op = 30
  · exact names_call (s := wF s f') hc hop hts (hinn.1 hop) hinn.2 (psOk_heads hm.symm hp) (by rw [mlen_heads hm]; exact hml) h
  · exact names_no (s := wF s f') hc hop hts hinn.2 h
end
end Go.Proofs.YtjomihlnjobndaaGreatDoor
/- The parser: settle. -/
namespace Go.Proofs.YtjomihlnjobndaaGreatDoor
open Go.RowKit Go.Maps
set_option linter.unusedVariables false
set_option linter.unusedSimpArgs false

section
variable {B b : Nat} {W w w' : World} {en : Tok} {m : LMod} {s : RS} {Z Z' : As}
set_option maxRecDepth 100000 in
set_option maxHeartbeats 8000000 in
theorem settle_any (hts : s.ts = []) (hinn : ModInn s.asked.length (modD m)) (hp : PsOk (modD m)) (hml : mlen (modD m) ≤ 1000000) (h : Px B W b en m s Z w) :
    Calls Tryz.prog 23 #[.pointer (some ⟨b, 0, none⟩)] w (fun e w' => e = .returned (.tuple #[]) ∧ Mk B W b en (gM en (modD m) s.asked s.flt).1 (wF s (gM en (modD m) s.asked s.flt).2) Z w') := by
  obtain ⟨_, _, c10, _⟩ := Pk.cells h
  have bl := Pk.lt h
  obtain ⟨vp, vn, vc, vs, xp, xn, xc, xs, fp, fn, fc, fs⟩ := m
  obtain ⟨mm, emm⟩ : ∃ mm, modD ⟨vp, vn, vc, vs, xp, xn, xc, xs, fp, fn, fc, fs⟩ = mm := ⟨_, rfl⟩
  have hfn : fn = fs.length := (Pk.satZ h).1.2.2.1.1
  have efs : mm.fs = fs.map fnD := by rw [← emm]; rfl
  rw [emm] at hinn hp hml
  rw [emm]
  have HH := Lib.hid (And.intro h (congrArg heads emm))
  have HN := Lib.hid (And.intro hfn (And.intro hts (And.intro hp (And.intro hml (And.intro hinn (And.intro efs emm))))))
  clear h hts hinn hp hml emm efs hfn
  simp only at c10
  go_enter Tryz.func23, Tryz.ntmps23
  go_wp2_with fail
  go_loopw [13] (fun t13 wr => ∃ (F1 F2 : List LFn) (f1 : Option Flt), t13 = .int .i64 (F1.length : Nat) ∧ Hid (F1.length + F2.length = fn ∧ Px B W b en (mF ⟨vp, vn, vc, vs, xp, xn, xc, xs, fp, fn, fc, fs⟩ (F1 ++ F2)) (wF s f1) Z wr ∧ Sf (gF en mm s.asked) (fs.map fnD) s.flt (F1.map fnD) (F2.map fnD) f1 ∧ heads (modD (mF ⟨vp, vn, vc, vs, xp, xn, xc, xs, fp, fn, fc, fs⟩ (F1 ++ F2))) = heads mm ∧ ∀ f ∈ F2, f ∈ fs)) (fun t13 _ => fn - (intOf t13).toNat)
  case atStart => exact ⟨[], fs, s.flt, rfl, Lib.hid ⟨by have := HN.out.1; simp; omega, HH.out.1, Sf.start, HH.out.2, fun f hf => hf⟩⟩
  case round =>
    obtain ⟨F1, F2, f1, rfl, HR⟩ := hrel
    rename World => wa
    cases F2 with
    | nil =>
      have hl : F1.length = fn := by have := HR.out.1; simpa using this
      have hd : decide ((fn : Int) < (fn : Int)) = false := by simp
      rw [hl]
      clear hl
      go_wp2_with fail
      go_end0
      refine ⟨rfl, ?_⟩
      have hS := HR.out.2.2.1.fin
      have hE : gM en mm s.asked s.flt = (modD (mF ⟨vp, vn, vc, vs, xp, xn, xc, xs, fp, fn, fc, fs⟩ (F1 ++ [])), f1) := by
        unfold gM
        rw [HN.out.2.2.2.2.2.1, hS, ← HN.out.2.2.2.2.2.2]
        simp [modD, mF]
      rw [hE]
      exact HR.out.2.1.mk
    | cons f F2 =>
      obtain ⟨gf0, e1, ⟨d0, d1, d2, d3⟩, dgl, dn, dmx⟩ := Px.fsAt HR.out.2.1
      simp only at e1 dn dmx
      subst e1
      have hbl := Px.bsLen HR.out.2.1
      obtain ⟨i, ei⟩ : ∃ i, F1.length = i := ⟨_, rfl⟩
      have hi : i < fn := by have h1 := HR.out.1; simp at h1; omega
      have HL := Lib.hid (And.intro ei (And.intro hi hbl))
      have hd : decide ((i : Int) < (fn : Int)) = true := by simp; omega
      rw [ei] at d0 d1 d2 d3
      rw [ei]
      have h2 := Px.bpush (Px.b0 HR.out.2.1) rfl [.string f.nm, .slice f.pp f.pn f.pc, .int .i64 f.rt, .slice f.bp f.bn f.bc] 46
      have HP2 := Lib.hid h2
      have hb2 := h2.bget 0 rfl
      have b3 := hb2.get 3 _ rfl
      have gbl := hb2.1
      unfold maxLen at dmx
      clear h2 hb2 ei hbl
      go_wp2_with fail
      go_loopw [20] (fun t20 wt => ∃ (B1 B2 : List LB) (f2 : Option Flt), t20 = .int .i64 (B1.length : Nat) ∧ Hid (B1.length + B2.length = f.bn ∧ Px B W b en (mF ⟨vp, vn, vc, vs, xp, xn, xc, xs, some ⟨gf0, 0, none⟩, fn, fc, fs⟩ (F1 ++ fB f (B1 ++ B2) :: F2)) (wF s f2) ((As.and (bxs [(wa.heap.size, [.string f.nm, .slice f.pp f.pn f.pc, .int .i64 f.rt, .slice f.bp f.bn f.bc])]) Z)) wt ∧ Sf (fun c => sFold (gI en mm s.asked) c) (f.bs.map blkD) f1 (B1.map blkD) (B2.map blkD) f2 ∧ ∀ c ∈ B2, c ∈ f.bs)) (fun t20 _ => f.bn - (intOf t20).toNat)
      case atStart => exact ⟨[], f.bs, f1, rfl, Lib.hid ⟨by have := HL.out.2.2; simp; omega, HP2.out, Sf.start, fun c hc => hc⟩⟩
      case round =>
        obtain ⟨B1, B2, f2, rfl, HB⟩ := hrel
        rename World => wt
        cases B2 with
        | nil =>
          have hl : B1.length = f.bn := by have := HB.out.1; simpa using this
          have hdb : decide ((f.bn : Int) < (f.bn : Int)) = false := by simp
          rw [hl]
          clear hl
          go_wp2_with fail
          have hS := HB.out.2.2.1.fin
          have hA := HR.out.2.2.1.step
          have eA : gF en mm s.asked (fnD f) f1 = (fnD (fB f (B1 ++ [])), f2) := by
            unfold gF
            rw [show (fnD f).bs = f.bs.map blkD from rfl, hS]
            simp [fnD, fB]
          rw [eA] at hA
          have hpx := HB.out.2.1.nobx
          refine ⟨⟨F1 ++ [fB f (B1 ++ [])], F2, f2, ?_, Lib.hid ⟨?_, ?_, ?_, ?_, ?_⟩⟩, ?_⟩
          · rw [List.length_append, List.length_singleton, HL.out.1]; go_num
          · have h1 := HR.out.1; simp at h1 ⊢; omega
          · rw [List.append_assoc]; exact hpx
          · rw [List.map_append]; exact hA
          · rw [List.append_assoc]; exact (heads_mF (by rfl)).trans HR.out.2.2.2.1
          · exact fun y hy => HR.out.2.2.2.2 y (List.mem_cons_of_mem _ hy)
          · have h1 := HL.out.2.1; simp [intOf]; omega
        | cons c B2 =>
          obtain ⟨⟨gB, e2, k0, kgl, kn, kmx⟩, kcn⟩ := Px.bsAt HB.out.2.1
          obtain ⟨j, ej⟩ : ∃ j, B1.length = j := ⟨_, rfl⟩
          have hj : j < f.bn := by have h1 := HB.out.1; simp at h1; omega
          have HJ := Lib.hid (And.intro ej (And.intro hj kcn))
          have hdb : decide ((j : Int) < (f.bn : Int)) = true := by simp; omega
          rw [ej] at k0
          rw [ej]
          have h5 := Px.bpush HB.out.2.1 rfl [.slice c.p c.n c.k] 50
          have HP5 := Lib.hid h5
          have hb5 := h5.bget 0 rfl
          have b5 := hb5.get 0 _ rfl
          have gbl5 := hb5.1
          unfold maxLen at kmx
          have HE := Lib.hid e2
          clear h5 hb5 ej kcn
          rw [e2]
          go_wp2_with fail
          go_loopw [27] (fun t27 wv => ∃ (C1 C2 : List LI) (f3 : Option Flt), t27 = .int .i64 (C1.length : Nat) ∧ Hid (C1.length + C2.length = c.n ∧ Px B W b en (hole ⟨vp, vn, vc, vs, xp, xn, xc, xs, some ⟨gf0, 0, none⟩, fn, fc, fs⟩ F1 F2 f B1 B2 c (C1 ++ C2)) (wF s f3) ((As.and (bxs [(wt.heap.size, [.slice c.p c.n c.k]), (wa.heap.size, [.string f.nm, .slice f.pp f.pn f.pc, .int .i64 f.rt, .slice f.bp f.bn f.bc])]) Z)) wv ∧ Sf (gI en mm s.asked) (c.code.map insD) f2 (C1.map insD) (C2.map insD) f3 ∧ ∀ x ∈ C2, x ∈ c.code)) (fun t27 _ => c.n - (intOf t27).toNat)
          case atStart => exact ⟨[], c.code, f2, rfl, Lib.hid ⟨by have := HJ.out.2.2; simp; omega, HP5.out, Sf.start, fun x hx => hx⟩⟩
          case round =>
            obtain ⟨C1, C2, f3, rfl, HC⟩ := hrel
            rename World => wv
            cases C2 with
            | nil =>
              have hl : C1.length = c.n := by have := HC.out.1; simpa using this
              have hdc : decide ((c.n : Int) < (c.n : Int)) = false := by simp
              rw [hl]
              clear hl
              go_wp2_with fail
              have hS := HC.out.2.2.1.fin
              have hA := HB.out.2.2.1.step
              have eA : sFold (gI en mm s.asked) (blkD c) f2 = (blkD (holeB c (C1 ++ [])), f3) := by
                show sFold (gI en mm s.asked) (c.code.map insD) f2 = _
                rw [hS]
                simp [blkD, holeB]
              rw [eA] at hA
              have hpx : Px B W b en (mF ⟨vp, vn, vc, vs, xp, xn, xc, xs, some ⟨gf0, 0, none⟩, fn, fc, fs⟩ (F1 ++ fB f (B1 ++ holeB c (C1 ++ []) :: B2) :: F2)) (wF s f3) ((As.and (bxs [(wa.heap.size, [.string f.nm, .slice f.pp f.pn f.pc, .int .i64 f.rt, .slice f.bp f.bn f.bc])]) Z)) _ := Px.imp HC.out.2.1 ⟨fun w y => ⟨y.1.2, y.2⟩, fun k => by simp only [As.and_c, bxs, As.all, As.emp_c]; omega⟩
              refine ⟨⟨B1 ++ [holeB c (C1 ++ [])], B2, f3, ?_, Lib.hid ⟨?_, ?_, ?_, ?_⟩⟩, ?_⟩
              · rw [List.length_append, List.length_singleton, HJ.out.1]; go_num
              · have h1 := HB.out.1; simp at h1 ⊢; omega
              · rw [List.append_assoc B1 [holeB c (C1 ++ [])] B2, ← HE.out]; exact hpx
              · rw [List.map_append]; exact hA
              · exact fun y hy => HB.out.2.2.2 y (List.mem_cons_of_mem _ hy)
              · have h1 := HJ.out.2.1; simp [intOf]; omega
            | cons x C2 =>
              obtain ⟨gc, e3, cgl, cn, cmx⟩ := Px.cdAt HC.out.2.1
              obtain ⟨k, ek⟩ : ∃ k, C1.length = k := ⟨_, rfl⟩
              have hk : k < c.n := by have h1 := HC.out.1; simp at h1; omega
              have hdc : decide ((k : Int) < (c.n : Int)) = true := by simp; omega
              have hm : heads (modD (hole ⟨vp, vn, vc, vs, xp, xn, xc, xs, some ⟨gf0, 0, none⟩, fn, fc, fs⟩ F1 F2 f B1 B2 c (C1 ++ x :: C2))) = heads mm := (heads_mF (by rfl)).trans HR.out.2.2.2.1
              have hx : InsInn s.asked.length (insD x) := by
                have h1 := HN.out.2.2.2.2.1 (fnD f) (by rw [HN.out.2.2.2.2.2.1]; exact List.mem_map_of_mem (HR.out.2.2.2.2 f List.mem_cons_self))
                exact h1 (blkD c) (List.mem_map_of_mem (HB.out.2.2.2 c List.mem_cons_self)) (insD x) (List.mem_map_of_mem (HC.out.2.2.2 x List.mem_cons_self))
              have CN := names_any (C1 := C1) (C2 := C2) hm e3 HN.out.2.1 hx HN.out.2.2.1 HN.out.2.2.2.1 HC.out.2.1
              rw [ek] at CN
              rw [ek]
              have hbv := HC.out.2.1.bget 0 rfl
              have v5 := hbv.get 0 _ rfl
              have v5l := hbv.1
              have HK := Lib.hid (And.intro ek hk)
              rw [e3] at v5
              unfold maxLen at cmx
              rw [e3]
              clear hbv hm hx ek
              go_wp2_with ((with_reducible refine CN.mono ?_); rintro e wz ⟨rfl, x', ex', hz⟩)
              have hA := HC.out.2.2.1.step
              have eA : (gI en mm s.asked (insD x) f3).1 = insD x' := ex'.symm
              rw [eA] at hA
              refine ⟨⟨C1 ++ [x'], C2, (gI en mm s.asked (insD x) f3).2, ?_, Lib.hid ⟨?_, ?_, ?_, ?_⟩⟩, ?_⟩
              · rw [List.length_append, List.length_singleton, HK.out.1]; go_num
              · have h1 := HC.out.1; simp at h1 ⊢; omega
              · rw [List.append_assoc C1 [x'] C2, ← e3]; exact hz
              · rw [List.map_append]; exact hA
              · exact fun y hy => HC.out.2.2.2 y (List.mem_cons_of_mem _ hy)
              · have h1 := HK.out.2; simp [intOf]; omega
end
end Go.Proofs.YtjomihlnjobndaaGreatDoor
/- The parser: what the lines leave. No program here. -/
namespace Go.Proofs.YtjomihlnjobndaaGreatDoor
set_option linter.unusedVariables false
set_option linter.unusedSimpArgs false

section
variable {en : Tok} (h6 : en.kind = 6)
include h6
theorem more_ps : ∀ (k : Nat) (q : List Int × RS), tsl q.2 < k → (sMore en (iParam en) k q).1.length ≤ q.1.length + tsl q.2
  | 0, q, h => absurd h (Nat.not_lt_zero _)
  | k + 1, q, h => by
    unfold sMore
    split
    · rename_i hc
      have hne : q.2.ts.length ≠ 0 := ts_of_kind h6 (by unfold isTk at hc; rw [Bool.and_eq_true] at hc; have := hc.1; simp at this; omega)
      have h3 : tsl (ps q.2) + 1 ≤ tsl q.2 := by unfold tsl ps at *; simp; omega
      have h1 := tsl_param en (q.1, ps q.2)
      have h1' : tsl (iParam en (q.1, ps q.2)).2 ≤ tsl (ps q.2) := h1
      have h2 : (iParam en (q.1, ps q.2)).1.length = q.1.length + 1 := intsz _ _
      have ih := more_ps k (iParam en (q.1, ps q.2)) (by omega)
      omega
    · omega
theorem types_ps (s : RS) : (vTypes en s).1.length ≤ tsl s + 1 := by
  unfold vTypes
  show (sBrackets en (iParam en) ([], s)).1.length ≤ _
  unfold sBrackets
  have h0 := tsl_this en 5 [40] s
  dsimp only
  split
  · show 0 ≤ _
    omega
  · unfold sCommas
    have h1 := tsl_param en ([], sThis en 5 [40] s)
    have h1' : tsl (iParam en ([], sThis en 5 [40] s)).2 ≤ tsl (sThis en 5 [40] s) := h1
    have h2 : (iParam en ([], sThis en 5 [40] s)).1.length = 0 + 1 := intsz _ _
    have ih := more_ps h6 ((iParam en ([], sThis en 5 [40] s)).2.ts.length + 1) (iParam en ([], sThis en 5 [40] s)) (Nat.lt_succ_self _)
    show (sMore en (iParam en) _ (iParam en ([], sThis en 5 [40] s))).1.length ≤ _
    omega
/-- What the lines leave: no pieces; few parts; short lists of parameters. -/
theorem lines_left (N : Nat) : ∀ (k : Nat) (p : PMod × RS), tsl p.2 < k → tsl p.2 ≤ N → (∀ f ∈ p.1.fs, f.ps.length ≤ N + 1) → (∀ x ∈ p.1.xs, x.ps.length ≤ N + 1) →
    (iLines en k p).2.ts = [] ∧ mlen (iLines en k p).1 ≤ mlen p.1 + tsl p.2 ∧ (∀ f ∈ (iLines en k p).1.fs, f.ps.length ≤ N + 1) ∧ ∀ x ∈ (iLines en k p).1.xs, x.ps.length ≤ N + 1
  | 0, p, h, _, _, _ => absurd h (Nat.not_lt_zero _)
  | k + 1, p, h, hN, hf, hx => by
    unfold iLines
    split
    · rename_i hts
      exact ⟨hts, by omega, hf, hx⟩
    · rename_i f l hts
      have hL0 : tsl (ps p.2) + 1 ≤ tsl p.2 := by unfold tsl ps; rw [hts]; simp
      split
      · obtain ⟨a1, a2, a3, a4⟩ := lines_left N k (p.1, ps p.2) (by show tsl (ps p.2) < k; omega) (by show tsl (ps p.2) ≤ N; omega) hf hx
        exact ⟨a1, by have : mlen (iLines en k (p.1, ps p.2)).1 ≤ mlen p.1 + tsl (ps p.2) := a2; omega, a3, a4⟩
      split
      · have h1 := (l2_global (en := en) (p.1, ps p.2)).2
        have h1' : tsl (iGlobal en (p.1, ps p.2)).2 ≤ tsl (ps p.2) := h1
        have h2 : mlen (iGlobal en (p.1, ps p.2)).1 = mlen p.1 + 1 := by unfold iGlobal mlen; simp; omega
        obtain ⟨a1, a2, a3, a4⟩ := lines_left N k (iGlobal en (p.1, ps p.2)) (by omega) (by omega) hf hx
        exact ⟨a1, by omega, a3, a4⟩
      split
      · have h1 := (l2_extern h6 (p.1, ps p.2)).2
        have h1' : tsl (iExtern en (p.1, ps p.2)).2 ≤ tsl (ps p.2) := h1
        have h2 : mlen (iExtern en (p.1, ps p.2)).1 = mlen p.1 + 1 := by unfold iExtern mlen; simp; omega
        have h3 := types_ps h6 (sName en (p.1.xs.length == 8) (hasCal p.1) (ps p.2))
        have h4 := (l2_name en (p.1.xs.length == 8) (hasCal p.1) (ps p.2)).2
        obtain ⟨a1, a2, a3, a4⟩ := lines_left N k (iExtern en (p.1, ps p.2)) (by omega) (by omega) hf (fun x hx2 => by
          rcases List.mem_append.1 (show x ∈ p.1.xs ++ [_] from hx2) with h9 | h9
          · exact hx x h9
          · rw [List.mem_singleton.1 h9]
            show (vTypes en (sName en (p.1.xs.length == 8) (hasCal p.1) (ps p.2))).1.length ≤ N + 1
            omega)
        exact ⟨a1, by omega, a3, a4⟩
      split
      · have h1 := (l2_func h6 (p.1, ps p.2)).2
        have h1' : tsl (iFunc en (p.1, ps p.2)).2 ≤ tsl (ps p.2) := h1
        have h2 : mlen (iFunc en (p.1, ps p.2)).1 = mlen p.1 + 1 := by unfold iFunc mlen; simp; omega
        have h3 := types_ps h6 (sName en (p.1.fs.length == 8) (hasCal p.1) (ps p.2))
        have h4 := (l2_name en (p.1.fs.length == 8) (hasCal p.1) (ps p.2)).2
        obtain ⟨a1, a2, a3, a4⟩ := lines_left N k (iFunc en (p.1, ps p.2)) (by omega) (by omega) (fun x hx2 => by
          rcases List.mem_append.1 (show x ∈ p.1.fs ++ [_] from hx2) with h9 | h9
          · exact hf x h9
          · rw [List.mem_singleton.1 h9]
            show (vTypes en (sName en (p.1.fs.length == 8) (hasCal p.1) (ps p.2))).1.length ≤ N + 1
            omega) hx
        exact ⟨a1, by omega, a3, a4⟩
      · obtain ⟨a1, a2, a3, a4⟩ := lines_left N k (p.1, bd 3 f p.2) (by show 0 < k; omega) (by show 0 ≤ N; omega) hf hx
        exact ⟨a1, by have : mlen (iLines en k (p.1, bd 3 f p.2)).1 ≤ mlen p.1 + 0 := a2; omega, a3, a4⟩
end
end Go.Proofs.YtjomihlnjobndaaGreatDoor
/- The parser: the text's end. -/
namespace Go.Proofs.YtjomihlnjobndaaGreatDoor
open Go.RowKit Go.Maps
set_option linter.unusedVariables false
set_option linter.unusedSimpArgs false

theorem runOf_whole (p : UInt8 → Bool) : ∀ (l : List UInt8), (∀ c ∈ l, p c = true) → runOf p l = l.length
  | [], _ => rfl
  | c :: r, h => by
    rw [runOf_cons, if_pos (h c List.mem_cons_self), runOf_whole p r (fun d hd => h d (List.mem_cons_of_mem _ hd))]
    rfl
theorem runOf_upto (p : UInt8 → Bool) (d : UInt8) (t : List UInt8) (hd : p d = false) : ∀ (l : List UInt8), (∀ c ∈ l, p c = true) → runOf p (l ++ d :: t) = l.length
  | [], _ => by rw [List.nil_append, runOf_cons, if_neg (by simp [hd])]; rfl
  | c :: r, h => by
    rw [List.cons_append, runOf_cons, if_pos (h c List.mem_cons_self), runOf_upto p d t hd r (fun d hd => h d (List.mem_cons_of_mem _ hd))]
    rfl
theorem end_col (s : ByteArray) : (s.size : Int) - Lib.lastIndexByte s 10 = ((runOf (fun c => c.toNat != 10) s.data.toList.reverse + 1 : Nat) : Int) ∧ -1 ≤ Lib.lastIndexByte s 10 ∧ Lib.lastIndexByte s 10 ≤ s.size := by
  have hsz : s.size = s.data.toList.length := by rw [Lib.size_eq]
  have hat : ∀ j (h : j < s.data.toList.length), s.data[j]! = s.data.toList[j] := fun j h => by
    have h2 : j < s.data.size := by simpa using h
    rw [getElem!_pos s.data j h2]
    simp
  unfold Lib.lastIndexByte
  rcases Lib.lastIdx_spec s 10 s.size with ⟨h1, h2⟩ | ⟨i, h1, h2, h3, h4⟩
  · rw [h1, runOf_whole _ _ (fun c hc => by
      obtain ⟨j, hj, rfl⟩ := List.mem_iff_getElem.1 (List.mem_reverse.1 hc)
      have h5 := h2 j (by omega)
      rw [hat j hj] at h5
      simp only [bne_iff_ne, ne_eq]
      omega)]
    rw [List.length_reverse, hsz]
    omega
  · have hi : i < s.data.toList.length := by omega
    have e : s.data.toList = s.data.toList.take i ++ s.data.toList[i] :: s.data.toList.drop (i + 1) := by rw [List.getElem_cons_drop, List.take_append_drop]
    have e2 : s.data.toList.reverse = (s.data.toList.drop (i + 1)).reverse ++ s.data.toList[i] :: (s.data.toList.take i).reverse := by
      conv => lhs; rw [e]
      simp
    rw [h2, e2, runOf_upto _ _ _ (by rw [hat i hi] at h3; simp only [bne_eq_false_iff_eq]; omega) _ (fun c hc => by
      obtain ⟨j, hj, rfl⟩ := List.mem_iff_getElem.1 (List.mem_reverse.1 hc)
      rw [List.getElem_drop]
      have hj2 : i + 1 + j < s.data.toList.length := by simp at hj; simp; omega
      have h5 := h4 (i + 1 + j) (by omega) (by omega)
      rw [hat (i + 1 + j) hj2] at h5
      simp only [bne_iff_ne, ne_eq]
      omega)]
    rw [List.length_reverse, List.length_drop, hsz]
    omega
set_option maxRecDepth 100000 in
set_option maxHeartbeats 2000000 in
theorem endOf_any (s : ByteArray) (hs : s.size < 4611686018427387904) (w : World) :
    Calls Tryz.prog 21 #[.string s] w (fun e w' => e = .returned (tkV (endTk s.data.toList)) ∧ Below w.heap.size w w') := by
  have C1 := fun w => Tryz.strings_Count_one s 10 w
  have C2 := fun w => Tryz.strings_LastIndexByte s 10 hs w
  obtain ⟨h1, h2, h3⟩ := end_col s
  have hk : s.data.toList.count 10 ≤ s.size := by rw [Lib.size_eq]; exact List.count_le_length
  have e1 : Lib.countByte s.data.toList 10 = s.data.toList.count 10 := rfl
  rw [e1] at C1
  unfold endTk
  obtain ⟨k, ek⟩ : ∃ k, s.data.toList.count 10 = k := ⟨_, rfl⟩
  obtain ⟨q, eq⟩ : ∃ q, Lib.lastIndexByte s 10 = q := ⟨_, rfl⟩
  obtain ⟨v, ev⟩ : ∃ v, runOf (fun c => c.toNat != 10) s.data.toList.reverse + 1 = v := ⟨_, rfl⟩
  obtain ⟨n, en⟩ : ∃ n, s.size = n := ⟨_, rfl⟩
  simp only [ek, eq, ev, en] at C1 C2 h1 h2 h3 hk hs ⊢
  have hw1 : IntKind.i64.wrap (1 + (k : Int)) = 1 + k := by rw [IntKind.wrap_i64]; omega
  have hw2 : IntKind.i64.wrap ((n : Int) - q) = v := by rw [IntKind.wrap_i64]; omega
  have HB : ∀ o, Below w.heap.size w (w.alloc o) := fun o => (Below.refl _ _).alloc (Nat.le_refl _) o
  have es0 : (⟨#[]⟩ : ByteArray) = str [] := rfl
  have ec : ((1 + k : Nat) : Int) = 1 + (k : Int) := by omega
  clear h1 h2 h3 hk ek eq ev e1
  go_enter Tryz.func21, Tryz.ntmps21
  go_wp2_with (first | ((with_reducible refine (C1 _).mono ?_); rintro e w1 ⟨rfl, rfl⟩) | ((with_reducible refine (C2 _).mono ?_); rintro e w1 ⟨rfl, rfl⟩))
  refine bodyPost_ret (v := tkV ⟨6, [], 1 + k, v⟩) (by simp [results, Tryz.results21, go_sem, tkV, ec, ← es0]) rfl ⟨rfl, HB _⟩
end Go.Proofs.YtjomihlnjobndaaGreatDoor
/- The parser: how it begins. -/
namespace Go.Proofs.YtjomihlnjobndaaGreatDoor
open Go.RowKit Go.Maps
set_option linter.unusedVariables false
set_option linter.unusedSimpArgs false

theorem first_fault {l e} (h : first l = .bad e) : e ≠ 0 := by
  have num : ∀ {kind : Nat} {l : List UInt8} {most extra e : Nat}, number kind l most extra = .bad e → e ≠ 0 := by
    intro kind l most extra e h
    unfold number at h
    split at h
    · cases h; decide
    · split at h
      · split at h
        · cases h; decide
        · cases h
      · cases h; decide
  unfold first at h
  split at h
  · cases h; decide
  · split at h
    · cases h
    split at h
    · cases h
    split at h
    · cases h
    split at h
    · exact num h
    split at h
    · exact num h
    split at h
    · cases h
    · cases h; decide
theorem first_eats {c : UInt8} {r : List UInt8} {k s : Nat} {b : List UInt8} (h : first (c :: r) = .ok k b s) : 1 ≤ s := by
  have num : ∀ {kind : Nat} {l : List UInt8} {most extra k s : Nat} {b : List UInt8}, number kind l most extra = .ok k b s → s = extra + runOf isDigit l := by
    intro kind l most extra k s b h
    unfold number at h
    split at h
    · cases h
    · split at h
      · split at h
        · cases h
        · injection h with h1 h2 h3; exact h3.symm
      · cases h
  unfold first at h
  simp only at h
  split at h
  · cases h; exact Nat.le_refl _
  split at h
  · cases h; exact Nat.le_refl _
  split at h
  · rename_i hl
    injection h with h1 h2 h3
    rw [← h3]
    unfold wordSize
    simp only [hl, if_true]
    rw [runOf_cons, if_pos (by unfold isOfWord; simp [hl])]
    omega
  split at h
  · rename_i hd
    rw [num h, runOf_cons, if_pos hd]; omega
  split at h
  · rw [num h]; omega
  split at h
  · injection h with h1 h2 h3; omega
  · cases h
theorem lexed_few {l line col ts f} (h : Lexed l line col ts f) : ts.length ≤ l.length ∧ FltOk f := by
  induction h with
  | done _ => exact ⟨by simp, fun x e => by cases e⟩
  | bad _ h2 => exact ⟨by simp, fun x e => by injection e with e; rw [← e]; exact first_fault h2⟩
  | @step l line col c r k b s ts f h1 h2 h3 ih =>
    have hz := first_eats h2
    have hl : (c :: r).length = l.length - passed l := by rw [← h1, List.length_drop]
    have hd : ((c :: r).drop s).length = (c :: r).length - s := List.length_drop
    refine ⟨?_, ih.2⟩
    rw [List.length_cons]
    simp only [List.length_cons] at hl
    have := ih.1
    rw [hd, List.length_cons] at this
    omega
section
variable {B : Nat} {W w w' : World} {Z : As}
theorem St.zero (W : World) : St W.heap.size W As.emp W := ⟨Below.refl _ _, Nat.le_refl _, trivial, fun j => Nat.zero_le _, fun j hj => absurd rfl hj⟩
/-- A row that a call has made. -/
theorem St.row {α : Type} {ty : TypeId} {m : Nat} {cel : α → List Value} {p : Option Addr} {n c : Nat} {xs : List α} (h : St B W Z w) (hb : Below w.heap.size w w') (hn : n = xs.length) (hr : w'.ownsRow w.heap.size ty m (.slice p n c) n (xs.flatMap cel)) : St B W ((As.and (rw' B ty m cel p n c xs) Z)) w' := by
  have h0 : St B W ((As.and As.emp Z)) w := h.imp ⟨fun w x => ⟨trivial, x⟩, fun k => by rw [As.and_c, As.emp_c]; omega⟩
  refine h0.change hb.os hb.tape hb.output hb.size (fun k hk _ => hb.block k hk) ⟨hn, hr.mono h.le⟩ (fun k => ?_)
  rw [rw_c]
  by_cases e : cR p k = 0
  · exact .inl (by omega)
  · refine .inr ⟨?_, cR_le p k⟩
    exact (hr.lt k (cR_block e)).1
theorem tk_of_row {p : Option Addr} {n c : Nat} {ts : List Tok} : (rw' B 30 4 tokC p n c ts).le (tk p n c ts) := by
  refine ⟨fun w h => ?_, fun k => by rw [rw_c, tk_c]; exact Nat.le_refl _⟩
  obtain ⟨h1, h2, h3, h4⟩ := row_in (m := 4) (by decide) (fun _ => rfl) h
  refine ⟨h1, h2, h3, fun j u hu => ?_, fun k hk => (rw' B 30 4 tokC p n c ts).inH w h k hk⟩
  rcases id h.2.2 with ⟨e, h0⟩ | ⟨g, cap, cur, e, hg, hh, k1, k2, _⟩
  · injection e with e1 e2 e3
    have : ts = [] := List.eq_nil_of_length_eq_zero (by rw [← h1, e2])
    rw [this] at hu
    cases hu
  · injection e with e1 e2 e3
    refine ⟨g, 0, e1, ?_⟩
    rw [Nat.zero_add]
    have := h.2.cells (g := g) (by rw [e1]; rfl) j u hu
    rw [Addr.add_mid, Nat.zero_add] at this
    exact this
/-- The parser's box, with what is not read yet. -/
theorem Mk.start {p : Option Addr} {n c : Nat} {ts : List Tok} {en : Tok} {b : Nat} (hg : ∀ t ∈ ts, Gt t) (h : St B W ((As.and (bx b (rdC p n c en none (.slice none 0 0) (.slice none 0 0) (.slice none 0 0) (.slice none 0 0))) (As.and (rw' B 30 4 tokC p n c ts) Z))) w) : Mk B W b en ⟨[], [], []⟩ ⟨ts, [], none⟩ Z w := by
  refine ⟨⟨none, 0, 0, [], none, 0, 0, [], none, 0, 0, []⟩, rfl, ?_⟩
  refine ⟨fun t ht => (by cases ht), none, 0, ?_⟩
  refine ⟨hg, fun x e => (by cases e), p, n, c, ?_⟩
  refine h.imp ⟨fun w x => ⟨x.1, tk_of_row.1 w x.2.1, rw_nil w, ⟨rw_nil w, ⟨rw_nil w, trivial⟩, rw_nil w, trivial⟩, x.2.2⟩, fun k => ?_⟩
  have h1 := (tk_of_row (B := B) (p := p) (n := n) (c := c) (ts := ts)).2 k
  have e1 : (askRow B none 0 ([] : List Tok)).c k = 0 := rfl
  have e2 : (modAs B ⟨none, 0, 0, [], none, 0, 0, [], none, 0, 0, []⟩).c k = 0 := rfl
  simp only [As.and_c]
  show _ + (_ + ((askRow B none 0 ([] : List Tok)).c k + ((modAs B ⟨none, 0, 0, [], none, 0, 0, [], none, 0, 0, []⟩).c k + _))) ≤ _
  rw [e1, e2]
  simp only [bx_c]
  omega
end
end Go.Proofs.YtjomihlnjobndaaGreatDoor
/- The parser: Parse, where the pieces hold a fault. -/
namespace Go.Proofs.YtjomihlnjobndaaGreatDoor
open Go.RowKit Go.Maps
set_option linter.unusedVariables false
set_option linter.unusedSimpArgs false

/-- How Parse ends. -/
def PsEnds (W : World) (l : List UInt8) (e : Ending) (w' : World) : Prop :=
  ∃ ts f0, Toks l ts f0 ∧ Below W.heap.size W w' ∧
    ((∃ f, (f0 = some f ∨ (f0 = none ∧ parseP (endTk l) ts = .error f)) ∧ e = .returned (.tuple #[.agg #[.slice none 0 0, .slice none 0 0, .slice none 0 0], .agg #[.int .i64 f.code, .int .i64 f.line, .int .i64 f.col]]) ∧ f.code ≠ 0) ∨
      (f0 = none ∧ ∃ m : LMod, parseP (endTk l) ts = .ok (modD m) ∧ e = .returned (.tuple #[.agg #[.slice m.vp m.vn m.vc, .slice m.xp m.xn m.xc, .slice m.fp m.fn m.fc], .agg #[.int .i64 0, .int .i64 0, .int .i64 0]]) ∧ ModIn w'.heap.size w' m))
theorem toks_some {l : List UInt8} {ts : List Tok} {x : Flt} (h : Toks l ts (some x)) : x.code ≠ 0 ∧ ts = [] := by
  rcases h with ⟨_, h2, h3⟩ | ⟨_, t, h2, h3⟩
  · injection h3 with h3; rw [h3]; exact ⟨by decide, h2⟩
  · exact ⟨(lexed_few h2).2 x rfl, h3⟩
theorem below_set1 {B g j : Nat} {W w : World} {v : Value} (hg : B ≤ g) (h : Below B W w) : Below B W (w.setCell ⟨g, j, none⟩ v) :=
  ⟨h.os, h.tape, h.output, by simpa [World.setCell] using h.size, fun k hk => (Below.heap_setCell w ⟨g, j, none⟩ v k (fun e => by have e2 : k = g := e; omega)).trans (h.block k hk)⟩
set_option maxRecDepth 100000 in
set_option maxHeartbeats 4000000 in
theorem Parse_bad (s : ByteArray) (hs : s.size < 4611686018427387904) (W : World) (hE : Errs W) (ts : List Tok) (x : Flt) (hT : Toks s.data.toList ts (some x)) :
    Calls Tryz.prog 10 #[.string s] W (PsEnds W s.data.toList) := by
  obtain ⟨hc, rfl⟩ := toks_some hT
  have h2 := (((St.zero W).imp (As.nob _)).bpush rfl [.slice none 0 0, .slice none 0 0, .slice none 0 0] 35)
  have h3 := h2.bpush (g := W.heap.size + 1) (by simp) [.int .i64 0, .int .i64 0, .int .i64 0] 26
  have hE3 := hE.below h3.below (Nat.le_refl _)
  have CT : Calls Tryz.prog 9 #[.string s] _ (fun e w' => ∃ p c, e = .returned (.tuple #[.slice p 0 c, .agg #[.int .i64 x.code, .int .i64 x.line, .int .i64 x.col]]) ∧ Below ((W.alloc (.cells #[.slice none 0 0, .slice none 0 0, .slice none 0 0] 35)).alloc (.cells #[.int .i64 0, .int .i64 0, .int .i64 0] 26)).heap.size ((W.alloc (.cells #[.slice none 0 0, .slice none 0 0, .slice none 0 0] 35)).alloc (.cells #[.int .i64 0, .int .i64 0, .int .i64 0] 26)) w') := (Tokens_any s (by omega) _ hE3).mono fun e w' ⟨ts', f', v, k1, k2, k3, k4⟩ => by
    obtain ⟨e1, e2⟩ := k1.unique hT
    subst e1 e2
    obtain ⟨p, c, rfl⟩ := row_slice k4
    exact ⟨p, c, k2, k3⟩
  have hz : ((x.code : Int) == 0) = false := beq_false_of_ne (by omega)
  obtain ⟨x1, x2, x3⟩ := x
  simp only at CT hz hc
  have H3 := Lib.hid h3
  have HT := Lib.hid (And.intro hT hc)
  clear h2 h3 hE3 hE hT hc hs
  go_enter Tryz.func10, Tryz.ntmps10
  go_wp2_with ((with_reducible refine CT.mono ?_); rintro e w1 ⟨p, c, rfl, hb⟩; have h4 := (St.later H3.out hb).bpush rfl [.int .i64 x1, .int .i64 x2, .int .i64 x3] 26; have b5 := h4.bget 0 rfl; have b3 := h4.bget 1 rfl; have b2 := h4.bget 2 rfl; have y0 := b5.get 0 _ rfl; have y1 := b5.get 1 _ rfl; have y2 := b5.get 2 _ rfl; have gl5 := b5.1; have gl3 := b3.1; have gl2 := b2.1; have f20 := b2.2.1 0; have f21 := b2.2.1 1; have f22 := b2.2.1 2; have f30 := b3.2.1 0; have f31 := b3.2.1 1; have f32 := b3.2.1 2; have u20 := b2.get 0 _ rfl; have u21 := b2.get 1 _ rfl; have u22 := b2.get 2 _ rfl; have u30 := b3.get 0 _ rfl; have u31 := b3.get 1 _ rfl; have u32 := b3.get 2 _ rfl; have hsz1 := hb.size; rw [World.size_alloc, World.size_alloc] at hsz1; have n25 : W.heap.size ≠ w1.heap.size := (by omega); have n52 : w1.heap.size ≠ W.heap.size := (by omega); have n35 : W.heap.size + 1 ≠ w1.heap.size := (by omega); have n53 : w1.heap.size ≠ W.heap.size + 1 := (by omega); have H4 := Lib.hid h4; clear h4 b5 b3 b2)
  go_region
  all_goals
    go_wp2_with fail
    have HB := H4.out.below
    refine bodyPost_ret (v := .tuple #[.agg #[.slice none 0 0, .slice none 0 0, .slice none 0 0], .agg #[.int .i64 x1, .int .i64 x2, .int .i64 x3]]) (by simp [results, Tryz.results10, go_sem, u20, u21, u22, u30, u31, u32]) rfl ⟨[], some ⟨x1, x2, x3⟩, HT.out.1, ?_, .inl ⟨⟨x1, x2, x3⟩, .inl rfl, rfl, HT.out.2⟩⟩
    repeat (first | with_reducible exact HB | with_reducible refine below_drew ?_ | with_reducible refine below_set1 (Nat.le_refl _) ?_ | with_reducible refine below_set1 (Nat.le_succ _) ?_)
end Go.Proofs.YtjomihlnjobndaaGreatDoor
/- The parser: Parse. -/
namespace Go.Proofs.YtjomihlnjobndaaGreatDoor
open Go.RowKit Go.Maps
set_option linter.unusedVariables false
set_option linter.unusedSimpArgs false

section
variable {B b : Nat} {W w w' : World} {en : Tok} {ts : List Tok} {mm : PMod} {s : RS} {Z : As}
theorem Mk.fcells (h : Mk B W b en mm s Z w) : (w.cell? ⟨b, 5, none⟩ = some (.int .i64 (fC s.flt)) ∧ w.cell? ⟨b, 6, none⟩ = some (.int .i64 (fL s.flt)) ∧ w.cell? ⟨b, 7, none⟩ = some (.int .i64 (fK s.flt))) ∧ FltOk s.flt := by
  obtain ⟨m0, m1, m2, r, Z', hr, _⟩ := h.rd
  obtain ⟨_, hf, tp, tn, tc, hs⟩ := hr
  exact ⟨⟨hs.box.get 5 _ rfl, hs.box.get 6 _ rfl, hs.box.get 7 _ rfl⟩, hf⟩
theorem Px.bput {m : LMod} {bs : List (Nat × List Value)} (h : Px B W b en m s ((As.and (bxs bs) Z)) w) (i : Nat) {g : Nat} {cs : List Value} (e : bs[i]? = some (g, cs)) (j : Nat) (v : Value) : Px B W b en m s ((As.and (bxs (bs.set i (g, cs.set j v))) Z)) (w.setCell ⟨g, j, none⟩ v) := by
  obtain ⟨Y, hs, back⟩ := h.st
  exact back _ _ (((hs.imp (As.asl _ _ _)).bput i e j v).imp (As.asr _ _ _))
theorem Mk.start2 {p : Option Addr} {n c : Nat} {bs : List (Nat × List Value)} (hg : ∀ t ∈ ts, Gt t) (h : St B W ((As.and (bx b [.slice p n c, .int .i64 en.kind, .string (str en.body), .int .i64 en.line, .int .i64 en.col, .int .i64 0, .int .i64 0, .int .i64 0, .slice none 0 0, .slice none 0 0, .slice none 0 0, .slice none 0 0]) ((As.and (bxs bs) ((As.and (rw' B 30 4 tokC p n c ts) As.emp)))))) w) : Mk B W b en ⟨[], [], []⟩ ⟨ts, [], none⟩ ((As.and (bxs bs) As.emp)) w := by
  refine Mk.start (p := p) (n := n) (c := c) hg ?_
  exact h.imp ⟨fun w x => ⟨x.1, x.2.2.1, x.2.1, x.2.2.2⟩, fun k => by simp only [As.and_c, bx_c]; omega⟩
theorem Mk.lines (h : Mk B W b en ⟨[], [], []⟩ ⟨ts, [], none⟩ Z w) (K : Kn B W en) (hl : ts.length ≤ 65536) :
    Calls Tryz.prog 22 #[.pointer (some ⟨b, 0, none⟩)] w (fun e w' => e = .returned (.tuple #[]) ∧ Mk B W b en (allLines en ts).1 (allLines en ts).2 Z w') :=
  lines_any (q := (⟨[], [], []⟩, ⟨ts, [], none⟩)) K (ts.length + 1) (Nat.lt_succ_self _) (by show 0 + ts.length ≤ _; omega) (by show 0 + 0 + 0 + ts.length ≤ _; omega) h
theorem Mk.settle (h : Mk B W b en (allLines en ts).1 (allLines en ts).2 Z w) (h6 : en.kind = 6) (hl : ts.length ≤ 65536) :
    Calls Tryz.prog 23 #[.pointer (some ⟨b, 0, none⟩)] w (fun e w' => e = .returned (.tuple #[]) ∧ Mk B W b en (allP en ts).1 (wF (allLines en ts).2 (allP en ts).2) Z w') := by
  obtain ⟨m, em, hP⟩ := h
  obtain ⟨a1, a2, a3, a4⟩ := lines_left h6 65536 (ts.length + 1) (⟨[], [], []⟩, ⟨ts, [], none⟩) (Nat.lt_succ_self _) hl (fun f hf => by cases hf) (fun x hx => by cases hx)
  have a5 := (lines_inn en (ts.length + 1) (⟨[], [], []⟩, ⟨ts, [], none⟩) (fun f hf => by cases hf)).2
  have ea : iLines en (ts.length + 1) (⟨[], [], []⟩, ⟨ts, [], none⟩) = allLines en ts := rfl
  rw [ea] at a1 a2 a3 a4 a5
  rw [← em] at a2 a3 a4 a5
  have C := settle_any a1 a5 ⟨fun f hf => Nat.le_trans (a3 f hf) (by omega), fun x hx => Nat.le_trans (a4 x hx) (by omega)⟩ (Nat.le_trans a2 (by show 0 + 0 + 0 + ts.length ≤ _; omega)) hP
  rw [em] at C
  exact C
end
set_option maxRecDepth 100000 in
set_option maxHeartbeats 4000000 in
theorem Parse_err (s : ByteArray) (hs : s.size < 4611686018427387904) (W : World) (hK : Stc W) (ts : List Tok) (hT : Toks s.data.toList ts none) (mm : PMod) (x1 x2 x3 : Nat) (hA : allP (endTk s.data.toList) ts = (mm, some ⟨x1, x2, x3⟩)) :
    Calls Tryz.prog 10 #[.string s] W (PsEnds W s.data.toList) := by
  have hlen : ts.length ≤ 65536 ∧ ∀ t ∈ ts, Gt t := by
    rcases hT with ⟨_, _, h3⟩ | ⟨h1, t, h2, h3⟩
    · cases h3
    · have h9 := (lexed_few h2).1
      rw [h3]
      exact ⟨Nat.le_trans h9 h1, lexed_gt h2 h1⟩
  have h2 := (((St.zero W).imp (As.nob _)).bpush rfl [.slice none 0 0, .slice none 0 0, .slice none 0 0] 35)
  have h3 := h2.bpush (g := W.heap.size + 1) (by simp) [.int .i64 0, .int .i64 0, .int .i64 0] 26
  have hE3 := hK.1.below h3.below (Nat.le_refl _)
  have KK : Kn W.heap.size W (endTk s.data.toList) := ⟨hK, Nat.le_refl _, endTk_gt _, rfl⟩
  have CE := fun w => endOf_any s hs w
  obtain ⟨n, eN⟩ : ∃ n, ts.length = n := ⟨_, rfl⟩
  have CT : Calls Tryz.prog 9 #[.string s] _ (fun e w' => ∃ p c, e = .returned (.tuple #[.slice p n c, .agg #[.int .i64 0, .int .i64 0, .int .i64 0]]) ∧ Below ((W.alloc (.cells #[.slice none 0 0, .slice none 0 0, .slice none 0 0] 35)).alloc (.cells #[.int .i64 0, .int .i64 0, .int .i64 0] 26)).heap.size ((W.alloc (.cells #[.slice none 0 0, .slice none 0 0, .slice none 0 0] 35)).alloc (.cells #[.int .i64 0, .int .i64 0, .int .i64 0] 26)) w' ∧ w'.ownsRow ((W.alloc (.cells #[.slice none 0 0, .slice none 0 0, .slice none 0 0] 35)).alloc (.cells #[.int .i64 0, .int .i64 0, .int .i64 0] 26)).heap.size 30 4 (.slice p n c) n (ts.flatMap tokC)) := (Tokens_any s (by omega) _ hE3).mono fun e w' ⟨ts', f', v, k1, k2, k3, k4⟩ => by
    obtain ⟨e1, e2⟩ := k1.unique hT
    subst e1 e2
    rw [eN] at k4
    obtain ⟨p, c, rfl⟩ := row_slice k4
    exact ⟨p, c, k2, k3, k4⟩
  have hR := parseP_all (endTk s.data.toList) ts
  have CL : ∀ {b : Nat} {Z' : As} w1, Mk W.heap.size W b (endTk s.data.toList) ⟨[], [], []⟩ ⟨ts, [], none⟩ Z' w1 → _ := fun {b Z'} w1 h1 => h1.lines KK hlen.1
  have CS : ∀ {b : Nat} {Z' : As} w1, Mk W.heap.size W b (endTk s.data.toList) (allLines (endTk s.data.toList) ts).1 (allLines (endTk s.data.toList) ts).2 Z' w1 → _ := fun {b Z'} w1 h1 => h1.settle rfl hlen.1
  rw [hA] at hR
  simp only [hA] at CS
  clear hA
  have H3 := Lib.hid h3
  obtain ⟨l, el⟩ : ∃ l, s.data.toList = l := ⟨_, rfl⟩
  simp only [el] at CE CL CS hR hT KK ⊢
  obtain ⟨en, ee⟩ : ∃ en, endTk l = en := ⟨_, rfl⟩
  simp only [ee] at CE CL CS hR KK
  have HT := Lib.hid (And.intro hT (And.intro ee (And.intro eN (And.intro hlen.2 hR))))
  clear h2 h3 hE3 hK hT hs KK ee eN hlen hR el
  go_enter Tryz.func10, Tryz.ntmps10
  go_wp2_with (first | ((with_reducible refine CT.mono ?_); rintro e w1 ⟨p, c, rfl, hb, hrow⟩; have h4 := (((St.row (xs := ts) H3.out hb HT.out.2.2.1.symm hrow).imp ⟨fun w x => ⟨x.2.1, x.1, x.2.2⟩, fun k => by simp only [As.and_c]; omega⟩ : St W.heap.size W ((As.and (bxs _) ((As.and (rw' W.heap.size 30 4 tokC p n c ts) As.emp)))) w1)).bpush rfl [.int .i64 0, .int .i64 0, .int .i64 0] 26; have b5 := h4.bget 0 rfl; have y0 := b5.get 0 _ rfl; have y1 := b5.get 1 _ rfl; have y2 := b5.get 2 _ rfl; have gl5 := b5.1; have hsz1 := hb.size; rw [World.size_alloc, World.size_alloc] at hsz1; have H4 := Lib.hid h4; clear h4 b5 hrow hb) | ((with_reducible refine (CE _).mono ?_); rintro e w2 ⟨rfl, hb2⟩; have h5 := (St.later H4.out hb2).push rfl [.slice p n c, .int .i64 en.kind, .string (str en.body), .int .i64 en.line, .int .i64 en.col, .int .i64 0, .int .i64 0, .int .i64 0, .slice none 0 0, .slice none 0 0, .slice none 0 0, .slice none 0 0] 66; have h6 := Mk.start2 (en := en) HT.out.2.2.2.1 h5; have gl6 := h6.lt) | ((with_reducible refine (CL _ h6).mono ?_); rintro e w3 ⟨rfl, h7⟩; have gl7 := h7.lt) | ((with_reducible refine (CS _ h7).mono ?_); rintro e w4 ⟨rfl, h8⟩; have gl8 := h8.lt; have q5 : w4.cell? ⟨w2.heap.size, 5, none⟩ = some (.int .i64 (x1 : Int)) := h8.fcells.1.1; have q6 : w4.cell? ⟨w2.heap.size, 6, none⟩ = some (.int .i64 (x2 : Int)) := h8.fcells.1.2.1; have q7 : w4.cell? ⟨w2.heap.size, 7, none⟩ = some (.int .i64 (x3 : Int)) := h8.fcells.1.2.2; have hx1 : x1 ≠ 0 := h8.fcells.2 ⟨x1, x2, x3⟩ rfl; have hz : ((x1 : Int) == 0) = false := beq_false_of_ne (by omega); have HX := Lib.hid hx1; clear hx1; have b3 := h8.bget 1 rfl; have b2 := h8.bget 2 rfl; have gl3 := b3.1; have gl2 := b2.1; have f20 := b2.2.1 0; have f21 := b2.2.1 1; have f22 := b2.2.1 2; have f30 := b3.2.1 0; have f31 := b3.2.1 1; have f32 := b3.2.1 2; have u20 := b2.get 0 _ rfl; have u21 := b2.get 1 _ rfl; have u22 := b2.get 2 _ rfl; have u30 := b3.get 0 _ rfl; have u31 := b3.get 1 _ rfl; have u32 := b3.get 2 _ rfl; clear b3 b2; have H8 := Lib.hid h8; clear h8))
  have hsz2 := hb2.size
  rw [World.size_alloc] at hsz2
  have n25 : W.heap.size ≠ w2.heap.size := by omega
  have n52 : w2.heap.size ≠ W.heap.size := by omega
  have n35 : W.heap.size + 1 ≠ w2.heap.size := by omega
  have n53 : w2.heap.size ≠ W.heap.size + 1 := by omega
  go_region
  all_goals
    go_wp2_with fail
    have HB := H8.out.below
    have hp : parseP en ts = .error ⟨x1, x2, x3⟩ := by
      have h9 := HT.out.2.2.2.2
      cases hq : parseP en ts with
      | ok a => rw [hq] at h9; cases h9.2
      | error e => rw [hq] at h9; injection (show some (⟨x1, x2, x3⟩ : Flt) = some e from h9) with h9; rw [h9]
    refine bodyPost_ret (v := .tuple #[.agg #[.slice none 0 0, .slice none 0 0, .slice none 0 0], .agg #[.int .i64 x1, .int .i64 x2, .int .i64 x3]]) (by simp [results, Tryz.results10, go_sem, u20, u21, u22, u30, u31, u32]) rfl ⟨ts, none, HT.out.1, ?_, .inl ⟨⟨x1, x2, x3⟩, .inr ⟨rfl, by rw [HT.out.2.1]; exact hp⟩, rfl, HX.out⟩⟩
    repeat (first | with_reducible exact HB | with_reducible refine below_drew ?_ | with_reducible refine below_set1 (Nat.le_refl _) ?_ | with_reducible refine below_set1 (Nat.le_succ _) ?_)
set_option maxRecDepth 100000 in
set_option maxHeartbeats 4000000 in
theorem Parse_good (s : ByteArray) (hs : s.size < 4611686018427387904) (W : World) (hK : Stc W) (ts : List Tok) (hT : Toks s.data.toList ts none) (mm : PMod) (hA : allP (endTk s.data.toList) ts = (mm, none)) :
    Calls Tryz.prog 10 #[.string s] W (PsEnds W s.data.toList) := by
  have hlen : ts.length ≤ 65536 ∧ ∀ t ∈ ts, Gt t := by
    rcases hT with ⟨_, _, h3⟩ | ⟨h1, t, h2, h3⟩
    · cases h3
    · have h9 := (lexed_few h2).1
      rw [h3]
      exact ⟨Nat.le_trans h9 h1, lexed_gt h2 h1⟩
  have h2 := (((St.zero W).imp (As.nob _)).bpush rfl [.slice none 0 0, .slice none 0 0, .slice none 0 0] 35)
  have h3 := h2.bpush (g := W.heap.size + 1) (by simp) [.int .i64 0, .int .i64 0, .int .i64 0] 26
  have hE3 := hK.1.below h3.below (Nat.le_refl _)
  have KK : Kn W.heap.size W (endTk s.data.toList) := ⟨hK, Nat.le_refl _, endTk_gt _, rfl⟩
  have CE := fun w => endOf_any s hs w
  obtain ⟨n, eN⟩ : ∃ n, ts.length = n := ⟨_, rfl⟩
  have CT : Calls Tryz.prog 9 #[.string s] _ (fun e w' => ∃ p c, e = .returned (.tuple #[.slice p n c, .agg #[.int .i64 0, .int .i64 0, .int .i64 0]]) ∧ Below ((W.alloc (.cells #[.slice none 0 0, .slice none 0 0, .slice none 0 0] 35)).alloc (.cells #[.int .i64 0, .int .i64 0, .int .i64 0] 26)).heap.size ((W.alloc (.cells #[.slice none 0 0, .slice none 0 0, .slice none 0 0] 35)).alloc (.cells #[.int .i64 0, .int .i64 0, .int .i64 0] 26)) w' ∧ w'.ownsRow ((W.alloc (.cells #[.slice none 0 0, .slice none 0 0, .slice none 0 0] 35)).alloc (.cells #[.int .i64 0, .int .i64 0, .int .i64 0] 26)).heap.size 30 4 (.slice p n c) n (ts.flatMap tokC)) := (Tokens_any s (by omega) _ hE3).mono fun e w' ⟨ts', f', v, k1, k2, k3, k4⟩ => by
    obtain ⟨e1, e2⟩ := k1.unique hT
    subst e1 e2
    rw [eN] at k4
    obtain ⟨p, c, rfl⟩ := row_slice k4
    exact ⟨p, c, k2, k3, k4⟩
  have hR := parseP_all (endTk s.data.toList) ts
  have CL : ∀ {b : Nat} {Z' : As} w1, Mk W.heap.size W b (endTk s.data.toList) ⟨[], [], []⟩ ⟨ts, [], none⟩ Z' w1 → _ := fun {b Z'} w1 h1 => h1.lines KK hlen.1
  have CS : ∀ {b : Nat} {Z' : As} w1, Mk W.heap.size W b (endTk s.data.toList) (allLines (endTk s.data.toList) ts).1 (allLines (endTk s.data.toList) ts).2 Z' w1 → _ := fun {b Z'} w1 h1 => h1.settle rfl hlen.1
  rw [hA] at hR
  simp only [hA] at CS
  clear hA
  have H3 := Lib.hid h3
  obtain ⟨l, el⟩ : ∃ l, s.data.toList = l := ⟨_, rfl⟩
  simp only [el] at CE CL CS hR hT KK ⊢
  obtain ⟨en, ee⟩ : ∃ en, endTk l = en := ⟨_, rfl⟩
  simp only [ee] at CE CL CS hR KK
  have HT := Lib.hid (And.intro hT (And.intro ee (And.intro eN (And.intro hlen.2 hR))))
  clear h2 h3 hE3 hK hT hs KK ee eN hlen hR el
  go_enter Tryz.func10, Tryz.ntmps10
  go_wp2_with (first | ((with_reducible refine CT.mono ?_); rintro e w1 ⟨p, c, rfl, hb, hrow⟩; have h4 := (((St.row (xs := ts) H3.out hb HT.out.2.2.1.symm hrow).imp ⟨fun w x => ⟨x.2.1, x.1, x.2.2⟩, fun k => by simp only [As.and_c]; omega⟩ : St W.heap.size W ((As.and (bxs _) ((As.and (rw' W.heap.size 30 4 tokC p n c ts) As.emp)))) w1)).bpush rfl [.int .i64 0, .int .i64 0, .int .i64 0] 26; have b5 := h4.bget 0 rfl; have y0 := b5.get 0 _ rfl; have y1 := b5.get 1 _ rfl; have y2 := b5.get 2 _ rfl; have gl5 := b5.1; have hsz1 := hb.size; rw [World.size_alloc, World.size_alloc] at hsz1; have H4 := Lib.hid h4; clear h4 b5 hrow hb) | ((with_reducible refine (CE _).mono ?_); rintro e w2 ⟨rfl, hb2⟩; have h5 := (St.later H4.out hb2).push rfl [.slice p n c, .int .i64 en.kind, .string (str en.body), .int .i64 en.line, .int .i64 en.col, .int .i64 0, .int .i64 0, .int .i64 0, .slice none 0 0, .slice none 0 0, .slice none 0 0, .slice none 0 0] 66; have h6 := Mk.start2 (en := en) HT.out.2.2.2.1 h5; have gl6 := h6.lt) | ((with_reducible refine (CL _ h6).mono ?_); rintro e w3 ⟨rfl, h7⟩; have gl7 := h7.lt) | ((with_reducible refine (CS _ h7).mono ?_); rintro e w4 ⟨rfl, h8⟩; have gl8 := h8.lt; have q5 : w4.cell? ⟨w2.heap.size, 5, none⟩ = some (.int .i64 0) := h8.fcells.1.1; have q6 : w4.cell? ⟨w2.heap.size, 6, none⟩ = some (.int .i64 0) := h8.fcells.1.2.1; have q7 : w4.cell? ⟨w2.heap.size, 7, none⟩ = some (.int .i64 0) := h8.fcells.1.2.2; obtain ⟨m, em, hP⟩ := id h8; obtain ⟨q8, q9, q10, _⟩ := Pk.cells hP; have HM := Lib.hid (And.intro em (show Px _ _ _ _ m _ _ w4 from hP)); clear em hP; have b3 := h8.bget 1 rfl; have b2 := h8.bget 2 rfl; have gl3 := b3.1; have gl2 := b2.1; have f20 := b2.2.1 0; have f21 := b2.2.1 1; have f22 := b2.2.1 2; have f30 := b3.2.1 0; have f31 := b3.2.1 1; have f32 := b3.2.1 2; have u20 := b2.get 0 _ rfl; have u21 := b2.get 1 _ rfl; have u22 := b2.get 2 _ rfl; have u30 := b3.get 0 _ rfl; have u31 := b3.get 1 _ rfl; have u32 := b3.get 2 _ rfl; clear b3 b2; clear h8))
  have hsz2 := hb2.size
  rw [World.size_alloc] at hsz2
  have h9 := (((((Px.bput HM.out.2 2 rfl 0 (.slice m.vp m.vn m.vc)).bput 2 rfl 1 (.slice m.xp m.xn m.xc)).bput 2 rfl 2 (.slice m.fp m.fn m.fc)).bput 1 rfl 0 (.int .i64 0)).bput 1 rfl 1 (.int .i64 0)).bput 1 rfl 2 (.int .i64 0)
  have hp : parseP en ts = .ok mm := by
    have h8 := HT.out.2.2.2.2
    cases hq : parseP en ts with
    | ok a => rw [hq] at h8; rw [h8.1]
    | error e => rw [hq] at h8; cases (show (none : Option Flt) = some e from h8)
  have hB := Pk.below h9
  have hI := mod_in (Pk.satZ h9).1
  have HF := Lib.hid (And.intro hB hI)
  clear h9 hB hI
  refine bodyPost_ret (v := .tuple #[.agg #[.slice m.vp m.vn m.vc, .slice m.xp m.xn m.xc, .slice m.fp m.fn m.fc], .agg #[.int .i64 0, .int .i64 0, .int .i64 0]]) (by simp [results, Tryz.results10, go_sem, u20, u21, u22, u30, u31, u32]) rfl ⟨ts, none, HT.out.1, HF.out.1, .inr ⟨rfl, m, by rw [HT.out.2.1, hp, HM.out.1], rfl, HF.out.2⟩⟩
/-- Parse, whatever its text. -/
theorem Parse_any (s : ByteArray) (hs : s.size < 4611686018427387904) (W : World) (hK : Stc W) : Calls Tryz.prog 10 #[.string s] W (PsEnds W s.data.toList) := by
  obtain ⟨ts, f, hT⟩ : ∃ ts f, Toks s.data.toList ts f := by
    obtain ⟨e, w', fr, ⟨ts, f, v, h1, _⟩, _⟩ := Tokens_any s (by omega) W hK.1 []
    exact ⟨ts, f, h1⟩
  cases f with
  | some x => exact Parse_bad s hs W hK.1 ts x hT
  | none =>
    obtain ⟨mm, fo, hA⟩ : ∃ mm fo, allP (endTk s.data.toList) ts = (mm, fo) := ⟨_, _, rfl⟩
    cases fo with
    | none => exact Parse_good s hs W hK ts hT mm hA
    | some x => obtain ⟨x1, x2, x3⟩ := x; exact Parse_err s hs W hK ts hT mm x1 x2 x3 hA
end Go.Proofs.YtjomihlnjobndaaGreatDoor
/- The pieces of a fixed text, told by running. -/
namespace Go.Proofs.YtjomihlnjobndaaGreatDoor
open Go.RowKit Go.Maps
set_option linter.unusedVariables false
set_option linter.unusedSimpArgs false

def lexF : Nat → List UInt8 → Nat → Nat → Option (List Tok × Option Flt)
  | 0, _, _, _ => none
  | n + 1, l, line, col =>
    match l.drop (passed l) with
    | [] => some ([], none)
    | c :: r =>
      match first (c :: r) with
      | .bad e => some ([], some ⟨e, line, col + passed l⟩)
      | .ok k b s => (lexF n ((c :: r).drop s) (if k = 6 then line + 1 else line) (if k = 6 then 1 else col + passed l + s)).map fun p => (⟨k, b, line, col + passed l⟩ :: p.1, p.2)
theorem lexF_ok : ∀ (n : Nat) (l : List UInt8) (line col : Nat) (ts : List Tok) (f : Option Flt), lexF n l line col = some (ts, f) → Lexed l line col ts f
  | 0, l, line, col, ts, f, h => by cases h
  | n + 1, l, line, col, ts, f, h => by
    unfold lexF at h
    split at h
    · rename_i h1
      cases h
      exact .done h1
    · rename_i c r h1
      split at h
      · rename_i e h2
        cases h
        exact .bad h1 h2
      · rename_i k b s h2
        obtain ⟨⟨ts', f'⟩, h3, h4⟩ := Option.map_eq_some_iff.1 h
        cases h4
        exact .step h1 h2 (lexF_ok n _ _ _ _ _ h3)
/-- What a text's parse is, told by running. -/
def runP (n : Nat) (l : List UInt8) : Option (Except Flt PMod) :=
  match lexF n l 1 1 with
  | some (ts, none) => some (parseP (endTk l) ts)
  | some (_, some f) => some (.error f)
  | none => none
def RunEnds (e : Ending) (w' : World) : Except Flt PMod → Prop
  | .error f => e = .returned (.tuple #[.agg #[.slice none 0 0, .slice none 0 0, .slice none 0 0], .agg #[.int .i64 f.code, .int .i64 f.line, .int .i64 f.col]])
  | .ok mm => ∃ m : LMod, modD m = mm ∧ e = .returned (.tuple #[.agg #[.slice m.vp m.vn m.vc, .slice m.xp m.xn m.xc, .slice m.fp m.fn m.fc], .agg #[.int .i64 0, .int .i64 0, .int .i64 0]]) ∧ ModIn w'.heap.size w' m
theorem PsEnds.run {W w' : World} {l : List UInt8} {e : Ending} (h : PsEnds W l e w') (hl : l.length ≤ 65536) {n : Nat} {r : Except Flt PMod} (hr : runP n l = some r) : Below W.heap.size W w' ∧ RunEnds e w' r := by
  obtain ⟨ts, f0, hT, hB, h⟩ := h
  refine ⟨hB, ?_⟩
  unfold runP at hr
  cases hx : lexF n l 1 1 with
  | none => rw [hx] at hr; cases hr
  | some p =>
    obtain ⟨ts', f'⟩ := p
    have hT' : Toks l (if f'.isNone then ts' else []) f' := .inr ⟨hl, ts', lexF_ok _ _ _ _ _ _ hx, rfl⟩
    obtain ⟨e1, e2⟩ := hT.unique hT'
    subst e2
    rw [hx] at hr
    cases f0 with
    | none =>
      have e3 : ts = ts' := e1
      subst e3
      injection hr with hr
      rcases h with ⟨f, h1, h2, _⟩ | ⟨_, m, h1, h2, h3⟩
      · rcases h1 with h1 | ⟨_, h1⟩
        · cases h1
        · rw [← hr, h1]; exact h2
      · rw [← hr, h1]; exact ⟨m, rfl, h2, h3⟩
    | some f =>
      injection hr with hr
      rcases h with ⟨f', h1, h2, _⟩ | ⟨h0, _⟩
      · rcases h1 with h1 | ⟨h1, _⟩
        · injection h1 with h1; rw [← hr, h1]; exact h2
        · cases h1
      · cases h0
def liveA : List UInt8 := [103, 108, 111, 98, 97, 108, 32, 103, 32, 56, 10, 102, 117, 110, 99, 32, 102, 40, 105, 56, 41, 32, 105, 56, 10, 98, 48, 58, 10, 37, 49, 32, 61, 32, 97, 100, 100, 32, 110, 115, 119, 32, 105, 56, 32, 37, 48, 44, 32, 51, 10, 115, 116, 111, 114, 101, 32, 105, 56, 32, 37, 49, 44, 32, 64, 103, 10, 114, 101, 116, 32, 105, 56, 32, 37, 49, 10, 101, 110, 100, 10]
def liveB : List UInt8 := [103, 108, 111, 98, 97, 108, 32, 103, 32, 54, 53]
theorem run_liveB : runP 20 liveB = some (.error ⟨6, 1, 10⟩) := by kernel_rfl
theorem run_liveA : ∃ mm, runP 60 liveA = some (.ok mm) ∧ mm.vs.length = 1 ∧ mm.fs.length = 1 ∧ (mm.fs.map fun f => f.bs.flatten.length) = [3] := by
  refine ⟨⟨[⟨⟨#[103]⟩, 8⟩], [], [⟨⟨#[102]⟩, [8], 8, [[⟨1, 1, 8, 0, 1, [⟨1, 0, 0⟩, ⟨2, 0, 3⟩], []⟩, ⟨28, -1, 8, 0, 0, [⟨1, 1, 0⟩, ⟨5, 0, 0⟩], []⟩, ⟨33, -1, 8, 0, 0, [⟨1, 1, 0⟩], []⟩]]⟩]⟩, ?_, rfl, rfl, rfl⟩
  kernel_rfl
end Go.Proofs.YtjomihlnjobndaaGreatDoor
