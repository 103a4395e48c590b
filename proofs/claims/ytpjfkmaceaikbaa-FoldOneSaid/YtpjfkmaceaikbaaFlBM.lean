/- Package fold: literals, Fold. -/
import Derived.Test.YtpjfkmaceaikbaaFlAM
import Derived.Test.YtpjfkmaceaikbaaReKM
import Derived.Test.YtpjfkmaceaikbaaEvLM
namespace Go.Proofs.Ytpjfkmaceaikbaa
open Go.RowKit Go.Maps
set_option linter.unusedVariables false
set_option linter.unusedSimpArgs false
set_option maxRecDepth 100000
set_option maxHeartbeats 1000000

/-- What literals answers. -/
def LitsEnds (args : List Arg) (W : World) (e : Ending) (w' : World) : Prop :=
  ((args.all isLit = true ∧ ∃ q d, e = .returned (.tuple #[.slice q args.length d, .bool true]) ∧ VlsIn w'.heap.size w' q args.length d (args.map lvD)) ∨ (args.all isLit = false ∧ e = .returned (.tuple #[.slice none 0 0, .bool false]))) ∧ Below W.heap.size W w'
theorem literals_any (args : List Arg) (p : Option Addr) (c : Nat) (W : World) (hl : ListIn argC NoMem W.heap.size W p args.length c args) (hz : args.length ≤ 1048576) :
    Calls Try.prog 11 #[.slice p args.length c] W (LitsEnds args W) := by
  have H := Lib.hid hl
  have hc1 := hl.2.1
  have hc2 := hl.2.2.1
  unfold maxLen at hc2
  obtain ⟨iV, hiV⟩ := info_parts infoVal
  have HI := Lib.hid hiV
  obtain ⟨m, em⟩ : ∃ m, args.length = m := ⟨_, rfl⟩
  have EM := Lib.hid em
  have S0 : Hid (St W.heap.size W (As.and (rw' W.heap.size 35 4 vlC none 0 0 ((args.map lvD).take 0)) As.emp) W) := Lib.hid ((St.start W).imp ⟨fun w x => ⟨rw_nil w, x⟩, fun k => by simp only [As.and_c, rw_c, cR]; omega⟩)
  simp only [em] at hc1 hc2 hz ⊢
  clear hl hiV em
  go_enter Try.func11, Try.ntmps11
  go_wp2_with fail
  go_loopw [4, 11] (fun s u wr => ∃ (k : Nat) (q : Option Addr) (d : Nat), k ≤ m ∧ s = .slice q k d ∧ u = .int .i64 k ∧ (args.take k).all isLit = true ∧ St W.heap.size W (As.and (rw' W.heap.size 35 4 vlC q k d ((args.map lvD).take k)) As.emp) wr) (fun _ u _ => m - (intOf u).toNat)
  case atStart => exact ⟨0, none, 0, Nat.zero_le _, rfl, rfl, rfl, S0.out⟩
  case round =>
    clear S0
    obtain ⟨k, q, d, hk, rfl, rfl, hall, hS⟩ := hrel
    by_cases hkm : k < m
    · have hka : k < args.length := by rw [EM.out]; exact hkm
      obtain ⟨a, rfl, ha, hA⟩ := arg_row H.out k hka
      obtain ⟨⟨ak, an, ab⟩, ev⟩ : ∃ v, args[k] = v := ⟨_, rfl⟩
      rw [ev] at hA
      have hA2 := hA.below hS.below (by rw [add_block]; exact ha)
      obtain ⟨f0, f1, f2⟩ := hA2
      simp only at f0 f1 f2
      have awr := Nat.lt_of_lt_of_le ha hS.below.size
      have cL := fun W => literal_any ⟨ak, an, ab⟩ W
      have hlen : ((args.map lvD).take k).length = k := by rw [List.length_take, List.length_map]; omega
      have hst : (args.take (k + 1)).all isLit = ((args.take k).all isLit && isLit ⟨ak, an, ab⟩) := by rw [List.take_add_one, List.getElem?_eq_getElem hka, ev, Option.toList_some, List.all_append]; simp
      have hnx : (args.map lvD).take k ++ [lvD ⟨ak, an, ab⟩] = (args.map lvD).take (k + 1) := by rw [List.take_add_one, List.getElem?_map, List.getElem?_eq_getElem hka, ev]; rfl
      have hno : isLit ⟨ak, an, ab⟩ = false → args.all isLit = false := fun h => by
        rw [Bool.eq_false_iff]
        intro h2
        have := List.all_eq_true.1 h2 args[k] (List.getElem_mem hka)
        rw [ev, h] at this
        exact absurd this (by decide)
      cases hb : isLit ⟨ak, an, ab⟩ with
      | false =>
        rw [hb] at cL
        replace cL : ∀ W, Calls Try.prog 22 #[.agg #[.int .i64 ak, .int .i64 an, .int .u64 ab]] W fun e w' => e = .returned (.tuple #[.agg #[.int .i64 0, .int .u64 0, .int .i64 0, .int .i64 0], .bool false]) ∧ Below W.heap.size W w' := cL
        have HN := Lib.hid (And.intro (hno hb) hS)
        clear hall hS hst hnx hno hb hlen hA ev
        go_wp2_with ((with_reducible refine (cL _).mono ?_); rintro e w1 ⟨rfl, hb⟩; have S1 := Lib.hid ((HN.out.2.alloc _).later hb); clear hb)
        go_ret2
        exact ⟨.inr ⟨HN.out.1, rfl⟩, (S1.out.alloc _).below⟩
      | true =>
        rw [hb] at cL
        rw [hb, hall] at hst
        obtain ⟨⟨vk, vb, vbk, vo⟩, el⟩ : ∃ v, lvD ⟨ak, an, ab⟩ = v := ⟨_, rfl⟩
        rw [el] at hnx
        simp only [el, if_true] at cL
        replace cL : ∀ W, Calls Try.prog 22 #[.agg #[.int .i64 ak, .int .i64 an, .int .u64 ab]] W fun e w' => e = .returned (.tuple #[.agg #[.int .i64 vk, .int .u64 vb, .int .i64 vbk, .int .i64 vo], .bool true]) ∧ Below W.heap.size W w' := cL
        have HL := Lib.hid (And.intro hlen (And.intro hnx (And.intro hk (And.intro hz hst))))
        have HS := Lib.hid hS
        clear hall hS hst hnx hno hb hlen hA ev el
        go_wp2_with (first
          | ((with_reducible refine (cL _).mono ?_); rintro e w1 ⟨rfl, hb⟩; have S1 := Lib.hid ((HS.out.alloc _).later hb); clear hb)
          | (at_builtin; refine wpList_app rfl (.tmp 22) (.tmp 24) 33 rfl iV _ 32 Try.underlying33 HI.out.1 HI.out.2.1 HI.out.2.2.1 HI.out.2.2.2 rfl (by decide) rfl ((S1.out.alloc _).alloc _) ⟨vk, vb, vbk, vo⟩ _ 1 rfl rfl (lit_cells2 _ _ _ _) (vlC_one _) (by have := HL.out.1; have := HL.out.2.2.2.1; unfold maxLen; omega) (by have := HL.out.1; have := HL.out.2.2.2.1; omega) ?_; intro p' c' w' hS'; have HS9 := Lib.hid hS'; clear hS'))
        have hS9 : Hid (St W.heap.size W (As.and (rw' W.heap.size 35 4 vlC p' (k + 1) c' ((args.map lvD).take (k + 1))) As.emp) w') := Lib.hid (by have h := HS9.out; rw [HL.out.1, HL.out.2.1] at h; exact h)
        exact ⟨⟨k + 1, _, _, by omega, by have := EM.out; first | rfl | rw [HL.out.1] | rw [Nat.min_eq_left (by omega)], by go_num, HL.out.2.2.2.2, hS9.out⟩, by simp [intOf]; omega⟩
    · obtain rfl : k = m := by omega
      have e1 : (args.map lvD).take k = args.map lvD := List.take_of_length_le (by rw [List.length_map]; have := EM.out; omega)
      have e2 : args.take k = args := List.take_of_length_le (by have := EM.out; omega)
      rw [e1] at hS
      rw [e2] at hall
      have hin : VlsIn wr.heap.size wr q k d (args.map lvD) := rowP_in vlC_len hS.sat.1 (fun _ _ => trivial)
      have HE := Lib.hid (And.intro hall (And.intro hin hS.below))
      clear hall hS hin e1 e2
      go_wp2_with fail
      go_ret2
      refine ⟨.inl ⟨HE.out.1, q, d, ?_, ?_⟩, HE.out.2.2⟩
      · (rw [EM.out]) <;> rfl
      · rw [EM.out]; exact HE.out.2.1
end Go.Proofs.Ytpjfkmaceaikbaa
