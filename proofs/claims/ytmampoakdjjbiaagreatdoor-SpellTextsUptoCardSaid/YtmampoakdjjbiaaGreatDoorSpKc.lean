/- The program's words of flags, heads, names of what calls call, operands; a line. -/
import Derived.Test.YtmampoakdjjbiaaGreatDoorSpKb
namespace Go.Proofs.YtmampoakdjjbiaaGreatDoor
open Go.RowKit Go.Maps
set_option linter.unusedVariables false
set_option linter.unusedSimpArgs false

set_option maxRecDepth 100000 in
set_option maxHeartbeats 2000000 in
theorem flags_0 (W : World) : Calls Tryz.prog 126 #[.int .i64 0] W (StrV (mkS (flagsP 0)) W) := by
  obtain ⟨i0, hi, hz0, hz1, hz2⟩ := info_parts infoStr
  have HI := Lib.hid (And.intro hi (And.intro hz0 (And.intro hz1 hz2)))
  clear hi hz0 hz1 hz2
  have HO0 : Hid (OS W W.heap.size (.slice none 0 0) [] ∧ Below W.heap.size W W) := Lib.hid ⟨OS.nil _ _, Below.refl _ _⟩
  go_enter Tryz.func126, Tryz.ntmps126
  have cl := lay_any _ _ _ HO0.out.1.sl (by decide) (by decide)
  go_wp2_with fail
  refine cl.mono ?_
  rintro e wz ⟨rfl, hb⟩
  have HB := Lib.hid (HO0.out.2.trans (hb.mono HO0.out.2.size))
  clear hb cl
  go_wp2_with fail
  go_ret
  exact ⟨rfl, HB.out⟩
set_option maxRecDepth 100000 in
set_option maxHeartbeats 2000000 in
theorem flags_1 (W : World) : Calls Tryz.prog 126 #[.int .i64 1] W (StrV (mkS (flagsP 1)) W) := by
  obtain ⟨i0, hi, hz0, hz1, hz2⟩ := info_parts infoStr
  have HI := Lib.hid (And.intro hi (And.intro hz0 (And.intro hz1 hz2)))
  clear hi hz0 hz1 hz2
  have HO0 : Hid (OS W W.heap.size (.slice none 0 0) [] ∧ Below W.heap.size W W) := Lib.hid ⟨OS.nil _ _, Below.refl _ _⟩
  go_enter Tryz.func126, Tryz.ntmps126
  go_wp2_with (at_builtin; refine wpList_append_own _ rfl _ _ 95 rfl W.heap.size 9 i0 (.string ⟨#[]⟩) 1 16 Tryz.underlying95 HI.out.1 HI.out.2.1 HI.out.2.2.1 HI.out.2.2.2 rfl (by decide) _ _ _ rfl (HO0.out.1.alloc _) ⟨W.heap.size, 0, none⟩ 1 1 [.string ⟨#[110, 115, 119]⟩] rfl rfl ?c1 ?c2 ?c3 ?c4 ?c5 ?_)
  case c1 =>
    intro j u hj
    match j, hj with
    | 0, hj => simp at hj; subst hj; simp [Addr.add]
  case c2 => intro u hu; simp at hu; subst hu; rfl
  case c3 => decide
  case c4 => decide
  case c5 => have := HO0.out.2.size; simp; try omega
  intro v1 w1 hown' hgrow _
  have HO1 : Hid (OS w1 W.heap.size v1 [⟨#[110, 115, 119]⟩] ∧ Below W.heap.size W w1) := Lib.hid ⟨hown', (HO0.out.2.alloc HO0.out.2.size _).grown hgrow (by have := HO0.out.2.size; simp; try omega) (fun k hk => (HO0.out.1.lt k hk).1)⟩
  clear hown' hgrow
  have cl := lay_any _ _ _ HO1.out.1.sl (by decide) (by decide)
  go_wp2_with fail
  refine cl.mono ?_
  rintro e wz ⟨rfl, hb⟩
  have HB := Lib.hid (HO1.out.2.trans (hb.mono HO1.out.2.size))
  clear hb cl
  go_wp2_with fail
  go_ret
  exact ⟨rfl, HB.out⟩
set_option maxRecDepth 100000 in
set_option maxHeartbeats 2000000 in
theorem flags_2 (W : World) : Calls Tryz.prog 126 #[.int .i64 2] W (StrV (mkS (flagsP 2)) W) := by
  obtain ⟨i0, hi, hz0, hz1, hz2⟩ := info_parts infoStr
  have HI := Lib.hid (And.intro hi (And.intro hz0 (And.intro hz1 hz2)))
  clear hi hz0 hz1 hz2
  have HO0 : Hid (OS W W.heap.size (.slice none 0 0) [] ∧ Below W.heap.size W W) := Lib.hid ⟨OS.nil _ _, Below.refl _ _⟩
  go_enter Tryz.func126, Tryz.ntmps126
  go_wp2_with (at_builtin; refine wpList_append_own _ rfl _ _ 95 rfl W.heap.size 9 i0 (.string ⟨#[]⟩) 1 16 Tryz.underlying95 HI.out.1 HI.out.2.1 HI.out.2.2.1 HI.out.2.2.2 rfl (by decide) _ _ _ rfl (HO0.out.1.alloc _) ⟨W.heap.size, 0, none⟩ 1 1 [.string ⟨#[110, 117, 119]⟩] rfl rfl ?c1 ?c2 ?c3 ?c4 ?c5 ?_)
  case c1 =>
    intro j u hj
    match j, hj with
    | 0, hj => simp at hj; subst hj; simp [Addr.add]
  case c2 => intro u hu; simp at hu; subst hu; rfl
  case c3 => decide
  case c4 => decide
  case c5 => have := HO0.out.2.size; simp; try omega
  intro v1 w1 hown' hgrow _
  have HO1 : Hid (OS w1 W.heap.size v1 [⟨#[110, 117, 119]⟩] ∧ Below W.heap.size W w1) := Lib.hid ⟨hown', (HO0.out.2.alloc HO0.out.2.size _).grown hgrow (by have := HO0.out.2.size; simp; try omega) (fun k hk => (HO0.out.1.lt k hk).1)⟩
  clear hown' hgrow
  have cl := lay_any _ _ _ HO1.out.1.sl (by decide) (by decide)
  go_wp2_with fail
  refine cl.mono ?_
  rintro e wz ⟨rfl, hb⟩
  have HB := Lib.hid (HO1.out.2.trans (hb.mono HO1.out.2.size))
  clear hb cl
  go_wp2_with fail
  go_ret
  exact ⟨rfl, HB.out⟩
set_option maxRecDepth 100000 in
set_option maxHeartbeats 2000000 in
theorem flags_3 (W : World) : Calls Tryz.prog 126 #[.int .i64 3] W (StrV (mkS (flagsP 3)) W) := by
  obtain ⟨i0, hi, hz0, hz1, hz2⟩ := info_parts infoStr
  have HI := Lib.hid (And.intro hi (And.intro hz0 (And.intro hz1 hz2)))
  clear hi hz0 hz1 hz2
  have HO0 : Hid (OS W W.heap.size (.slice none 0 0) [] ∧ Below W.heap.size W W) := Lib.hid ⟨OS.nil _ _, Below.refl _ _⟩
  go_enter Tryz.func126, Tryz.ntmps126
  go_wp2_with (at_builtin; refine wpList_append_own _ rfl _ _ 95 rfl W.heap.size 9 i0 (.string ⟨#[]⟩) 1 16 Tryz.underlying95 HI.out.1 HI.out.2.1 HI.out.2.2.1 HI.out.2.2.2 rfl (by decide) _ _ _ rfl (HO0.out.1.alloc _) ⟨W.heap.size, 0, none⟩ 1 1 [.string ⟨#[110, 115, 119]⟩] rfl rfl ?c1 ?c2 ?c3 ?c4 ?c5 ?_)
  case c1 =>
    intro j u hj
    match j, hj with
    | 0, hj => simp at hj; subst hj; simp [Addr.add]
  case c2 => intro u hu; simp at hu; subst hu; rfl
  case c3 => decide
  case c4 => decide
  case c5 => have := HO0.out.2.size; simp; try omega
  intro v1 w1 hown' hgrow _
  have HO1 : Hid (OS w1 W.heap.size v1 [⟨#[110, 115, 119]⟩] ∧ Below W.heap.size W w1) := Lib.hid ⟨hown', (HO0.out.2.alloc HO0.out.2.size _).grown hgrow (by have := HO0.out.2.size; simp; try omega) (fun k hk => (HO0.out.1.lt k hk).1)⟩
  clear hown' hgrow
  go_wp2_with (at_builtin; refine wpList_append_own _ rfl _ _ 95 rfl W.heap.size 9 i0 (.string ⟨#[]⟩) 1 16 Tryz.underlying95 HI.out.1 HI.out.2.1 HI.out.2.2.1 HI.out.2.2.2 rfl (by decide) _ _ _ rfl (HO1.out.1.alloc _) ⟨w1.heap.size, 0, none⟩ 1 1 [.string ⟨#[110, 117, 119]⟩] rfl rfl ?c1 ?c2 ?c3 ?c4 ?c5 ?_)
  case c1 =>
    intro j u hj
    match j, hj with
    | 0, hj => simp at hj; subst hj; simp [Addr.add]
  case c2 => intro u hu; simp at hu; subst hu; rfl
  case c3 => decide
  case c4 => decide
  case c5 => have := HO1.out.2.size; simp; try omega
  intro v2 w2 hown' hgrow _
  have HO2 : Hid (OS w2 W.heap.size v2 [⟨#[110, 115, 119]⟩, ⟨#[110, 117, 119]⟩] ∧ Below W.heap.size W w2) := Lib.hid ⟨hown', (HO1.out.2.alloc HO1.out.2.size _).grown hgrow (by have := HO1.out.2.size; simp; try omega) (fun k hk => (HO1.out.1.lt k hk).1)⟩
  clear hown' hgrow
  have cl := lay_any _ _ _ HO2.out.1.sl (by decide) (by decide)
  go_wp2_with fail
  refine cl.mono ?_
  rintro e wz ⟨rfl, hb⟩
  have HB := Lib.hid (HO2.out.2.trans (hb.mono HO2.out.2.size))
  clear hb cl
  go_wp2_with fail
  go_ret
  exact ⟨rfl, HB.out⟩
set_option maxRecDepth 100000 in
set_option maxHeartbeats 2000000 in
theorem flags_4 (W : World) : Calls Tryz.prog 126 #[.int .i64 4] W (StrV (mkS (flagsP 4)) W) := by
  obtain ⟨i0, hi, hz0, hz1, hz2⟩ := info_parts infoStr
  have HI := Lib.hid (And.intro hi (And.intro hz0 (And.intro hz1 hz2)))
  clear hi hz0 hz1 hz2
  have HO0 : Hid (OS W W.heap.size (.slice none 0 0) [] ∧ Below W.heap.size W W) := Lib.hid ⟨OS.nil _ _, Below.refl _ _⟩
  go_enter Tryz.func126, Tryz.ntmps126
  go_wp2_with (at_builtin; refine wpList_append_own _ rfl _ _ 95 rfl W.heap.size 9 i0 (.string ⟨#[]⟩) 1 16 Tryz.underlying95 HI.out.1 HI.out.2.1 HI.out.2.2.1 HI.out.2.2.2 rfl (by decide) _ _ _ rfl (HO0.out.1.alloc _) ⟨W.heap.size, 0, none⟩ 1 1 [.string ⟨#[101, 120, 97, 99, 116]⟩] rfl rfl ?c1 ?c2 ?c3 ?c4 ?c5 ?_)
  case c1 =>
    intro j u hj
    match j, hj with
    | 0, hj => simp at hj; subst hj; simp [Addr.add]
  case c2 => intro u hu; simp at hu; subst hu; rfl
  case c3 => decide
  case c4 => decide
  case c5 => have := HO0.out.2.size; simp; try omega
  intro v1 w1 hown' hgrow _
  have HO1 : Hid (OS w1 W.heap.size v1 [⟨#[101, 120, 97, 99, 116]⟩] ∧ Below W.heap.size W w1) := Lib.hid ⟨hown', (HO0.out.2.alloc HO0.out.2.size _).grown hgrow (by have := HO0.out.2.size; simp; try omega) (fun k hk => (HO0.out.1.lt k hk).1)⟩
  clear hown' hgrow
  have cl := lay_any _ _ _ HO1.out.1.sl (by decide) (by decide)
  go_wp2_with fail
  refine cl.mono ?_
  rintro e wz ⟨rfl, hb⟩
  have HB := Lib.hid (HO1.out.2.trans (hb.mono HO1.out.2.size))
  clear hb cl
  go_wp2_with fail
  go_ret
  exact ⟨rfl, HB.out⟩
set_option maxRecDepth 100000 in
set_option maxHeartbeats 2000000 in
theorem flags_5 (W : World) : Calls Tryz.prog 126 #[.int .i64 5] W (StrV (mkS (flagsP 5)) W) := by
  obtain ⟨i0, hi, hz0, hz1, hz2⟩ := info_parts infoStr
  have HI := Lib.hid (And.intro hi (And.intro hz0 (And.intro hz1 hz2)))
  clear hi hz0 hz1 hz2
  have HO0 : Hid (OS W W.heap.size (.slice none 0 0) [] ∧ Below W.heap.size W W) := Lib.hid ⟨OS.nil _ _, Below.refl _ _⟩
  go_enter Tryz.func126, Tryz.ntmps126
  go_wp2_with (at_builtin; refine wpList_append_own _ rfl _ _ 95 rfl W.heap.size 9 i0 (.string ⟨#[]⟩) 1 16 Tryz.underlying95 HI.out.1 HI.out.2.1 HI.out.2.2.1 HI.out.2.2.2 rfl (by decide) _ _ _ rfl (HO0.out.1.alloc _) ⟨W.heap.size, 0, none⟩ 1 1 [.string ⟨#[110, 115, 119]⟩] rfl rfl ?c1 ?c2 ?c3 ?c4 ?c5 ?_)
  case c1 =>
    intro j u hj
    match j, hj with
    | 0, hj => simp at hj; subst hj; simp [Addr.add]
  case c2 => intro u hu; simp at hu; subst hu; rfl
  case c3 => decide
  case c4 => decide
  case c5 => have := HO0.out.2.size; simp; try omega
  intro v1 w1 hown' hgrow _
  have HO1 : Hid (OS w1 W.heap.size v1 [⟨#[110, 115, 119]⟩] ∧ Below W.heap.size W w1) := Lib.hid ⟨hown', (HO0.out.2.alloc HO0.out.2.size _).grown hgrow (by have := HO0.out.2.size; simp; try omega) (fun k hk => (HO0.out.1.lt k hk).1)⟩
  clear hown' hgrow
  go_wp2_with (at_builtin; refine wpList_append_own _ rfl _ _ 95 rfl W.heap.size 9 i0 (.string ⟨#[]⟩) 1 16 Tryz.underlying95 HI.out.1 HI.out.2.1 HI.out.2.2.1 HI.out.2.2.2 rfl (by decide) _ _ _ rfl (HO1.out.1.alloc _) ⟨w1.heap.size, 0, none⟩ 1 1 [.string ⟨#[101, 120, 97, 99, 116]⟩] rfl rfl ?c1 ?c2 ?c3 ?c4 ?c5 ?_)
  case c1 =>
    intro j u hj
    match j, hj with
    | 0, hj => simp at hj; subst hj; simp [Addr.add]
  case c2 => intro u hu; simp at hu; subst hu; rfl
  case c3 => decide
  case c4 => decide
  case c5 => have := HO1.out.2.size; simp; try omega
  intro v2 w2 hown' hgrow _
  have HO2 : Hid (OS w2 W.heap.size v2 [⟨#[110, 115, 119]⟩, ⟨#[101, 120, 97, 99, 116]⟩] ∧ Below W.heap.size W w2) := Lib.hid ⟨hown', (HO1.out.2.alloc HO1.out.2.size _).grown hgrow (by have := HO1.out.2.size; simp; try omega) (fun k hk => (HO1.out.1.lt k hk).1)⟩
  clear hown' hgrow
  have cl := lay_any _ _ _ HO2.out.1.sl (by decide) (by decide)
  go_wp2_with fail
  refine cl.mono ?_
  rintro e wz ⟨rfl, hb⟩
  have HB := Lib.hid (HO2.out.2.trans (hb.mono HO2.out.2.size))
  clear hb cl
  go_wp2_with fail
  go_ret
  exact ⟨rfl, HB.out⟩
set_option maxRecDepth 100000 in
set_option maxHeartbeats 2000000 in
theorem flags_6 (W : World) : Calls Tryz.prog 126 #[.int .i64 6] W (StrV (mkS (flagsP 6)) W) := by
  obtain ⟨i0, hi, hz0, hz1, hz2⟩ := info_parts infoStr
  have HI := Lib.hid (And.intro hi (And.intro hz0 (And.intro hz1 hz2)))
  clear hi hz0 hz1 hz2
  have HO0 : Hid (OS W W.heap.size (.slice none 0 0) [] ∧ Below W.heap.size W W) := Lib.hid ⟨OS.nil _ _, Below.refl _ _⟩
  go_enter Tryz.func126, Tryz.ntmps126
  go_wp2_with (at_builtin; refine wpList_append_own _ rfl _ _ 95 rfl W.heap.size 9 i0 (.string ⟨#[]⟩) 1 16 Tryz.underlying95 HI.out.1 HI.out.2.1 HI.out.2.2.1 HI.out.2.2.2 rfl (by decide) _ _ _ rfl (HO0.out.1.alloc _) ⟨W.heap.size, 0, none⟩ 1 1 [.string ⟨#[110, 117, 119]⟩] rfl rfl ?c1 ?c2 ?c3 ?c4 ?c5 ?_)
  case c1 =>
    intro j u hj
    match j, hj with
    | 0, hj => simp at hj; subst hj; simp [Addr.add]
  case c2 => intro u hu; simp at hu; subst hu; rfl
  case c3 => decide
  case c4 => decide
  case c5 => have := HO0.out.2.size; simp; try omega
  intro v1 w1 hown' hgrow _
  have HO1 : Hid (OS w1 W.heap.size v1 [⟨#[110, 117, 119]⟩] ∧ Below W.heap.size W w1) := Lib.hid ⟨hown', (HO0.out.2.alloc HO0.out.2.size _).grown hgrow (by have := HO0.out.2.size; simp; try omega) (fun k hk => (HO0.out.1.lt k hk).1)⟩
  clear hown' hgrow
  go_wp2_with (at_builtin; refine wpList_append_own _ rfl _ _ 95 rfl W.heap.size 9 i0 (.string ⟨#[]⟩) 1 16 Tryz.underlying95 HI.out.1 HI.out.2.1 HI.out.2.2.1 HI.out.2.2.2 rfl (by decide) _ _ _ rfl (HO1.out.1.alloc _) ⟨w1.heap.size, 0, none⟩ 1 1 [.string ⟨#[101, 120, 97, 99, 116]⟩] rfl rfl ?c1 ?c2 ?c3 ?c4 ?c5 ?_)
  case c1 =>
    intro j u hj
    match j, hj with
    | 0, hj => simp at hj; subst hj; simp [Addr.add]
  case c2 => intro u hu; simp at hu; subst hu; rfl
  case c3 => decide
  case c4 => decide
  case c5 => have := HO1.out.2.size; simp; try omega
  intro v2 w2 hown' hgrow _
  have HO2 : Hid (OS w2 W.heap.size v2 [⟨#[110, 117, 119]⟩, ⟨#[101, 120, 97, 99, 116]⟩] ∧ Below W.heap.size W w2) := Lib.hid ⟨hown', (HO1.out.2.alloc HO1.out.2.size _).grown hgrow (by have := HO1.out.2.size; simp; try omega) (fun k hk => (HO1.out.1.lt k hk).1)⟩
  clear hown' hgrow
  have cl := lay_any _ _ _ HO2.out.1.sl (by decide) (by decide)
  go_wp2_with fail
  refine cl.mono ?_
  rintro e wz ⟨rfl, hb⟩
  have HB := Lib.hid (HO2.out.2.trans (hb.mono HO2.out.2.size))
  clear hb cl
  go_wp2_with fail
  go_ret
  exact ⟨rfl, HB.out⟩
set_option maxRecDepth 100000 in
set_option maxHeartbeats 2000000 in
theorem flags_7 (W : World) : Calls Tryz.prog 126 #[.int .i64 7] W (StrV (mkS (flagsP 7)) W) := by
  obtain ⟨i0, hi, hz0, hz1, hz2⟩ := info_parts infoStr
  have HI := Lib.hid (And.intro hi (And.intro hz0 (And.intro hz1 hz2)))
  clear hi hz0 hz1 hz2
  have HO0 : Hid (OS W W.heap.size (.slice none 0 0) [] ∧ Below W.heap.size W W) := Lib.hid ⟨OS.nil _ _, Below.refl _ _⟩
  go_enter Tryz.func126, Tryz.ntmps126
  go_wp2_with (at_builtin; refine wpList_append_own _ rfl _ _ 95 rfl W.heap.size 9 i0 (.string ⟨#[]⟩) 1 16 Tryz.underlying95 HI.out.1 HI.out.2.1 HI.out.2.2.1 HI.out.2.2.2 rfl (by decide) _ _ _ rfl (HO0.out.1.alloc _) ⟨W.heap.size, 0, none⟩ 1 1 [.string ⟨#[110, 115, 119]⟩] rfl rfl ?c1 ?c2 ?c3 ?c4 ?c5 ?_)
  case c1 =>
    intro j u hj
    match j, hj with
    | 0, hj => simp at hj; subst hj; simp [Addr.add]
  case c2 => intro u hu; simp at hu; subst hu; rfl
  case c3 => decide
  case c4 => decide
  case c5 => have := HO0.out.2.size; simp; try omega
  intro v1 w1 hown' hgrow _
  have HO1 : Hid (OS w1 W.heap.size v1 [⟨#[110, 115, 119]⟩] ∧ Below W.heap.size W w1) := Lib.hid ⟨hown', (HO0.out.2.alloc HO0.out.2.size _).grown hgrow (by have := HO0.out.2.size; simp; try omega) (fun k hk => (HO0.out.1.lt k hk).1)⟩
  clear hown' hgrow
  go_wp2_with (at_builtin; refine wpList_append_own _ rfl _ _ 95 rfl W.heap.size 9 i0 (.string ⟨#[]⟩) 1 16 Tryz.underlying95 HI.out.1 HI.out.2.1 HI.out.2.2.1 HI.out.2.2.2 rfl (by decide) _ _ _ rfl (HO1.out.1.alloc _) ⟨w1.heap.size, 0, none⟩ 1 1 [.string ⟨#[110, 117, 119]⟩] rfl rfl ?c1 ?c2 ?c3 ?c4 ?c5 ?_)
  case c1 =>
    intro j u hj
    match j, hj with
    | 0, hj => simp at hj; subst hj; simp [Addr.add]
  case c2 => intro u hu; simp at hu; subst hu; rfl
  case c3 => decide
  case c4 => decide
  case c5 => have := HO1.out.2.size; simp; try omega
  intro v2 w2 hown' hgrow _
  have HO2 : Hid (OS w2 W.heap.size v2 [⟨#[110, 115, 119]⟩, ⟨#[110, 117, 119]⟩] ∧ Below W.heap.size W w2) := Lib.hid ⟨hown', (HO1.out.2.alloc HO1.out.2.size _).grown hgrow (by have := HO1.out.2.size; simp; try omega) (fun k hk => (HO1.out.1.lt k hk).1)⟩
  clear hown' hgrow
  go_wp2_with (at_builtin; refine wpList_append_own _ rfl _ _ 95 rfl W.heap.size 9 i0 (.string ⟨#[]⟩) 1 16 Tryz.underlying95 HI.out.1 HI.out.2.1 HI.out.2.2.1 HI.out.2.2.2 rfl (by decide) _ _ _ rfl (HO2.out.1.alloc _) ⟨w2.heap.size, 0, none⟩ 1 1 [.string ⟨#[101, 120, 97, 99, 116]⟩] rfl rfl ?c1 ?c2 ?c3 ?c4 ?c5 ?_)
  case c1 =>
    intro j u hj
    match j, hj with
    | 0, hj => simp at hj; subst hj; simp [Addr.add]
  case c2 => intro u hu; simp at hu; subst hu; rfl
  case c3 => decide
  case c4 => decide
  case c5 => have := HO2.out.2.size; simp; try omega
  intro v3 w3 hown' hgrow _
  have HO3 : Hid (OS w3 W.heap.size v3 [⟨#[110, 115, 119]⟩, ⟨#[110, 117, 119]⟩, ⟨#[101, 120, 97, 99, 116]⟩] ∧ Below W.heap.size W w3) := Lib.hid ⟨hown', (HO2.out.2.alloc HO2.out.2.size _).grown hgrow (by have := HO2.out.2.size; simp; try omega) (fun k hk => (HO2.out.1.lt k hk).1)⟩
  clear hown' hgrow
  have cl := lay_any _ _ _ HO3.out.1.sl (by decide) (by decide)
  go_wp2_with fail
  refine cl.mono ?_
  rintro e wz ⟨rfl, hb⟩
  have HB := Lib.hid (HO3.out.2.trans (hb.mono HO3.out.2.size))
  clear hb cl
  go_wp2_with fail
  go_ret
  exact ⟨rfl, HB.out⟩
theorem sFlags_any (fl : Int) (h : 0 ≤ fl ∧ fl ≤ 7) (W : World) : Calls Tryz.prog 126 #[.int .i64 fl] W (StrV (mkS (flagsP fl)) W) := by
  obtain rfl | rfl | rfl | rfl | rfl | rfl | rfl | rfl : fl = 0 ∨ fl = 1 ∨ fl = 2 ∨ fl = 3 ∨ fl = 4 ∨ fl = 5 ∨ fl = 6 ∨ fl = 7 := by omega
  · exact flags_0 W
  · exact flags_1 W
  · exact flags_2 W
  · exact flags_3 W
  · exact flags_4 W
  · exact flags_5 W
  · exact flags_6 W
  · exact flags_7 W
/-- name( types ). -/
def hdT (nm : ByteArray) (ps : List Int) : Tx := byt nm ++ 40 :: (listT (ps.map typeT) ++ [41])
set_option maxRecDepth 100000 in
set_option maxHeartbeats 2000000 in
theorem sHead_any (nm : ByteArray) (pp : Option Addr) (pn pc : Nat) (ps : List Int) (hs : nm.size ≤ 1048576) (hl : ps.length ≤ 1048576) (W : World) (hT : TabOk W) (h : ListIn intC NoMem W.heap.size W pp pn pc ps) :
    Calls Tryz.prog 34 #[.string nm, .slice pp pn pc] W (StrV (mkS (hdT nm ps)) W) := by
  have c1 : Calls Tryz.prog 78 #[.slice pp pn pc, .func (.func 12) #[] #[]] W (OwnS (ps.map fun x => mkS (typeT x)) W) :=
    spellEach_I typeT pp pn pc ps W h hl 12 #[] (fun _ _ => rfl) (fun i hi w hb => sType_any ps[i] w (hT.later hb))
  have hlp := listP_len ps
  have hmm : (ps.map fun x => mkS (typeT x)).map byt = ps.map typeT := by rw [List.map_map]; exact List.map_congr_left fun x _ => byt_mkS _
  have c2 := fun v w (hS : SL w v (ps.map fun x => mkS (typeT x))) => list_any v _ w hS (by rw [List.length_map]; omega) (by rw [hmm]; omega)
  rw [hmm] at c2
  have hz : (mkS (listT (ps.map typeT))).size ≤ 24117248 := by rw [size_mkS]; omega
  have HF : Hid (nm ++ ⟨#[40]⟩ ++ mkS (listT (ps.map typeT)) ++ ⟨#[41]⟩ = mkS (hdT nm ps)) := Lib.hid (by
    rw [show (⟨#[40]⟩ : ByteArray) = mkS [40] from rfl, show (⟨#[41]⟩ : ByteArray) = mkS [41] from rfl]
    conv => lhs; rw [← mkS_byt nm]
    rw [mkS_app, mkS_app, mkS_app]
    congr 1
    unfold hdT
    simp)
  obtain ⟨s, es⟩ : ∃ s, mkS (listT (ps.map typeT)) = s := ⟨_, rfl⟩
  obtain ⟨T, eT⟩ : ∃ T, mkS (hdT nm ps) = T := ⟨_, rfl⟩
  rw [eT] at HF ⊢
  rw [es] at hz HF
  simp only [es] at c2
  have C2 := Lib.hid c2
  clear c2 es eT hmm hlp hT h hl
  go_enter Tryz.func34, Tryz.ntmps34
  go_wp2_with fail
  refine c1.mono ?_
  rintro e w1 ⟨v, rfl, hO, hb⟩
  have HB := Lib.hid hb
  have c2 := C2.out v w1 hO.sl
  clear hO hb c1
  go_wp2_with fail
  refine c2.mono ?_
  rintro e w2 ⟨rfl, hb⟩
  have HB2 := Lib.hid (HB.out.trans (hb.mono HB.out.size))
  clear hb c2
  go_wp2_with fail
  go_ret
  exact ⟨by rw [← HF.out]; rfl, HB2.out⟩
/-- The module's three lists in the speller's block. -/
def MB (m : LMod) (b : Nat) (w : World) : Prop := b < w.heap.size ∧ w.cell? ⟨b, 0, none⟩ = some (.slice m.vp m.vn m.vc) ∧ w.cell? ⟨b, 1, none⟩ = some (.slice m.xp m.xn m.xc) ∧ w.cell? ⟨b, 2, none⟩ = some (.slice m.fp m.fn m.fc)
theorem MB.later {m : LMod} {b : Nat} {w w' : World} (h : MB m b w) (hb : Below w.heap.size w w') : MB m b w' :=
  ⟨Nat.lt_of_lt_of_le h.1 hb.size, (hb.cell (p := ⟨b, 0, none⟩) h.1).trans h.2.1, (hb.cell (p := ⟨b, 1, none⟩) h.1).trans h.2.2.1, (hb.cell (p := ⟨b, 2, none⟩) h.1).trans h.2.2.2⟩
theorem Bld.mb {m : LMod} {T : TypeId} {B b : Nat} {l : Tx} {w : World} (h : Bld T (modC m) B b l w) : MB m b w := by
  have hlt := h.lt
  obtain ⟨hB, p, v, hb, -⟩ := h
  exact ⟨hlt, by rw [Lib.cell_of_heap hb]; rfl, by rw [Lib.cell_of_heap hb]; rfl, by rw [Lib.cell_of_heap hb]; rfl⟩
set_option maxRecDepth 100000 in
theorem callee_fn (m : LMod) (b k : Nat) (hk : k < m.fs.length) (W : World) (hm : ModIn W.heap.size W m) (hb : MB m b W) : Calls Tryz.prog 124 #[.pointer (some ⟨b, 0, none⟩), .int .i64 (k : Int)] W (StrV m.fs[k].nm W) := by
  obtain ⟨a, hap, hab, c0, c1, c2, c3⟩ := row_F hm.2.2 k hk
  have hsl : m.fn = m.fs.length := hm.2.2.1
  have hc1 := hm.2.2.2.1
  have hc2 := hm.2.2.2.2.1
  unfold maxLen at hc2
  obtain ⟨nm, en⟩ : ∃ t, m.fs[k].nm = t := ⟨_, rfl⟩
  rw [en] at c0 ⊢
  obtain ⟨-, -, -, b2⟩ := hb
  clear c1 c2 c3 hm
  obtain ⟨vp, vn, vc, vs, xp, xn, xc, xs, fp, fn, fc, fs⟩ := m
  simp only at hap hk hsl hc1 hc2 b2
  subst hap
  have hkl : k < fn := by omega
  have hkI : (k : Int) < (fn : Int) := by omega
  have d0 : decide ((k : Int) < 0) = false := by simp
  have hkM : k ≤ 9223372036854775807 := by omega
  clear hsl hk en
  go_enter Tryz.func124, Tryz.ntmps124
  go_wp2_with fail
  go_ret
  exact ⟨rfl, Below.refl _ _⟩
set_option maxRecDepth 100000 in
theorem callee_ext (m : LMod) (b k : Nat) (hk : k < m.xs.length) (W : World) (hm : ModIn W.heap.size W m) (hb : MB m b W) : Calls Tryz.prog 124 #[.pointer (some ⟨b, 0, none⟩), .int .i64 (-1 - (k : Int))] W (StrV m.xs[k].nm W) := by
  obtain ⟨a, hap, hab, c0, c1, c2⟩ := row_X hm.2.1 k hk
  have hsl : m.xn = m.xs.length := hm.2.1.1
  have hc1 := hm.2.1.2.1
  have hc2 := hm.2.1.2.2.1
  unfold maxLen at hc2
  obtain ⟨nm, en⟩ : ∃ t, m.xs[k].nm = t := ⟨_, rfl⟩
  rw [en] at c0 ⊢
  obtain ⟨-, -, b2, -⟩ := hb
  clear c1 c2 hm
  obtain ⟨vp, vn, vc, vs, xp, xn, xc, xs, fp, fn, fc, fs⟩ := m
  simp only at hap hk hsl hc1 hc2 b2
  subst hap
  have hkl : k < xn := by omega
  have hkI : (k : Int) < (xn : Int) := by omega
  have eN : -1 - (-1 - (k : Int)) = k := by omega
  have d0 : decide (-1 - (k : Int) < 0) = true := by simp; omega
  have hkM : k ≤ 9223372036854775807 := by omega
  clear hsl hk en
  go_enter Tryz.func124, Tryz.ntmps124
  go_wp2_with fail
  go_ret
  exact ⟨rfl, Below.refl _ _⟩
set_option maxRecDepth 100000 in
set_option maxHeartbeats 4000000 in
theorem sOperand_any (m : LMod) (b : Nat) (v : Arg) (W : World) (hT : TabOk W) (hm : ModIn W.heap.size W m) (hb : MB m b W) (hs : ∀ g ∈ m.vs, g.nm.size ≤ 1048576) (hA : argB (modD m) v = true) (hb0 : 0 ≤ v.bits) (hb1 : v.bits < 18446744073709551616) :
    Calls Tryz.prog 123 #[.pointer (some ⟨b, 0, none⟩), .agg (argC v).toArray] W (StrV (mkS (argT m.vs v)) W) := by
  obtain ⟨kd, nn, bt⟩ := v
  have hv := hm.1
  have hbl : Below W.heap.size W (W.alloc (.cells #[.int .i64 kd, .int .i64 nn, .int .u64 bt] 86)) := (Below.refl _ _).alloc (Nat.le_refl _) _
  have hb := hb.later hbl
  have hT := hT.later hbl
  have hA2 : (if kd = 1 then regB nn && decide (bt = 0) else if kd = 2 then decide (nn = 0) else if kd = 3 ∨ kd = 4 then decide (nn = 0 ∧ bt = 0) else if kd = 5 then decide (0 ≤ nn ∧ nn < m.vs.length ∧ bt = 0) else false) = true := hA
  show Calls Tryz.prog 123 #[.pointer (some ⟨b, 0, none⟩), .agg #[.int .i64 kd, .int .i64 nn, .int .u64 bt]] W _
  simp only at hb0 hb1
  clear hA hm
  have HB2 := Lib.hid hbl
  clear hbl
  have hk : kd = 1 ∨ kd = 2 ∨ kd = 3 ∨ kd = 4 ∨ kd = 5 ∨ (kd ≠ 1 ∧ kd ≠ 2 ∧ kd ≠ 3 ∧ kd ≠ 4 ∧ kd ≠ 5) := by omega
  rcases hk with rfl | rfl | rfl | rfl | rfl | ⟨n1, n2, n3, n4, n5⟩
  · have hr : 0 ≤ nn ∧ nn ≤ 4095 := by
      rw [if_pos rfl, Bool.and_eq_true] at hA2
      exact of_decide_eq_true hA2.1
    obtain ⟨k, rfl⟩ : ∃ k : Nat, nn = k := ⟨nn.toNat, by omega⟩
    have c := sRegister_any k (by omega) _ hT
    have e : argT m.vs ⟨1, (k : Int), bt⟩ = regT (k : Int) := rfl
    rw [e]
    obtain ⟨s, es⟩ : ∃ s, mkS (regT (k : Int)) = s := ⟨_, rfl⟩
    rw [es] at c ⊢
    clear es hA2 hs hv hr hb0 hb1 hb hT e
    go_enter Tryz.func123, Tryz.ntmps123
    go_wp2_with fail
    refine c.mono ?_
    rintro e w1 ⟨rfl, hb⟩
    have HB := Lib.hid hb
    clear hb c
    go_wp2_with fail
    go_ret
    exact ⟨rfl, HB2.out.trans (HB.out.mono HB2.out.size)⟩
  · obtain ⟨k, rfl⟩ : ∃ k : Nat, bt = k := ⟨bt.toNat, by omega⟩
    have c := formatUint_any k (by omega) _ hT
    have e : argT m.vs ⟨2, nn, (k : Int)⟩ = Lib.decDigits k := rfl
    rw [e]
    obtain ⟨s, es⟩ : ∃ s, mkS (Lib.decDigits k) = s := ⟨_, rfl⟩
    rw [es] at c ⊢
    clear es hA2 hs hv hb0 hb1 hb hT e
    go_enter Tryz.func123, Tryz.ntmps123
    go_wp2_with fail
    refine c.mono ?_
    rintro e w1 ⟨rfl, hb⟩
    have HB := Lib.hid hb
    clear hb c
    go_wp2_with fail
    go_ret
    exact ⟨rfl, HB2.out.trans (HB.out.mono HB2.out.size)⟩
  · clear hA2 hs hv hb0 hb1 hb hT
    rw [show argT m.vs ⟨3, nn, bt⟩ = [112, 111, 105, 115, 111, 110] from rfl]
    go_enter Tryz.func123, Tryz.ntmps123
    go_wp2_with fail
    go_ret
    exact ⟨rfl, HB2.out⟩
  · clear hA2 hs hv hb0 hb1 hb hT
    rw [show argT m.vs ⟨4, nn, bt⟩ = [110, 117, 108, 108] from rfl]
    go_enter Tryz.func123, Tryz.ntmps123
    go_wp2_with fail
    go_ret
    exact ⟨rfl, HB2.out⟩
  · have hr : 0 ≤ nn ∧ nn < m.vs.length := by
      have h : decide (0 ≤ nn ∧ nn < m.vs.length ∧ bt = 0) = true := hA2
      exact ⟨(of_decide_eq_true h).1, (of_decide_eq_true h).2.1⟩
    obtain ⟨k, rfl⟩ : ∃ k : Nat, nn = k := ⟨nn.toNat, by omega⟩
    obtain ⟨vp, vn, vc, vs, xp, xn, xc, xs, fp, fn, fc, fs⟩ := m
    simp only at hv hs hr
    have hkn : k < vs.length := by omega
    have hvn : vn = vs.length := hv.1
    have hvc : vs.length ≤ 9223372036854775807 := by have h1 := hv.2.1; have h2 := hv.2.2.1; unfold maxLen at h2; omega
    obtain ⟨a, rfl, hab, c0, c1⟩ := row_V hv k hkn
    have hty : mkS (argT vs ⟨5, (k : Int), bt⟩) = mkS [64] ++ vs[k].nm := by
      conv => rhs; rw [← mkS_byt vs[k].nm]
      rw [mkS_app]
      show mkS (64 :: (match vs[(k : Int).toNat]? with | some g => byt g.nm | none => [])) = _
      rw [Int.toNat_natCast, List.getElem?_eq_getElem hkn]
      rfl
    have hl := hs vs[k] (List.getElem_mem hkn)
    rw [hty]
    obtain ⟨g, eg⟩ : ∃ g, vs[k] = g := ⟨_, rfl⟩
    rw [eg] at c0 hl ⊢
    have c0 := (HB2.out.cell (p := a.add (k * 2)) (by rw [add_block]; exact hab)).trans c0
    obtain ⟨nm, sz⟩ := g
    simp only at c0 hl ⊢
    obtain ⟨-, b0, -, -⟩ := hb
    simp only at b0
    have hkl : k < vn := by omega
    have hkI : (k : Int) < (vn : Int) := by omega
    have hvn2 : vn ≤ 9223372036854775807 := by omega
    have hlim : ¬ 9223372036854775807 < 1 + nm.size := by omega
    clear hty hA2 hs hv hr hb0 hb1 eg c1 hT hvn hvc hkn
    go_enter Tryz.func123, Tryz.ntmps123
    go_wp2_with fail
    go_quiet (fail)
    all_goals
      go_wp2_with fail
      go_ret
      exact ⟨rfl, by first | exact HB2.out | exact below_drewN' HB2.out _⟩
  · rw [if_neg n1, if_neg n2, if_neg (by omega), if_neg n5] at hA2
    cases hA2
end Go.Proofs.YtmampoakdjjbiaaGreatDoor
