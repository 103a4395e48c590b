/- Several texts in one: SpKc, SpKe, SpKf, SpKg, SpKga, SpKgb. -/
import Derived.Lib.AppendZerosOnto
import Derived.Lib.SliceRun
import Derived.Laws.AppendOwnNone
import Derived.Test.YtmmlfmplggbmiaaGreatDoorMg14
namespace Go.Proofs.YtmmlfmplggbmiaaGreatDoor
open Go.RowKit Go.Maps
set_option linter.unusedVariables false
set_option linter.unusedSimpArgs false
set_option maxRecDepth 100000 in
set_option maxHeartbeats 2000000 in
theorem flags_0 (W:World):Calls Tryz.prog 135 #[.int .i64 0] W (StrV (mkS (flagsP 0)) W):=by
  obtain ⟨i0,hi,hz0,hz1,hz2⟩:=info_parts infoStr
  have HI:=Lib.hid (And.intro hi (And.intro hz0 (And.intro hz1 hz2)))
  clear hi hz0 hz1 hz2
  have HO0:Hid (OS W W.heap.size (.slice none 0 0) []∧Below W.heap.size W W):=Lib.hid ⟨OS.nil _ _,Below.refl _ _⟩
  go_enter Tryz.func135,Tryz.ntmps135
  have cl:=lay_any _ _ _ HO0.out.1.sl (by decide) (by decide)
  go_wp2_with fail
  refine cl.mono ?_
  rintro e wz ⟨rfl,hb⟩
  have HB:=Lib.hid (HO0.out.2.trans (hb.mono HO0.out.2.size))
  clear hb cl
  go_wp2_with fail
  go_ret
  exact ⟨rfl,HB.out⟩
set_option maxRecDepth 100000 in
set_option maxHeartbeats 2000000 in
theorem flags_1 (W:World):Calls Tryz.prog 135 #[.int .i64 1] W (StrV (mkS (flagsP 1)) W):=by
  obtain ⟨i0,hi,hz0,hz1,hz2⟩:=info_parts infoStr
  have HI:=Lib.hid (And.intro hi (And.intro hz0 (And.intro hz1 hz2)))
  clear hi hz0 hz1 hz2
  have HO0:Hid (OS W W.heap.size (.slice none 0 0) []∧Below W.heap.size W W):=Lib.hid ⟨OS.nil _ _,Below.refl _ _⟩
  go_enter Tryz.func135,Tryz.ntmps135
  go_wp2_with (at_builtin;refine wpList_append_own _ rfl _ _ 93 rfl W.heap.size 9 i0 (.string ⟨#[]⟩) 1 16 Tryz.underlying93 HI.out.1 HI.out.2.1 HI.out.2.2.1 HI.out.2.2.2 rfl (by decide) _ _ _ rfl (HO0.out.1.alloc _) ⟨W.heap.size,0,none⟩ 1 1 [.string ⟨#[110,115,119]⟩] rfl rfl ?c1 ?c2 ?c3 ?c4 ?c5 ?_)
  case c1 =>
    intro j u hj
    match j,hj with
    | 0,hj=>simp at hj;subst hj;simp [Addr.add]
  case c2=>intro u hu;simp at hu;subst hu;rfl
  case c3=>decide
  case c4=>decide
  case c5=>have:=HO0.out.2.size;simp;try omega
  intro v1 w1 hown' hgrow _
  have HO1:Hid (OS w1 W.heap.size v1 [⟨#[110,115,119]⟩]∧Below W.heap.size W w1):=Lib.hid ⟨hown',(HO0.out.2.alloc HO0.out.2.size _).grown hgrow (by have:=HO0.out.2.size;simp;try omega) (fun k hk=>(HO0.out.1.lt k hk).1)⟩
  clear hown' hgrow
  have cl:=lay_any _ _ _ HO1.out.1.sl (by decide) (by decide)
  go_wp2_with fail
  refine cl.mono ?_
  rintro e wz ⟨rfl,hb⟩
  have HB:=Lib.hid (HO1.out.2.trans (hb.mono HO1.out.2.size))
  clear hb cl
  go_wp2_with fail
  go_ret
  exact ⟨rfl,HB.out⟩
set_option maxRecDepth 100000 in
set_option maxHeartbeats 2000000 in
theorem flags_2 (W:World):Calls Tryz.prog 135 #[.int .i64 2] W (StrV (mkS (flagsP 2)) W):=by
  obtain ⟨i0,hi,hz0,hz1,hz2⟩:=info_parts infoStr
  have HI:=Lib.hid (And.intro hi (And.intro hz0 (And.intro hz1 hz2)))
  clear hi hz0 hz1 hz2
  have HO0:Hid (OS W W.heap.size (.slice none 0 0) []∧Below W.heap.size W W):=Lib.hid ⟨OS.nil _ _,Below.refl _ _⟩
  go_enter Tryz.func135,Tryz.ntmps135
  go_wp2_with (at_builtin;refine wpList_append_own _ rfl _ _ 93 rfl W.heap.size 9 i0 (.string ⟨#[]⟩) 1 16 Tryz.underlying93 HI.out.1 HI.out.2.1 HI.out.2.2.1 HI.out.2.2.2 rfl (by decide) _ _ _ rfl (HO0.out.1.alloc _) ⟨W.heap.size,0,none⟩ 1 1 [.string ⟨#[110,117,119]⟩] rfl rfl ?c1 ?c2 ?c3 ?c4 ?c5 ?_)
  case c1 =>
    intro j u hj
    match j,hj with
    | 0,hj=>simp at hj;subst hj;simp [Addr.add]
  case c2=>intro u hu;simp at hu;subst hu;rfl
  case c3=>decide
  case c4=>decide
  case c5=>have:=HO0.out.2.size;simp;try omega
  intro v1 w1 hown' hgrow _
  have HO1:Hid (OS w1 W.heap.size v1 [⟨#[110,117,119]⟩]∧Below W.heap.size W w1):=Lib.hid ⟨hown',(HO0.out.2.alloc HO0.out.2.size _).grown hgrow (by have:=HO0.out.2.size;simp;try omega) (fun k hk=>(HO0.out.1.lt k hk).1)⟩
  clear hown' hgrow
  have cl:=lay_any _ _ _ HO1.out.1.sl (by decide) (by decide)
  go_wp2_with fail
  refine cl.mono ?_
  rintro e wz ⟨rfl,hb⟩
  have HB:=Lib.hid (HO1.out.2.trans (hb.mono HO1.out.2.size))
  clear hb cl
  go_wp2_with fail
  go_ret
  exact ⟨rfl,HB.out⟩
set_option maxRecDepth 100000 in
set_option maxHeartbeats 2000000 in
theorem flags_3 (W:World):Calls Tryz.prog 135 #[.int .i64 3] W (StrV (mkS (flagsP 3)) W):=by
  obtain ⟨i0,hi,hz0,hz1,hz2⟩:=info_parts infoStr
  have HI:=Lib.hid (And.intro hi (And.intro hz0 (And.intro hz1 hz2)))
  clear hi hz0 hz1 hz2
  have HO0:Hid (OS W W.heap.size (.slice none 0 0) []∧Below W.heap.size W W):=Lib.hid ⟨OS.nil _ _,Below.refl _ _⟩
  go_enter Tryz.func135,Tryz.ntmps135
  go_wp2_with (at_builtin;refine wpList_append_own _ rfl _ _ 93 rfl W.heap.size 9 i0 (.string ⟨#[]⟩) 1 16 Tryz.underlying93 HI.out.1 HI.out.2.1 HI.out.2.2.1 HI.out.2.2.2 rfl (by decide) _ _ _ rfl (HO0.out.1.alloc _) ⟨W.heap.size,0,none⟩ 1 1 [.string ⟨#[110,115,119]⟩] rfl rfl ?c1 ?c2 ?c3 ?c4 ?c5 ?_)
  case c1 =>
    intro j u hj
    match j,hj with
    | 0,hj=>simp at hj;subst hj;simp [Addr.add]
  case c2=>intro u hu;simp at hu;subst hu;rfl
  case c3=>decide
  case c4=>decide
  case c5=>have:=HO0.out.2.size;simp;try omega
  intro v1 w1 hown' hgrow _
  have HO1:Hid (OS w1 W.heap.size v1 [⟨#[110,115,119]⟩]∧Below W.heap.size W w1):=Lib.hid ⟨hown',(HO0.out.2.alloc HO0.out.2.size _).grown hgrow (by have:=HO0.out.2.size;simp;try omega) (fun k hk=>(HO0.out.1.lt k hk).1)⟩
  clear hown' hgrow
  go_wp2_with (at_builtin;refine wpList_append_own _ rfl _ _ 93 rfl W.heap.size 9 i0 (.string ⟨#[]⟩) 1 16 Tryz.underlying93 HI.out.1 HI.out.2.1 HI.out.2.2.1 HI.out.2.2.2 rfl (by decide) _ _ _ rfl (HO1.out.1.alloc _) ⟨w1.heap.size,0,none⟩ 1 1 [.string ⟨#[110,117,119]⟩] rfl rfl ?c1 ?c2 ?c3 ?c4 ?c5 ?_)
  case c1 =>
    intro j u hj
    match j,hj with
    | 0,hj=>simp at hj;subst hj;simp [Addr.add]
  case c2=>intro u hu;simp at hu;subst hu;rfl
  case c3=>decide
  case c4=>decide
  case c5=>have:=HO1.out.2.size;simp;try omega
  intro v2 w2 hown' hgrow _
  have HO2:Hid (OS w2 W.heap.size v2 [⟨#[110,115,119]⟩,⟨#[110,117,119]⟩]∧Below W.heap.size W w2):=Lib.hid ⟨hown',(HO1.out.2.alloc HO1.out.2.size _).grown hgrow (by have:=HO1.out.2.size;simp;try omega) (fun k hk=>(HO1.out.1.lt k hk).1)⟩
  clear hown' hgrow
  have cl:=lay_any _ _ _ HO2.out.1.sl (by decide) (by decide)
  go_wp2_with fail
  refine cl.mono ?_
  rintro e wz ⟨rfl,hb⟩
  have HB:=Lib.hid (HO2.out.2.trans (hb.mono HO2.out.2.size))
  clear hb cl
  go_wp2_with fail
  go_ret
  exact ⟨rfl,HB.out⟩
set_option maxRecDepth 100000 in
set_option maxHeartbeats 2000000 in
theorem flags_4 (W:World):Calls Tryz.prog 135 #[.int .i64 4] W (StrV (mkS (flagsP 4)) W):=by
  obtain ⟨i0,hi,hz0,hz1,hz2⟩:=info_parts infoStr
  have HI:=Lib.hid (And.intro hi (And.intro hz0 (And.intro hz1 hz2)))
  clear hi hz0 hz1 hz2
  have HO0:Hid (OS W W.heap.size (.slice none 0 0) []∧Below W.heap.size W W):=Lib.hid ⟨OS.nil _ _,Below.refl _ _⟩
  go_enter Tryz.func135,Tryz.ntmps135
  go_wp2_with (at_builtin;refine wpList_append_own _ rfl _ _ 93 rfl W.heap.size 9 i0 (.string ⟨#[]⟩) 1 16 Tryz.underlying93 HI.out.1 HI.out.2.1 HI.out.2.2.1 HI.out.2.2.2 rfl (by decide) _ _ _ rfl (HO0.out.1.alloc _) ⟨W.heap.size,0,none⟩ 1 1 [.string ⟨#[101,120,97,99,116]⟩] rfl rfl ?c1 ?c2 ?c3 ?c4 ?c5 ?_)
  case c1 =>
    intro j u hj
    match j,hj with
    | 0,hj=>simp at hj;subst hj;simp [Addr.add]
  case c2=>intro u hu;simp at hu;subst hu;rfl
  case c3=>decide
  case c4=>decide
  case c5=>have:=HO0.out.2.size;simp;try omega
  intro v1 w1 hown' hgrow _
  have HO1:Hid (OS w1 W.heap.size v1 [⟨#[101,120,97,99,116]⟩]∧Below W.heap.size W w1):=Lib.hid ⟨hown',(HO0.out.2.alloc HO0.out.2.size _).grown hgrow (by have:=HO0.out.2.size;simp;try omega) (fun k hk=>(HO0.out.1.lt k hk).1)⟩
  clear hown' hgrow
  have cl:=lay_any _ _ _ HO1.out.1.sl (by decide) (by decide)
  go_wp2_with fail
  refine cl.mono ?_
  rintro e wz ⟨rfl,hb⟩
  have HB:=Lib.hid (HO1.out.2.trans (hb.mono HO1.out.2.size))
  clear hb cl
  go_wp2_with fail
  go_ret
  exact ⟨rfl,HB.out⟩
set_option maxRecDepth 100000 in
set_option maxHeartbeats 2000000 in
theorem flags_5 (W:World):Calls Tryz.prog 135 #[.int .i64 5] W (StrV (mkS (flagsP 5)) W):=by
  obtain ⟨i0,hi,hz0,hz1,hz2⟩:=info_parts infoStr
  have HI:=Lib.hid (And.intro hi (And.intro hz0 (And.intro hz1 hz2)))
  clear hi hz0 hz1 hz2
  have HO0:Hid (OS W W.heap.size (.slice none 0 0) []∧Below W.heap.size W W):=Lib.hid ⟨OS.nil _ _,Below.refl _ _⟩
  go_enter Tryz.func135,Tryz.ntmps135
  go_wp2_with (at_builtin;refine wpList_append_own _ rfl _ _ 93 rfl W.heap.size 9 i0 (.string ⟨#[]⟩) 1 16 Tryz.underlying93 HI.out.1 HI.out.2.1 HI.out.2.2.1 HI.out.2.2.2 rfl (by decide) _ _ _ rfl (HO0.out.1.alloc _) ⟨W.heap.size,0,none⟩ 1 1 [.string ⟨#[110,115,119]⟩] rfl rfl ?c1 ?c2 ?c3 ?c4 ?c5 ?_)
  case c1 =>
    intro j u hj
    match j,hj with
    | 0,hj=>simp at hj;subst hj;simp [Addr.add]
  case c2=>intro u hu;simp at hu;subst hu;rfl
  case c3=>decide
  case c4=>decide
  case c5=>have:=HO0.out.2.size;simp;try omega
  intro v1 w1 hown' hgrow _
  have HO1:Hid (OS w1 W.heap.size v1 [⟨#[110,115,119]⟩]∧Below W.heap.size W w1):=Lib.hid ⟨hown',(HO0.out.2.alloc HO0.out.2.size _).grown hgrow (by have:=HO0.out.2.size;simp;try omega) (fun k hk=>(HO0.out.1.lt k hk).1)⟩
  clear hown' hgrow
  go_wp2_with (at_builtin;refine wpList_append_own _ rfl _ _ 93 rfl W.heap.size 9 i0 (.string ⟨#[]⟩) 1 16 Tryz.underlying93 HI.out.1 HI.out.2.1 HI.out.2.2.1 HI.out.2.2.2 rfl (by decide) _ _ _ rfl (HO1.out.1.alloc _) ⟨w1.heap.size,0,none⟩ 1 1 [.string ⟨#[101,120,97,99,116]⟩] rfl rfl ?c1 ?c2 ?c3 ?c4 ?c5 ?_)
  case c1 =>
    intro j u hj
    match j,hj with
    | 0,hj=>simp at hj;subst hj;simp [Addr.add]
  case c2=>intro u hu;simp at hu;subst hu;rfl
  case c3=>decide
  case c4=>decide
  case c5=>have:=HO1.out.2.size;simp;try omega
  intro v2 w2 hown' hgrow _
  have HO2:Hid (OS w2 W.heap.size v2 [⟨#[110,115,119]⟩,⟨#[101,120,97,99,116]⟩]∧Below W.heap.size W w2):=Lib.hid ⟨hown',(HO1.out.2.alloc HO1.out.2.size _).grown hgrow (by have:=HO1.out.2.size;simp;try omega) (fun k hk=>(HO1.out.1.lt k hk).1)⟩
  clear hown' hgrow
  have cl:=lay_any _ _ _ HO2.out.1.sl (by decide) (by decide)
  go_wp2_with fail
  refine cl.mono ?_
  rintro e wz ⟨rfl,hb⟩
  have HB:=Lib.hid (HO2.out.2.trans (hb.mono HO2.out.2.size))
  clear hb cl
  go_wp2_with fail
  go_ret
  exact ⟨rfl,HB.out⟩
set_option maxRecDepth 100000 in
set_option maxHeartbeats 2000000 in
theorem flags_6 (W:World):Calls Tryz.prog 135 #[.int .i64 6] W (StrV (mkS (flagsP 6)) W):=by
  obtain ⟨i0,hi,hz0,hz1,hz2⟩:=info_parts infoStr
  have HI:=Lib.hid (And.intro hi (And.intro hz0 (And.intro hz1 hz2)))
  clear hi hz0 hz1 hz2
  have HO0:Hid (OS W W.heap.size (.slice none 0 0) []∧Below W.heap.size W W):=Lib.hid ⟨OS.nil _ _,Below.refl _ _⟩
  go_enter Tryz.func135,Tryz.ntmps135
  go_wp2_with (at_builtin;refine wpList_append_own _ rfl _ _ 93 rfl W.heap.size 9 i0 (.string ⟨#[]⟩) 1 16 Tryz.underlying93 HI.out.1 HI.out.2.1 HI.out.2.2.1 HI.out.2.2.2 rfl (by decide) _ _ _ rfl (HO0.out.1.alloc _) ⟨W.heap.size,0,none⟩ 1 1 [.string ⟨#[110,117,119]⟩] rfl rfl ?c1 ?c2 ?c3 ?c4 ?c5 ?_)
  case c1 =>
    intro j u hj
    match j,hj with
    | 0,hj=>simp at hj;subst hj;simp [Addr.add]
  case c2=>intro u hu;simp at hu;subst hu;rfl
  case c3=>decide
  case c4=>decide
  case c5=>have:=HO0.out.2.size;simp;try omega
  intro v1 w1 hown' hgrow _
  have HO1:Hid (OS w1 W.heap.size v1 [⟨#[110,117,119]⟩]∧Below W.heap.size W w1):=Lib.hid ⟨hown',(HO0.out.2.alloc HO0.out.2.size _).grown hgrow (by have:=HO0.out.2.size;simp;try omega) (fun k hk=>(HO0.out.1.lt k hk).1)⟩
  clear hown' hgrow
  go_wp2_with (at_builtin;refine wpList_append_own _ rfl _ _ 93 rfl W.heap.size 9 i0 (.string ⟨#[]⟩) 1 16 Tryz.underlying93 HI.out.1 HI.out.2.1 HI.out.2.2.1 HI.out.2.2.2 rfl (by decide) _ _ _ rfl (HO1.out.1.alloc _) ⟨w1.heap.size,0,none⟩ 1 1 [.string ⟨#[101,120,97,99,116]⟩] rfl rfl ?c1 ?c2 ?c3 ?c4 ?c5 ?_)
  case c1 =>
    intro j u hj
    match j,hj with
    | 0,hj=>simp at hj;subst hj;simp [Addr.add]
  case c2=>intro u hu;simp at hu;subst hu;rfl
  case c3=>decide
  case c4=>decide
  case c5=>have:=HO1.out.2.size;simp;try omega
  intro v2 w2 hown' hgrow _
  have HO2:Hid (OS w2 W.heap.size v2 [⟨#[110,117,119]⟩,⟨#[101,120,97,99,116]⟩]∧Below W.heap.size W w2):=Lib.hid ⟨hown',(HO1.out.2.alloc HO1.out.2.size _).grown hgrow (by have:=HO1.out.2.size;simp;try omega) (fun k hk=>(HO1.out.1.lt k hk).1)⟩
  clear hown' hgrow
  have cl:=lay_any _ _ _ HO2.out.1.sl (by decide) (by decide)
  go_wp2_with fail
  refine cl.mono ?_
  rintro e wz ⟨rfl,hb⟩
  have HB:=Lib.hid (HO2.out.2.trans (hb.mono HO2.out.2.size))
  clear hb cl
  go_wp2_with fail
  go_ret
  exact ⟨rfl,HB.out⟩
set_option maxRecDepth 100000 in
set_option maxHeartbeats 2000000 in
theorem flags_7 (W:World):Calls Tryz.prog 135 #[.int .i64 7] W (StrV (mkS (flagsP 7)) W):=by
  obtain ⟨i0,hi,hz0,hz1,hz2⟩:=info_parts infoStr
  have HI:=Lib.hid (And.intro hi (And.intro hz0 (And.intro hz1 hz2)))
  clear hi hz0 hz1 hz2
  have HO0:Hid (OS W W.heap.size (.slice none 0 0) []∧Below W.heap.size W W):=Lib.hid ⟨OS.nil _ _,Below.refl _ _⟩
  go_enter Tryz.func135,Tryz.ntmps135
  go_wp2_with (at_builtin;refine wpList_append_own _ rfl _ _ 93 rfl W.heap.size 9 i0 (.string ⟨#[]⟩) 1 16 Tryz.underlying93 HI.out.1 HI.out.2.1 HI.out.2.2.1 HI.out.2.2.2 rfl (by decide) _ _ _ rfl (HO0.out.1.alloc _) ⟨W.heap.size,0,none⟩ 1 1 [.string ⟨#[110,115,119]⟩] rfl rfl ?c1 ?c2 ?c3 ?c4 ?c5 ?_)
  case c1 =>
    intro j u hj
    match j,hj with
    | 0,hj=>simp at hj;subst hj;simp [Addr.add]
  case c2=>intro u hu;simp at hu;subst hu;rfl
  case c3=>decide
  case c4=>decide
  case c5=>have:=HO0.out.2.size;simp;try omega
  intro v1 w1 hown' hgrow _
  have HO1:Hid (OS w1 W.heap.size v1 [⟨#[110,115,119]⟩]∧Below W.heap.size W w1):=Lib.hid ⟨hown',(HO0.out.2.alloc HO0.out.2.size _).grown hgrow (by have:=HO0.out.2.size;simp;try omega) (fun k hk=>(HO0.out.1.lt k hk).1)⟩
  clear hown' hgrow
  go_wp2_with (at_builtin;refine wpList_append_own _ rfl _ _ 93 rfl W.heap.size 9 i0 (.string ⟨#[]⟩) 1 16 Tryz.underlying93 HI.out.1 HI.out.2.1 HI.out.2.2.1 HI.out.2.2.2 rfl (by decide) _ _ _ rfl (HO1.out.1.alloc _) ⟨w1.heap.size,0,none⟩ 1 1 [.string ⟨#[110,117,119]⟩] rfl rfl ?c1 ?c2 ?c3 ?c4 ?c5 ?_)
  case c1 =>
    intro j u hj
    match j,hj with
    | 0,hj=>simp at hj;subst hj;simp [Addr.add]
  case c2=>intro u hu;simp at hu;subst hu;rfl
  case c3=>decide
  case c4=>decide
  case c5=>have:=HO1.out.2.size;simp;try omega
  intro v2 w2 hown' hgrow _
  have HO2:Hid (OS w2 W.heap.size v2 [⟨#[110,115,119]⟩,⟨#[110,117,119]⟩]∧Below W.heap.size W w2):=Lib.hid ⟨hown',(HO1.out.2.alloc HO1.out.2.size _).grown hgrow (by have:=HO1.out.2.size;simp;try omega) (fun k hk=>(HO1.out.1.lt k hk).1)⟩
  clear hown' hgrow
  go_wp2_with (at_builtin;refine wpList_append_own _ rfl _ _ 93 rfl W.heap.size 9 i0 (.string ⟨#[]⟩) 1 16 Tryz.underlying93 HI.out.1 HI.out.2.1 HI.out.2.2.1 HI.out.2.2.2 rfl (by decide) _ _ _ rfl (HO2.out.1.alloc _) ⟨w2.heap.size,0,none⟩ 1 1 [.string ⟨#[101,120,97,99,116]⟩] rfl rfl ?c1 ?c2 ?c3 ?c4 ?c5 ?_)
  case c1 =>
    intro j u hj
    match j,hj with
    | 0,hj=>simp at hj;subst hj;simp [Addr.add]
  case c2=>intro u hu;simp at hu;subst hu;rfl
  case c3=>decide
  case c4=>decide
  case c5=>have:=HO2.out.2.size;simp;try omega
  intro v3 w3 hown' hgrow _
  have HO3:Hid (OS w3 W.heap.size v3 [⟨#[110,115,119]⟩,⟨#[110,117,119]⟩,⟨#[101,120,97,99,116]⟩]∧Below W.heap.size W w3):=Lib.hid ⟨hown',(HO2.out.2.alloc HO2.out.2.size _).grown hgrow (by have:=HO2.out.2.size;simp;try omega) (fun k hk=>(HO2.out.1.lt k hk).1)⟩
  clear hown' hgrow
  have cl:=lay_any _ _ _ HO3.out.1.sl (by decide) (by decide)
  go_wp2_with fail
  refine cl.mono ?_
  rintro e wz ⟨rfl,hb⟩
  have HB:=Lib.hid (HO3.out.2.trans (hb.mono HO3.out.2.size))
  clear hb cl
  go_wp2_with fail
  go_ret
  exact ⟨rfl,HB.out⟩
theorem sFlags_any (fl:Int) (h:0≤fl∧fl≤7) (W:World):Calls Tryz.prog 135 #[.int .i64 fl] W (StrV (mkS (flagsP fl)) W):=by
  obtain rfl | rfl | rfl | rfl | rfl | rfl | rfl | rfl:fl=0∨fl=1∨fl=2∨fl=3∨fl=4∨fl=5∨fl=6∨fl=7:=by omega
  · exact flags_0 W
  · exact flags_1 W
  · exact flags_2 W
  · exact flags_3 W
  · exact flags_4 W
  · exact flags_5 W
  · exact flags_6 W
  · exact flags_7 W
def hdT (nm:ByteArray) (ps:List Int):Tx:=byt nm++40::(listT (ps.map typeT)++[41])
set_option maxRecDepth 100000 in
set_option maxHeartbeats 2000000 in
theorem sHead_any (nm:ByteArray) (pp:Option Addr) (pn pc:Nat) (ps:List Int) (hs:nm.size≤1048576) (hl:ps.length≤1048576) (W:World) (hT:TabOk W) (h:ListIn intC NoMem W.heap.size W pp pn pc ps) :
    Calls Tryz.prog 14 #[.string nm,.slice pp pn pc] W (StrV (mkS (hdT nm ps)) W):=by
  have c1:Calls Tryz.prog 44 #[.slice pp pn pc,.func (.func 11) #[] #[]] W (OwnS (ps.map fun x=>mkS (typeT x)) W) :=
    spellEach_I typeT pp pn pc ps W h hl 11 #[] (fun _ _=>rfl) (fun i hi w hb=>sType_any ps[i] w (hT.later hb))
  have hlp:=listP_len ps
  have hmm:(ps.map fun x=>mkS (typeT x)).map byt=ps.map typeT:=by rw [List.map_map];exact List.map_congr_left fun x _=>byt_mkS _
  have c2:=fun v w (hS:SL w v (ps.map fun x=>mkS (typeT x)))=>list_any v _ w hS (by rw [List.length_map];omega) (by rw [hmm];omega)
  rw [hmm] at c2
  have hz:(mkS (listT (ps.map typeT))).size≤24117248:=by rw [size_mkS];omega
  have HF:Hid (nm++⟨#[40]⟩++mkS (listT (ps.map typeT))++⟨#[41]⟩=mkS (hdT nm ps)):=Lib.hid (by
    rw [show (⟨#[40]⟩:ByteArray)=mkS [40] from rfl,show (⟨#[41]⟩:ByteArray)=mkS [41] from rfl]
    conv=>lhs;rw [← mkS_byt nm]
    rw [mkS_app,mkS_app,mkS_app]
    congr 1
    unfold hdT
    simp)
  obtain ⟨s,es⟩:∃ s,mkS (listT (ps.map typeT))=s:=⟨_,rfl⟩
  obtain ⟨T,eT⟩:∃ T,mkS (hdT nm ps)=T:=⟨_,rfl⟩
  rw [eT] at HF ⊢
  rw [es] at hz HF
  simp only [es] at c2
  have C2:=Lib.hid c2
  clear c2 es eT hmm hlp hT h hl
  go_enter Tryz.func14,Tryz.ntmps14
  go_wp2_with fail
  refine c1.mono ?_
  rintro e w1 ⟨v,rfl,hO,hb⟩
  have HB:=Lib.hid hb
  have c2:=C2.out v w1 hO.sl
  clear hO hb c1
  go_wp2_with fail
  refine c2.mono ?_
  rintro e w2 ⟨rfl,hb⟩
  have HB2:=Lib.hid (HB.out.trans (hb.mono HB.out.size))
  clear hb c2
  go_wp2_with fail
  go_ret
  exact ⟨by rw [← HF.out];rfl,HB2.out⟩
def MB (m:LMod) (b:Nat) (w:World):Prop:=b<w.heap.size∧w.cell? ⟨b,0,none⟩=some (.slice m.vp m.vn m.vc)∧w.cell? ⟨b,1,none⟩=some (.slice m.xp m.xn m.xc)∧w.cell? ⟨b,2,none⟩=some (.slice m.fp m.fn m.fc)
theorem MB.later {m:LMod} {b:Nat} {w w':World} (h:MB m b w) (hb:Below w.heap.size w w'):MB m b w' :=
  ⟨Nat.lt_of_lt_of_le h.1 hb.size,(hb.cell (p:=⟨b,0,none⟩) h.1).trans h.2.1,(hb.cell (p:=⟨b,1,none⟩) h.1).trans h.2.2.1,(hb.cell (p:=⟨b,2,none⟩) h.1).trans h.2.2.2⟩
theorem Bld.mb {m:LMod} {T:TypeId} {B b:Nat} {l:Tx} {w:World} (h:Bld T (modC m) B b l w):MB m b w:=by
  have hlt:=h.lt
  obtain ⟨hB,p,v,hb,-⟩:=h
  exact ⟨hlt,by rw [Lib.cell_of_heap hb];rfl,by rw [Lib.cell_of_heap hb];rfl,by rw [Lib.cell_of_heap hb];rfl⟩
set_option maxRecDepth 100000 in
theorem callee_fn (m:LMod) (b k:Nat) (hk:k<m.fs.length) (W:World) (hm:ModIn W.heap.size W m) (hb:MB m b W):Calls Tryz.prog 133 #[.pointer (some ⟨b,0,none⟩),.int .i64 (k:Int)] W (StrV m.fs[k].nm W):=by
  obtain ⟨a,hap,hab,c0,c1,c2,c3⟩:=row_F hm.2.2 k hk
  have hsl:m.fn=m.fs.length:=hm.2.2.1
  have hc1:=hm.2.2.2.1
  have hc2:=hm.2.2.2.2.1
  unfold maxLen at hc2
  obtain ⟨nm,en⟩:∃ t,m.fs[k].nm=t:=⟨_,rfl⟩
  rw [en] at c0 ⊢
  obtain ⟨-,-,-,b2⟩:=hb
  clear c1 c2 c3 hm
  obtain ⟨vp,vn,vc,vs,xp,xn,xc,xs,fp,fn,fc,fs⟩:=m
  simp only at hap hk hsl hc1 hc2 b2
  subst hap
  have hkl:k<fn:=by omega
  have hkI:(k:Int)<(fn:Int):=by omega
  have d0:decide ((k:Int)<0)=false:=by simp
  have hkM:k≤9223372036854775807:=by omega
  clear hsl hk en
  go_enter Tryz.func133,Tryz.ntmps133
  go_wp2_with fail
  go_ret
  exact ⟨rfl,Below.refl _ _⟩
set_option maxRecDepth 100000 in
theorem callee_ext (m:LMod) (b k:Nat) (hk:k<m.xs.length) (W:World) (hm:ModIn W.heap.size W m) (hb:MB m b W):Calls Tryz.prog 133 #[.pointer (some ⟨b,0,none⟩),.int .i64 (-1 - (k:Int))] W (StrV m.xs[k].nm W):=by
  obtain ⟨a,hap,hab,c0,c1,c2⟩:=row_X hm.2.1 k hk
  have hsl:m.xn=m.xs.length:=hm.2.1.1
  have hc1:=hm.2.1.2.1
  have hc2:=hm.2.1.2.2.1
  unfold maxLen at hc2
  obtain ⟨nm,en⟩:∃ t,m.xs[k].nm=t:=⟨_,rfl⟩
  rw [en] at c0 ⊢
  obtain ⟨-,-,b2,-⟩:=hb
  clear c1 c2 hm
  obtain ⟨vp,vn,vc,vs,xp,xn,xc,xs,fp,fn,fc,fs⟩:=m
  simp only at hap hk hsl hc1 hc2 b2
  subst hap
  have hkl:k<xn:=by omega
  have hkI:(k:Int)<(xn:Int):=by omega
  have eN:-1 - (-1 - (k:Int))=k:=by omega
  have d0:decide (-1 - (k:Int)<0)=true:=by simp;omega
  have hkM:k≤9223372036854775807:=by omega
  clear hsl hk en
  go_enter Tryz.func133,Tryz.ntmps133
  go_wp2_with fail
  go_ret
  exact ⟨rfl,Below.refl _ _⟩
set_option maxRecDepth 100000 in
set_option maxHeartbeats 4000000 in
theorem sOperand_any (m:LMod) (b:Nat) (v:Arg) (W:World) (hT:TabOk W) (hm:ModIn W.heap.size W m) (hb:MB m b W) (hs:∀ g∈m.vs,g.nm.size≤1048576) (hA:argB (modD m) v=true) (hb0:0≤v.bits) (hb1:v.bits<18446744073709551616) :
    Calls Tryz.prog 132 #[.pointer (some ⟨b,0,none⟩),.agg (argC v).toArray] W (StrV (mkS (argT m.vs v)) W):=by
  obtain ⟨kd,nn,bt⟩:=v
  have hv:=hm.1
  have hbl:Below W.heap.size W (W.alloc (.cells #[.int .i64 kd,.int .i64 nn,.int .u64 bt] 107)):=(Below.refl _ _).alloc (Nat.le_refl _) _
  have hb:=hb.later hbl
  have hT:=hT.later hbl
  have hA2:(if kd=1 then regB nn&&decide (bt=0) else if kd=2 then decide (nn=0) else if kd=3∨kd=4 then decide (nn=0∧bt=0) else if kd=5 then decide (0≤nn∧nn<m.vs.length∧bt=0) else false)=true:=hA
  show Calls Tryz.prog 132 #[.pointer (some ⟨b,0,none⟩),.agg #[.int .i64 kd,.int .i64 nn,.int .u64 bt]] W _
  simp only at hb0 hb1
  clear hA hm
  have HB2:=Lib.hid hbl
  clear hbl
  have hk:kd=1∨kd=2∨kd=3∨kd=4∨kd=5∨(kd≠1∧kd≠2∧kd≠3∧kd≠4∧kd≠5):=by omega
  rcases hk with rfl | rfl | rfl | rfl | rfl | ⟨n1,n2,n3,n4,n5⟩
  · have hr:0≤nn∧nn≤4095:=by
      rw [if_pos rfl,Bool.and_eq_true] at hA2
      exact of_decide_eq_true hA2.1
    obtain ⟨k,rfl⟩:∃ k:Nat,nn=k:=⟨nn.toNat,by omega⟩
    have c:=sRegister_any k (by omega) _ hT
    have e:argT m.vs ⟨1,(k:Int),bt⟩=regT (k:Int):=rfl
    rw [e]
    obtain ⟨s,es⟩:∃ s,mkS (regT (k:Int))=s:=⟨_,rfl⟩
    rw [es] at c ⊢
    clear es hA2 hs hv hr hb0 hb1 hb hT e
    go_enter Tryz.func132,Tryz.ntmps132
    go_wp2_with fail
    refine c.mono ?_
    rintro e w1 ⟨rfl,hb⟩
    have HB:=Lib.hid hb
    clear hb c
    go_wp2_with fail
    go_ret
    exact ⟨rfl,HB2.out.trans (HB.out.mono HB2.out.size)⟩
  · obtain ⟨k,rfl⟩:∃ k:Nat,bt=k:=⟨bt.toNat,by omega⟩
    have c:=formatUint_any k (by omega) _ hT
    have e:argT m.vs ⟨2,nn,(k:Int)⟩=Lib.decDigits k:=rfl
    rw [e]
    obtain ⟨s,es⟩:∃ s,mkS (Lib.decDigits k)=s:=⟨_,rfl⟩
    rw [es] at c ⊢
    clear es hA2 hs hv hb0 hb1 hb hT e
    go_enter Tryz.func132,Tryz.ntmps132
    go_wp2_with fail
    refine c.mono ?_
    rintro e w1 ⟨rfl,hb⟩
    have HB:=Lib.hid hb
    clear hb c
    go_wp2_with fail
    go_ret
    exact ⟨rfl,HB2.out.trans (HB.out.mono HB2.out.size)⟩
  · clear hA2 hs hv hb0 hb1 hb hT
    rw [show argT m.vs ⟨3,nn,bt⟩=[112,111,105,115,111,110] from rfl]
    go_enter Tryz.func132,Tryz.ntmps132
    go_wp2_with fail
    go_ret
    exact ⟨rfl,HB2.out⟩
  · clear hA2 hs hv hb0 hb1 hb hT
    rw [show argT m.vs ⟨4,nn,bt⟩=[110,117,108,108] from rfl]
    go_enter Tryz.func132,Tryz.ntmps132
    go_wp2_with fail
    go_ret
    exact ⟨rfl,HB2.out⟩
  · have hr:0≤nn∧nn<m.vs.length:=by
      have h:decide (0≤nn∧nn<m.vs.length∧bt=0)=true:=hA2
      exact ⟨(of_decide_eq_true h).1,(of_decide_eq_true h).2.1⟩
    obtain ⟨k,rfl⟩:∃ k:Nat,nn=k:=⟨nn.toNat,by omega⟩
    obtain ⟨vp,vn,vc,vs,xp,xn,xc,xs,fp,fn,fc,fs⟩:=m
    simp only at hv hs hr
    have hkn:k<vs.length:=by omega
    have hvn:vn=vs.length:=hv.1
    have hvc:vs.length≤9223372036854775807:=by have h1:=hv.2.1;have h2:=hv.2.2.1;unfold maxLen at h2;omega
    obtain ⟨a,rfl,hab,c0,c1⟩:=row_V hv k hkn
    have hty:mkS (argT vs ⟨5,(k:Int),bt⟩)=mkS [64]++vs[k].nm:=by
      conv=>rhs;rw [← mkS_byt vs[k].nm]
      rw [mkS_app]
      show mkS (64::(match vs[(k:Int).toNat]? with | some g=>byt g.nm | none=>[]))=_
      rw [Int.toNat_natCast,List.getElem?_eq_getElem hkn]
      rfl
    have hl:=hs vs[k] (List.getElem_mem hkn)
    rw [hty]
    obtain ⟨g,eg⟩:∃ g,vs[k]=g:=⟨_,rfl⟩
    rw [eg] at c0 hl ⊢
    have c0:=(HB2.out.cell (p:=a.add (k * 2)) (by rw [add_block];exact hab)).trans c0
    obtain ⟨nm,sz⟩:=g
    simp only at c0 hl ⊢
    obtain ⟨-,b0,-,-⟩:=hb
    simp only at b0
    have hkl:k<vn:=by omega
    have hkI:(k:Int)<(vn:Int):=by omega
    have hvn2:vn≤9223372036854775807:=by omega
    have hlim:¬ 9223372036854775807<1+nm.size:=by omega
    clear hty hA2 hs hv hr hb0 hb1 eg c1 hT hvn hvc hkn
    go_enter Tryz.func132,Tryz.ntmps132
    go_wp2_with fail
    go_quiet (fail)
    all_goals
      go_wp2_with fail
      go_ret
      exact ⟨rfl,by first | exact HB2.out | exact below_drewN' HB2.out _⟩
  · rw [if_neg n1,if_neg n2,if_neg (by omega),if_neg n5] at hA2
    cases hA2
end Go.Proofs.YtmmlfmplggbmiaaGreatDoor
namespace Go.Proofs.YtmmlfmplggbmiaaGreatDoor
open Go.RowKit Go.Maps Go.Lib
set_option linter.unusedVariables false
set_option linter.unusedSimpArgs false
set_option maxHeartbeats 4000000 in
set_option maxRecDepth 100000 in
theorem Grow_none (n:Nat) (hn:n≤2097152) (W:World):Calls Tryz.prog 163 #[.slice none 0 0,.int .i64 (n:Int)] W (OwnS [] W):=by
  by_cases h0:n=0
  · subst h0
    go_enter Tryz.func163,Tryz.ntmps163
    go_wp2_with fail
    go_ret
    exact ⟨_,rfl,OS.nil _ _,Below.refl _ _⟩
  obtain ⟨i0,hi0,hz0,hs1,hby⟩:=info_parts infoStr
  have d0:decide ((0:Int)<(n:Int))=true:=by simp;omega
  have d0':decide (0<n)=true:=by simp;omega
  have hold:(Builtin.firstCells i0.size 0 (.slice none 0 0)).run Tryz.prog W.drew=.ok ([]:List Value).toArray W.drew:=run_firstCells_none W.drew i0.size 0 0 0
  have hfit:=growslice_fits (bytes:=i0.bytes) (by omega:0<0+n) (by rw [hby];omega)
  have hrz:∀ ty,(Builtin.append_ #[93,3] ty #[.slice none 0 0,.int .i64 (n:Int)]).run Tryz.prog W =
      .ok (.slice (some ⟨W.heap.size,0,none⟩) (0+n) (grownCap W (0+n) 0 9)) (W.drew.alloc (.cells (([]:List Value).toArray++Builtin.zeroCells (Value.string ⟨#[]⟩).cells n++Builtin.zeroCells (Value.string ⟨#[]⟩).cells (grownCap W (0+n) 0 9 - (0+n))) 9)):=fun ty =>
    Lib.run_append_grow_zeros W 93 3 ty 9 i0 (.string ⟨#[]⟩) .i64 .i64 Tryz.underlying93 Tryz.underlying3 hi0 hz0 none 0 0 [] hold n (by omega) (by rw [hs1];decide) (by omega) (by omega)
      (by rw [hby];omega) hfit
  have hGn:0+n≤grownCap W (0+n) 0 9:=grownCap_ge W _ _ _
  have hG63:grownCap W (0+n) 0 9≤maxLen:=grownCap_le_maxLen W (0+n) 0 9 (by unfold maxLen;omega)
  obtain ⟨G,hG⟩:∃ G,grownCap W (0+n) 0 9=G:=⟨_,rfl⟩
  rw [hG] at hGn hG63
  simp only [hG] at hrz
  have hos:OS (W.drew.alloc (.cells (([]:List Value).toArray++Builtin.zeroCells (Value.string ⟨#[]⟩).cells n++Builtin.zeroCells (Value.string ⟨#[]⟩).cells (G - (0+n))) 9)) W.heap.size (.slice (some ⟨W.heap.size,0,none⟩) 0 G) []:=by
    refine ⟨rfl,.inr ⟨W.heap.size,G,_,rfl,Nat.le_refl _,heap_new W.drew _,Nat.zero_le _,hG63,?_,by simp⟩⟩
    simp [Builtin.zeroCells,Value.cells]
    omega
  have hbl:Below W.heap.size W (W.drew.alloc (.cells (([]:List Value).toArray++Builtin.zeroCells (Value.string ⟨#[]⟩).cells n++Builtin.zeroCells (Value.string ⟨#[]⟩).cells (G - (0+n))) 9)):=(below_drew (Below.refl W.heap.size W)).alloc (Nat.le_refl _) _
  obtain ⟨w1,e1⟩:∃ w1,(W.drew.alloc (.cells (([]:List Value).toArray++Builtin.zeroCells (Value.string ⟨#[]⟩).cells n++Builtin.zeroCells (Value.string ⟨#[]⟩).cells (G - (0+n))) 9))=w1:=⟨_,rfl⟩
  simp only [e1] at hrz hos hbl
  have HO:=Lib.hid (And.intro hos hbl)
  unfold maxLen at hG63
  have hG2:G≤9223372036854775807:=by omega
  have hGn2:n≤G:=by omega
  clear hold hfit hG hos hbl e1 hG63 hGn h0
  go_enter Tryz.func163,Tryz.ntmps163
  go_wp2_with (at_builtin;refine Lib.wpList_append_run _ rfl _ _ _ _ rfl _ _ rfl rfl _ _ (hrz _) ?_)
  all_goals (go_ret;exact ⟨_,rfl,HO.out.1,HO.out.2⟩)
end Go.Proofs.YtmmlfmplggbmiaaGreatDoor
namespace Go.Proofs.YtmmlfmplggbmiaaGreatDoor
open Go.RowKit Go.Maps
set_option linter.unusedVariables false
set_option linter.unusedSimpArgs false
theorem OS.heap_le {W:World} {B:Nat} {v:Value} {xs:List ByteArray} (h:OS W B v xs):∀ k,v.ownBlock=some k→B≤k:=fun k hk=>(h.lt k hk).1
theorem wpList_append_OS {w:World} {ops:Array Oper} {rest:List Oper} {o:Oper} {a:Act} {Q:Exit→Act→World→Prop} (hgd:o.guard=none) (s x:Operand)
    (ho:o.op=.call { callee:=.builtin .append,args:=#[s,x],argTypes:=#[93,93] }) (B C:Nat) (v vx:Value) (xs ys:List ByteArray) (hs:a.eval s=v) (hown:OS w B v xs) (hx:a.eval x=vx) (hsrc:OS w C vx ys)
    (hlen:xs.length+ys.length≤4194304) (hB:B≤w.heap.size) (h:∀ v' w',OS w' B v' (xs++ys)→Below B w w'→wpList Tryz.prog ops Q rest (a.put o.dst v') w'):wpList Tryz.prog ops Q (o::rest) a w:=by
  obtain ⟨i0,hi,hz0,hz1,hz2⟩:=info_parts infoStr
  rcases hsrc.2 with ⟨rfl,hz⟩ | ⟨g,cap,cur,rfl,hr⟩
  · have hl0:ys=[]:=List.length_eq_zero_iff.1 hz
    refine wpList_append_own_none hgd s x 93 ho B 9 i0 1 Tryz.underlying93 hi v xs.length _ hs hown hx (h v w ?_ (Below.refl _ _))
    rw [hl0,List.append_nil]
    exact hown
  · refine wpList_append_own _ hgd s x 93 ho B 9 i0 (.string ⟨#[]⟩) 1 16 Tryz.underlying93 hi hz0 hz1 hz2 rfl (by decide) v xs.length _ hs hown ⟨g,0,none⟩ ys.length cap (ys.map .string) hx (by simp) (fun j u hj=>hsrc.cells (g:=g) rfl j u hj) (fun u hu=>?_) (by unfold maxLen;omega) (by omega) hB (fun v' w' h1 h2 _=>h v' w' ?_ ?_)
    · obtain ⟨t,_,rfl⟩:=List.mem_map.1 hu
      rfl
    · unfold OS
      rw [List.length_append,List.map_append]
      exact h1
    · exact (Below.refl B w).grown h2 hB (fun k hk=>hown.heap_le k hk)
set_option maxHeartbeats 4000000 in
set_option maxRecDepth 100000 in
theorem concat_any (va vb:Value) (xs ys:List ByteArray) (g B:Nat) (W:World) (c0:W.cell? ⟨g,0,none⟩=some va) (c1:W.cell? ⟨g,1,none⟩=some vb) (hg:g<W.heap.size) (h1:OS W B va xs) (h2:OS W B vb ys) (hx:xs.length≤1048576) (hy:ys.length≤1048576) :
    Calls Tryz.prog 134 #[.slice (some ⟨g,0,none⟩) 2 2] W (OwnS (xs++ys) W):=by
  obtain ⟨p,cc,rfl⟩:=h1.sl.slice
  obtain ⟨q,cd,rfl⟩:=h2.sl.slice
  have H12:=Lib.hid (And.intro h1 h2)
  have cG:=Grow_none (xs.length+ys.length) (by omega) W
  have hs1:IntKind.i64.wrap ((xs.length:Int)+(ys.length:Int))=((xs.length+ys.length:Nat):Int):=by rw [IntKind.wrap_i64];omega
  have hb0:∀ w,Below W.heap.size W w→w.cell? ⟨g,0,none⟩=some (.slice p xs.length cc)∧w.cell? ⟨g,1,none⟩=some (.slice q ys.length cd):=fun w hb=>⟨(hb.cell (p:=⟨g,0,none⟩) hg).trans c0,(hb.cell (p:=⟨g,1,none⟩) hg).trans c1⟩
  have HC:=Lib.hid hb0
  clear h1 h2 hb0
  obtain ⟨nx,ex⟩:∃ n,xs.length=n:=⟨_,rfl⟩
  obtain ⟨ny,ey⟩:∃ n,ys.length=n:=⟨_,rfl⟩
  have HX:=Lib.hid (And.intro ex ey)
  rw [ex] at hx H12 HC cG hs1 c0
  rw [ey] at hy H12 HC cG hs1 c1
  clear ex ey
  obtain ⟨nz,ez⟩:∃ n,nx+ny=n:=⟨_,rfl⟩
  rw [ez] at cG hs1
  have hnz:nz≤2097152:=by omega
  have hnn:decide ((nz:Int)<0)=false:=by simp
  have hnx:decide ((nx:Int)<0)=false:=by simp
  have HZ:=Lib.hid ez
  clear ez
  go_enter Tryz.func134,Tryz.ntmps134
  go_wp2_with fail
  go_loopw [3,11] (fun ts ti wr=>∃ i:Nat,(i=0∧ts=.int .i64 0∨i=1∧ts=.int .i64 (nx:Int)∨i=2∧ts=.int .i64 (nz:Int))∧ti=.int .i64 i∧wr=W) (fun _ ti _=>2 - (intOf ti).toNat)
  case atStart=>exact ⟨0,.inl ⟨rfl,rfl⟩,rfl,rfl⟩
  case round =>
    obtain ⟨i,⟨rfl,rfl⟩ | ⟨rfl,rfl⟩ | ⟨rfl,rfl⟩,rfl,rfl⟩:=hrel
    · go_wp2_with fail
      exact ⟨⟨1,.inr (.inl ⟨rfl,by first | rfl | simp⟩),by go_num,by first | rfl | trivial⟩,by simp [intOf]⟩
    · go_wp2_with fail
      exact ⟨⟨2,.inr (.inr ⟨rfl,by first | rfl | simp⟩),by go_num,by first | rfl | trivial⟩,by simp [intOf]⟩
    · go_wp2_with fail
      refine cG.mono ?_
      rintro e w1 ⟨v0,rfl,hO,hb⟩
      have HS:=Lib.hid (And.intro hO hb)
      clear hO hb cG c0 c1
      generalize wr=W at *
      go_wp2_with fail
      go_loopw [6,27] (fun tv ti wx=>∃ i:Nat,Hid (i=0∧OS wx W.heap.size tv []∨i=1∧OS wx W.heap.size tv xs∨i=2∧OS wx W.heap.size tv (xs++ys))∧ti=.int .i64 i∧Below W.heap.size W wx) (fun _ ti _=>2 - (intOf ti).toNat)
      case atStart=>exact ⟨0,Lib.hid (.inl ⟨rfl,HS.out.1⟩),rfl,HS.out.2⟩
      case round =>
        obtain ⟨i,ho,rfl,hb⟩:=hrel
        obtain ⟨c0,c1⟩:=HC.out _ hb
        have HB:=Lib.hid hb
        rcases ho.out with ⟨rfl,hO⟩ | ⟨rfl,hO⟩ | ⟨rfl,hO⟩
        · have HO:=Lib.hid (And.intro hO (OS.later H12.out.1 HB.out))
          clear ho hO hb
          go_wp2_with (at_builtin;refine wpList_append_OS rfl _ _ rfl W.heap.size B _ _ [] xs rfl HO.out.1 rfl HO.out.2 (by have:=HX.out;simp;omega) HB.out.size ?_)
          intro v' w2 hn hb2
          have HN:=Lib.hid (And.intro hn (HB.out.trans hb2))
          clear hn hb2
          go_wp2_with fail
          exact ⟨⟨1,Lib.hid (.inr (.inl ⟨rfl,by simpa using HN.out.1⟩)),by go_num,HN.out.2⟩,by simp [intOf]⟩
        · have HO:=Lib.hid (And.intro hO (OS.later H12.out.2 HB.out))
          clear ho hO hb
          go_wp2_with (at_builtin;refine wpList_append_OS rfl _ _ rfl W.heap.size B _ _ xs ys rfl HO.out.1 rfl HO.out.2 (by have:=HX.out;omega) HB.out.size ?_)
          intro v' w2 hn hb2
          have HN:=Lib.hid (And.intro hn (HB.out.trans hb2))
          clear hn hb2
          go_wp2_with fail
          exact ⟨⟨2,Lib.hid (.inr (.inr ⟨rfl,by simpa using HN.out.1⟩)),by go_num,HN.out.2⟩,by simp [intOf]⟩
        · have HO:=Lib.hid hO
          clear ho hO hb
          go_wp2_with fail
          go_ret
          exact ⟨_,rfl,HO.out,HB.out⟩
def FS (W:World) (mv:List Value) (v:Value) (A:List ByteArray) (w:World):Prop:=OneS W mv w∧OS w W.heap.size v A
theorem FS.later {W w w':World} {mv:List Value} {v:Value} {A:List ByteArray} (h:FS W mv v A w) (hb:Below w.heap.size w w'):FS W mv v A w':=⟨h.1.later hb,h.2.later hb⟩
theorem cell_alloc_lt {w:World} {o:Obj} {b i:Nat} (h:b<w.heap.size):(w.alloc o).cell? ⟨b,i,none⟩=w.cell? ⟨b,i,none⟩:=World.cell?_of_block (a:=⟨b,i,none⟩) (RowKit.Below.heap_alloc w o b h)
theorem FS.drew {W w:World} {mv:List Value} {v:Value} {A:List ByteArray} (h:FS W mv v A w):FS W mv v A w.drew:=h.later (below_drew (Below.refl _ _))
set_option maxRecDepth 100000 in
set_option maxHeartbeats 8000000 in
theorem fm_29 (b:Nat) (rg ty nn fl:Int) (ap tp:Option Addr) (al tl ac tc:Nat) (A B:List ByteArray) (W:World) (cA:∀ w,Below W.heap.size W w→Calls Tryz.prog 131 #[.slice ap al ac,.func (.func 132) #[.pointer (some ⟨b,0,none⟩)] #[]] w (OwnS A w))
    (cB:∀ w,Below W.heap.size W w→Calls Tryz.prog 44 #[.slice tp tl tc,.func (.func 45) #[] #[]] w (OwnS B w))
    (hA:A.length≤1048576) (hB:B.length≤1048576)
    (L:ByteArray) (cL:∀ v w,SL w v (A++B)→Calls Tryz.prog 43 #[v] w (StrV L w)) :
    Calls Tryz.prog 87 #[.pointer (some ⟨b,0,none⟩),.agg #[.int .i64 29,.int .i64 rg,.int .i64 ty,.int .i64 nn,.int .i64 fl,.slice ap al ac,.slice tp tl tc]] W (OwnS ([L]) W):=by
  have HS0:Hid (OneS W [.int .i64 29,.int .i64 rg,.int .i64 ty,.int .i64 nn,.int .i64 fl,.slice ap al ac,.slice tp tl tc] (W.alloc (.cells #[.int .i64 29,.int .i64 rg,.int .i64 ty,.int .i64 nn,.int .i64 fl,.slice ap al ac,.slice tp tl tc] 43))):=Lib.hid ⟨Box.new W rfl _ _,(Below.refl _ _).alloc (Nat.le_refl _) _⟩
  have HAB:=Lib.hid (And.intro cA cB)
  clear cA cB
  have HL:=Lib.hid cL
  clear cL
  go_enter Tryz.func87,Tryz.ntmps87
  go_upto_region 1 with fail
  obtain ⟨w1,ew1⟩:∃ w1,(W.alloc (.cells #[.int .i64 29,.int .i64 rg,.int .i64 ty,.int .i64 nn,.int .i64 fl,.slice ap al ac,.slice tp tl tc] 43))=w1:=⟨_,rfl⟩
  rw [ew1] at HS0 ⊢
  clear ew1
  go_cut [5,6] (fun ta tb wx=>OS wx W.heap.size ta A∧OS wx W.heap.size tb B∧OneS W [.int .i64 29,.int .i64 rg,.int .i64 ty,.int .i64 nn,.int .i64 fl,.slice ap al ac,.slice tp tl tc] wx)
  case first =>
    have HSS:∀ w,OneS W [.int .i64 29,.int .i64 rg,.int .i64 ty,.int .i64 nn,.int .i64 fl,.slice ap al ac,.slice tp tl tc] w→(w.cell? ⟨W.heap.size,5,none⟩=some (.slice ap al ac)∧w.cell? ⟨W.heap.size,6,none⟩=some (.slice tp tl tc)):=fun w h=>⟨h.1.get 5 _ rfl,h.1.get 6 _ rfl⟩
    obtain ⟨y0_,y1_⟩:=HSS w1 HS0.out
    have kh:OneS W [.int .i64 29,.int .i64 rg,.int .i64 ty,.int .i64 nn,.int .i64 fl,.slice ap al ac,.slice tp tl tc] w1:=HS0.out
    have cO1:∀ w,((w.cell? ⟨W.heap.size,5,none⟩=some (.slice ap al ac)∧w.cell? ⟨W.heap.size,6,none⟩=some (.slice tp tl tc))∧OneS W [.int .i64 29,.int .i64 rg,.int .i64 ty,.int .i64 nn,.int .i64 fl,.slice ap al ac,.slice tp tl tc] w)→Calls Tryz.prog 131 #[.slice ap al ac,.func (.func 132) #[.pointer (some ⟨b,0,none⟩)] #[]] w fun e w' => ∃ v,e=.returned v∧w'.cell? ⟨W.heap.size,5,none⟩=some (.slice ap al ac)∧w'.cell? ⟨W.heap.size,6,none⟩=some (.slice tp tl tc)∧OneS W [.int .i64 29,.int .i64 rg,.int .i64 ty,.int .i64 nn,.int .i64 fl,.slice ap al ac,.slice tp tl tc] w'∧OS w' W.heap.size v A:=by
      rintro w ⟨k,kh⟩
      refine (HAB.out.1 w kh.2).mono ?_
      rintro e w' ⟨v,he,hO,hb⟩
      have h2:=kh.later hb
      obtain ⟨s0,s1⟩:=HSS w' h2
      exact ⟨v,he,s0,s1,h2,hO.mono kh.2.size⟩
    have cO2:∀ w,((w.cell? ⟨W.heap.size,5,none⟩=some (.slice ap al ac)∧w.cell? ⟨W.heap.size,6,none⟩=some (.slice tp tl tc))∧OneS W [.int .i64 29,.int .i64 rg,.int .i64 ty,.int .i64 nn,.int .i64 fl,.slice ap al ac,.slice tp tl tc] w)→Calls Tryz.prog 44 #[.slice tp tl tc,.func (.func 45) #[] #[]] w fun e w' => ∃ v,e=.returned v∧w'.cell? ⟨W.heap.size,5,none⟩=some (.slice ap al ac)∧w'.cell? ⟨W.heap.size,6,none⟩=some (.slice tp tl tc)∧OneS W [.int .i64 29,.int .i64 rg,.int .i64 ty,.int .i64 nn,.int .i64 fl,.slice ap al ac,.slice tp tl tc] w'∧OS w' W.heap.size v B∧Below w.heap.size w w':=by
      rintro w ⟨k,kh⟩
      refine (HAB.out.2 w kh.2).mono ?_
      rintro e w' ⟨v,he,hO,hb⟩
      have h2:=kh.later hb
      obtain ⟨s0,s1⟩:=HSS w' h2
      exact ⟨v,he,s0,s1,h2,hO.mono kh.2.size,hb⟩
    clear HSS
    go_region_held3 (fun w' => w'.cell? ⟨W.heap.size,5,none⟩=some (.slice ap al ac)∧w'.cell? ⟨W.heap.size,6,none⟩=some (.slice tp tl tc))
      (((try dsimp only);(repeat' apply And.intro) <;> (first | (with_reducible assumption) | (rw [World.cell?_drew];with_reducible assumption) | (refine (cell_alloc_lt ?_).trans ?_ <;> with_reducible assumption) | (simp <;> omega))))
      (first
        | ((with_reducible refine' (cO1 _ ?pre).mono ?_)
           case pre=>(refine ⟨⟨?_,?_⟩,?_⟩ <;> (first | (with_reducible assumption) | (rw [World.cell?_drew];with_reducible assumption) | (with_reducible apply OneS.drew;with_reducible assumption) | (simp <;> omega) | omega))
           rintro e wsA ⟨vA,rfl,a0_,a1_,sahA,hOA⟩)
        | ((with_reducible refine' (cO2 _ ?pre).mono ?_)
           case pre=>(refine ⟨⟨?_,?_⟩,?_⟩ <;> (first | (with_reducible assumption) | (rw [World.cell?_drew];with_reducible assumption) | (with_reducible apply OneS.drew;with_reducible assumption) | (simp <;> omega) | omega))
           rintro e wsB ⟨vB,rfl,b0_,b1_,sahB,hOB,hBB⟩))
    all_goals
      have HFIN:=Lib.hid (And.intro (OS.later hOA hBB) (And.intro hOB sahB))
      clear hOA hOB sahA sahB hBB a0_ a1_ b0_ b1_
      go_wp2_with fail
      go_meet
      exact ⟨HFIN.out.1,HFIN.out.2.1,HFIN.out.2.2⟩
  case rest =>
  obtain ⟨hOA,hOB,hS⟩:=hcut
  have HS:=Lib.hid (And.intro hOA (And.intro hOB hS))
  generalize wc=wx at *
  clear hOA hOB hS HS0 HAB
  have z0:=HS.out.2.2.1.get 0 _ rfl
  obtain ⟨pa,ca,eva⟩:=HS.out.1.sl.slice
  obtain ⟨pb,cb,evb⟩:=HS.out.2.1.sl.slice
  subst eva evb
  obtain ⟨na,ea⟩:∃ n,A.length=n:=⟨_,rfl⟩
  obtain ⟨nb,eb⟩:∃ n,B.length=n:=⟨_,rfl⟩
  rw [ea] at HS hA ⊢
  rw [eb] at HS hB ⊢
  have HN:=Lib.hid (And.intro ea eb)
  clear ea eb
  have hal:Below wx.heap.size wx (wx.alloc (.cells #[.slice pa na ca,.slice pb nb cb] 93)):=(Below.refl _ _).alloc (Nat.le_refl _) _
  have cc:=concat_any (.slice pa na ca) (.slice pb nb cb) A B wx.heap.size W.heap.size (wx.alloc (.cells #[.slice pa na ca,.slice pb nb cb] 93)) (by rw [World.cell?_alloc_at _ _ _ _ rfl];rfl) (by rw [World.cell?_alloc_at _ _ _ _ rfl];rfl) (by simp) (HS.out.1.later hal) (HS.out.2.1.later hal) (by have:=HN.out.1;omega) (by have:=HN.out.2;omega)
  have HX:=Lib.hid (HS.out.2.2.later hal)
  clear hal
  go_wp2_with fail
  refine cc.mono ?_
  rintro e w2 ⟨v,rfl,hO,hb⟩
  have cl:=HL.out v w2 hO.sl
  have HX:=Lib.hid (HX.out.later hb)
  clear cc hO hb z0
  go_wp2_with fail
  refine cl.mono ?_
  rintro e w3 ⟨rfl,hb⟩
  have HX:=Lib.hid (HX.out.later hb)
  clear cl hb
  go_wp2_with fail
  go_ret
  exact ⟨_,rfl,OS.lit w3 HX.out.2.size [L] _ rfl 1 rfl (by decide),HX.out.2.alloc HX.out.2.size _⟩
set_option maxRecDepth 100000 in
set_option maxHeartbeats 8000000 in
theorem fm_31 (b:Nat) (rg ty nn fl:Int) (ap tp:Option Addr) (al tl ac tc:Nat) (A B:List ByteArray) (W:World) (cA:∀ w,Below W.heap.size W w→Calls Tryz.prog 131 #[.slice ap al ac,.func (.func 132) #[.pointer (some ⟨b,0,none⟩)] #[]] w (OwnS A w))
    (cB:∀ w,Below W.heap.size W w→Calls Tryz.prog 44 #[.slice tp tl tc,.func (.func 45) #[] #[]] w (OwnS B w))
    (hA:A.length≤1048576) (hB:B.length≤1048576)
    (L:ByteArray) (cL:∀ v w,SL w v (A++B)→Calls Tryz.prog 43 #[v] w (StrV L w)) :
    Calls Tryz.prog 87 #[.pointer (some ⟨b,0,none⟩),.agg #[.int .i64 31,.int .i64 rg,.int .i64 ty,.int .i64 nn,.int .i64 fl,.slice ap al ac,.slice tp tl tc]] W (OwnS ([L]) W):=by
  have HS0:Hid (OneS W [.int .i64 31,.int .i64 rg,.int .i64 ty,.int .i64 nn,.int .i64 fl,.slice ap al ac,.slice tp tl tc] (W.alloc (.cells #[.int .i64 31,.int .i64 rg,.int .i64 ty,.int .i64 nn,.int .i64 fl,.slice ap al ac,.slice tp tl tc] 43))):=Lib.hid ⟨Box.new W rfl _ _,(Below.refl _ _).alloc (Nat.le_refl _) _⟩
  have HAB:=Lib.hid (And.intro cA cB)
  clear cA cB
  have HL:=Lib.hid cL
  clear cL
  go_enter Tryz.func87,Tryz.ntmps87
  go_upto_region 1 with fail
  obtain ⟨w1,ew1⟩:∃ w1,(W.alloc (.cells #[.int .i64 31,.int .i64 rg,.int .i64 ty,.int .i64 nn,.int .i64 fl,.slice ap al ac,.slice tp tl tc] 43))=w1:=⟨_,rfl⟩
  rw [ew1] at HS0 ⊢
  clear ew1
  go_cut [5,6] (fun ta tb wx=>OS wx W.heap.size ta A∧OS wx W.heap.size tb B∧OneS W [.int .i64 31,.int .i64 rg,.int .i64 ty,.int .i64 nn,.int .i64 fl,.slice ap al ac,.slice tp tl tc] wx)
  case first =>
    have HSS:∀ w,OneS W [.int .i64 31,.int .i64 rg,.int .i64 ty,.int .i64 nn,.int .i64 fl,.slice ap al ac,.slice tp tl tc] w→(w.cell? ⟨W.heap.size,5,none⟩=some (.slice ap al ac)∧w.cell? ⟨W.heap.size,6,none⟩=some (.slice tp tl tc)):=fun w h=>⟨h.1.get 5 _ rfl,h.1.get 6 _ rfl⟩
    obtain ⟨y0_,y1_⟩:=HSS w1 HS0.out
    have kh:OneS W [.int .i64 31,.int .i64 rg,.int .i64 ty,.int .i64 nn,.int .i64 fl,.slice ap al ac,.slice tp tl tc] w1:=HS0.out
    have cO1:∀ w,((w.cell? ⟨W.heap.size,5,none⟩=some (.slice ap al ac)∧w.cell? ⟨W.heap.size,6,none⟩=some (.slice tp tl tc))∧OneS W [.int .i64 31,.int .i64 rg,.int .i64 ty,.int .i64 nn,.int .i64 fl,.slice ap al ac,.slice tp tl tc] w)→Calls Tryz.prog 131 #[.slice ap al ac,.func (.func 132) #[.pointer (some ⟨b,0,none⟩)] #[]] w fun e w' => ∃ v,e=.returned v∧w'.cell? ⟨W.heap.size,5,none⟩=some (.slice ap al ac)∧w'.cell? ⟨W.heap.size,6,none⟩=some (.slice tp tl tc)∧OneS W [.int .i64 31,.int .i64 rg,.int .i64 ty,.int .i64 nn,.int .i64 fl,.slice ap al ac,.slice tp tl tc] w'∧OS w' W.heap.size v A:=by
      rintro w ⟨k,kh⟩
      refine (HAB.out.1 w kh.2).mono ?_
      rintro e w' ⟨v,he,hO,hb⟩
      have h2:=kh.later hb
      obtain ⟨s0,s1⟩:=HSS w' h2
      exact ⟨v,he,s0,s1,h2,hO.mono kh.2.size⟩
    have cO2:∀ w,((w.cell? ⟨W.heap.size,5,none⟩=some (.slice ap al ac)∧w.cell? ⟨W.heap.size,6,none⟩=some (.slice tp tl tc))∧OneS W [.int .i64 31,.int .i64 rg,.int .i64 ty,.int .i64 nn,.int .i64 fl,.slice ap al ac,.slice tp tl tc] w)→Calls Tryz.prog 44 #[.slice tp tl tc,.func (.func 45) #[] #[]] w fun e w' => ∃ v,e=.returned v∧w'.cell? ⟨W.heap.size,5,none⟩=some (.slice ap al ac)∧w'.cell? ⟨W.heap.size,6,none⟩=some (.slice tp tl tc)∧OneS W [.int .i64 31,.int .i64 rg,.int .i64 ty,.int .i64 nn,.int .i64 fl,.slice ap al ac,.slice tp tl tc] w'∧OS w' W.heap.size v B∧Below w.heap.size w w':=by
      rintro w ⟨k,kh⟩
      refine (HAB.out.2 w kh.2).mono ?_
      rintro e w' ⟨v,he,hO,hb⟩
      have h2:=kh.later hb
      obtain ⟨s0,s1⟩:=HSS w' h2
      exact ⟨v,he,s0,s1,h2,hO.mono kh.2.size,hb⟩
    clear HSS
    go_region_held3 (fun w' => w'.cell? ⟨W.heap.size,5,none⟩=some (.slice ap al ac)∧w'.cell? ⟨W.heap.size,6,none⟩=some (.slice tp tl tc))
      (((try dsimp only);(repeat' apply And.intro) <;> (first | (with_reducible assumption) | (rw [World.cell?_drew];with_reducible assumption) | (refine (cell_alloc_lt ?_).trans ?_ <;> with_reducible assumption) | (simp <;> omega))))
      (first
        | ((with_reducible refine' (cO1 _ ?pre).mono ?_)
           case pre=>(refine ⟨⟨?_,?_⟩,?_⟩ <;> (first | (with_reducible assumption) | (rw [World.cell?_drew];with_reducible assumption) | (with_reducible apply OneS.drew;with_reducible assumption) | (simp <;> omega) | omega))
           rintro e wsA ⟨vA,rfl,a0_,a1_,sahA,hOA⟩)
        | ((with_reducible refine' (cO2 _ ?pre).mono ?_)
           case pre=>(refine ⟨⟨?_,?_⟩,?_⟩ <;> (first | (with_reducible assumption) | (rw [World.cell?_drew];with_reducible assumption) | (with_reducible apply OneS.drew;with_reducible assumption) | (simp <;> omega) | omega))
           rintro e wsB ⟨vB,rfl,b0_,b1_,sahB,hOB,hBB⟩))
    all_goals
      have HFIN:=Lib.hid (And.intro (OS.later hOA hBB) (And.intro hOB sahB))
      clear hOA hOB sahA sahB hBB a0_ a1_ b0_ b1_
      go_wp2_with fail
      go_meet
      exact ⟨HFIN.out.1,HFIN.out.2.1,HFIN.out.2.2⟩
  case rest =>
  obtain ⟨hOA,hOB,hS⟩:=hcut
  have HS:=Lib.hid (And.intro hOA (And.intro hOB hS))
  generalize wc=wx at *
  clear hOA hOB hS HS0 HAB
  have z0:=HS.out.2.2.1.get 0 _ rfl
  obtain ⟨pa,ca,eva⟩:=HS.out.1.sl.slice
  obtain ⟨pb,cb,evb⟩:=HS.out.2.1.sl.slice
  subst eva evb
  obtain ⟨na,ea⟩:∃ n,A.length=n:=⟨_,rfl⟩
  obtain ⟨nb,eb⟩:∃ n,B.length=n:=⟨_,rfl⟩
  rw [ea] at HS hA ⊢
  rw [eb] at HS hB ⊢
  have HN:=Lib.hid (And.intro ea eb)
  clear ea eb
  have hal:Below wx.heap.size wx (wx.alloc (.cells #[.slice pa na ca,.slice pb nb cb] 93)):=(Below.refl _ _).alloc (Nat.le_refl _) _
  have cc:=concat_any (.slice pa na ca) (.slice pb nb cb) A B wx.heap.size W.heap.size (wx.alloc (.cells #[.slice pa na ca,.slice pb nb cb] 93)) (by rw [World.cell?_alloc_at _ _ _ _ rfl];rfl) (by rw [World.cell?_alloc_at _ _ _ _ rfl];rfl) (by simp) (HS.out.1.later hal) (HS.out.2.1.later hal) (by have:=HN.out.1;omega) (by have:=HN.out.2;omega)
  have HX:=Lib.hid (HS.out.2.2.later hal)
  clear hal
  go_wp2_with fail
  refine cc.mono ?_
  rintro e w2 ⟨v,rfl,hO,hb⟩
  have cl:=HL.out v w2 hO.sl
  have HX:=Lib.hid (HX.out.later hb)
  clear cc hO hb z0
  go_wp2_with fail
  refine cl.mono ?_
  rintro e w3 ⟨rfl,hb⟩
  have HX:=Lib.hid (HX.out.later hb)
  clear cl hb
  go_wp2_with fail
  go_ret
  exact ⟨_,rfl,OS.lit w3 HX.out.2.size [L] _ rfl 1 rfl (by decide),HX.out.2.alloc HX.out.2.size _⟩
set_option maxRecDepth 100000 in
set_option maxHeartbeats 8000000 in
theorem fm_32 (b:Nat) (rg ty nn fl:Int) (ap tp:Option Addr) (al tl ac tc:Nat) (A B:List ByteArray) (W:World) (cA:∀ w,Below W.heap.size W w→Calls Tryz.prog 131 #[.slice ap al ac,.func (.func 132) #[.pointer (some ⟨b,0,none⟩)] #[]] w (OwnS A w))
    (cB:∀ w,Below W.heap.size W w→Calls Tryz.prog 44 #[.slice tp tl tc,.func (.func 45) #[] #[]] w (OwnS B w))
    (hA:A.length≤1048576) (hB:B.length≤1048576)
    (L:ByteArray) (cL:∀ v w,SL w v (A++B)→Calls Tryz.prog 43 #[v] w (StrV L w)) :
    Calls Tryz.prog 87 #[.pointer (some ⟨b,0,none⟩),.agg #[.int .i64 32,.int .i64 rg,.int .i64 ty,.int .i64 nn,.int .i64 fl,.slice ap al ac,.slice tp tl tc]] W (OwnS ([L]) W):=by
  have HS0:Hid (OneS W [.int .i64 32,.int .i64 rg,.int .i64 ty,.int .i64 nn,.int .i64 fl,.slice ap al ac,.slice tp tl tc] (W.alloc (.cells #[.int .i64 32,.int .i64 rg,.int .i64 ty,.int .i64 nn,.int .i64 fl,.slice ap al ac,.slice tp tl tc] 43))):=Lib.hid ⟨Box.new W rfl _ _,(Below.refl _ _).alloc (Nat.le_refl _) _⟩
  have HAB:=Lib.hid (And.intro cA cB)
  clear cA cB
  have HL:=Lib.hid cL
  clear cL
  go_enter Tryz.func87,Tryz.ntmps87
  go_upto_region 1 with fail
  obtain ⟨w1,ew1⟩:∃ w1,(W.alloc (.cells #[.int .i64 32,.int .i64 rg,.int .i64 ty,.int .i64 nn,.int .i64 fl,.slice ap al ac,.slice tp tl tc] 43))=w1:=⟨_,rfl⟩
  rw [ew1] at HS0 ⊢
  clear ew1
  go_cut [5,6] (fun ta tb wx=>OS wx W.heap.size ta A∧OS wx W.heap.size tb B∧OneS W [.int .i64 32,.int .i64 rg,.int .i64 ty,.int .i64 nn,.int .i64 fl,.slice ap al ac,.slice tp tl tc] wx)
  case first =>
    have HSS:∀ w,OneS W [.int .i64 32,.int .i64 rg,.int .i64 ty,.int .i64 nn,.int .i64 fl,.slice ap al ac,.slice tp tl tc] w→(w.cell? ⟨W.heap.size,5,none⟩=some (.slice ap al ac)∧w.cell? ⟨W.heap.size,6,none⟩=some (.slice tp tl tc)):=fun w h=>⟨h.1.get 5 _ rfl,h.1.get 6 _ rfl⟩
    obtain ⟨y0_,y1_⟩:=HSS w1 HS0.out
    have kh:OneS W [.int .i64 32,.int .i64 rg,.int .i64 ty,.int .i64 nn,.int .i64 fl,.slice ap al ac,.slice tp tl tc] w1:=HS0.out
    have cO1:∀ w,((w.cell? ⟨W.heap.size,5,none⟩=some (.slice ap al ac)∧w.cell? ⟨W.heap.size,6,none⟩=some (.slice tp tl tc))∧OneS W [.int .i64 32,.int .i64 rg,.int .i64 ty,.int .i64 nn,.int .i64 fl,.slice ap al ac,.slice tp tl tc] w)→Calls Tryz.prog 131 #[.slice ap al ac,.func (.func 132) #[.pointer (some ⟨b,0,none⟩)] #[]] w fun e w' => ∃ v,e=.returned v∧w'.cell? ⟨W.heap.size,5,none⟩=some (.slice ap al ac)∧w'.cell? ⟨W.heap.size,6,none⟩=some (.slice tp tl tc)∧OneS W [.int .i64 32,.int .i64 rg,.int .i64 ty,.int .i64 nn,.int .i64 fl,.slice ap al ac,.slice tp tl tc] w'∧OS w' W.heap.size v A:=by
      rintro w ⟨k,kh⟩
      refine (HAB.out.1 w kh.2).mono ?_
      rintro e w' ⟨v,he,hO,hb⟩
      have h2:=kh.later hb
      obtain ⟨s0,s1⟩:=HSS w' h2
      exact ⟨v,he,s0,s1,h2,hO.mono kh.2.size⟩
    have cO2:∀ w,((w.cell? ⟨W.heap.size,5,none⟩=some (.slice ap al ac)∧w.cell? ⟨W.heap.size,6,none⟩=some (.slice tp tl tc))∧OneS W [.int .i64 32,.int .i64 rg,.int .i64 ty,.int .i64 nn,.int .i64 fl,.slice ap al ac,.slice tp tl tc] w)→Calls Tryz.prog 44 #[.slice tp tl tc,.func (.func 45) #[] #[]] w fun e w' => ∃ v,e=.returned v∧w'.cell? ⟨W.heap.size,5,none⟩=some (.slice ap al ac)∧w'.cell? ⟨W.heap.size,6,none⟩=some (.slice tp tl tc)∧OneS W [.int .i64 32,.int .i64 rg,.int .i64 ty,.int .i64 nn,.int .i64 fl,.slice ap al ac,.slice tp tl tc] w'∧OS w' W.heap.size v B∧Below w.heap.size w w':=by
      rintro w ⟨k,kh⟩
      refine (HAB.out.2 w kh.2).mono ?_
      rintro e w' ⟨v,he,hO,hb⟩
      have h2:=kh.later hb
      obtain ⟨s0,s1⟩:=HSS w' h2
      exact ⟨v,he,s0,s1,h2,hO.mono kh.2.size,hb⟩
    clear HSS
    go_region_held3 (fun w' => w'.cell? ⟨W.heap.size,5,none⟩=some (.slice ap al ac)∧w'.cell? ⟨W.heap.size,6,none⟩=some (.slice tp tl tc))
      (((try dsimp only);(repeat' apply And.intro) <;> (first | (with_reducible assumption) | (rw [World.cell?_drew];with_reducible assumption) | (refine (cell_alloc_lt ?_).trans ?_ <;> with_reducible assumption) | (simp <;> omega))))
      (first
        | ((with_reducible refine' (cO1 _ ?pre).mono ?_)
           case pre=>(refine ⟨⟨?_,?_⟩,?_⟩ <;> (first | (with_reducible assumption) | (rw [World.cell?_drew];with_reducible assumption) | (with_reducible apply OneS.drew;with_reducible assumption) | (simp <;> omega) | omega))
           rintro e wsA ⟨vA,rfl,a0_,a1_,sahA,hOA⟩)
        | ((with_reducible refine' (cO2 _ ?pre).mono ?_)
           case pre=>(refine ⟨⟨?_,?_⟩,?_⟩ <;> (first | (with_reducible assumption) | (rw [World.cell?_drew];with_reducible assumption) | (with_reducible apply OneS.drew;with_reducible assumption) | (simp <;> omega) | omega))
           rintro e wsB ⟨vB,rfl,b0_,b1_,sahB,hOB,hBB⟩))
    all_goals
      have HFIN:=Lib.hid (And.intro (OS.later hOA hBB) (And.intro hOB sahB))
      clear hOA hOB sahA sahB hBB a0_ a1_ b0_ b1_
      go_wp2_with fail
      go_meet
      exact ⟨HFIN.out.1,HFIN.out.2.1,HFIN.out.2.2⟩
  case rest =>
  obtain ⟨hOA,hOB,hS⟩:=hcut
  have HS:=Lib.hid (And.intro hOA (And.intro hOB hS))
  generalize wc=wx at *
  clear hOA hOB hS HS0 HAB
  have z0:=HS.out.2.2.1.get 0 _ rfl
  obtain ⟨pa,ca,eva⟩:=HS.out.1.sl.slice
  obtain ⟨pb,cb,evb⟩:=HS.out.2.1.sl.slice
  subst eva evb
  obtain ⟨na,ea⟩:∃ n,A.length=n:=⟨_,rfl⟩
  obtain ⟨nb,eb⟩:∃ n,B.length=n:=⟨_,rfl⟩
  rw [ea] at HS hA ⊢
  rw [eb] at HS hB ⊢
  have HN:=Lib.hid (And.intro ea eb)
  clear ea eb
  have hal:Below wx.heap.size wx (wx.alloc (.cells #[.slice pa na ca,.slice pb nb cb] 93)):=(Below.refl _ _).alloc (Nat.le_refl _) _
  have cc:=concat_any (.slice pa na ca) (.slice pb nb cb) A B wx.heap.size W.heap.size (wx.alloc (.cells #[.slice pa na ca,.slice pb nb cb] 93)) (by rw [World.cell?_alloc_at _ _ _ _ rfl];rfl) (by rw [World.cell?_alloc_at _ _ _ _ rfl];rfl) (by simp) (HS.out.1.later hal) (HS.out.2.1.later hal) (by have:=HN.out.1;omega) (by have:=HN.out.2;omega)
  have HX:=Lib.hid (HS.out.2.2.later hal)
  clear hal
  go_wp2_with fail
  refine cc.mono ?_
  rintro e w2 ⟨v,rfl,hO,hb⟩
  have cl:=HL.out v w2 hO.sl
  have HX:=Lib.hid (HX.out.later hb)
  clear cc hO hb z0
  go_wp2_with fail
  refine cl.mono ?_
  rintro e w3 ⟨rfl,hb⟩
  have HX:=Lib.hid (HX.out.later hb)
  clear cl hb
  go_wp2_with fail
  go_ret
  exact ⟨_,rfl,OS.lit w3 HX.out.2.size [L] _ rfl 1 rfl (by decide),HX.out.2.alloc HX.out.2.size _⟩
set_option maxRecDepth 100000 in
set_option maxHeartbeats 8000000 in
theorem fm_34 (b:Nat) (rg ty nn fl:Int) (ap tp:Option Addr) (al tl ac tc:Nat) (A B:List ByteArray) (W:World) (cA:∀ w,Below W.heap.size W w→Calls Tryz.prog 131 #[.slice ap al ac,.func (.func 132) #[.pointer (some ⟨b,0,none⟩)] #[]] w (OwnS A w))
    (cB:∀ w,Below W.heap.size W w→Calls Tryz.prog 44 #[.slice tp tl tc,.func (.func 45) #[] #[]] w (OwnS B w))
    (hA:A.length≤1048576) (hB:B.length≤1048576)
    (L:ByteArray) (cL:∀ v w,SL w v (A++B)→Calls Tryz.prog 43 #[v] w (StrV L w)) :
    Calls Tryz.prog 87 #[.pointer (some ⟨b,0,none⟩),.agg #[.int .i64 34,.int .i64 rg,.int .i64 ty,.int .i64 nn,.int .i64 fl,.slice ap al ac,.slice tp tl tc]] W (OwnS ([L]) W):=by
  have HS0:Hid (OneS W [.int .i64 34,.int .i64 rg,.int .i64 ty,.int .i64 nn,.int .i64 fl,.slice ap al ac,.slice tp tl tc] (W.alloc (.cells #[.int .i64 34,.int .i64 rg,.int .i64 ty,.int .i64 nn,.int .i64 fl,.slice ap al ac,.slice tp tl tc] 43))):=Lib.hid ⟨Box.new W rfl _ _,(Below.refl _ _).alloc (Nat.le_refl _) _⟩
  have HAB:=Lib.hid (And.intro cA cB)
  clear cA cB
  have HL:=Lib.hid cL
  clear cL
  go_enter Tryz.func87,Tryz.ntmps87
  go_upto_region 1 with fail
  obtain ⟨w1,ew1⟩:∃ w1,(W.alloc (.cells #[.int .i64 34,.int .i64 rg,.int .i64 ty,.int .i64 nn,.int .i64 fl,.slice ap al ac,.slice tp tl tc] 43))=w1:=⟨_,rfl⟩
  rw [ew1] at HS0 ⊢
  clear ew1
  go_cut [5,6] (fun ta tb wx=>OS wx W.heap.size ta A∧OS wx W.heap.size tb B∧OneS W [.int .i64 34,.int .i64 rg,.int .i64 ty,.int .i64 nn,.int .i64 fl,.slice ap al ac,.slice tp tl tc] wx)
  case first =>
    have HSS:∀ w,OneS W [.int .i64 34,.int .i64 rg,.int .i64 ty,.int .i64 nn,.int .i64 fl,.slice ap al ac,.slice tp tl tc] w→(w.cell? ⟨W.heap.size,5,none⟩=some (.slice ap al ac)∧w.cell? ⟨W.heap.size,6,none⟩=some (.slice tp tl tc)):=fun w h=>⟨h.1.get 5 _ rfl,h.1.get 6 _ rfl⟩
    obtain ⟨y0_,y1_⟩:=HSS w1 HS0.out
    have kh:OneS W [.int .i64 34,.int .i64 rg,.int .i64 ty,.int .i64 nn,.int .i64 fl,.slice ap al ac,.slice tp tl tc] w1:=HS0.out
    have cO1:∀ w,((w.cell? ⟨W.heap.size,5,none⟩=some (.slice ap al ac)∧w.cell? ⟨W.heap.size,6,none⟩=some (.slice tp tl tc))∧OneS W [.int .i64 34,.int .i64 rg,.int .i64 ty,.int .i64 nn,.int .i64 fl,.slice ap al ac,.slice tp tl tc] w)→Calls Tryz.prog 131 #[.slice ap al ac,.func (.func 132) #[.pointer (some ⟨b,0,none⟩)] #[]] w fun e w' => ∃ v,e=.returned v∧w'.cell? ⟨W.heap.size,5,none⟩=some (.slice ap al ac)∧w'.cell? ⟨W.heap.size,6,none⟩=some (.slice tp tl tc)∧OneS W [.int .i64 34,.int .i64 rg,.int .i64 ty,.int .i64 nn,.int .i64 fl,.slice ap al ac,.slice tp tl tc] w'∧OS w' W.heap.size v A:=by
      rintro w ⟨k,kh⟩
      refine (HAB.out.1 w kh.2).mono ?_
      rintro e w' ⟨v,he,hO,hb⟩
      have h2:=kh.later hb
      obtain ⟨s0,s1⟩:=HSS w' h2
      exact ⟨v,he,s0,s1,h2,hO.mono kh.2.size⟩
    have cO2:∀ w,((w.cell? ⟨W.heap.size,5,none⟩=some (.slice ap al ac)∧w.cell? ⟨W.heap.size,6,none⟩=some (.slice tp tl tc))∧OneS W [.int .i64 34,.int .i64 rg,.int .i64 ty,.int .i64 nn,.int .i64 fl,.slice ap al ac,.slice tp tl tc] w)→Calls Tryz.prog 44 #[.slice tp tl tc,.func (.func 45) #[] #[]] w fun e w' => ∃ v,e=.returned v∧w'.cell? ⟨W.heap.size,5,none⟩=some (.slice ap al ac)∧w'.cell? ⟨W.heap.size,6,none⟩=some (.slice tp tl tc)∧OneS W [.int .i64 34,.int .i64 rg,.int .i64 ty,.int .i64 nn,.int .i64 fl,.slice ap al ac,.slice tp tl tc] w'∧OS w' W.heap.size v B∧Below w.heap.size w w':=by
      rintro w ⟨k,kh⟩
      refine (HAB.out.2 w kh.2).mono ?_
      rintro e w' ⟨v,he,hO,hb⟩
      have h2:=kh.later hb
      obtain ⟨s0,s1⟩:=HSS w' h2
      exact ⟨v,he,s0,s1,h2,hO.mono kh.2.size,hb⟩
    clear HSS
    go_region_held3 (fun w' => w'.cell? ⟨W.heap.size,5,none⟩=some (.slice ap al ac)∧w'.cell? ⟨W.heap.size,6,none⟩=some (.slice tp tl tc))
      (((try dsimp only);(repeat' apply And.intro) <;> (first | (with_reducible assumption) | (rw [World.cell?_drew];with_reducible assumption) | (refine (cell_alloc_lt ?_).trans ?_ <;> with_reducible assumption) | (simp <;> omega))))
      (first
        | ((with_reducible refine' (cO1 _ ?pre).mono ?_)
           case pre=>(refine ⟨⟨?_,?_⟩,?_⟩ <;> (first | (with_reducible assumption) | (rw [World.cell?_drew];with_reducible assumption) | (with_reducible apply OneS.drew;with_reducible assumption) | (simp <;> omega) | omega))
           rintro e wsA ⟨vA,rfl,a0_,a1_,sahA,hOA⟩)
        | ((with_reducible refine' (cO2 _ ?pre).mono ?_)
           case pre=>(refine ⟨⟨?_,?_⟩,?_⟩ <;> (first | (with_reducible assumption) | (rw [World.cell?_drew];with_reducible assumption) | (with_reducible apply OneS.drew;with_reducible assumption) | (simp <;> omega) | omega))
           rintro e wsB ⟨vB,rfl,b0_,b1_,sahB,hOB,hBB⟩))
    all_goals
      have HFIN:=Lib.hid (And.intro (OS.later hOA hBB) (And.intro hOB sahB))
      clear hOA hOB sahA sahB hBB a0_ a1_ b0_ b1_
      go_wp2_with fail
      go_meet
      exact ⟨HFIN.out.1,HFIN.out.2.1,HFIN.out.2.2⟩
  case rest =>
  obtain ⟨hOA,hOB,hS⟩:=hcut
  have HS:=Lib.hid (And.intro hOA (And.intro hOB hS))
  generalize wc=wx at *
  clear hOA hOB hS HS0 HAB
  have z0:=HS.out.2.2.1.get 0 _ rfl
  obtain ⟨pa,ca,eva⟩:=HS.out.1.sl.slice
  obtain ⟨pb,cb,evb⟩:=HS.out.2.1.sl.slice
  subst eva evb
  obtain ⟨na,ea⟩:∃ n,A.length=n:=⟨_,rfl⟩
  obtain ⟨nb,eb⟩:∃ n,B.length=n:=⟨_,rfl⟩
  rw [ea] at HS hA ⊢
  rw [eb] at HS hB ⊢
  have HN:=Lib.hid (And.intro ea eb)
  clear ea eb
  have hal:Below wx.heap.size wx (wx.alloc (.cells #[.slice pa na ca,.slice pb nb cb] 93)):=(Below.refl _ _).alloc (Nat.le_refl _) _
  have cc:=concat_any (.slice pa na ca) (.slice pb nb cb) A B wx.heap.size W.heap.size (wx.alloc (.cells #[.slice pa na ca,.slice pb nb cb] 93)) (by rw [World.cell?_alloc_at _ _ _ _ rfl];rfl) (by rw [World.cell?_alloc_at _ _ _ _ rfl];rfl) (by simp) (HS.out.1.later hal) (HS.out.2.1.later hal) (by have:=HN.out.1;omega) (by have:=HN.out.2;omega)
  have HX:=Lib.hid (HS.out.2.2.later hal)
  clear hal
  go_wp2_with fail
  refine cc.mono ?_
  rintro e w2 ⟨v,rfl,hO,hb⟩
  have cl:=HL.out v w2 hO.sl
  have HX:=Lib.hid (HX.out.later hb)
  clear cc hO hb z0
  go_wp2_with fail
  refine cl.mono ?_
  rintro e w3 ⟨rfl,hb⟩
  have HX:=Lib.hid (HX.out.later hb)
  clear cl hb
  go_wp2_with fail
  go_ret
  exact ⟨_,rfl,OS.lit w3 HX.out.2.size [L] _ rfl 1 rfl (by decide),HX.out.2.alloc HX.out.2.size _⟩
set_option maxRecDepth 100000 in
set_option maxHeartbeats 8000000 in
theorem fm_26 (b:Nat) (rg ty nn fl:Int) (ap tp:Option Addr) (al tl ac tc:Nat) (A B:List ByteArray) (W:World) (cA:∀ w,Below W.heap.size W w→Calls Tryz.prog 131 #[.slice ap al ac,.func (.func 132) #[.pointer (some ⟨b,0,none⟩)] #[]] w (OwnS A w))
    (cB:∀ w,Below W.heap.size W w→Calls Tryz.prog 44 #[.slice tp tl tc,.func (.func 45) #[] #[]] w (OwnS B w))
    (k:Nat) (hn:nn=(k:Int)) (D:ByteArray) (cI:∀ w,Below W.heap.size W w→Calls Tryz.prog 13 #[.int .i64 (k:Int)] w (StrV D w)) :
    Calls Tryz.prog 87 #[.pointer (some ⟨b,0,none⟩),.agg #[.int .i64 26,.int .i64 rg,.int .i64 ty,.int .i64 nn,.int .i64 fl,.slice ap al ac,.slice tp tl tc]] W (OwnS ([D]) W):=by
  have HS0:Hid (OneS W [.int .i64 26,.int .i64 rg,.int .i64 ty,.int .i64 nn,.int .i64 fl,.slice ap al ac,.slice tp tl tc] (W.alloc (.cells #[.int .i64 26,.int .i64 rg,.int .i64 ty,.int .i64 nn,.int .i64 fl,.slice ap al ac,.slice tp tl tc] 43))):=Lib.hid ⟨Box.new W rfl _ _,(Below.refl _ _).alloc (Nat.le_refl _) _⟩
  have HAB:=Lib.hid (And.intro cA cB)
  clear cA cB
  have HI:=Lib.hid cI
  clear cI
  subst hn
  go_enter Tryz.func87,Tryz.ntmps87
  go_upto_region 1 with fail
  obtain ⟨w1,ew1⟩:∃ w1,(W.alloc (.cells #[.int .i64 26,.int .i64 rg,.int .i64 ty,.int .i64 (k:Int),.int .i64 fl,.slice ap al ac,.slice tp tl tc] 43))=w1:=⟨_,rfl⟩
  rw [ew1] at HS0 ⊢
  clear ew1
  go_cut [5,6] (fun ta tb wx=>OS wx W.heap.size ta A∧OS wx W.heap.size tb B∧OneS W [.int .i64 26,.int .i64 rg,.int .i64 ty,.int .i64 (k:Int),.int .i64 fl,.slice ap al ac,.slice tp tl tc] wx)
  case first =>
    have HSS:∀ w,OneS W [.int .i64 26,.int .i64 rg,.int .i64 ty,.int .i64 (k:Int),.int .i64 fl,.slice ap al ac,.slice tp tl tc] w→(w.cell? ⟨W.heap.size,5,none⟩=some (.slice ap al ac)∧w.cell? ⟨W.heap.size,6,none⟩=some (.slice tp tl tc)):=fun w h=>⟨h.1.get 5 _ rfl,h.1.get 6 _ rfl⟩
    obtain ⟨y0_,y1_⟩:=HSS w1 HS0.out
    have kh:OneS W [.int .i64 26,.int .i64 rg,.int .i64 ty,.int .i64 (k:Int),.int .i64 fl,.slice ap al ac,.slice tp tl tc] w1:=HS0.out
    have cO1:∀ w,((w.cell? ⟨W.heap.size,5,none⟩=some (.slice ap al ac)∧w.cell? ⟨W.heap.size,6,none⟩=some (.slice tp tl tc))∧OneS W [.int .i64 26,.int .i64 rg,.int .i64 ty,.int .i64 (k:Int),.int .i64 fl,.slice ap al ac,.slice tp tl tc] w)→Calls Tryz.prog 131 #[.slice ap al ac,.func (.func 132) #[.pointer (some ⟨b,0,none⟩)] #[]] w fun e w' => ∃ v,e=.returned v∧w'.cell? ⟨W.heap.size,5,none⟩=some (.slice ap al ac)∧w'.cell? ⟨W.heap.size,6,none⟩=some (.slice tp tl tc)∧OneS W [.int .i64 26,.int .i64 rg,.int .i64 ty,.int .i64 (k:Int),.int .i64 fl,.slice ap al ac,.slice tp tl tc] w'∧OS w' W.heap.size v A:=by
      rintro w ⟨k,kh⟩
      refine (HAB.out.1 w kh.2).mono ?_
      rintro e w' ⟨v,he,hO,hb⟩
      have h2:=kh.later hb
      obtain ⟨s0,s1⟩:=HSS w' h2
      exact ⟨v,he,s0,s1,h2,hO.mono kh.2.size⟩
    have cO2:∀ w,((w.cell? ⟨W.heap.size,5,none⟩=some (.slice ap al ac)∧w.cell? ⟨W.heap.size,6,none⟩=some (.slice tp tl tc))∧OneS W [.int .i64 26,.int .i64 rg,.int .i64 ty,.int .i64 (k:Int),.int .i64 fl,.slice ap al ac,.slice tp tl tc] w)→Calls Tryz.prog 44 #[.slice tp tl tc,.func (.func 45) #[] #[]] w fun e w' => ∃ v,e=.returned v∧w'.cell? ⟨W.heap.size,5,none⟩=some (.slice ap al ac)∧w'.cell? ⟨W.heap.size,6,none⟩=some (.slice tp tl tc)∧OneS W [.int .i64 26,.int .i64 rg,.int .i64 ty,.int .i64 (k:Int),.int .i64 fl,.slice ap al ac,.slice tp tl tc] w'∧OS w' W.heap.size v B∧Below w.heap.size w w':=by
      rintro w ⟨k,kh⟩
      refine (HAB.out.2 w kh.2).mono ?_
      rintro e w' ⟨v,he,hO,hb⟩
      have h2:=kh.later hb
      obtain ⟨s0,s1⟩:=HSS w' h2
      exact ⟨v,he,s0,s1,h2,hO.mono kh.2.size,hb⟩
    clear HSS
    go_region_held3 (fun w' => w'.cell? ⟨W.heap.size,5,none⟩=some (.slice ap al ac)∧w'.cell? ⟨W.heap.size,6,none⟩=some (.slice tp tl tc))
      (((try dsimp only);(repeat' apply And.intro) <;> (first | (with_reducible assumption) | (rw [World.cell?_drew];with_reducible assumption) | (refine (cell_alloc_lt ?_).trans ?_ <;> with_reducible assumption) | (simp <;> omega))))
      (first
        | ((with_reducible refine' (cO1 _ ?pre).mono ?_)
           case pre=>(refine ⟨⟨?_,?_⟩,?_⟩ <;> (first | (with_reducible assumption) | (rw [World.cell?_drew];with_reducible assumption) | (with_reducible apply OneS.drew;with_reducible assumption) | (simp <;> omega) | omega))
           rintro e wsA ⟨vA,rfl,a0_,a1_,sahA,hOA⟩)
        | ((with_reducible refine' (cO2 _ ?pre).mono ?_)
           case pre=>(refine ⟨⟨?_,?_⟩,?_⟩ <;> (first | (with_reducible assumption) | (rw [World.cell?_drew];with_reducible assumption) | (with_reducible apply OneS.drew;with_reducible assumption) | (simp <;> omega) | omega))
           rintro e wsB ⟨vB,rfl,b0_,b1_,sahB,hOB,hBB⟩))
    all_goals
      have HFIN:=Lib.hid (And.intro (OS.later hOA hBB) (And.intro hOB sahB))
      clear hOA hOB sahA sahB hBB a0_ a1_ b0_ b1_
      go_wp2_with fail
      go_meet
      exact ⟨HFIN.out.1,HFIN.out.2.1,HFIN.out.2.2⟩
  case rest =>
  obtain ⟨hOA,hOB,hS⟩:=hcut
  have HS:=Lib.hid (And.intro hOA (And.intro hOB hS))
  generalize wc=wx at *
  clear hOA hOB hS HS0 HAB
  have z0:=HS.out.2.2.1.get 0 _ rfl
  have z3:=HS.out.2.2.1.get 3 _ rfl
  have ci:=HI.out wx HS.out.2.2.2
  go_wp2_with fail
  refine ci.mono ?_
  rintro e w3 ⟨rfl,hb⟩
  have HX:=Lib.hid (HS.out.2.2.later hb)
  clear ci hb z0 z3
  go_wp2_with fail
  go_ret
  exact ⟨_,rfl,OS.lit w3 HX.out.2.size [D] _ rfl 1 rfl (by decide),HX.out.2.alloc HX.out.2.size _⟩
set_option maxRecDepth 100000 in
set_option maxHeartbeats 8000000 in
theorem fm_33n (b:Nat) (rg ty nn fl:Int) (ap tp:Option Addr) (al tl ac tc:Nat) (A B:List ByteArray) (W:World) (cA:∀ w,Below W.heap.size W w→Calls Tryz.prog 131 #[.slice ap al ac,.func (.func 132) #[.pointer (some ⟨b,0,none⟩)] #[]] w (OwnS A w))
    (cB:∀ w,Below W.heap.size W w→Calls Tryz.prog 44 #[.slice tp tl tc,.func (.func 45) #[] #[]] w (OwnS B w))
    (hA:A.length=0) :
    Calls Tryz.prog 87 #[.pointer (some ⟨b,0,none⟩),.agg #[.int .i64 33,.int .i64 rg,.int .i64 ty,.int .i64 nn,.int .i64 fl,.slice ap al ac,.slice tp tl tc]] W (OwnS ([]) W):=by
  have HS0:Hid (OneS W [.int .i64 33,.int .i64 rg,.int .i64 ty,.int .i64 nn,.int .i64 fl,.slice ap al ac,.slice tp tl tc] (W.alloc (.cells #[.int .i64 33,.int .i64 rg,.int .i64 ty,.int .i64 nn,.int .i64 fl,.slice ap al ac,.slice tp tl tc] 43))):=Lib.hid ⟨Box.new W rfl _ _,(Below.refl _ _).alloc (Nat.le_refl _) _⟩
  have HAB:=Lib.hid (And.intro cA cB)
  clear cA cB
  go_enter Tryz.func87,Tryz.ntmps87
  go_upto_region 1 with fail
  obtain ⟨w1,ew1⟩:∃ w1,(W.alloc (.cells #[.int .i64 33,.int .i64 rg,.int .i64 ty,.int .i64 nn,.int .i64 fl,.slice ap al ac,.slice tp tl tc] 43))=w1:=⟨_,rfl⟩
  rw [ew1] at HS0 ⊢
  clear ew1
  go_cut [5,6] (fun ta tb wx=>OS wx W.heap.size ta A∧OS wx W.heap.size tb B∧OneS W [.int .i64 33,.int .i64 rg,.int .i64 ty,.int .i64 nn,.int .i64 fl,.slice ap al ac,.slice tp tl tc] wx)
  case first =>
    have HSS:∀ w,OneS W [.int .i64 33,.int .i64 rg,.int .i64 ty,.int .i64 nn,.int .i64 fl,.slice ap al ac,.slice tp tl tc] w→(w.cell? ⟨W.heap.size,5,none⟩=some (.slice ap al ac)∧w.cell? ⟨W.heap.size,6,none⟩=some (.slice tp tl tc)):=fun w h=>⟨h.1.get 5 _ rfl,h.1.get 6 _ rfl⟩
    obtain ⟨y0_,y1_⟩:=HSS w1 HS0.out
    have kh:OneS W [.int .i64 33,.int .i64 rg,.int .i64 ty,.int .i64 nn,.int .i64 fl,.slice ap al ac,.slice tp tl tc] w1:=HS0.out
    have cO1:∀ w,((w.cell? ⟨W.heap.size,5,none⟩=some (.slice ap al ac)∧w.cell? ⟨W.heap.size,6,none⟩=some (.slice tp tl tc))∧OneS W [.int .i64 33,.int .i64 rg,.int .i64 ty,.int .i64 nn,.int .i64 fl,.slice ap al ac,.slice tp tl tc] w)→Calls Tryz.prog 131 #[.slice ap al ac,.func (.func 132) #[.pointer (some ⟨b,0,none⟩)] #[]] w fun e w' => ∃ v,e=.returned v∧w'.cell? ⟨W.heap.size,5,none⟩=some (.slice ap al ac)∧w'.cell? ⟨W.heap.size,6,none⟩=some (.slice tp tl tc)∧OneS W [.int .i64 33,.int .i64 rg,.int .i64 ty,.int .i64 nn,.int .i64 fl,.slice ap al ac,.slice tp tl tc] w'∧OS w' W.heap.size v A:=by
      rintro w ⟨k,kh⟩
      refine (HAB.out.1 w kh.2).mono ?_
      rintro e w' ⟨v,he,hO,hb⟩
      have h2:=kh.later hb
      obtain ⟨s0,s1⟩:=HSS w' h2
      exact ⟨v,he,s0,s1,h2,hO.mono kh.2.size⟩
    have cO2:∀ w,((w.cell? ⟨W.heap.size,5,none⟩=some (.slice ap al ac)∧w.cell? ⟨W.heap.size,6,none⟩=some (.slice tp tl tc))∧OneS W [.int .i64 33,.int .i64 rg,.int .i64 ty,.int .i64 nn,.int .i64 fl,.slice ap al ac,.slice tp tl tc] w)→Calls Tryz.prog 44 #[.slice tp tl tc,.func (.func 45) #[] #[]] w fun e w' => ∃ v,e=.returned v∧w'.cell? ⟨W.heap.size,5,none⟩=some (.slice ap al ac)∧w'.cell? ⟨W.heap.size,6,none⟩=some (.slice tp tl tc)∧OneS W [.int .i64 33,.int .i64 rg,.int .i64 ty,.int .i64 nn,.int .i64 fl,.slice ap al ac,.slice tp tl tc] w'∧OS w' W.heap.size v B∧Below w.heap.size w w':=by
      rintro w ⟨k,kh⟩
      refine (HAB.out.2 w kh.2).mono ?_
      rintro e w' ⟨v,he,hO,hb⟩
      have h2:=kh.later hb
      obtain ⟨s0,s1⟩:=HSS w' h2
      exact ⟨v,he,s0,s1,h2,hO.mono kh.2.size,hb⟩
    clear HSS
    go_region_held3 (fun w' => w'.cell? ⟨W.heap.size,5,none⟩=some (.slice ap al ac)∧w'.cell? ⟨W.heap.size,6,none⟩=some (.slice tp tl tc))
      (((try dsimp only);(repeat' apply And.intro) <;> (first | (with_reducible assumption) | (rw [World.cell?_drew];with_reducible assumption) | (refine (cell_alloc_lt ?_).trans ?_ <;> with_reducible assumption) | (simp <;> omega))))
      (first
        | ((with_reducible refine' (cO1 _ ?pre).mono ?_)
           case pre=>(refine ⟨⟨?_,?_⟩,?_⟩ <;> (first | (with_reducible assumption) | (rw [World.cell?_drew];with_reducible assumption) | (with_reducible apply OneS.drew;with_reducible assumption) | (simp <;> omega) | omega))
           rintro e wsA ⟨vA,rfl,a0_,a1_,sahA,hOA⟩)
        | ((with_reducible refine' (cO2 _ ?pre).mono ?_)
           case pre=>(refine ⟨⟨?_,?_⟩,?_⟩ <;> (first | (with_reducible assumption) | (rw [World.cell?_drew];with_reducible assumption) | (with_reducible apply OneS.drew;with_reducible assumption) | (simp <;> omega) | omega))
           rintro e wsB ⟨vB,rfl,b0_,b1_,sahB,hOB,hBB⟩))
    all_goals
      have HFIN:=Lib.hid (And.intro (OS.later hOA hBB) (And.intro hOB sahB))
      clear hOA hOB sahA sahB hBB a0_ a1_ b0_ b1_
      go_wp2_with fail
      go_meet
      exact ⟨HFIN.out.1,HFIN.out.2.1,HFIN.out.2.2⟩
  case rest =>
  obtain ⟨hOA,hOB,hS⟩:=hcut
  have HS:=Lib.hid (And.intro hOA (And.intro hOB hS))
  generalize wc=wx at *
  clear hOA hOB hS HS0 HAB
  have z0:=HS.out.2.2.1.get 0 _ rfl
  obtain ⟨pa,ca,eva⟩:=HS.out.1.sl.slice
  subst eva
  rw [hA] at HS ⊢
  clear hA
  go_wp2_with fail
  go_ret
  exact ⟨_,rfl,OS.nil _ _,HS.out.2.2.2⟩
set_option maxRecDepth 100000 in
set_option maxHeartbeats 8000000 in
theorem fm_30 (b:Nat) (rg ty nn fl:Int) (ap tp:Option Addr) (al tl ac tc:Nat) (A B:List ByteArray) (W:World) (cA:∀ w,Below W.heap.size W w→Calls Tryz.prog 131 #[.slice ap al ac,.func (.func 132) #[.pointer (some ⟨b,0,none⟩)] #[]] w (OwnS A w))
    (cB:∀ w,Below W.heap.size W w→Calls Tryz.prog 44 #[.slice tp tl tc,.func (.func 45) #[] #[]] w (OwnS B w))
    (nm L:ByteArray) (hnm:nm.size≤1048576) (hL:L.size≤1099538890752) (cL:∀ v w,SL w v A→Calls Tryz.prog 43 #[v] w (StrV L w))
    (cC:∀ w,Below W.heap.size W w→Calls Tryz.prog 133 #[.pointer (some ⟨b,0,none⟩),.int .i64 nn] w (StrV nm w)) :
    Calls Tryz.prog 87 #[.pointer (some ⟨b,0,none⟩),.agg #[.int .i64 30,.int .i64 rg,.int .i64 ty,.int .i64 nn,.int .i64 fl,.slice ap al ac,.slice tp tl tc]] W (OwnS ([nm++⟨#[40]⟩++L++⟨#[41]⟩]) W):=by
  have HS0:Hid (OneS W [.int .i64 30,.int .i64 rg,.int .i64 ty,.int .i64 nn,.int .i64 fl,.slice ap al ac,.slice tp tl tc] (W.alloc (.cells #[.int .i64 30,.int .i64 rg,.int .i64 ty,.int .i64 nn,.int .i64 fl,.slice ap al ac,.slice tp tl tc] 43))):=Lib.hid ⟨Box.new W rfl _ _,(Below.refl _ _).alloc (Nat.le_refl _) _⟩
  have HAB:=Lib.hid (And.intro cA cB)
  clear cA cB
  have HL:=Lib.hid (And.intro cL cC)
  clear cL cC
  go_enter Tryz.func87,Tryz.ntmps87
  go_upto_region 1 with fail
  obtain ⟨w1,ew1⟩:∃ w1,(W.alloc (.cells #[.int .i64 30,.int .i64 rg,.int .i64 ty,.int .i64 nn,.int .i64 fl,.slice ap al ac,.slice tp tl tc] 43))=w1:=⟨_,rfl⟩
  rw [ew1] at HS0 ⊢
  clear ew1
  go_cut [5,6] (fun ta tb wx=>OS wx W.heap.size ta A∧OS wx W.heap.size tb B∧OneS W [.int .i64 30,.int .i64 rg,.int .i64 ty,.int .i64 nn,.int .i64 fl,.slice ap al ac,.slice tp tl tc] wx)
  case first =>
    have HSS:∀ w,OneS W [.int .i64 30,.int .i64 rg,.int .i64 ty,.int .i64 nn,.int .i64 fl,.slice ap al ac,.slice tp tl tc] w→(w.cell? ⟨W.heap.size,5,none⟩=some (.slice ap al ac)∧w.cell? ⟨W.heap.size,6,none⟩=some (.slice tp tl tc)):=fun w h=>⟨h.1.get 5 _ rfl,h.1.get 6 _ rfl⟩
    obtain ⟨y0_,y1_⟩:=HSS w1 HS0.out
    have kh:OneS W [.int .i64 30,.int .i64 rg,.int .i64 ty,.int .i64 nn,.int .i64 fl,.slice ap al ac,.slice tp tl tc] w1:=HS0.out
    have cO1:∀ w,((w.cell? ⟨W.heap.size,5,none⟩=some (.slice ap al ac)∧w.cell? ⟨W.heap.size,6,none⟩=some (.slice tp tl tc))∧OneS W [.int .i64 30,.int .i64 rg,.int .i64 ty,.int .i64 nn,.int .i64 fl,.slice ap al ac,.slice tp tl tc] w)→Calls Tryz.prog 131 #[.slice ap al ac,.func (.func 132) #[.pointer (some ⟨b,0,none⟩)] #[]] w fun e w' => ∃ v,e=.returned v∧w'.cell? ⟨W.heap.size,5,none⟩=some (.slice ap al ac)∧w'.cell? ⟨W.heap.size,6,none⟩=some (.slice tp tl tc)∧OneS W [.int .i64 30,.int .i64 rg,.int .i64 ty,.int .i64 nn,.int .i64 fl,.slice ap al ac,.slice tp tl tc] w'∧OS w' W.heap.size v A:=by
      rintro w ⟨k,kh⟩
      refine (HAB.out.1 w kh.2).mono ?_
      rintro e w' ⟨v,he,hO,hb⟩
      have h2:=kh.later hb
      obtain ⟨s0,s1⟩:=HSS w' h2
      exact ⟨v,he,s0,s1,h2,hO.mono kh.2.size⟩
    have cO2:∀ w,((w.cell? ⟨W.heap.size,5,none⟩=some (.slice ap al ac)∧w.cell? ⟨W.heap.size,6,none⟩=some (.slice tp tl tc))∧OneS W [.int .i64 30,.int .i64 rg,.int .i64 ty,.int .i64 nn,.int .i64 fl,.slice ap al ac,.slice tp tl tc] w)→Calls Tryz.prog 44 #[.slice tp tl tc,.func (.func 45) #[] #[]] w fun e w' => ∃ v,e=.returned v∧w'.cell? ⟨W.heap.size,5,none⟩=some (.slice ap al ac)∧w'.cell? ⟨W.heap.size,6,none⟩=some (.slice tp tl tc)∧OneS W [.int .i64 30,.int .i64 rg,.int .i64 ty,.int .i64 nn,.int .i64 fl,.slice ap al ac,.slice tp tl tc] w'∧OS w' W.heap.size v B∧Below w.heap.size w w':=by
      rintro w ⟨k,kh⟩
      refine (HAB.out.2 w kh.2).mono ?_
      rintro e w' ⟨v,he,hO,hb⟩
      have h2:=kh.later hb
      obtain ⟨s0,s1⟩:=HSS w' h2
      exact ⟨v,he,s0,s1,h2,hO.mono kh.2.size,hb⟩
    clear HSS
    go_region_held3 (fun w' => w'.cell? ⟨W.heap.size,5,none⟩=some (.slice ap al ac)∧w'.cell? ⟨W.heap.size,6,none⟩=some (.slice tp tl tc))
      (((try dsimp only);(repeat' apply And.intro) <;> (first | (with_reducible assumption) | (rw [World.cell?_drew];with_reducible assumption) | (refine (cell_alloc_lt ?_).trans ?_ <;> with_reducible assumption) | (simp <;> omega))))
      (first
        | ((with_reducible refine' (cO1 _ ?pre).mono ?_)
           case pre=>(refine ⟨⟨?_,?_⟩,?_⟩ <;> (first | (with_reducible assumption) | (rw [World.cell?_drew];with_reducible assumption) | (with_reducible apply OneS.drew;with_reducible assumption) | (simp <;> omega) | omega))
           rintro e wsA ⟨vA,rfl,a0_,a1_,sahA,hOA⟩)
        | ((with_reducible refine' (cO2 _ ?pre).mono ?_)
           case pre=>(refine ⟨⟨?_,?_⟩,?_⟩ <;> (first | (with_reducible assumption) | (rw [World.cell?_drew];with_reducible assumption) | (with_reducible apply OneS.drew;with_reducible assumption) | (simp <;> omega) | omega))
           rintro e wsB ⟨vB,rfl,b0_,b1_,sahB,hOB,hBB⟩))
    all_goals
      have HFIN:=Lib.hid (And.intro (OS.later hOA hBB) (And.intro hOB sahB))
      clear hOA hOB sahA sahB hBB a0_ a1_ b0_ b1_
      go_wp2_with fail
      go_meet
      exact ⟨HFIN.out.1,HFIN.out.2.1,HFIN.out.2.2⟩
  case rest =>
  obtain ⟨hOA,hOB,hS⟩:=hcut
  have HS:=Lib.hid (And.intro hOA (And.intro hOB hS))
  generalize wc=wx at *
  clear hOA hOB hS HS0 HAB
  have z0:=HS.out.2.2.1.get 0 _ rfl
  have z3:=HS.out.2.2.1.get 3 _ rfl
  obtain ⟨pa,ca,eva⟩:=HS.out.1.sl.slice
  subst eva
  obtain ⟨na,ea⟩:∃ n,A.length=n:=⟨_,rfl⟩
  rw [ea] at HS ⊢
  clear ea
  have cc:=HL.out.2 wx HS.out.2.2.2
  go_wp2_with fail
  refine cc.mono ?_
  rintro e w2 ⟨rfl,hb⟩
  have HX:=Lib.hid (And.intro (HS.out.1.later hb) (HS.out.2.2.later hb))
  have cl:=HL.out.1 _ w2 HX.out.1.sl
  clear cc hb z0 z3
  go_wp2_with fail
  refine cl.mono ?_
  rintro e w3 ⟨rfl,hb⟩
  have HX:=Lib.hid (HX.out.2.later hb)
  clear cl hb
  go_wp2_with fail
  go_ret
  exact ⟨_,rfl,OS.lit w3 HX.out.2.size [nm++(⟨#[40]⟩:ByteArray)++L++(⟨#[41]⟩:ByteArray)] _ rfl 1 rfl (by decide),HX.out.2.alloc HX.out.2.size _⟩
end Go.Proofs.YtmmlfmplggbmiaaGreatDoor
