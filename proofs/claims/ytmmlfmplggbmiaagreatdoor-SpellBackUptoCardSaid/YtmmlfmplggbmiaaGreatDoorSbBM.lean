/- lathelaw05.SpellBack: its walk. -/
import Derived.Test.YtmmlfmplggbmiaaGreatDoorMg18
import Derived.BigQuiet
import Derived.Deep.RegionLaw
namespace Go.Proofs.YtmmlfmplggbmiaaGreatDoor
open Go.RowKit Go.Maps
set_option linter.unusedVariables false
set_option linter.unusedSimpArgs false
set_option maxRecDepth 100000
set_option maxHeartbeats 8000000
theorem spellBack_walk (m:LMod) (W:World) (hK:Stc W) (hm:ModIn W.heap.size W m) (hw:MWf m) (hn:NumOk m) :
    Calls Tryz.prog 3 #[.agg (modC m).toArray] W fun e w' => e=.returned (.bool true)∧Below W.heap.size W w':=by
  have hS:Fm W [(W.heap.size,modC m)] [m] (W.alloc (.cells (modC m).toArray 26)):=(Fm.start W hm).push rfl _ _
  have cl:∀ w,Below W.heap.size W w→Calls Tryz.prog 5 #[] w fun e w' => e=.returned (.bool true)∧Below w.heap.size w w':=fun w h=>lives_any w (hK.later h).2.2 (hK.later h).2.1
  have cf:∀ w,Below W.heap.size W w→Calls Tryz.prog 6 #[.agg (modC m).toArray,.int .i64 5000] w fun e w' => ∃ b:Bool,e=.returned (.bool b)∧Below w.heap.size w w':=fun w h=>Few_any m 5000 w (lasts_Mod _ _ _ _ _ h h.size hm)
  obtain ⟨q,eq⟩:∃ q,sayB wdB (modD m)=q:=⟨_,rfl⟩
  obtain ⟨T,eT⟩:∃ T,(if sayB wdB (modD m)=true then mkS (modT (modD m)) else ⟨#[]⟩)=T:=⟨_,rfl⟩
  have HT:Hid ((q=false→T=⟨#[]⟩)∧(q=true→T=mkS (modT (modD m)))):=Lib.hid ⟨fun h=>by rw [← eT,eq,h];rfl,fun h=>by rw [← eT,eq,h];rfl⟩
  have cs:∀ w,Below W.heap.size W w→Calls Tryz.prog 8 #[.agg (modC m).toArray] w fun e w' => e=.returned (.bool q)∧Below w.heap.size w w':=fun w h=>by
    have:=Sayable_any m w (hK.later h).2.2 (lasts_Mod _ _ _ _ _ h h.size hm) hw
    rw [eq] at this
    exact this
  have ct:∀ w (y:LMod),Below W.heap.size W w→ModIn w.heap.size w y→modD y=modD m→Calls Tryz.prog 7 #[.agg (modC y).toArray] w fun e w' => e=.returned (.string T)∧Below w.heap.size w w':=fun w y h hy hd=>by
    have:=Text_any y w (hK.later h).2.2 (hK.later h).2.1 hy (hw.same hd) (hn.same hd)
    rw [hd,eT] at this
    exact this
  have cp:∀ w,Below W.heap.size W w→q=true→Calls Tryz.prog 9 #[.string T] w (PT (modOk (modD m)) (modD m) T.size w):=fun w h hq=>by
    have hl:=modT_len hw.len hn.vs hn.ins (by rw [eq,hq])
    rw [HT.out.2 hq]
    exact Parse_said hw hn (by rw [eq,hq]) (by omega) w (hK.later h)
  have cm:∀ w (y:LMod),ModIn w.heap.size w m→ModIn w.heap.size w y→modD y=modD m→Calls Tryz.prog 10 #[.agg (modC m).toArray,.agg (modC y).toArray] w fun e w' => e=.returned (.bool true)∧Below w.heap.size w w':=fun w y h hy hd =>
    (Same_any m y w h hy).mono fun e w' ⟨b,he,hp,hb⟩=>⟨by rw [he,hp.2 hd.symm],hb⟩
  have ct0:∀ w,Below W.heap.size W w→Calls Tryz.prog 7 #[.agg (modC m).toArray] w fun e w' => e=.returned (.string T)∧Below w.heap.size w w':=fun w h=>ct w m h (lasts_Mod _ _ _ _ _ h h.size hm) rfl
  obtain ⟨OK,eO⟩:∃ OK,modOk (modD m)=OK:=⟨_,rfl⟩
  rw [eO] at cp
  have HE:=Lib.hid eq
  clear eT eq eO hw hn hm hK
  obtain ⟨mm,em⟩:∃ mm:LMod,m=mm:=⟨_,rfl⟩
  obtain ⟨vp,vn,vc,vs,xp,xn,xc,xs,fp,fn,fc,fs⟩:=m
  have HS:=Lib.hid (show Fm W [(W.heap.size,[.slice vp vn vc,.slice xp xn xc,.slice fp fn fc])] [mm] (W.alloc (.cells #[.slice vp vn vc,.slice xp xn xc,.slice fp fn fc] 26)) by rw [← em];exact hS)
  have cf:∀ w,Below W.heap.size W w→Calls Tryz.prog 6 #[.agg #[.slice vp vn vc,.slice xp xn xc,.slice fp fn fc],.int .i64 5000] w fun e w' => ∃ b:Bool,e=.returned (.bool b)∧Below w.heap.size w w':=cf
  have cs:∀ w,Below W.heap.size W w→Calls Tryz.prog 8 #[.agg #[.slice vp vn vc,.slice xp xn xc,.slice fp fn fc]] w fun e w' => e=.returned (.bool q)∧Below w.heap.size w w':=cs
  have ct0:∀ w,Below W.heap.size W w→Calls Tryz.prog 7 #[.agg #[.slice vp vn vc,.slice xp xn xc,.slice fp fn fc]] w fun e w' => e=.returned (.string T)∧Below w.heap.size w w':=ct0
  have cm:∀ w (y:LMod),ModIn w.heap.size w mm→ModIn w.heap.size w y→modD y=modD mm→Calls Tryz.prog 10 #[.agg #[.slice vp vn vc,.slice xp xn xc,.slice fp fn fc],.agg (modC y).toArray] w fun e w' => e=.returned (.bool true)∧Below w.heap.size w w':=by rw [← em];exact cm
  have ct:∀ w (y:LMod),Below W.heap.size W w→ModIn w.heap.size w y→modD y=modD mm→Calls Tryz.prog 7 #[.agg (modC y).toArray] w fun e w' => e=.returned (.string T)∧Below w.heap.size w w':=by rw [← em];exact ct
  have cp:∀ w,Below W.heap.size W w→q=true→Calls Tryz.prog 9 #[.string T] w (PT OK (modD mm) T.size w):=by rw [← em];exact cp
  show Calls Tryz.prog 3 #[.agg #[.slice vp vn vc,.slice xp xn xc,.slice fp fn fc]] W _
  have HC:=Lib.hid (And.intro cl (And.intro cf (And.intro cs (And.intro ct0 (And.intro cp (And.intro cm ct))))))
  clear cl cf cs ct0 cp cm ct hS em
  have c:=HC.out.1 _ HS.out.1
  go_enter Tryz.func3,Tryz.ntmps3
  go_wp2_with fail
  refine c.mono ?_
  rintro e w1 ⟨rfl,hb⟩
  replace HS:=Lib.hid (HS.out.later hb)
  obtain ⟨x0,x1,x2⟩:=HS.out.c3 0 rfl
  clear c hb
  have c:=HC.out.2.1 _ HS.out.1
  go_wp2_with fail
  refine c.mono ?_
  rintro e w2 ⟨few,rfl,hb⟩
  replace HS:=Lib.hid (HS.out.later hb)
  clear x0 x1 x2 c hb
  cases few
  case false =>
    go_wp2_with fail
    go_ret
    exact ⟨rfl,HS.out.1⟩
  obtain ⟨x0,x1,x2⟩:=HS.out.c3 0 rfl
  have c:=HC.out.2.2.2.1 _ HS.out.1
  go_wp2_with fail
  refine c.mono ?_
  rintro e w3 ⟨rfl,hb⟩
  replace HS:=Lib.hid (HS.out.later hb)
  clear x0 x1 x2 c hb
  obtain ⟨x0,x1,x2⟩:=HS.out.c3 0 rfl
  have c:=HC.out.2.2.1 _ HS.out.1
  go_wp2_with fail
  refine c.mono ?_
  rintro e w4 ⟨rfl,hb⟩
  replace HS:=Lib.hid (HS.out.later hb)
  clear x0 x1 x2 c hb
  cases q
  case false =>
    obtain rfl:=HT.out.1 rfl
    go_wp2_with fail
    go_ret
    exact ⟨by first | rfl | simp,HS.out.1⟩
  have c:=HC.out.2.2.2.2.1 _ HS.out.1 rfl
  clear HT HE
  go_wp2_with fail
  refine c.mono ?_
  rintro e w5 ⟨hb,⟨cd,ln,cl,-,-,hc,rfl⟩ | ⟨y,-,hd,hin,rfl⟩⟩
  · have HS:=Lib.hid (((HS.out.later hb).push (g:=w5.heap.size) rfl [.slice none 0 0,.slice none 0 0,.slice none 0 0] 26).push (g:=w5.heap.size+1) (by simp) [.int .i64 cd,.int .i64 ln,.int .i64 cl] 33)
    clear hb HC c
    rcases hc with rfl | rfl | rfl <;>
      · go_wp2_with fail
        go_ret
        exact ⟨by first | rfl | simp,HS.out.1⟩
  have HS:=Lib.hid (((HS.out.later hb).mod hin).push (g:=w5.heap.size) rfl [.slice y.vp y.vn y.vc,.slice y.xp y.xn y.xc,.slice y.fp y.fn y.fc] 26 |>.push (g:=w5.heap.size+1) (by simp) [.int .i64 0,.int .i64 0,.int .i64 0] 33)
  obtain ⟨yy,ey⟩:∃ yy:LMod,y=yy:=⟨_,rfl⟩
  obtain ⟨yvp,yvn,yvc,yvs,yxp,yxn,yxc,yxs,yfp,yfn,yfc,yfs⟩:=y
  simp only at HS ⊢
  have j1:∀ w,ModIn w.heap.size w mm→ModIn w.heap.size w yy→Calls Tryz.prog 10 #[.agg #[.slice vp vn vc,.slice xp xn xc,.slice fp fn fc],.agg #[.slice yvp yvn yvc,.slice yxp yxn yxc,.slice yfp yfn yfc]] w fun e w' => e=.returned (.bool true)∧Below w.heap.size w w':=fun w h1 h2=>by
    have:=HC.out.2.2.2.2.2.1 w yy h1 h2 (by rw [← ey];exact hd)
    rw [← ey] at this
    exact this
  have j2:∀ w,Below W.heap.size W w→ModIn w.heap.size w yy→Calls Tryz.prog 7 #[.agg #[.slice yvp yvn yvc,.slice yxp yxn yxc,.slice yfp yfn yfc]] w fun e w' => e=.returned (.string T)∧Below w.heap.size w w':=fun w h1 h2=>by
    have:=HC.out.2.2.2.2.2.2 w yy h1 h2 (by rw [← ey];exact hd)
    rw [← ey] at this
    exact this
  rw [ey] at HS
  have HJ:=Lib.hid (And.intro j1 j2)
  clear j1 j2 hd hin hb HC c ey
  have c:=HJ.out.1 _ (HS.out.m 1 rfl) (HS.out.m 0 rfl)
  obtain ⟨x0,x1,x2⟩:=HS.out.c3 2 rfl
  obtain ⟨y0,y1,y2⟩:=HS.out.c3 1 rfl
  obtain ⟨z0,z1,z2⟩:=HS.out.c3 0 rfl
  go_wp2_with fail
  obtain ⟨bm,eb⟩:∃ b,w5.heap.size=b:=⟨_,rfl⟩
  rw [eb] at HS ⊢
  clear eb
  refine c.mono ?_
  rintro e w7 ⟨rfl,hb⟩
  replace HS:=Lib.hid (HS.out.later hb)
  clear x0 x1 x2 y0 y1 y2 z0 z1 z2 c hb
  obtain ⟨y0,y1,y2⟩:=HS.out.c3 1 rfl
  have c:=HJ.out.2 _ HS.out.1 (HS.out.m 0 rfl)
  go_wp2_with fail
  refine c.mono ?_
  rintro e w8 ⟨rfl,hb⟩
  replace HS:=Lib.hid (HS.out.later hb)
  clear y0 y1 y2 c hb
  go_wp2_with fail
  go_ret
  exact ⟨by first | rfl | simp,HS.out.1⟩
end Go.Proofs.YtmmlfmplggbmiaaGreatDoor
