/- lathelaw05.SpellReads: its walk. -/
import Derived.Test.YtmmlfmplggbmiaaGreatDoorMg18
import Derived.BigQuiet
import Derived.Deep.RegionLaw
namespace Go.Proofs.YtmmlfmplggbmiaaGreatDoor
open Go.RowKit Go.Maps
set_option linter.unusedVariables false
set_option linter.unusedSimpArgs false
set_option maxRecDepth 100000
set_option maxHeartbeats 8000000
theorem spellReads_walk (s:ByteArray) (hs:s.size≤281474976710656) (W:World) (hK:Stc W) :
    Calls Tryz.prog 4 #[.string s] W fun e w' => e=.returned (.bool true)∧Below W.heap.size W w':=by
  have cl:=lives_any W hK.2.2 hK.2.1
  have cp:∀ w,Below W.heap.size W w→Calls Tryz.prog 9 #[.string s] w (PW w):=fun w h=>Parse_pw s (by omega) w (hK.later h)
  go_enter Tryz.func4,Tryz.ntmps4
  go_wp2_with fail
  refine cl.mono ?_
  rintro e w1 ⟨rfl,hb1⟩
  have c:=cp w1 hb1
  clear cl cp
  go_wp2_with fail
  refine c.mono ?_
  rintro e w2 ⟨hb,⟨cd,ln,cl,hc,rfl⟩ | ⟨m,hW,hin,rfl⟩⟩
  · have HS:=Lib.hid ((((Fm.start0 W).later (hb1.trans (hb.mono hb1.size))).push (g:=w2.heap.size) rfl [.slice none 0 0,.slice none 0 0,.slice none 0 0] 26).push (g:=w2.heap.size+1) (by simp) [.int .i64 cd,.int .i64 ln,.int .i64 cl] 33)
    have hc2:((cd:Int) != 0)=true:=by simp;omega
    clear hb hb1 c hc
    go_wp2_with fail
    go_ret
    exact ⟨rfl,HS.out.1⟩
  have HS:=Lib.hid (((((Fm.start0 W).later (hb1.trans (hb.mono hb1.size))).mod hin).push (g:=w2.heap.size) rfl [.slice m.vp m.vn m.vc,.slice m.xp m.xn m.xc,.slice m.fp m.fn m.fc] 26).push (g:=w2.heap.size+1) (by simp) [.int .i64 0,.int .i64 0,.int .i64 0] 33)
  clear hb hin c
  obtain ⟨T,eT⟩:∃ T,mkS (modT (modD m))=T:=⟨_,rfl⟩
  have hT:T.size<4611686018427387904:=by
    have hl:=modT_len hW.wf.len hW.nu.vs hW.nu.ins hW.sa
    have hz:T.size=(modT (modD m)).length:=by rw [← eT];show (modT (modD m)).toArray.size=_;simp
    omega
  have cs:∀ w,Below W.heap.size W w→ModIn w.heap.size w m→Calls Tryz.prog 8 #[.agg (modC m).toArray] w fun e w' => e=.returned (.bool true)∧Below w.heap.size w w':=fun w h hy=>by
    have:=Sayable_any m w (hK.later h).2.2 hy hW.wf
    rw [hW.sa] at this
    exact this
  have ct:∀ w (y:LMod),Below W.heap.size W w→ModIn w.heap.size w y→modD y=modD m→Calls Tryz.prog 7 #[.agg (modC y).toArray] w fun e w' => e=.returned (.string T)∧Below w.heap.size w w':=fun w y h hy hd=>by
    have:=Text_any y w (hK.later h).2.2 (hK.later h).2.1 hy (hW.wf.same hd) (hW.nu.same hd)
    rw [hd,if_pos hW.sa,eT] at this
    exact this
  have cp:∀ w,Below W.heap.size W w→Calls Tryz.prog 9 #[.string T] w (PT True (modD m) T.size w):=fun w h=>by
    have hl:=modT_len hW.wf.len hW.nu.vs hW.nu.ins hW.sa
    rw [← eT]
    exact hW.again (by omega) w (hK.later h)
  have cm:∀ w (y:LMod),ModIn w.heap.size w m→ModIn w.heap.size w y→modD y=modD m→Calls Tryz.prog 10 #[.agg (modC m).toArray,.agg (modC y).toArray] w fun e w' => e=.returned (.bool true)∧Below w.heap.size w w':=fun w y h hy hd =>
    (Same_any m y w h hy).mono fun e w' ⟨b,he,hp,hb⟩=>⟨by rw [he,hp.2 hd.symm],hb⟩
  have ct0:∀ w,Below W.heap.size W w→ModIn w.heap.size w m→Calls Tryz.prog 7 #[.agg (modC m).toArray] w fun e w' => e=.returned (.string T)∧Below w.heap.size w w':=fun w h hy=>ct w m h hy rfl
  clear hW hK eT
  obtain ⟨mm,em⟩:∃ mm:LMod,m=mm:=⟨_,rfl⟩
  obtain ⟨vp,vn,vc,vs,xp,xn,xc,xs,fp,fn,fc,fs⟩:=m
  simp only at HS ⊢
  have cs:∀ w,Below W.heap.size W w→ModIn w.heap.size w mm→Calls Tryz.prog 8 #[.agg #[.slice vp vn vc,.slice xp xn xc,.slice fp fn fc]] w fun e w' => e=.returned (.bool true)∧Below w.heap.size w w':=by rw [← em];exact cs
  have ct0:∀ w,Below W.heap.size W w→ModIn w.heap.size w mm→Calls Tryz.prog 7 #[.agg #[.slice vp vn vc,.slice xp xn xc,.slice fp fn fc]] w fun e w' => e=.returned (.string T)∧Below w.heap.size w w':=by rw [← em];exact ct0
  have cm:∀ w (y:LMod),ModIn w.heap.size w mm→ModIn w.heap.size w y→modD y=modD mm→Calls Tryz.prog 10 #[.agg #[.slice vp vn vc,.slice xp xn xc,.slice fp fn fc],.agg (modC y).toArray] w fun e w' => e=.returned (.bool true)∧Below w.heap.size w w':=by rw [← em];exact cm
  have ct:∀ w (y:LMod),Below W.heap.size W w→ModIn w.heap.size w y→modD y=modD mm→Calls Tryz.prog 7 #[.agg (modC y).toArray] w fun e w' => e=.returned (.string T)∧Below w.heap.size w w':=by rw [← em];exact ct
  have cp:∀ w,Below W.heap.size W w→Calls Tryz.prog 9 #[.string T] w (PT True (modD mm) T.size w):=by rw [← em];exact cp
  rw [em] at HS
  have HC:=Lib.hid (And.intro cs (And.intro ct0 (And.intro cp (And.intro cm ct))))
  clear cs ct0 cp cm ct em hb1
  have c:=HC.out.1 _ HS.out.1 (HS.out.m 0 rfl)
  obtain ⟨x0,x1,x2⟩:=HS.out.c3 1 rfl
  obtain ⟨z0,z1,z2⟩:=HS.out.c3 0 rfl
  go_wp2_with fail
  obtain ⟨b1,eb⟩:∃ b,w2.heap.size=b:=⟨_,rfl⟩
  rw [eb] at HS ⊢
  clear eb
  refine c.mono ?_
  rintro e w4 ⟨rfl,hb⟩
  replace HS:=Lib.hid (HS.out.later hb)
  clear c hb x0 x1 x2 z0 z1 z2
  obtain ⟨x0,x1,x2⟩:=HS.out.c3 1 rfl
  have c:=HC.out.2.1 _ HS.out.1 (HS.out.m 0 rfl)
  go_wp2_with fail
  refine c.mono ?_
  rintro e w5 ⟨rfl,hb⟩
  replace HS:=Lib.hid (HS.out.later hb)
  clear x0 x1 x2 c hb
  have c:=HC.out.2.2.1 _ HS.out.1
  obtain ⟨z,ez⟩:∃ z,T.size=z:=⟨_,rfl⟩
  rw [ez] at hT c
  go_wp2_with fail
  refine c.mono ?_
  rintro e w6 ⟨hb,⟨cd,ln,cl,k1,k2,hc,rfl⟩ | ⟨y,hz,hd,hin,rfl⟩⟩
  · have HS:=Lib.hid (((HS.out.later hb).push (g:=w6.heap.size) rfl [.slice none 0 0,.slice none 0 0,.slice none 0 0] 26).push (g:=w6.heap.size+1) (by simp) [.int .i64 cd,.int .i64 ln,.int .i64 cl] 33)
    have hz:65536<z:=Classical.byContradiction fun h=>k1 (by omega) trivial
    obtain rfl:=k2 hz
    have hz2:decide ((65536:Int)<(z:Int))=true:=by simp;omega
    have HZ:=Lib.hid hz
    clear hb HC c k1 k2 hc hT hz
    go_wp2_with fail
    go_ret
    exact ⟨by first | rfl | simp,HS.out.1⟩
  have hz2:decide ((65536:Int)<(z:Int))=false:=by simp;omega
  have HS:=Lib.hid (((HS.out.later hb).mod hin).push (g:=w6.heap.size) rfl [.slice y.vp y.vn y.vc,.slice y.xp y.xn y.xc,.slice y.fp y.fn y.fc] 26 |>.push (g:=w6.heap.size+1) (by simp) [.int .i64 0,.int .i64 0,.int .i64 0] 33)
  obtain ⟨yy,ey⟩:∃ yy:LMod,y=yy:=⟨_,rfl⟩
  obtain ⟨yvp,yvn,yvc,yvs,yxp,yxn,yxc,yxs,yfp,yfn,yfc,yfs⟩:=y
  simp only at HS ⊢
  have j1:∀ w,ModIn w.heap.size w mm→ModIn w.heap.size w yy→Calls Tryz.prog 10 #[.agg #[.slice vp vn vc,.slice xp xn xc,.slice fp fn fc],.agg #[.slice yvp yvn yvc,.slice yxp yxn yxc,.slice yfp yfn yfc]] w fun e w' => e=.returned (.bool true)∧Below w.heap.size w w':=fun w h1 h2=>by
    have:=HC.out.2.2.2.1 w yy h1 h2 (by rw [← ey];exact hd)
    rw [← ey] at this
    exact this
  have j2:∀ w,Below W.heap.size W w→ModIn w.heap.size w yy→Calls Tryz.prog 7 #[.agg #[.slice yvp yvn yvc,.slice yxp yxn yxc,.slice yfp yfn yfc]] w fun e w' => e=.returned (.string T)∧Below w.heap.size w w':=fun w h1 h2=>by
    have:=HC.out.2.2.2.2 w yy h1 h2 (by rw [← ey];exact hd)
    rw [← ey] at this
    exact this
  rw [ey] at HS
  have HJ:=Lib.hid (And.intro j1 j2)
  have HZ:=Lib.hid hz
  clear j1 j2 hd hin hb HC c ey hT hz
  have c:=HJ.out.1 _ (HS.out.m 1 rfl) (HS.out.m 0 rfl)
  obtain ⟨x0,x1,x2⟩:=HS.out.c3 3 rfl
  obtain ⟨y0,y1,y2⟩:=HS.out.c3 1 rfl
  obtain ⟨z0,z1,z2⟩:=HS.out.c3 0 rfl
  go_wp2_with fail
  obtain ⟨bm,eb⟩:∃ b,w6.heap.size=b:=⟨_,rfl⟩
  rw [eb] at HS ⊢
  clear eb
  refine c.mono ?_
  rintro e w7 ⟨rfl,hb⟩
  replace HS:=Lib.hid (HS.out.later hb)
  clear x0 x1 x2 y0 y1 y2 z0 z1 z2 c hb
  obtain ⟨y0,y1,y2⟩:=HS.out.c3 1 rfl
  have c:=HJ.out.2 _ HS.out.1 (HS.out.m 0 rfl)
  go_wp2_with fail
  refine c.mono ?_
  rintro e w8 ⟨rfl,hb⟩
  replace HS:=Lib.hid (HS.out.later hb)
  clear y0 y1 y2 c hb
  go_wp2_with fail
  go_ret
  exact ⟨by first | rfl | simp,HS.out.1⟩
end Go.Proofs.YtmmlfmplggbmiaaGreatDoor
