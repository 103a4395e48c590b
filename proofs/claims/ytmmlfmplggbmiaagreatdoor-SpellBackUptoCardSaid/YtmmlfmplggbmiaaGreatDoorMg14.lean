/- Several texts in one: SpD, SpR, SpS, SpT, SpU, SpK, SpBld, SpBle, SpKb. -/
import Derived.Deep.RegionHeld3
import Derived.Deep.DeepCutAuto
import Derived.Deep.QuietTactic
import Derived.Laws.IdiomStrings
import Derived.Test.YtmmlfmplggbmiaaGreatDoorShelf
import Derived.Lib.AppendIntMem
import Derived.Shelf.Strings.Builder1
import Derived.BigQuiet
import Derived.Test.YtmmlfmplggbmiaaGreatDoorMg13
namespace Go.Proofs.YtmmlfmplggbmiaaGreatDoor
open Go.RowKit Go.Maps
set_option linter.unusedVariables false
set_option linter.unusedSimpArgs false
def wdB (l:Tx):Bool:=decide (0<l.length)&&decide (wordSize l=l.length)
theorem word_any (s:ByteArray) (hs:s.size≤1048576) (W:World):Calls Tryz.prog 49 #[.string s] W fun e w' => e=.returned (.bool (wdB (byt s)))∧w' = W:=Word_any s (by omega) W
structure MWf (m:LMod):Prop where
  vs:∀ v∈m.vs,v.nm.size≤1048576
  xs:∀ x∈m.xs,x.nm.size≤1048576
  fs:∀ f∈m.fs,f.nm.size≤1048576
  ns:∀ f∈m.fs,∀ c∈f.bs,∀ x∈c.code,-9223372036854775808≤x.1.n∧x.1.n≤9223372036854775807
  z:modZ (modD m)≤1048576
set_option maxRecDepth 100000 in
theorem isVar_any (v:PVar) (hs:v.nm.size≤1048576) (W:World):Calls Tryz.prog 18 #[.agg #[.string v.nm,.int .i64 v.size]] W (Ans (.bool (wdB (byt v.nm)&&decide (0≤v.size))) W):=by
  have c:=word_any v.nm hs
  obtain ⟨nm,sz⟩:=v
  simp only at c ⊢
  obtain ⟨q,eq⟩:∃ q,wdB (byt nm)=q:=⟨_,rfl⟩
  simp only [eq] at c ⊢
  clear eq hs
  go_enter Tryz.func18,Tryz.ntmps18
  go_wp2_with fail
  refine (c _).mono ?_
  rintro e w2 ⟨rfl,rfl⟩
  cases q
  · go_wp2_with fail
    go_ret
    exact ⟨rfl,(Below.refl _ _).alloc (Nat.le_refl _) _⟩
  · by_cases h:0≤sz
    · have d:decide ((0:Int)≤sz)=true:=by simp [h]
      have H:=Lib.hid h
      clear h
      go_wp2_with fail
      go_ret
      exact ⟨ret_bool (by simp [H.out]),(Below.refl _ _).alloc (Nat.le_refl _) _⟩
    · have d:decide ((0:Int)≤sz)=false:=by simp;omega
      have H:=Lib.hid h
      clear h
      go_wp2_with fail
      go_ret
      exact ⟨ret_bool (by simp [H.out]),(Below.refl _ _).alloc (Nat.le_refl _) _⟩
set_option maxRecDepth 100000 in
theorem isHead_any (nm:ByteArray) (pp:Option Addr) (pn pc:Nat) (ps:List Int) (rt:Int) (hs:nm.size≤1048576) (W:World) (h:ListIn intC NoMem W.heap.size W pp pn pc ps) :
    Calls Tryz.prog 23 #[.string nm,.slice pp pn pc,.int .i64 rt] W (Ans (.bool (headB wdB nm ps rt)) W):=by
  have c0:=word_any nm hs
  have c1:Calls Tryz.prog 54 #[.slice pp pn pc,.func (.func 38) #[] #[]] W (Ans (.bool (ps.all tyB)) W) :=
    each_I lasts_NoMem tyB pp pn pc ps W h _ #[] (fun _ _=>rfl) (fun i hi w' hb' => (isType_any ps[i] w').mono (fun e w2 ⟨h1,h2⟩=>⟨h1,by rw [h2];exact Below.refl _ _⟩))
  have c2:=isType_any rt
  unfold headB
  obtain ⟨q0,e0⟩:∃ q,wdB (byt nm)=q:=⟨_,rfl⟩
  obtain ⟨q1,e1⟩:∃ q,ps.all tyB=q:=⟨_,rfl⟩
  obtain ⟨q2,e2⟩:∃ q,tyB rt=q:=⟨_,rfl⟩
  simp only [e0] at c0
  simp only [e1] at c1
  simp only [e2] at c2
  rw [e0,e1,e2]
  clear e0 e1 e2 h hs
  go_enter Tryz.func23,Tryz.ntmps23
  go_wp2_with fail
  refine (c0 _).mono ?_
  rintro e w2 ⟨rfl,rfl⟩
  cases q0
  case false =>
    go_wp2_with fail
    go_ret
    exact ⟨rfl,Below.refl _ _⟩
  go_wp2_with fail
  refine c1.mono ?_
  rintro e w3 ⟨rfl,hb⟩
  have HB:=Lib.hid hb
  clear c1 hb
  cases q1
  case false =>
    go_wp2_with fail
    go_ret
    exact ⟨rfl,HB.out⟩
  go_wp2_with fail
  refine (c2 _).mono ?_
  rintro e w4 ⟨rfl,rfl⟩
  cases q2
  all_goals
    go_wp2_with fail
    go_ret
    exact ⟨rfl,HB.out⟩
set_option maxRecDepth 100000 in
theorem isExtern_any (x:LExt) (hs:x.nm.size≤1048576) (W:World) (h:ExtIn W.heap.size W x) :
    Calls Tryz.prog 20 #[.agg #[.string x.nm,.slice x.pp x.pn x.pc,.int .i64 x.rt]] W (Ans (.bool (headB wdB x.nm x.ps x.rt)) W):=by
  have hb:Below W.heap.size W (W.alloc (.cells #[.string x.nm,.slice x.pp x.pn x.pc,.int .i64 x.rt] 52)):=(Below.refl _ _).alloc (Nat.le_refl _) _
  have c:=isHead_any x.nm x.pp x.pn x.pc x.ps x.rt hs (W.alloc (.cells #[.string x.nm,.slice x.pp x.pn x.pc,.int .i64 x.rt] 52)) (ListIn.lasts lasts_NoMem h hb hb.size)
  have HB:=Lib.hid hb
  obtain ⟨nm,pp,pn,pc,ps,rt⟩:=x
  simp only at c HB ⊢
  clear h hb hs
  go_enter Tryz.func20,Tryz.ntmps20
  go_wp2_with fail
  refine c.mono ?_
  rintro e w2 ⟨rfl,hb⟩
  have HB2:=Lib.hid (HB.out.trans (hb.mono HB.out.size))
  clear hb c
  go_wp2_with fail
  go_ret
  exact ⟨rfl,HB2.out⟩
def OneS (W:World) (mv:List Value) (w:World):Prop:=Box W.heap.size mv w∧Below W.heap.size W w
theorem OneS.later {W w w':World} {mv:List Value} (h:OneS W mv w) (hb:Below w.heap.size w w'):OneS W mv w':=⟨h.1.later hb,h.2.trans (hb.mono h.2.size)⟩
theorem OneS.alloc {W w:World} {mv:List Value} (h:OneS W mv w) (o:Obj):OneS W mv (w.alloc o):=h.later ((Below.refl _ _).alloc (Nat.le_refl _) o)
section
variable (m:LMod) (W:World) (hO:Ops W) (hm:ModIn W.heap.size W m) (hw:MWf m)
include hO hm hw
set_option maxRecDepth 100000 in
theorem say111_any (x:LI) (hx:InsIn W.heap.size W x) (hn:-9223372036854775808≤x.1.n∧x.1.n≤9223372036854775807) (w:World) (hS:OneS W (modC m) w) :
    Calls Tryz.prog 27 #[.agg #[.int .i64 x.1.op,.int .i64 x.1.reg,.int .i64 x.1.ty,.int .i64 x.1.n,.int .i64 x.1.fl,.slice x.1.ap x.1.al x.1.ac,.slice x.1.tp x.1.tl x.1.tc],.pointer (some ⟨W.heap.size,0,none⟩)] w (Ans (.bool (insB (modD m) (insD x))) w):=by
  have hb1:Below w.heap.size w (w.alloc (.cells (liC x).toArray 43)):=(Below.refl _ _).alloc (Nat.le_refl _) _
  have hS1:=hS.later hb1
  have c:=isInstr_any m x (w.alloc (.cells (liC x).toArray 43)) (hO.later hS1.2) (lasts_Mod _ _ _ _ _ hS1.2 hS1.2.size hm) (lasts_Ins _ _ _ _ _ hS1.2 hS1.2.size hx) hw.z hn.1 hn.2
  have HB:=Lib.hid hb1
  obtain ⟨q,eq⟩:∃ q,insB (modD m) (insD x)=q:=⟨_,rfl⟩
  rw [eq] at c ⊢
  clear eq hS1 hb1 hO hm hw hx hn
  obtain ⟨⟨op,rg,ty,nn,fl,ap,al,ac,tp,tl,tc,rs⟩,ts⟩:=x
  obtain ⟨vp,vn,vc,vs,xp,xn,xc,xs,fp,fn,fc,fs⟩:=m
  have y0:=hS.1.get 0 _ rfl
  have y1:=hS.1.get 1 _ rfl
  have y2:=hS.1.get 2 _ rfl
  try simp only at y0 y1 y2
  have hlw:W.heap.size<w.heap.size:=hS.1.1
  have c:Calls Tryz.prog 28 #[.agg #[.slice vp vn vc,.slice xp xn xc,.slice fp fn fc],.agg #[.int .i64 op,.int .i64 rg,.int .i64 ty,.int .i64 nn,.int .i64 fl,.slice ap al ac,.slice tp tl tc]] (w.alloc (.cells #[.int .i64 op,.int .i64 rg,.int .i64 ty,.int .i64 nn,.int .i64 fl,.slice ap al ac,.slice tp tl tc] 43)) (Ans (.bool q) _):=c
  have HB:Hid (Below w.heap.size w (w.alloc (.cells #[.int .i64 op,.int .i64 rg,.int .i64 ty,.int .i64 nn,.int .i64 fl,.slice ap al ac,.slice tp tl tc] 43))):=HB
  clear hS
  simp only
  go_enter Tryz.func27,Tryz.ntmps27
  go_wp2_with fail
  refine c.mono ?_
  rintro e w2 ⟨rfl,hb⟩
  have HB2:=Lib.hid (HB.out.trans (hb.mono HB.out.size))
  clear hb c
  go_wp2_with fail
  go_ret
  exact ⟨rfl,HB2.out⟩
set_option maxRecDepth 100000 in
theorem say11_any (b:LB) (hx:BlkIn W.heap.size W b) (hn:∀ x∈b.code,-9223372036854775808≤x.1.n∧x.1.n≤9223372036854775807) (w:World) (hS:OneS W (modC m) w) :
    Calls Tryz.prog 25 #[.agg #[.slice b.p b.n b.k],.pointer (some ⟨W.heap.size,0,none⟩)] w (Ans (.bool ((blkD b).all (insB (modD m)))) w):=by
  have hb1:Below w.heap.size w (w.alloc (.cells #[.slice b.p b.n b.k] 46)):=(Below.refl _ _).alloc (Nat.le_refl _) _
  have hS1:=hS.later hb1
  have hall:(blkD b).all (insB (modD m))=b.code.all fun x=>insB (modD m) (insD x):=by unfold blkD;rw [List.all_map];rfl
  have c:=each_L lasts_Ins (fun x=>insB (modD m) (insD x)) b.p b.n b.k b.code (w.alloc (.cells #[.slice b.p b.n b.k] 46)) (ListIn.lasts lasts_Ins hx hS1.2 hS1.2.size) 27 #[.pointer (some ⟨W.heap.size,0,none⟩)] (fun _ _=>rfl) (fun i hi w' hb' => say111_any m W hO hm hw b.code[i] (hx.2.2.2.2 _ (List.getElem_mem hi)) (hn _ (List.getElem_mem hi)) w' (hS1.later hb'))
  rw [← hall] at c
  have HB:=Lib.hid hb1
  obtain ⟨q,eq⟩:∃ q,(blkD b).all (insB (modD m))=q:=⟨_,rfl⟩
  rw [eq] at c ⊢
  clear eq hall hS1 hS hb1 hO hm hw hx hn
  obtain ⟨p,n,k,code⟩:=b
  simp only at c HB ⊢
  go_enter Tryz.func25,Tryz.ntmps25
  go_wp2_with fail
  refine c.mono ?_
  rintro e w2 ⟨rfl,hb⟩
  have HB2:=Lib.hid (HB.out.trans (hb.mono HB.out.size))
  clear hb c
  go_wp2_with fail
  go_ret
  exact ⟨rfl,HB2.out⟩
set_option maxRecDepth 100000 in
theorem say1_any (f:LFn) (hx:FnIn W.heap.size W f) (hs:f.nm.size≤1048576) (hn:∀ c∈f.bs,∀ x∈c.code,-9223372036854775808≤x.1.n∧x.1.n≤9223372036854775807) (w:World) (hS:OneS W (modC m) w) :
    Calls Tryz.prog 22 #[.agg #[.string f.nm,.slice f.pp f.pn f.pc,.int .i64 f.rt,.slice f.bp f.bn f.bc],.pointer (some ⟨W.heap.size,0,none⟩)] w (Ans (.bool (fnB wdB (modD m) (fnD f))) w):=by
  have hb1:Below w.heap.size w (w.alloc (.cells (fnC f).toArray 49)):=(Below.refl _ _).alloc (Nat.le_refl _) _
  have hS1:=hS.later hb1
  have hbx:=Box.new w rfl (fnC f) 49
  have hall:fnB wdB (modD m) (fnD f)=(headB wdB f.nm f.ps f.rt&&f.bs.all fun c=>(blkD c).all (insB (modD m))):=by
    unfold fnB fnD
    simp only [List.all_map]
    rfl
  have c1:=isHead_any f.nm f.pp f.pn f.pc f.ps f.rt hs (w.alloc (.cells (fnC f).toArray 49)) (hx.1.lasts lasts_NoMem hS1.2 hS1.2.size)
  have c2:∀ w',Below (w.alloc (.cells (fnC f).toArray 49)).heap.size (w.alloc (.cells (fnC f).toArray 49)) w'→Calls Tryz.prog 24 #[.slice f.bp f.bn f.bc,.func (.func 25) #[] #[.pointer (some ⟨W.heap.size,0,none⟩)]] w' (Ans (.bool (f.bs.all fun c=>(blkD c).all (insB (modD m)))) w'):=fun w' hb' => by
    have hS2:=hS1.later hb'
    exact each_B lasts_Blk (fun c=>(blkD c).all (insB (modD m))) f.bp f.bn f.bc f.bs w' (hx.2.lasts lasts_Blk hS2.2 hS2.2.size) 25 #[.pointer (some ⟨W.heap.size,0,none⟩)] (fun _ _=>rfl) (fun i hi w'' hb'' => say11_any m W hO hm hw f.bs[i] (hx.2.2.2.2.2 _ (List.getElem_mem hi)) (hn _ (List.getElem_mem hi)) w'' (hS2.later hb''))
  rw [hall]
  have HB:=Lib.hid (And.intro hb1 hbx)
  obtain ⟨q1,e1⟩:∃ q,headB wdB f.nm f.ps f.rt=q:=⟨_,rfl⟩
  obtain ⟨q2,e2⟩:∃ q,(f.bs.all fun c=>(blkD c).all (insB (modD m)))=q:=⟨_,rfl⟩
  simp only [e1] at c1 ⊢
  simp only [e2] at c2 ⊢
  have HC:=Lib.hid c2
  clear e1 e2 hall hS1 hS hb1 hbx hO hm hw hx hn hs c2
  obtain ⟨nm,pp,pn,pc,ps,rt,bp,bn,bc,bs⟩:=f
  have c1:Calls Tryz.prog 23 #[.string nm,.slice pp pn pc,.int .i64 rt] (w.alloc (.cells #[.string nm,.slice pp pn pc,.int .i64 rt,.slice bp bn bc] 49)) (Ans (.bool q1) _):=c1
  have HB:Hid (Below w.heap.size w (w.alloc (.cells #[.string nm,.slice pp pn pc,.int .i64 rt,.slice bp bn bc] 49))∧Box w.heap.size [.string nm,.slice pp pn pc,.int .i64 rt,.slice bp bn bc] (w.alloc (.cells #[.string nm,.slice pp pn pc,.int .i64 rt,.slice bp bn bc] 49))):=HB
  have HC:Hid (∀ w',Below (w.alloc (.cells #[.string nm,.slice pp pn pc,.int .i64 rt,.slice bp bn bc] 49)).heap.size (w.alloc (.cells #[.string nm,.slice pp pn pc,.int .i64 rt,.slice bp bn bc] 49)) w'→Calls Tryz.prog 24 #[.slice bp bn bc,.func (.func 25) #[] #[.pointer (some ⟨W.heap.size,0,none⟩)]] w' (Ans (.bool q2) w')):=HC
  simp only
  go_enter Tryz.func22,Tryz.ntmps22
  go_wp2_with fail
  refine c1.mono ?_
  rintro e w2 ⟨rfl,hb⟩
  have c2:=HC.out w2 hb
  have HB2:=Lib.hid (And.intro (HB.out.1.trans (hb.mono HB.out.1.size)) (HB.out.2.later hb))
  clear hb c1
  cases q1
  case false =>
    go_wp2_with fail
    go_ret
    exact ⟨rfl,HB2.out.1⟩
  have y3:=HB2.out.2.get 3 _ rfl
  go_wp2_with fail
  refine c2.mono ?_
  rintro e w3 ⟨rfl,hb⟩
  have HB3:=Lib.hid (HB2.out.1.trans (hb.mono HB2.out.1.size))
  clear hb c2 y3
  cases q2
  all_goals
    go_wp2_with fail
    go_ret
    exact ⟨rfl,HB3.out⟩
set_option maxRecDepth 100000 in
theorem Sayable_any:Calls Tryz.prog 8 #[.agg (modC m).toArray] W (Ans (.bool (sayB wdB (modD m))) W):=by
  have hb1:Below W.heap.size W (W.alloc (.cells (modC m).toArray 26)):=(Below.refl _ _).alloc (Nat.le_refl _) _
  have hS1:OneS W (modC m) (W.alloc (.cells (modC m).toArray 26)):=⟨Box.new W rfl _ _,hb1⟩
  have hall:sayB wdB (modD m)=((m.vs.all fun v=>wdB (byt v.nm)&&decide (0≤v.size))&&(m.xs.all fun x=>headB wdB x.nm x.ps x.rt)&&m.fs.all fun f=>fnB wdB (modD m) (fnD f)):=by
    unfold sayB modD
    simp only [List.all_map]
    rfl
  have c1:=each_V lasts_NoMem (fun v=>wdB (byt v.nm)&&decide (0≤v.size)) m.vp m.vn m.vc m.vs (W.alloc (.cells (modC m).toArray 26)) (hm.1.lasts lasts_NoMem hS1.2 hS1.2.size) 18 #[] (fun _ _=>rfl) (fun i hi w' hb' => isVar_any m.vs[i] (hw.vs _ (List.getElem_mem hi)) w')
  have c2:∀ w',OneS W (modC m) w'→Calls Tryz.prog 19 #[.slice m.xp m.xn m.xc,.func (.func 20) #[] #[]] w' (Ans (.bool (m.xs.all fun x=>headB wdB x.nm x.ps x.rt)) w'):=fun w' hS =>
    each_X lasts_Ext (fun x=>headB wdB x.nm x.ps x.rt) m.xp m.xn m.xc m.xs w' (hm.2.1.lasts lasts_Ext hS.2 hS.2.size) 20 #[] (fun _ _=>rfl) (fun i hi w'' hb'' => isExtern_any m.xs[i] (hw.xs _ (List.getElem_mem hi)) w'' (lasts_Ext _ _ _ _ _ (hS.later hb'').2 (hS.later hb'').2.size (hm.2.1.2.2.2.2 _ (List.getElem_mem hi))))
  have c3:∀ w',OneS W (modC m) w'→Calls Tryz.prog 21 #[.slice m.fp m.fn m.fc,.func (.func 22) #[] #[.pointer (some ⟨W.heap.size,0,none⟩)]] w' (Ans (.bool (m.fs.all fun f=>fnB wdB (modD m) (fnD f))) w'):=fun w' hS =>
    each_F lasts_Fn (fun f=>fnB wdB (modD m) (fnD f)) m.fp m.fn m.fc m.fs w' (hm.2.2.lasts lasts_Fn hS.2 hS.2.size) 22 #[.pointer (some ⟨W.heap.size,0,none⟩)] (fun _ _=>rfl) (fun i hi w'' hb'' => say1_any m W hO hm hw m.fs[i] (hm.2.2.2.2.2.2 _ (List.getElem_mem hi)) (hw.fs _ (List.getElem_mem hi)) (hw.ns _ (List.getElem_mem hi)) w'' (hS.later hb''))
  rw [hall]
  obtain ⟨q1,e1⟩:∃ q,(m.vs.all fun v=>wdB (byt v.nm)&&decide (0≤v.size))=q:=⟨_,rfl⟩
  obtain ⟨q2,e2⟩:∃ q,(m.xs.all fun x=>headB wdB x.nm x.ps x.rt)=q:=⟨_,rfl⟩
  obtain ⟨q3,e3⟩:∃ q,(m.fs.all fun f=>fnB wdB (modD m) (fnD f))=q:=⟨_,rfl⟩
  simp only [e1] at c1 ⊢
  simp only [e2] at c2 ⊢
  simp only [e3] at c3 ⊢
  have HC:=Lib.hid (And.intro c2 c3)
  have HS:=Lib.hid hS1
  clear e1 e2 e3 hall hS1 hb1 hO hm hw c2 c3
  obtain ⟨vp,vn,vc,vs,xp,xn,xc,xs,fp,fn,fc,fs⟩:=m
  have c1:Calls Tryz.prog 17 #[.slice vp vn vc,.func (.func 18) #[] #[]] (W.alloc (.cells #[.slice vp vn vc,.slice xp xn xc,.slice fp fn fc] 26)) (Ans (.bool q1) _):=c1
  have HS:Hid (OneS W [.slice vp vn vc,.slice xp xn xc,.slice fp fn fc] (W.alloc (.cells #[.slice vp vn vc,.slice xp xn xc,.slice fp fn fc] 26))):=HS
  have HC:Hid ((∀ w',OneS W [.slice vp vn vc,.slice xp xn xc,.slice fp fn fc] w'→Calls Tryz.prog 19 #[.slice xp xn xc,.func (.func 20) #[] #[]] w' (Ans (.bool q2) w'))∧(∀ w',OneS W [.slice vp vn vc,.slice xp xn xc,.slice fp fn fc] w'→Calls Tryz.prog 21 #[.slice fp fn fc,.func (.func 22) #[] #[.pointer (some ⟨W.heap.size,0,none⟩)]] w' (Ans (.bool q3) w'))):=HC
  show Calls Tryz.prog 8 #[.agg #[.slice vp vn vc,.slice xp xn xc,.slice fp fn fc]] W _
  go_enter Tryz.func8,Tryz.ntmps8
  go_wp2_with fail
  refine c1.mono ?_
  rintro e w2 ⟨rfl,hb⟩
  have HS:=Lib.hid (HS.out.later hb)
  clear hb c1
  cases q1
  case false =>
    go_wp2_with fail
    go_ret
    exact ⟨rfl,HS.out.2⟩
  have y0:=HS.out.1.get 0 _ rfl
  have y1:=HS.out.1.get 1 _ rfl
  have y2:=HS.out.1.get 2 _ rfl
  have c2:=HC.out.1 w2 HS.out
  go_wp2_with fail
  refine c2.mono ?_
  rintro e w3 ⟨rfl,hb⟩
  have HS:=Lib.hid (HS.out.later hb)
  clear hb c2 y0 y1 y2
  cases q2
  case false =>
    go_wp2_with fail
    go_ret
    exact ⟨rfl,HS.out.2⟩
  have y0:=HS.out.1.get 0 _ rfl
  have y1:=HS.out.1.get 1 _ rfl
  have y2:=HS.out.1.get 2 _ rfl
  have c3:=HC.out.2 w3 HS.out
  go_wp2_with fail
  refine c3.mono ?_
  rintro e w4 ⟨rfl,hb⟩
  have HS:=Lib.hid (HS.out.later hb)
  clear hb c3 y0 y1 y2
  cases q3
  all_goals
    go_wp2_with fail
    go_ret
    exact ⟨rfl,HS.out.2⟩
end
def cA (op:Int) (al:Nat):Int×Int :=
  if op=20∨op=21∨op=22∨op=24∨op=27 then (1,0) else if op=23 then (3,0) else if op=25 then (al,al) else if op=26∨op=34 then (0,0)
  else if op=28∨op=29 then (2,0) else if op=30 then (al,0) else if op=31 then (0,1) else if op=32 then (1,2) else if op=33 then (if al=0 then 0 else 1,0)
  else if 1≤op∧op≤19 then (2,0) else (-1,-1)

theorem head_ty {wd:Tx→Bool} {nm:ByteArray} {ps:List Int} {rt:Int} (h:headB wd nm ps rt=true):tyB rt=true:=by
  unfold headB at h
  rw [Bool.and_eq_true] at h
  exact h.2
theorem OneS.drew {W w:World} {mv:List Value} (h:OneS W mv w):OneS W mv w.drew:=h.later (below_drew (Below.refl _ _))
section
variable (m:LMod) (W:World) (hm:ModIn W.heap.size W m) (hw:MWf m)
include hm hw
omit hm in
theorem fs_small (f:LFn) (hf:f∈m.fs):fnZ (fnD f)≤1048576:=by
  have h1:=fnsZ_mem (List.mem_map_of_mem (f:=fnD) hf)
  have h2:m.vs.length+((m.xs.map extD).map extZ).sum+((m.fs.map fnD).map fnZ).sum≤1048576:=hw.z
  have h3:fnZ (fnD f)≤((m.fs.map fnD).map fnZ).sum:=h1
  omega
end
def mkS (t:Tx):ByteArray:=⟨t.toArray⟩
theorem mkS_app (a b:Tx):mkS a++mkS b=mkS (a++b):=by
  refine ByteArray.ext ?_
  rw [ByteArray.data_append]
  simp [mkS]
theorem mkS_byt (s:ByteArray):mkS (byt s)=s:=by
  refine ByteArray.ext ?_
  simp [mkS,byt]
theorem dec_len:∀ (k n:Nat),n<10 ^ (k+1)→(Lib.decDigits n).length≤k+1
  | 0,n,h=>by rw [Lib.decDigits_one (by omega)];simp
  | k + 1,n,h=>by
    by_cases h1:n<10
    · rw [Lib.decDigits_one h1];simp
    · rw [Lib.decDigits,dif_neg h1,List.length_append]
      have:=dec_len k (n / 10) (by rw [Nat.div_lt_iff_lt_mul (by omega)];rw [Nat.pow_succ] at h;exact h)
      simp
      omega
theorem dec_20 {n:Nat} (h:n<18446744073709551616):(Lib.decDigits n).length≤20:=dec_len 19 n (by omega)
theorem size_mkS (t:Tx):(mkS t).size=t.length:=by simp [mkS,ByteArray.size]
def StrV (s:ByteArray) (W:World) (e:Ending) (w':World):Prop:=e=.returned (.string s)∧Below W.heap.size W w'
theorem byt_mkS (t:Tx):byt (mkS t)=t:=by simp [byt,mkS]
end Go.Proofs.YtmmlfmplggbmiaaGreatDoor
namespace Go.Proofs.YtmmlfmplggbmiaaGreatDoor
open Go.RowKit Go.Maps Go.Sort
set_option linter.unusedVariables false
set_option linter.unusedSimpArgs false
def TabOk (W:World):Prop:=Lib.TabIs Tryz.prog W "internal/strconv.uint64pow10" .u64 Lib.pow10Tab
theorem TabOk.later {W w:World} (h:TabOk W) (hb:Below W.heap.size W w):TabOk w:=by
  unfold TabOk Lib.TabIs World.var? at *
  cases hg:Tryz.prog.globalNamed "internal/strconv.uint64pow10" with
  | none=>simp [hg] at h
  | some g =>
    simp only [hg,Option.bind_some] at h ⊢
    have hlt:g<W.heap.size:=by
      rcases Nat.lt_or_ge g W.heap.size with h' | h'
      · exact h'
      · rw [Array.getElem?_eq_none h'] at h;simp at h
    rw [hb.block g hlt]
    exact h
theorem itoa_any (k:Nat) (hk:k≤9223372036854775807) (W:World) (hT:TabOk W):Calls Tryz.prog 13 #[.int .i64 (k:Int)] W (StrV (mkS (Lib.decDigits k)) W):=by
  refine (Tryz.strconv_Itoa (k:Int) (by omega) (by omega) W hT).mono ?_
  rintro e w' ⟨rfl,n,os,rfl⟩
  refine ⟨?_,Lib.below_grow _ _ (Nat.le_refl _) _ _⟩
  rw [Lib.itoa_nonneg]
  rfl
set_option maxHeartbeats 2000000 in
set_option maxRecDepth 100000 in
theorem ufmt_any (u:Nat) (hu:u<18446744073709551616) (W:World) (hT:TabOk W):Calls Tryz.prog 183 #[.int .u64 (u:Int),.int .i64 10] W (StrV (mkS (Lib.decDigits u)) W):=by
  by_cases hs:u<100
  · have c:=fun w=>Tryz.internal_strconv_small u hs w
    have hw1:IntKind.i64.wrap (u:Int)=(u:Int):=by rw [IntKind.wrap_i64];omega
    go_enter Tryz.func183,Tryz.ntmps183
    go_wp2_with fail
    refine (c _).mono ?_
    rintro e w' ⟨rfl,rfl⟩
    go_wp2_with fail
    go_ret
    exact ⟨rfl,Below.refl _ _⟩
  · have hu1:1≤u:=by omega
    have hnd20:Lib.nDigits u≤20:=by have:=Lib.numDigits_eq u hu1 hu;split at this <;> omega
    have hb3:Lib.nDigits u≤24:=by omega
    have hal:Tryz.prog.arrayLen 150=24:=by kernel_rfl
    have hH0:=Lib.holds_zero0 W 150 (Lib.nDigits u) (by omega)
    have hfmt:=Tryz.internal_strconv_formatBase10 W.heap.size 0 24 u (Array.replicate (Lib.nDigits u) 0) (W.alloc (.cells Lib.zeros24 150)) hH0 (by rw [Array.size_replicate];exact Lib.lt_pow_nDigits u) hu (by rw [Array.size_replicate];omega)
    rw [Array.size_replicate] at hfmt
    have hnd:=fun w h=>Tryz.internal_strconv_numDigits u hu1 hu w h
    have HH0:=Lib.hid hH0
    have hsl1:∀ w,(Instr.sliceAt 150 (.pointer (some ⟨W.heap.size,0,none⟩)) none (some (.int .i64 (Lib.nDigits u:Int))) none).run Tryz.prog w=.ok (.slice (some ⟨W.heap.size,0,none⟩) (Lib.nDigits u) 24) w:=fun w=>by
      rw [run_sliceAt_array_h w 150 ⟨W.heap.size,0,none⟩ Tryz.underlying150 .i64 (Lib.nDigits u:Int) (by omega) (by rw [hal];omega)]
      go_simp
    have HU:=Lib.hid hs
    have HT:=Lib.hid hT
    have hul:¬ ((u:Int)<100):=by omega
    clear hH0 hal hs hT
    go_enter Tryz.func183,Tryz.ntmps183
    go_wp2_with fail
    refine (hnd _ (Lib.tabIs_alloc HT.out _)).mono ?_
    rintro e w' ⟨rfl,rfl⟩
    go_wp2_with fail
    refine hfmt.mono ?_
    rintro e w' ⟨rfl,k,v',dk,rfl,hF⟩
    have hcv:(convert 55 9 (.slice (some ⟨W.heap.size,0,none⟩) (Lib.nDigits u) 24)).run Tryz.prog ((putRow (fun (b:UInt8)=>Value.int .u8 (b.toNat:Int)) (W.alloc (.cells Lib.zeros24 150)) W.heap.size 0 dk).drewN k)=.ok (.string (mkS (Lib.decDigits u))) ((putRow (fun (b:UInt8)=>Value.int .u8 (b.toNat:Int)) (W.alloc (.cells Lib.zeros24 150)) W.heap.size 0 dk).drewN k):=by
      have h:=run_convert_bytes_back (P:=Tryz.prog) ((putRow (fun (b:UInt8)=>Value.int .u8 (b.toNat:Int)) (W.alloc (.cells Lib.zeros24 150)) W.heap.size 0 dk).drewN k) 55 9 5 ⟨W.heap.size,0,none⟩ 24 (Lib.decDigits u) Tryz.underlying55 Tryz.underlying5 Tryz.underlying9 (fun j hj=>by
        rw [Lib.row_is_numeral hF j hj,Lib.add_plain,World.cell?_drewN]
        exact cell?_putRow (fun (b:UInt8)=>Value.int .u8 (b.toNat:Int)) _ W.heap.size 0 _ dk HH0.out (by rw [hF.size,Array.size_replicate]) j (by rw [hF.size];rw [Lib.decDigits_length] at hj;exact hj))
      rw [Lib.decDigits_length] at h
      exact h
    go_wp2_with fail
    go_ret
    refine ⟨rfl,?_⟩
    rw [alloc_eq_grow]
    obtain ⟨os',_,e⟩:=putRow_grow_new (fun (b:UInt8)=>Value.int .u8 (b.toNat:Int)) W #[.cells Lib.zeros24 150] W.heap.size 0 dk (Nat.le_refl _)
    rw [e]
    exact Lib.below_grow _ _ (Nat.le_refl _) _ _
set_option maxRecDepth 100000 in
theorem formatUint_any (u:Nat) (hu:u<18446744073709551616) (W:World) (hT:TabOk W):Calls Tryz.prog 162 #[.int .u64 (u:Int),.int .i64 10] W (StrV (mkS (Lib.decDigits u)) W):=by
  have c:=ufmt_any u hu W hT
  obtain ⟨s,es⟩:∃ s,mkS (Lib.decDigits u)=s:=⟨_,rfl⟩
  rw [es] at c ⊢
  clear es hT
  go_enter Tryz.func162,Tryz.ntmps162
  go_wp2_with fail
  refine c.mono ?_
  rintro e w2 ⟨rfl,hb⟩
  have HB:=Lib.hid hb
  clear hb c
  go_wp2_with fail
  go_ret
  exact ⟨rfl,HB.out⟩
def SL (W:World) (v:Value) (xs:List ByteArray):Prop :=
  (xs=[]∧∃ p c,v=.slice p 0 c)∨∃ g c,v=.slice (some ⟨g,0,none⟩) xs.length c∧xs.length≤c∧c≤maxLen∧g<W.heap.size∧∀ j x,xs[j]? = some x→W.cell? ⟨g,j,none⟩=some (.string x)
theorem SL.later {W w:World} {v:Value} {xs:List ByteArray} (h:SL W v xs) (hb:Below W.heap.size W w):SL w v xs:=by
  rcases h with h | ⟨g,c,h1,h2,h3,h4,h5⟩
  · exact .inl h
  · exact .inr ⟨g,c,h1,h2,h3,Nat.lt_of_lt_of_le h4 hb.size,fun j x hj=>(hb.cell (p:=⟨g,j,none⟩) h4).trans (h5 j x hj)⟩
theorem SL.slice {W:World} {v:Value} {xs:List ByteArray} (h:SL W v xs):∃ p c,v=.slice p xs.length c:=by
  rcases h with ⟨rfl,p,c,rfl⟩ | ⟨g,c,h1,_⟩
  · exact ⟨p,c,rfl⟩
  · exact ⟨_,c,h1⟩
theorem join_sep (sep:Tx):∀ l:List Tx,Lib.join l sep=sepBy sep l
  | []=>rfl
  | [x]=>by simp [Lib.join,sepBy]
  | x::y::l=>by
    have h:=join_sep sep (y::l)
    unfold Lib.join at h ⊢
    rw [List.intercalate_cons_cons,h]
    simp [sepBy]
set_option maxRecDepth 100000 in
theorem list_any (v:Value) (xs:List ByteArray) (W:World) (h:SL W v xs) (hn:xs.length≤140737488355328) (hlen:(listT (xs.map byt)).length≤140737488355328):Calls Tryz.prog 43 #[v] W (StrV (mkS (listT (xs.map byt))) W):=by
  have c:Calls Tryz.prog 86 #[v,.string ⟨#[44,32]⟩] W (StrV (mkS (listT (xs.map byt))) W):=by
    rcases h with ⟨rfl,p,c,rfl⟩ | ⟨g,c,rfl,h2,h3,h4,h5⟩
    · exact (Tryz.strings_Join_none p c _ W).mono fun e w' ⟨he,hw⟩=>⟨he,hw▸Below.refl _ _⟩
    · have e:Lib.join (xs.map (·.data.toList)) (⟨#[44,32]⟩:ByteArray).data.toList=listT (xs.map byt):=join_sep _ _
      have:=Tryz.strings_Join g 0 c xs ⟨#[44,32]⟩ W (fun j x hj=>by rw [Nat.zero_add];exact h5 j x hj) h4 hn h2 (by rw [e];exact hlen)
      rw [e] at this
      exact this
  obtain ⟨p,cc,rfl⟩:=h.slice
  obtain ⟨s,es⟩:∃ s,mkS (listT (xs.map byt))=s:=⟨_,rfl⟩
  rw [es] at c ⊢
  clear es h hlen
  obtain ⟨n,en⟩:∃ n,xs.length=n:=⟨_,rfl⟩
  rw [en] at c ⊢
  clear en
  go_enter Tryz.func43,Tryz.ntmps43
  go_wp2_with fail
  refine c.mono ?_
  rintro e w2 ⟨rfl,hb⟩
  have HB:=Lib.hid hb
  clear hb c
  go_wp2_with fail
  go_ret
  exact ⟨rfl,HB.out⟩
set_option maxRecDepth 100000 in
theorem sRegister_any (k:Nat) (hk:k≤9223372036854775807) (W:World) (hT:TabOk W):Calls Tryz.prog 88 #[.int .i64 (k:Int)] W (StrV (mkS (regT (k:Int))) W):=by
  have c:=itoa_any k hk W hT
  have HF:Hid (⟨#[37]⟩++mkS (Lib.decDigits k)=mkS (regT (k:Int))):=Lib.hid (by rw [show (⟨#[37]⟩:ByteArray)=mkS [37] from rfl,mkS_app];rfl)
  have hl:(mkS (Lib.decDigits k)).size≤20:=by rw [size_mkS];exact dec_20 (by omega)
  obtain ⟨s,es⟩:∃ s,mkS (Lib.decDigits k)=s:=⟨_,rfl⟩
  obtain ⟨T,eT⟩:∃ T,mkS (regT (k:Int))=T:=⟨_,rfl⟩
  rw [eT] at HF ⊢
  rw [es] at c hl HF
  clear es eT hT
  go_enter Tryz.func88,Tryz.ntmps88
  go_wp2_with fail
  refine c.mono ?_
  rintro e w2 ⟨rfl,hb⟩
  have HB:=Lib.hid hb
  clear hb c
  go_wp2_with fail
  go_ret
  exact ⟨by rw [← HF.out];rfl,HB.out⟩
set_option maxRecDepth 100000 in
theorem sBlock_any (k:Nat) (hk:k≤9223372036854775807) (W:World) (hT:TabOk W):Calls Tryz.prog 45 #[.int .i64 (k:Int)] W (StrV (mkS (blockT (k:Int))) W):=by
  have c:=itoa_any k hk W hT
  have HF:Hid (⟨#[98]⟩++mkS (Lib.decDigits k)=mkS (blockT (k:Int))):=Lib.hid (by rw [show (⟨#[98]⟩:ByteArray)=mkS [98] from rfl,mkS_app];rfl)
  have hl:(mkS (Lib.decDigits k)).size≤20:=by rw [size_mkS];exact dec_20 (by omega)
  obtain ⟨s,es⟩:∃ s,mkS (Lib.decDigits k)=s:=⟨_,rfl⟩
  obtain ⟨T,eT⟩:∃ T,mkS (blockT (k:Int))=T:=⟨_,rfl⟩
  rw [eT] at HF ⊢
  rw [es] at c hl HF
  clear es eT hT
  go_enter Tryz.func45,Tryz.ntmps45
  go_wp2_with fail
  refine c.mono ?_
  rintro e w2 ⟨rfl,hb⟩
  have HB:=Lib.hid hb
  clear hb c
  go_wp2_with fail
  go_ret
  exact ⟨by rw [← HF.out];rfl,HB.out⟩
set_option maxRecDepth 100000 in
theorem sType_any (t:Int) (W:World) (hT:TabOk W):Calls Tryz.prog 11 #[.int .i64 t] W (StrV (mkS (typeT t)) W):=by
  have ct:=isType_any t W
  by_cases h0:t=0
  · subst h0
    go_enter Tryz.func11,Tryz.ntmps11
    go_wp2_with fail
    go_ret
    exact ⟨rfl,Below.refl _ _⟩
  have d0:(t==(0:Int))=false:=by simp;exact h0
  by_cases h1:t=65
  · subst h1
    go_enter Tryz.func11,Tryz.ntmps11
    go_wp2_with fail
    go_ret
    exact ⟨rfl,Below.refl _ _⟩
  have d1:(t==(65:Int))=false:=by simp;exact h1
  by_cases h2:0<t∧t<65
  · rw [show tyB t=true by unfold tyB;simp;omega] at ct
    obtain ⟨k,rfl⟩:∃ k:Nat,t=k:=⟨t.toNat,by omega⟩
    have HF:Hid (⟨#[105]⟩++mkS (Lib.decDigits k)=mkS (typeT (k:Int))):=Lib.hid (by
      rw [show (⟨#[105]⟩:ByteArray)=mkS [105] from rfl,mkS_app]
      unfold typeT
      rw [if_neg h0,if_neg h1,if_pos h2]
      rfl)
    have c:=itoa_any k (by omega) W hT
    have hk:k<65:=by omega
    have hl:(mkS (Lib.decDigits k)).size≤20:=by rw [size_mkS];exact dec_20 (by omega)
    obtain ⟨s,es⟩:∃ s,mkS (Lib.decDigits k)=s:=⟨_,rfl⟩
    obtain ⟨T,eT⟩:∃ T,mkS (typeT (k:Int))=T:=⟨_,rfl⟩
    rw [eT] at HF ⊢
    rw [es] at c hl HF
    clear h0 h1 h2 es eT hT
    have C:=Lib.hid c
    clear c
    go_enter Tryz.func11,Tryz.ntmps11
    go_wp2_with fail
    refine ct.mono ?_
    rintro e w1 ⟨rfl,rfl⟩
    go_wp2_with fail
    refine C.out.mono ?_
    rintro e w1 ⟨rfl,hb⟩
    have HB:=Lib.hid hb
    clear hb
    go_wp2_with fail
    go_ret
    exact ⟨by rw [← HF.out];rfl,HB.out⟩
  · rw [show tyB t=false by unfold tyB;simp;omega] at ct
    have hty:typeT t=[]:=by
      unfold typeT
      rw [if_neg h0,if_neg h1,if_neg h2]
    rw [hty]
    clear h0 h1 h2 hty hT
    go_enter Tryz.func11,Tryz.ntmps11
    go_wp2_with fail
    refine ct.mono ?_
    rintro e w1 ⟨rfl,rfl⟩
    go_wp2_with fail
    go_ret
    exact ⟨rfl,Below.refl _ _⟩
end Go.Proofs.YtmmlfmplggbmiaaGreatDoor
namespace Go.Proofs.YtmmlfmplggbmiaaGreatDoor
open Go.RowKit Go.Maps
set_option linter.unusedVariables false
set_option linter.unusedSimpArgs false
def Bld (T:TypeId) (pre:List Value) (B b:Nat) (l:Tx) (w:World):Prop :=
  B≤b∧∃ p v,w.heap[b]? = some (.cells (pre++[p,v]).toArray T (0,0))∧(p=.pointer none∨p=.pointer (some ⟨b,pre.length,none⟩))∧w.ownsRow B 5 1 v l.length (Lib.byteCells l)∧v.ownBlock≠some b
def BldU (T:TypeId) (pre:List Value) (B b:Nat) (l:Tx) (w:World):Prop :=
  B≤b∧∃ v,w.heap[b]? = some (.cells (pre++[.pointer (some ⟨b,pre.length,none⟩),v]).toArray T (0,0))∧w.ownsRow B 5 1 v l.length (Lib.byteCells l)∧v.ownBlock≠some b
theorem BldU.bld {T:TypeId} {pre:List Value} {B b:Nat} {l:Tx} {w:World} (h:BldU T pre B b l w):Bld T pre B b l w:=by
  obtain ⟨hB,v,h1,h2,h3⟩:=h
  exact ⟨hB,_,v,h1,.inr rfl,h2,h3⟩
theorem Bld.lt {T:TypeId} {pre:List Value} {B b:Nat} {l:Tx} {w:World} (h:Bld T pre B b l w):b<w.heap.size:=by
  obtain ⟨_,p,v,hb,_⟩:=h
  rcases Nat.lt_or_ge b w.heap.size with h' | h'
  · exact h'
  · simp [Array.getElem?_eq_none h'] at hb
def Kp (b:Nat) (w w':World):Prop:=∀ k,k≠b→∀ cs T q,T≠5→w.heap[k]? = some (.cells cs T q)→w'.heap[k]? = some (.cells cs T q)
theorem heap_lt {w:World} {k:Nat} {o:Obj} (h:w.heap[k]? = some o):k<w.heap.size:=by
  rcases Nat.lt_or_ge k w.heap.size with h' | h'
  · exact h'
  · simp [Array.getElem?_eq_none h'] at h
theorem Kp.refl (b:Nat) (w:World):Kp b w w:=fun _ _ _ _ _ _ h=>h
theorem Kp.trans {b:Nat} {w w1 w2:World} (h:Kp b w w1) (k:Kp b w1 w2):Kp b w w2:=fun j hj cs T q hT hh=>k j hj cs T q hT (h j hj cs T q hT hh)
theorem Kp.below (b:Nat) {w w':World} (h:Below w.heap.size w w'):Kp b w w':=fun k _ cs T q _ hh=>(h.block k (heap_lt hh)).trans hh
theorem Kp.setCell (b:Nat) (w:World) (i:Nat) (v:Value):Kp b w (w.setCell ⟨b,i,none⟩ v):=fun k hk cs T q _ hh=>(Below.heap_setCell _ _ _ _ (fun e=>hk (by simp [e]))).trans hh
theorem Kp.grown {b B:Nat} {w w':World} {v:Value} {n:Nat} {cs:List Value} (hown:w.ownsRow B 5 1 v n cs) (hg:w.grownBy w' v.ownBlock):Kp b w w':=fun k hk cs' T q hT hh =>
  (hg.block k (heap_lt hh) (fun e=>by
    rcases hown.2 with ⟨rfl,_⟩ | ⟨g,cap,cur,rfl,_,hgg,_⟩
    · cases e
    · have:k=g:=by simpa [Value.ownBlock] using e
      subst this
      rw [hgg] at hh
      injection hh with hh
      injection hh with _ h2 _
      exact hT h2.symm)).trans hh
theorem cells_pre (pre:List Value) (p v:Value):(pre++[p,v]).toArray[pre.length]? = some p:=by simp
theorem cells_pre1 (pre:List Value) (p v:Value):(pre++[p,v]).toArray[pre.length+1]? = some v:=by simp
theorem cells_set0 (pre:List Value) (p v q:Value):(pre++[p,v]).toArray.setIfInBounds pre.length q=(pre++[q,v]).toArray:=by simp
theorem cells_set1 (pre:List Value) (p v q:Value):(pre++[p,v]).toArray.setIfInBounds (pre.length+1) q=(pre++[p,q]).toArray:=by
  rw [List.setIfInBounds_toArray,List.set_append_right _ _ (by omega)]
  congr 2
  rw [show pre.length+1 - pre.length=1 by omega]
  rfl
set_option maxHeartbeats 1000000 in
set_option maxRecDepth 100000 in
theorem copyCheck_used (b o:Nat) (w:World) (h0:w.cell? ⟨b,o,none⟩=some (.pointer (some ⟨b,o,none⟩))) :
    Calls Tryz.prog 83 #[.pointer (some ⟨b,o,none⟩)] w fun e w' => e=.returned (.tuple #[])∧w' = w:=by
  have hs:(Tryz.prog.info? 57).map (·.size)=some 2:=by kernel_rfl
  obtain ⟨j,hj,_⟩:=Option.map_eq_some_iff.1 hs
  clear hs
  have HJ:=Lib.hid hj
  clear hj
  go_enter Tryz.func83,Tryz.ntmps83
  go_wp2
  rw [Lib.run_neq_ptr_same w _ Tryz.underlying54 HJ.out]
  go_wp2
  go_end0
  exact ⟨rfl,rfl⟩
set_option maxHeartbeats 1000000 in
set_option maxRecDepth 100000 in
theorem copyCheck_fresh (T:TypeId) (b o n:Nat) (w:World) (h0:w.cell? ⟨b,o,none⟩=some (.pointer none)) (hsh:w.shape? b=some (T,n)) (ho:o<n) (hl:liesAt Tryz.prog Tryz.prog.depth T (n / Tryz.prog.cellsOf T) o 57 1=true) (hfz:w.frozen? ⟨b,o,none⟩=false) :
    Calls Tryz.prog 83 #[.pointer (some ⟨b,o,none⟩)] w fun e w' => e=.returned (.tuple #[])∧w' = w.setCell ⟨b,o,none⟩ (.pointer (some ⟨b,o,none⟩)):=by
  have hs:(Tryz.prog.info? 57).map (·.size)=some 2:=by kernel_rfl
  obtain ⟨j,hj,hjs⟩:=Option.map_eq_some_iff.1 hs
  clear hs
  have HJ:=Lib.hid hj
  have HS:=Lib.hid hjs
  have HSH:=Lib.hid hsh
  have HL:=Lib.hid hl
  have HO:=Lib.hid ho
  clear hj hjs hsh hl ho
  go_enter Tryz.func83,Tryz.ntmps83
  go_wp2
  rw [Lib.run_to_unsafe w ⟨b,o,none⟩ Tryz.underlying54 Tryz.underlying148 HJ.out (by rw [HS.out];decide) HSH.out HO.out]
  simp only [Result.andThen]
  rw [Oper.upon_value]
  go_wp2
  rw [run_callFunc_extern Tryz.func125 (by kernel_rfl) (by kernel_rfl) (by kernel_rfl) (e:=Extern.AbiNoEscape.same) (by kernel_rfl)]
  rw [Lib.run_noEscape]
  simp only [Result.andThen]
  rw [Oper.upon_value]
  go_wp2
  rw [Lib.run_from_unsafe w ⟨b,o,none⟩ Tryz.underlying148 Tryz.underlying54 HJ.out HSH.out HL.out]
  simp only [Result.andThen]
  rw [Oper.upon_value]
  go_wp2
  go_end0
  exact ⟨rfl,rfl⟩
def LiesB (T:TypeId) (o:Nat):Prop:=liesAt Tryz.prog Tryz.prog.depth T ((o+2) / Tryz.prog.cellsOf T) o 57 1=true∧T≠5
theorem lies_own:LiesB 57 0:=⟨by kernel_rfl,by decide⟩
theorem lies_sp:LiesB 59 3:=⟨by kernel_rfl,by decide⟩
theorem copyCheck_any {T:TypeId} {pre:List Value} (hT:LiesB T pre.length) (B b:Nat) (l:Tx) (w:World) (h:Bld T pre B b l w) :
    Calls Tryz.prog 83 #[.pointer (some ⟨b,pre.length,none⟩)] w fun e w' => e=.returned (.tuple #[])∧BldU T pre B b l w'∧Below B w w'∧w'.heap.size=w.heap.size∧Kp b w w':=by
  obtain ⟨hB,p,v,hb,hp,hown,hne⟩:=h
  have c0:w.cell? ⟨b,pre.length,none⟩=some p:=by rw [Lib.cell_of_heap hb];exact cells_pre _ _ _
  rcases hp with rfl | rfl
  · refine (copyCheck_fresh T b pre.length (pre.length+2) w c0 (by simp [World.shape?,hb]) (by omega) hT.1 (Lib.frozen_of_heap hb _)).mono ?_
    rintro e w' ⟨rfl,rfl⟩
    refine ⟨rfl,⟨hB,v,?_,?_,hne⟩,(Below.refl B w).setCell (p:=⟨b,pre.length,none⟩) hB _,by simp [World.setCell],Kp.setCell _ _ _ _⟩
    · rw [Lib.heap_setCell_same (i:=pre.length) hb,cells_set0]
    · refine hown.kept (row:=some b) ⟨rfl,rfl,rfl,by simp [World.setCell],fun k _ hk=>Below.heap_setCell _ _ _ _ (fun e=>hk (by simp [e]))⟩ (Or.inr hne)
  · refine (copyCheck_used b pre.length w c0).mono ?_
    rintro e w' ⟨rfl,rfl⟩
    exact ⟨rfl,⟨hB,v,hb,hown,hne⟩,Below.refl _ _,rfl,Kp.refl _ _⟩
theorem bld_put {T:TypeId} {pre:List Value} {B b:Nat} {v v':Value} {l:Tx} {w:World} (hT:T≠5) (hB:B≤b) (hb:w.heap[b]? = some (.cells (pre++[.pointer (some ⟨b,pre.length,none⟩),v]).toArray T (0,0))) (hown:w.ownsRow B 5 1 v' l.length (Lib.byteCells l)) :
    BldU T pre B b l (w.setCell ⟨b,pre.length+1,none⟩ v'):=by
  have hne:=Lib.ownBlock_ne hown hb hT
  refine ⟨hB,v',?_,?_,hne⟩
  · rw [Lib.heap_setCell_same (i:=pre.length+1) hb,cells_set1]
  · exact hown.kept (row:=some b) ⟨rfl,rfl,rfl,by simp [World.setCell],fun k _ hk=>Below.heap_setCell _ _ _ _ (fun e=>hk (by simp [e]))⟩ (Or.inr hne)
theorem infoU8:(Tryz.prog.info? 5).map (fun i=>(i.zero,i.size,i.bytes))=some (some (.int .u8 0),1,1):=by kernel_rfl
set_option maxHeartbeats 2000000 in
set_option maxRecDepth 100000 in
theorem WriteByte_any {T:TypeId} {pre:List Value} (hT:LiesB T pre.length) (B b:Nat) (l:Tx) (c:UInt8) (w:World) (h:Bld T pre B b l w) (hlen:l.length+1≤140737488355328) :
    Calls Tryz.prog 41 #[.pointer (some ⟨b,pre.length,none⟩),.int .u8 c.toNat] w fun e w' => e=.returned .nilIface∧BldU T pre B b (l++[c]) w'∧Below B w w'∧Kp b w w':=by
  obtain ⟨i0,hi,hz0,hz1,hz2⟩:=info_parts infoU8
  have HI:=Lib.hid (And.intro hi (And.intro hz0 (And.intro hz1 hz2)))
  clear hi hz0 hz1 hz2
  have HT:=Lib.hid hT
  clear hT
  obtain ⟨n,en⟩:∃ n:Int,n=c.toNat:=⟨_,rfl⟩
  rw [← en]
  have EN:=Lib.hid en
  clear en
  have hlt0:=h.lt
  have cc:=copyCheck_any HT.out B b l w h
  have hBb:B≤b:=h.1
  clear h
  obtain ⟨o,eo⟩:∃ o,pre.length=o:=⟨_,rfl⟩
  rw [eo] at cc ⊢
  have EO:=Lib.hid eo
  clear eo
  have CC:=Lib.hid cc
  clear cc
  go_enter Tryz.func41,Tryz.ntmps41
  go_wp2_with fail
  refine CC.out.mono ?_
  rintro e w1 ⟨rfl,h1,hb1,hsz,hkp⟩
  have HKP:=Lib.hid hkp
  clear hkp
  obtain ⟨hB,v,hbk,hown,hne⟩:=h1
  have c0:w1.cell? ⟨b,o,none⟩=some (.pointer (some ⟨b,o,none⟩)):=by rw [Lib.cell_of_heap hbk,← EO.out];exact cells_pre _ _ _
  have c1:w1.cell? ⟨b,o+1,none⟩=some v:=by rw [Lib.cell_of_heap hbk,← EO.out];exact cells_pre1 _ _ _
  have HB:=Lib.hid hbk
  have HSZ:=Lib.hid hsz
  clear hbk hsz
  go_wp2_with (at_builtin;refine wpList_append_own _ rfl _ _ 55 rfl B 5 i0 (.int .u8 0) 1 1 Tryz.underlying55 HI.out.1 HI.out.2.1 HI.out.2.2.1 HI.out.2.2.2 rfl (by decide) _ _ _ rfl (hown.alloc _) ⟨w1.heap.size,0,none⟩ 1 1 [.int .u8 n] rfl rfl ?c1 ?c2 ?c3 ?c4 ?c5 ?_)
  case c1 =>
    intro j u hj
    match j,hj with
    | 0,hj=>simp at hj;subst hj;simp [Addr.add]
  case c2=>intro u hu;simp at hu;subst hu;rfl
  case c3=>unfold maxLen;omega
  case c4=>omega
  case c5=>have:=HSZ.out;simp;omega
  intro v' w2 hown' hgrow _
  have hlt:b<w1.heap.size:=by have:=HSZ.out;omega
  have hb2:w2.heap[b]? = some (.cells (pre++[.pointer (some ⟨b,pre.length,none⟩),v]).toArray T (0,0)):=by
    rw [hgrow.block b (by simp;omega) (fun e=>hne e.symm),Lib.alloc_old w1 _ b hlt]
    exact HB.out
  have d0:w2.cell? ⟨b,o,none⟩=some (.pointer (some ⟨b,o,none⟩)):=by rw [Lib.cell_of_heap hb2,← EO.out];exact cells_pre _ _ _
  have d1:w2.cell? ⟨b,o+1,none⟩=some v:=by rw [Lib.cell_of_heap hb2,← EO.out];exact cells_pre1 _ _ _
  have f1:w2.frozen? ⟨b,o+1,none⟩=false:=Lib.frozen_of_heap hb2 _
  have HB2:=Lib.hid hb2
  clear hb2
  obtain ⟨g,cap,rfl⟩:∃ g cap,v' = .slice (some ⟨g,0,none⟩) (l.length+1) cap:=by
    rcases hown'.2 with ⟨_,h0⟩ | ⟨g,cap,cur,hv,_⟩
    · omega
    · exact ⟨g,cap,hv⟩
  have HO:=Lib.hid hown'
  have HG:=Lib.hid hgrow
  have HW:=Lib.hid hown
  have HB1:=Lib.hid hb1
  clear hown' hgrow hown hb1
  go_wp2
  go_ret
  refine ⟨rfl,?_,?_,?_⟩
  · rw [← EO.out]
    refine bld_put (l:=l++[c]) HT.out.2 hB HB2.out ?_
    have hl:Lib.byteCells (l++[c])=Lib.byteCells l++[.int .u8 n]:=by rw [EN.out];simp [Lib.byteCells]
    rw [hl,List.length_append]
    exact HO.out
  · exact ((HB1.out.alloc (by have:=HB1.out.size;omega) _).grown HG.out (by have:=HB1.out.size;simp;omega) (fun k hk=>(HW.out.lt k hk).1)).setCell (p:=⟨b,o+1,none⟩) hB _
  · exact ((HKP.out.trans (Kp.below b ((Below.refl _ _).alloc (Nat.le_refl _) _))).trans (Kp.grown (HW.out.alloc _) HG.out)).trans (Kp.setCell _ _ _ _)
set_option maxHeartbeats 2000000 in
set_option maxRecDepth 100000 in
theorem WriteString_any {T:TypeId} {pre:List Value} (hT:LiesB T pre.length) (B b:Nat) (l:Tx) (s:ByteArray) (w:World) (h:Bld T pre B b l w) (hlen:l.length+s.size≤140737488355328) :
    Calls Tryz.prog 39 #[.pointer (some ⟨b,pre.length,none⟩),.string s] w fun e w' => e=.returned (.tuple #[.int .i64 s.size,.nilIface])∧BldU T pre B b (l++byt s) w'∧Below B w w'∧Kp b w w':=by
  obtain ⟨i0,hi,hz0,hz1,hz2⟩:=info_parts infoU8
  have HI:=Lib.hid (And.intro hi (And.intro hz0 (And.intro hz1 hz2)))
  clear hi hz0 hz1 hz2
  have HT:=Lib.hid hT
  clear hT
  have hlt0:=h.lt
  have cc:=copyCheck_any HT.out B b l w h
  have hBb:B≤b:=h.1
  clear h
  obtain ⟨o,eo⟩:∃ o,pre.length=o:=⟨_,rfl⟩
  rw [eo] at cc ⊢
  have EO:=Lib.hid eo
  clear eo
  have CC:=Lib.hid cc
  clear cc
  have hbl:(Lib.byteCells l).length=l.length:=Lib.byteCells_length l
  have HL:=Lib.hid hbl
  clear hbl
  go_enter Tryz.func39,Tryz.ntmps39
  go_wp2_with fail
  refine CC.out.mono ?_
  rintro e w1 ⟨rfl,h1,hb1,hsz,hkp⟩
  have HKP:=Lib.hid hkp
  clear hkp
  obtain ⟨hB,v,hbk,hown,hne⟩:=h1
  have c0:w1.cell? ⟨b,o,none⟩=some (.pointer (some ⟨b,o,none⟩)):=by rw [Lib.cell_of_heap hbk,← EO.out];exact cells_pre _ _ _
  have c1:w1.cell? ⟨b,o+1,none⟩=some v:=by rw [Lib.cell_of_heap hbk,← EO.out];exact cells_pre1 _ _ _
  have HB:=Lib.hid hbk
  have HSZ:=Lib.hid hsz
  clear hbk hsz
  go_wp2_with (at_builtin;refine Lib.wpList_append_own_string _ rfl _ _ 55 9 rfl B 5 i0 Tryz.underlying55 Tryz.underlying9 HI.out.1 HI.out.2.1 HI.out.2.2.1 HI.out.2.2.2 _ _ _ rfl hown s rfl ?c3 ?c4 ?c5 ?_)
  case c3=>unfold maxLen;omega
  case c4=>omega
  case c5=>have:=HSZ.out;omega
  intro v' w2 hown' hgrow _
  have hlt:b<w1.heap.size:=by have:=HSZ.out;omega
  have hb2:w2.heap[b]? = some (.cells (pre++[.pointer (some ⟨b,pre.length,none⟩),v]).toArray T (0,0)):=by
    rw [hgrow.block b hlt (fun e=>hne e.symm)]
    exact HB.out
  have d0:w2.cell? ⟨b,o,none⟩=some (.pointer (some ⟨b,o,none⟩)):=by rw [Lib.cell_of_heap hb2,← EO.out];exact cells_pre _ _ _
  have d1:w2.cell? ⟨b,o+1,none⟩=some v:=by rw [Lib.cell_of_heap hb2,← EO.out];exact cells_pre1 _ _ _
  have f1:w2.frozen? ⟨b,o+1,none⟩=false:=Lib.frozen_of_heap hb2 _
  have HB2:=Lib.hid hb2
  clear hb2
  obtain ⟨ao,n',cap,rfl⟩:∃ ao n' cap,v' = .slice ao n' cap:=by
    rcases hown'.2 with ⟨hv,_⟩ | ⟨g,cap,cur,hv,_⟩
    · exact ⟨_,_,_,hv⟩
    · exact ⟨_,_,_,hv⟩
  have HO:=Lib.hid hown'
  have HG:=Lib.hid hgrow
  have HW:=Lib.hid hown
  have HB1:=Lib.hid hb1
  clear hown' hgrow hown hb1
  go_wp2
  go_ret2
  refine ⟨rfl,?_,?_,?_⟩
  · rw [← EO.out]
    refine bld_put (l:=l++byt s) HT.out.2 hB HB2.out ?_
    have hl:Lib.byteCells (l++byt s)=Lib.byteCells l++Lib.strCells s:=by simp [Lib.byteCells,Lib.strCells,byt]
    rw [hl,List.length_append]
    have:=HO.out
    rw [show (byt s).length=s.size by simp [byt]]
    exact this
  · exact (HB1.out.grown HG.out (by have:=HB1.out.size;omega) (fun k hk=>(HW.out.lt k hk).1)).setCell (p:=⟨b,o+1,none⟩) hB _
  · exact (HKP.out.trans (Kp.grown HW.out HG.out)).trans (Kp.setCell _ _ _ _)
set_option maxHeartbeats 1000000 in
set_option maxRecDepth 100000 in
theorem Len_any {T:TypeId} {pre:List Value} (B b:Nat) (l:Tx) (w:World) (h:Bld T pre B b l w) :
    Calls Tryz.prog 84 #[.pointer (some ⟨b,pre.length,none⟩)] w fun e w' => e=.returned (.int .i64 l.length)∧w' = w:=by
  obtain ⟨hB,p,v,hb,hp,hown,hne⟩:=h
  obtain ⟨a,n,cap,rfl⟩:∃ a n cap,v=.slice a n cap:=by
    rcases hown.2 with ⟨hv,_⟩ | ⟨g,cap,cur,hv,_⟩
    · exact ⟨_,_,_,hv⟩
    · exact ⟨_,_,_,hv⟩
  have hn:n=l.length:=by
    rcases hown.2 with ⟨hv,h0⟩ | ⟨g,cap,cur,hv,_⟩
    · injection hv;omega
    · injection hv
  subst hn
  have c1:w.cell? ⟨b,pre.length+1,none⟩=some (.slice a l.length cap):=by rw [Lib.cell_of_heap hb];exact cells_pre1 _ _ _
  clear hown hne hp hb
  obtain ⟨o,eo⟩:∃ o,pre.length=o:=⟨_,rfl⟩
  rw [eo] at c1 ⊢
  clear eo
  obtain ⟨n,en⟩:∃ n,l.length=n:=⟨_,rfl⟩
  rw [en] at c1 ⊢
  clear en
  go_enter Tryz.func84,Tryz.ntmps84
  go_wp2
  go_ret
  exact ⟨rfl,rfl⟩
theorem unsafeString_none (W:World) (q:Option Addr):(Builtin.unsafeString_ #[102,3] 9 #[.pointer q,.int .i64 0]).run Tryz.prog W=.ok (.string .empty) W :=
  Lib.run_unsafeString_none W _ _ _ q
theorem cellsU8:Tryz.prog.cellsOf 5=1:=by kernel_rfl
set_option maxHeartbeats 1000000 in
set_option maxRecDepth 100000 in
theorem String_some (b o g cap:Nat) (cur:Array Value) (l:Tx) (w:World) (h0:l≠[]) (hc:w.cell? ⟨b,o+1,none⟩=some (.slice (some ⟨g,0,none⟩) l.length cap)) (hg:w.heap[g]? = some (.cells cur 5 (0,0))) (hnc:l.length≤cap) (hcm:cap≤maxLen) (hcs:cur.size=cap)
    (hx:∀ j,∀ x:UInt8,l[j]? = some x→w.cell? ((⟨g,0,none⟩:Addr).add j)=some (.int .u8 x.toNat)) :
    Calls Tryz.prog 16 #[.pointer (some ⟨b,o,none⟩)] w fun e w' => e=.returned (.string ⟨l.toArray⟩)∧w' = w.drew.freeze ⟨g,0,none⟩ l.length:=by
  have hl0:l.length≠0:=by simpa using h0
  have c1:w.drew.cell? ⟨b,o+1,none⟩=some (.slice (some ⟨g,0,none⟩) l.length cap):=hc
  have hSD:(Builtin.unsafeSliceData_ #[55] 102 #[.slice (some ⟨g,0,none⟩) l.length cap]).run Tryz.prog w.drew=.ok (.pointer (some ⟨g,0,none⟩)) w.drew :=
    Lib.run_unsafeSliceData_row _ _ _ _ _ _ (by omega)
  have hUS:(Builtin.unsafeString_ #[102,3] 9 #[.pointer (some ⟨g,0,none⟩),.int .i64 l.length]).run Tryz.prog w.drew=.ok (.string ⟨l.toArray⟩) (w.drew.freeze ⟨g,0,none⟩ l.length) :=
    Lib.run_unsafeString_row w.drew 102 3 9 5 Tryz.underlying102 cellsU8 g cur.size (by have hg':w.drew.heap[g]? = some (.cells cur 5 (0,0)):=hg;simp [World.shape?,hg']) l h0 (by omega) (by unfold maxLen at hcm;omega) hx
  obtain ⟨s,es⟩:∃ s:ByteArray,⟨l.toArray⟩=s:=⟨_,rfl⟩
  rw [es] at hUS ⊢
  clear es hx hg
  obtain ⟨n,en⟩:∃ n,l.length=n:=⟨_,rfl⟩
  rw [en] at c1 hSD hUS ⊢
  clear hc hnc hcm hcs h0 hl0 en
  go_enter Tryz.func16,Tryz.ntmps16
  go_wp2
  go_region
  all_goals (go_wp2;go_ret;exact ⟨rfl,rfl⟩)
set_option maxHeartbeats 1000000 in
set_option maxRecDepth 100000 in
theorem String_nil (b o:Nat) (w:World) (hc:w.cell? ⟨b,o+1,none⟩=some (.slice none 0 0)) :
    Calls Tryz.prog 16 #[.pointer (some ⟨b,o,none⟩)] w fun e w' => e=.returned (.string ⟨#[]⟩)∧w' = w.drew:=by
  have hUS:=unsafeString_none
  have c1:w.drew.cell? ⟨b,o+1,none⟩=some (.slice none 0 0):=hc
  have hSD:(Builtin.unsafeSliceData_ #[55] 102 #[.slice none 0 0]).run Tryz.prog w.drew=.ok (.pointer none) w.drew:=rfl
  go_enter Tryz.func16,Tryz.ntmps16
  go_wp2
  go_region
  all_goals (go_wp2;go_ret;exact ⟨rfl,rfl⟩)
set_option maxHeartbeats 1000000 in
set_option maxRecDepth 100000 in
theorem String_noroom (b o g:Nat) (cur:Array Value) (w:World) (hb:b<w.heap.size) (hc:w.cell? ⟨b,o+1,none⟩=some (.slice (some ⟨g,0,none⟩) 0 0)) (hg:w.heap[g]? = some (.cells cur 5 (0,0))) :
    Calls Tryz.prog 16 #[.pointer (some ⟨b,o,none⟩)] w fun e w' => e=.returned (.string ⟨#[]⟩)∧w' = (w.alloc (.view ⟨g,0,none⟩ 5)).drew:=by
  have hUS:=unsafeString_none
  have c1:w.drew.cell? ⟨b,o+1,none⟩=some (.slice (some ⟨g,0,none⟩) 0 0):=hc
  have hSD:(Builtin.unsafeSliceData_ #[55] 102 #[.slice (some ⟨g,0,none⟩) 0 0]).run Tryz.prog w.drew=.ok (.pointer (some ⟨w.drew.heap.size,0,none⟩)) (w.drew.alloc (.view ⟨g,0,none⟩ 5)) :=
    Lib.run_unsafeSliceData_zero w.drew _ _ 5 Tryz.underlying102 ⟨g,0,none⟩ 0 (5,cur.size) (by have hg':w.drew.heap[g]? = some (.cells cur 5 (0,0)):=hg;simp [World.shape?,hg'])
  have c2:(w.drew.alloc (.view ⟨g,0,none⟩ 5)).cell? ⟨b,o+1,none⟩=some (.slice (some ⟨g,0,none⟩) 0 0):=(World.cell?_of_block (a:=⟨b,o+1,none⟩) (RowKit.Below.heap_alloc w.drew _ b hb)).trans hc
  have c3:(w.alloc (.view ⟨g,0,none⟩ 5)).drew.cell? ⟨b,o+1,none⟩=some (.slice (some ⟨g,0,none⟩) 0 0):=c2
  have HG:=Lib.hid hg
  clear hg
  go_enter Tryz.func16,Tryz.ntmps16
  go_wp2
  go_region
  all_goals (go_wp2;go_ret;exact ⟨rfl,rfl⟩)
set_option maxHeartbeats 1000000 in
set_option maxRecDepth 100000 in
theorem String_room (b o g cap:Nat) (w:World) (hc0:cap≠0) (hc:w.cell? ⟨b,o+1,none⟩=some (.slice (some ⟨g,0,none⟩) 0 cap)) :
    Calls Tryz.prog 16 #[.pointer (some ⟨b,o,none⟩)] w fun e w' => e=.returned (.string ⟨#[]⟩)∧w' = w.drew:=by
  have hUS:=unsafeString_none
  have c1:w.drew.cell? ⟨b,o+1,none⟩=some (.slice (some ⟨g,0,none⟩) 0 cap):=hc
  have hSD:(Builtin.unsafeSliceData_ #[55] 102 #[.slice (some ⟨g,0,none⟩) 0 cap]).run Tryz.prog w.drew=.ok (.pointer (some ⟨g,0,none⟩)) w.drew :=
    Lib.run_unsafeSliceData_row _ _ _ _ _ _ hc0
  clear hc0
  go_enter Tryz.func16,Tryz.ntmps16
  go_wp2
  go_region
  all_goals (go_wp2;go_ret;exact ⟨rfl,rfl⟩)
theorem String_any {T:TypeId} {pre:List Value} (B b:Nat) (l:Tx) (w:World) (h:Bld T pre B b l w) (hBw:B≤w.heap.size) :
    Calls Tryz.prog 16 #[.pointer (some ⟨b,pre.length,none⟩)] w fun e w' => e=.returned (.string ⟨l.toArray⟩)∧Below B w w':=by
  have hlt:=h.lt
  obtain ⟨hB,p,v,hb,hp,hown,hne⟩:=h
  have hc:w.cell? ⟨b,pre.length+1,none⟩=some v:=by rw [Lib.cell_of_heap hb];exact cells_pre1 _ _ _
  rcases hown.2 with ⟨rfl,h0⟩ | ⟨g,cap,cur,rfl,hbg,hg,hnc,hcm,hcs,htake⟩
  · obtain rfl:l=[]:=List.eq_nil_of_length_eq_zero h0
    exact (String_nil b _ w hc).mono fun _ _ ⟨he,hw⟩=>⟨he,hw▸Below.drew (Below.refl B w)⟩
  · by_cases hl:l=[]
    · subst hl
      by_cases hc0:cap=0
      · subst hc0
        exact (String_noroom b _ g cur w hlt hc hg).mono fun _ _ ⟨he,hw⟩=>⟨he,hw▸((Below.refl B w).alloc hBw _).drew⟩
      · exact (String_room b _ g cap w hc0 hc).mono fun _ _ ⟨he,hw⟩=>⟨he,hw▸Below.drew (Below.refl B w)⟩
    · refine (String_some b _ g cap cur l w hl hc hg hnc hcm (by omega) (fun j x hx=>?_)).mono fun _ _ ⟨he,hw⟩=>⟨he,hw▸Lib.below_freeze (Below.drew (Below.refl B w)) (p:=⟨g,0,none⟩) hbg _⟩
      exact hown.cells (g:=g) rfl j (.int .u8 x.toNat) (by simp [Lib.byteCells,hx])
def OS (W:World) (B:Nat) (v:Value) (xs:List ByteArray):Prop:=W.ownsRow B 9 1 v xs.length (xs.map .string)
theorem OS.sl {W:World} {B:Nat} {v:Value} {xs:List ByteArray} (h:OS W B v xs):SL W v xs:=by
  have h0:=h
  rcases h.2 with ⟨rfl,h1⟩ | ⟨g,cap,cur,rfl,hb,hg,hn,hm,hs,ht⟩
  · exact .inl ⟨List.length_eq_zero_iff.1 h1,_,_,rfl⟩
  · refine .inr ⟨g,cap,rfl,hn,hm,heap_lt hg,fun j x hj=>?_⟩
    have:=h0.cells (g:=g) rfl j (.string x) (by rw [List.getElem?_map,hj];rfl)
    rw [Lib.add_plain,Nat.zero_add] at this
    exact this
theorem OS.later {W w:World} {B:Nat} {v:Value} {xs:List ByteArray} (h:OS W B v xs) (hb:Below W.heap.size W w):OS w B v xs:=ownsRow_below h hb
theorem OS.mono {W:World} {B C:Nat} {v:Value} {xs:List ByteArray} (h:OS W B v xs) (hC:C≤B):OS W C v xs:=by
  refine ⟨h.1,h.2.imp id fun ⟨g,cap,cur,h1,h2,h3⟩=>⟨g,cap,cur,h1,Nat.le_trans hC h2,h3⟩⟩
theorem OS.nil (W:World) (B:Nat):OS W B (.slice none 0 0) []:=⟨rfl,.inl ⟨rfl,rfl⟩⟩
theorem heap_new (w:World) (o:Obj):(w.alloc o).heap[w.heap.size]? = some o:=by
  show (w.heap.push o)[w.heap.size]? = some o
  simp
theorem OS.lit (W:World) {B:Nat} (hB:B≤W.heap.size) (xs:List ByteArray) (cs:Array Value) (e:cs=(xs.map Value.string).toArray) (n:Nat) (hn:n=xs.length) (hm:n≤maxLen):OS (W.alloc (.cells cs 9)) B (.slice (some ⟨W.heap.size,0,none⟩) n n) xs:=by
  subst e hn
  refine ⟨by simp,.inr ⟨W.heap.size,xs.length,_,rfl,hB,heap_new _ _,Nat.le_refl _,hm,by simp,by rw [Nat.mul_one];exact List.take_of_length_le (by simp)⟩⟩
theorem infoStr:(Tryz.prog.info? 9).map (fun i=>(i.zero,i.size,i.bytes))=some (some (.string ⟨#[]⟩),1,16):=by kernel_rfl
def OwnS (xs:List ByteArray) (W:World) (e:Ending) (w':World):Prop:=∃ v,e=.returned v∧OS w' W.heap.size v xs∧Below W.heap.size W w'
set_option maxRecDepth 100000 in
set_option maxHeartbeats 4000000 in
theorem spellEach_I (f:Int→Tx) (p:Option Addr) (n c:Nat) (xs:List Int) (W:World) (h:ListIn intC NoMem W.heap.size W p n c xs) (hl:xs.length≤1048576) (g:FuncId) (bnd:Array Value)
    (hen:∀ (args:Array Value) (w:World),(callFunc g args).run Tryz.prog w=.ok (.enter g args) w)
    (hg:∀ i (hi:i<xs.length) w,Below W.heap.size W w→Calls Tryz.prog g (bnd++#[.int .i64 xs[i]]) w (StrV (mkS (f xs[i])) w)) :
    Calls Tryz.prog 44 #[.slice p n c,.func (.func g) bnd #[]] W (OwnS (xs.map fun x=>mkS (f x)) W):=by
  obtain rfl:n=xs.length:=h.1
  have hc1:=h.2.1
  have hc2:=h.2.2.1
  unfold maxLen at hc2
  have HH:=Lib.hid h
  have HG:=Lib.hid hg
  obtain ⟨i0,hi,hz0,hz1,hz2⟩:=info_parts infoStr
  have HI:=Lib.hid (And.intro hi (And.intro hz0 (And.intro hz1 hz2)))
  clear h hg hi hz0 hz1 hz2
  obtain ⟨F,eF⟩:∃ F,(fun x=>mkS (f x))=F:=⟨_,rfl⟩
  have eF':∀ x,mkS (f x)=F x:=fun x=>by rw [← eF]
  simp only [eF'] at HG ⊢
  clear eF eF'
  go_enter Tryz.func44,Tryz.ntmps44
  go_wp2_with fail
  go_loopw [5,10] (fun tp ti wr=>∃ i:Nat,i≤xs.length∧ti=.int .i64 i∧Hid (OS wr W.heap.size tp ((xs.take i).map F))∧Below W.heap.size W wr) (fun _ ti _=>xs.length - (intOf ti).toNat)
  case atStart=>exact ⟨0,Nat.zero_le _,rfl,Lib.hid (OS.nil _ _),Below.refl _ _⟩
  case round =>
    obtain ⟨i,hi,rfl,ho,hb⟩:=hrel
    by_cases hlt:i<xs.length
    · obtain ⟨a,rfl,hab,c0⟩:=row_I HH.out i hlt
      have k0:=(hb.cell (p:=a.add i) (by rw [add_block];exact hab)).trans c0
      have cg:=HG.out i hlt
      have HT:Hid ((xs.take (i+1)).map F=(xs.take i).map F++[F xs[i]]):=Lib.hid (by rw [List.take_succ_eq_append_getElem hlt,List.map_append];rfl)
      have hil:((xs.take i).map F).length=i:=by rw [List.length_map,List.length_take];omega
      have hi20:i≤1048576:=by omega
      have HB:=Lib.hid hb
      obtain ⟨x,ex⟩:∃ x,xs[i]=x:=⟨_,rfl⟩
      simp only [ex] at cg HT k0
      obtain ⟨l,el⟩:∃ l,(xs.take i).map F=l:=⟨_,rfl⟩
      rw [el] at HT ho hil
      have HIL:=Lib.hid hil
      clear ex el hil hb c0
      have CG:=Lib.hid cg
      clear cg
      obtain ⟨s,es⟩:∃ s,F x=s:=⟨_,rfl⟩
      rw [es] at HT CG
      clear es
      have cg:=CG.out wr HB.out
      have HO:=Lib.hid ho.out
      clear ho
      go_wp2_with fail
      refine cg.mono ?_
      rintro e w1 ⟨rfl,hb1⟩
      have HO:=Lib.hid (OS.later HO.out hb1)
      have HB:=Lib.hid (HB.out.trans (hb1.mono HB.out.size))
      clear cg hb1 k0
      go_wp2_with (at_builtin;refine wpList_append_own _ rfl _ _ 93 rfl W.heap.size 9 i0 (.string ⟨#[]⟩) 1 16 Tryz.underlying93 HI.out.1 HI.out.2.1 HI.out.2.2.1 HI.out.2.2.2 rfl (by decide) _ _ _ rfl (HO.out.alloc _) ⟨w1.heap.size,0,none⟩ 1 1 [.string s] rfl rfl ?c1 ?c2 ?c3 ?c4 ?c5 ?_)
      case c1 =>
        intro j u hj
        match j,hj with
        | 0,hj=>simp at hj;subst hj;simp [Addr.add]
      case c2=>intro u hu;simp at hu;subst hu;rfl
      case c3=>have:=HIL.out;unfold maxLen;omega
      case c4=>have:=HIL.out;omega
      case c5=>have:=HB.out.size;simp;omega
      intro v' w2 hown' hgrow _
      have HN:Hid (OS w2 W.heap.size v' (l++[s])):=Lib.hid (by
        unfold OS
        rw [List.length_append,List.map_append]
        exact hown')
      have HB2:=Lib.hid ((HB.out.alloc HB.out.size _).grown hgrow (by have:=HB.out.size;simp;omega) (fun k hk=>(HO.out.lt k hk).1))
      clear hown' hgrow
      go_wp2_with fail
      exact ⟨⟨i+1,by omega,by go_num,Lib.hid (by rw [HT.out];exact HN.out),HB2.out⟩,by simp [intOf];omega⟩
    · obtain rfl:i=xs.length:=by omega
      have HO:=Lib.hid ho.out
      rw [List.take_length] at HO
      have HB:=Lib.hid hb
      clear ho hb
      go_wp2_with fail
      go_ret
      exact ⟨_,rfl,HO.out,HB.out⟩
set_option maxRecDepth 100000 in
set_option maxHeartbeats 4000000 in
theorem spellEach_A (f:Arg→Tx) (p:Option Addr) (n c:Nat) (xs:List Arg) (W:World) (h:ListIn argC NoMem W.heap.size W p n c xs) (hl:xs.length≤1048576) (g:FuncId) (bnd:Array Value)
    (hen:∀ (args:Array Value) (w:World),(callFunc g args).run Tryz.prog w=.ok (.enter g args) w)
    (hg:∀ i (hi:i<xs.length) w,Below W.heap.size W w→Calls Tryz.prog g (bnd++#[.agg #[.int .i64 xs[i].kind,.int .i64 xs[i].n,.int .u64 xs[i].bits]]) w (StrV (mkS (f xs[i])) w)) :
    Calls Tryz.prog 131 #[.slice p n c,.func (.func g) bnd #[]] W (OwnS (xs.map fun x=>mkS (f x)) W):=by
  obtain rfl:n=xs.length:=h.1
  have hc1:=h.2.1
  have hc2:=h.2.2.1
  unfold maxLen at hc2
  have HH:=Lib.hid h
  have HG:=Lib.hid hg
  obtain ⟨i0,hi,hz0,hz1,hz2⟩:=info_parts infoStr
  have HI:=Lib.hid (And.intro hi (And.intro hz0 (And.intro hz1 hz2)))
  clear h hg hi hz0 hz1 hz2
  obtain ⟨F,eF⟩:∃ F,(fun x=>mkS (f x))=F:=⟨_,rfl⟩
  have eF':∀ x,mkS (f x)=F x:=fun x=>by rw [← eF]
  simp only [eF'] at HG ⊢
  clear eF eF'
  go_enter Tryz.func131,Tryz.ntmps131
  go_wp2_with fail
  go_loopw [5,10] (fun tp ti wr=>∃ i:Nat,i≤xs.length∧ti=.int .i64 i∧Hid (OS wr W.heap.size tp ((xs.take i).map F))∧Below W.heap.size W wr) (fun _ ti _=>xs.length - (intOf ti).toNat)
  case atStart=>exact ⟨0,Nat.zero_le _,rfl,Lib.hid (OS.nil _ _),Below.refl _ _⟩
  case round =>
    obtain ⟨i,hi,rfl,ho,hb⟩:=hrel
    by_cases hlt:i<xs.length
    · obtain ⟨a,rfl,hab,c0,c1,c2⟩:=row_A HH.out i hlt
      have k0:=(hb.cell (p:=a.add (i * 3)) (by rw [add_block];exact hab)).trans c0
      have k1:=(hb.cell (p:=⟨(a.add (i * 3)).block,(a.add (i * 3)).off+1,none⟩) (by dsimp only;rw [add_block];exact hab)).trans c1
      have k2:=(hb.cell (p:=⟨(a.add (i * 3)).block,(a.add (i * 3)).off+2,none⟩) (by dsimp only;rw [add_block];exact hab)).trans c2
      have cg:=HG.out i hlt
      have HT:Hid ((xs.take (i+1)).map F=(xs.take i).map F++[F xs[i]]):=Lib.hid (by rw [List.take_succ_eq_append_getElem hlt,List.map_append];rfl)
      have hil:((xs.take i).map F).length=i:=by rw [List.length_map,List.length_take];omega
      have hi20:i≤1048576:=by omega
      have HB:=Lib.hid hb
      obtain ⟨x,ex⟩:∃ x,xs[i]=x:=⟨_,rfl⟩
      simp only [ex] at cg HT k0 k1 k2
      obtain ⟨l,el⟩:∃ l,(xs.take i).map F=l:=⟨_,rfl⟩
      rw [el] at HT ho hil
      have HIL:=Lib.hid hil
      clear ex el hil hb c0 c1 c2
      have CG:=Lib.hid cg
      clear cg
      obtain ⟨s,es⟩:∃ s,F x=s:=⟨_,rfl⟩
      rw [es] at HT CG
      clear es
      obtain ⟨kd,nv,bv⟩:=x
      simp only at k0 k1 k2 CG
      have hal:Below wr.heap.size wr (wr.alloc (.cells #[.int .i64 kd,.int .i64 nv,.int .u64 bv] 107)):=(Below.refl _ _).alloc (Nat.le_refl _) _
      have hb2:=HB.out.trans (hal.mono HB.out.size)
      have cg:=CG.out _ hb2
      have HO:=Lib.hid (OS.later ho.out hal)
      have HB:=Lib.hid hb2
      clear ho hal hb2
      go_wp2_with fail
      refine cg.mono ?_
      rintro e w1 ⟨rfl,hb1⟩
      have HO:=Lib.hid (OS.later HO.out hb1)
      have HB:=Lib.hid (HB.out.trans (hb1.mono HB.out.size))
      clear cg hb1 k0 k1 k2
      go_wp2_with (at_builtin;refine wpList_append_own _ rfl _ _ 93 rfl W.heap.size 9 i0 (.string ⟨#[]⟩) 1 16 Tryz.underlying93 HI.out.1 HI.out.2.1 HI.out.2.2.1 HI.out.2.2.2 rfl (by decide) _ _ _ rfl (HO.out.alloc _) ⟨w1.heap.size,0,none⟩ 1 1 [.string s] rfl rfl ?c1 ?c2 ?c3 ?c4 ?c5 ?_)
      case c1 =>
        intro j u hj
        match j,hj with
        | 0,hj=>simp at hj;subst hj;simp [Addr.add]
      case c2=>intro u hu;simp at hu;subst hu;rfl
      case c3=>have:=HIL.out;unfold maxLen;omega
      case c4=>have:=HIL.out;omega
      case c5=>have:=HB.out.size;simp;omega
      intro v' w2 hown' hgrow _
      have HN:Hid (OS w2 W.heap.size v' (l++[s])):=Lib.hid (by
        unfold OS
        rw [List.length_append,List.map_append]
        exact hown')
      have HB2:=Lib.hid ((HB.out.alloc HB.out.size _).grown hgrow (by have:=HB.out.size;simp;omega) (fun k hk=>(HO.out.lt k hk).1))
      clear hown' hgrow
      go_wp2_with fail
      exact ⟨⟨i+1,by omega,by go_num,Lib.hid (by rw [HT.out];exact HN.out),HB2.out⟩,by simp [intOf];omega⟩
    · obtain rfl:i=xs.length:=by omega
      have HO:=Lib.hid ho.out
      rw [List.take_length] at HO
      have HB:=Lib.hid hb
      clear ho hb
      go_wp2_with fail
      go_ret
      exact ⟨_,rfl,HO.out,HB.out⟩
theorem layS_len (acc p:Tx):acc.length≤(layS acc p).length:=by
  unfold layS
  split <;> simp
theorem layT_take (ps:List Tx) (i:Nat):(layT (ps.take i)).length≤(layT ps).length:=by
  have h:∀ (l:List Tx) (acc:Tx),acc.length≤(l.foldl layS acc).length:=by
    intro l
    induction l with
    | nil=>intro acc;exact Nat.le_refl _
    | cons p l ih=>intro acc;exact Nat.le_trans (layS_len acc p) (ih _)
  unfold layT
  conv=>rhs;rw [← List.take_append_drop i ps,List.foldl_append]
  exact h _ _
theorem layT_step (xs:List ByteArray) (i:Nat) (h:i<xs.length):layT ((xs.take (i+1)).map byt)=layS (layT ((xs.take i).map byt)) (byt xs[i]):=by
  rw [List.take_succ_eq_append_getElem h,List.map_append]
  exact layT_snoc _ _
theorem byt_nil (s:ByteArray):byt s=[]↔s=⟨#[]⟩:=by
  refine ⟨fun h=>?_,fun h=>by rw [h];rfl⟩
  rw [← mkS_byt s,h]
  rfl
set_option maxRecDepth 100000 in
set_option maxHeartbeats 4000000 in
theorem lay_any (v:Value) (xs:List ByteArray) (W:World) (h:SL W v xs) (hn:xs.length≤1048576) (hlen:(layT (xs.map byt)).length≤140737488355327):Calls Tryz.prog 40 #[v] W (StrV (mkS (layT (xs.map byt))) W):=by
  obtain ⟨p,cc,rfl⟩:=h.slice
  have hcc:xs.length≤cc∧cc≤9223372036854775807∨xs=[]:=by
    rcases h with h | ⟨g,c,h1,h2,h3,_⟩
    · exact .inr h.1
    · injection h1 with _ _ h4
      subst h4
      unfold maxLen at h3
      exact .inl ⟨h2,by omega⟩
  have HH:=Lib.hid h
  have HLEN:=Lib.hid hlen
  have HCC:=Lib.hid hcc
  obtain ⟨L,eL⟩:∃ L:Nat→Tx,(fun i=>layT ((xs.take i).map byt))=L:=⟨_,rfl⟩
  have hL0:L 0=[]:=by rw [← eL];rfl
  have hLs:∀ i (h:i<xs.length),L (i+1)=layS (L i) (byt xs[i]):=fun i h=>by rw [← eL];exact layT_step xs i h
  have hLz:∀ i,(L i).length≤140737488355327:=fun i=>by
    rw [← eL]
    refine Nat.le_trans ?_ hlen
    show (layT ((xs.take i).map byt)).length≤_
    rw [List.map_take]
    exact layT_take _ i
  have hLe:L xs.length=layT (xs.map byt):=by rw [← eL];show layT ((xs.take xs.length).map byt)=_;rw [List.take_length]
  rw [← hLe]
  have HL:=Lib.hid (And.intro hL0 (And.intro hLs hLz))
  clear eL hL0 hLs hLz hLe h hlen hcc
  have hb0:Bld 57 [] W.heap.size W.heap.size [] (W.alloc (.cells #[.pointer none,.slice none 0 0] 57)) :=
    ⟨Nat.le_refl _,.pointer none,.slice none 0 0,heap_new _ _,.inl rfl,⟨rfl,.inl ⟨rfl,rfl⟩⟩,by simp [Value.ownBlock]⟩
  have HB0:=Lib.hid (And.intro hb0 ((Below.refl W.heap.size W).alloc (Nat.le_refl _) (.cells #[.pointer none,.slice none 0 0] 57)))
  clear hb0
  go_enter Tryz.func40,Tryz.ntmps40
  go_wp2_with fail
  go_loopw [8] (fun ti wr=>∃ i:Nat,i≤xs.length∧ti=.int .i64 i∧Hid (Bld 57 [] W.heap.size W.heap.size (L i) wr∧Below W.heap.size W wr)) (fun ti _=>xs.length - (intOf ti).toNat)
  case atStart=>exact ⟨0,Nat.zero_le _,rfl,Lib.hid ⟨by rw [HL.out.1];exact HB0.out.1,HB0.out.2⟩⟩
  case round =>
    obtain ⟨i,hi,rfl,hS⟩:=hrel
    by_cases hlt:i<xs.length
    · obtain ⟨g,k0,hpg⟩:∃ g,wr.cell? ⟨g,i,none⟩=some (.string xs[i])∧p=some ⟨g,0,none⟩:=by
        rcases HH.out with h | ⟨g,c,h1,h2,h3,h4,h5⟩
        · have:=h.1;subst this;simp at hlt
        · injection h1 with h6 _ _
          exact ⟨g,(hS.out.2.cell (p:=⟨g,i,none⟩) h4).trans (h5 i _ (List.getElem?_eq_getElem hlt)),h6⟩
      subst hpg
      have hcc:xs.length≤cc∧cc≤9223372036854775807:=HCC.out.resolve_right (fun e=>by rw [e] at hlt;simp at hlt)
      have hst:=HL.out.2.1 i hlt
      have hsz:=HL.out.2.2 (i+1)
      have hsz0:=HL.out.2.2 i
      obtain ⟨x,ex⟩:∃ x,xs[i]=x:=⟨_,rfl⟩
      simp only [ex] at hst k0
      obtain ⟨l,el⟩:∃ l,L i=l:=⟨_,rfl⟩
      rw [el] at hst hS hsz0
      have HST:=Lib.hid hst
      have cl:Calls Tryz.prog 84 #[.pointer (some ⟨W.heap.size,0,none⟩)] wr fun e w' => e=.returned (.int .i64 l.length)∧w' = wr:=Len_any (pre:=[]) W.heap.size W.heap.size l wr hS.out.1
      have HS:=Lib.hid hS.out
      rw [hst] at hsz
      have HSZ:=Lib.hid (And.intro hsz hsz0)
      have hk0:wr.cell? (⟨g,0,none⟩:Addr)=wr.cell? ⟨g,0,none⟩:=rfl
      clear hst hS ex el hsz hk0 hsz0
      have fin:∀ w',Bld 57 [] W.heap.size W.heap.size (layS l (byt x)) w'→Bld 57 [] W.heap.size W.heap.size (L (i+1)) w':=fun w' h=>by rw [HST.out];exact h
      have HFIN:=Lib.hid fin
      clear fin
      by_cases h0:l=[]
      · obtain ⟨nl,en⟩:∃ n,l.length=n:=⟨_,rfl⟩
        have hn0:nl=0:=by rw [← en,h0];rfl
        rw [en] at cl
        subst hn0
        have HW:Hid (layS l (byt x)=l++byt x):=Lib.hid (by unfold layS;rw [if_neg fun k=>k.1 h0])
        have H0:=Lib.hid h0
        have cw:=WriteString_any lies_own W.heap.size W.heap.size l x wr HS.out.1 (by have h1:=HSZ.out.1;rw [HW.out,List.length_append,byt_len] at h1;omega)
        replace cw:Calls Tryz.prog 39 #[.pointer (some ⟨W.heap.size,0,none⟩),.string x] wr _:=cw
        clear h0 en
        go_wp2_with fail
        refine cl.mono ?_
        rintro e w1 ⟨rfl,rfl⟩
        go_wp2_with fail
        refine cw.mono ?_
        rintro e w2 ⟨rfl,hB,hb,-⟩
        have HB:=Lib.hid (And.intro hB.bld hb)
        clear hB hb
        go_wp2_with fail
        exact ⟨⟨i+1,by omega,by go_num,Lib.hid ⟨HFIN.out _ (by rw [HW.out];exact HB.out.1),HS.out.2.trans HB.out.2⟩⟩,by simp [intOf];omega⟩
      · by_cases h1:byt x=[]
        · have hx0:x=⟨#[]⟩:=(byt_nil x).1 h1
          have HW:Hid (layS l (byt x)=l++byt x):=Lib.hid (by unfold layS;rw [if_neg fun k=>k.2 h1])
          have d0:decide (0<l.length)=true:=by simp;exact List.length_pos_iff.2 h0
          have d0':decide ((0:Int)<(l.length:Int))=true:=by have:=List.length_pos_iff.2 h0;simp;omega
          have cw:=WriteString_any lies_own W.heap.size W.heap.size l x wr HS.out.1 (by have h2:=HSZ.out.1;rw [HW.out,List.length_append,byt_len] at h2;omega)
          replace cw:Calls Tryz.prog 39 #[.pointer (some ⟨W.heap.size,0,none⟩),.string x] wr _:=cw
          have HE:=Lib.hid (And.intro h0 h1)
          clear h0 h1
          subst hx0
          go_wp2_with fail
          refine cl.mono ?_
          rintro e w1 ⟨rfl,rfl⟩
          go_wp2_with fail
          refine cw.mono ?_
          rintro e w2 ⟨rfl,hB,hb,-⟩
          have HB:=Lib.hid (And.intro hB.bld hb)
          clear hB hb
          go_wp2_with fail
          exact ⟨⟨i+1,by omega,by go_num,Lib.hid ⟨HFIN.out _ (by rw [HW.out];exact HB.out.1),HS.out.2.trans HB.out.2⟩⟩,by simp [intOf];omega⟩
        · have hx0:¬ x.toList=(⟨#[]⟩:ByteArray).toList:=fun k=>h1 ((byt_nil x).2 (WideShapes.bytes_inj (by rw [← ByteArray.toList_eq,← ByteArray.toList_eq];exact k)))
          have hx2:x.toList.isEmpty=false:=by rw [ByteArray.toList_eq];exact List.isEmpty_eq_false_iff.2 h1
          have hx1:¬ x=⟨#[]⟩:=fun k=>h1 ((byt_nil x).2 k)
          have HW:Hid (layS l (byt x)=l++[32]++byt x):=Lib.hid (by unfold layS;rw [if_pos ⟨h0,h1⟩];simp)
          have d0:decide (0<l.length)=true:=by simp;exact List.length_pos_iff.2 h0
          have d0':decide ((0:Int)<(l.length:Int))=true:=by have:=List.length_pos_iff.2 h0;simp;omega
          have hz:l.length+1+x.size≤140737488355327:=by have h2:=HSZ.out.1;rw [HW.out] at h2;simp [byt_len] at h2;omega
          have cw:=WriteByte_any lies_own W.heap.size W.heap.size l 32 wr HS.out.1 (by omega)
          replace cw:Calls Tryz.prog 41 #[.pointer (some ⟨W.heap.size,0,none⟩),.int .u8 32] wr _:=cw
          have HZ:=Lib.hid hz
          have HE:=Lib.hid (And.intro h0 h1)
          clear h0 h1 hz
          go_wp2_with fail
          refine cl.mono ?_
          rintro e w1 ⟨rfl,rfl⟩
          go_wp2_with fail
          refine cw.mono ?_
          rintro e w2 ⟨rfl,hB,hb,-⟩
          have HB:=Lib.hid (And.intro hB.bld (HS.out.2.trans hb))
          have cw2:=WriteString_any lies_own W.heap.size W.heap.size (l++[32]) x w2 HB.out.1 (by have:=HZ.out;simp;omega)
          replace cw2:Calls Tryz.prog 39 #[.pointer (some ⟨W.heap.size,0,none⟩),.string x] w2 _:=cw2
          clear hB hb cw
          go_wp2_with fail
          refine cw2.mono ?_
          rintro e w3 ⟨rfl,hB,hb,-⟩
          have HB3:=Lib.hid (And.intro hB.bld (HB.out.2.trans hb))
          clear hB hb cw2
          go_wp2_with fail
          exact ⟨⟨i+1,by omega,by go_num,Lib.hid ⟨HFIN.out _ (by rw [HW.out];exact HB3.out.1),HB3.out.2⟩⟩,by simp [intOf];omega⟩
    · obtain rfl:i=xs.length:=by omega
      have HS:=Lib.hid hS.out
      have cs:Calls Tryz.prog 16 #[.pointer (some ⟨W.heap.size,0,none⟩)] wr _:=String_any (pre:=[]) W.heap.size W.heap.size (L xs.length) wr HS.out.1 HS.out.2.size
      obtain ⟨s,es⟩:∃ s,mkS (L xs.length)=s:=⟨_,rfl⟩
      replace cs:Calls Tryz.prog 16 #[.pointer (some ⟨W.heap.size,0,none⟩)] wr (fun e w' => e=.returned (.string s)∧Below W.heap.size wr w'):=by rw [← es];exact cs
      have HES:=Lib.hid es
      clear hS es
      go_wp2_with fail
      refine cs.mono ?_
      rintro e w2 ⟨rfl,hb⟩
      have HB:=Lib.hid (HS.out.2.trans hb)
      clear hb cs
      go_wp2_with fail
      go_ret
      exact ⟨by rw [HES.out];rfl,HB.out⟩
end Go.Proofs.YtmmlfmplggbmiaaGreatDoor
