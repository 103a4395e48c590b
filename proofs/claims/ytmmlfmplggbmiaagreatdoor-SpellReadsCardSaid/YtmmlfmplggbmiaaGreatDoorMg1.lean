/- Several texts in one: BaseA, BaseB, BaseC, BaseD, PgA, LexM. -/
import Derived.Test.YtmmlfmplggbmiaaGreatDoorProg
import Derived.WalkKit
import Derived.Below
import Derived.Lib.Hide
import Derived.Deep.LoopGhost
import Derived.LoopN
import Derived.Maps.OwnSet
import Derived.Test.YtmmlfmplggbmiaaGreatDoorRows
import Derived.OpenShut
import Derived.Deep.Slices
import Derived.Deep.RegionHeld3
import Derived.Deep.DeepCutAuto
import Derived.OwnWalk
import Derived.Laws.CopyOwn
import Derived.Lib.BufferMore
import Derived.Deep.Heap
import Derived.Deep.Onto
import Derived.Deep.MidRow
import Derived.Maps.AppendAt
import Derived.Laws.AppendOwnNone
import Derived.Lib.ParseIntBCases
namespace Go.Proofs.YtmmlfmplggbmiaaGreatDoor
open Go.RowKit Go.Maps Go.ChangeShapes Go.WideShapes Go.Deep
set_option linter.unusedVariables false
set_option linter.unusedSimpArgs false
structure Arg where
  kind:Int
  n:Int
  bits:Int
structure Ins where
  op:Int
  reg:Int
  ty:Int
  n:Int
  fl:Int
  ap:Option Addr
  al:Nat
  ac:Nat
  tp:Option Addr
  tl:Nat
  tc:Nat
  args:List Arg
def Ins.val (d:Ins):Value:=.agg #[.int .i64 d.op,.int .i64 d.reg,.int .i64 d.ty,.int .i64 d.n,.int .i64 d.fl,.slice d.ap d.al d.ac,.slice d.tp d.tl d.tc]
theorem add_block (a:Addr) (n:Nat):(a.add n).block=a.block:=by unfold Addr.add;split <;> rfl
def InsAt (w:World) (a:Addr) (d:Ins):Prop :=
  w.cell? a=some (.int .i64 d.op)∧w.cell? ⟨a.block,a.off+1,none⟩=some (.int .i64 d.reg)∧w.cell? ⟨a.block,a.off+2,none⟩=some (.int .i64 d.ty)∧w.cell? ⟨a.block,a.off+3,none⟩=some (.int .i64 d.n) ∧
  w.cell? ⟨a.block,a.off+4,none⟩=some (.int .i64 d.fl)∧w.cell? ⟨a.block,a.off+5,none⟩=some (.slice d.ap d.al d.ac)∧w.cell? ⟨a.block,a.off+6,none⟩=some (.slice d.tp d.tl d.tc)
theorem InsAt.below {B:Nat} {W w:World} {a:Addr} {d:Ins} (h:InsAt W a d) (hb:Below B W w) (ha:a.block<B):InsAt w a d:=by
  obtain ⟨h0,h1,h2,h3,h4,h5,h6⟩:=h
  exact ⟨(hb.cell ha).trans h0,(hb.cell (p:=⟨a.block,a.off+1,none⟩) ha).trans h1,(hb.cell (p:=⟨a.block,a.off+2,none⟩) ha).trans h2,(hb.cell (p:=⟨a.block,a.off+3,none⟩) ha).trans h3,
    (hb.cell (p:=⟨a.block,a.off+4,none⟩) ha).trans h4,(hb.cell (p:=⟨a.block,a.off+5,none⟩) ha).trans h5,(hb.cell (p:=⟨a.block,a.off+6,none⟩) ha).trans h6⟩
def CodeAt (B:Nat) (w:World) (s:Value) (l:List Ins):Prop :=
  ∃ (p:Option Addr) (cap:Nat),s=.slice p l.length cap∧l.length≤cap∧cap≤maxLen∧∀ i (h:i<l.length),∃ a,p=some a∧a.block<B∧InsAt w (a.add (i * 7)) l[i]
def BlocksAt (B:Nat) (w:World) (s:Value) (l:List (List Ins)):Prop :=
  ∃ (p:Option Addr) (cap:Nat),s=.slice p l.length cap∧l.length≤cap∧cap≤maxLen∧∀ i (h:i<l.length),∃ a v,p=some a∧a.block<B∧w.cell? (a.add i)=some v∧CodeAt B w v l[i]
set_option maxHeartbeats 1000000 in
theorem each_any (B:Nat) (l:List (List Ins)) (W:World) (nm pa rt bl:Value) (hB:B≤W.heap.size) (hl:BlocksAt B W bl l) (g:FuncId) (caps:Array Value) (Inv:Nat→Nat→World→Prop)
    (hen:∀ (args:Array Value) (w:World),(callFunc g args).run Tryz.prog w=.ok (.enter g args) w)
    (h0:Inv 0 0 W) (hnext:∀ b (h:b<l.length) w,Inv b l[b].length w→Inv (b+1) 0 w) (halloc:∀ b k w c t,B≤w.heap.size→Inv b k w→Inv b k (w.alloc (.cells c t)))
    (hstep:∀ b k (hb:b<l.length) (hk:k<l[b].length) w,B≤w.heap.size→Inv b k w→Calls Tryz.prog g (#[.agg #[.int .i64 0,.int .i64 b,.int .i64 k],l[b][k].val]++caps) w fun e w' => e=.returned (.tuple #[])∧Below B w w'∧Inv b (k+1) w') :
    Calls Tryz.prog 175 #[.agg #[nm,pa,rt,bl],.func (.func g) #[] caps] W fun e w' => e=.returned (.tuple #[])∧Below B W w'∧Inv l.length 0 w':=by
  obtain ⟨p,cap,rfl,hc1,hc2,hbl⟩:=hl
  unfold maxLen at hc2
  have HBL:=Lib.hid hbl
  have HS:=Lib.hid hstep
  have HN:=Lib.hid hnext
  have HA:=Lib.hid halloc
  have H0:=Lib.hid h0
  clear hbl hstep hnext halloc h0
  go_enter Tryz.func175,Tryz.ntmps175
  go_wp2_with fail
  have b0:Below B W (W.alloc (.cells #[nm,pa,rt,.slice p l.length cap] 49)):=(Below.refl _ _).alloc hB _
  have i0:Inv 0 0 (W.alloc (.cells #[nm,pa,rt,.slice p l.length cap] 49)):=HA.out 0 0 W _ _ hB H0.out
  go_loopw [11] (fun t wr=>∃ b:Nat,b≤l.length∧t=.int .i64 b∧Below B W wr∧Inv b 0 wr) (fun t _=>l.length - (intOf t).toNat)
  case atStart=>exact ⟨0,Nat.zero_le _,rfl,b0,i0⟩
  case round =>
    obtain ⟨b,hb,rfl,hbe,hI⟩:=hrel
    have hBr:B≤wr.heap.size:=Nat.le_trans hB hbe.size
    by_cases hlt:b<l.length
    · obtain ⟨a,v,rfl,hab,hcell,hcode⟩:=HBL.out b hlt
      obtain ⟨p2,cap2,rfl,hd1,hd2,hcd⟩:=hcode
      unfold maxLen at hd2
      have c1:wr.cell? (a.add b)=some (.slice p2 l[b].length cap2):=(hbe.cell (p:=a.add b) (by rw [add_block];exact hab)).trans hcell
      have HCD:=Lib.hid hcd
      have b1:=hbe.alloc hBr (.cells #[.slice p2 l[b].length cap2] 46)
      have i1:=HA.out b 0 wr #[.slice p2 l[b].length cap2] 46 hBr hI
      clear hcd hcell
      go_wp2_with fail
      go_loopw [19] (fun t wi=>∃ k:Nat,k≤l[b].length∧t=.int .i64 k∧Below B W wi∧Inv b k wi) (fun t _=>l[b].length - (intOf t).toNat)
      case atStart=>exact ⟨0,Nat.zero_le _,rfl,b1,i1⟩
      case round =>
        obtain ⟨k,hk,rfl,hbi,hJ⟩:=hrel
        have hBi:B≤wr.heap.size:=Nat.le_trans hB hbi.size
        by_cases hkl:k<l[b].length
        · obtain ⟨a2,rfl,ha2,hins⟩:=HCD.out k hkl
          obtain ⟨f0,f1,f2,f3,f4,f5,f6⟩:=hins.below hbi (by rw [add_block];exact ha2)
          clear hins
          have hst:=HS.out b k hlt hkl
          have i2:=HA.out b k wr #[.int .i64 l[b][k].op,.int .i64 l[b][k].reg,.int .i64 l[b][k].ty,.int .i64 l[b][k].n,.int .i64 l[b][k].fl,.slice l[b][k].ap l[b][k].al l[b][k].ac,.slice l[b][k].tp l[b][k].tl l[b][k].tc] 43 hBi hJ
          have b2:=hbi.alloc hBi (.cells #[.int .i64 l[b][k].op,.int .i64 l[b][k].reg,.int .i64 l[b][k].ty,.int .i64 l[b][k].n,.int .i64 l[b][k].fl,.slice l[b][k].ap l[b][k].al l[b][k].ac,.slice l[b][k].tp l[b][k].tl l[b][k].tc] 43)
          have HST:=Lib.hid hst
          clear hst
          have hB2:B≤(wr.alloc (.cells #[.int .i64 l[b][k].op,.int .i64 l[b][k].reg,.int .i64 l[b][k].ty,.int .i64 l[b][k].n,.int .i64 l[b][k].fl,.slice l[b][k].ap l[b][k].al l[b][k].ac,.slice l[b][k].tp l[b][k].tl l[b][k].tc] 43)).heap.size:=Nat.le_trans hB b2.size
          go_wp2_with fail
          refine (HST.out _ hB2 i2).mono ?_
          rintro e w2 ⟨rfl,hb2,hI2⟩
          go_wp2
          exact ⟨⟨k+1,by omega,by go_num,b2.trans hb2,hI2⟩,by simp [intOf];omega⟩
        · go_wp2_with fail
          obtain rfl:k=l[b].length:=by omega
          have i3:=HN.out b hlt wr hJ
          refine ⟨⟨b+1,by omega,by go_num,hbi,i3⟩,by simp [intOf];omega⟩
    · go_wp2_with fail
      obtain rfl:b=l.length:=by omega
      go_end0
      exact ⟨rfl,hbe,hI⟩
theorem ret_int {k:IntKind} {a b:Int} (h:a=b):Ending.returned (.int k a)=.returned (.int k b):=by rw [h]
theorem ret_bool {a b:Bool} (h:a=b):Ending.returned (.bool a)=.returned (.bool b):=by rw [h]
def ahead (l:List (List Ins)) (b k:Nat):List Ins:=(l.take b).flatten++(l.getD b []).take k
theorem ahead_0 (l:List (List Ins)):ahead l 0 0=[]:=by simp [ahead]
theorem ahead_next (l:List (List Ins)) (b:Nat) (h:b<l.length):ahead l (b+1) 0=ahead l b l[b].length:=by
  unfold ahead
  have e:l.getD b []=l[b]:=by simp [List.getD_eq_getElem?_getD,h]
  rw [List.take_succ_eq_append_getElem h,List.flatten_append,e,List.take_length,List.take_zero,List.append_nil,List.flatten_cons,List.flatten_nil,List.append_nil]
theorem ahead_succ (l:List (List Ins)) (b k:Nat) (h:b<l.length) (hk:k<l[b].length):ahead l b (k+1)=ahead l b k++[l[b][k]]:=by
  unfold ahead
  have e:l.getD b []=l[b]:=by simp [List.getD_eq_getElem?_getD,h]
  rw [e,List.take_succ_eq_append_getElem hk,List.append_assoc]
theorem ahead_all (l:List (List Ins)):ahead l l.length 0=l.flatten:=by simp [ahead]
theorem ahead_le (l:List (List Ins)) (b k:Nat) (h:b<l.length) (hk:k<l[b].length):(ahead l b k).length<l.flatten.length:=by
  have e:l.flatten=ahead l b k++(l[b].drop k++(l.drop (b+1)).flatten):=by
    have h1:l=l.take b++l[b]::l.drop (b+1):=by rw [List.getElem_cons_drop,List.take_append_drop]
    have e:l.getD b []=l[b]:=by simp [List.getD_eq_getElem?_getD,h]
    unfold ahead
    rw [e]
    calc l.flatten=(l.take b++l[b]::l.drop (b+1)).flatten:=by rw [← h1]
      _=_:=by rw [List.flatten_append,List.flatten_cons,List.append_assoc,← List.append_assoc ((l[b]).take k),List.take_append_drop]
  rw [e,List.length_append,List.length_append,List.length_drop]
  omega
theorem CodeAt.below {B:Nat} {W w:World} {s:Value} {l:List Ins} (h:CodeAt B W s l) (hb:Below B W w):CodeAt B w s l:=by
  obtain ⟨p,cap,h1,h2,h3,h4⟩:=h
  refine ⟨p,cap,h1,h2,h3,fun i hi=>?_⟩
  obtain ⟨a,e,ha,hI⟩:=h4 i hi
  exact ⟨a,e,ha,hI.below hb (by rw [add_block];exact ha)⟩
theorem BlocksAt.below {B:Nat} {W w:World} {s:Value} {l:List (List Ins)} (h:BlocksAt B W s l) (hb:Below B W w):BlocksAt B w s l:=by
  obtain ⟨p,cap,h1,h2,h3,h4⟩:=h
  refine ⟨p,cap,h1,h2,h3,fun i hi=>?_⟩
  obtain ⟨a,v,e,ha,hc,hI⟩:=h4 i hi
  exact ⟨a,v,e,ha,(hb.cell (p:=a.add i) (by rw [add_block];exact ha)).trans hc,hI.below hb⟩
def One (B:Nat) (c:Nat) (v:Value) (w:World):Prop:=B≤c∧c<w.heap.size∧w.cell? ⟨c,0,none⟩=some v∧w.frozen? ⟨c,0,none⟩=false
theorem One.alloc {B c:Nat} {v:Value} {w:World} (h:One B c v w) (x:Array Value) (t:TypeId):One B c v (w.alloc (.cells x t)):=by
  obtain ⟨h1,h2,h3,h4⟩:=h
  refine ⟨h1,by simp;omega,by rw [World.cell?_alloc_past _ _ _ h2];exact h3,?_⟩
  exact (((Below.refl w.heap.size w).alloc (Nat.le_refl _) _).frozen (p:=⟨c,0,none⟩) h2).trans h4
theorem One.new {B:Nat} (w:World) (hB:B≤w.heap.size) (v:Value) (t:TypeId):One B w.heap.size v (w.alloc (.cells #[v] t)) :=
  ⟨hB,by simp,by rw [World.cell?_alloc_at _ _ _ _ rfl];rfl,World.frozen?_alloc_at _ _ _ _ rfl⟩
theorem One.new2 {B:Nat} (w:World) (hB:B≤w.heap.size) (x:Array Value) (t':TypeId) (v:Value) (t:TypeId):One B (w.heap.size+1) v ((w.alloc (.cells x t')).alloc (.cells #[v] t)):=by
  have h:=One.new (w.alloc (.cells x t')) (B:=B) (by simp;omega) v t
  have e:(w.alloc (.cells x t')).heap.size=w.heap.size+1:=by simp
  rwa [e] at h
theorem One.set {B c:Nat} {v:Value} {w:World} (h:One B c v w) (v':Value):One B c v' (w.setCell ⟨c,0,none⟩ v'):=by
  obtain ⟨h1,h2,h3,h4⟩:=h
  exact ⟨h1,by simpa [World.setCell] using h2,by rw [World.cell?_setCell_same' _ _ _ (by rw [h3];rfl)],by rw [World.frozen?_setCell];exact h4⟩
def Past (B:Nat) (W w:World):Prop:=B≤W.heap.size∧Below B W w
theorem Past.refl {B:Nat} {W:World} (h:B≤W.heap.size):Past B W W:=⟨h,Below.refl _ _⟩
theorem Past.size {B:Nat} {W w:World} (h:Past B W w):B≤w.heap.size:=Nat.le_trans h.1 h.2.size
theorem Past.alloc {B:Nat} {W w:World} (h:Past B W w) (o:Obj):Past B W (w.alloc o):=⟨h.1,h.2.alloc h.size o⟩
theorem Past.set {B:Nat} {W w:World} (h:Past B W w) {a:Addr} (ha:B≤a.block) (v:Value):Past B W (w.setCell a v):=⟨h.1,h.2.setCell ha v⟩
theorem Past.trans {B:Nat} {a b c:World} (h:Past B a b) (k:Past B b c):Past B a c:=⟨h.1,h.2.trans k.2⟩
theorem size1_any (B c:Nat) (n:Int) (p0 p1 p2 q0 q1 q2 q3 q4:Int) (ap tp:Option Addr) (al ac tl tc:Nat) (w:World) (hB:B≤w.heap.size) (h:One B c (.int .i64 n) w) (h0:0≤n) (h1:n<4611686018427387904) :
    Calls Tryz.prog 176 #[.agg #[.int .i64 p0,.int .i64 p1,.int .i64 p2],.agg #[.int .i64 q0,.int .i64 q1,.int .i64 q2,.int .i64 q3,.int .i64 q4,.slice ap al ac,.slice tp tl tc],.pointer (some ⟨c,0,none⟩)] w
      fun e w' => e=.returned (.tuple #[])∧Below B w w'∧One B c (.int .i64 (n+1)) w':=by
  obtain ⟨k1,k2,k3,k4⟩:=id h
  go_enter Tryz.func176,Tryz.ntmps176
  go_wp2
  go_end0
  exact ⟨rfl,((((Past.refl hB).set k1 _).alloc _).alloc _).2,((h.set _).alloc _ _).alloc _ _⟩
set_option maxRecDepth 100000 in
theorem enters_s:∀ (args:Array Value) (w:World),(callFunc 176 args).run Tryz.prog w=.ok (.enter 176 args) w:=fun _ _=>rfl
set_option maxHeartbeats 1000000 in
theorem Size_any (B:Nat) (l:List (List Ins)) (W:World) (nm pa:Value) (rt:Int) (s0:ByteArray) (p1:Option Addr) (n1 c1:Nat) (p2:Option Addr) (n2 c2:Nat) (hB:B≤W.heap.size) (hl:BlocksAt B W (.slice p2 n2 c2) l) (T:Nat) (eT:l.flatten.length=T) (hT:T<4611686018427387904) :
    Calls Tryz.prog 153 #[.agg #[.string s0,.slice p1 n1 c1,.int .i64 rt,.slice p2 n2 c2]] W fun e w' => e=.returned (.int .i64 T)∧Below B W w':=by
  have hmf:∀ (fn:Fn) (first cap:Array Value) (w:World),(Instr.makeFunc fn first cap).run Tryz.prog w=.ok (.func fn first cap) w:=fun _ _ _ _=>rfl
  have ET:=Lib.hid eT
  go_enter Tryz.func153,Tryz.ntmps153
  have hb:Past B W ((W.alloc (.cells #[.string s0,.slice p1 n1 c1,.int .i64 rt,.slice p2 n2 c2] 49)).alloc (.cells #[.int .i64 0] 3)):=((Past.refl hB).alloc _).alloc _
  have hl2:=hl.below hb.2
  have ho:One B (W.heap.size+1) (.int .i64 ((ahead l 0 0).length:Nat)) ((W.alloc (.cells #[.string s0,.slice p1 n1 c1,.int .i64 rt,.slice p2 n2 c2] 49)).alloc (.cells #[.int .i64 0] 3)):=by
    rw [ahead_0];exact One.new2 W hB _ _ _ _
  have he:=each_any B l _ (.string s0) (.slice p1 n1 c1) (.int .i64 rt) _ hb.size hl2 176 #[.pointer (some ⟨W.heap.size+1,0,none⟩)] (fun b k w=>One B (W.heap.size+1) (.int .i64 ((ahead l b k).length:Nat)) w) enters_s
    ho (fun b h w hw=>by rw [ahead_next l b h];exact hw) (fun b k w c t _ hw=>hw.alloc c t)
    (fun b k hb hk w hB hw=>by
      have hle:=ahead_le l b k hb hk
      rw [ET.out] at hle
      rw [ahead_succ l b k hb hk,List.length_append]
      exact size1_any B _ _ _ _ _ _ _ _ _ _ _ _ _ _ _ _ w hB hw (by omega) (by omega))
  clear eT
  go_wp2_with fail
  refine he.mono ?_
  rintro e w2 ⟨rfl,hb2,ho2⟩
  rw [ahead_all,ET.out] at ho2
  clear he ho hT
  obtain ⟨k1,k2,k3,k4⟩:=id ho2
  go_wp2
  go_ret
  exact ⟨rfl,(hb.trans ⟨hb.size,hb2⟩).2⟩
def ArgAt (w:World) (a:Addr) (v:Arg):Prop :=
  w.cell? a=some (.int .i64 v.kind)∧w.cell? ⟨a.block,a.off+1,none⟩=some (.int .i64 v.n)∧w.cell? ⟨a.block,a.off+2,none⟩=some (.int .u64 v.bits)
theorem ArgAt.below {B:Nat} {W w:World} {a:Addr} {v:Arg} (h:ArgAt W a v) (hb:Below B W w) (ha:a.block<B):ArgAt w a v:=by
  obtain ⟨h0,h1,h2⟩:=h
  exact ⟨(hb.cell ha).trans h0,(hb.cell (p:=⟨a.block,a.off+1,none⟩) ha).trans h1,(hb.cell (p:=⟨a.block,a.off+2,none⟩) ha).trans h2⟩
def argsNum (l:List Ins):Nat:=(l.map fun d=>d.args.length).sum
def idleB (op:Int):Bool:=decide (1≤op∧op≤29∧op≠28)
def resV (op ty:Int):Int:=if op<1∨30<op∨op=28 then 0 else if op=26∨op=29 then 65 else if 14≤op∧op≤19 then 1 else ty
def mk (reg:Int) (d:Ins):Bool:=d.reg==reg&&resV d.op d.ty != 0
def S (l:List Int):DataW Unit:=setOf (.agg []) (l.map (Lit.int .i64))
def cnt (l:List Ins):Nat:=l.length+argsNum l
theorem cellsInt:Tryz.prog.cellsOf 3=1:=by kernel_rfl
theorem cellsU64:Tryz.prog.cellsOf 105=1:=by kernel_rfl
theorem cellsValue:Tryz.prog.cellsOf 107=3:=by kernel_rfl
theorem cellsInstr:Tryz.prog.cellsOf 43=7:=by kernel_rfl
theorem cellsBlock:Tryz.prog.cellsOf 46=1:=by kernel_rfl
theorem cellsFunc:Tryz.prog.cellsOf 49=4:=by kernel_rfl
theorem cellsVals:Tryz.prog.cellsOf 41=1:=by kernel_rfl
theorem cellsInts:Tryz.prog.cellsOf 40=1:=by kernel_rfl
theorem cellsBlocks:Tryz.prog.cellsOf 47=1:=by kernel_rfl
theorem cellsString:Tryz.prog.cellsOf 9=1:=by kernel_rfl
theorem cellsCode:Tryz.prog.cellsOf 44=1:=by kernel_rfl
theorem block_lt {w:World} {a:Addr} {v:Value} (h:w.cell? a=some v):a.block<w.heap.size:=by
  by_cases hl:a.block<w.heap.size
  · exact hl
  · unfold World.cell? at h
    rw [Array.getElem?_eq_none (by omega)] at h
    cases h
theorem add_pos (x:Addr) (j:Nat) (hj:j≠0):x.add j=⟨x.block,x.off+j,none⟩:=by unfold Addr.add;rw [if_neg hj]
theorem add_zero (x:Addr):x.add 0=x:=by unfold Addr.add;rw [if_pos rfl]
instance:Inhabited Arg:=⟨⟨0,0,0⟩⟩
instance:Inhabited Ins:=⟨⟨0,0,0,0,0,none,0,0,none,0,0,[]⟩⟩
theorem bulk_pos {H:Type} (d:DataW H):1≤Rows.uptoBulk d:=by
  cases d
  case lit l=>cases l <;> simp [Rows.uptoBulk]
  all_goals simp [Rows.uptoBulk]
theorem bulk_app {H:Type} (l r:List (DataW H)):Rows.uptoBulkAll (l++r)=Rows.uptoBulkAll l+Rows.uptoBulkAll r:=by
  induction l with
  | nil=>simp [Rows.uptoBulkAll]
  | cons x l ih=>simp only [List.cons_append,Rows.uptoBulkAll,ih];omega
theorem bulk_sum {H:Type} (D:Nat→DataW H) (g:Nat→Nat):∀ n:Nat,(∀ i,i<n→g i≤Rows.uptoBulk (D i))→((List.range n).map g).sum≤Rows.uptoBulkAll ((List.range n).map D)
  | 0,_=>Nat.zero_le _
  | n+1,h=>by
    have ih:=bulk_sum D g n (fun i hi=>h i (by omega))
    have hn:=h n (by omega)
    rw [List.range_succ,List.map_append,List.map_append,bulk_app,List.sum_append]
    simp [Rows.uptoBulkAll]
    omega
theorem sum_ones:∀ n:Nat,((List.range n).map (fun _=>(1:Nat))).sum=n
  | 0=>rfl
  | n+1=>by rw [List.range_succ,List.map_append,List.sum_append,sum_ones n];rfl
theorem bulk_slice {H:Type} (e s:List (DataW H)):Rows.uptoBulkAll e≤Rows.uptoBulk (.slice e s):=by simp only [Rows.uptoBulk];omega
section
variable {H:Type} {enc:TypeId×Value→H} {W:World} {sp:Nat→Bool} {held:Bool}
theorem tr_int {n:Nat} {c:Value} {y:DataW H×List MemPlace} (h:DataW.trod enc Tryz.prog W 0 sp held n 3 [c]=some y):∃ k:Int,c=.int .i64 k∧(Lit.int .i64 k).wf=true:=by
  obtain ⟨k,h1,_,h2⟩:=DataW.trod_int Tryz.underlying3 h
  exact ⟨k,(List.cons.inj h1).1,h2⟩
end
def SomeBool (W:World) (e:Ending) (w':World):Prop:=∃ b:Bool,e=.returned (.bool b)∧Below W.heap.size W w'
def insC (d:Ins):List Value:=[.int .i64 d.op,.int .i64 d.reg,.int .i64 d.ty,.int .i64 d.n,.int .i64 d.fl,.slice d.ap d.al d.ac,.slice d.tp d.tl d.tc]
theorem lit_cells (w:World) (cs:Array Value) (ty:TypeId):∀ (j:Nat) (u:Value),cs.toList[j]? = some u→(w.alloc (.cells cs ty)).cell? ((⟨w.heap.size,0,none⟩:Addr).add j)=some u:=by
  intro j u h
  have e:(⟨w.heap.size,0,none⟩:Addr).add j=⟨w.heap.size,j,none⟩:=by
    unfold Addr.add
    by_cases hj:j=0
    · subst hj;rfl
    · rw [if_neg hj];simp
  rw [e,World.cell?_alloc_at _ _ _ _ rfl]
  simpa using h
theorem insC_one (d:Ins):∀ u∈insC d,u.oneCell' = true:=by intro u hu;unfold insC at hu;simp at hu;rcases hu with rfl | rfl | rfl | rfl | rfl | rfl | rfl <;> rfl
theorem Past.grownRow {B:Nat} {row:Option Nat} {W w w':World} (h:Past B W w) (g:w.grownBy w' row) (hr:∀ j,row=some j→B≤j):Past B W w':=⟨h.1,h.2.grown g h.size hr⟩
theorem add0 (g j:Nat):(⟨g,0,none⟩:Addr).add j=⟨g,j,none⟩:=by
  unfold Addr.add
  by_cases hj:j=0
  · subst hj;rfl
  · rw [if_neg hj];simp
theorem flat_get {α:Type} (f:α→List Value) (m:Nat) (hf:∀ x,(f x).length=m) (L:List α):∀ (i:Nat) (h:i<L.length) (j:Nat),j<m→(L.flatMap f)[i * m+j]? = (f L[i])[j]?:=by
  induction L with
  | nil=>intro i h;exact absurd h (Nat.not_lt_zero _)
  | cons x L ih =>
    intro i h j hj
    rw [List.flatMap_cons]
    cases i with
    | zero=>rw [List.getElem?_append_left (by rw [hf];omega)];simp
    | succ i =>
      have e:(i+1) * m+j=m+(i * m+j):=by rw [Nat.add_mul];omega
      rw [List.getElem?_append_right (by rw [hf];omega),hf,e,Nat.add_sub_cancel_left]
      exact ih i (by simpa using h) j hj
theorem below_drew {B:Nat} {W w:World} (h:Below B W w):Below B W w.drew:=⟨h.os,h.tape,h.output,h.size,h.block⟩
section
variable {W:World} {s0:ByteArray} {p1:Option Addr} {n1 c1:Nat} {rt:Int} {p2:Option Addr} {n2 c2:Nat} {l:List (List Ins)}
end
theorem run_copy_wide (P:Program) (w:World) (dT sT ty elem:TypeId) (m:Nat) (g o dLen dCap:Nat) (a:Addr) (sLen sCap:Nat) (cur:Array Value) (t:TypeId) (n:Nat) (cs:List Value)
    (hu:P.underlying dT=some (.slice elem)) (hs:(P.info? elem).map (·.size)=some m)
    (hg:w.heap[g]? = some (.cells cur t (0,0))) (hn:Nat.min sLen dLen=n) (hcs:cs.length=n * m)
    (hsrc:∀ j v,cs[j]? = some v→w.cell? (a.add j)=some v) (hfit:o+cs.length≤cur.size) (h1:∀ v∈cs,v.oneCell' = true) :
    (Builtin.copy_ #[dT,sT] ty #[.slice (some ⟨g,o,none⟩) dLen dCap,.slice (some a) sLen sCap]).run P w =
      .ok (goInt n) (w.setRow g (cur.toList.take o++(cs++cur.toList.drop (o+cs.length))).toArray):=by
  have hl:=run_loadCells_list (P:=P) w a cs hsrc
  have hst:=run_storeCells_at P g o t cs 0 cur w hg (by simpa using hfit) h1
  rw [hcs] at hl
  cases hq:P.info? elem with
  | none=>simp [hq] at hs
  | some i =>
    have hi:i.size=m:=by simpa [hq] using hs
    simp [Builtin.copy_,run_underlying hu,Builtin.lenOf,Builtin.firstCells,sizeOf,typeInfo,hq,hi,hn,hl,hst]
theorem wpList_copy_wide {P:Program} {w:World} {ops:Array Oper} {rest:List Oper} {o:Oper} {a:Act} {Q:Exit→Act→World→Prop} (hgd:o.guard=none) (d s:Operand) (dT sT:TypeId)
    (ho:o.op=.call { callee:=.builtin .copy,args:=#[d,s],argTypes:=#[dT,sT] }) (elem:TypeId) (m:Nat) (hu:P.underlying dT=some (.slice elem)) (hsz:(P.info? elem).map (·.size)=some m)
    (B g n dCap:Nat) (ad:Addr) (sCap:Nat) (hd:a.eval d=.slice (some ⟨g,0,none⟩) n dCap) (hs:a.eval s=.slice (some ad) n sCap)
    (zs:List Value) (hown:w.ownsRow B elem m (.slice (some ⟨g,0,none⟩) n n) n zs) (cs:List Value) (hn:cs.length=n * m)
    (hsrc:∀ j v,cs[j]? = some v→w.cell? (ad.add j)=some v) (h1:∀ v∈cs,v.oneCell' = true)
    (h:∀ w',w'.ownsRow B elem m (.slice (some ⟨g,0,none⟩) n n) n cs→w.grownBy w' (some g)→wpList P ops Q rest (a.put o.dst (goInt n)) w'):wpList P ops Q (o::rest) a w:=by
  refine wpList_plain hgd fun K hK=>?_
  obtain ⟨hz,h0 | ⟨g',cap,cur,e,hB,hg,hc1,hc2,hsize,htake⟩⟩:=hown
  · exact absurd h0.1 (by simp)
  · injection e with e1 e2 e3
    injection e1 with e1
    injection e1 with e1
    subst e1 e3
    have hrun:=run_copy_wide P w dT sT o.type elem m g 0 n dCap ad n sCap cur elem n cs hu hsz hg (Nat.min_self n) hn hsrc (by rw [hn,hsize];omega) h1
    unfold Oper.wp
    simp [execOp,ho,resolve,invoke,builtin,hd,hs,hrun,Result.andThen]
    have e0:cs++cur.toList.drop cs.length=cs:=by
      rw [List.drop_eq_nil_of_le (by rw [Array.length_toList,hn,hsize];exact Nat.le_refl _),List.append_nil]
    refine hK _ _ (h _ ⟨hn,.inr ⟨g,n,cs.toArray,rfl,hB,?_,Nat.le_refl _,hc2,by simpa using hn,by rw [← hn];simp⟩⟩ ⟨rfl,rfl,rfl,by simp [World.setRow],fun k hk hne=>setRow_other w g k _ (fun e=>hne (by rw [e]))⟩)
    have:=setRow_heap w g cur cs.toArray elem (0,0) hg
    simpa [e0] using this
theorem infoOf_N:(Tryz.prog.info? 3).map (fun i=>(i.zero,i.size,i.bytes))=some (some (.int .i64 0),1,8):=by kernel_rfl
set_option maxRecDepth 100000 in
set_option maxHeartbeats 2000000 in
theorem copyList_N (p:Option Addr) (n cap:Nat) (cs:List Value) (W:World) (hn:cs.length=n * 1) (hs:∀ j u,cs[j]? = some u→∃ a,p=some a∧W.cell? (a.add j)=some u) (h1:∀ u∈cs,u.oneCell' = true) (hl:n≤1048576) :
    Calls Tryz.prog 138 #[.slice p n cap] W fun e w' => ∃ v',e=.returned v'∧Past W.heap.size W w'∧w'.ownsRow W.heap.size 3 1 v' n cs:=by
  obtain ⟨iV,hiV,hz0,hz1,hz2⟩:=info_parts infoOf_N
  cases p with
  | none =>
    have e0:cs=[]:=by
      cases cs with
      | nil=>rfl
      | cons u r=>obtain ⟨a,e,_⟩:=hs 0 u rfl;cases e
    subst e0
    obtain rfl:n=0:=by simp at hn;omega
    have heq:=fun w=>Go.Lib.run_eql_slice_nil_nil (P:=Tryz.prog) w (t:=40) 0 cap Tryz.underlying40
    go_enter Tryz.func138,Tryz.ntmps138
    go_wp2_with fail
    go_ret
    exact ⟨_,rfl,Past.refl (Nat.le_refl _),World.ownsRow_nil _ _ _ _⟩
  | some a =>
    have hsrc:∀ j u,cs[j]? = some u→W.cell? (a.add j)=some u:=fun j u h=>by obtain ⟨a',e,h⟩:=hs j u h;cases e;exact h
    have hlow:∀ j u,cs[j]? = some u→a.block<W.heap.size:=fun j u h=>by
      have h2:=hsrc j u h
      by_cases h3:(a.add j).block<W.heap.size
      · rw [add_block] at h3;exact h3
      · unfold World.cell? at h2
        rw [Array.getElem?_eq_none (Nat.le_of_not_lt h3)] at h2
        cases h2
    have HSRC:=Lib.hid hsrc
    have HLOW:=Lib.hid hlow
    have HI:=Lib.hid (And.intro hiV (And.intro hz0 (And.intro hz1 hz2)))
    clear hsrc hlow hs hiV hz0 hz1 hz2
    have b2:iV.bytes * n≤281474976710656:=by rw [HI.out.2.2.2];omega
    have b3:n≤maxLen:=by unfold maxLen;omega
    have B2:=Lib.hid b2
    have B3:=Lib.hid b3
    have HS3:Hid ((Tryz.prog.info? 3).map (·.size)=some 1):=Lib.hid (by rw [HI.out.1];simp [HI.out.2.2.1])
    have HB:Hid (∀ w1,W.grownBy w1 none→Past W.heap.size W w1∧∀ j u,cs[j]? = some u→w1.cell? (a.add j)=some u):=Lib.hid fun w1 g=>by
      have P1:=(Past.refl (Nat.le_refl W.heap.size)).grownRow g (fun j e=>by cases e)
      exact ⟨P1,fun j u h=>(P1.2.cell (p:=a.add j) (by rw [add_block];exact HLOW.out j u h)).trans (HSRC.out j u h)⟩
    clear b2 b3
    have heq:=fun w=>Go.Lib.run_eql_slice_some_nil (P:=Tryz.prog) w (t:=40) a n cap Tryz.underlying40
    go_enter Tryz.func138,Tryz.ntmps138
    go_wp2_with (first
      | (at_make;refine wpList_make_full _ rfl _ _ 40 rfl W.heap.size 3 iV _ 1 Tryz.underlying40 HI.out.1 HI.out.2.1 HI.out.2.2.1 _ _ _ _ n rfl rfl rfl rfl B2.out B3.out (Nat.le_refl _) ?_;intro w1 hown1 hgrow1)
      | (with_reducible have _g:=hgrow1;refine wpList_copy_wide rfl (.tmp 9) (.tmp 10) 40 40 rfl 3 1 Tryz.underlying40 HS3.out W.heap.size W.heap.size n n a cap rfl rfl _ hown1 cs hn (HB.out _ hgrow1).2 h1 ?_;intro w2 hown2 hgrow2))
    go_ret
    exact ⟨_,rfl,(HB.out _ hgrow1).1.grownRow hgrow2 (fun j e=>by cases e;exact Nat.le_refl _),hown2⟩
section
variable {H:Type} {enc:TypeId×Value→H} {W:World} {sp:Nat→Bool} {held:Bool}
end
def argC (v:Arg):List Value:=[.int .i64 v.kind,.int .i64 v.n,.int .u64 v.bits]
theorem add_add (a:Addr) (m r:Nat) (hr:r≠0):a.add (m+r)=⟨(a.add m).block,(a.add m).off+r,none⟩:=by
  rw [add_pos a (m+r) (by omega)]
  by_cases hm:m=0
  · subst hm;rw [add_zero,Nat.zero_add]
  · rw [add_pos a m hm];simp [Nat.add_assoc]
theorem ownsRow_set {w:World} {B e s n:Nat} {v:Value} {xs:List Value} (h:w.ownsRow B e s v n xs) {a:Addr} (ha:a.block<B) (u:Value):(w.setCell a u).ownsRow B e s v n xs:=by
  refine ⟨h.1,?_⟩
  rcases h.2 with hn | ⟨g,cap,cur,hv,hB,hg,h1,h2,h3,h4⟩
  · exact .inl hn
  · exact .inr ⟨g,cap,cur,hv,hB,(Go.Deep.blk_setCell_other w a u g (by omega)).trans hg,h1,h2,h3,h4⟩
theorem ownsRow_below {w w2:World} {B e s n:Nat} {v:Value} {xs:List Value} (h:w.ownsRow B e s v n xs) (hb:Below w.heap.size w w2):w2.ownsRow B e s v n xs:=by
  have hlt:=h.lt
  refine ⟨h.1,?_⟩
  rcases h.2 with hn | ⟨g,cap,cur,hv,hB,hg,h1,h2,h3,h4⟩
  · exact .inl hn
  · have h5:g<w.heap.size:=(hlt g (by rw [hv];rfl)).2
    exact .inr ⟨g,cap,cur,hv,hB,(hb.block g h5).trans hg,h1,h2,h3,h4⟩
theorem row_slice {w:World} {B:Nat} {e:TypeId} {m n:Nat} {v:Value} {xs:List Value} (h:w.ownsRow B e m v n xs):∃ (p:Option Addr) (c:Nat),v=.slice p n c:=by
  rcases h.2 with ⟨rfl,rfl⟩ | ⟨g,cap,cur,rfl,_⟩
  · exact ⟨none,0,rfl⟩
  · exact ⟨_,cap,rfl⟩
def Stay (a b:Nat) (w w':World):Prop:=∀ k,a≤k→k<b→w'.heap[k]? = w.heap[k]?
def Spread {α:Type} (Q:Nat→Nat→World→α→Prop) (g:Option Nat):Nat→Nat→World→List α→Prop
  | lo,hi,_,[]=>lo≤hi
  | lo,hi,w,x::xs=>∃ a b,lo≤a∧a≤b∧(∀ k,g=some k→k<a∨b≤k)∧Q a b w x∧Spread Q g b hi w xs
section
variable {α:Type} {Q:Nat→Nat→World→α→Prop} {g:Option Nat}
theorem Spread.down {xs:List α} {lo lo' hi:Nat} {w:World} (h:Spread Q g lo hi w xs) (hl:lo'≤lo):Spread Q g lo' hi w xs:=by
  cases xs with
  | nil=>exact Nat.le_trans hl h
  | cons x xs =>
    obtain ⟨a,b,h1,h2,h3,h4,h⟩:=h
    exact ⟨a,b,Nat.le_trans hl h1,h2,h3,h4,h⟩
def Local (Q:Nat→Nat→World→α→Prop):Prop:=∀ a b w w' x,Stay a b w w'→Q a b w x→Q a b w' x
end
theorem flat_len {α:Type} (f:α→List Value) (m:Nat) (hf:∀ x,(f x).length=m) (L:List α):(L.flatMap f).length=L.length * m:=by
  induction L with
  | nil=>simp
  | cons x L ih=>rw [List.flatMap_cons,List.length_append,ih,hf,List.length_cons,Nat.add_mul,Nat.one_mul,Nat.add_comm]
structure PIns where
  op:Int
  reg:Int
  ty:Int
  n:Int
  fl:Int
  args:List Arg
  tg:List Int
structure PFn where
  nm:ByteArray
  ps:List Int
  rt:Int
  bs:List (List PIns)
structure PExt where
  nm:ByteArray
  ps:List Int
  rt:Int
structure PVar where
  nm:ByteArray
  size:Int
structure PMod where
  vs:List PVar
  xs:List PExt
  fs:List PFn
abbrev LI:=Ins×List Int
structure LB where
  p:Option Addr
  n:Nat
  k:Nat
  code:List LI
structure LFn where
  nm:ByteArray
  pp:Option Addr
  pn:Nat
  pc:Nat
  ps:List Int
  rt:Int
  bp:Option Addr
  bn:Nat
  bc:Nat
  bs:List LB
structure LExt where
  nm:ByteArray
  pp:Option Addr
  pn:Nat
  pc:Nat
  ps:List Int
  rt:Int
structure LMod where
  vp:Option Addr
  vn:Nat
  vc:Nat
  vs:List PVar
  xp:Option Addr
  xn:Nat
  xc:Nat
  xs:List LExt
  fp:Option Addr
  fn:Nat
  fc:Nat
  fs:List LFn
def insD (x:LI):PIns:=⟨x.1.op,x.1.reg,x.1.ty,x.1.n,x.1.fl,x.1.args,x.2⟩
def blkD (c:LB):List PIns:=c.code.map insD
def fnD (f:LFn):PFn:=⟨f.nm,f.ps,f.rt,f.bs.map blkD⟩
def extD (f:LExt):PExt:=⟨f.nm,f.ps,f.rt⟩
def modD (m:LMod):PMod:=⟨m.vs,m.xs.map extD,m.fs.map fnD⟩
def intC (i:Int):List Value:=[.int .i64 i]
def liC (x:LI):List Value:=insC x.1
def blkC (c:LB):List Value:=[.slice c.p c.n c.k]
def fnC (f:LFn):List Value:=[.string f.nm,.slice f.pp f.pn f.pc,.int .i64 f.rt,.slice f.bp f.bn f.bc]
def extC (f:LExt):List Value:=[.string f.nm,.slice f.pp f.pn f.pc,.int .i64 f.rt]
def varC (v:PVar):List Value:=[.string v.nm,.int .i64 v.size]
def modC (m:LMod):List Value:=[.slice m.vp m.vn m.vc,.slice m.xp m.xn m.xc,.slice m.fp m.fn m.fc]
theorem liC_one (x:LI):∀ u∈liC x,u.oneCell' = true:=insC_one x.1
theorem blkC_one (x:LB):∀ u∈blkC x,u.oneCell' = true:=by intro u hu;unfold blkC at hu;simp at hu;rw [hu];rfl
theorem fnC_one (x:LFn):∀ u∈fnC x,u.oneCell' = true:=by intro u hu;unfold fnC at hu;simp at hu;rcases hu with rfl | rfl | rfl | rfl <;> rfl
theorem extC_one (x:LExt):∀ u∈extC x,u.oneCell' = true:=by intro u hu;unfold extC at hu;simp at hu;rcases hu with rfl | rfl | rfl <;> rfl
theorem varC_one (x:PVar):∀ u∈varC x,u.oneCell' = true:=by intro u hu;unfold varC at hu;simp at hu;rcases hu with rfl | rfl <;> rfl
theorem intC_one (x:Int):∀ u∈intC x,u.oneCell' = true:=by intro u hu;unfold intC at hu;simp at hu;rw [hu];rfl
def RowAt (B:Nat) (w:World) (p:Option Addr) (cs:List Value):Prop:=∀ j u,cs[j]? = some u→∃ a,p=some a∧a.block<B∧w.cell? (a.add j)=some u
def ListIn {α:Type} (cel:α→List Value) (E:Nat→World→α→Prop) (B:Nat) (w:World) (p:Option Addr) (n c:Nat) (xs:List α):Prop :=
  n=xs.length∧n≤c∧c≤maxLen∧RowAt B w p (xs.flatMap cel)∧∀ x∈xs,E B w x
def NoMem {α:Type}:Nat→World→α→Prop:=fun _ _ _=>True
def InsIn (B:Nat) (w:World) (x:LI):Prop:=ListIn argC NoMem B w x.1.ap x.1.al x.1.ac x.1.args∧ListIn intC NoMem B w x.1.tp x.1.tl x.1.tc x.2
def BlkIn (B:Nat) (w:World) (c:LB):Prop:=ListIn liC InsIn B w c.p c.n c.k c.code
def FnIn (B:Nat) (w:World) (f:LFn):Prop:=ListIn intC NoMem B w f.pp f.pn f.pc f.ps∧ListIn blkC BlkIn B w f.bp f.bn f.bc f.bs
def ExtIn (B:Nat) (w:World) (f:LExt):Prop:=ListIn intC NoMem B w f.pp f.pn f.pc f.ps
def ModIn (B:Nat) (w:World) (m:LMod):Prop:=ListIn varC NoMem B w m.vp m.vn m.vc m.vs∧ListIn extC ExtIn B w m.xp m.xn m.xc m.xs∧ListIn fnC FnIn B w m.fp m.fn m.fc m.fs
theorem RowAt.below {B:Nat} {W w:World} {p:Option Addr} {cs:List Value} (h:RowAt B W p cs) (hb:Below B W w):RowAt B w p cs:=fun j u hu=>by
  obtain ⟨a,e,ha,hc⟩:=h j u hu
  exact ⟨a,e,ha,(hb.cell (p:=a.add j) (by rw [add_block];exact ha)).trans hc⟩
theorem RowAt.mono {B B':Nat} {w:World} {p:Option Addr} {cs:List Value} (h:RowAt B w p cs) (hB:B≤B'):RowAt B' w p cs:=fun j u hu=>by
  obtain ⟨a,e,ha,hc⟩:=h j u hu
  exact ⟨a,e,Nat.lt_of_lt_of_le ha hB,hc⟩
def Lasts {α:Type} (E:Nat→World→α→Prop):Prop:=∀ B B' W w x,Below B W w→B≤B'→E B W x→E B' w x
theorem lasts_NoMem {α:Type}:Lasts (NoMem (α:=α)):=fun _ _ _ _ _ _ _ _=>trivial
theorem ListIn.lasts {α:Type} {cel:α→List Value} {E:Nat→World→α→Prop} (hE:Lasts E) {B B':Nat} {W w:World} {p:Option Addr} {n c:Nat} {xs:List α} (h:ListIn cel E B W p n c xs) (hb:Below B W w) (hB:B≤B'):ListIn cel E B' w p n c xs :=
  ⟨h.1,h.2.1,h.2.2.1,(h.2.2.2.1.below hb).mono hB,fun x hx=>hE _ _ _ _ _ hb hB (h.2.2.2.2 x hx)⟩
theorem lasts_Ins:Lasts InsIn:=fun _ _ _ _ _ hb hB h=>⟨h.1.lasts lasts_NoMem hb hB,h.2.lasts lasts_NoMem hb hB⟩
theorem lasts_Blk:Lasts BlkIn:=fun _ _ _ _ _ hb hB h=>ListIn.lasts lasts_Ins h hb hB
theorem lasts_Fn:Lasts FnIn:=fun _ _ _ _ _ hb hB h=>⟨h.1.lasts lasts_NoMem hb hB,h.2.lasts lasts_Blk hb hB⟩
theorem lasts_Ext:Lasts ExtIn:=fun _ _ _ _ _ hb hB h=>ListIn.lasts lasts_NoMem h hb hB
theorem lasts_Mod:Lasts ModIn:=fun _ _ _ _ _ hb hB h=>⟨h.1.lasts lasts_NoMem hb hB,h.2.1.lasts lasts_Ext hb hB,h.2.2.lasts lasts_Fn hb hB⟩
theorem RowAt.at {α:Type} {cel:α→List Value} {m:Nat} (hc:∀ x,(cel x).length=m) {B:Nat} {w:World} {p:Option Addr} {xs:List α} (h:RowAt B w p (xs.flatMap cel)) (i:Nat) (hi:i<xs.length) (hm:0<m) :
    ∃ a,p=some a∧a.block<B∧∀ r,r<m→w.cell? (a.add (i * m+r))=(cel xs[i])[r]?:=by
  have key:∀ r,r<m→∃ a,p=some a∧a.block<B∧w.cell? (a.add (i * m+r))=(cel xs[i])[r]?:=fun r hr=>by
    have e:=flat_get cel m hc xs i hi r hr
    have hs:(cel xs[i])[r]? = some ((cel xs[i])[r]'(by rw [hc];exact hr)):=List.getElem?_eq_getElem _
    rw [hs] at e ⊢
    exact h _ _ e
  obtain ⟨a,e,ha,_⟩:=key 0 hm
  refine ⟨a,e,ha,fun r hr=>?_⟩
  obtain ⟨a',e',_,h'⟩:=key r hr
  rw [e] at e'
  cases e'
  exact h'
theorem rowAt_of {α:Type} {cel:α→List Value} {m:Nat} (hc:∀ x,(cel x).length=m) {B:Nat} {w:World} {p:Option Addr} {xs:List α} (hm:0<m)
    (h:∀ i (hi:i<xs.length),∃ a,p=some a∧a.block<B∧∀ r,r<m→w.cell? (a.add (i * m+r))=(cel xs[i])[r]?):RowAt B w p (xs.flatMap cel):=fun j u hu=>by
  have hj:j<xs.length * m:=by rw [← flat_len cel m hc];exact (List.getElem?_eq_some_iff.1 hu).1
  have hq:j / m<xs.length:=Nat.div_lt_of_lt_mul (by rw [Nat.mul_comm];exact hj)
  have hr:j % m<m:=Nat.mod_lt _ hm
  have e:j=j / m * m+j % m:=by rw [Nat.mul_comm];exact (Nat.div_add_mod j m).symm
  obtain ⟨a,e1,ha,hcell⟩:=h (j / m) hq
  refine ⟨a,e1,ha,?_⟩
  have h1:=hcell (j % m) hr
  rw [← e] at h1
  rw [h1,← flat_get cel m hc xs (j / m) hq (j % m) hr,← e]
  exact hu
theorem ListIn.cells {α:Type} {cel:α→List Value} {E:Nat→World→α→Prop} {B:Nat} {w:World} {p:Option Addr} {n c:Nat} {xs:List α} (h:ListIn cel E B w p n c xs):∀ j u,(xs.flatMap cel)[j]? = some u→∃ a,p=some a∧w.cell? (a.add j)=some u:=fun j u hu=>by
  obtain ⟨a,e,_,hc⟩:=h.2.2.2.1 j u hu
  exact ⟨a,e,hc⟩
def NoOwn {α:Type}:Nat→Nat→World→α→Prop:=fun _ _ _ _=>True
def ListOwn {α:Type} (ty:TypeId) (m:Nat) (cel:α→List Value) (Q:Nat→Nat→World→α→Prop) (a b:Nat) (w:World) (p:Option Addr) (n c:Nat) (xs:List α):Prop :=
  n=xs.length∧w.ownsRow a ty m (.slice p n c) n (xs.flatMap cel)∧(∀ g,(Value.slice p n c).ownBlock=some g→g<b)∧Spread Q (Value.slice p n c).ownBlock a b w xs
theorem spread_NoOwn {α:Type} {g:Option Nat} {lo hi:Nat} {w:World} (h:lo≤hi):∀ xs:List α,Spread NoOwn g lo hi w xs
  | []=>h
  | x::xs=>⟨lo,lo,Nat.le_refl _,Nat.le_refl _,fun k _=>by omega,trivial,spread_NoOwn h xs⟩
theorem local_NoOwn {α:Type}:Local (NoOwn (α:=α)):=fun _ _ _ _ _ _ _=>trivial
theorem codeAt_in {B:Nat} {w:World} {p:Option Addr} {n c:Nat} {L:List LI} (h:ListIn liC InsIn B w p n c L):CodeAt B w (.slice p n c) (L.map Prod.fst):=by
  obtain ⟨h1,h2,h3,h4,-⟩:=h
  refine ⟨p,c,by rw [List.length_map,h1],by rw [List.length_map];omega,h3,fun i hi=>?_⟩
  have hi':i<L.length:=by simpa using hi
  obtain ⟨a,e,ha,hc⟩:=h4.at (m:=7) (fun _=>rfl) i hi' (by decide)
  refine ⟨a,e,ha,?_⟩
  rw [List.getElem_map]
  refine ⟨hc 0 (by decide),?_,?_,?_,?_,?_,?_⟩
  · have:=hc 1 (by decide);rw [add_add a _ 1 (by decide)] at this;exact this
  · have:=hc 2 (by decide);rw [add_add a _ 2 (by decide)] at this;exact this
  · have:=hc 3 (by decide);rw [add_add a _ 3 (by decide)] at this;exact this
  · have:=hc 4 (by decide);rw [add_add a _ 4 (by decide)] at this;exact this
  · have:=hc 5 (by decide);rw [add_add a _ 5 (by decide)] at this;exact this
  · have:=hc 6 (by decide);rw [add_add a _ 6 (by decide)] at this;exact this
def located (bs:List LB):List (List Ins):=bs.map fun c=>c.code.map Prod.fst
theorem blocksAt_in {B:Nat} {w:World} {p:Option Addr} {n c:Nat} {bs:List LB} (h:ListIn blkC BlkIn B w p n c bs):BlocksAt B w (.slice p n c) (located bs):=by
  obtain ⟨h1,h2,h3,h4,h5⟩:=h
  refine ⟨p,c,by unfold located;rw [List.length_map,h1],by unfold located;rw [List.length_map];omega,h3,fun i hi=>?_⟩
  have hi':i<bs.length:=by simpa [located] using hi
  obtain ⟨a,e,ha,hc⟩:=h4.at (m:=1) (fun _=>rfl) i hi' (by decide)
  have hx:=codeAt_in (h5 bs[i] (List.getElem_mem hi'))
  refine ⟨a,.slice bs[i].p bs[i].n bs[i].k,e,ha,?_,by simpa [located] using hx⟩
  have:=hc 0 (by decide)
  rw [Nat.mul_one,Nat.add_zero] at this
  exact this
def insZ (x:PIns):Nat:=1+x.args.length+x.tg.length
def codeZ (c:List PIns):Nat:=(c.map insZ).sum
def blksZ (b:List (List PIns)):Nat:=(b.map fun c=>1+codeZ c).sum
def fnZ (f:PFn):Nat:=1+f.ps.length+blksZ f.bs
def extZ (f:PExt):Nat:=1+f.ps.length
def modZ (m:PMod):Nat:=m.vs.length+(m.xs.map extZ).sum+(m.fs.map fnZ).sum
theorem sum_mem {α:Type} (f:α→Nat):∀ {xs:List α} {x:α},x∈xs→f x≤(xs.map f).sum
  | y::xs,x,h=>by
    simp only [List.map_cons,List.sum_cons]
    rcases List.mem_cons.1 h with rfl | h
    · omega
    · have:=sum_mem f h;omega
theorem len_sum {α:Type} (f:α→Nat) (hf:∀ x,1≤f x):∀ xs:List α,xs.length≤(xs.map f).sum
  | []=>Nat.le_refl _
  | x::xs=>by simp only [List.map_cons,List.sum_cons,List.length_cons];have:=len_sum f hf xs;have:=hf x;omega
theorem codeZ_mem {c:List PIns} {x:PIns} (h:x∈c):insZ x≤codeZ c:=sum_mem insZ h
theorem blksZ_len (b:List (List PIns)):b.length≤blksZ b:=len_sum _ (fun x=>by omega) b
theorem blksZ_mem {b:List (List PIns)} {x:List PIns} (h:x∈b):1+codeZ x≤blksZ b:=sum_mem (fun c=>1+codeZ c) h
theorem own_intro {α:Type} {ty m:Nat} {cel:α→List Value} {Q:Nat→Nat→World→α→Prop} {a b:Nat} {w:World} {p:Option Addr} {n c:Nat} {xs:List α} (hn:n=xs.length) (h:w.ownsRow a ty m (.slice p n c) n (xs.flatMap cel)) (hb:b=w.heap.size) (hs:Spread Q (Value.slice p n c).ownBlock a b w xs):ListOwn ty m cel Q a b w p n c xs :=
  ⟨hn,h,fun g hg=>by rw [hb];exact (h.lt g hg).2,hs⟩
theorem past_lasts {α:Type} {E:Nat→World→α→Prop} (hE:Lasts E) {W w:World} {x:α} (h:E W.heap.size W x) (hp:Past W.heap.size W w):E w.heap.size w x:=hE _ _ _ _ _ hp.2 hp.2.size h
def Box (g:Nat) (cs:List Value) (w:World):Prop:=g<w.heap.size∧(∀ i,w.frozen? ⟨g,i,none⟩=false)∧∀ i u,cs[i]? = some u→w.cell? ⟨g,i,none⟩=some u
theorem Box.new (w:World) {g:Nat} (hg:g=w.heap.size) (cs:List Value) (t:TypeId):Box g cs (w.alloc (.cells cs.toArray t)):=by
  subst hg
  refine ⟨by simp,fun i=>World.frozen?_alloc_at _ _ _ _ rfl,fun i u h=>?_⟩
  rw [World.cell?_alloc_at _ _ _ _ rfl]
  simpa using h
theorem Box.below {B g:Nat} {cs:List Value} {W w:World} (h:Box g cs W) (hb:Below B W w) (hg:g<B):Box g cs w :=
  ⟨Nat.lt_of_lt_of_le h.1 hb.size,fun i=>(hb.frozen (p:=⟨g,i,none⟩) hg).trans (h.2.1 i),fun i u e=>(hb.cell (p:=⟨g,i,none⟩) hg).trans (h.2.2 i u e)⟩
theorem Box.later {g:Nat} {cs:List Value} {W w:World} (h:Box g cs W) (hb:Below W.heap.size W w):Box g cs w:=h.below hb h.1
theorem Box.alloc {g:Nat} {cs:List Value} {W:World} (h:Box g cs W) (o:Obj):Box g cs (W.alloc o):=h.later ((Below.refl _ _).alloc (Nat.le_refl _) o)
theorem Box.other {g d:Nat} {cs:List Value} {w:World} (h:Box g cs w) (hd:d≠g) (i:Nat) (v:Value):Box g cs (w.setCell ⟨d,i,none⟩ v) :=
  ⟨by simpa [World.setCell] using h.1,fun i=>by rw [World.frozen?_setCell];exact h.2.1 i,fun j u e=>by rw [World.cell?_setCell_other (h:=fun e=>hd (by injection e))];exact h.2.2 j u e⟩
theorem Box.set {g:Nat} {cs:List Value} {w:World} (h:Box g cs w) (i:Nat) (v:Value):Box g (cs.set i v) (w.setCell ⟨g,i,none⟩ v):=by
  refine ⟨by simpa [World.setCell] using h.1,fun i=>by rw [World.frozen?_setCell];exact h.2.1 i,fun j u e=>?_⟩
  rw [List.getElem?_set] at e
  by_cases hij:i=j
  · subst hij
    rw [if_pos rfl] at e
    by_cases hl:i<cs.length
    · rw [if_pos hl] at e
      obtain ⟨u0,hu0⟩:∃ u0,cs[i]? = some u0:=⟨_,List.getElem?_eq_getElem hl⟩
      rw [World.cell?_setCell_same' _ _ _ (by rw [h.2.2 i u0 hu0];rfl)]
      exact e
    · rw [if_neg hl] at e;cases e
  · rw [if_neg hij] at e
    rw [World.cell?_setCell_other (h:=fun e=>hij (by injection e))]
    exact h.2.2 j u e
theorem Box.get {g:Nat} {cs:List Value} {w:World} (h:Box g cs w) (i:Nat) (u:Value) (e:cs[i]? = some u):w.cell? ⟨g,i,none⟩=some u:=h.2.2 i u e
theorem copyInts_own (W:World) (p:Option Addr) (n c:Nat) (L:List Int) (h:ListIn intC NoMem W.heap.size W p n c L) (hz:L.length≤1048576) :
    Calls Tryz.prog 138 #[.slice p n c] W fun e w' => ∃ p' c',e=.returned (.slice p' n c')∧Past W.heap.size W w'∧ListOwn 3 1 intC NoOwn W.heap.size w'.heap.size w' p' n c' L:=by
  have hn:=h.1
  subst hn
  refine (copyList_N p L.length c (L.flatMap intC) W (flat_len intC 1 (fun _=>rfl) L) h.cells (fun u hu=>by obtain ⟨x,_,hx⟩:=List.mem_flatMap.1 hu;exact intC_one x u hx) hz).mono ?_
  rintro e w' ⟨v',rfl,hp,hr⟩
  obtain ⟨p',c',rfl⟩:=row_slice hr
  exact ⟨p',c',rfl,hp,own_intro rfl hr rfl (spread_NoOwn hp.2.size _)⟩
theorem li_row {B:Nat} {w:World} {p:Option Addr} {n c:Nat} {L:List LI} {E:Nat→World→LI→Prop} (h:ListIn liC E B w p n c L) (i:Nat) (hi:i<L.length) :
    ∃ a,p=some a∧a.block<B∧InsAt w (a.add (i * 7)) L[i].1:=by
  obtain ⟨h1,h2,h3,h4,-⟩:=h
  obtain ⟨a,e,ha,hc⟩:=h4.at (m:=7) (fun _=>rfl) i hi (by decide)
  refine ⟨a,e,ha,hc 0 (by decide),?_,?_,?_,?_,?_,?_⟩
  · have:=hc 1 (by decide);rw [add_add a _ 1 (by decide)] at this;exact this
  · have:=hc 2 (by decide);rw [add_add a _ 2 (by decide)] at this;exact this
  · have:=hc 3 (by decide);rw [add_add a _ 3 (by decide)] at this;exact this
  · have:=hc 4 (by decide);rw [add_add a _ 4 (by decide)] at this;exact this
  · have:=hc 5 (by decide);rw [add_add a _ 5 (by decide)] at this;exact this
  · have:=hc 6 (by decide);rw [add_add a _ 6 (by decide)] at this;exact this
theorem blk_row {B:Nat} {w:World} {p:Option Addr} {n c:Nat} {L:List LB} {E:Nat→World→LB→Prop} (h:ListIn blkC E B w p n c L) (i:Nat) (hi:i<L.length) :
    ∃ a,p=some a∧a.block<B∧w.cell? (a.add i)=some (.slice L[i].p L[i].n L[i].k):=by
  obtain ⟨h1,h2,h3,h4,-⟩:=h
  obtain ⟨a,e,ha,hc⟩:=h4.at (m:=1) (fun _=>rfl) i hi (by decide)
  refine ⟨a,e,ha,?_⟩
  have:=hc 0 (by decide)
  rw [Nat.mul_one,Nat.add_zero] at this
  exact this
def cur (f:LI→LI) (bs:List LB) (b k:Nat):List LB:=bs.mapIdx fun i c=>{ c with code:=c.code.mapIdx fun j x=>if i<b∨i=b∧j<k then f x else x }
def pre (f:LI→LI) (L:List LI) (k:Nat):List LI:=L.mapIdx fun j x=>if j<k then f x else x
theorem cellsVar:Tryz.prog.cellsOf 39=2:=by kernel_rfl
theorem cellsExtern:Tryz.prog.cellsOf 52=3:=by kernel_rfl
theorem cellsModule:Tryz.prog.cellsOf 26=3:=by kernel_rfl
theorem cellsVars:Tryz.prog.cellsOf 22=1:=by kernel_rfl
theorem cellsExterns:Tryz.prog.cellsOf 23=1:=by kernel_rfl
theorem cellsFuncs:Tryz.prog.cellsOf 24=1:=by kernel_rfl
instance:Inhabited LI:=⟨(default,[])⟩
instance:Inhabited LB:=⟨⟨none,0,0,[]⟩⟩
instance:Inhabited LFn:=⟨⟨⟨#[]⟩,none,0,0,[],0,none,0,0,[]⟩⟩
instance:Inhabited LExt:=⟨⟨⟨#[]⟩,none,0,0,[],0⟩⟩
instance:Inhabited PVar:=⟨⟨⟨#[]⟩,0⟩⟩
theorem cellAt_of {w:World} {a:Addr} {i m:Nat} {cs:List Value} (h:∀ j (hj:j<m),w.cell? ((a.add (i * m)).add j)=cs[j]?):∀ r,r<m→w.cell? (a.add (i * m+r))=cs[r]?:=by
  intro r hr
  have h1:=h r hr
  have e:(a.add (i * m)).add r=a.add (i * m+r):=by
    by_cases h0:r=0
    · subst h0;rw [add_zero,Nat.add_zero]
    · rw [add_pos _ r h0,add_add a _ r h0]
  rw [e] at h1
  exact h1
theorem sum_range {α:Type} (f:Nat→α) (g:α→Nat) (n:Nat):(((List.range n).map f).map g).sum=((List.range n).map fun i=>g (f i)).sum:=by rw [List.map_map];rfl
section
variable {H:Type} {enc:TypeId×Value→H} {W:World} {sp:Nat→Bool} {held:Bool}
theorem open_list {α:Type} [Inhabited α] {t e:TypeId} {m:Nat} (hm:0<m) (cel:α→List Value) (hc:∀ x,(cel x).length=m) (E:Nat→World→α→Prop) (P:α→Prop) (z:α→Nat) (ht:Tryz.prog.underlying t=some (.slice e)) (hce:Tryz.prog.cellsOf e=m)
    (hel:∀ (n:Nat) (cs:List Value) (y:DataW H×List MemPlace),cs.length=m→DataW.trod enc Tryz.prog W 0 sp held n e cs=some y→∃ x:α,cs=cel x∧E W.heap.size W x∧P x∧z x≤Rows.uptoBulk y.1)
    {n:Nat} {c:Value} {y:DataW H×List MemPlace} (h:DataW.trod enc Tryz.prog W 0 sp held n t [c]=some y) :
    ∃ (p:Option Addr) (k:Nat) (xs:List α),c=.slice p xs.length k∧ListIn cel E W.heap.size W p xs.length k xs∧(∀ x∈xs,P x)∧(xs.map z).sum≤Rows.uptoBulk y.1∧xs.length≤Rows.uptoBulk y.1:=by
  rcases open_slice ht h with ⟨hcc,hx⟩ | ⟨a,len,cap,k,n',D,Pl,hcc,hb,hl,hmm,hk,hx,hi⟩
  · exact ⟨none,0,[],(List.cons.inj hcc).1,⟨rfl,Nat.le_refl _,Nat.zero_le _,fun j u hu=>by simp at hu,fun x hx=>absurd hx (by simp)⟩,fun x hx=>absurd hx (by simp),Nat.zero_le _,Nat.zero_le _⟩
  · have lm:len≤k:=by rw [hk];split <;> omega
    rw [hce] at hi
    obtain ⟨f,hf⟩:=choose_lt (α:=α) (p:=fun i x=>(a.block<W.heap.size∧∀ r,r<m→W.cell? (a.add (i * m+r))=(cel x)[r]?)∧E W.heap.size W x∧P x∧z x≤Rows.uptoBulk (D i)) (n:=len) (fun i hi2=>by
      obtain ⟨cs',h1,h2⟩:=hi i (by omega)
      obtain ⟨_,hlen,hcell⟩:=World.cells?_some h1
      obtain ⟨x,hx,hE,hP,hz⟩:=hel _ cs' _ hlen h2
      refine ⟨x,⟨?_,?_⟩,hE,hP,hz⟩
      · have h0:=hcell 0 (by omega)
        rw [List.getElem?_eq_getElem (by omega)] at h0
        have:=block_lt h0
        rw [add_block,add_block] at this
        exact this
      · rw [← hx]
        exact cellAt_of (fun j hj=>hcell j (by omega)))
    refine ⟨some a,cap,(List.range len).map f,by simp [(List.cons.inj hcc).1],⟨rfl,by simpa using hl,hmm,rowAt_of hc hm (fun i hi2=>?_),fun x hx2=>?_⟩,fun x hx2=>?_,?_,?_⟩
    · have hi3:i<len:=by simpa using hi2
      exact ⟨a,rfl,(hf i hi3).1.1,by simpa using (hf i hi3).1.2⟩
    · obtain ⟨i,hi2,rfl⟩:=List.mem_map.1 hx2
      exact (hf i (List.mem_range.1 hi2)).2.1
    · obtain ⟨i,hi2,rfl⟩:=List.mem_map.1 hx2
      exact (hf i (List.mem_range.1 hi2)).2.2.1
    · subst hx
      have h1:=bulk_sum D (fun i=>z (f i)) len (fun i hi2=>(hf i hi2).2.2.2)
      have h2:=bulk_slice ((List.range len).map D) ((List.range (k - len)).map fun j=>D (len+j))
      rw [sum_range]
      exact Nat.le_trans h1 h2
    · subst hx
      have h1:=bulk_sum D (fun _=>1) len (fun i _=>bulk_pos _)
      have h2:=bulk_slice ((List.range len).map D) ((List.range (k - len)).map fun j=>D (len+j))
      have e:=sum_ones len
      simp only [List.length_map,List.length_range]
      omega
theorem sum_one {α:Type} (xs:List α):(xs.map fun _=>(1:Nat)).sum=xs.length:=by induction xs with | nil=>rfl | cons x xs ih=>rw [List.map_cons,List.sum_cons,ih,List.length_cons,Nat.add_comm]
theorem open_ints3 {n:Nat} {c:Value} {y:DataW H×List MemPlace} (h:DataW.trod enc Tryz.prog W 0 sp held n 40 [c]=some y) :
    ∃ (p:Option Addr) (k:Nat) (ts:List Int),c=.slice p ts.length k∧ListIn intC NoMem W.heap.size W p ts.length k ts∧ts.length≤Rows.uptoBulk y.1:=by
  obtain ⟨p,k,xs,e,hl,_,_,hn⟩:=open_list (α:=Int) (m:=1) (by decide) intC (fun _=>rfl) NoMem (fun _=>True) (fun _=>1) Tryz.underlying40 cellsInt (fun n cs y hlen h2=>by
    match cs,hlen with
    | [v0],_ =>
      obtain ⟨k,rfl,_⟩:=tr_int h2
      exact ⟨k,rfl,trivial,trivial,bulk_pos _⟩) h
  exact ⟨p,k,xs,e,hl,hn⟩
end
end Go.Proofs.YtmmlfmplggbmiaaGreatDoor
namespace Go.Proofs.YtmmlfmplggbmiaaGreatDoor
open Go.RowKit Go.Maps
set_option linter.unusedVariables false
set_option linter.unusedSimpArgs false
def Tells (p:Prop) (W:World) (e:Ending) (w':World):Prop:=∃ b:Bool,e=.returned (.bool b)∧(b=true↔p)∧Below W.heap.size W w'
theorem list_ext {α:Type} {xs ys:List α} (hl:xs.length=ys.length) (h:∀ i (h1:i<xs.length) (h2:i<ys.length),xs[i]=ys[i]):xs=ys:=List.ext_getElem hl h
theorem int_row {B:Nat} {w:World} {p:Option Addr} {n c:Nat} {L:List Int} (h:ListIn intC NoMem B w p n c L) (i:Nat) (hi:i<L.length):∃ a,p=some a∧a.block<B∧w.cell? (a.add i)=some (.int .i64 L[i]):=by
  obtain ⟨h1,h2,h3,h4,-⟩:=h
  obtain ⟨a,e,ha,hc⟩:=h4.at (m:=1) (fun _=>rfl) i hi (by decide)
  refine ⟨a,e,ha,?_⟩
  have:=hc 0 (by decide)
  rw [Nat.mul_one,Nat.add_zero] at this
  exact this
theorem arg_row {B:Nat} {w:World} {p:Option Addr} {n c:Nat} {L:List Arg} (h:ListIn argC NoMem B w p n c L) (i:Nat) (hi:i<L.length):∃ a,p=some a∧a.block<B∧ArgAt w (a.add (i * 3)) L[i]:=by
  obtain ⟨h1,h2,h3,h4,-⟩:=h
  obtain ⟨a,e,ha,hc⟩:=h4.at (m:=3) (fun _=>rfl) i hi (by decide)
  refine ⟨a,e,ha,hc 0 (by decide),?_,?_⟩
  · have:=hc 1 (by decide);rw [add_add a _ 1 (by decide)] at this;exact this
  · have:=hc 2 (by decide);rw [add_add a _ 2 (by decide)] at this;exact this
theorem arg_ext {a b:Arg} (h0:a.kind=b.kind) (h1:a.n=b.n) (h2:a.bits=b.bits):a=b:=by cases a;cases b;simp_all
theorem str_inj {a b:ByteArray} (h:a.toList=b.toList):a=b:=Go.WideShapes.bytes_inj (by rw [← ByteArray.toList_eq,← ByteArray.toList_eq];exact h)
def Moved (w:World) (v v':Value):Prop:=v'.ownBlock=v.ownBlock∨v'.ownBlock=some w.heap.size
theorem append_where {P:Program} (w:World) (base:Nat) (t ty e:TypeId) (i:TypeInfo) (z:Value) (size bytes:Nat) (ht:P.underlying t=some (.slice e)) (hi:P.info? e=some i) (hz:i.zero=some z)
    (hsize:i.size=size) (hby:i.bytes=bytes) (hsz:0<size) (v:Value) (n:Nat) (xs:List Value) (hown:w.ownsRow base e size v n xs)
    (a:Addr) (m c:Nat) (news:List Value) (hl:news.length=m * size) (hnews:∀ j u,news[j]? = some u→w.cell? (a.add j)=some u) (h1:∀ u∈news,u.oneCell' = true)
    (h63:n+m≤maxLen) (hbytes:(n+m) * bytes≤140737488355328) (v':Value) (w':World) (hr:(Builtin.append_ #[t,t] ty #[v,.slice (some a) m c]).run P w=.ok v' w'):Moved w v v':=by
  subst hsize
  subst hby
  have hsmall:n+m≤9223372036854775807:=by simp only [maxLen] at h63;omega
  rcases hown.2 with ⟨rfl,rfl⟩ | ⟨g,cap,cur,rfl,hbg,hg,hnc,hcm,hcs,htake⟩
  · by_cases hm:m=0
    · subst hm
      have hn:news=[]:=List.eq_nil_of_length_eq_zero (by simpa using hl)
      subst hn
      have hr2:(Builtin.append_ #[t,t] ty #[.slice none 0 0,.slice (some a) 0 c]).run P w=.ok (.slice none 0 0) w:=by
        simp [Builtin.append_,run_underlying ht,sizeOf,typeInfo,hi,Builtin.lenOf,Builtin.firstCells,loadCells,loadCellsFrom]
      rw [hr2] at hr
      injection hr with e1 e2
      rw [← e1]
      exact .inl rfl
    · have hr2:=run_append_nil (P:=P) w t ty e i z ht hi hz a m c news hl hnews (by omega) (by omega) (by have hb:=hbytes;simp only [Nat.zero_add] at hb;omega)
      rw [hr2] at hr
      injection hr with e1 e2
      rw [← e1]
      exact .inr rfl
  · by_cases hroom:n+m≤cap
    · have hfit:n * i.size+news.length≤cur.size:=by rw [hl,hcs,← Nat.add_mul];exact Nat.mul_le_mul_right _ hroom
      have hr2:=run_append_room (P:=P) w t ty e i ht hi g n cap cur hg a m c news hl hnews h1 hroom hfit
      rw [hr2] at hr
      injection hr with e1 e2
      rw [← e1]
      exact .inl rfl
    · have holds:∀ j u,xs[j]? = some u→w.cell? ((⟨g,0,none⟩:Addr).add j)=some u:=hown.cells (g:=g) rfl
      have hr2:=run_append_grow (P:=P) w t ty e i z ht hi hz ⟨g,0,none⟩ n cap xs hown.1 holds a m c news hl hnews (by omega) (by omega) (growslice_fits (by omega) hbytes)
      rw [hr2] at hr
      injection hr with e1 e2
      rw [← e1]
      exact .inr rfl
theorem wpList_append_at {P:Program} {w:World} {ops:Array Oper} {rest:List Oper} {o:Oper} {a:Act} {Q:Exit→Act→World→Prop} (hgd:o.guard=none) (s x:Operand) (t:TypeId)
    (ho:o.op=.call { callee:=.builtin .append,args:=#[s,x],argTypes:=#[t,t] })
    (base:Nat) (e:TypeId) (i:TypeInfo) (z:Value) (size bytes:Nat) (ht:P.underlying t=some (.slice e)) (hi:P.info? e=some i) (hz:i.zero=some z)
    (hsize:i.size=size) (hby:i.bytes=bytes) (hzs:z.cells.size=size) (hsz:0<size)
    (v:Value) (n:Nat) (xs:List Value) (hs:a.eval s=v) (hown:w.ownsRow base e size v n xs)
    (p:Option Addr) (m c:Nat) (news:List Value) (hx:a.eval x=.slice p m c) (hl:news.length=m * size) (hnews:∀ j u,news[j]? = some u→∃ ad,p=some ad∧w.cell? (ad.add j)=some u) (h1:∀ u∈news,u.oneCell' = true)
    (h63:n+m≤maxLen) (hbytes:(n+m) * bytes≤140737488355328) (hbase:base≤w.heap.size)
    (h:∀ v' w',w'.ownsRow base e size v' (n+m) (xs++news)→w.grownBy w' v.ownBlock→Moved w v v'→wpList P ops Q rest (a.put o.dst v') w'):wpList P ops Q (o::rest) a w:=by
  refine wpList_plain hgd fun K hK=>?_
  cases p with
  | some ad =>
    have hnews':∀ j u,news[j]? = some u→w.cell? (ad.add j)=some u:=fun j u hj=>by
      obtain ⟨ad',e1,e2⟩:=hnews j u hj
      cases e1
      exact e2
    obtain ⟨v',w',hr,h2,h3,-⟩:=run_append_own (P:=P) w base t o.type e i z size bytes ht hi hz hsize hby hzs hsz v n xs hown ad m c news hl hnews' h1 h63 hbytes hbase
    have h4:=append_where w base t o.type e i z size bytes ht hi hz hsize hby hsz v n xs hown ad m c news hl hnews' h1 h63 hbytes v' w' hr
    unfold Oper.wp execOp
    simp only [ho,resolve,invoke,builtin,Sem.run_bind,Sem.run_pure,Result.andThen_ok,List.map_toArray,List.map_cons,List.map_nil,hs,hx,hr]
    exact hK _ _ (h v' w' h2 h3 h4)
  | none =>
    have hn0:news=[]:=by
      cases news with
      | nil=>rfl
      | cons u r=>obtain ⟨_,e1,_⟩:=hnews 0 u rfl;cases e1
    subst hn0
    obtain rfl:m=0:=by
      rcases Nat.eq_zero_or_pos m with h0 | h0
      · exact h0
      · have:=Nat.mul_pos h0 hsz;simp at hl;omega
    have hr:(Builtin.append_ #[t,t] o.type #[v,.slice none 0 c]).run P w=.ok v w:=by
      rcases hown.2 with ⟨rfl,rfl⟩ | ⟨g,cap,cur,rfl,hbg,hg,hnc,hcm,hcs,htake⟩
      · simp [Builtin.append_,run_underlying ht,sizeOf,typeInfo,hi,Builtin.lenOf,Builtin.firstCells]
      · simp [Builtin.append_,run_underlying ht,sizeOf,typeInfo,hi,Builtin.lenOf,Builtin.firstCells,hnc,storeCells]
    unfold Oper.wp execOp
    simp only [ho,resolve,invoke,builtin,Sem.run_bind,Sem.run_pure,Result.andThen_ok,List.map_toArray,List.map_cons,List.map_nil,hs,hx,hr]
    exact hK _ _ (h v w (by rw [List.append_nil];exact hown) (World.grownBy.refl _ _) (.inl rfl))
structure As where
  c:Nat→Nat
  sat:World→Prop
  stay:∀ w w',sat w→(∀ k,c k≠0→w'.heap[k]? = w.heap[k]?)→sat w'
  inH:∀ w,sat w→∀ k,c k≠0→k<w.heap.size
def As.emp:As:=⟨fun _=>0,fun _=>True,fun _ _ h _=>h,fun _ _ _ h=>absurd rfl h⟩
def As.and (a b:As):As :=
  ⟨fun k=>a.c k+b.c k,fun w=>a.sat w∧b.sat w,fun w w' h hk=>⟨a.stay w w' h.1 (fun k x=>hk k (by omega)),b.stay w w' h.2 (fun k x=>hk k (by omega))⟩,
    fun w h k hk=>by
      by_cases h0:a.c k=0
      · exact b.inH w h.2 k (by omega)
      · exact a.inH w h.1 k h0⟩
theorem As.and_c (a b:As) (k:Nat):((As.and a b)).c k=a.c k+b.c k:=rfl
theorem As.and_at (a b:As) (w:World):((As.and a b)).sat w=(a.sat w∧b.sat w):=rfl
theorem As.emp_c (k:Nat):As.emp.c k=0:=rfl
theorem As.emp_at (w:World):As.emp.sat w=True:=rfl
def As.all {α:Type} (f:α→As):List α→As
  | []=>.emp
  | x::xs=>(As.and (f x) (As.all f xs))
theorem As.all_nil {α:Type} (f:α→As):As.all f []=.emp:=rfl
theorem As.all_cons {α:Type} (f:α→As) (x:α) (xs:List α):As.all f (x::xs)=((As.and (f x) (As.all f xs))):=rfl
theorem As.all_c_app {α:Type} (f:α→As) (k:Nat):∀ xs ys:List α,(As.all f (xs++ys)).c k=(As.all f xs).c k+(As.all f ys).c k
  | [],ys=>by simp [As.all_nil,As.emp_c]
  | x::xs,ys=>by rw [List.cons_append,As.all_cons,As.and_c,As.all_c_app f k xs ys,As.all_cons,As.and_c];omega
theorem As.all_at_app {α:Type} (f:α→As) (w:World):∀ xs ys:List α,(As.all f (xs++ys)).sat w↔(As.all f xs).sat w∧(As.all f ys).sat w
  | [],ys=>by simp [As.all_nil,As.emp_at]
  | x::xs,ys=>by rw [List.cons_append,As.all_cons,As.and_at,As.all_at_app f w xs ys,As.all_cons,As.and_at,and_assoc]
theorem As.all_mem {α:Type} (f:α→As) {w:World}:∀ {xs:List α},(As.all f xs).sat w→∀ x∈xs,(f x).sat w
  | y::xs,h,x,hx=>by
    rcases List.mem_cons.1 hx with rfl | hx
    · exact h.1
    · exact As.all_mem f h.2 x hx
def As.le (a b:As):Prop:=(∀ w,a.sat w→b.sat w)∧∀ k,b.c k≤a.c k
theorem As.le.refl (a:As):a.le a:=⟨fun _ h=>h,fun _=>Nat.le_refl _⟩
theorem As.le.and {a b c d:As} (h:a.le b) (k:c.le d):((As.and a c)).le ((As.and b d)):=⟨fun w x=>⟨h.1 w x.1,k.1 w x.2⟩,fun j=>Nat.add_le_add (h.2 j) (k.2 j)⟩
structure St (B:Nat) (W:World) (X:As) (w:World):Prop where
  below:Below B W w
  le:B≤w.heap.size
  sat:X.sat w
  one:∀ k,X.c k≤1
  own:∀ k,X.c k≠0→B≤k
section
variable {B:Nat} {W w w':World} {X Y Z:As}
theorem St.imp (h:St B W X w) (k:X.le Y):St B W Y w :=
  ⟨h.below,h.le,k.1 w h.sat,fun j=>Nat.le_trans (k.2 j) (h.one j),fun j hj=>h.own j (by have:=k.2 j;omega)⟩
theorem St.inH (h:St B W X w) (k:Nat) (hk:X.c k≠0):k<w.heap.size:=X.inH w h.sat k hk
theorem St.later (h:St B W X w) (hb:Below w.heap.size w w'):St B W X w' :=
  ⟨h.below.trans (hb.mono h.le),Nat.le_trans h.le hb.size,X.stay w w' h.sat (fun k hk=>hb.block k (h.inH k hk)),h.one,h.own⟩
theorem St.drew (h:St B W X w):St B W X w.drew:=h.later (below_drew (Below.refl _ _))
theorem St.alloc (h:St B W X w) (o:Obj):St B W X (w.alloc o):=h.later ((Below.refl _ _).alloc (Nat.le_refl _) o)
theorem St.change (h:St B W ((As.and X Z)) w) (hos:w'.os=w.os) (htp:w'.tape=w.tape) (hout:w'.output=w.output) (hsz:w.heap.size≤w'.heap.size)
    (hk:∀ k,k<w.heap.size→X.c k=0→w'.heap[k]? = w.heap[k]?) (hY:Y.sat w') (hc:∀ k,Y.c k≤X.c k∨(w.heap.size≤k∧Y.c k≤1)):St B W ((As.and Y Z)) w':=by
  have hz:∀ k,Z.c k≠0→k<w.heap.size∧X.c k=0:=fun k hk=>⟨h.inH k (by rw [As.and_c];omega),by have:=h.one k;rw [As.and_c] at this;omega⟩
  refine ⟨⟨hos.trans h.below.os,htp.trans h.below.tape,hout.trans h.below.output,Nat.le_trans h.below.size hsz,fun k hB=>?_⟩,Nat.le_trans h.le hsz,⟨hY,Z.stay w w' h.sat.2 (fun k x=>hk k (hz k x).1 (hz k x).2)⟩,fun k=>?_,fun k x=>?_⟩
  · refine (hk k (Nat.lt_of_lt_of_le hB h.le) ?_).trans (h.below.block k hB)
    by_cases hx:X.c k=0
    · exact hx
    · have:=h.own k (by rw [As.and_c];omega);omega
  · rw [As.and_c]
    have h1:=h.one k
    rw [As.and_c] at h1
    rcases hc k with h2 | ⟨h2,h3⟩
    · omega
    · have:Z.c k=0:=by
        by_cases h0:Z.c k=0
        · exact h0
        · have:=(hz k h0).1;omega
      omega
  · rw [As.and_c] at x
    rcases hc k with h2 | ⟨h2,h3⟩
    · exact h.own k (by rw [As.and_c];omega)
    · exact Nat.le_trans h.le h2
end
/-! Boxes. -/
def bx (g:Nat) (cs:List Value):As :=
  ⟨fun k=>if g=k then 1 else 0,Box g cs,fun w w' h hk=>by
      have e:=hk g (by simp)
      have hg:g<w'.heap.size:=by
        have h1:w.heap[g]? = some (w.heap[g]'h.1):=Array.getElem?_eq_getElem h.1
        rw [h1] at e
        exact (Array.getElem?_eq_some_iff.1 e).1
      exact ⟨hg,fun i=>(World.frozen?_of_block (a:=⟨g,i,none⟩) e).trans (h.2.1 i),fun i u hu=>(World.cell?_of_block (a:=⟨g,i,none⟩) e).trans (h.2.2 i u hu)⟩,
    fun w h k hk=>by
      by_cases e:g=k
      · subst e;exact h.1
      · simp [e] at hk⟩
theorem bx_c (g:Nat) (cs:List Value) (k:Nat):(bx g cs).c k=if g=k then 1 else 0:=rfl
section
variable {B:Nat} {W w w':World} {X Y Z:As}
theorem St.push (h:St B W Z w) {g:Nat} (hg:g=w.heap.size) (cs:List Value) (t:TypeId):St B W ((As.and (bx g cs) Z)) (w.alloc (.cells cs.toArray t)):=by
  have h0:St B W ((As.and As.emp Z)) w:=h.imp ⟨fun w x=>⟨trivial,x⟩,fun k=>by rw [As.and_c,As.emp_c];omega⟩
  refine h0.change rfl rfl rfl (by simp) (fun k hk _=>heap_alloc_old w _ hk) (Box.new w hg cs t) (fun k=>?_)
  rw [bx_c]
  by_cases e:g=k
  · exact .inr ⟨by omega,by rw [if_pos e];exact Nat.le_refl _⟩
  · exact .inl (by rw [if_neg e];exact Nat.zero_le _)
theorem St.box {g:Nat} {cs:List Value} (h:St B W ((As.and (bx g cs) Z)) w):Box g cs w:=h.sat.1
theorem St.set {g:Nat} {cs:List Value} (h:St B W ((As.and (bx g cs) Z)) w) (i:Nat) (v:Value):St B W ((As.and (bx g (cs.set i v)) Z)) (w.setCell ⟨g,i,none⟩ v) :=
  h.change rfl rfl rfl (by simp [World.setCell]) (fun k hk h0=>Below.heap_setCell w ⟨g,i,none⟩ v k (fun e=>by rw [bx_c,if_pos e.symm] at h0;cases h0)) (h.box.set i v) (fun k=>.inl (Nat.le_refl _))
end
/-! Rows of one's own. -/
def cR (p:Option Addr) (k:Nat):Nat:=match p with | some a=>if a.block=k then 1 else 0 | none=>0
theorem cR_le (p:Option Addr) (k:Nat):cR p k≤1:=by unfold cR;split <;> (try split) <;> omega
theorem cR_block {p:Option Addr} {k n c:Nat} (h:cR p k≠0):(Value.slice p n c).ownBlock=some k:=by
  unfold cR at h
  split at h
  · split at h
    · rename_i a e;rw [← e];rfl
    · exact absurd rfl h
  · exact absurd rfl h
def rowP {α:Type} (B:Nat) (ty:TypeId) (m:Nat) (cel:α→List Value) (p:Option Addr) (n c:Nat) (xs:List α) (w:World):Prop:=n=xs.length∧w.ownsRow B ty m (.slice p n c) n (xs.flatMap cel)
def rw' {α:Type} (B:Nat) (ty:TypeId) (m:Nat) (cel:α→List Value) (p:Option Addr) (n c:Nat) (xs:List α):As :=
  ⟨cR p, rowP B ty m cel p n c xs,fun w w' h hk=>by
      refine ⟨h.1,h.2.1,?_⟩
      rcases h.2.2 with hn | ⟨g,cap,cur,hv,hB,hg,rest⟩
      · exact .inl hn
      · refine .inr ⟨g,cap,cur,hv,hB,(hk g ?_).trans hg,rest⟩
        injection hv with e1 e2 e3
        subst e1
        show (if g=g then 1 else 0)≠0
        simp,
    fun w h k hk=>(h.2.lt k (cR_block hk)).2⟩
section
variable {α:Type} {B0:Nat} {ty:TypeId} {m:Nat} {cel:α→List Value} {p:Option Addr} {n c:Nat} {xs:List α}
theorem rw_c (k:Nat):(rw' B0 ty m cel p n c xs).c k=cR p k:=rfl
theorem rw_nil (w:World):(rw' B0 ty m cel none 0 0 ([]:List α)).sat w:=⟨rfl,World.ownsRow_nil _ _ _ _⟩
theorem St.grown {B:Nat} {W w w':World} {Z:As} (h:St B W ((As.and (rw' B ty m cel p n c xs) Z)) w) {ys:List α} {v':Value} {k:Nat} (hk:k=xs.length+ys.length) (hr:w'.ownsRow B ty m v' k (xs.flatMap cel++ys.flatMap cel)) (hg:w.grownBy w' (Value.slice p n c).ownBlock)
    (hm:Moved w (.slice p n c) v'):∃ p' c',v' = .slice p' k c'∧St B W ((As.and (rw' B ty m cel p' k c' (xs++ys)) Z)) w':=by
  obtain ⟨p',c',rfl⟩:=row_slice hr
  refine ⟨p',c',rfl,h.change hg.os hg.tape hg.output hg.size (fun j hj h0=>hg.block j hj (fun e=>?_)) ⟨by rw [List.length_append];exact hk,by rw [List.flatMap_append];exact hr⟩ (fun j=>?_)⟩
  · rw [rw_c] at h0
    cases p with
    | none=>cases e
    | some a =>
      have e2:j=a.block:=by injection e
      unfold cR at h0
      simp [e2] at h0
  · rw [rw_c,rw_c]
    by_cases hj:cR p' j=0
    · exact .inl (by omega)
    · have e1:=cR_block (n:=k) (c:=c') hj
      rcases hm with e | e
      · rw [e1] at e
        left
        cases p with
        | none=>cases e
        | some a =>
          have e2:j=a.block:=by injection e
          have:cR (some a) j=1:=by unfold cR;simp [e2]
          have:=cR_le p' j
          omega
      · rw [e1] at e
        right
        have e2:j=w.heap.size:=by injection e
        exact ⟨by omega,cR_le p' j⟩
theorem St.upd1 {B:Nat} {W w:World} {Z:As} {g:Nat} (h:St B W ((As.and (rw' B ty m cel (some ⟨g,0,none⟩) n c xs) Z)) w) (i r:Nat) (v:Value) (y:α) (hx:(xs.flatMap cel).set (i * m+r) v=(xs.set i y).flatMap cel) :
    St B W ((As.and (rw' B ty m cel (some ⟨g,0,none⟩) n c (xs.set i y)) Z)) (w.setCell ⟨g,i * m+r,none⟩ v):=by
  refine h.change rfl rfl rfl (by simp [World.setCell]) (fun k hk h0=>Below.heap_setCell w _ _ _ (fun e=>?_)) ⟨by rw [List.length_set];exact h.sat.1.1,?_⟩ (fun k=>.inl (Nat.le_refl _))
  · rw [rw_c] at h0
    unfold cR at h0
    simp [e] at h0
  · rw [← hx]
    exact (h.sat.1.2.stored (i * m+r) v).1
theorem flat_set1 {α:Type} (cel:α→List Value) (m:Nat) (hm:0<m) (hc:∀ x,(cel x).length=m):∀ (xs:List α) (i r:Nat) (hi:i<xs.length) (hr:r<m) (v:Value) (y:α),cel y=(cel xs[i]).set r v→(xs.flatMap cel).set (i * m+r) v=(xs.set i y).flatMap cel
  | x::xs,0,r,_,hr,v,y,hy=>by
    simp only [List.getElem_cons_zero] at hy
    rw [List.set_cons_zero,List.flatMap_cons,List.flatMap_cons,hy,Nat.zero_mul,Nat.zero_add,List.set_append_left _ _ (by rw [hc];exact hr)]
  | x::xs,i+1,r,hi,hr,v,y,hy=>by
    simp only [List.getElem_cons_succ] at hy
    have ih:=flat_set1 cel m hm hc xs i r (by simpa using hi) hr v y hy
    rw [List.set_cons_succ,List.flatMap_cons,List.flatMap_cons,← ih,List.set_append_right _ _ (by rw [hc,Nat.add_mul];omega)]
    congr 2
    rw [hc,Nat.add_mul];omega
theorem wpList_app {P:Program} {B:Nat} {W w:World} {Y:As} {ops:Array Oper} {rest:List Oper} {o:Oper} {a:Act} {Q:Exit→Act→World→Prop} (hgd:o.guard=none) (s x:Operand) (t:TypeId)
    (ho:o.op=.call { callee:=.builtin .append,args:=#[s,x],argTypes:=#[t,t] })
    (i:TypeInfo) (z:Value) (bytes:Nat) (ht:P.underlying t=some (.slice ty)) (hi:P.info? ty=some i) (hz:i.zero=some z) (hsize:i.size=m) (hby:i.bytes=bytes) (hzs:z.cells.size=m) (hm:0<m)
    (hs:a.eval s=.slice p n c) (h:St B W ((As.and (rw' B ty m cel p n c xs) Y)) w) (y:α) (q:Addr) (cx:Nat) (hx:a.eval x=.slice (some q) 1 cx) (hc:(cel y).length=m) (hq:∀ j u,(cel y)[j]? = some u→w.cell? (q.add j)=some u) (h1:∀ u∈cel y,u.oneCell' = true)
    (h63:xs.length+1≤maxLen) (hbytes:(xs.length+1) * bytes≤140737488355328)
    (k:∀ p' c' w',St B W ((As.and (rw' B ty m cel p' (xs.length+1) c' (xs++[y])) Y)) w'→wpList P ops Q rest (a.put o.dst (.slice p' (xs.length+1) c')) w'):wpList P ops Q (o::rest) a w:=by
  have hn:n=xs.length:=h.sat.1.1
  subst hn
  refine wpList_append_at hgd s x t ho B ty i z m bytes ht hi hz hsize hby hzs hm (.slice p xs.length c) xs.length (xs.flatMap cel) hs h.sat.1.2 (some q) 1 cx (cel y) hx (by rw [hc,Nat.one_mul]) (fun j u hj=>⟨q,rfl,hq j u hj⟩) h1 h63 hbytes h.le (fun v' w' h2 h3 h4=>?_)
  obtain ⟨p',c',rfl,hS⟩:=h.grown (ys:=[y]) (k:=xs.length+1) rfl (by simpa using h2) h3 h4
  exact k p' c' w' hS
end
end Go.Proofs.YtmmlfmplggbmiaaGreatDoor
namespace Go.Proofs.YtmmlfmplggbmiaaGreatDoor
set_option linter.unusedVariables false
set_option linter.unusedSimpArgs false
def isBlank (c:UInt8):Bool:=c.toNat==32||c.toNat==9||c.toNat==13
def isOfLine (c:UInt8):Bool:=c.toNat != 10
def isMark (c:UInt8):Bool:=c.toNat==61||c.toNat==44||c.toNat==40||c.toNat==41||c.toNat==58
def isLetter (c:UInt8):Bool:=(decide (97≤c.toNat)&&decide (c.toNat≤122))||c.toNat==95
def isDigit (c:UInt8):Bool:=decide (48≤c.toNat)&&decide (c.toNat≤57)
def isOfWord (c:UInt8):Bool:=isLetter c||isDigit c
def runOf (p:UInt8→Bool) (l:List UInt8):Nat:=(l.takeWhile p).length
theorem runOf_nil (p:UInt8→Bool):runOf p []=0:=rfl
theorem runOf_cons (p:UInt8→Bool) (c:UInt8) (r:List UInt8):runOf p (c::r)=if p c then runOf p r+1 else 0:=by
  unfold runOf
  rw [List.takeWhile_cons]
  split <;> rfl
theorem runOf_le (p:UInt8→Bool) (l:List UInt8):runOf p l≤l.length:=by
  induction l with
  | nil=>exact Nat.le_refl _
  | cons c r ih=>rw [runOf_cons];split <;> simp <;> omega
theorem take_runOf (p:UInt8→Bool) (l:List UInt8):l.take (runOf p l)=l.takeWhile p:=by
  induction l with
  | nil=>rfl
  | cons c r ih =>
    rw [runOf_cons,List.takeWhile_cons]
    split
    · rw [List.take_succ_cons,ih]
    · rfl
theorem runOf_at (p:UInt8→Bool) (l:List UInt8) (i:Nat) (h:i<runOf p l):∃ h':i<l.length,p l[i]=true:=by
  induction l generalizing i with
  | nil=>simp [runOf_nil] at h
  | cons c r ih =>
    rw [runOf_cons] at h
    split at h
    · rename_i hc
      cases i with
      | zero=>exact ⟨by simp,hc⟩
      | succ i =>
        obtain ⟨h',k⟩:=ih i (by omega)
        exact ⟨by simp;omega,by simpa using k⟩
    · omega
theorem runOf_end (p:UInt8→Bool) (l:List UInt8) (h:runOf p l<l.length):p l[runOf p l]=false:=by
  induction l with
  | nil=>simp at h
  | cons c r ih =>
    by_cases hc:p c=true
    · have e:runOf p (c::r)=runOf p r+1:=by rw [runOf_cons,if_pos hc]
      have h2:runOf p r<r.length:=by rw [e] at h;simpa using h
      have:=ih h2
      simp only [e,List.getElem_cons_succ]
      exact this
    · have e:runOf p (c::r)=0:=by rw [runOf_cons,if_neg hc]
      simp only [e,List.getElem_cons_zero]
      simpa using hc
theorem runOf_eq (p:UInt8→Bool) (l:List UInt8) (n:Nat) (hn:n≤l.length) (ha:∀ i (h:i<n),p (l[i]'(by omega))=true) (he:∀ h:n<l.length,p l[n]=false):runOf p l=n:=by
  induction l generalizing n with
  | nil=>simp at hn;subst hn;rfl
  | cons c r ih =>
    rw [runOf_cons]
    cases n with
    | zero =>
      have:=he (by simp)
      simp at this
      rw [if_neg (by simp [this])]
    | succ n =>
      have h0:=ha 0 (by omega)
      simp at h0
      rw [if_pos h0]
      congr 1
      refine ih n (by simpa using hn) (fun i h=>?_) (fun h=>?_)
      · simpa using ha (i+1) (by omega)
      · have k:=he (by simpa using h)
        rw [List.getElem_cons_succ] at k
        exact k
def wordSize (l:List UInt8):Nat:=match l with
  | []=>0
  | c::r=>if isLetter c then runOf isOfWord (c::r) else 0
theorem wordSize_le (l:List UInt8):wordSize l≤l.length:=by
  cases l with
  | nil=>exact Nat.le_refl _
  | cons c r=>simp only [wordSize];split;exact runOf_le _ _;omega
theorem wordSize_pos (c:UInt8) (r:List UInt8) (h:isLetter c=true):0<wordSize (c::r):=by
  simp only [wordSize,if_pos h]
  rw [runOf_cons,if_pos (by simp [isOfWord,h])]
  omega
def passed (l:List UInt8):Nat:=match l.drop (runOf isBlank l) with
  | []=>runOf isBlank l
  | c::r=>if c.toNat=35 then runOf isBlank l+runOf isOfLine (c::r) else runOf isBlank l
theorem passed_le (l:List UInt8):passed l≤l.length:=by
  have h:=runOf_le isBlank l
  unfold passed
  split
  · exact h
  · rename_i c r e
    split
    · have h2:=runOf_le isOfLine (c::r)
      have h3:(c::r).length=l.length - runOf isBlank l:=by rw [← e,List.length_drop]
      omega
    · exact h
inductive Cut where
  | ok (kind:Nat) (body:List UInt8) (size:Nat)
  | bad (code:Nat)
def number (kind:Nat) (l:List UInt8) (most extra:Nat):Cut :=
  if 1<runOf isDigit l∧(l.head?.map UInt8.toNat)=some 48 then .bad 2
  else match Go.Lib.parseUintB 64 (l.takeWhile isDigit) with
    | .ok u=>if most<u then .bad 2 else .ok kind (l.takeWhile isDigit) (extra+runOf isDigit l)
    | _=>.bad 2
def first (l:List UInt8):Cut:=match l with
  | []=>.bad 1
  | c::r =>
    if c.toNat=10 then .ok 6 [] 1
    else if isMark c then .ok 5 [c] 1
    else if isLetter c then .ok 1 ((c::r).take (wordSize (c::r))) (wordSize (c::r))
    else if isDigit c then number 2 (c::r) 18446744073709551615 0
    else if c.toNat=37 then number 3 r 4095 1
    else if c.toNat=64∧0<wordSize r then .ok 4 (r.take (wordSize r)) (1+wordSize r)
    else .bad 1
structure Tok where
  kind:Nat
  body:List UInt8
  line:Nat
  col:Nat
structure Flt where
  code:Nat
  line:Nat
  col:Nat
inductive Lexed:List UInt8→Nat→Nat→List Tok→Option Flt→Prop
  | done {l line col}:l.drop (passed l)=[]→Lexed l line col [] none
  | bad {l line col c r e}:l.drop (passed l)=c::r→first (c::r)=.bad e→Lexed l line col [] (some ⟨e,line,col+passed l⟩)
  | step {l line col c r k b s ts f}:l.drop (passed l)=c::r→first (c::r)=.ok k b s →
      Lexed ((c::r).drop s) (if k=6 then line+1 else line) (if k=6 then 1 else col+passed l+s) ts f→Lexed l line col (⟨k,b,line,col+passed l⟩::ts) f
theorem Lexed.unique {l line col ts f} (h:Lexed l line col ts f):∀ {ts' f'},Lexed l line col ts' f'→ts=ts'∧f=f':=by
  induction h with
  | done h0 =>
    intro ts' f' h'
    cases h' with
    | done=>exact ⟨rfl,rfl⟩
    | bad h1=>rw [h0] at h1;cases h1
    | step h1=>rw [h0] at h1;cases h1
  | bad h0 h1 =>
    intro ts' f' h'
    cases h' with
    | done h2=>rw [h0] at h2;cases h2
    | bad h2 h3 =>
      rw [h0] at h2;injection h2 with a b;subst a b
      rw [h1] at h3;injection h3 with a;subst a
      exact ⟨rfl,rfl⟩
    | step h2 h3 =>
      rw [h0] at h2;injection h2 with a b;subst a b
      rw [h1] at h3;cases h3
  | step h0 h1 _ ih =>
    intro ts' f' h'
    cases h' with
    | done h2=>rw [h0] at h2;cases h2
    | bad h2 h3 =>
      rw [h0] at h2;injection h2 with a b;subst a b
      rw [h1] at h3;cases h3
    | step h2 h3 h4 =>
      rw [h0] at h2;injection h2 with a b;subst a b
      rw [h1] at h3;injection h3 with a b c;subst a b c
      obtain ⟨rfl,rfl⟩:=ih h4
      exact ⟨rfl,rfl⟩
theorem number_size {kind l most extra k b s} (h:number kind l most extra=.ok k b s):k=kind∧b=l.takeWhile isDigit∧s=extra+runOf isDigit l∧0<runOf isDigit l:=by
  unfold number at h
  split at h
  · cases h
  · split at h
    · rename_i hp
      split at h
      · cases h
      · injection h with h1 h2 h3
        refine ⟨h1.symm,h2.symm,h3.symm,?_⟩
        rcases Nat.eq_zero_or_pos (runOf isDigit l) with h0 | h0
        · have e:l.takeWhile isDigit=[]:=List.length_eq_zero_iff.1 h0
          rw [e] at hp
          simp [Go.Lib.parseUintB] at hp
        · exact h0
    · cases h
theorem first_size {l k b s} (h:first l=.ok k b s):0<s∧s≤l.length∧b.length≤s:=by
  unfold first at h
  split at h
  · cases h
  · rename_i c r
    split at h
    · injection h with h1 h2 h3;subst h1 h2 h3;simp
    split at h
    · injection h with h1 h2 h3;subst h1 h2 h3;simp
    split at h
    · rename_i hl
      injection h with h1 h2 h3;subst h1 h2 h3
      exact ⟨wordSize_pos c r hl,wordSize_le _,by rw [List.length_take];exact Nat.min_le_left _ _⟩
    split at h
    · obtain ⟨rfl,rfl,rfl,hp⟩:=number_size h
      have:=runOf_le isDigit (c::r)
      exact ⟨by omega,by omega,by unfold runOf;omega⟩
    split at h
    · obtain ⟨rfl,rfl,rfl,hp⟩:=number_size h
      have:=runOf_le isDigit r
      refine ⟨by omega,by simp;omega,by unfold runOf;omega⟩
    split at h
    · rename_i hw
      injection h with h1 h2 h3;subst h1 h2 h3
      have:=wordSize_le r
      exact ⟨by omega,by simp;omega,by rw [List.length_take];omega⟩
    · cases h
theorem first_bad {l e} (h:first l=.bad e):e=1∨e=2:=by
  have hn:∀ {k l m x e},number k l m x=.bad e→e=2:=by
    intro k l m x e h
    unfold number at h
    split at h
    · injection h with h;exact h.symm
    · split at h
      · split at h
        · injection h with h;exact h.symm
        · cases h
      · injection h with h;exact h.symm
  unfold first at h
  split at h
  · injection h with h;exact .inl h.symm
  · split at h
    · cases h
    split at h
    · cases h
    split at h
    · cases h
    split at h
    · exact .inr (hn h)
    split at h
    · exact .inr (hn h)
    split at h
    · cases h
    · injection h with h;exact .inl h.symm
end Go.Proofs.YtmmlfmplggbmiaaGreatDoor
