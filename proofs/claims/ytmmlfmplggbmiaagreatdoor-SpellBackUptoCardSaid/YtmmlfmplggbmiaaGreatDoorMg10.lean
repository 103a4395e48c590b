/- Several texts in one: PgZ9, PgZA, PgZB, PgZC, PgZD, PgZE, PsBl, PsBm, PsBn, PsBo, PsBp, PsBq, PsBr, PsBs, PsBt. -/
import Derived.Lib.LastIndexByte
import Derived.Lib.Bytealg
import Derived.Test.YtmmlfmplggbmiaaGreatDoorShelf
import Derived.Deep.Onto
import Derived.Test.YtmmlfmplggbmiaaGreatDoorMg9
namespace Go.Proofs.YtmmlfmplggbmiaaGreatDoor
open Go.RowKit Go.Maps
set_option linter.unusedVariables false
set_option linter.unusedSimpArgs false
section
variable {B b:Nat} {W w w':World} {en:Tok} {m:LMod} {s:RS} {Z Z':As}
set_option maxRecDepth 100000 in
set_option maxHeartbeats 8000000 in
theorem settle_any (hts:s.ts=[]) (hinn:ModInn s.asked.length (modD m)) (hp:PsOk (modD m)) (hml:mlen (modD m)≤1000000) (h:Px B W b en m s Z w) :
    Calls Tryz.prog 32 #[.pointer (some ⟨b,0,none⟩)] w (fun e w' => e=.returned (.tuple #[])∧Mk B W b en (gM en (modD m) s.asked s.flt).1 (wF s (gM en (modD m) s.asked s.flt).2) Z w'):=by
  obtain ⟨_,_,c10,_⟩:=Pk.cells h
  have bl:=Pk.lt h
  obtain ⟨vp,vn,vc,vs,xp,xn,xc,xs,fp,fn,fc,fs⟩:=m
  obtain ⟨mm,emm⟩:∃ mm,modD ⟨vp,vn,vc,vs,xp,xn,xc,xs,fp,fn,fc,fs⟩=mm:=⟨_,rfl⟩
  have hfn:fn=fs.length:=(Pk.satZ h).1.2.2.1.1
  have efs:mm.fs=fs.map fnD:=by rw [← emm];rfl
  rw [emm] at hinn hp hml
  rw [emm]
  have HH:=Lib.hid (And.intro h (congrArg heads emm))
  have HN:=Lib.hid (And.intro hfn (And.intro hts (And.intro hp (And.intro hml (And.intro hinn (And.intro efs emm))))))
  clear h hts hinn hp hml emm efs hfn
  simp only at c10
  go_enter Tryz.func32,Tryz.ntmps32
  go_wp2_with fail
  go_loopw [13] (fun t13 wr=>∃ (F1 F2:List LFn) (f1:Option Flt),t13=.int .i64 (F1.length:Nat)∧Hid (F1.length+F2.length=fn∧Px B W b en (mF ⟨vp,vn,vc,vs,xp,xn,xc,xs,fp,fn,fc,fs⟩ (F1++F2)) (wF s f1) Z wr∧Sf (gF en mm s.asked) (fs.map fnD) s.flt (F1.map fnD) (F2.map fnD) f1∧heads (modD (mF ⟨vp,vn,vc,vs,xp,xn,xc,xs,fp,fn,fc,fs⟩ (F1++F2)))=heads mm∧∀ f∈F2,f∈fs)) (fun t13 _=>fn - (intOf t13).toNat)
  case atStart=>exact ⟨[],fs,s.flt,rfl,Lib.hid ⟨by have:=HN.out.1;simp;omega,HH.out.1,Sf.start,HH.out.2,fun f hf=>hf⟩⟩
  case round =>
    obtain ⟨F1,F2,f1,rfl,HR⟩:=hrel
    rename World=>wa
    cases F2 with
    | nil =>
      have hl:F1.length=fn:=by have:=HR.out.1;simpa using this
      have hd:decide ((fn:Int)<(fn:Int))=false:=by simp
      rw [hl]
      clear hl
      go_wp2_with fail
      go_end0
      refine ⟨rfl,?_⟩
      have hS:=HR.out.2.2.1.fin
      have hE:gM en mm s.asked s.flt=(modD (mF ⟨vp,vn,vc,vs,xp,xn,xc,xs,fp,fn,fc,fs⟩ (F1++[])),f1):=by
        unfold gM
        rw [HN.out.2.2.2.2.2.1,hS,← HN.out.2.2.2.2.2.2]
        simp [modD,mF]
      rw [hE]
      exact HR.out.2.1.mk
    | cons f F2 =>
      obtain ⟨gf0,e1,⟨d0,d1,d2,d3⟩,dgl,dn,dmx⟩:=Px.fsAt HR.out.2.1
      simp only at e1 dn dmx
      subst e1
      have hbl:=Px.bsLen HR.out.2.1
      obtain ⟨i,ei⟩:∃ i,F1.length=i:=⟨_,rfl⟩
      have hi:i<fn:=by have h1:=HR.out.1;simp at h1;omega
      have HL:=Lib.hid (And.intro ei (And.intro hi hbl))
      have hd:decide ((i:Int)<(fn:Int))=true:=by simp;omega
      rw [ei] at d0 d1 d2 d3
      rw [ei]
      have h2:=Px.bpush (Px.b0 HR.out.2.1) rfl [.string f.nm,.slice f.pp f.pn f.pc,.int .i64 f.rt,.slice f.bp f.bn f.bc] 49
      have HP2:=Lib.hid h2
      have hb2:=h2.bget 0 rfl
      have b3:=hb2.get 3 _ rfl
      have gbl:=hb2.1
      unfold maxLen at dmx
      clear h2 hb2 ei hbl
      go_wp2_with fail
      go_loopw [20] (fun t20 wt=>∃ (B1 B2:List LB) (f2:Option Flt),t20=.int .i64 (B1.length:Nat)∧Hid (B1.length+B2.length=f.bn∧Px B W b en (mF ⟨vp,vn,vc,vs,xp,xn,xc,xs,some ⟨gf0,0,none⟩,fn,fc,fs⟩ (F1++fB f (B1++B2)::F2)) (wF s f2) ((As.and (bxs [(wa.heap.size,[.string f.nm,.slice f.pp f.pn f.pc,.int .i64 f.rt,.slice f.bp f.bn f.bc])]) Z)) wt∧Sf (fun c=>sFold (gI en mm s.asked) c) (f.bs.map blkD) f1 (B1.map blkD) (B2.map blkD) f2∧∀ c∈B2,c∈f.bs)) (fun t20 _=>f.bn - (intOf t20).toNat)
      case atStart=>exact ⟨[],f.bs,f1,rfl,Lib.hid ⟨by have:=HL.out.2.2;simp;omega,HP2.out,Sf.start,fun c hc=>hc⟩⟩
      case round =>
        obtain ⟨B1,B2,f2,rfl,HB⟩:=hrel
        rename World=>wt
        cases B2 with
        | nil =>
          have hl:B1.length=f.bn:=by have:=HB.out.1;simpa using this
          have hdb:decide ((f.bn:Int)<(f.bn:Int))=false:=by simp
          rw [hl]
          clear hl
          go_wp2_with fail
          have hS:=HB.out.2.2.1.fin
          have hA:=HR.out.2.2.1.step
          have eA:gF en mm s.asked (fnD f) f1=(fnD (fB f (B1++[])),f2):=by
            unfold gF
            rw [show (fnD f).bs=f.bs.map blkD from rfl,hS]
            simp [fnD,fB]
          rw [eA] at hA
          have hpx:=HB.out.2.1.nobx
          refine ⟨⟨F1++[fB f (B1++[])],F2,f2,?_,Lib.hid ⟨?_,?_,?_,?_,?_⟩⟩,?_⟩
          · rw [List.length_append,List.length_singleton,HL.out.1];go_num
          · have h1:=HR.out.1;simp at h1 ⊢;omega
          · rw [List.append_assoc];exact hpx
          · rw [List.map_append];exact hA
          · rw [List.append_assoc];exact (heads_mF (by rfl)).trans HR.out.2.2.2.1
          · exact fun y hy=>HR.out.2.2.2.2 y (List.mem_cons_of_mem _ hy)
          · have h1:=HL.out.2.1;simp [intOf];omega
        | cons c B2 =>
          obtain ⟨⟨gB,e2,k0,kgl,kn,kmx⟩,kcn⟩:=Px.bsAt HB.out.2.1
          obtain ⟨j,ej⟩:∃ j,B1.length=j:=⟨_,rfl⟩
          have hj:j<f.bn:=by have h1:=HB.out.1;simp at h1;omega
          have HJ:=Lib.hid (And.intro ej (And.intro hj kcn))
          have hdb:decide ((j:Int)<(f.bn:Int))=true:=by simp;omega
          rw [ej] at k0
          rw [ej]
          have h5:=Px.bpush HB.out.2.1 rfl [.slice c.p c.n c.k] 46
          have HP5:=Lib.hid h5
          have hb5:=h5.bget 0 rfl
          have b5:=hb5.get 0 _ rfl
          have gbl5:=hb5.1
          unfold maxLen at kmx
          have HE:=Lib.hid e2
          clear h5 hb5 ej kcn
          rw [e2]
          go_wp2_with fail
          go_loopw [27] (fun t27 wv=>∃ (C1 C2:List LI) (f3:Option Flt),t27=.int .i64 (C1.length:Nat)∧Hid (C1.length+C2.length=c.n∧Px B W b en (hole ⟨vp,vn,vc,vs,xp,xn,xc,xs,some ⟨gf0,0,none⟩,fn,fc,fs⟩ F1 F2 f B1 B2 c (C1++C2)) (wF s f3) ((As.and (bxs [(wt.heap.size,[.slice c.p c.n c.k]),(wa.heap.size,[.string f.nm,.slice f.pp f.pn f.pc,.int .i64 f.rt,.slice f.bp f.bn f.bc])]) Z)) wv∧Sf (gI en mm s.asked) (c.code.map insD) f2 (C1.map insD) (C2.map insD) f3∧∀ x∈C2,x∈c.code)) (fun t27 _=>c.n - (intOf t27).toNat)
          case atStart=>exact ⟨[],c.code,f2,rfl,Lib.hid ⟨by have:=HJ.out.2.2;simp;omega,HP5.out,Sf.start,fun x hx=>hx⟩⟩
          case round =>
            obtain ⟨C1,C2,f3,rfl,HC⟩:=hrel
            rename World=>wv
            cases C2 with
            | nil =>
              have hl:C1.length=c.n:=by have:=HC.out.1;simpa using this
              have hdc:decide ((c.n:Int)<(c.n:Int))=false:=by simp
              rw [hl]
              clear hl
              go_wp2_with fail
              have hS:=HC.out.2.2.1.fin
              have hA:=HB.out.2.2.1.step
              have eA:sFold (gI en mm s.asked) (blkD c) f2=(blkD (holeB c (C1++[])),f3):=by
                show sFold (gI en mm s.asked) (c.code.map insD) f2=_
                rw [hS]
                simp [blkD,holeB]
              rw [eA] at hA
              have hpx:Px B W b en (mF ⟨vp,vn,vc,vs,xp,xn,xc,xs,some ⟨gf0,0,none⟩,fn,fc,fs⟩ (F1++fB f (B1++holeB c (C1++[])::B2)::F2)) (wF s f3) ((As.and (bxs [(wa.heap.size,[.string f.nm,.slice f.pp f.pn f.pc,.int .i64 f.rt,.slice f.bp f.bn f.bc])]) Z)) _:=Px.imp HC.out.2.1 ⟨fun w y=>⟨y.1.2,y.2⟩,fun k=>by simp only [As.and_c,bxs,As.all,As.emp_c];omega⟩
              refine ⟨⟨B1++[holeB c (C1++[])],B2,f3,?_,Lib.hid ⟨?_,?_,?_,?_⟩⟩,?_⟩
              · rw [List.length_append,List.length_singleton,HJ.out.1];go_num
              · have h1:=HB.out.1;simp at h1 ⊢;omega
              · rw [List.append_assoc B1 [holeB c (C1++[])] B2,← HE.out];exact hpx
              · rw [List.map_append];exact hA
              · exact fun y hy=>HB.out.2.2.2 y (List.mem_cons_of_mem _ hy)
              · have h1:=HJ.out.2.1;simp [intOf];omega
            | cons x C2 =>
              obtain ⟨gc,e3,cgl,cn,cmx⟩:=Px.cdAt HC.out.2.1
              obtain ⟨k,ek⟩:∃ k,C1.length=k:=⟨_,rfl⟩
              have hk:k<c.n:=by have h1:=HC.out.1;simp at h1;omega
              have hdc:decide ((k:Int)<(c.n:Int))=true:=by simp;omega
              have hm:heads (modD (hole ⟨vp,vn,vc,vs,xp,xn,xc,xs,some ⟨gf0,0,none⟩,fn,fc,fs⟩ F1 F2 f B1 B2 c (C1++x::C2)))=heads mm:=(heads_mF (by rfl)).trans HR.out.2.2.2.1
              have hx:InsInn s.asked.length (insD x):=by
                have h1:=HN.out.2.2.2.2.1 (fnD f) (by rw [HN.out.2.2.2.2.2.1];exact List.mem_map_of_mem (HR.out.2.2.2.2 f List.mem_cons_self))
                exact h1 (blkD c) (List.mem_map_of_mem (HB.out.2.2.2 c List.mem_cons_self)) (insD x) (List.mem_map_of_mem (HC.out.2.2.2 x List.mem_cons_self))
              have CN:=names_any (C1:=C1) (C2:=C2) hm e3 HN.out.2.1 hx HN.out.2.2.1 HN.out.2.2.2.1 HC.out.2.1
              rw [ek] at CN
              rw [ek]
              have hbv:=HC.out.2.1.bget 0 rfl
              have v5:=hbv.get 0 _ rfl
              have v5l:=hbv.1
              have HK:=Lib.hid (And.intro ek hk)
              rw [e3] at v5
              unfold maxLen at cmx
              rw [e3]
              clear hbv hm hx ek
              go_wp2_with ((with_reducible refine CN.mono ?_);rintro e wz ⟨rfl,x',ex',hz⟩)
              have hA:=HC.out.2.2.1.step
              have eA:(gI en mm s.asked (insD x) f3).1=insD x':=ex'.symm
              rw [eA] at hA
              refine ⟨⟨C1++[x'],C2,(gI en mm s.asked (insD x) f3).2,?_,Lib.hid ⟨?_,?_,?_,?_⟩⟩,?_⟩
              · rw [List.length_append,List.length_singleton,HK.out.1];go_num
              · have h1:=HC.out.1;simp at h1 ⊢;omega
              · rw [List.append_assoc C1 [x'] C2,← e3];exact hz
              · rw [List.map_append];exact hA
              · exact fun y hy=>HC.out.2.2.2 y (List.mem_cons_of_mem _ hy)
              · have h1:=HK.out.2;simp [intOf];omega
end
end Go.Proofs.YtmmlfmplggbmiaaGreatDoor
namespace Go.Proofs.YtmmlfmplggbmiaaGreatDoor
set_option linter.unusedVariables false
set_option linter.unusedSimpArgs false
section
variable {en:Tok} (h6:en.kind=6)
include h6
theorem more_ps:∀ (k:Nat) (q:List Int×RS),tsl q.2<k→(sMore en (iParam en) k q).1.length≤q.1.length+tsl q.2
  | 0,q,h=>absurd h (Nat.not_lt_zero _)
  | k + 1,q,h=>by
    unfold sMore
    split
    · rename_i hc
      have hne:q.2.ts.length≠0:=ts_of_kind h6 (by unfold isTk at hc;rw [Bool.and_eq_true] at hc;have:=hc.1;simp at this;omega)
      have h3:tsl (ps q.2)+1≤tsl q.2:=by unfold tsl ps at *;simp;omega
      have h1:=tsl_param en (q.1,ps q.2)
      have h1':tsl (iParam en (q.1,ps q.2)).2≤tsl (ps q.2):=h1
      have h2:(iParam en (q.1,ps q.2)).1.length=q.1.length+1:=intsz _ _
      have ih:=more_ps k (iParam en (q.1,ps q.2)) (by omega)
      omega
    · omega
theorem types_ps (s:RS):(vTypes en s).1.length≤tsl s+1:=by
  unfold vTypes
  show (sBrackets en (iParam en) ([],s)).1.length≤_
  unfold sBrackets
  have h0:=tsl_this en 5 [40] s
  dsimp only
  split
  · show 0≤_
    omega
  · unfold sCommas
    have h1:=tsl_param en ([],sThis en 5 [40] s)
    have h1':tsl (iParam en ([],sThis en 5 [40] s)).2≤tsl (sThis en 5 [40] s):=h1
    have h2:(iParam en ([],sThis en 5 [40] s)).1.length=0+1:=intsz _ _
    have ih:=more_ps h6 ((iParam en ([],sThis en 5 [40] s)).2.ts.length+1) (iParam en ([],sThis en 5 [40] s)) (Nat.lt_succ_self _)
    show (sMore en (iParam en) _ (iParam en ([],sThis en 5 [40] s))).1.length≤_
    omega
theorem lines_left (N:Nat):∀ (k:Nat) (p:PMod×RS),tsl p.2<k→tsl p.2≤N→(∀ f∈p.1.fs,f.ps.length≤N+1)→(∀ x∈p.1.xs,x.ps.length≤N+1) →
    (iLines en k p).2.ts=[]∧mlen (iLines en k p).1≤mlen p.1+tsl p.2∧(∀ f∈(iLines en k p).1.fs,f.ps.length≤N+1)∧∀ x∈(iLines en k p).1.xs,x.ps.length≤N+1
  | 0,p,h,_,_,_=>absurd h (Nat.not_lt_zero _)
  | k + 1, p,h,hN,hf,hx=>by
    unfold iLines
    split
    · rename_i hts
      exact ⟨hts,by omega,hf,hx⟩
    · rename_i f l hts
      have hL0:tsl (ps p.2)+1≤tsl p.2:=by unfold tsl ps;rw [hts];simp
      split
      · obtain ⟨a1,a2,a3,a4⟩:=lines_left N k (p.1,ps p.2) (by show tsl (ps p.2)<k;omega) (by show tsl (ps p.2)≤N;omega) hf hx
        exact ⟨a1,by have:mlen (iLines en k (p.1,ps p.2)).1≤mlen p.1+tsl (ps p.2):=a2;omega,a3,a4⟩
      split
      · have h1:=(l2_global (en:=en) (p.1,ps p.2)).2
        have h1':tsl (iGlobal en (p.1,ps p.2)).2≤tsl (ps p.2):=h1
        have h2:mlen (iGlobal en (p.1,ps p.2)).1=mlen p.1+1:=by unfold iGlobal mlen;simp;omega
        obtain ⟨a1,a2,a3,a4⟩:=lines_left N k (iGlobal en (p.1,ps p.2)) (by omega) (by omega) hf hx
        exact ⟨a1,by omega,a3,a4⟩
      split
      · have h1:=(l2_extern h6 (p.1,ps p.2)).2
        have h1':tsl (iExtern en (p.1,ps p.2)).2≤tsl (ps p.2):=h1
        have h2:mlen (iExtern en (p.1,ps p.2)).1=mlen p.1+1:=by unfold iExtern mlen;simp;omega
        have h3:=types_ps h6 (sName en (p.1.xs.length==8) (hasCal p.1) (ps p.2))
        have h4:=(l2_name en (p.1.xs.length==8) (hasCal p.1) (ps p.2)).2
        obtain ⟨a1,a2,a3,a4⟩:=lines_left N k (iExtern en (p.1,ps p.2)) (by omega) (by omega) hf (fun x hx2=>by
          rcases List.mem_append.1 (show x∈p.1.xs++[_] from hx2) with h9 | h9
          · exact hx x h9
          · rw [List.mem_singleton.1 h9]
            show (vTypes en (sName en (p.1.xs.length==8) (hasCal p.1) (ps p.2))).1.length≤N+1
            omega)
        exact ⟨a1,by omega,a3,a4⟩
      split
      · have h1:=(l2_func h6 (p.1,ps p.2)).2
        have h1':tsl (iFunc en (p.1,ps p.2)).2≤tsl (ps p.2):=h1
        have h2:mlen (iFunc en (p.1,ps p.2)).1=mlen p.1+1:=by unfold iFunc mlen;simp;omega
        have h3:=types_ps h6 (sName en (p.1.fs.length==8) (hasCal p.1) (ps p.2))
        have h4:=(l2_name en (p.1.fs.length==8) (hasCal p.1) (ps p.2)).2
        obtain ⟨a1,a2,a3,a4⟩:=lines_left N k (iFunc en (p.1,ps p.2)) (by omega) (by omega) (fun x hx2=>by
          rcases List.mem_append.1 (show x∈p.1.fs++[_] from hx2) with h9 | h9
          · exact hf x h9
          · rw [List.mem_singleton.1 h9]
            show (vTypes en (sName en (p.1.fs.length==8) (hasCal p.1) (ps p.2))).1.length≤N+1
            omega) hx
        exact ⟨a1,by omega,a3,a4⟩
      · obtain ⟨a1,a2,a3,a4⟩:=lines_left N k (p.1,bd 3 f p.2) (by show 0<k;omega) (by show 0≤N;omega) hf hx
        exact ⟨a1,by have:mlen (iLines en k (p.1,bd 3 f p.2)).1≤mlen p.1+0:=a2;omega,a3,a4⟩
end
end Go.Proofs.YtmmlfmplggbmiaaGreatDoor
namespace Go.Proofs.YtmmlfmplggbmiaaGreatDoor
open Go.RowKit Go.Maps
set_option linter.unusedVariables false
set_option linter.unusedSimpArgs false
theorem runOf_whole (p:UInt8→Bool):∀ (l:List UInt8),(∀ c∈l,p c=true)→runOf p l=l.length
  | [],_=>rfl
  | c::r,h=>by
    rw [runOf_cons,if_pos (h c List.mem_cons_self),runOf_whole p r (fun d hd=>h d (List.mem_cons_of_mem _ hd))]
    rfl
theorem runOf_upto (p:UInt8→Bool) (d:UInt8) (t:List UInt8) (hd:p d=false):∀ (l:List UInt8),(∀ c∈l,p c=true)→runOf p (l++d::t)=l.length
  | [],_=>by rw [List.nil_append,runOf_cons,if_neg (by simp [hd])];rfl
  | c::r,h=>by
    rw [List.cons_append,runOf_cons,if_pos (h c List.mem_cons_self),runOf_upto p d t hd r (fun d hd=>h d (List.mem_cons_of_mem _ hd))]
    rfl
theorem end_col (s:ByteArray):(s.size:Int) - Lib.lastIndexByte s 10=((runOf (fun c=>c.toNat != 10) s.data.toList.reverse+1:Nat):Int)∧-1≤Lib.lastIndexByte s 10∧Lib.lastIndexByte s 10≤s.size:=by
  have hsz:s.size=s.data.toList.length:=by rw [Lib.size_eq]
  have hat:∀ j (h:j<s.data.toList.length),s.data[j]! = s.data.toList[j]:=fun j h=>by
    have h2:j<s.data.size:=by simpa using h
    rw [getElem!_pos s.data j h2]
    simp
  unfold Lib.lastIndexByte
  rcases Lib.lastIdx_spec s 10 s.size with ⟨h1,h2⟩ | ⟨i,h1,h2,h3,h4⟩
  · rw [h1,runOf_whole _ _ (fun c hc=>by
      obtain ⟨j,hj,rfl⟩:=List.mem_iff_getElem.1 (List.mem_reverse.1 hc)
      have h5:=h2 j (by omega)
      rw [hat j hj] at h5
      simp only [bne_iff_ne,ne_eq]
      omega)]
    rw [List.length_reverse,hsz]
    omega
  · have hi:i<s.data.toList.length:=by omega
    have e:s.data.toList=s.data.toList.take i++s.data.toList[i]::s.data.toList.drop (i+1):=by rw [List.getElem_cons_drop,List.take_append_drop]
    have e2:s.data.toList.reverse=(s.data.toList.drop (i+1)).reverse++s.data.toList[i]::(s.data.toList.take i).reverse:=by
      conv=>lhs;rw [e]
      simp
    rw [h2,e2,runOf_upto _ _ _ (by rw [hat i hi] at h3;simp only [bne_eq_false_iff_eq];omega) _ (fun c hc=>by
      obtain ⟨j,hj,rfl⟩:=List.mem_iff_getElem.1 (List.mem_reverse.1 hc)
      rw [List.getElem_drop]
      have hj2:i+1+j<s.data.toList.length:=by simp at hj;simp;omega
      have h5:=h4 (i+1+j) (by omega) (by omega)
      rw [hat (i+1+j) hj2] at h5
      simp only [bne_iff_ne,ne_eq]
      omega)]
    rw [List.length_reverse,List.length_drop,hsz]
    omega
set_option maxRecDepth 100000 in
set_option maxHeartbeats 2000000 in
theorem endOf_any (s:ByteArray) (hs:s.size<4611686018427387904) (w:World) :
    Calls Tryz.prog 30 #[.string s] w (fun e w' => e=.returned (tkV (endTk s.data.toList))∧Below w.heap.size w w'):=by
  have C1:=fun w=>Tryz.strings_Count_one s 10 w
  have C2:=fun w=>Tryz.strings_LastIndexByte s 10 hs w
  obtain ⟨h1,h2,h3⟩:=end_col s
  have hk:s.data.toList.count 10≤s.size:=by rw [Lib.size_eq];exact List.count_le_length
  have e1:Lib.countByte s.data.toList 10=s.data.toList.count 10:=rfl
  rw [e1] at C1
  unfold endTk
  obtain ⟨k,ek⟩:∃ k,s.data.toList.count 10=k:=⟨_,rfl⟩
  obtain ⟨q,eq⟩:∃ q,Lib.lastIndexByte s 10=q:=⟨_,rfl⟩
  obtain ⟨v,ev⟩:∃ v,runOf (fun c=>c.toNat != 10) s.data.toList.reverse+1=v:=⟨_,rfl⟩
  obtain ⟨n,en⟩:∃ n,s.size=n:=⟨_,rfl⟩
  simp only [ek,eq,ev,en] at C1 C2 h1 h2 h3 hk hs ⊢
  have hw1:IntKind.i64.wrap (1+(k:Int))=1+k:=by rw [IntKind.wrap_i64];omega
  have hw2:IntKind.i64.wrap ((n:Int) - q)=v:=by rw [IntKind.wrap_i64];omega
  have HB:∀ o,Below w.heap.size w (w.alloc o):=fun o=>(Below.refl _ _).alloc (Nat.le_refl _) o
  have es0:(⟨#[]⟩:ByteArray)=str []:=rfl
  have ec:((1+k:Nat):Int)=1+(k:Int):=by omega
  clear h1 h2 h3 hk ek eq ev e1
  go_enter Tryz.func30,Tryz.ntmps30
  go_wp2_with (first | ((with_reducible refine (C1 _).mono ?_);rintro e w1 ⟨rfl,rfl⟩) | ((with_reducible refine (C2 _).mono ?_);rintro e w1 ⟨rfl,rfl⟩))
  refine bodyPost_ret (v:=tkV ⟨6,[],1+k,v⟩) (by simp [results,Tryz.results30,go_sem,tkV,ec,← es0]) rfl ⟨rfl,HB _⟩
theorem first_fault {l e} (h:first l=.bad e):e≠0:=by
  have num:∀ {kind:Nat} {l:List UInt8} {most extra e:Nat},number kind l most extra=.bad e→e≠0:=by
    intro kind l most extra e h
    unfold number at h
    split at h
    · cases h;decide
    · split at h
      · split at h
        · cases h;decide
        · cases h
      · cases h;decide
  unfold first at h
  split at h
  · cases h;decide
  · split at h
    · cases h
    split at h
    · cases h
    split at h
    · cases h
    split at h
    · exact num h
    split at h
    · exact num h
    split at h
    · cases h
    · cases h;decide
theorem first_eats {c:UInt8} {r:List UInt8} {k s:Nat} {b:List UInt8} (h:first (c::r)=.ok k b s):1≤s:=by
  have num:∀ {kind:Nat} {l:List UInt8} {most extra k s:Nat} {b:List UInt8},number kind l most extra=.ok k b s→s=extra+runOf isDigit l:=by
    intro kind l most extra k s b h
    unfold number at h
    split at h
    · cases h
    · split at h
      · split at h
        · cases h
        · injection h with h1 h2 h3;exact h3.symm
      · cases h
  unfold first at h
  simp only at h
  split at h
  · cases h;exact Nat.le_refl _
  split at h
  · cases h;exact Nat.le_refl _
  split at h
  · rename_i hl
    injection h with h1 h2 h3
    rw [← h3]
    unfold wordSize
    simp only [hl,if_true]
    rw [runOf_cons,if_pos (by unfold isOfWord;simp [hl])]
    omega
  split at h
  · rename_i hd
    rw [num h,runOf_cons,if_pos hd];omega
  split at h
  · rw [num h];omega
  split at h
  · injection h with h1 h2 h3;omega
  · cases h
theorem lexed_few {l line col ts f} (h:Lexed l line col ts f):ts.length≤l.length∧FltOk f:=by
  induction h with
  | done _=>exact ⟨by simp,fun x e=>by cases e⟩
  | bad _ h2=>exact ⟨by simp,fun x e=>by injection e with e;rw [← e];exact first_fault h2⟩
  | @step l line col c r k b s ts f h1 h2 h3 ih =>
    have hz:=first_eats h2
    have hl:(c::r).length=l.length - passed l:=by rw [← h1,List.length_drop]
    have hd:((c::r).drop s).length=(c::r).length - s:=List.length_drop
    refine ⟨?_,ih.2⟩
    rw [List.length_cons]
    simp only [List.length_cons] at hl
    have:=ih.1
    rw [hd,List.length_cons] at this
    omega
section
variable {B:Nat} {W w w':World} {Z:As}
theorem St.zero (W:World):St W.heap.size W As.emp W:=⟨Below.refl _ _,Nat.le_refl _,trivial,fun j=>Nat.zero_le _,fun j hj=>absurd rfl hj⟩
theorem St.row {α:Type} {ty:TypeId} {m:Nat} {cel:α→List Value} {p:Option Addr} {n c:Nat} {xs:List α} (h:St B W Z w) (hb:Below w.heap.size w w') (hn:n=xs.length) (hr:w'.ownsRow w.heap.size ty m (.slice p n c) n (xs.flatMap cel)):St B W ((As.and (rw' B ty m cel p n c xs) Z)) w':=by
  have h0:St B W ((As.and As.emp Z)) w:=h.imp ⟨fun w x=>⟨trivial,x⟩,fun k=>by rw [As.and_c,As.emp_c];omega⟩
  refine h0.change hb.os hb.tape hb.output hb.size (fun k hk _=>hb.block k hk) ⟨hn,hr.mono h.le⟩ (fun k=>?_)
  rw [rw_c]
  by_cases e:cR p k=0
  · exact .inl (by omega)
  · refine .inr ⟨?_,cR_le p k⟩
    exact (hr.lt k (cR_block e)).1
theorem tk_of_row {p:Option Addr} {n c:Nat} {ts:List Tok}:(rw' B 81 4 tokC p n c ts).le (tk p n c ts):=by
  refine ⟨fun w h=>?_,fun k=>by rw [rw_c,tk_c];exact Nat.le_refl _⟩
  obtain ⟨h1,h2,h3,h4⟩:=row_in (m:=4) (by decide) (fun _=>rfl) h
  refine ⟨h1,h2,h3,fun j u hu=>?_,fun k hk=>(rw' B 81 4 tokC p n c ts).inH w h k hk⟩
  rcases id h.2.2 with ⟨e,h0⟩ | ⟨g,cap,cur,e,hg,hh,k1,k2,_⟩
  · injection e with e1 e2 e3
    have:ts=[]:=List.eq_nil_of_length_eq_zero (by rw [← h1,e2])
    rw [this] at hu
    cases hu
  · injection e with e1 e2 e3
    refine ⟨g,0,e1,?_⟩
    rw [Nat.zero_add]
    have:=h.2.cells (g:=g) (by rw [e1];rfl) j u hu
    rw [Addr.add_mid,Nat.zero_add] at this
    exact this
theorem Mk.start {p:Option Addr} {n c:Nat} {ts:List Tok} {en:Tok} {b:Nat} (hg:∀ t∈ts,Gt t) (h:St B W ((As.and (bx b (rdC p n c en none (.slice none 0 0) (.slice none 0 0) (.slice none 0 0) (.slice none 0 0))) (As.and (rw' B 81 4 tokC p n c ts) Z))) w):Mk B W b en ⟨[],[],[]⟩ ⟨ts,[],none⟩ Z w:=by
  refine ⟨⟨none,0,0,[],none,0,0,[],none,0,0,[]⟩,rfl,?_⟩
  refine ⟨fun t ht=>(by cases ht),none,0,?_⟩
  refine ⟨hg,fun x e=>(by cases e),p,n,c,?_⟩
  refine h.imp ⟨fun w x=>⟨x.1,tk_of_row.1 w x.2.1,rw_nil w,⟨rw_nil w,⟨rw_nil w,trivial⟩,rw_nil w,trivial⟩,x.2.2⟩,fun k=>?_⟩
  have h1:=(tk_of_row (B:=B) (p:=p) (n:=n) (c:=c) (ts:=ts)).2 k
  have e1:(askRow B none 0 ([]:List Tok)).c k=0:=rfl
  have e2:(modAs B ⟨none,0,0,[],none,0,0,[],none,0,0,[]⟩).c k=0:=rfl
  simp only [As.and_c]
  show _+(_+((askRow B none 0 ([]:List Tok)).c k+((modAs B ⟨none,0,0,[],none,0,0,[],none,0,0,[]⟩).c k+_)))≤_
  rw [e1,e2]
  simp only [bx_c]
  omega
end
def PsEnds (W:World) (l:List UInt8) (e:Ending) (w':World):Prop :=
  ∃ ts f0,Toks l ts f0∧Below W.heap.size W w' ∧
    ((∃ f,(f0=some f∨(f0=none∧parseP (endTk l) ts=.error f))∧e=.returned (.tuple #[.agg #[.slice none 0 0,.slice none 0 0,.slice none 0 0],.agg #[.int .i64 f.code,.int .i64 f.line,.int .i64 f.col]])∧f.code≠0) ∨
      (f0=none∧∃ m:LMod,parseP (endTk l) ts=.ok (modD m)∧e=.returned (.tuple #[.agg #[.slice m.vp m.vn m.vc,.slice m.xp m.xn m.xc,.slice m.fp m.fn m.fc],.agg #[.int .i64 0,.int .i64 0,.int .i64 0]])∧ModIn w'.heap.size w' m))
theorem toks_some {l:List UInt8} {ts:List Tok} {x:Flt} (h:Toks l ts (some x)):x.code≠0∧ts=[]:=by
  rcases h with ⟨_,h2,h3⟩ | ⟨_,t,h2,h3⟩
  · injection h3 with h3;rw [h3];exact ⟨by decide,h2⟩
  · exact ⟨(lexed_few h2).2 x rfl,h3⟩
theorem below_set1 {B g j:Nat} {W w:World} {v:Value} (hg:B≤g) (h:Below B W w):Below B W (w.setCell ⟨g,j,none⟩ v) :=
  ⟨h.os,h.tape,h.output,by simpa [World.setCell] using h.size,fun k hk=>(Below.heap_setCell w ⟨g,j,none⟩ v k (fun e=>by have e2:k=g:=e;omega)).trans (h.block k hk)⟩
set_option maxRecDepth 100000 in
set_option maxHeartbeats 4000000 in
theorem Parse_bad (s:ByteArray) (hs:s.size<4611686018427387904) (W:World) (hE:Errs W) (ts:List Tok) (x:Flt) (hT:Toks s.data.toList ts (some x)) :
    Calls Tryz.prog 9 #[.string s] W (PsEnds W s.data.toList):=by
  obtain ⟨hc,rfl⟩:=toks_some hT
  have h2:=(((St.zero W).imp (As.nob _)).bpush rfl [.slice none 0 0,.slice none 0 0,.slice none 0 0] 26)
  have h3:=h2.bpush (g:=W.heap.size+1) (by simp) [.int .i64 0,.int .i64 0,.int .i64 0] 33
  have hE3:=hE.below h3.below (Nat.le_refl _)
  have CT:Calls Tryz.prog 29 #[.string s] _ (fun e w' => ∃ p c,e=.returned (.tuple #[.slice p 0 c,.agg #[.int .i64 x.code,.int .i64 x.line,.int .i64 x.col]])∧Below ((W.alloc (.cells #[.slice none 0 0,.slice none 0 0,.slice none 0 0] 26)).alloc (.cells #[.int .i64 0,.int .i64 0,.int .i64 0] 33)).heap.size ((W.alloc (.cells #[.slice none 0 0,.slice none 0 0,.slice none 0 0] 26)).alloc (.cells #[.int .i64 0,.int .i64 0,.int .i64 0] 33)) w'):=(Tokens_any s (by omega) _ hE3).mono fun e w' ⟨ts',f',v,k1,k2,k3,k4⟩=>by
    obtain ⟨e1,e2⟩:=k1.unique hT
    subst e1 e2
    obtain ⟨p,c,rfl⟩:=row_slice k4
    exact ⟨p,c,k2,k3⟩
  have hz:((x.code:Int)==0)=false:=beq_false_of_ne (by omega)
  obtain ⟨x1,x2,x3⟩:=x
  simp only at CT hz hc
  have H3:=Lib.hid h3
  have HT:=Lib.hid (And.intro hT hc)
  clear h2 h3 hE3 hE hT hc hs
  go_enter Tryz.func9,Tryz.ntmps9
  go_wp2_with ((with_reducible refine CT.mono ?_);rintro e w1 ⟨p,c,rfl,hb⟩;have h4:=(St.later H3.out hb).bpush rfl [.int .i64 x1,.int .i64 x2,.int .i64 x3] 33;have b5:=h4.bget 0 rfl;have b3:=h4.bget 1 rfl;have b2:=h4.bget 2 rfl;have y0:=b5.get 0 _ rfl;have y1:=b5.get 1 _ rfl;have y2:=b5.get 2 _ rfl;have gl5:=b5.1;have gl3:=b3.1;have gl2:=b2.1;have f20:=b2.2.1 0;have f21:=b2.2.1 1;have f22:=b2.2.1 2;have f30:=b3.2.1 0;have f31:=b3.2.1 1;have f32:=b3.2.1 2;have u20:=b2.get 0 _ rfl;have u21:=b2.get 1 _ rfl;have u22:=b2.get 2 _ rfl;have u30:=b3.get 0 _ rfl;have u31:=b3.get 1 _ rfl;have u32:=b3.get 2 _ rfl;have hsz1:=hb.size;rw [World.size_alloc,World.size_alloc] at hsz1;have n25:W.heap.size≠w1.heap.size:=(by omega);have n52:w1.heap.size≠W.heap.size:=(by omega);have n35:W.heap.size+1≠w1.heap.size:=(by omega);have n53:w1.heap.size≠W.heap.size+1:=(by omega);have H4:=Lib.hid h4;clear h4 b5 b3 b2)
  go_region
  all_goals
    go_wp2_with fail
    have HB:=H4.out.below
    refine bodyPost_ret (v:=.tuple #[.agg #[.slice none 0 0,.slice none 0 0,.slice none 0 0],.agg #[.int .i64 x1,.int .i64 x2,.int .i64 x3]]) (by simp [results,Tryz.results9,go_sem,u20,u21,u22,u30,u31,u32]) rfl ⟨[],some ⟨x1,x2,x3⟩,HT.out.1,?_,.inl ⟨⟨x1,x2,x3⟩,.inl rfl,rfl,HT.out.2⟩⟩
    repeat (first | with_reducible exact HB | with_reducible refine below_drew ?_ | with_reducible refine below_set1 (Nat.le_refl _) ?_ | with_reducible refine below_set1 (Nat.le_succ _) ?_)
section
variable {B b:Nat} {W w w':World} {en:Tok} {ts:List Tok} {mm:PMod} {s:RS} {Z:As}
theorem Mk.fcells (h:Mk B W b en mm s Z w):(w.cell? ⟨b,5,none⟩=some (.int .i64 (fC s.flt))∧w.cell? ⟨b,6,none⟩=some (.int .i64 (fL s.flt))∧w.cell? ⟨b,7,none⟩=some (.int .i64 (fK s.flt)))∧FltOk s.flt:=by
  obtain ⟨m0,m1,m2,r,Z',hr,_⟩:=h.rd
  obtain ⟨_,hf,tp,tn,tc,hs⟩:=hr
  exact ⟨⟨hs.box.get 5 _ rfl,hs.box.get 6 _ rfl,hs.box.get 7 _ rfl⟩,hf⟩
theorem Px.bput {m:LMod} {bs:List (Nat×List Value)} (h:Px B W b en m s ((As.and (bxs bs) Z)) w) (i:Nat) {g:Nat} {cs:List Value} (e:bs[i]? = some (g,cs)) (j:Nat) (v:Value):Px B W b en m s ((As.and (bxs (bs.set i (g,cs.set j v))) Z)) (w.setCell ⟨g,j,none⟩ v):=by
  obtain ⟨Y,hs,back⟩:=h.st
  exact back _ _ (((hs.imp (As.asl _ _ _)).bput i e j v).imp (As.asr _ _ _))
theorem Mk.start2 {p:Option Addr} {n c:Nat} {bs:List (Nat×List Value)} (hg:∀ t∈ts,Gt t) (h:St B W ((As.and (bx b [.slice p n c,.int .i64 en.kind,.string (str en.body),.int .i64 en.line,.int .i64 en.col,.int .i64 0,.int .i64 0,.int .i64 0,.slice none 0 0,.slice none 0 0,.slice none 0 0,.slice none 0 0]) ((As.and (bxs bs) ((As.and (rw' B 81 4 tokC p n c ts) As.emp)))))) w):Mk B W b en ⟨[],[],[]⟩ ⟨ts,[],none⟩ ((As.and (bxs bs) As.emp)) w:=by
  refine Mk.start (p:=p) (n:=n) (c:=c) hg ?_
  exact h.imp ⟨fun w x=>⟨x.1,x.2.2.1,x.2.1,x.2.2.2⟩,fun k=>by simp only [As.and_c,bx_c];omega⟩
theorem Mk.lines (h:Mk B W b en ⟨[],[],[]⟩ ⟨ts,[],none⟩ Z w) (K:Kn B W en) (hl:ts.length≤65536) :
    Calls Tryz.prog 31 #[.pointer (some ⟨b,0,none⟩)] w (fun e w' => e=.returned (.tuple #[])∧Mk B W b en (allLines en ts).1 (allLines en ts).2 Z w') :=
  lines_any (q:=(⟨[],[],[]⟩,⟨ts,[],none⟩)) K (ts.length+1) (Nat.lt_succ_self _) (by show 0+ts.length≤_;omega) (by show 0+0+0+ts.length≤_;omega) h
theorem Mk.settle (h:Mk B W b en (allLines en ts).1 (allLines en ts).2 Z w) (h6:en.kind=6) (hl:ts.length≤65536) :
    Calls Tryz.prog 32 #[.pointer (some ⟨b,0,none⟩)] w (fun e w' => e=.returned (.tuple #[])∧Mk B W b en (allP en ts).1 (wF (allLines en ts).2 (allP en ts).2) Z w'):=by
  obtain ⟨m,em,hP⟩:=h
  obtain ⟨a1,a2,a3,a4⟩:=lines_left h6 65536 (ts.length+1) (⟨[],[],[]⟩,⟨ts,[],none⟩) (Nat.lt_succ_self _) hl (fun f hf=>by cases hf) (fun x hx=>by cases hx)
  have a5:=(lines_inn en (ts.length+1) (⟨[],[],[]⟩,⟨ts,[],none⟩) (fun f hf=>by cases hf)).2
  have ea:iLines en (ts.length+1) (⟨[],[],[]⟩,⟨ts,[],none⟩)=allLines en ts:=rfl
  rw [ea] at a1 a2 a3 a4 a5
  rw [← em] at a2 a3 a4 a5
  have C:=settle_any a1 a5 ⟨fun f hf=>Nat.le_trans (a3 f hf) (by omega),fun x hx=>Nat.le_trans (a4 x hx) (by omega)⟩ (Nat.le_trans a2 (by show 0+0+0+ts.length≤_;omega)) hP
  rw [em] at C
  exact C
end
set_option maxRecDepth 100000 in
set_option maxHeartbeats 4000000 in
theorem Parse_err (s:ByteArray) (hs:s.size<4611686018427387904) (W:World) (hK:Stc W) (ts:List Tok) (hT:Toks s.data.toList ts none) (mm:PMod) (x1 x2 x3:Nat) (hA:allP (endTk s.data.toList) ts=(mm,some ⟨x1,x2,x3⟩)) :
    Calls Tryz.prog 9 #[.string s] W (PsEnds W s.data.toList):=by
  have hlen:ts.length≤65536∧∀ t∈ts,Gt t:=by
    rcases hT with ⟨_,_,h3⟩ | ⟨h1,t,h2,h3⟩
    · cases h3
    · have h9:=(lexed_few h2).1
      rw [h3]
      exact ⟨Nat.le_trans h9 h1,lexed_gt h2 h1⟩
  have h2:=(((St.zero W).imp (As.nob _)).bpush rfl [.slice none 0 0,.slice none 0 0,.slice none 0 0] 26)
  have h3:=h2.bpush (g:=W.heap.size+1) (by simp) [.int .i64 0,.int .i64 0,.int .i64 0] 33
  have hE3:=hK.1.below h3.below (Nat.le_refl _)
  have KK:Kn W.heap.size W (endTk s.data.toList):=⟨hK,Nat.le_refl _,endTk_gt _,rfl⟩
  have CE:=fun w=>endOf_any s hs w
  obtain ⟨n,eN⟩:∃ n,ts.length=n:=⟨_,rfl⟩
  have CT:Calls Tryz.prog 29 #[.string s] _ (fun e w' => ∃ p c,e=.returned (.tuple #[.slice p n c,.agg #[.int .i64 0,.int .i64 0,.int .i64 0]])∧Below ((W.alloc (.cells #[.slice none 0 0,.slice none 0 0,.slice none 0 0] 26)).alloc (.cells #[.int .i64 0,.int .i64 0,.int .i64 0] 33)).heap.size ((W.alloc (.cells #[.slice none 0 0,.slice none 0 0,.slice none 0 0] 26)).alloc (.cells #[.int .i64 0,.int .i64 0,.int .i64 0] 33)) w'∧w'.ownsRow ((W.alloc (.cells #[.slice none 0 0,.slice none 0 0,.slice none 0 0] 26)).alloc (.cells #[.int .i64 0,.int .i64 0,.int .i64 0] 33)).heap.size 81 4 (.slice p n c) n (ts.flatMap tokC)):=(Tokens_any s (by omega) _ hE3).mono fun e w' ⟨ts',f',v,k1,k2,k3,k4⟩=>by
    obtain ⟨e1,e2⟩:=k1.unique hT
    subst e1 e2
    rw [eN] at k4
    obtain ⟨p,c,rfl⟩:=row_slice k4
    exact ⟨p,c,k2,k3,k4⟩
  have hR:=parseP_all (endTk s.data.toList) ts
  have CL:∀ {b:Nat} {Z':As} w1,Mk W.heap.size W b (endTk s.data.toList) ⟨[],[],[]⟩ ⟨ts,[],none⟩ Z' w1→_:=fun {b Z'} w1 h1=>h1.lines KK hlen.1
  have CS:∀ {b:Nat} {Z':As} w1,Mk W.heap.size W b (endTk s.data.toList) (allLines (endTk s.data.toList) ts).1 (allLines (endTk s.data.toList) ts).2 Z' w1→_:=fun {b Z'} w1 h1=>h1.settle rfl hlen.1
  rw [hA] at hR
  simp only [hA] at CS
  clear hA
  have H3:=Lib.hid h3
  obtain ⟨l,el⟩:∃ l,s.data.toList=l:=⟨_,rfl⟩
  simp only [el] at CE CL CS hR hT KK ⊢
  obtain ⟨en,ee⟩:∃ en,endTk l=en:=⟨_,rfl⟩
  simp only [ee] at CE CL CS hR KK
  have HT:=Lib.hid (And.intro hT (And.intro ee (And.intro eN (And.intro hlen.2 hR))))
  clear h2 h3 hE3 hK hT hs KK ee eN hlen hR el
  go_enter Tryz.func9,Tryz.ntmps9
  go_wp2_with (first | ((with_reducible refine CT.mono ?_);rintro e w1 ⟨p,c,rfl,hb,hrow⟩;have h4:=(((St.row (xs:=ts) H3.out hb HT.out.2.2.1.symm hrow).imp ⟨fun w x=>⟨x.2.1,x.1,x.2.2⟩,fun k=>by simp only [As.and_c];omega⟩:St W.heap.size W ((As.and (bxs _) ((As.and (rw' W.heap.size 81 4 tokC p n c ts) As.emp)))) w1)).bpush rfl [.int .i64 0,.int .i64 0,.int .i64 0] 33;have b5:=h4.bget 0 rfl;have y0:=b5.get 0 _ rfl;have y1:=b5.get 1 _ rfl;have y2:=b5.get 2 _ rfl;have gl5:=b5.1;have hsz1:=hb.size;rw [World.size_alloc,World.size_alloc] at hsz1;have H4:=Lib.hid h4;clear h4 b5 hrow hb) | ((with_reducible refine (CE _).mono ?_);rintro e w2 ⟨rfl,hb2⟩;have h5:=(St.later H4.out hb2).push rfl [.slice p n c,.int .i64 en.kind,.string (str en.body),.int .i64 en.line,.int .i64 en.col,.int .i64 0,.int .i64 0,.int .i64 0,.slice none 0 0,.slice none 0 0,.slice none 0 0,.slice none 0 0] 86;have h6:=Mk.start2 (en:=en) HT.out.2.2.2.1 h5;have gl6:=h6.lt) | ((with_reducible refine (CL _ h6).mono ?_);rintro e w3 ⟨rfl,h7⟩;have gl7:=h7.lt) | ((with_reducible refine (CS _ h7).mono ?_);rintro e w4 ⟨rfl,h8⟩;have gl8:=h8.lt;have q5:w4.cell? ⟨w2.heap.size,5,none⟩=some (.int .i64 (x1:Int)):=h8.fcells.1.1;have q6:w4.cell? ⟨w2.heap.size,6,none⟩=some (.int .i64 (x2:Int)):=h8.fcells.1.2.1;have q7:w4.cell? ⟨w2.heap.size,7,none⟩=some (.int .i64 (x3:Int)):=h8.fcells.1.2.2;have hx1:x1≠0:=h8.fcells.2 ⟨x1,x2,x3⟩ rfl;have hz:((x1:Int)==0)=false:=beq_false_of_ne (by omega);have HX:=Lib.hid hx1;clear hx1;have b3:=h8.bget 1 rfl;have b2:=h8.bget 2 rfl;have gl3:=b3.1;have gl2:=b2.1;have f20:=b2.2.1 0;have f21:=b2.2.1 1;have f22:=b2.2.1 2;have f30:=b3.2.1 0;have f31:=b3.2.1 1;have f32:=b3.2.1 2;have u20:=b2.get 0 _ rfl;have u21:=b2.get 1 _ rfl;have u22:=b2.get 2 _ rfl;have u30:=b3.get 0 _ rfl;have u31:=b3.get 1 _ rfl;have u32:=b3.get 2 _ rfl;clear b3 b2;have H8:=Lib.hid h8;clear h8))
  have hsz2:=hb2.size
  rw [World.size_alloc] at hsz2
  have n25:W.heap.size≠w2.heap.size:=by omega
  have n52:w2.heap.size≠W.heap.size:=by omega
  have n35:W.heap.size+1≠w2.heap.size:=by omega
  have n53:w2.heap.size≠W.heap.size+1:=by omega
  go_region
  all_goals
    go_wp2_with fail
    have HB:=H8.out.below
    have hp:parseP en ts=.error ⟨x1,x2,x3⟩:=by
      have h9:=HT.out.2.2.2.2
      cases hq:parseP en ts with
      | ok a=>rw [hq] at h9;cases h9.2
      | error e=>rw [hq] at h9;injection (show some (⟨x1,x2,x3⟩:Flt)=some e from h9) with h9;rw [h9]
    refine bodyPost_ret (v:=.tuple #[.agg #[.slice none 0 0,.slice none 0 0,.slice none 0 0],.agg #[.int .i64 x1,.int .i64 x2,.int .i64 x3]]) (by simp [results,Tryz.results9,go_sem,u20,u21,u22,u30,u31,u32]) rfl ⟨ts,none,HT.out.1,?_,.inl ⟨⟨x1,x2,x3⟩,.inr ⟨rfl,by rw [HT.out.2.1];exact hp⟩,rfl,HX.out⟩⟩
    repeat (first | with_reducible exact HB | with_reducible refine below_drew ?_ | with_reducible refine below_set1 (Nat.le_refl _) ?_ | with_reducible refine below_set1 (Nat.le_succ _) ?_)
set_option maxRecDepth 100000 in
set_option maxHeartbeats 4000000 in
theorem Parse_good (s:ByteArray) (hs:s.size<4611686018427387904) (W:World) (hK:Stc W) (ts:List Tok) (hT:Toks s.data.toList ts none) (mm:PMod) (hA:allP (endTk s.data.toList) ts=(mm,none)) :
    Calls Tryz.prog 9 #[.string s] W (PsEnds W s.data.toList):=by
  have hlen:ts.length≤65536∧∀ t∈ts,Gt t:=by
    rcases hT with ⟨_,_,h3⟩ | ⟨h1,t,h2,h3⟩
    · cases h3
    · have h9:=(lexed_few h2).1
      rw [h3]
      exact ⟨Nat.le_trans h9 h1,lexed_gt h2 h1⟩
  have h2:=(((St.zero W).imp (As.nob _)).bpush rfl [.slice none 0 0,.slice none 0 0,.slice none 0 0] 26)
  have h3:=h2.bpush (g:=W.heap.size+1) (by simp) [.int .i64 0,.int .i64 0,.int .i64 0] 33
  have hE3:=hK.1.below h3.below (Nat.le_refl _)
  have KK:Kn W.heap.size W (endTk s.data.toList):=⟨hK,Nat.le_refl _,endTk_gt _,rfl⟩
  have CE:=fun w=>endOf_any s hs w
  obtain ⟨n,eN⟩:∃ n,ts.length=n:=⟨_,rfl⟩
  have CT:Calls Tryz.prog 29 #[.string s] _ (fun e w' => ∃ p c,e=.returned (.tuple #[.slice p n c,.agg #[.int .i64 0,.int .i64 0,.int .i64 0]])∧Below ((W.alloc (.cells #[.slice none 0 0,.slice none 0 0,.slice none 0 0] 26)).alloc (.cells #[.int .i64 0,.int .i64 0,.int .i64 0] 33)).heap.size ((W.alloc (.cells #[.slice none 0 0,.slice none 0 0,.slice none 0 0] 26)).alloc (.cells #[.int .i64 0,.int .i64 0,.int .i64 0] 33)) w'∧w'.ownsRow ((W.alloc (.cells #[.slice none 0 0,.slice none 0 0,.slice none 0 0] 26)).alloc (.cells #[.int .i64 0,.int .i64 0,.int .i64 0] 33)).heap.size 81 4 (.slice p n c) n (ts.flatMap tokC)):=(Tokens_any s (by omega) _ hE3).mono fun e w' ⟨ts',f',v,k1,k2,k3,k4⟩=>by
    obtain ⟨e1,e2⟩:=k1.unique hT
    subst e1 e2
    rw [eN] at k4
    obtain ⟨p,c,rfl⟩:=row_slice k4
    exact ⟨p,c,k2,k3,k4⟩
  have hR:=parseP_all (endTk s.data.toList) ts
  have CL:∀ {b:Nat} {Z':As} w1,Mk W.heap.size W b (endTk s.data.toList) ⟨[],[],[]⟩ ⟨ts,[],none⟩ Z' w1→_:=fun {b Z'} w1 h1=>h1.lines KK hlen.1
  have CS:∀ {b:Nat} {Z':As} w1,Mk W.heap.size W b (endTk s.data.toList) (allLines (endTk s.data.toList) ts).1 (allLines (endTk s.data.toList) ts).2 Z' w1→_:=fun {b Z'} w1 h1=>h1.settle rfl hlen.1
  rw [hA] at hR
  simp only [hA] at CS
  clear hA
  have H3:=Lib.hid h3
  obtain ⟨l,el⟩:∃ l,s.data.toList=l:=⟨_,rfl⟩
  simp only [el] at CE CL CS hR hT KK ⊢
  obtain ⟨en,ee⟩:∃ en,endTk l=en:=⟨_,rfl⟩
  simp only [ee] at CE CL CS hR KK
  have HT:=Lib.hid (And.intro hT (And.intro ee (And.intro eN (And.intro hlen.2 hR))))
  clear h2 h3 hE3 hK hT hs KK ee eN hlen hR el
  go_enter Tryz.func9,Tryz.ntmps9
  go_wp2_with (first | ((with_reducible refine CT.mono ?_);rintro e w1 ⟨p,c,rfl,hb,hrow⟩;have h4:=(((St.row (xs:=ts) H3.out hb HT.out.2.2.1.symm hrow).imp ⟨fun w x=>⟨x.2.1,x.1,x.2.2⟩,fun k=>by simp only [As.and_c];omega⟩:St W.heap.size W ((As.and (bxs _) ((As.and (rw' W.heap.size 81 4 tokC p n c ts) As.emp)))) w1)).bpush rfl [.int .i64 0,.int .i64 0,.int .i64 0] 33;have b5:=h4.bget 0 rfl;have y0:=b5.get 0 _ rfl;have y1:=b5.get 1 _ rfl;have y2:=b5.get 2 _ rfl;have gl5:=b5.1;have hsz1:=hb.size;rw [World.size_alloc,World.size_alloc] at hsz1;have H4:=Lib.hid h4;clear h4 b5 hrow hb) | ((with_reducible refine (CE _).mono ?_);rintro e w2 ⟨rfl,hb2⟩;have h5:=(St.later H4.out hb2).push rfl [.slice p n c,.int .i64 en.kind,.string (str en.body),.int .i64 en.line,.int .i64 en.col,.int .i64 0,.int .i64 0,.int .i64 0,.slice none 0 0,.slice none 0 0,.slice none 0 0,.slice none 0 0] 86;have h6:=Mk.start2 (en:=en) HT.out.2.2.2.1 h5;have gl6:=h6.lt) | ((with_reducible refine (CL _ h6).mono ?_);rintro e w3 ⟨rfl,h7⟩;have gl7:=h7.lt) | ((with_reducible refine (CS _ h7).mono ?_);rintro e w4 ⟨rfl,h8⟩;have gl8:=h8.lt;have q5:w4.cell? ⟨w2.heap.size,5,none⟩=some (.int .i64 0):=h8.fcells.1.1;have q6:w4.cell? ⟨w2.heap.size,6,none⟩=some (.int .i64 0):=h8.fcells.1.2.1;have q7:w4.cell? ⟨w2.heap.size,7,none⟩=some (.int .i64 0):=h8.fcells.1.2.2;obtain ⟨m,em,hP⟩:=id h8;obtain ⟨q8,q9,q10,_⟩:=Pk.cells hP;have HM:=Lib.hid (And.intro em (show Px _ _ _ _ m _ _ w4 from hP));clear em hP;have b3:=h8.bget 1 rfl;have b2:=h8.bget 2 rfl;have gl3:=b3.1;have gl2:=b2.1;have f20:=b2.2.1 0;have f21:=b2.2.1 1;have f22:=b2.2.1 2;have f30:=b3.2.1 0;have f31:=b3.2.1 1;have f32:=b3.2.1 2;have u20:=b2.get 0 _ rfl;have u21:=b2.get 1 _ rfl;have u22:=b2.get 2 _ rfl;have u30:=b3.get 0 _ rfl;have u31:=b3.get 1 _ rfl;have u32:=b3.get 2 _ rfl;clear b3 b2;clear h8))
  have hsz2:=hb2.size
  rw [World.size_alloc] at hsz2
  have h9:=(((((Px.bput HM.out.2 2 rfl 0 (.slice m.vp m.vn m.vc)).bput 2 rfl 1 (.slice m.xp m.xn m.xc)).bput 2 rfl 2 (.slice m.fp m.fn m.fc)).bput 1 rfl 0 (.int .i64 0)).bput 1 rfl 1 (.int .i64 0)).bput 1 rfl 2 (.int .i64 0)
  have hp:parseP en ts=.ok mm:=by
    have h8:=HT.out.2.2.2.2
    cases hq:parseP en ts with
    | ok a=>rw [hq] at h8;rw [h8.1]
    | error e=>rw [hq] at h8;cases (show (none:Option Flt)=some e from h8)
  have hB:=Pk.below h9
  have hI:=mod_in (Pk.satZ h9).1
  have HF:=Lib.hid (And.intro hB hI)
  clear h9 hB hI
  refine bodyPost_ret (v:=.tuple #[.agg #[.slice m.vp m.vn m.vc,.slice m.xp m.xn m.xc,.slice m.fp m.fn m.fc],.agg #[.int .i64 0,.int .i64 0,.int .i64 0]]) (by simp [results,Tryz.results9,go_sem,u20,u21,u22,u30,u31,u32]) rfl ⟨ts,none,HT.out.1,HF.out.1,.inr ⟨rfl,m,by rw [HT.out.2.1,hp,HM.out.1],rfl,HF.out.2⟩⟩
theorem Parse_any (s:ByteArray) (hs:s.size<4611686018427387904) (W:World) (hK:Stc W):Calls Tryz.prog 9 #[.string s] W (PsEnds W s.data.toList):=by
  obtain ⟨ts,f,hT⟩:∃ ts f,Toks s.data.toList ts f:=by
    obtain ⟨e,w',fr,⟨ts,f,v,h1,_⟩,_⟩:=Tokens_any s (by omega) W hK.1 []
    exact ⟨ts,f,h1⟩
  cases f with
  | some x=>exact Parse_bad s hs W hK.1 ts x hT
  | none =>
    obtain ⟨mm,fo,hA⟩:∃ mm fo,allP (endTk s.data.toList) ts=(mm,fo):=⟨_,_,rfl⟩
    cases fo with
    | none=>exact Parse_good s hs W hK ts hT mm hA
    | some x=>obtain ⟨x1,x2,x3⟩:=x;exact Parse_err s hs W hK ts hT mm x1 x2 x3 hA
end Go.Proofs.YtmmlfmplggbmiaaGreatDoor
namespace Go.Proofs.YtmmlfmplggbmiaaGreatDoor
set_option linter.unusedVariables false
set_option linter.unusedSimpArgs false
def RdS {α:Type} (n:Nat) (p:PM α) (P:List (Nat×Tx)) (N:List Tx) (v:α) (C:List Tok→Prop):Prop :=
  ∀ (pre rest q:List Tok),q.length=n→pre.map KB=P→C rest→∃ nm:List Tok,nm.map Tok.body=N∧p ⟨pre++rest,q⟩=.ok (v,⟨rest,q++nm⟩)
theorem bind_ok {α β:Type} {p:PM α} {g:α→PM β} {s s1:PS} {a:α} (h:p s=.ok (a,s1)):(p >>= g) s=g a s1:=by
  show (p s >>= fun x=>g x.1 x.2)=_
  rw [h]
  rfl
section
variable {α β:Type}
theorem RdS.pure (n:Nat) (v:α) (C:List Tok→Prop):RdS n (Pure.pure v:PM α) [] [] v C:=fun pre rest q _ hp _=>by
  obtain rfl:=List.map_eq_nil_iff.1 hp
  exact ⟨[],rfl,by rw [List.append_nil];rfl⟩
theorem RdS.bind {n:Nat} {p:PM α} {g:α→PM β} {P Q:List (Nat×Tx)} {N M:List Tx} {v:α} {w:β} {C D:List Tok→Prop} (h:RdS n p P N v C) (k:RdS (n+N.length) (g v) Q M w D)
    (hc:∀ post rest,post.map KB=Q→D rest→C (post++rest)):RdS n (p >>= g) (P++Q) (N++M) w D:=fun pre rest q hq hp hd=>by
  obtain ⟨p1,p2,rfl,h1,h2⟩:=List.map_eq_append_iff.1 hp
  obtain ⟨n1,e1,f1⟩:=h p1 (p2++rest) q hq h1 (hc p2 rest h2 hd)
  have hl:n1.length=N.length:=by rw [← e1,List.length_map]
  obtain ⟨n2,e2,f2⟩:=k p2 rest (q++n1) (by rw [List.length_append,hq,hl]) h2 hd
  refine ⟨n1++n2,by rw [List.map_append,e1,e2],?_⟩
  show (p _ >>= fun x=>g x.1 x.2)=_
  rw [List.append_assoc,f1]
  show g v _=_
  rw [f2,List.append_assoc]
end
theorem one_piece {pre:List Tok} {k:Nat} {b:Tx} (h:pre.map KB=[(k,b)]):∃ line col,pre=[⟨k,b,line,col⟩]:=by
  obtain ⟨t,rfl,e⟩:=List.map_eq_singleton_iff.1 h
  obtain ⟨k',b',line,col⟩:=t
  injection e with e1 e2
  simp only at e1 e2
  subst e1 e2
  exact ⟨line,col,rfl⟩
theorem isTk_self (k:Nat) (b:Tx) (line col:Nat):isTk k b ⟨k,b,line,col⟩=true:=by simp [isTk]
section
variable {en:Tok} {n:Nat} {C:List Tok→Prop}
theorem RdS.this (k:Nat) (b:Tx):RdS n (qThis en k b) [(k,b)] [] () C:=fun pre rest q _ hp _=>by
  obtain ⟨line,col,rfl⟩:=one_piece hp
  refine ⟨[],rfl,?_⟩
  show (if isTk k b ⟨k,b,line,col⟩ then qPass else qBad 3 ⟨k,b,line,col⟩) _=_
  rw [isTk_self,if_pos rfl,List.append_nil]
  rfl
theorem RdS.lineEnd:RdS n (qLineEnd en) [(6,[])] [] () C:=fun pre rest q _ hp _=>by
  obtain ⟨line,col,rfl⟩:=one_piece hp
  exact ⟨[],rfl,by rw [List.append_nil];rfl⟩
theorem RdS.type {t:Int} (h:tyB t=true):RdS n (qType en) [(1,typeT t)] [] t C:=fun pre rest q _ hp _=>by
  obtain ⟨line,col,rfl⟩:=one_piece hp
  have ht:=of_decide_eq_true h
  refine ⟨[],rfl,?_⟩
  unfold qType
  rw [bind_ok (p:=qWant en 1) (a:=Tok.mk 1 (typeT t) line col) (s1:=PS.mk rest q) rfl]
  dsimp only
  rw [typeOf_type h,List.append_nil]
  show Except.ok (((t.toNat:Nat):Int),PS.mk rest q)=_
  rw [Int.toNat_of_nonneg ht.1]
theorem RdS.block {b:Int} (h:0≤b∧b≤999):RdS n (qBlock en) [(1,blockT b)] [] b C:=fun pre rest q _ hp _=>by
  obtain ⟨line,col,rfl⟩:=one_piece hp
  refine ⟨[],rfl,?_⟩
  unfold qBlock
  rw [bind_ok (p:=qNext en) (a:=Tok.mk 1 (blockT b) line col) (s1:=PS.mk ([Tok.mk 1 (blockT b) line col]++rest) q) rfl]
  rw [blockOf_block h,List.append_nil]
  show Except.ok (((b.toNat:Nat):Int),PS.mk rest q)=_
  rw [Int.toNat_of_nonneg h.1]
def argV (n:Nat) (a:Arg):Arg:=if a.kind=5 then ⟨5,n,0⟩ else a
def argN (gs:List PVar) (a:Arg):List Tx:=if a.kind=5 then [match gs[a.n.toNat]? with | some g=>byt g.nm | none=>[]] else []
theorem RdS.operand {m:PMod} {a:Arg} (h:argB m a=true) (hb:0≤a.bits∧a.bits<18446744073709551616):RdS n (qOperand en) (argP m.vs a) (argN m.vs a) (argV n a) C:=fun pre rest q hq hp _=>by
  obtain ⟨kd,an,bits⟩:=a
  unfold argB at h
  unfold argP at hp
  unfold argN argV
  simp only at h hp hb ⊢
  by_cases k1:kd=1
  · subst k1
    rw [if_pos rfl,Bool.and_eq_true,decide_eq_true_eq] at h
    have h1:=of_decide_eq_true h.1
    obtain ⟨line,col,rfl⟩:=one_piece hp
    refine ⟨[],rfl,?_⟩
    rw [List.append_nil]
    show Except.ok ((⟨1,(numOf ⟨3,decI an,line,col⟩:Int),0⟩:Arg),_)=_
    rw [show numOf ⟨3,decI an,line,col⟩=an.toNat from numOf_dec (by omega) _ _,Int.toNat_of_nonneg h1.1,h.2]
    rfl
  rw [if_neg k1] at h hp
  by_cases k2:kd=2
  · subst k2
    rw [if_pos rfl] at h
    have h1:=of_decide_eq_true h
    obtain ⟨line,col,rfl⟩:=one_piece hp
    refine ⟨[],rfl,?_⟩
    rw [List.append_nil]
    show Except.ok ((⟨2,0,(numOf ⟨2,decI bits,line,col⟩:Int)⟩:Arg),_)=_
    rw [show numOf ⟨2,decI bits,line,col⟩=bits.toNat from numOf_dec (by omega) _ _,Int.toNat_of_nonneg hb.1,h1]
    rfl
  rw [if_neg k2] at h hp
  by_cases k3:kd=3
  · subst k3
    rw [if_pos (.inl rfl)] at h
    have h1:=of_decide_eq_true h
    obtain ⟨line,col,rfl⟩:=one_piece hp
    refine ⟨[],rfl,?_⟩
    rw [List.append_nil,h1.1,h1.2]
    rfl
  rw [if_neg k3] at hp
  by_cases k4:kd=4
  · subst k4
    rw [if_pos (.inr rfl)] at h
    have h1:=of_decide_eq_true h
    obtain ⟨line,col,rfl⟩:=one_piece hp
    refine ⟨[],rfl,?_⟩
    rw [List.append_nil,h1.1,h1.2]
    rfl
  rw [if_neg k4] at hp
  rw [if_neg (fun k=>k.elim k3 k4)] at h
  by_cases k5:kd=5
  · subst k5
    obtain ⟨line,col,rfl⟩:=one_piece hp
    rw [if_pos rfl,if_pos rfl]
    refine ⟨[⟨4,match m.vs[an.toNat]? with | some g=>byt g.nm | none=>[],line,col⟩],rfl,?_⟩
    rw [← hq]
    rfl
  · rw [if_neg k5] at h
    cases h
end
def valsV {α β:Type} (V:Nat→α→β) (Nf:α→List Tx):Nat→List α→List β
  | _,[]=>[]
  | n,x::l=>V n x::valsV V Nf (n+(Nf x).length) l
theorem RdS.to {α:Type} {n:Nat} {p:PM α} {P Q:List (Nat×Tx)} {N M:List Tx} {v w:α} {C:List Tok→Prop} (h:RdS n p P N v C) (e1:P=Q) (e2:N=M) (e3:v=w):RdS n p Q M w C:=by subst e1 e2 e3;exact h
theorem RdS.operands {en:Tok} {m:PMod}:∀ (l:List Arg) {n:Nat} {C:List Tok→Prop},(∀ a∈l,argB m a=true∧0≤a.bits∧a.bits<18446744073709551616) →
    RdS n (qOperands en l.length) (sepP (l.map (argP m.vs))) (l.flatMap (argN m.vs)) (valsV argV (argN m.vs) n l) C
  | [],n,C,h=>RdS.pure n [] C
  | [a],n,C,h=>by
    have ha:=h a (by simp)
    exact (RdS.bind (C:=fun _=>True) (RdS.operand ha.1 ha.2) (RdS.pure _ [argV n a] C) (fun _ _ _ _=>trivial)).to (by simp [sepP]) (by simp) rfl
  | a :: b::l,n,C,h=>by
    have ha:=h a (by simp)
    have ih:=RdS.operands (en:=en) (b::l) (n:=n+(argN m.vs a).length) (C:=C) (fun x hx=>h x (List.mem_cons_of_mem _ hx))
    have h3:=RdS.bind (C:=C) (D:=C) (g:=fun r=>(Pure.pure (argV n a::r):PM (List Arg))) ih (RdS.pure _ (argV n a::valsV argV (argN m.vs) (n+(argN m.vs a).length) (b::l)) C) (fun post rest hp hc=>by
      obtain rfl:=List.map_eq_nil_iff.1 hp
      exact hc)
    have h2:=RdS.bind (C:=fun _=>True) (g:=fun _=>(do let r ← qOperands en (b::l).length;return argV n a::r:PM (List Arg))) (RdS.this (en:=en) (n:=n+(argN m.vs a).length) 5 [44]) h3 (fun _ _ _ _=>trivial)
    have h1:=RdS.bind (C:=fun _=>True) (g:=fun y=>(do qThis en 5 [44];let r ← qOperands en (b::l).length;return y::r:PM (List Arg))) (RdS.operand (en:=en) (n:=n) ha.1 ha.2) h2 (fun _ _ _ _=>trivial)
    exact h1.to (by simp [sepP]) (by simp) rfl
def NC (en:Tok) (rest:List Tok):Prop:=isTk 5 [44] (rest.head?.getD en)=false
theorem RdS.more {α β:Type} {en:Tok} {item:List β→PM β} {Pf:α→List (Nat×Tx)} {Nf:α→List Tx} {V:Nat→α→β} :
    ∀ (l:List α) (k:Nat) (acc:List β) (n:Nat),l.length≤k→(∀ x∈l,∀ acc n,RdS n (item acc) (Pf x) (Nf x) (V n x) (fun _=>True)) →
      RdS n (qMore en item k acc) (l.flatMap fun x=>(5,[44])::Pf x) (l.flatMap Nf) (acc++valsV V Nf n l) (NC en)
  | [],0,acc,n,_,h=>(RdS.pure n acc _).to rfl rfl (by simp [valsV])
  | [],k+1,acc,n,_,h=>fun pre rest q hq hp hc=>by
    obtain rfl:=List.map_eq_nil_iff.1 hp
    refine ⟨[],rfl,?_⟩
    unfold qMore
    have e:qPassed en 5 [44] (PS.mk ([]++rest) q)=.ok (false,PS.mk rest q):=by
      unfold qPassed
      rw [bind_ok (p:=qNext en) (a:=rest.head?.getD en) (s1:=PS.mk rest q) rfl]
      rw [show isTk 5 [44] (rest.head?.getD en)=false from hc]
      rfl
    rw [bind_ok e]
    simp [valsV]
    rfl
  | x::l,0,acc,n,hk,h=>by simp at hk
  | x :: l,k+1,acc,n,hk,h=>by
    have ih:=RdS.more (en:=en) (item:=item) l k (acc++[V n x]) (n+(Nf x).length) (by simpa using hk) (fun y hy=>h y (List.mem_cons_of_mem _ hy))
    have h1:=RdS.bind (g:=fun y=>qMore en item k (acc++[y])) (h x (by simp) acc n) ih (fun _ _ _ _=>trivial)
    intro pre rest q hq hp hc
    rw [List.flatMap_cons,List.cons_append] at hp
    obtain ⟨t,tl,rfl,ht,htl⟩:=List.map_eq_cons_iff.1 hp
    obtain ⟨k',b',line,col⟩:=t
    injection ht with e1 e2
    simp only at e1 e2
    subst e1 e2
    obtain ⟨nm,e3,e4⟩:=h1 tl rest q hq htl hc
    refine ⟨nm,by rw [e3,List.flatMap_cons],?_⟩
    unfold qMore
    have e:qPassed en 5 [44] (PS.mk ((⟨5,[44],line,col⟩::tl)++rest) q)=.ok (true,PS.mk (tl++rest) q):=by
      unfold qPassed
      rw [bind_ok (p:=qNext en) (a:=Tok.mk 5 [44] line col) (s1:=PS.mk ((⟨5,[44],line,col⟩::tl)++rest) q) rfl]
      rw [isTk_self]
      rfl
    rw [bind_ok e,if_pos rfl]
    refine e4.trans ?_
    simp [valsV]
def NT (en:Tok) (k:Nat) (b:Tx) (rest:List Tok):Prop:=isTk k b (rest.head?.getD en)=false
theorem nt_of {en:Tok} {k k':Nat} {b b':Tx} {Q:List (Nat×Tx)} {post rest:List Tok} (h:post.map KB=(k',b')::Q) (hk:(k' == k&&b' == b)=false):NT en k b (post++rest):=by
  obtain ⟨t,tl,rfl,ht,_⟩:=List.map_eq_cons_iff.1 h
  obtain ⟨k2,b2,line,col⟩:=t
  injection ht with e1 e2
  simp only at e1 e2
  subst e1 e2
  exact hk
theorem RdS.passed {en:Tok} {n:Nat} {C:List Tok→Prop} (k:Nat) (b:Tx):RdS n (qPassed en k b) [(k,b)] [] true C:=fun pre rest q _ hp _=>by
  obtain ⟨line,col,rfl⟩:=one_piece hp
  refine ⟨[],rfl,?_⟩
  unfold qPassed
  rw [bind_ok (p:=qNext en) (a:=Tok.mk k b line col) (s1:=PS.mk ([Tok.mk k b line col]++rest) q) rfl,isTk_self,List.append_nil]
  rfl
theorem RdS.notPassed {en:Tok} {n:Nat} (k:Nat) (b:Tx):RdS n (qPassed en k b) [] [] false (NT en k b):=fun pre rest q _ hp hc=>by
  obtain rfl:=List.map_eq_nil_iff.1 hp
  refine ⟨[],rfl,?_⟩
  unfold qPassed
  rw [bind_ok (p:=qNext en) (a:=rest.head?.getD en) (s1:=PS.mk rest q) rfl]
  rw [show isTk k b (rest.head?.getD en)=false from hc,List.append_nil]
  rfl
section
variable {α β:Type} {en:Tok} {item:List β→PM β} {Pf:α→List (Nat×Tx)} {Nf:α→List Tx} {V:Nat→α→β}
theorem sepP_cons (x:α) (l:List α):sepP ((x::l).map Pf)=Pf x++l.flatMap fun y=>(5,[44])::Pf y:=by
  induction l generalizing x with
  | nil=>simp [sepP]
  | cons y l ih =>
    have:=ih y
    rw [List.map_cons] at this ⊢
    rw [List.map_cons]
    unfold sepP
    rw [this]
    simp
theorem RdS.commas (x:α) (l:List α) (n:Nat) (hP:∀ y∈l,Pf y≠[]) (h:∀ y∈x::l,∀ acc n,RdS n (item acc) (Pf y) (Nf y) (V n y) (fun _=>True)) :
    RdS n (qCommas en item) (sepP ((x::l).map Pf)) ((x::l).flatMap Nf) (valsV V Nf n (x::l)) (NC en):=by
  rw [sepP_cons]
  intro pre rest q hq hp hc
  obtain ⟨p1,p2,rfl,h1,h2⟩:=List.map_eq_append_iff.1 hp
  obtain ⟨n1,e1,f1⟩:=h x (by simp) [] n p1 (p2++rest) q hq h1 trivial
  have hl:n1.length=(Nf x).length:=by rw [← e1,List.length_map]
  have hlen:l.length≤(p2++rest).length+1:=by
    have h3:p2.length=(l.flatMap fun y=>((5,[44]):Nat×Tx)::Pf y).length:=by rw [← h2,List.length_map]
    have h4:∀ l:List α,l.length≤(l.flatMap fun y=>((5,[44]):Nat×Tx)::Pf y).length:=fun l=>by
      induction l with
      | nil=>simp
      | cons y l ih=>rw [List.flatMap_cons,List.length_append];simp only [List.length_cons];omega
    have:=h4 l
    rw [List.length_append]
    omega
  obtain ⟨n2,e2,f2⟩:=RdS.more (en:=en) (item:=item) l ((p2++rest).length+1) [V n x] (n+(Nf x).length) hlen (fun y hy=>h y (List.mem_cons_of_mem _ hy)) p2 rest (q++n1) (by rw [List.length_append,hq,hl]) h2 hc
  refine ⟨n1++n2,by rw [List.map_append,e1,e2,List.flatMap_cons],?_⟩
  unfold qCommas
  rw [List.append_assoc,bind_ok f1]
  show qMore en item ((p2++rest).length+1) [V n x] (PS.mk (p2++rest) (q++n1))=_
  rw [f2,List.append_assoc]
  rfl
def brRest (en:Tok) (item:List β→PM β) (b:Bool):PM (List β):=if b=true then Pure.pure [] else qCommas en item >>= fun l=>qThis en 5 [41] >>= fun _=>Pure.pure l
theorem RdS.brackets (l:List α) (n:Nat) {C:List Tok→Prop} (hP:∀ y∈l,∃ k b Q,Pf y=(k,b)::Q∧k≠5) (h:∀ y∈l,∀ acc n,RdS n (item acc) (Pf y) (Nf y) (V n y) (fun _=>True)) :
    RdS n (qBrackets en item) ((5,[40])::(sepP (l.map Pf)++[(5,[41])])) (l.flatMap Nf) (valsV V Nf n l) C:=by
  cases l with
  | nil =>
    have h2:=RdS.bind (C:=fun _=>True) (D:=C) (g:=brRest en item) (RdS.passed (en:=en) (n:=n) 5 [41]) ((RdS.pure n [] C).to (w:=[]) rfl rfl rfl) (fun _ _ _ _=>trivial)
    have h1:=RdS.bind (C:=fun _=>True) (D:=C) (g:=fun _=>qPassed en 5 [41] >>= brRest en item) (RdS.this (en:=en) (n:=n) 5 [40]) h2 (fun _ _ _ _=>trivial)
    exact h1.to (by simp [sepP]) (by simp) rfl
  | cons x l =>
    have h4:=RdS.bind (C:=fun _=>True) (D:=C) (g:=fun _=>(Pure.pure (valsV V Nf n (x::l)):PM (List β))) (RdS.this (en:=en) (n:=n+((x::l).flatMap Nf).length) 5 [41]) (RdS.pure _ _ C) (fun _ _ _ _=>trivial)
    have h3:=RdS.bind (D:=C) (g:=fun l=>qThis en 5 [41] >>= fun _=>(Pure.pure l:PM (List β))) (RdS.commas (en:=en) (item:=item) (V:=V) x l n (fun y hy e=>by obtain ⟨k,b,Q,e2,_⟩:=hP y (List.mem_cons_of_mem _ hy);rw [e2] at e;cases e) h) h4 (fun post rest hp _=>nt_of (k':=5) (b':=[41]) hp (by decide))
    have h2:=RdS.bind (D:=C) (g:=brRest en item) (RdS.notPassed (en:=en) (n:=n) 5 [41]) h3 (fun post rest hp _=>by
      obtain ⟨k,b,Q,e2,hk⟩:=hP x (by simp)
      rw [sepP_cons,e2] at hp
      exact nt_of (by simpa using hp) (by rw [show (k==5)=false from by simpa using hk];rfl))
    have h1:=RdS.bind (C:=fun _=>True) (D:=C) (g:=fun _=>qPassed en 5 [41] >>= brRest en item) (RdS.this (en:=en) (n:=n) 5 [40]) h2 (fun _ _ _ _=>trivial)
    exact h1.to (by simp) (by simp) rfl
end
theorem nt_list {en:Tok} {k:Nat} {b:Tx} {L:List (Nat×Tx)} {post rest:List Tok} (hL:∀ y∈L,(y.1==k&&y.2==b)=false) (h:post.map KB=L) (hr:NT en k b rest):NT en k b (post++rest):=by
  cases post with
  | nil=>exact hr
  | cons t tl =>
    subst h
    exact hL (KB t) (by simp)
theorem RdS.opt {en:Tok} {n:Nat} (c:Prop) [Decidable c] (k:Nat) (b:Tx):RdS n (qPassed en k b) (if c then [(k,b)] else []) [] (decide c) (NT en k b):=by
  by_cases h:c
  · rw [if_pos h,decide_eq_true h];exact RdS.passed k b
  · rw [if_neg h,decide_eq_false h];exact RdS.notPassed k b
def NF (en:Tok) (rest:List Tok):Prop:=NT en 1 [110,115,119] rest∧NT en 1 [110,117,119] rest∧NT en 1 [101,120,97,99,116] rest
theorem flags_sum {fl:Int} (h:0≤fl∧fl≤7):(if decide (fl % 2=1)=true then (1:Int) else 0)+(if decide (fl / 2 % 2=1)=true then 2 else 0)+(if decide (fl / 4=1)=true then 4 else 0)=fl:=by
  have:∀ k:Fin 8,(if decide ((k.val:Int) % 2=1)=true then (1:Int) else 0)+(if decide ((k.val:Int) / 2 % 2=1)=true then 2 else 0)+(if decide ((k.val:Int) / 4=1)=true then 4 else 0)=k.val:=by decide
  obtain ⟨k,rfl⟩:∃ k:Nat,fl=(k:Int):=⟨fl.toNat,by omega⟩
  exact this ⟨k,by omega⟩
theorem RdS.flags {en:Tok} {n:Nat} {fl:Int} (h:0≤fl∧fl≤7):RdS n (qFlags en) (flagsQ fl) [] fl (NF en):=by
  have h3:=RdS.bind (D:=NF en) (g:=fun c=>(Pure.pure ((if decide (fl % 2=1)=true then (1:Int) else 0)+(if decide (fl / 2 % 2=1)=true then 2 else 0)+(if c=true then 4 else 0)):PM Int)) (RdS.opt (en:=en) (n:=n) (fl / 4=1) 1 [101,120,97,99,116]) (RdS.pure n _ (NF en)) (fun post rest hp hd=>nt_list (by simp) hp hd.2.2)
  have h2:=RdS.bind (D:=NF en) (g:=fun b=>qPassed en 1 [101,120,97,99,116] >>= fun c=>(Pure.pure ((if decide (fl % 2=1)=true then (1:Int) else 0)+(if b=true then 2 else 0)+(if c=true then 4 else 0)):PM Int)) (RdS.opt (en:=en) (n:=n) (fl / 2 % 2=1) 1 [110,117,119]) h3
    (fun post rest hp hd=>nt_list (fun y hy=>by split at hy <;> simp_all) hp hd.2.1)
  have h1:=RdS.bind (D:=NF en) (g:=fun a=>qPassed en 1 [110,117,119] >>= fun b=>qPassed en 1 [101,120,97,99,116] >>= fun c=>(Pure.pure ((if a=true then (1:Int) else 0)+(if b=true then 2 else 0)+(if c=true then 4 else 0)):PM Int)) (RdS.opt (en:=en) (n:=n) (fl % 2=1) 1 [110,115,119]) h2
    (fun post rest hp hd=>nt_list (fun y hy=>by
      rcases List.mem_append.1 hy with hy | hy
      · split at hy <;> simp_all
      · rcases List.mem_append.1 hy with hy | hy
        · split at hy <;> simp_all
        · simp at hy) hp hd.1)
  refine h1.to ?_ rfl (flags_sum h)
  unfold flagsQ
  simp [List.append_assoc]
theorem RdS.typed {en:Tok} {m:PMod} {n:Nat} {C:List Tok→Prop} {y:PIns} {t:Int} {l:List Arg} (ht:tyB t=true) (h:∀ a∈l,argB m a=true∧0≤a.bits∧a.bits<18446744073709551616) :
    RdS n (qTyped en y l.length) ((1,typeT t)::sepP (l.map (argP m.vs))) (l.flatMap (argN m.vs)) { y with ty:=t,args:=valsV argV (argN m.vs) n l } C:=by
  have h2:=RdS.bind (C:=fun _=>True) (D:=C) (g:=fun r=>(Pure.pure { y with ty:=t,args:=r }:PM PIns)) (RdS.operands (en:=en) (m:=m) l (n:=n) h) (RdS.pure _ _ C) (fun _ _ _ _=>trivial)
  have h1:=RdS.bind (C:=fun _=>True) (D:=C) (g:=fun t=>qOperands en l.length >>= fun r=>(Pure.pure { y with ty:=t,args:=r }:PM PIns)) (RdS.type (en:=en) (n:=n) ht) h2 (fun _ _ _ _=>trivial)
  exact h1.to (by simp) (by simp) rfl
def LE (rest:List Tok):Prop:=∃ line col tl,rest=⟨6,[],line,col⟩::tl
theorem LE.nc {en:Tok} {rest:List Tok} (h:LE rest):NC en rest:=by
  obtain ⟨line,col,tl,rfl⟩:=h
  rfl
def insN (m:PMod) (x:PIns):List Tx:=(if x.op=30 then [calT m.xs m.fs x.n] else [])++x.args.flatMap (argN m.vs)
def insV (n:Nat) (m:PMod) (x:PIns):PIns :=
  if x.op=30 then { x with ty:=0,n:=n,args:=valsV argV (argN m.vs) (n+1) x.args } else { x with args:=valsV argV (argN m.vs) n x.args }
section
variable {α β:Type}
theorem RdS.bindT {n:Nat} {p:PM α} {g:α→PM β} {P Q:List (Nat×Tx)} {N M:List Tx} {v:α} {w:β} {D:List Tok→Prop} (h:RdS n p P N v (fun _=>True)) (k:RdS (n+N.length) (g v) Q M w D):RdS n (p >>= g) (P++Q) (N++M) w D :=
  h.bind k (fun _ _ _ _=>trivial)
end
theorem flagsQ_zero:flagsQ 0=[]:=rfl
theorem RdS.size {en:Tok} {n:Nat} {C:List Tok→Prop} {k:Int} (h:1≤k∧k≤64):RdS n (qSize en) [(2,decI k)] [] k C:=fun pre rest q _ hp _=>by
  obtain ⟨line,col,rfl⟩:=one_piece hp
  refine ⟨[],rfl,?_⟩
  unfold qSize
  rw [bind_ok (p:=qWant en 2) (a:=Tok.mk 2 (decI k) line col) (s1:=PS.mk rest q) rfl]
  have e:numOf (Tok.mk 2 (decI k) line col)=k.toNat:=numOf_dec (by omega) _ _
  rw [e,if_neg (by omega),List.append_nil]
  show Except.ok (((k.toNat:Nat):Int),PS.mk rest q)=_
  rw [Int.toNat_of_nonneg (by omega)]
theorem RdS.callee {en:Tok} {n:Nat} {C:List Tok→Prop} {w:Tx} {β:Type} {g:Int→PM β} {Q:List (Nat×Tx)} {M:List Tx} {v:β} (k:RdS (n+1) (g n) Q M v C) :
    RdS n (qWant en 1 >>= fun t=>qAsk t >>= g) ((1,w)::Q) (w::M) v C:=fun pre rest q hq hp hc=>by
  obtain ⟨t,tl,rfl,ht,htl⟩:=List.map_eq_cons_iff.1 hp
  obtain ⟨k',b',line,col⟩:=t
  injection ht with e1 e2
  simp only at e1 e2
  subst e1 e2
  obtain ⟨nm,e3,e4⟩:=k tl rest (q++[⟨1,b',line,col⟩]) (by simp [hq]) htl hc
  refine ⟨⟨1,b',line,col⟩::nm,by rw [List.map_cons,e3],?_⟩
  rw [bind_ok (p:=qWant en 1) (a:=Tok.mk 1 b' line col) (s1:=PS.mk (tl++rest) q) rfl]
  rw [bind_ok (p:=qAsk (Tok.mk 1 b' line col)) (a:=(q.length:Int)) (s1:=PS.mk (tl++rest) (q++[⟨1,b',line,col⟩])) rfl]
  rw [hq,e4,List.append_assoc]
  rfl
theorem argP_head (gs:List PVar) (a:Arg):∃ k b Q,argP gs a=(k,b)::Q∧k≠5:=by
  unfold argP
  split
  · exact ⟨_,_,_,rfl,by decide⟩
  split
  · exact ⟨_,_,_,rfl,by decide⟩
  split
  · exact ⟨_,_,_,rfl,by decide⟩
  split
  · exact ⟨_,_,_,rfl,by decide⟩
  · exact ⟨_,_,_,rfl,by decide⟩
theorem RdS.call {en:Tok} {m:PMod} {n:Nat} {C:List Tok→Prop} {y:PIns} {w:Tx} {l:List Arg} (h:∀ a∈l,argB m a=true∧0≤a.bits∧a.bits<18446744073709551616) :
    RdS n (qWant en 1 >>= fun t=>qAsk t >>= fun k=>qBrackets en (fun _=>qOperand en) >>= fun l=>(Pure.pure { y with n:=k,args:=l }:PM PIns))
      ((1,w)::(5,[40])::(sepP (l.map (argP m.vs))++[(5,[41])])) (w::l.flatMap (argN m.vs)) { y with n:=n,args:=valsV argV (argN m.vs) (n+1) l } C:=by
  refine RdS.callee ?_
  have h1:=RdS.bindT (D:=C) (g:=fun l=>(Pure.pure { y with n:=(n:Int),args:=l }:PM PIns)) (RdS.brackets (en:=en) (item:=fun _=>qOperand en) (Pf:=argP m.vs) (Nf:=argN m.vs) (V:=argV) l (n+1) (fun a _=>argP_head m.vs a) (fun a ha acc n=>RdS.operand (h a ha).1 (h a ha).2)) (RdS.pure _ _ C)
  exact h1.to (by simp) (by simp) rfl
theorem RdS.conv {en:Tok} {m:PMod} {n:Nat} {C:List Tok→Prop} {y:PIns} {t u:Int} {a:Arg} (ht:tyB t=true) (hu:tyB u=true) (h:argB m a=true∧0≤a.bits∧a.bits<18446744073709551616) :
    RdS n (qType en >>= fun k=>qOperand en >>= fun a=>qThis en 1 [116,111] >>= fun _=>qType en >>= fun t=>(Pure.pure { y with n:=k,args:=[a],ty:=t }:PM PIns))
      ((1,typeT t)::(argP m.vs a++[(1,[116,111]),(1,typeT u)])) (argN m.vs a) { y with n:=t,args:=[argV n a],ty:=u } C:=by
  have h4:=RdS.bindT (D:=C) (g:=fun u=>(Pure.pure { y with n:=t,args:=[argV n a],ty:=u }:PM PIns)) (RdS.type (en:=en) (n:=n+(argN m.vs a).length) hu) (RdS.pure _ _ C)
  have h3:=RdS.bindT (D:=C) (g:=fun _=>qType en >>= fun u=>(Pure.pure { y with n:=t,args:=[argV n a],ty:=u }:PM PIns)) (RdS.this (en:=en) (n:=n+(argN m.vs a).length) 1 [116,111]) h4
  have h2:=RdS.bindT (D:=C) (g:=fun a=>qThis en 1 [116,111] >>= fun _=>qType en >>= fun u=>(Pure.pure { y with n:=t,args:=[a],ty:=u }:PM PIns)) (RdS.operand (en:=en) (n:=n) h.1 h.2) h3
  have h1:=RdS.bindT (D:=C) (g:=fun k=>qOperand en >>= fun a=>qThis en 1 [116,111] >>= fun _=>qType en >>= fun u=>(Pure.pure { y with n:=k,args:=[a],ty:=u }:PM PIns)) (RdS.type (en:=en) (n:=n) ht) h2
  exact h1.to (by simp) (by simp) rfl
theorem RdS.briff {en:Tok} {m:PMod} {n:Nat} {C:List Tok→Prop} {y:PIns} {b c:Int} {a:Arg} (hb:0≤b∧b≤999) (hc:0≤c∧c≤999) (h:argB m a=true∧0≤a.bits∧a.bits<18446744073709551616) :
    RdS n (qOperand en >>= fun a=>qMark en 44 >>= fun _=>qBlock en >>= fun b=>qMark en 44 >>= fun _=>qBlock en >>= fun c=>(Pure.pure { y with args:=[a],tg:=[b,c] }:PM PIns))
      (sepP [argP m.vs a,[(1,blockT b)],[(1,blockT c)]]) (argN m.vs a) { y with args:=[argV n a],tg:=[b,c] } C:=by
  have h5:=RdS.bindT (D:=C) (g:=fun c=>(Pure.pure { y with args:=[argV n a],tg:=[b,c] }:PM PIns)) (RdS.block (en:=en) (n:=n+(argN m.vs a).length) hc) (RdS.pure _ _ C)
  have h4:=RdS.bindT (D:=C) (g:=fun _=>qBlock en >>= fun c=>(Pure.pure { y with args:=[argV n a],tg:=[b,c] }:PM PIns)) (RdS.this (en:=en) (n:=n+(argN m.vs a).length) 5 [44]) h5
  have h3:=RdS.bindT (D:=C) (g:=fun b=>qThis en 5 [44] >>= fun _=>qBlock en >>= fun c=>(Pure.pure { y with args:=[argV n a],tg:=[b,c] }:PM PIns)) (RdS.block (en:=en) (n:=n+(argN m.vs a).length) hb) h4
  have h2:=RdS.bindT (D:=C) (g:=fun _=>qBlock en >>= fun b=>qThis en 5 [44] >>= fun _=>qBlock en >>= fun c=>(Pure.pure { y with args:=[argV n a],tg:=[b,c] }:PM PIns)) (RdS.this (en:=en) (n:=n+(argN m.vs a).length) 5 [44]) h3
  have h1:=RdS.bindT (D:=C) (g:=fun a=>qThis en 5 [44] >>= fun _=>qBlock en >>= fun b=>qThis en 5 [44] >>= fun _=>qBlock en >>= fun c=>(Pure.pure { y with args:=[a],tg:=[b,c] }:PM PIns)) (RdS.operand (en:=en) (n:=n) h.1 h.2) h2
  exact h1.to (by simp [sepP]) (by simp) rfl
theorem RdS.pairs {en:Tok} {m:PMod} {n:Nat} {y:PIns} (p:Int×Arg) (l:List (Int×Arg)) (hb:∀ q∈p::l,0≤q.1∧q.1≤999) (h:∀ q∈p::l,argB m q.2=true∧0≤q.2.bits∧q.2.bits<18446744073709551616) :
    RdS n (qCommas en (fun _=>qBlock en >>= fun b=>qOperand en >>= fun a=>(Pure.pure (b,a):PM (Int×Arg)))) (sepP ((p::l).map (pairP m.vs))) ((p::l).flatMap fun q=>argN m.vs q.2)
      (valsV (fun n (q:Int×Arg)=>(q.1,argV n q.2)) (fun q=>argN m.vs q.2) n (p::l)) (NC en):=by
  refine RdS.commas (Pf:=pairP m.vs) (Nf:=fun q=>argN m.vs q.2) p l n (fun q _=>by unfold pairP;simp) (fun q hq acc n=>?_)
  have h2:=RdS.bindT (D:=fun _=>True) (g:=fun a=>(Pure.pure (q.1,a):PM (Int×Arg))) (RdS.operand (en:=en) (n:=n) (h q hq).1 (h q hq).2) (RdS.pure _ _ _)
  have h1:=RdS.bindT (D:=fun _=>True) (g:=fun b=>qOperand en >>= fun a=>(Pure.pure (b,a):PM (Int×Arg))) (RdS.block (en:=en) (n:=n) (hb q hq)) h2
  exact h1.to (by simp [pairP]) (by simp) rfl
theorem vals_fst {α β γ:Type} {V:Nat→α→β} {Nf:α→List Tx} (f:β→γ) (g:α→γ) (h:∀ n x,f (V n x)=g x):∀ (l:List α) (n:Nat),(valsV V Nf n l).map f=l.map g
  | [],n=>rfl
  | x::l,n=>by
    unfold valsV
    rw [List.map_cons,List.map_cons,h,vals_fst f g h l]
theorem vals_snd (gs:List PVar):∀ (l:List (Int×Arg)) (n:Nat),(valsV (fun n (q:Int×Arg)=>(q.1,argV n q.2)) (fun q=>argN gs q.2) n l).map Prod.snd=valsV argV (argN gs) n (l.map Prod.snd)
  | [],n=>rfl
  | x::l,n=>by
    unfold valsV
    rw [List.map_cons,List.map_cons,vals_snd gs l]
    try rfl
theorem zip_maps (a:List Int) (b:List Arg) (h:a.length=b.length):(a.zip b).map Prod.fst=a∧(a.zip b).map Prod.snd=b:=⟨List.map_fst_zip (by omega),List.map_snd_zip (by omega)⟩
def phiRest (en:Tok) (y:PIns) (t:Int) (p:Tok):PM PIns :=
  if (p.kind==6)=true then Pure.pure { y with ty:=t }
  else qCommas en (fun _=>qBlock en >>= fun b=>qOperand en >>= fun a=>(Pure.pure (b,a):PM (Int×Arg))) >>= fun l=>Pure.pure { y with ty:=t,tg:=l.map Prod.fst,args:=l.map Prod.snd }
theorem RdS.phi {en:Tok} {m:PMod} {n:Nat} {op reg:Int} {t:Int} {tg:List Int} {args:List Arg} (ht:tyB t=true) (hl:tg.length=args.length) (hb:∀ b∈tg,0≤b∧b≤999) (h:∀ a∈args,argB m a=true∧0≤a.bits∧a.bits<18446744073709551616) :
    RdS n (qType en >>= fun t=>qNext en >>= phiRest en ⟨op,reg,0,0,0,[],[]⟩ t) ((1,typeT t)::(if args=[] then [] else sepP ((tg.zip args).map (pairP m.vs)))) (args.flatMap (argN m.vs))
      ⟨op,reg,t,0,0,valsV argV (argN m.vs) n args,tg⟩ LE:=by
  have hk : RdS n (qNext en >>= phiRest en ⟨op,reg,0,0,0,[],[]⟩ t) (if args=[] then [] else sepP ((tg.zip args).map (pairP m.vs))) (args.flatMap (argN m.vs)) ⟨op,reg,t,0,0,valsV argV (argN m.vs) n args,tg⟩ LE:=by
    intro pre rest q hq hp hc
    by_cases ha:args=[]
    · subst ha
      obtain rfl:tg=[]:=List.length_eq_zero_iff.1 (by simpa using hl)
      rw [if_pos rfl] at hp
      obtain rfl:=List.map_eq_nil_iff.1 hp
      obtain ⟨line,col,tl,rfl⟩:=hc
      exact ⟨[],rfl,by rw [List.append_nil];rfl⟩
    · rw [if_neg ha] at hp
      obtain ⟨z1,z2⟩:=zip_maps tg args hl
      cases hz:tg.zip args with
      | nil=>rw [hz] at z2;exact absurd z2.symm ha
      | cons p l =>
        rw [hz] at hp z1 z2
        have hm1:∀ x∈p::l,x.1∈tg∧x.2∈args:=fun x hx=>by
          rw [← hz] at hx
          exact List.of_mem_zip hx
        obtain ⟨nm,e1,e2⟩:=RdS.pairs (en:=en) (m:=m) (n:=n) (y:=⟨op,reg,0,0,0,[],[]⟩) p l (fun x hx=>hb _ (hm1 x hx).1) (fun x hx=>h _ (hm1 x hx).2) pre rest q hq hp hc.nc
        refine ⟨nm,by rw [e1,← z2,List.flatMap_map],?_⟩
        have hne:∃ b2 line col tl,pre=⟨1,b2,line,col⟩::tl:=by
          rw [sepP_cons] at hp
          obtain ⟨t,tl,rfl,ht,_⟩:=List.map_eq_cons_iff.1 (show List.map KB pre=(1,blockT p.1)::_ from hp)
          obtain ⟨k',b',line,col⟩:=t
          injection ht with e1 e2
          simp only at e1
          subst e1
          exact ⟨b',line,col,tl,rfl⟩
        obtain ⟨b2,line,col,tl,rfl⟩:=hne
        rw [bind_ok (p:=qNext en) (a:=Tok.mk 1 b2 line col) (s1:=PS.mk (⟨1,b2,line,col⟩::tl++rest) q) rfl]
        unfold phiRest
        rw [if_neg (show ¬ ((Tok.mk 1 b2 line col).kind==6)=true by simp),bind_ok e2,vals_fst (V:=fun n (q:Int×Arg)=>(q.1,argV n q.2)) Prod.fst Prod.fst (fun _ _=>rfl),vals_snd,z1,z2]
        rfl
  exact (RdS.bindT (D:=LE) (g:=fun t=>qNext en >>= phiRest en ⟨op,reg,0,0,0,[],[]⟩ t) (RdS.type (en:=en) (n:=n) ht) hk).to (by simp) (by simp) rfl
theorem nf_word {en:Tok} {w:Tx} {Q:List (Nat×Tx)} (hw:w≠[110,115,119]∧w≠[110,117,119]∧w≠[101,120,97,99,116]) {post rest:List Tok} (h:post.map KB=(1,w)::Q):NF en (post++rest) :=
  ⟨nt_of h (by simp [hw.1]),nt_of h (by simp [hw.2.1]),nt_of h (by simp [hw.2.2])⟩
theorem type_nf {t:Int} (h:tyB t=true):typeT t≠[110,115,119]∧typeT t≠[110,117,119]∧typeT t≠[101,120,97,99,116]:=by
  have ht:=of_decide_eq_true h
  unfold typeT
  by_cases h0:t=0
  · rw [if_pos h0];decide
  rw [if_neg h0]
  by_cases h1:t=65
  · rw [if_pos h1];decide
  rw [if_neg h1,if_pos (by omega)]
  refine ⟨?_,?_,?_⟩ <;> (intro e;injection e with e1;exact absurd e1 (by decide))
set_option maxHeartbeats 1000000 in
theorem RdS.form {en:Tok} {m:PMod} {n:Nat} {op reg ty nn fl:Int} {args:List Arg} {tg:List Int} (h:insB m ⟨op,reg,ty,nn,fl,args,tg⟩=true) (hx:insW ⟨op,reg,ty,nn,fl,args,tg⟩) (hz:op=26→1≤nn∧nn≤64) :
    RdS n (qForm en ⟨op,reg,0,0,0,[],[]⟩) (flagsQ fl++behindQ m ⟨op,reg,ty,nn,fl,args,tg⟩) (insN m ⟨op,reg,ty,nn,fl,args,tg⟩) (insV n m ⟨op,reg,ty,nn,fl,args,tg⟩) LE:=by
  unfold insB at h
  simp only [Bool.and_eq_true,decide_eq_true_eq] at h
  obtain ⟨⟨⟨⟨⟨⟨⟨hop,hcnt⟩,hty⟩,hnum⟩,hfl⟩,hreg⟩,htg⟩,hargs⟩:=h
  have hA:∀ a∈args,argB m a=true∧0≤a.bits∧a.bits<18446744073709551616:=fun a ha=>⟨List.all_eq_true.1 hargs a ha,hx.2 a ha⟩
  have hT:∀ b∈tg,0≤b∧b≤999:=fun b hb=>of_decide_eq_true (List.all_eq_true.1 htg b hb)
  unfold cntB at hcnt
  unfold hasTyB at hty
  unfold numB at hnum
  unfold flB at hfl
  unfold qForm insN insV behindQ
  dsimp only at hcnt hty hnum hfl ⊢
  by_cases c1:20≤op∧op≤22
  · have h30:¬ op=30:=by omega
    simp only [if_pos c1,if_neg h30]
    rw [if_neg (by omega),if_neg h30,if_neg (by omega),if_neg (by omega),if_neg (by omega),if_neg (by omega),if_pos (by omega)] at hcnt
    rw [if_neg (by omega),if_neg h30,if_neg (by omega),if_neg (by omega)] at hty
    rw [if_pos c1] at hnum
    rw [if_pos (by omega)] at hfl
    have hc:=of_decide_eq_true hcnt
    obtain rfl:fl=0:=of_decide_eq_true hfl
    obtain rfl:tg=[]:=List.length_eq_zero_iff.1 hc.1
    obtain ⟨a,rfl⟩:=List.length_eq_one_iff.1 hc.2
    exact (RdS.conv (y:=⟨op,reg,0,0,0,[],[]⟩) hnum hty (hA a (by simp))).to (by simp [flagsQ_zero,sepP]) (by simp) rfl
  simp only [if_neg c1] at hnum ⊢
  have typed:∀ {k:Nat} {y:PIns},tyB ty=true→args.length=k→RdS n (qTyped en y k) ((1,typeT ty)::sepP (args.map (argP m.vs))) (args.flatMap (argN m.vs)) { y with ty:=ty,args:=valsV argV (argN m.vs) n args } LE:=fun {k y} h1 h2=>by
    subst h2
    exact RdS.typed h1 hA
  by_cases c2:op=23
  · subst c2
    simp at hcnt hty hnum hfl
    obtain rfl:tg=[]:=hcnt.1
    subst hnum hfl
    simp
    exact (typed (y:=⟨23,reg,0,0,0,[],[]⟩) hty hcnt.2).to (by simp [flagsQ_zero]) (by simp) rfl
  simp only [if_neg c2] at hcnt ⊢
  by_cases c3:op=24∨op=27
  · have h1:tyB ty=true∧tg=[]∧args.length=1∧nn=0∧fl=0:=by
      rcases c3 with rfl | rfl <;> (simp at hcnt hty hnum hfl;exact ⟨hty,hcnt.1,hcnt.2,hnum,hfl⟩)
    obtain ⟨h1,rfl,h2,rfl,rfl⟩:=h1
    rw [if_pos c3]
    rw [if_neg (by omega),if_neg (by omega),if_neg (by omega),if_neg (by omega),if_neg (by omega),if_neg (by omega),if_neg (by omega)]
    exact (typed (y:=⟨op,reg,0,0,0,[],[]⟩) h1 h2).to (by simp [flagsQ_zero]) (by simp) rfl
  rw [if_neg c3]
  by_cases c4:op=25
  · subst c4
    simp at hcnt hty hnum hfl
    subst hnum hfl
    simp only [if_pos (rfl:(25:Int)=25)]
    exact (RdS.phi (en:=en) (m:=m) (n:=n) (op:=25) (reg:=reg) hty hcnt hT hA).to (by simp [flagsQ_zero]) (by simp) (by simp)
  simp only [if_neg c4] at hcnt ⊢
  by_cases c5:op=26
  · subst c5
    simp at hcnt hty hnum hfl
    obtain ⟨rfl,rfl⟩:=hcnt
    subst hty hfl
    exact (RdS.bindT (D:=LE) (g:=fun k=>(Pure.pure (⟨26,reg,65,k,0,[],[]⟩:PIns):PM PIns)) (RdS.size (en:=en) (n:=n) (hz rfl)) (RdS.pure _ _ LE)).to (by simp [flagsQ_zero]) (by simp) (by simp [valsV])
  simp only [if_neg c5] at hnum ⊢
  by_cases c6:op=29
  · subst c6
    simp at hcnt hty hnum hfl
    obtain ⟨rfl,h2⟩:=hcnt
    subst hty hfl hnum
    have h3:=RdS.operands (en:=en) (m:=m) args (n:=n) (C:=fun _=>True) hA
    rw [h2] at h3
    exact (RdS.bindT (D:=LE) (g:=fun l=>(Pure.pure (⟨29,reg,65,0,0,l,[]⟩:PIns):PM PIns)) h3 (RdS.pure _ _ LE)).to (by simp [flagsQ_zero]) (by simp) (by simp)
  rw [if_neg c6]
  by_cases c7:op=30
  · subst c7
    simp at hcnt hty hnum hfl
    subst hcnt hfl
    exact (RdS.call (en:=en) (m:=m) (n:=n) (y:=⟨30,reg,0,0,0,[],[]⟩) (w:=calT m.xs m.fs nn) hA).to (by simp [flagsQ_zero]) (by simp) (by simp)
  simp only [if_neg c7] at hcnt hty hnum ⊢
  by_cases c8:op=32
  · subst c8
    simp at hcnt hty hnum hfl
    obtain ⟨b,c,rfl⟩:∃ b c,tg=[b,c]:=by
      match tg,hcnt.1 with
      | [b,c],_=>exact ⟨b,c,rfl⟩
    obtain ⟨a,rfl⟩:=List.length_eq_one_iff.1 hcnt.2
    subst hty hfl hnum
    exact (RdS.briff (en:=en) (m:=m) (n:=n) (y:=⟨32,reg,0,0,0,[],[]⟩) (hT b (by simp)) (hT c (by simp)) (hA a (by simp))).to (by simp [flagsQ_zero]) (by simp) (by simp [valsV])
  rw [if_neg c8]
  by_cases c9:op=31
  · subst c9
    simp at hcnt hty hnum hfl
    obtain ⟨b,rfl⟩:=List.length_eq_one_iff.1 hcnt.1
    obtain rfl:=hcnt.2
    subst hty hfl hnum
    exact (RdS.bindT (D:=LE) (g:=fun b=>(Pure.pure (⟨31,reg,0,0,0,[],[b]⟩:PIns):PM PIns)) (RdS.block (en:=en) (n:=n) (hT b (by simp))) (RdS.pure _ _ LE)).to (by simp [flagsQ_zero,sepP]) (by simp) (by simp [valsV])
  rw [if_neg c9]
  by_cases c10:op=33
  · subst c10
    simp at hcnt hty hnum hfl
    obtain ⟨rfl,hl⟩:=hcnt
    subst hfl hnum
    simp
    intro pre rest q hq hp hc
    by_cases ha:args=[]
    · subst ha
      obtain rfl:ty=0:=by simpa using hty.2
      rw [if_pos rfl] at hp
      obtain rfl:=List.map_eq_nil_iff.1 (show pre.map KB=[] from hp)
      obtain ⟨line,col,tl,rfl⟩:=hc
      exact ⟨[],rfl,by rw [List.append_nil];rfl⟩
    · rw [if_neg ha] at hp
      have h1:args.length=1:=by
        have:=List.length_pos_iff.2 ha
        omega
      have hp2:pre.map KB=(1,typeT ty)::sepP (args.map (argP m.vs)):=hp
      obtain ⟨nm,e1,e2⟩:=typed (y:=⟨33,reg,0,0,0,[],[]⟩) hty.1 h1 pre rest q hq hp2 hc
      refine ⟨nm,e1,?_⟩
      obtain ⟨t,tl,rfl,ht,_⟩:=List.map_eq_cons_iff.1 hp2
      obtain ⟨k',b',line,col⟩:=t
      injection ht with e3 e4
      simp only at e3
      subst e3
      rw [bind_ok (p:=qNext en) (a:=Tok.mk 1 b' line col) (s1:=PS.mk (⟨1,b',line,col⟩::tl++rest) q) rfl]
      rw [if_neg (show ¬ (Tok.mk 1 b' line col).kind=6 by simp)]
      exact e2
  rw [if_neg c10]
  by_cases c11:op=34
  · subst c11
    simp at hcnt hty hnum hfl
    obtain ⟨rfl,rfl⟩:=hcnt
    subst hfl hnum hty
    exact (RdS.pure n _ LE).to (by simp [flagsQ_zero]) (by simp) (by simp [valsV])
  rw [if_neg c11]
  have hg:¬ (op=29∨op=31∨op=32):=by omega
  have hr:¬ (op=34∨op=33∧args=[]):=by omega
  rw [if_neg (by omega),if_neg (by omega),if_neg (by omega),if_neg (by omega),if_neg (by omega)] at hcnt
  rw [if_neg (by omega),if_neg (by omega),if_neg (by omega)] at hty
  have hc:=of_decide_eq_true hcnt
  obtain rfl:tg=[]:=List.length_eq_zero_iff.1 hc.1
  obtain rfl:nn=0:=of_decide_eq_true hnum
  rw [if_neg hg,if_neg hr]
  by_cases c12:op≤13
  · rw [if_neg (by omega)] at hfl
    have hf:=of_decide_eq_true hfl
    rw [if_pos c12]
    exact (RdS.bind (D:=LE) (g:=fun fl=>qTyped en ⟨op,reg,0,0,fl,[],[]⟩ 2) (RdS.flags (en:=en) (n:=n) hf) (typed (y:=⟨op,reg,0,0,fl,[],[]⟩) hty hc.2) (fun post rest hp _=>nf_word (type_nf hty) hp)).to rfl (by simp) rfl
  · rw [if_pos (by omega)] at hfl
    obtain rfl:fl=0:=of_decide_eq_true hfl
    rw [if_neg c12]
    exact (typed (y:=⟨op,reg,0,0,0,[],[]⟩) hty hc.2).to (by simp [flagsQ_zero]) (by simp) rfl
theorem RdS.instr {en:Tok} {m:PMod} {n:Nat} {op reg ty nn fl:Int} {args:List Arg} {tg:List Int} (h:insB m ⟨op,reg,ty,nn,fl,args,tg⟩=true) (hx:insW ⟨op,reg,ty,nn,fl,args,tg⟩) (hz:op=26→1≤nn∧nn≤64) :
    RdS n (qInstr en) (lineQ m ⟨op,reg,ty,nn,fl,args,tg⟩) (insN m ⟨op,reg,ty,nn,fl,args,tg⟩) (insV n m ⟨op,reg,ty,nn,fl,args,tg⟩) (fun _=>True):=by
  have hf:=RdS.form (en:=en) (n:=n) h hx hz
  unfold insB at h
  simp only [Bool.and_eq_true,decide_eq_true_eq] at h
  obtain ⟨⟨⟨⟨⟨⟨⟨hop,hcnt⟩,hty⟩,hnum⟩,hfl⟩,hreg⟩,htg⟩,hargs⟩:=h
  have hT:=RdS.bind (D:=fun _=>True) (g:=fun x=>qLineEnd en >>= fun _=>(Pure.pure x:PM PIns)) hf (RdS.bindT (D:=fun _=>True) (g:=fun _=>(Pure.pure (insV n m ⟨op,reg,ty,nn,fl,args,tg⟩):PM PIns)) (RdS.lineEnd (en:=en)) (RdS.pure _ _ _))
    (fun post rest hp _=>by
      obtain ⟨line,col,rfl⟩:=one_piece (show post.map KB=[(6,[])] from by simpa using hp)
      exact ⟨line,col,rest,rfl⟩)
  have hr:(-1≤reg∧reg≤4095)∧(op.toNat=30∨op.toNat≠0∧idleB (op.toNat:Int)=decide (0≤reg)):=by
    rw [Int.toNat_of_nonneg (by omega)]
    unfold hasRegB at hreg
    dsimp only at hreg
    by_cases c:reg=-1
    · rw [if_pos c] at hreg
      refine ⟨by omega,.inr ⟨by omega,?_⟩⟩
      rw [show decide (0≤reg)=false from decide_eq_false (by omega)]
      simpa using hreg
    · rw [if_neg c,Bool.and_eq_true,Bool.or_eq_true,decide_eq_true_eq] at hreg
      have h1:=of_decide_eq_true hreg.1
      refine ⟨by omega,?_⟩
      rcases hreg.2 with h2 | h2
      · exact .inl (by omega)
      · exact .inr ⟨by omega,by rw [h2,decide_eq_true h1.1]⟩
  intro pre rest q hq hp _
  unfold lineQ at hp
  dsimp only at hp
  have tail:∀ (line col:Nat) (tl:List Tok),tl.map KB=flagsQ fl++(behindQ m ⟨op,reg,ty,nn,fl,args,tg⟩++[(6,[])])→∃ nm:List Tok,nm.map Tok.body=insN m ⟨op,reg,ty,nn,fl,args,tg⟩ ∧
      (qPass >>= fun _=>qForm en ⟨((op.toNat:Nat):Int),reg,0,0,0,[],[]⟩ >>= fun x=>qLineEnd en >>= fun _=>(Pure.pure x:PM PIns)) (PS.mk (Tok.mk 1 (opT op) line col::tl++rest) q)=.ok (insV n m ⟨op,reg,ty,nn,fl,args,tg⟩,PS.mk rest (q++nm)):=fun line col tl htl=>by
    obtain ⟨nm,e1,e2⟩:=hT tl rest q hq (by rw [htl];simp [List.append_assoc]) trivial
    refine ⟨nm,by rw [e1];simp,?_⟩
    rw [bind_ok (p:=qPass) (a:=()) (s1:=PS.mk (tl++rest) q) rfl,Int.toNat_of_nonneg (by omega)]
    exact e2
  by_cases c:0≤reg
  · rw [if_pos c] at hp
    obtain ⟨t1,r1,rfl,h1,hp1⟩:=List.map_eq_cons_iff.1 (show pre.map KB=(3,decI reg)::(5,[61])::(1,opT op)::_ from hp)
    obtain ⟨t2,r2,rfl,h2,hp2⟩:=List.map_eq_cons_iff.1 hp1
    obtain ⟨t3,r3,rfl,h3,hp3⟩:=List.map_eq_cons_iff.1 hp2
    obtain ⟨k1,b1,l1,c1⟩:=t1
    obtain ⟨k2,b2,l2,c2⟩:=t2
    obtain ⟨k3,b3,l3,c3⟩:=t3
    injection h1 with e1 f1
    injection h2 with e2 f2
    injection h3 with e3 f3
    simp only at e1 f1 e2 f2 e3 f3
    subst e1 f1 e2 f2 e3 f3
    obtain ⟨nm,g1,g2⟩:=tail l3 c3 r3 hp3
    refine ⟨nm,g1,?_⟩
    unfold qInstr
    rw [bind_ok (p:=qNext en) (a:=Tok.mk 3 (decI reg) l1 c1) (s1:=PS.mk (Tok.mk 3 (decI reg) l1 c1::Tok.mk 5 [61] l2 c2::Tok.mk 1 (opT op) l3 c3::r3++rest) q) rfl]
    rw [if_pos (show ((Tok.mk 3 (decI reg) l1 c1).kind==3)=true from rfl)]
    have en3:numOf (Tok.mk 3 (decI reg) l1 c1)=reg.toNat:=numOf_dec (by omega) _ _
    rw [bind_ok (a:=reg) (s1:=PS.mk (Tok.mk 1 (opT op) l3 c3::r3++rest) q) (by
      show Except.ok ((numOf (Tok.mk 3 (decI reg) l1 c1):Int),_)=_
      rw [en3,Int.toNat_of_nonneg c]
      rfl)]
    dsimp only
    rw [bind_ok (p:=qNext en) (a:=Tok.mk 1 (opT op) l3 c3) (s1:=PS.mk (Tok.mk 1 (opT op) l3 c3::r3++rest) q) rfl]
    try dsimp only
    rw [opOf_op hop,if_neg (not_not_intro hr.2)]
    exact g2
  · rw [if_neg c] at hp
    obtain ⟨t3,r3,rfl,h3,hp3⟩:=List.map_eq_cons_iff.1 (show pre.map KB=(1,opT op)::_ from hp)
    obtain ⟨k3,b3,l3,c3⟩:=t3
    injection h3 with e3 f3
    simp only at e3 f3
    subst e3 f3
    obtain ⟨nm,g1,g2⟩:=tail l3 c3 r3 hp3
    refine ⟨nm,g1,?_⟩
    obtain rfl:reg=-1:=by omega
    unfold qInstr
    rw [bind_ok (p:=qNext en) (a:=Tok.mk 1 (opT op) l3 c3) (s1:=PS.mk (Tok.mk 1 (opT op) l3 c3::r3++rest) q) rfl]
    rw [if_neg (show ¬ ((Tok.mk 1 (opT op) l3 c3).kind==3)=true by simp)]
    rw [bind_ok (a:=(-1:Int)) (s1:=PS.mk (Tok.mk 1 (opT op) l3 c3::r3++rest) q) rfl]
    dsimp only
    rw [bind_ok (p:=qNext en) (a:=Tok.mk 1 (opT op) l3 c3) (s1:=PS.mk (Tok.mk 1 (opT op) l3 c3::r3++rest) q) rfl]
    try dsimp only
    rw [opOf_op hop,if_neg (not_not_intro hr.2)]
    exact g2
def F3 (f:Flt):Prop:=f.code=3∨f.code=5∨f.code=6
theorem bind_err {α β:Type} {p:PM α} {g:α→PM β} {s:PS} {f:Flt} (h:p s=.error f):(p >>= g) s=.error f:=by
  show (p s >>= fun x=>g x.1 x.2)=_
  rw [h]
  rfl
def Rx {α:Type} (ok:Prop) (n:Nat) (p:PM α) (P:List (Nat×Tx)) (N:List Tx) (v:α) (C:List Tok→Prop):Prop :=
  ∀ (pre rest q:List Tok),q.length=n→pre.map KB=P→C rest→(¬ ok∧∃ f,p ⟨pre++rest,q⟩=.error f∧F3 f)∨∃ nm:List Tok,nm.map Tok.body=N∧p ⟨pre++rest,q⟩=.ok (v,⟨rest,q++nm⟩)
section
variable {α β:Type}
theorem RdS.x {n:Nat} {p:PM α} {P:List (Nat×Tx)} {N:List Tx} {v:α} {C:List Tok→Prop} (h:RdS n p P N v C) (ok:Prop):Rx ok n p P N v C:=fun pre rest q a b c=>.inr (h pre rest q a b c)
theorem Rx.to {ok:Prop} {n:Nat} {p:PM α} {P Q:List (Nat×Tx)} {N M:List Tx} {v w:α} {C:List Tok→Prop} (h:Rx ok n p P N v C) (e1:P=Q) (e2:N=M) (e3:v=w):Rx ok n p Q M w C:=by subst e1 e2 e3;exact h
theorem Rx.bind {ok:Prop} {n:Nat} {p:PM α} {g:α→PM β} {P Q:List (Nat×Tx)} {N M:List Tx} {v:α} {w:β} {C D:List Tok→Prop} (h:Rx ok n p P N v C) (k:Rx ok (n+N.length) (g v) Q M w D)
    (hc:∀ post rest,post.map KB=Q→D rest→C (post++rest)):Rx ok n (p >>= g) (P++Q) (N++M) w D:=fun pre rest q hq hp hd=>by
  obtain ⟨p1,p2,rfl,h1,h2⟩:=List.map_eq_append_iff.1 hp
  rcases h p1 (p2++rest) q hq h1 (hc p2 rest h2 hd) with ⟨hn,f,e,hf⟩ | ⟨n1,e1,f1⟩
  · rw [List.append_assoc]
    exact .inl ⟨hn,f,bind_err e,hf⟩
  have hl:n1.length=N.length:=by rw [← e1,List.length_map]
  rw [List.append_assoc,bind_ok f1]
  rcases k p2 rest (q++n1) (by rw [List.length_append,hq,hl]) h2 hd with ⟨hn,f,e,hf⟩ | ⟨n2,e2,f2⟩
  · exact .inl ⟨hn,f,e,hf⟩
  · exact .inr ⟨n1++n2,by rw [List.map_append,e1,e2],by rw [f2,List.append_assoc]⟩
theorem Rx.bindT {ok:Prop} {n:Nat} {p:PM α} {g:α→PM β} {P Q:List (Nat×Tx)} {N M:List Tx} {v:α} {w:β} {D:List Tok→Prop} (h:Rx ok n p P N v (fun _=>True)) (k:Rx ok (n+N.length) (g v) Q M w D):Rx ok n (p >>= g) (P++Q) (N++M) w D :=
  h.bind k fun _ _ _ _=>trivial
end
theorem Rx.size {en:Tok} {n:Nat} {C:List Tok→Prop} {k:Int} (h0:0≤k∧k<18446744073709551616):Rx (1≤k∧k≤64) n (qSize en) [(2,decI k)] [] k C:=fun pre rest q hq hp hc=>by
  by_cases h:1≤k∧k≤64
  · exact .inr (RdS.size h pre rest q hq hp hc)
  · obtain ⟨line,col,rfl⟩:=one_piece hp
    refine .inl ⟨h,fltAt 6 (Tok.mk 2 (decI k) line col),?_,.inr (.inr rfl)⟩
    unfold qSize
    rw [bind_ok (p:=qWant en 2) (a:=Tok.mk 2 (decI k) line col) (s1:=PS.mk rest q) rfl]
    have e:numOf (Tok.mk 2 (decI k) line col)=k.toNat:=numOf_dec (by omega) _ _
    rw [e,if_pos (by omega)]
    rfl
theorem instr_at {en:Tok} {m:PMod} {op reg ty nn fl:Int} {args:List Arg} {tg:List Int} (h:insB m ⟨op,reg,ty,nn,fl,args,tg⟩=true) (pre rest q:List Tok) (hp:pre.map KB=lineQ m ⟨op,reg,ty,nn,fl,args,tg⟩) :
    ∃ tl:List Tok,tl.map KB=flagsQ fl++(behindQ m ⟨op,reg,ty,nn,fl,args,tg⟩++[(6,[])]) ∧
      qInstr en (PS.mk (pre++rest) q)=(qForm en ⟨op,reg,0,0,0,[],[]⟩ >>= fun x=>qLineEnd en >>= fun _=>(Pure.pure x:PM PIns)) (PS.mk (tl++rest) q):=by
  unfold insB at h
  simp only [Bool.and_eq_true,decide_eq_true_eq] at h
  obtain ⟨⟨⟨⟨⟨⟨⟨hop,hcnt⟩,hty⟩,hnum⟩,hfl⟩,hreg⟩,htg⟩,hargs⟩:=h
  have hr:(-1≤reg∧reg≤4095)∧(op.toNat=30∨op.toNat≠0∧idleB (op.toNat:Int)=decide (0≤reg)):=by
    rw [Int.toNat_of_nonneg (by omega)]
    unfold hasRegB at hreg
    dsimp only at hreg
    by_cases c:reg=-1
    · rw [if_pos c] at hreg
      refine ⟨by omega,.inr ⟨by omega,?_⟩⟩
      rw [show decide (0≤reg)=false from decide_eq_false (by omega)]
      simpa using hreg
    · rw [if_neg c,Bool.and_eq_true,Bool.or_eq_true,decide_eq_true_eq] at hreg
      have h1:=of_decide_eq_true hreg.1
      refine ⟨by omega,?_⟩
      rcases hreg.2 with h2 | h2
      · exact .inl (by omega)
      · exact .inr ⟨by omega,by rw [h2,decide_eq_true h1.1]⟩
  unfold lineQ at hp
  dsimp only at hp
  have fin:∀ (line col:Nat) (tl:List Tok),(qPass >>= fun _=>qForm en ⟨((op.toNat:Nat):Int),reg,0,0,0,[],[]⟩ >>= fun x=>qLineEnd en >>= fun _=>(Pure.pure x:PM PIns)) (PS.mk (Tok.mk 1 (opT op) line col::tl++rest) q)=(qForm en ⟨op,reg,0,0,0,[],[]⟩ >>= fun x=>qLineEnd en >>= fun _=>(Pure.pure x:PM PIns)) (PS.mk (tl++rest) q):=fun line col tl=>by
    rw [bind_ok (p:=qPass) (a:=()) (s1:=PS.mk (tl++rest) q) rfl,Int.toNat_of_nonneg (by omega)]
  by_cases c:0≤reg
  · rw [if_pos c] at hp
    obtain ⟨t1,r1,rfl,h1,hp1⟩:=List.map_eq_cons_iff.1 (show pre.map KB=(3,decI reg)::(5,[61])::(1,opT op)::_ from hp)
    obtain ⟨t2,r2,rfl,h2,hp2⟩:=List.map_eq_cons_iff.1 hp1
    obtain ⟨t3,r3,rfl,h3,hp3⟩:=List.map_eq_cons_iff.1 hp2
    obtain ⟨k1,b1,l1,c1⟩:=t1
    obtain ⟨k2,b2,l2,c2⟩:=t2
    obtain ⟨k3,b3,l3,c3⟩:=t3
    injection h1 with e1 f1
    injection h2 with e2 f2
    injection h3 with e3 f3
    simp only at e1 f1 e2 f2 e3 f3
    subst e1 f1 e2 f2 e3 f3
    refine ⟨r3,hp3,?_⟩
    unfold qInstr
    rw [bind_ok (p:=qNext en) (a:=Tok.mk 3 (decI reg) l1 c1) (s1:=PS.mk (Tok.mk 3 (decI reg) l1 c1::Tok.mk 5 [61] l2 c2::Tok.mk 1 (opT op) l3 c3::r3++rest) q) rfl]
    rw [if_pos (show ((Tok.mk 3 (decI reg) l1 c1).kind==3)=true from rfl)]
    have en3:numOf (Tok.mk 3 (decI reg) l1 c1)=reg.toNat:=numOf_dec (by omega) _ _
    rw [bind_ok (a:=reg) (s1:=PS.mk (Tok.mk 1 (opT op) l3 c3::r3++rest) q) (by
      show Except.ok ((numOf (Tok.mk 3 (decI reg) l1 c1):Int),_)=_
      rw [en3,Int.toNat_of_nonneg c]
      rfl)]
    dsimp only
    rw [bind_ok (p:=qNext en) (a:=Tok.mk 1 (opT op) l3 c3) (s1:=PS.mk (Tok.mk 1 (opT op) l3 c3::r3++rest) q) rfl]
    try dsimp only
    rw [opOf_op hop,if_neg (not_not_intro hr.2)]
    exact fin l3 c3 r3
  · rw [if_neg c] at hp
    obtain ⟨t3,r3,rfl,h3,hp3⟩:=List.map_eq_cons_iff.1 (show pre.map KB=(1,opT op)::_ from hp)
    obtain ⟨k3,b3,l3,c3⟩:=t3
    injection h3 with e3 f3
    simp only at e3 f3
    subst e3 f3
    refine ⟨r3,hp3,?_⟩
    obtain rfl:reg=-1:=by omega
    unfold qInstr
    rw [bind_ok (p:=qNext en) (a:=Tok.mk 1 (opT op) l3 c3) (s1:=PS.mk (Tok.mk 1 (opT op) l3 c3::r3++rest) q) rfl]
    rw [if_neg (show ¬ ((Tok.mk 1 (opT op) l3 c3).kind==3)=true by simp)]
    rw [bind_ok (a:=(-1:Int)) (s1:=PS.mk (Tok.mk 1 (opT op) l3 c3::r3++rest) q) rfl]
    dsimp only
    rw [bind_ok (p:=qNext en) (a:=Tok.mk 1 (opT op) l3 c3) (s1:=PS.mk (Tok.mk 1 (opT op) l3 c3::r3++rest) q) rfl]
    try dsimp only
    rw [opOf_op hop,if_neg (not_not_intro hr.2)]
    exact fin l3 c3 r3
def sizeOk (x:PIns):Prop:=x.op=26→1≤x.n∧x.n≤64
theorem Rx.instr {en:Tok} {m:PMod} {n:Nat} {x:PIns} (h:insB m x=true) (hx:insW x):Rx (sizeOk x) n (qInstr en) (lineQ m x) (insN m x) (insV n m x) (fun _=>True):=by
  by_cases hz:sizeOk x
  · obtain ⟨op,reg,ty,nn,fl,args,tg⟩:=x
    exact (RdS.instr h hx hz).x _
  · obtain ⟨op,reg,ty,nn,fl,args,tg⟩:=x
    intro pre rest q hq hp _
    unfold sizeOk at hz
    dsimp only at hz
    obtain ⟨tl,htl,e⟩:=instr_at (en:=en) h pre rest q hp
    have h0:=h
    unfold insB at h0
    simp only [Bool.and_eq_true,decide_eq_true_eq] at h0
    obtain ⟨⟨⟨⟨⟨⟨⟨hop,hcnt⟩,hty⟩,hnum⟩,hfl⟩,hreg⟩,htg⟩,hargs⟩:=h0
    by_cases c5:op=26
    · subst c5
      have hz2:¬ (1≤nn∧nn≤64):=fun k=>hz fun _=>k
      unfold cntB at hcnt
      unfold numB at hnum
      unfold flB at hfl
      simp at hcnt hnum hfl
      obtain rfl:fl=0:=hfl
      obtain ⟨rfl,rfl⟩:=hcnt
      obtain ⟨t1,r1,rfl,h1,hp1⟩:=List.map_eq_cons_iff.1 (show tl.map KB=(2,decI nn)::[(6,[])] from by rw [htl];simp [flagsQ_zero,behindQ])
      rcases Rx.size (en:=en) (n:=n) (C:=fun _=>True) ⟨hnum,by have:=hx.1;dsimp only at this;omega⟩ [t1] (r1++rest) q hq (by simp [h1]) trivial with ⟨hn,f,ef,h3⟩ | ⟨nm,e1,e2⟩
      · refine .inl ⟨hz,f,?_,h3⟩
        rw [e]
        refine bind_err (bind_err (p:=qSize en) ?_)
        exact ef
      · exfalso
        unfold qSize at e2
        obtain ⟨k1,b1,l1,c1⟩:=t1
        injection h1 with e3 f3
        simp only at e3 f3
        subst e3 f3
        rw [bind_ok (p:=qWant en 2) (a:=Tok.mk 2 (decI nn) l1 c1) (s1:=PS.mk (r1++rest) q) rfl] at e2
        have e4:numOf (Tok.mk 2 (decI nn) l1 c1)=nn.toNat:=numOf_dec (by have:=hx.1;dsimp only at this;omega) _ _
        rw [e4,if_pos (by omega)] at e2
        cases e2
    · exact absurd (fun k=>absurd k c5) hz
end Go.Proofs.YtmmlfmplggbmiaaGreatDoor
