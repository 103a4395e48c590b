/- Several texts in one: BaseE, SpPure, PsPure, PsSim, PsBnd. -/
import Derived.Deep.AppendLies
import Derived.Lib.ItoaNum
import Derived.Test.YtmmlfmplggbmiaaGreatDoorMg1
namespace Go.Proofs.YtmmlfmplggbmiaaGreatDoor
open Go.RowKit Go.Maps
set_option linter.unusedVariables false
set_option linter.unusedSimpArgs false
set_option maxRecDepth 100000 in
set_option maxHeartbeats 2000000 in
theorem EqInts_any (W:World) (p p':Option Addr) (n n' c c':Nat) (ts ts':List Int) (h:ListIn intC NoMem W.heap.size W p n c ts) (h':ListIn intC NoMem W.heap.size W p' n' c' ts') :
    Calls Tryz.prog 80 #[.slice p n c,.slice p' n' c'] W (Tells (ts=ts') W):=by
  obtain rfl:n=ts.length:=h.1
  obtain rfl:n' = ts'.length:=h'.1
  have k2:=h.2.1
  have k3:=h.2.2.1
  have k2':=h'.2.1
  have k3':=h'.2.2.1
  unfold maxLen at k3 k3'
  have H:=Lib.hid h
  have H':=Lib.hid h'
  clear h h'
  go_enter Tryz.func80,Tryz.ntmps80
  by_cases hl:ts.length=ts'.length
  · have hl2:((ts.length:Int) != (ts'.length:Int))=false:=by simp [hl]
    have HL:=Lib.hid hl
    clear hl
    go_wp2_with fail
    go_loopw [13] (fun t wr=>∃ k:Nat,k≤ts.length∧t=.int .i64 k∧Below W.heap.size W wr∧Hid (∀ i (h1:i<ts.length) (h2:i<ts'.length),i<k→ts[i]=ts'[i])) (fun t _=>ts.length - (intOf t).toNat)
    case atStart=>exact ⟨0,Nat.zero_le _,rfl,Below.refl _ _,Lib.hid (fun i _ _ h=>absurd h (Nat.not_lt_zero i))⟩
    case round =>
      obtain ⟨k,hk,rfl,hb,hE⟩:=hrel
      by_cases hlt:k<ts.length
      · have hlt':k<ts'.length:=by have:=HL.out;omega
        obtain ⟨a,rfl,ha,hc⟩:=int_row H.out k hlt
        obtain ⟨a',rfl,ha',hc'⟩:=int_row H'.out k hlt'
        have f0:=(hb.cell (p:=a.add k) (by rw [add_block];exact ha)).trans hc
        have f0':=(hb.cell (p:=a'.add k) (by rw [add_block];exact ha')).trans hc'
        clear hc hc'
        by_cases hq:ts[k]=ts'[k]
        · have hq2:(ts[k] != ts'[k])=false:=by simp [hq]
          have HQ:=Lib.hid hq
          clear hq
          go_wp2_with fail
          go_region
          all_goals go_wp2
          all_goals exact ⟨⟨k+1,by omega,by go_num,by first | exact hb | exact below_drew hb,Lib.hid (fun i h1 h2 h3=>by
            by_cases e:i=k
            · subst e;exact HQ.out
            · exact hE.out i h1 h2 (by omega))⟩,by simp [intOf];omega⟩
        · have hq2:(ts[k] != ts'[k])=true:=by simpa using hq
          have HQ:=Lib.hid hq
          clear hq
          go_wp2_with fail
          go_region
          all_goals go_wp2
          all_goals go_ret
          all_goals exact ⟨false,rfl,by simp only [Bool.false_eq_true,false_iff];intro e;subst e;exact HQ.out rfl,by first | exact hb | exact below_drew hb⟩
      · go_wp2_with fail
        go_ret
        refine ⟨true,rfl,?_,hb⟩
        simp only [true_iff]
        exact list_ext HL.out (fun i h1 h2=>hE.out i h1 h2 (by omega))
  · have hl2:((ts.length:Int) != (ts'.length:Int))=true:=by simp;omega
    have HL:=Lib.hid hl
    clear hl
    go_wp2_with fail
    go_ret
    exact ⟨false,rfl,by simp only [Bool.false_eq_true,false_iff];intro e;subst e;exact HL.out rfl,Below.refl _ _⟩
set_option maxRecDepth 100000 in
set_option maxHeartbeats 2000000 in
theorem EqVals_any (W:World) (p p':Option Addr) (n n' c c':Nat) (ts ts':List Arg) (h:ListIn argC NoMem W.heap.size W p n c ts) (h':ListIn argC NoMem W.heap.size W p' n' c' ts') :
    Calls Tryz.prog 155 #[.slice p n c,.slice p' n' c'] W (Tells (ts=ts') W):=by
  obtain rfl:n=ts.length:=h.1
  obtain rfl:n' = ts'.length:=h'.1
  have k2:=h.2.1
  have k3:=h.2.2.1
  have k2':=h'.2.1
  have k3':=h'.2.2.1
  unfold maxLen at k3 k3'
  have H:=Lib.hid h
  have H':=Lib.hid h'
  clear h h'
  go_enter Tryz.func155,Tryz.ntmps155
  by_cases hl:ts.length=ts'.length
  · have hl2 : ((ts.length:Int) != (ts'.length:Int))=false:=by simp [hl]
    have HL:=Lib.hid hl
    clear hl
    go_wp2_with fail
    go_loopw [13] (fun t wr=>∃ k:Nat,k≤ts.length∧t=.int .i64 k∧Below W.heap.size W wr∧Hid (∀ i (h1:i<ts.length) (h2:i<ts'.length),i<k→ts[i]=ts'[i])) (fun t _=>ts.length - (intOf t).toNat)
    case atStart=>exact ⟨0,Nat.zero_le _,rfl,Below.refl _ _,Lib.hid (fun i _ _ h=>absurd h (Nat.not_lt_zero i))⟩
    case round =>
      obtain ⟨k,hk,rfl,hb,hE⟩:=hrel
      by_cases hlt:k<ts.length
      · have hlt':k<ts'.length:=by have:=HL.out;omega
        obtain ⟨a,rfl,ha,hc⟩:=arg_row H.out k hlt
        obtain ⟨a',rfl,ha',hc'⟩:=arg_row H'.out k hlt'
        obtain ⟨f0,f1,f2⟩:=hc.below hb (by rw [add_block];exact ha)
        obtain ⟨f0',f1',f2'⟩:=hc'.below hb (by rw [add_block];exact ha')
        clear hc hc'
        by_cases q0:ts[k].kind=ts'[k].kind∧ts[k].n=ts'[k].n∧ts[k].bits=ts'[k].bits
        · have HQ:Hid (ts[k]=ts'[k]):=Lib.hid (arg_ext q0.1 q0.2.1 q0.2.2)
          obtain ⟨q1,q2,q3⟩:=q0
          rw [← q1] at f0'
          rw [← q2] at f1'
          rw [← q3] at f2'
          clear q1 q2 q3
          go_wp2_with fail
          go_region
          all_goals go_wp2
          all_goals exact ⟨⟨k+1,by omega,by go_num,by first | exact hb | exact below_drew hb,Lib.hid (fun i h1 h2 h3=>by
            by_cases e:i=k
            · subst e;exact HQ.out
            · exact hE.out i h1 h2 (by omega))⟩,by simp [intOf];omega⟩
        · have HQ:Hid (¬ ts[k]=ts'[k]):=Lib.hid (fun e=>q0 ⟨by rw [e],by rw [e],by rw [e]⟩)
          by_cases q1:ts[k].kind=ts'[k].kind
          · rw [← q1] at f0'
            by_cases q2:ts[k].n=ts'[k].n
            · rw [← q2] at f1'
              have q3:¬ ts[k].bits=ts'[k].bits:=fun q3=>q0 ⟨q1,q2,q3⟩
              clear q0 q1 q2
              go_wp2_with fail
              go_region
              all_goals go_wp2
              all_goals go_ret
              all_goals exact ⟨false,rfl,by simp only [Bool.false_eq_true,false_iff];intro e;subst e;exact HQ.out rfl,by first | exact hb | exact below_drew hb⟩
            · clear q0 q1
              go_wp2_with fail
              go_region
              all_goals go_wp2
              all_goals go_ret
              all_goals exact ⟨false,rfl,by simp only [Bool.false_eq_true,false_iff];intro e;subst e;exact HQ.out rfl,by first | exact hb | exact below_drew hb⟩
          · clear q0
            go_wp2_with fail
            go_region
            all_goals go_wp2
            all_goals go_ret
            all_goals exact ⟨false,rfl,by simp only [Bool.false_eq_true,false_iff];intro e;subst e;exact HQ.out rfl,by first | exact hb | exact below_drew hb⟩
      · go_wp2_with fail
        go_ret
        refine ⟨true,rfl,?_,hb⟩
        simp only [true_iff]
        exact list_ext HL.out (fun i h1 h2=>hE.out i h1 h2 (by omega))
  · have hl2:((ts.length:Int) != (ts'.length:Int))=true:=by simp;omega
    have HL:=Lib.hid hl
    clear hl
    go_wp2_with fail
    go_ret
    exact ⟨false,rfl,by simp only [Bool.false_eq_true,false_iff];intro e;subst e;exact HL.out rfl,Below.refl _ _⟩
set_option maxRecDepth 100000 in
set_option maxHeartbeats 2000000 in
theorem EqFunc_C (h:FuncId) (hen:∀ (args:Array Value) (w:World),(callFunc h args).run Tryz.prog w=.ok (.enter h args) w) (hcall:∀ x y w,InsIn w.heap.size w x→InsIn w.heap.size w y→Calls Tryz.prog h #[.agg (liC x).toArray,.agg (liC y).toArray] w (Tells (insD x=insD y) w))
    (W:World) (p p':Option Addr) (n n' c c':Nat) (xs ys:List LI) (hx:ListIn liC InsIn W.heap.size W p n c xs) (hy:ListIn liC InsIn W.heap.size W p' n' c' ys) :
    Calls Tryz.prog 123 #[.slice p n c,.slice p' n' c',.func (.func h) #[] #[]] W (Tells (xs.map insD=ys.map insD) W):=by
  obtain rfl:n=xs.length:=hx.1
  obtain rfl:n' = ys.length:=hy.1
  have k2:=hx.2.1
  have k3:=hx.2.2.1
  have k2':=hy.2.1
  have k3':=hy.2.2.1
  unfold maxLen at k3 k3'
  have H:=Lib.hid hx
  have H':=Lib.hid hy
  have HC:=Lib.hid hcall
  clear hx hy hcall
  go_enter Tryz.func123,Tryz.ntmps123
  by_cases hl:xs.length=ys.length
  · have hl2:((xs.length:Int) != (ys.length:Int))=false:=by simp [hl]
    have HL:=Lib.hid hl
    clear hl
    go_wp2_with fail
    go_loopw [17] (fun t wr=>∃ k:Nat,k≤xs.length∧t=.int .i64 k∧Past W.heap.size W wr∧Hid (∀ i (h1:i<xs.length) (h2:i<ys.length),i<k→insD xs[i]=insD ys[i])) (fun t _=>xs.length - (intOf t).toNat)
    case atStart=>exact ⟨0,Nat.zero_le _,rfl,Past.refl (Nat.le_refl _),Lib.hid (fun i _ _ h=>absurd h (Nat.not_lt_zero i))⟩
    case round =>
      obtain ⟨k,hk,rfl,hb,hE⟩:=hrel
      by_cases hlt:k<xs.length
      · have hlt':k<ys.length:=by have:=HL.out;omega
        obtain ⟨a,rfl,ha,hc⟩:=li_row H.out k hlt
        obtain ⟨a',rfl,ha',hc'⟩:=li_row H'.out k hlt'
        obtain ⟨z0,z1,z2,z3,z4,z5,z6⟩:=hc.below hb.2 (by rw [add_block];exact ha)
        obtain ⟨y0,y1,y2,y3,y4,y5,y6⟩:=hc'.below hb.2 (by rw [add_block];exact ha')
        have hw:=hb.2.size
        have u1:(a'.add (k * 7)).block<wr.heap.size:=by rw [add_block];omega
        have u2:a'.block<wr.heap.size:=by omega
        have e1:=H.out.2.2.2.2 _ (List.getElem_mem hlt)
        have e2:=H'.out.2.2.2.2 _ (List.getElem_mem hlt')
        have P2:=(hb.alloc (.cells #[.int .i64 xs[k].1.op,.int .i64 xs[k].1.reg,.int .i64 xs[k].1.ty,.int .i64 xs[k].1.n,.int .i64 xs[k].1.fl,.slice xs[k].1.ap xs[k].1.al xs[k].1.ac,.slice xs[k].1.tp xs[k].1.tl xs[k].1.tc] 43)).alloc (.cells #[.int .i64 ys[k].1.op,.int .i64 ys[k].1.reg,.int .i64 ys[k].1.ty,.int .i64 ys[k].1.n,.int .i64 ys[k].1.fl,.slice ys[k].1.ap ys[k].1.al ys[k].1.ac,.slice ys[k].1.tp ys[k].1.tl ys[k].1.tc] 43)
        have hcc:=HC.out xs[k] ys[k] _ (past_lasts lasts_Ins e1 P2) (past_lasts lasts_Ins e2 P2)
        have HCC:=Lib.hid hcc
        clear hc hc' e1 e2 hcc
        go_wp2_with fail
        refine HCC.out.mono ?_
        rintro e w2 ⟨bt,rfl,hbt,hb2⟩
        have P3:=P2.trans ⟨P2.size,hb2.mono P2.size⟩
        cases bt
        · go_wp2_with fail
          go_ret
          refine ⟨false,rfl,?_,P3.2⟩
          simp only [Bool.false_eq_true,false_iff] at hbt ⊢
          intro e
          have e5:(xs.map insD)[k]? = (ys.map insD)[k]?:=by rw [e]
          rw [List.getElem?_map,List.getElem?_map,List.getElem?_eq_getElem hlt,List.getElem?_eq_getElem hlt'] at e5
          exact hbt (Option.some.inj e5)
        · have hq:=hbt.1 rfl
          have HQ:=Lib.hid hq
          clear hq hbt
          go_wp2_with fail
          exact ⟨⟨k+1,by omega,by go_num,P3,Lib.hid (fun i h1 h2 h3=>by
            by_cases e:i=k
            · subst e;exact HQ.out
            · exact hE.out i h1 h2 (by omega))⟩,by simp [intOf];omega⟩
      · go_wp2_with fail
        go_ret
        refine ⟨true,rfl,?_,hb.2⟩
        simp only [true_iff]
        exact list_ext (by simpa using HL.out) (fun i h1 h2=>by simpa using hE.out i (by simpa using h1) (by simpa using h2) (Nat.lt_of_lt_of_le (by simpa using h1) (by omega)))
  · have hl2:((xs.length:Int) != (ys.length:Int))=true:=by simp;omega
    have HL:=Lib.hid hl
    clear hl
    go_wp2_with fail
    go_ret
    exact ⟨false,rfl,by simp only [Bool.false_eq_true,false_iff];intro e;have e2:=congrArg List.length e;rw [List.length_map,List.length_map] at e2;exact HL.out e2,Below.refl _ _⟩
set_option maxRecDepth 100000 in
set_option maxHeartbeats 2000000 in
theorem EqFunc_B (h:FuncId) (hen:∀ (args:Array Value) (w:World),(callFunc h args).run Tryz.prog w=.ok (.enter h args) w) (hcall:∀ x y w,BlkIn w.heap.size w x→BlkIn w.heap.size w y→Calls Tryz.prog h #[.agg (blkC x).toArray,.agg (blkC y).toArray] w (Tells (blkD x=blkD y) w))
    (W:World) (p p':Option Addr) (n n' c c':Nat) (xs ys:List LB) (hx:ListIn blkC BlkIn W.heap.size W p n c xs) (hy:ListIn blkC BlkIn W.heap.size W p' n' c' ys) :
    Calls Tryz.prog 81 #[.slice p n c,.slice p' n' c',.func (.func h) #[] #[]] W (Tells (xs.map blkD=ys.map blkD) W):=by
  obtain rfl:n=xs.length:=hx.1
  obtain rfl:n' = ys.length:=hy.1
  have k2:=hx.2.1
  have k3:=hx.2.2.1
  have k2':=hy.2.1
  have k3':=hy.2.2.1
  unfold maxLen at k3 k3'
  have H:=Lib.hid hx
  have H':=Lib.hid hy
  have HC:=Lib.hid hcall
  clear hx hy hcall
  go_enter Tryz.func81,Tryz.ntmps81
  by_cases hl:xs.length=ys.length
  · have hl2:((xs.length:Int) != (ys.length:Int))=false:=by simp [hl]
    have HL:=Lib.hid hl
    clear hl
    go_wp2_with fail
    go_loopw [17] (fun t wr=>∃ k:Nat,k≤xs.length∧t=.int .i64 k∧Past W.heap.size W wr∧Hid (∀ i (h1:i<xs.length) (h2:i<ys.length),i<k→blkD xs[i]=blkD ys[i])) (fun t _=>xs.length - (intOf t).toNat)
    case atStart=>exact ⟨0,Nat.zero_le _,rfl,Past.refl (Nat.le_refl _),Lib.hid (fun i _ _ h=>absurd h (Nat.not_lt_zero i))⟩
    case round =>
      obtain ⟨k,hk,rfl,hb,hE⟩:=hrel
      by_cases hlt:k<xs.length
      · have hlt':k<ys.length:=by have:=HL.out;omega
        obtain ⟨a,rfl,ha,hc⟩:=blk_row H.out k hlt
        obtain ⟨a',rfl,ha',hc'⟩:=blk_row H'.out k hlt'
        have f0:=(hb.2.cell (p:=a.add k) (by rw [add_block];exact ha)).trans hc
        have f0':=(hb.2.cell (p:=a'.add k) (by rw [add_block];exact ha')).trans hc'
        have hw:=hb.2.size
        have u1:(a'.add (k)).block<wr.heap.size:=by rw [add_block];omega
        have u2:a'.block<wr.heap.size:=by omega
        have e1:=H.out.2.2.2.2 _ (List.getElem_mem hlt)
        have e2:=H'.out.2.2.2.2 _ (List.getElem_mem hlt')
        have P2:=(hb.alloc (.cells #[.slice xs[k].p xs[k].n xs[k].k] 46)).alloc (.cells #[.slice ys[k].p ys[k].n ys[k].k] 46)
        have hcc:=HC.out xs[k] ys[k] _ (past_lasts lasts_Blk e1 P2) (past_lasts lasts_Blk e2 P2)
        have HCC:=Lib.hid hcc
        clear hc hc' e1 e2 hcc
        go_wp2_with fail
        refine HCC.out.mono ?_
        rintro e w2 ⟨bt,rfl,hbt,hb2⟩
        have P3:=P2.trans ⟨P2.size,hb2.mono P2.size⟩
        cases bt
        · go_wp2_with fail
          go_ret
          refine ⟨false,rfl,?_,P3.2⟩
          simp only [Bool.false_eq_true,false_iff] at hbt ⊢
          intro e
          have e5:(xs.map blkD)[k]? = (ys.map blkD)[k]?:=by rw [e]
          rw [List.getElem?_map,List.getElem?_map,List.getElem?_eq_getElem hlt,List.getElem?_eq_getElem hlt'] at e5
          exact hbt (Option.some.inj e5)
        · have hq:=hbt.1 rfl
          have HQ:=Lib.hid hq
          clear hq hbt
          go_wp2_with fail
          exact ⟨⟨k+1,by omega,by go_num,P3,Lib.hid (fun i h1 h2 h3=>by
            by_cases e:i=k
            · subst e;exact HQ.out
            · exact hE.out i h1 h2 (by omega))⟩,by simp [intOf];omega⟩
      · go_wp2_with fail
        go_ret
        refine ⟨true,rfl,?_,hb.2⟩
        simp only [true_iff]
        exact list_ext (by simpa using HL.out) (fun i h1 h2=>by simpa using hE.out i (by simpa using h1) (by simpa using h2) (Nat.lt_of_lt_of_le (by simpa using h1) (by omega)))
  · have hl2:((xs.length:Int) != (ys.length:Int))=true:=by simp;omega
    have HL:=Lib.hid hl
    clear hl
    go_wp2_with fail
    go_ret
    exact ⟨false,rfl,by simp only [Bool.false_eq_true,false_iff];intro e;have e2:=congrArg List.length e;rw [List.length_map,List.length_map] at e2;exact HL.out e2,Below.refl _ _⟩
set_option maxRecDepth 100000 in
set_option maxHeartbeats 1000000 in
theorem sameInstr_any (x y:LI) (W:World) (h:InsIn W.heap.size W x) (h':InsIn W.heap.size W y) :
    Calls Tryz.prog 124 #[.agg (liC x).toArray,.agg (liC y).toArray] W (Tells (insD x=insD y) W):=by
  obtain ⟨⟨op,rg,ty,nn,fl,ap,al,ac,tp,tl,tc,args⟩,ts⟩:=x
  obtain ⟨⟨op',rg',ty',nn',fl',ap',al',ac',tp',tl',tc',args'⟩,ts'⟩:=y
  have H:=Lib.hid h
  have H':=Lib.hid h'
  clear h h'
  show Calls Tryz.prog 124 #[.agg #[.int .i64 op,.int .i64 rg,.int .i64 ty,.int .i64 nn,.int .i64 fl,.slice ap al ac,.slice tp tl tc],.agg #[.int .i64 op',.int .i64 rg',.int .i64 ty',.int .i64 nn',.int .i64 fl',.slice ap' al' ac',.slice tp' tl' tc']] W _
  have hP:=(Past.refl (Nat.le_refl W.heap.size)).alloc (.cells #[.int .i64 op,.int .i64 rg,.int .i64 ty,.int .i64 nn,.int .i64 fl,.slice ap al ac,.slice tp tl tc] 43)
  have A1:Box W.heap.size [.int .i64 op,.int .i64 rg,.int .i64 ty,.int .i64 nn,.int .i64 fl,.slice ap al ac,.slice tp tl tc] (W.alloc (.cells #[.int .i64 op,.int .i64 rg,.int .i64 ty,.int .i64 nn,.int .i64 fl,.slice ap al ac,.slice tp tl tc] 43)):=Box.new W rfl _ _
  have z1:(W.alloc (.cells #[.int .i64 op,.int .i64 rg,.int .i64 ty,.int .i64 nn,.int .i64 fl,.slice ap al ac,.slice tp tl tc] 43)).heap.size=W.heap.size+1:=by simp
  go_enter Tryz.func124,Tryz.ntmps124
  go_upto_region 1 with fail
  generalize (W.alloc (.cells #[.int .i64 op,.int .i64 rg,.int .i64 ty,.int .i64 nn,.int .i64 fl,.slice ap al ac,.slice tp tl tc] 43))=w1 at *
  have hP2:=hP.alloc (.cells #[.int .i64 op',.int .i64 rg',.int .i64 ty',.int .i64 nn',.int .i64 fl',.slice ap' al' ac',.slice tp' tl' tc'] 43)
  have A2:=A1.alloc (.cells #[.int .i64 op',.int .i64 rg',.int .i64 ty',.int .i64 nn',.int .i64 fl',.slice ap' al' ac',.slice tp' tl' tc'] 43)
  have B2:Box (W.heap.size+1) [.int .i64 op',.int .i64 rg',.int .i64 ty',.int .i64 nn',.int .i64 fl',.slice ap' al' ac',.slice tp' tl' tc'] (w1.alloc (.cells #[.int .i64 op',.int .i64 rg',.int .i64 ty',.int .i64 nn',.int .i64 fl',.slice ap' al' ac',.slice tp' tl' tc'] 43)):=Box.new w1 (by omega) _ _
  generalize (w1.alloc (.cells #[.int .i64 op',.int .i64 rg',.int .i64 ty',.int .i64 nn',.int .i64 fl',.slice ap' al' ac',.slice tp' tl' tc'] 43))=w2 at *
  have a0:=A2.get 0 _ rfl
  have a1:=A2.get 1 _ rfl
  have a2:=A2.get 2 _ rfl
  have a3:=A2.get 3 _ rfl
  have a4:=A2.get 4 _ rfl
  have a5:=A2.get 5 _ rfl
  have a6:=A2.get 6 _ rfl
  have b0:=B2.get 0 _ rfl
  have b1:=B2.get 1 _ rfl
  have b2:=B2.get 2 _ rfl
  have b3:=B2.get 3 _ rfl
  have b4:=B2.get 4 _ rfl
  have b5:=B2.get 5 _ rfl
  have b6:=B2.get 6 _ rfl
  clear A1 hP z1
  by_cases e0:op=op'
  · have g0 : (op==op')=true:=by simp [e0]
    have E0:=Lib.hid e0
    clear e0
    by_cases e1:rg=rg'
    · have g1 : (rg==rg')=true:=by simp [e1]
      have E1:=Lib.hid e1
      clear e1
      by_cases e2:ty=ty'
      · have g2 : (ty==ty')=true:=by simp [e2]
        have E2:=Lib.hid e2
        clear e2
        by_cases e3:nn=nn'
        · have g3:(nn==nn')=true:=by simp [e3]
          have E3:=Lib.hid e3
          clear e3
          by_cases e4:fl=fl'
          · have g4:(fl==fl')=true:=by simp [e4]
            have E4:=Lib.hid e4
            clear e4
            go_wp2_with fail
            refine (EqVals_any w2 ap ap' al al' ac ac' args args' (H.out.1.lasts lasts_NoMem hP2.2 hP2.2.size) (H'.out.1.lasts lasts_NoMem hP2.2 hP2.2.size)).mono ?_
            rintro e w3 ⟨bt,rfl,hbt,hb3⟩
            have HBT:=Lib.hid hbt
            clear hbt
            have P3:=hP2.trans ⟨hP2.size,hb3.mono hP2.size⟩
            have A3:=A2.later hb3
            have B3:=B2.later hb3
            clear a0 a1 a2 a3 a4 a5 a6 b0 b1 b2 b3 b4 b5 b6
            have a6:=A3.get 6 _ rfl
            have b6:=B3.get 6 _ rfl
            cases bt
            · go_wp2_with fail
              go_ret
              exact ⟨false,rfl,by simp only [Bool.false_eq_true,false_iff];exact fun e=>Bool.noConfusion (HBT.out.2 (congrArg PIns.args e)),P3.2⟩
            · have hA:=Lib.hid (HBT.out.1 rfl)
              clear HBT
              go_wp2_with fail
              refine (EqInts_any w3 tp tp' tl tl' tc tc' ts ts' (H.out.2.lasts lasts_NoMem P3.2 P3.2.size) (H'.out.2.lasts lasts_NoMem P3.2 P3.2.size)).mono ?_
              rintro e w4 ⟨bt,rfl,hbt,hb4⟩
              have HBT:=Lib.hid hbt
              clear hbt
              go_wp2_with fail
              go_ret
              refine ⟨bt,rfl,HBT.out.trans ?_,P3.2.trans (hb4.mono P3.size)⟩
              constructor
              · intro e
                show (⟨op,rg,ty,nn,fl,args,ts⟩:PIns)=⟨op',rg',ty',nn',fl',args',ts'⟩
                rw [E0.out,E1.out,E2.out,E3.out,E4.out,hA.out,e]
              · exact fun e=>congrArg PIns.tg e
          · have g4:(fl==fl')=false:=by simpa using e4
            have E4:=Lib.hid e4
            clear e4
            go_wp2_with fail
            go_ret
            exact ⟨false,rfl,by simp only [Bool.false_eq_true,false_iff];intro e;exact E4.out (congrArg (fun z:PIns=>z.fl) e),hP2.2⟩
        · have g3:(nn==nn')=false:=by simpa using e3
          have E3:=Lib.hid e3
          clear e3
          go_wp2_with fail
          go_ret
          exact ⟨false,rfl,by simp only [Bool.false_eq_true,false_iff];intro e;exact E3.out (congrArg (fun z:PIns=>z.n) e),hP2.2⟩
      · have g2:(ty==ty')=false:=by simpa using e2
        have E2:=Lib.hid e2
        clear e2
        go_wp2_with fail
        go_ret
        exact ⟨false,rfl,by simp only [Bool.false_eq_true,false_iff];intro e;exact E2.out (congrArg (fun z:PIns=>z.ty) e),hP2.2⟩
    · have g1:(rg==rg')=false:=by simpa using e1
      have E1:=Lib.hid e1
      clear e1
      go_wp2_with fail
      go_ret
      exact ⟨false,rfl,by simp only [Bool.false_eq_true,false_iff];intro e;exact E1.out (congrArg (fun z:PIns=>z.reg) e),hP2.2⟩
  · have g0:(op==op')=false:=by simpa using e0
    have E0:=Lib.hid e0
    clear e0
    go_wp2_with fail
    go_ret
    exact ⟨false,rfl,by simp only [Bool.false_eq_true,false_iff];intro e;exact E0.out (congrArg (fun z:PIns=>z.op) e),hP2.2⟩
set_option maxRecDepth 100000 in
theorem enters_si:∀ (args:Array Value) (w:World),(callFunc 124 args).run Tryz.prog w=.ok (.enter 124 args) w:=fun _ _=>rfl
set_option maxRecDepth 100000 in
theorem enters_sb:∀ (args:Array Value) (w:World),(callFunc 82 args).run Tryz.prog w=.ok (.enter 82 args) w:=fun _ _=>rfl
set_option maxRecDepth 100000 in
set_option maxHeartbeats 1000000 in
theorem sameBlock_any (x y:LB) (W:World) (h:BlkIn W.heap.size W x) (h':BlkIn W.heap.size W y) :
    Calls Tryz.prog 82 #[.agg (blkC x).toArray,.agg (blkC y).toArray] W (Tells (blkD x=blkD y) W):=by
  have H:=Lib.hid h
  have H':=Lib.hid h'
  clear h h'
  show Calls Tryz.prog 82 #[.agg #[.slice x.p x.n x.k],.agg #[.slice y.p y.n y.k]] W _
  have P2:=((Past.refl (Nat.le_refl W.heap.size)).alloc (.cells #[.slice x.p x.n x.k] 46)).alloc (.cells #[.slice y.p y.n y.k] 46)
  have hc:=EqFunc_C 124 enters_si sameInstr_any _ x.p y.p x.n y.n x.k y.k x.code y.code (ListIn.lasts lasts_Ins H.out P2.2 P2.2.size) (ListIn.lasts lasts_Ins H'.out P2.2 P2.2.size)
  have HC:=Lib.hid hc
  clear hc
  go_enter Tryz.func82,Tryz.ntmps82
  go_wp2_with fail
  refine HC.out.mono ?_
  rintro e w3 ⟨bt,rfl,hbt,hb3⟩
  have HBT:=Lib.hid hbt
  clear hbt
  go_wp2_with fail
  go_ret
  exact ⟨bt,rfl,HBT.out,P2.2.trans (hb3.mono P2.size)⟩
set_option maxRecDepth 100000 in
set_option maxHeartbeats 1000000 in
theorem SameFunc_any (x y:LFn) (W:World) (h:FnIn W.heap.size W x) (h':FnIn W.heap.size W y) :
    Calls Tryz.prog 37 #[.agg (fnC x).toArray,.agg (fnC y).toArray] W (Tells (fnD x=fnD y) W):=by
  obtain ⟨nm,pp,pn,pc,ps,rt,bp,bn,bc,bs⟩:=x
  obtain ⟨nm',pp',pn',pc',ps',rt',bp',bn',bc',bs'⟩:=y
  have H:=Lib.hid h
  have H':=Lib.hid h'
  clear h h'
  show Calls Tryz.prog 37 #[.agg #[.string nm,.slice pp pn pc,.int .i64 rt,.slice bp bn bc],.agg #[.string nm',.slice pp' pn' pc',.int .i64 rt',.slice bp' bn' bc']] W _
  have hP:=(Past.refl (Nat.le_refl W.heap.size)).alloc (.cells #[.string nm,.slice pp pn pc,.int .i64 rt,.slice bp bn bc] 49)
  have A1:Box W.heap.size [.string nm,.slice pp pn pc,.int .i64 rt,.slice bp bn bc] (W.alloc (.cells #[.string nm,.slice pp pn pc,.int .i64 rt,.slice bp bn bc] 49)):=Box.new W rfl _ _
  have z1:(W.alloc (.cells #[.string nm,.slice pp pn pc,.int .i64 rt,.slice bp bn bc] 49)).heap.size=W.heap.size+1:=by simp
  go_enter Tryz.func37,Tryz.ntmps37
  go_upto_region 1 with fail
  generalize (W.alloc (.cells #[.string nm,.slice pp pn pc,.int .i64 rt,.slice bp bn bc] 49))=w1 at *
  have hP2:=hP.alloc (.cells #[.string nm',.slice pp' pn' pc',.int .i64 rt',.slice bp' bn' bc'] 49)
  have A2:=A1.alloc (.cells #[.string nm',.slice pp' pn' pc',.int .i64 rt',.slice bp' bn' bc'] 49)
  have B2:Box (W.heap.size+1) [.string nm',.slice pp' pn' pc',.int .i64 rt',.slice bp' bn' bc'] (w1.alloc (.cells #[.string nm',.slice pp' pn' pc',.int .i64 rt',.slice bp' bn' bc'] 49)):=Box.new w1 (by omega) _ _
  generalize (w1.alloc (.cells #[.string nm',.slice pp' pn' pc',.int .i64 rt',.slice bp' bn' bc'] 49))=w2 at *
  have a0:=A2.get 0 _ rfl
  have a1:=A2.get 1 _ rfl
  have a2:=A2.get 2 _ rfl
  have a3:=A2.get 3 _ rfl
  have b0:=B2.get 0 _ rfl
  have b1:=B2.get 1 _ rfl
  have b2:=B2.get 2 _ rfl
  have b3:=B2.get 3 _ rfl
  clear A1 hP z1
  by_cases e0:nm=nm'
  · subst e0
    by_cases e1:rt=rt'
    · have g1:(rt==rt')=true:=by simp [e1]
      have E1:=Lib.hid e1
      clear e1
      go_wp2_with fail
      refine (EqInts_any w2 pp pp' pn pn' pc pc' ps ps' (H.out.1.lasts lasts_NoMem hP2.2 hP2.2.size) (H'.out.1.lasts lasts_NoMem hP2.2 hP2.2.size)).mono ?_
      rintro e w3 ⟨bt,rfl,hbt,hb3⟩
      have HBT:=Lib.hid hbt
      clear hbt
      have P3:=hP2.trans ⟨hP2.size,hb3.mono hP2.size⟩
      have A3:=A2.later hb3
      have B3:=B2.later hb3
      clear a0 a1 a2 a3 b0 b1 b2 b3
      have a3:=A3.get 3 _ rfl
      have b3:=B3.get 3 _ rfl
      cases bt
      · go_wp2_with fail
        go_ret
        exact ⟨false,rfl,by simp only [Bool.false_eq_true,false_iff];exact fun e=>Bool.noConfusion (HBT.out.2 (congrArg PFn.ps e)),P3.2⟩
      · have hA:=Lib.hid (HBT.out.1 rfl)
        clear HBT
        go_wp2_with fail
        refine (EqFunc_B 82 enters_sb sameBlock_any w3 bp bp' bn bn' bc bc' bs bs' (H.out.2.lasts lasts_Blk P3.2 P3.2.size) (H'.out.2.lasts lasts_Blk P3.2 P3.2.size)).mono ?_
        rintro e w4 ⟨bt,rfl,hbt,hb4⟩
        have HBT:=Lib.hid hbt
        clear hbt
        go_wp2_with fail
        go_ret
        refine ⟨bt,rfl,HBT.out.trans ?_,P3.2.trans (hb4.mono P3.size)⟩
        constructor
        · intro e
          show (⟨nm,ps,rt,bs.map blkD⟩:PFn)=⟨nm,ps',rt',bs'.map blkD⟩
          rw [E1.out,hA.out,e]
        · exact fun e=>congrArg PFn.bs e
    · have g1:(rt==rt')=false:=by simpa using e1
      have E1:=Lib.hid e1
      clear e1
      go_wp2_with fail
      go_ret
      exact ⟨false,rfl,by simp only [Bool.false_eq_true,false_iff];exact fun e=>E1.out (congrArg PFn.rt e),hP2.2⟩
  · have E0:=Lib.hid e0
    have g0:¬ nm.toList=nm'.toList:=fun e=>e0 (str_inj e)
    clear e0
    go_wp2_with fail
    go_ret
    exact ⟨false,rfl,by simp only [Bool.false_eq_true,false_iff];exact fun e=>E0.out (congrArg PFn.nm e),hP2.2⟩
theorem own_nil {α:Type} {ty m:Nat} {cel:α→List Value} {Q:Nat→Nat→World→α→Prop} {a b:Nat} (w:World) (h:a≤b):ListOwn ty m cel Q a b w none 0 0 []:=⟨rfl,World.ownsRow_nil w a ty m,fun g e=>by simp [Value.ownBlock] at e,h⟩
theorem extsZ_mem {l:List PExt} {x:PExt} (h:x∈l):extZ x≤(l.map extZ).sum:=sum_mem extZ h
theorem fnsZ_mem {l:List PFn} {x:PFn} (h:x∈l):fnZ x≤(l.map fnZ).sum:=sum_mem fnZ h
theorem ext_row {B:Nat} {w:World} {p:Option Addr} {n c:Nat} {L:List LExt} {E:Nat→World→LExt→Prop} (h:ListIn extC E B w p n c L) (i:Nat) (hi:i<L.length) :
    ∃ a,p=some a∧a.block<B∧w.cell? (a.add (i * 3))=some (.string L[i].nm)∧w.cell? ⟨(a.add (i * 3)).block,(a.add (i * 3)).off+1,none⟩=some (.slice L[i].pp L[i].pn L[i].pc)∧w.cell? ⟨(a.add (i * 3)).block,(a.add (i * 3)).off+2,none⟩=some (.int .i64 L[i].rt):=by
  obtain ⟨h1,h2,h3,h4,-⟩:=h
  obtain ⟨a,e,ha,hc⟩:=h4.at (m:=3) (fun _=>rfl) i hi (by decide)
  refine ⟨a,e,ha,hc 0 (by decide),?_,?_⟩
  · have:=hc 1 (by decide);rw [add_add a _ 1 (by decide)] at this;exact this
  · have:=hc 2 (by decide);rw [add_add a _ 2 (by decide)] at this;exact this
theorem fn_row {B:Nat} {w:World} {p:Option Addr} {n c:Nat} {L:List LFn} {E:Nat→World→LFn→Prop} (h:ListIn fnC E B w p n c L) (i:Nat) (hi:i<L.length) :
    ∃ a,p=some a∧a.block<B∧w.cell? (a.add (i * 4))=some (.string L[i].nm)∧w.cell? ⟨(a.add (i * 4)).block,(a.add (i * 4)).off+1,none⟩=some (.slice L[i].pp L[i].pn L[i].pc)∧w.cell? ⟨(a.add (i * 4)).block,(a.add (i * 4)).off+2,none⟩=some (.int .i64 L[i].rt)∧w.cell? ⟨(a.add (i * 4)).block,(a.add (i * 4)).off+3,none⟩=some (.slice L[i].bp L[i].bn L[i].bc):=by
  obtain ⟨h1,h2,h3,h4,-⟩:=h
  obtain ⟨a,e,ha,hc⟩:=h4.at (m:=4) (fun _=>rfl) i hi (by decide)
  refine ⟨a,e,ha,hc 0 (by decide),?_,?_,?_⟩
  · have:=hc 1 (by decide);rw [add_add a _ 1 (by decide)] at this;exact this
  · have:=hc 2 (by decide);rw [add_add a _ 2 (by decide)] at this;exact this
  · have:=hc 3 (by decide);rw [add_add a _ 3 (by decide)] at this;exact this
theorem blk_add (a:Addr) (i:Nat) {B:Nat} (h:a.block<B):(a.add i).block<B:=by rw [add_block];exact h
set_option maxRecDepth 100000 in
set_option maxHeartbeats 2000000 in
theorem EqFunc_X (h:FuncId) (hen:∀ (args:Array Value) (w:World),(callFunc h args).run Tryz.prog w=.ok (.enter h args) w) (hcall:∀ x y w,ExtIn w.heap.size w x→ExtIn w.heap.size w y→Calls Tryz.prog h #[.agg (extC x).toArray,.agg (extC y).toArray] w (Tells (extD x=extD y) w))
    (W:World) (p p':Option Addr) (n n' c c':Nat) (xs ys:List LExt) (hx:ListIn extC ExtIn W.heap.size W p n c xs) (hy:ListIn extC ExtIn W.heap.size W p' n' c' ys) :
    Calls Tryz.prog 34 #[.slice p n c,.slice p' n' c',.func (.func h) #[] #[]] W (Tells (xs.map extD=ys.map extD) W):=by
  obtain rfl:n=xs.length:=hx.1
  obtain rfl:n' = ys.length:=hy.1
  have k2:=hx.2.1
  have k3:=hx.2.2.1
  have k2':=hy.2.1
  have k3':=hy.2.2.1
  unfold maxLen at k3 k3'
  have H:=Lib.hid hx
  have H':=Lib.hid hy
  have HC:=Lib.hid hcall
  clear hx hy hcall
  go_enter Tryz.func34,Tryz.ntmps34
  by_cases hl:xs.length=ys.length
  · have hl2:((xs.length:Int) != (ys.length:Int))=false:=by simp [hl]
    have HL:=Lib.hid hl
    clear hl
    go_wp2_with fail
    go_loopw [17] (fun t wr=>∃ k:Nat,k≤xs.length∧t=.int .i64 k∧Past W.heap.size W wr∧Hid (∀ i (h1:i<xs.length) (h2:i<ys.length),i<k→extD xs[i]=extD ys[i])) (fun t _=>xs.length - (intOf t).toNat)
    case atStart=>exact ⟨0,Nat.zero_le _,rfl,Past.refl (Nat.le_refl _),Lib.hid (fun i _ _ h=>absurd h (Nat.not_lt_zero i))⟩
    case round =>
      obtain ⟨k,hk,rfl,hb,hE⟩:=hrel
      by_cases hlt:k<xs.length
      · have hlt':k<ys.length:=by have:=HL.out;omega
        obtain ⟨a,rfl,ha,hc⟩:=ext_row H.out k hlt
        obtain ⟨a',rfl,ha',hc'⟩:=ext_row H'.out k hlt'
        obtain ⟨zc0,zc1,zc2⟩:=hc
        have z0:=(hb.2.cell (p:=a.add (k * 3)) (blk_add a _ ha)).trans zc0
        have z1:=(hb.2.cell (p:=⟨(a.add (k * 3)).block,(a.add (k * 3)).off+1,none⟩) (blk_add a _ ha)).trans zc1
        have z2:=(hb.2.cell (p:=⟨(a.add (k * 3)).block,(a.add (k * 3)).off+2,none⟩) (blk_add a _ ha)).trans zc2
        clear zc0 zc1 zc2
        obtain ⟨yc0,yc1,yc2⟩:=hc'
        have y0:=(hb.2.cell (p:=a'.add (k * 3)) (blk_add a' _ ha')).trans yc0
        have y1:=(hb.2.cell (p:=⟨(a'.add (k * 3)).block,(a'.add (k * 3)).off+1,none⟩) (blk_add a' _ ha')).trans yc1
        have y2:=(hb.2.cell (p:=⟨(a'.add (k * 3)).block,(a'.add (k * 3)).off+2,none⟩) (blk_add a' _ ha')).trans yc2
        clear yc0 yc1 yc2
        have hw:=hb.2.size
        have u1:(a'.add (k * 3)).block<wr.heap.size:=by rw [add_block];omega
        have u2:a'.block<wr.heap.size:=by omega
        have e1:=H.out.2.2.2.2 _ (List.getElem_mem hlt)
        have e2:=H'.out.2.2.2.2 _ (List.getElem_mem hlt')
        have P2:=(hb.alloc (.cells #[.string xs[k].nm,.slice xs[k].pp xs[k].pn xs[k].pc,.int .i64 xs[k].rt] 52)).alloc (.cells #[.string ys[k].nm,.slice ys[k].pp ys[k].pn ys[k].pc,.int .i64 ys[k].rt] 52)
        have hcc:=HC.out xs[k] ys[k] _ (past_lasts lasts_Ext e1 P2) (past_lasts lasts_Ext e2 P2)
        have HCC:=Lib.hid hcc
        clear e1 e2 hcc
        go_wp2_with fail
        refine HCC.out.mono ?_
        rintro e w2 ⟨bt,rfl,hbt,hb2⟩
        have P3:=P2.trans ⟨P2.size,hb2.mono P2.size⟩
        cases bt
        · go_wp2_with fail
          go_ret
          refine ⟨false,rfl,?_,P3.2⟩
          simp only [Bool.false_eq_true,false_iff] at hbt ⊢
          intro e
          have e5:(xs.map extD)[k]? = (ys.map extD)[k]?:=by rw [e]
          rw [List.getElem?_map,List.getElem?_map,List.getElem?_eq_getElem hlt,List.getElem?_eq_getElem hlt'] at e5
          exact hbt (Option.some.inj e5)
        · have hq:=hbt.1 rfl
          have HQ:=Lib.hid hq
          clear hq hbt
          go_wp2_with fail
          exact ⟨⟨k+1,by omega,by go_num,P3,Lib.hid (fun i h1 h2 h3=>by
            by_cases e:i=k
            · subst e;exact HQ.out
            · exact hE.out i h1 h2 (by omega))⟩,by simp [intOf];omega⟩
      · go_wp2_with fail
        go_ret
        refine ⟨true,rfl,?_,hb.2⟩
        simp only [true_iff]
        exact list_ext (by simpa using HL.out) (fun i h1 h2=>by simpa using hE.out i (by simpa using h1) (by simpa using h2) (Nat.lt_of_lt_of_le (by simpa using h1) (by omega)))
  · have hl2:((xs.length:Int) != (ys.length:Int))=true:=by simp;omega
    have HL:=Lib.hid hl
    clear hl
    go_wp2_with fail
    go_ret
    exact ⟨false,rfl,by simp only [Bool.false_eq_true,false_iff];intro e;have e2:=congrArg List.length e;rw [List.length_map,List.length_map] at e2;exact HL.out e2,Below.refl _ _⟩
set_option maxRecDepth 100000 in
set_option maxHeartbeats 2000000 in
theorem EqFunc_F (h:FuncId) (hen:∀ (args:Array Value) (w:World),(callFunc h args).run Tryz.prog w=.ok (.enter h args) w) (hcall:∀ x y w,FnIn w.heap.size w x→FnIn w.heap.size w y→Calls Tryz.prog h #[.agg (fnC x).toArray,.agg (fnC y).toArray] w (Tells (fnD x=fnD y) w))
    (W:World) (p p':Option Addr) (n n' c c':Nat) (xs ys:List LFn) (hx:ListIn fnC FnIn W.heap.size W p n c xs) (hy:ListIn fnC FnIn W.heap.size W p' n' c' ys) :
    Calls Tryz.prog 36 #[.slice p n c,.slice p' n' c',.func (.func h) #[] #[]] W (Tells (xs.map fnD=ys.map fnD) W):=by
  obtain rfl:n=xs.length:=hx.1
  obtain rfl:n' = ys.length:=hy.1
  have k2:=hx.2.1
  have k3:=hx.2.2.1
  have k2':=hy.2.1
  have k3':=hy.2.2.1
  unfold maxLen at k3 k3'
  have H:=Lib.hid hx
  have H':=Lib.hid hy
  have HC:=Lib.hid hcall
  clear hx hy hcall
  go_enter Tryz.func36,Tryz.ntmps36
  by_cases hl:xs.length=ys.length
  · have hl2:((xs.length:Int) != (ys.length:Int))=false:=by simp [hl]
    have HL:=Lib.hid hl
    clear hl
    go_wp2_with fail
    go_loopw [17] (fun t wr=>∃ k:Nat,k≤xs.length∧t=.int .i64 k∧Past W.heap.size W wr∧Hid (∀ i (h1:i<xs.length) (h2:i<ys.length),i<k→fnD xs[i]=fnD ys[i])) (fun t _=>xs.length - (intOf t).toNat)
    case atStart=>exact ⟨0,Nat.zero_le _,rfl,Past.refl (Nat.le_refl _),Lib.hid (fun i _ _ h=>absurd h (Nat.not_lt_zero i))⟩
    case round =>
      obtain ⟨k,hk,rfl,hb,hE⟩:=hrel
      by_cases hlt:k<xs.length
      · have hlt':k<ys.length:=by have:=HL.out;omega
        obtain ⟨a,rfl,ha,hc⟩:=fn_row H.out k hlt
        obtain ⟨a',rfl,ha',hc'⟩:=fn_row H'.out k hlt'
        obtain ⟨zc0,zc1,zc2,zc3⟩:=hc
        have z0:=(hb.2.cell (p:=a.add (k * 4)) (blk_add a _ ha)).trans zc0
        have z1:=(hb.2.cell (p:=⟨(a.add (k * 4)).block,(a.add (k * 4)).off+1,none⟩) (blk_add a _ ha)).trans zc1
        have z2:=(hb.2.cell (p:=⟨(a.add (k * 4)).block,(a.add (k * 4)).off+2,none⟩) (blk_add a _ ha)).trans zc2
        have z3:=(hb.2.cell (p:=⟨(a.add (k * 4)).block,(a.add (k * 4)).off+3,none⟩) (blk_add a _ ha)).trans zc3
        clear zc0 zc1 zc2 zc3
        obtain ⟨yc0,yc1,yc2,yc3⟩:=hc'
        have y0:=(hb.2.cell (p:=a'.add (k * 4)) (blk_add a' _ ha')).trans yc0
        have y1:=(hb.2.cell (p:=⟨(a'.add (k * 4)).block,(a'.add (k * 4)).off+1,none⟩) (blk_add a' _ ha')).trans yc1
        have y2:=(hb.2.cell (p:=⟨(a'.add (k * 4)).block,(a'.add (k * 4)).off+2,none⟩) (blk_add a' _ ha')).trans yc2
        have y3:=(hb.2.cell (p:=⟨(a'.add (k * 4)).block,(a'.add (k * 4)).off+3,none⟩) (blk_add a' _ ha')).trans yc3
        clear yc0 yc1 yc2 yc3
        have hw:=hb.2.size
        have u1:(a'.add (k * 4)).block<wr.heap.size:=by rw [add_block];omega
        have u2:a'.block<wr.heap.size:=by omega
        have e1:=H.out.2.2.2.2 _ (List.getElem_mem hlt)
        have e2:=H'.out.2.2.2.2 _ (List.getElem_mem hlt')
        have P2:=(hb.alloc (.cells #[.string xs[k].nm,.slice xs[k].pp xs[k].pn xs[k].pc,.int .i64 xs[k].rt,.slice xs[k].bp xs[k].bn xs[k].bc] 49)).alloc (.cells #[.string ys[k].nm,.slice ys[k].pp ys[k].pn ys[k].pc,.int .i64 ys[k].rt,.slice ys[k].bp ys[k].bn ys[k].bc] 49)
        have hcc:=HC.out xs[k] ys[k] _ (past_lasts lasts_Fn e1 P2) (past_lasts lasts_Fn e2 P2)
        have HCC:=Lib.hid hcc
        clear e1 e2 hcc
        go_wp2_with fail
        refine HCC.out.mono ?_
        rintro e w2 ⟨bt,rfl,hbt,hb2⟩
        have P3:=P2.trans ⟨P2.size,hb2.mono P2.size⟩
        cases bt
        · go_wp2_with fail
          go_ret
          refine ⟨false,rfl,?_,P3.2⟩
          simp only [Bool.false_eq_true,false_iff] at hbt ⊢
          intro e
          have e5:(xs.map fnD)[k]? = (ys.map fnD)[k]?:=by rw [e]
          rw [List.getElem?_map,List.getElem?_map,List.getElem?_eq_getElem hlt,List.getElem?_eq_getElem hlt'] at e5
          exact hbt (Option.some.inj e5)
        · have hq:=hbt.1 rfl
          have HQ:=Lib.hid hq
          clear hq hbt
          go_wp2_with fail
          exact ⟨⟨k+1,by omega,by go_num,P3,Lib.hid (fun i h1 h2 h3=>by
            by_cases e:i=k
            · subst e;exact HQ.out
            · exact hE.out i h1 h2 (by omega))⟩,by simp [intOf];omega⟩
      · go_wp2_with fail
        go_ret
        refine ⟨true,rfl,?_,hb.2⟩
        simp only [true_iff]
        exact list_ext (by simpa using HL.out) (fun i h1 h2=>by simpa using hE.out i (by simpa using h1) (by simpa using h2) (Nat.lt_of_lt_of_le (by simpa using h1) (by omega)))
  · have hl2:((xs.length:Int) != (ys.length:Int))=true:=by simp;omega
    have HL:=Lib.hid hl
    clear hl
    go_wp2_with fail
    go_ret
    exact ⟨false,rfl,by simp only [Bool.false_eq_true,false_iff];intro e;have e2:=congrArg List.length e;rw [List.length_map,List.length_map] at e2;exact HL.out e2,Below.refl _ _⟩
set_option maxRecDepth 100000 in
theorem enters_sx:∀ (args:Array Value) (w:World),(callFunc 35 args).run Tryz.prog w=.ok (.enter 35 args) w:=fun _ _=>rfl
set_option maxRecDepth 100000 in
theorem enters_sf:∀ (args:Array Value) (w:World),(callFunc 37 args).run Tryz.prog w=.ok (.enter 37 args) w:=fun _ _=>rfl
set_option maxRecDepth 100000 in
set_option maxHeartbeats 1000000 in
theorem sameExtern_any (x y:LExt) (W:World) (h:ExtIn W.heap.size W x) (h':ExtIn W.heap.size W y) :
    Calls Tryz.prog 35 #[.agg (extC x).toArray,.agg (extC y).toArray] W (Tells (extD x=extD y) W):=by
  obtain ⟨nm,pp,pn,pc,ps,rt⟩:=x
  obtain ⟨nm',pp',pn',pc',ps',rt'⟩:=y
  have H:Hid (ListIn intC NoMem W.heap.size W pp pn pc ps):=Lib.hid h
  have H':Hid (ListIn intC NoMem W.heap.size W pp' pn' pc' ps'):=Lib.hid h'
  clear h h'
  show Calls Tryz.prog 35 #[.agg #[.string nm,.slice pp pn pc,.int .i64 rt],.agg #[.string nm',.slice pp' pn' pc',.int .i64 rt']] W _
  have hP:=(Past.refl (Nat.le_refl W.heap.size)).alloc (.cells #[.string nm,.slice pp pn pc,.int .i64 rt] 52)
  have A1:Box W.heap.size [.string nm,.slice pp pn pc,.int .i64 rt] (W.alloc (.cells #[.string nm,.slice pp pn pc,.int .i64 rt] 52)):=Box.new W rfl _ _
  have z1:(W.alloc (.cells #[.string nm,.slice pp pn pc,.int .i64 rt] 52)).heap.size=W.heap.size+1:=by simp
  go_enter Tryz.func35,Tryz.ntmps35
  go_upto_region 1 with fail
  generalize (W.alloc (.cells #[.string nm,.slice pp pn pc,.int .i64 rt] 52))=w1 at *
  have hP2:=hP.alloc (.cells #[.string nm',.slice pp' pn' pc',.int .i64 rt'] 52)
  have A2:=A1.alloc (.cells #[.string nm',.slice pp' pn' pc',.int .i64 rt'] 52)
  have B2:Box (W.heap.size+1) [.string nm',.slice pp' pn' pc',.int .i64 rt'] (w1.alloc (.cells #[.string nm',.slice pp' pn' pc',.int .i64 rt'] 52)):=Box.new w1 (by omega) _ _
  generalize (w1.alloc (.cells #[.string nm',.slice pp' pn' pc',.int .i64 rt'] 52))=w2 at *
  have a0:=A2.get 0 _ rfl
  have a1:=A2.get 1 _ rfl
  have a2:=A2.get 2 _ rfl
  have b0:=B2.get 0 _ rfl
  have b1:=B2.get 1 _ rfl
  have b2:=B2.get 2 _ rfl
  clear A1 hP z1
  by_cases e0:nm=nm'
  · subst e0
    by_cases e1:rt=rt'
    · have g1:(rt==rt')=true:=by simp [e1]
      have E1:=Lib.hid e1
      clear e1
      go_wp2_with fail
      refine (EqInts_any w2 pp pp' pn pn' pc pc' ps ps' (H.out.lasts lasts_NoMem hP2.2 hP2.2.size) (H'.out.lasts lasts_NoMem hP2.2 hP2.2.size)).mono ?_
      rintro e w3 ⟨bt,rfl,hbt,hb3⟩
      have HBT:=Lib.hid hbt
      clear hbt
      go_wp2_with fail
      go_ret
      refine ⟨bt,rfl,HBT.out.trans ?_,hP2.2.trans (hb3.mono hP2.size)⟩
      constructor
      · intro e
        show (⟨nm,ps,rt⟩:PExt)=⟨nm,ps',rt'⟩
        rw [E1.out,e]
      · exact fun e=>congrArg PExt.ps e
    · have g1:(rt==rt')=false:=by simpa using e1
      have E1:=Lib.hid e1
      clear e1
      go_wp2_with fail
      go_ret
      exact ⟨false,rfl,by simp only [Bool.false_eq_true,false_iff];exact fun e=>E1.out (congrArg PExt.rt e),hP2.2⟩
  · have E0:=Lib.hid e0
    have g0:¬ nm.toList=nm'.toList:=fun e=>e0 (str_inj e)
    clear e0
    go_wp2_with fail
    go_ret
    exact ⟨false,rfl,by simp only [Bool.false_eq_true,false_iff];exact fun e=>E0.out (congrArg PExt.nm e),hP2.2⟩
abbrev Owned:=Nat×Nat×(World→Prop)
section
variable {W w w':World} {R R':List (Nat×List Value)} {O O':List Owned}
end
set_option maxRecDepth 100000 in
set_option maxHeartbeats 4000000 in
theorem Few_any (m : LMod) (most:Int) (W:World) (h:ModIn W.heap.size W m) :
    Calls Tryz.prog 6 #[.agg (modC m).toArray,.int .i64 most] W (SomeBool W):=by
  obtain ⟨vp,vn,vc,vs,xp,xn,xc,xs,fp,fn,fc,fs⟩:=m
  obtain ⟨h1,h2,h3⟩:=h
  simp only at h1 h2 h3
  obtain rfl:xn=xs.length:=h2.1
  obtain rfl:fn=fs.length:=h3.1
  have k2:=h2.2.1
  have k3:=h2.2.2.1
  have k2':=h3.2.1
  have k3':=h3.2.2.1
  unfold maxLen at k3 k3'
  have H2:=Lib.hid h2
  have H3:=Lib.hid h3
  clear h1 h2 h3
  show Calls Tryz.prog 6 #[.agg #[.slice vp vn vc,.slice xp xs.length xc,.slice fp fs.length fc],.int .i64 most] W (SomeBool W)
  have hP:Past W.heap.size W (W.alloc (.cells #[.slice vp vn vc,.slice xp xs.length xc,.slice fp fs.length fc] 26)):=(Past.refl (Nat.le_refl _)).alloc _
  have A1:Box W.heap.size [.slice vp vn vc,.slice xp xs.length xc,.slice fp fs.length fc] (W.alloc (.cells #[.slice vp vn vc,.slice xp xs.length xc,.slice fp fs.length fc] 26)):=Box.new W rfl _ _
  go_enter Tryz.func6,Tryz.ntmps6
  go_wp2_with fail
  generalize W.alloc (.cells #[.slice vp vn vc,.slice xp xs.length xc,.slice fp fs.length fc] 26)=w1 at *
  go_loopw [5,28] (fun m t wr=>∃ (v:Int) (b:Nat),b≤xs.length∧m=.int .i64 v∧t=.int .i64 b∧Past W.heap.size W wr∧Box W.heap.size [.slice vp vn vc,.slice xp xs.length xc,.slice fp fs.length fc] wr) (fun _ t _=>xs.length - (intOf t).toNat)
  case atStart=>exact ⟨_,0,Nat.zero_le _,rfl,rfl,hP,A1⟩
  case round =>
    obtain ⟨v,b,hb,rfl,rfl,hbe,hB⟩:=hrel
    by_cases hlt:b<xs.length
    · obtain ⟨a,rfl,ha,c0,c1,c2⟩:=ext_row H2.out b hlt
      have d0:=(hbe.2.cell (p:=a.add (b * 3)) (blk_add a _ ha)).trans c0
      have d1:=(hbe.2.cell (p:=⟨(a.add (b * 3)).block,(a.add (b * 3)).off+1,none⟩) (blk_add a _ ha)).trans c1
      have d2:=(hbe.2.cell (p:=⟨(a.add (b * 3)).block,(a.add (b * 3)).off+2,none⟩) (blk_add a _ ha)).trans c2
      clear c0 c1 c2
      go_wp2_with fail
      exact ⟨⟨_,b+1,by omega,rfl,by go_num,hbe.alloc _,hB.alloc _⟩,by simp [intOf];omega⟩
    · obtain rfl : b=xs.length:=by omega
      have a2:=hB.get 2 _ rfl
      clear hP A1
      rename_i wq
      have hP:=hbe
      have A1:=hB
      clear hbe hB
      go_wp2_with fail
      clear a2
      go_loopw [5,41] (fun m t wr=>∃ (v:Int) (b:Nat),b≤fs.length∧m=.int .i64 v∧t=.int .i64 b∧Past W.heap.size W wr) (fun _ t _=>fs.length - (intOf t).toNat)
      case atStart=>exact ⟨_,0,Nat.zero_le _,rfl,rfl,hP⟩
      case round =>
        obtain ⟨v,b,hb,rfl,rfl,hbe⟩:=hrel
        by_cases hlt:b<fs.length
        · obtain ⟨a, rfl,ha,c0,c1,c2,c3⟩:=fn_row H3.out b hlt
          have d0:=(hbe.2.cell (p:=a.add (b * 4)) (blk_add a _ ha)).trans c0
          have d1:=(hbe.2.cell (p:=⟨(a.add (b * 4)).block,(a.add (b * 4)).off+1,none⟩) (blk_add a _ ha)).trans c1
          have d2:=(hbe.2.cell (p:=⟨(a.add (b * 4)).block,(a.add (b * 4)).off+2,none⟩) (blk_add a _ ha)).trans c2
          have d3:=(hbe.2.cell (p:=⟨(a.add (b * 4)).block,(a.add (b * 4)).off+3,none⟩) (blk_add a _ ha)).trans c3
          clear c0 c1 c2 c3
          have hin:=H3.out.2.2.2.2 fs[b] (List.getElem_mem hlt)
          obtain ⟨p,cap,he,hc1,hc2,hbl⟩:=blocksAt_in hin.2
          obtain ⟨l,el⟩:∃ l,located fs[b].bs=l:=⟨_,rfl⟩
          rw [el] at he hc1 hbl
          injection he with he1 he2 he3
          unfold maxLen at hc2
          rw [he1,he2,he3] at d3
          have HBL:=Lib.hid hbl
          have hx:=hbe.alloc (.cells #[.string fs[b].nm,.slice fs[b].pp fs[b].pn fs[b].pc,.int .i64 fs[b].rt,.slice p l.length cap] 49)
          clear hbl hin el he1 he2 he3
          go_wp2_with fail
          go_loopw [5,57] (fun m t wr=>∃ (v:Int) (b:Nat),b≤l.length∧m=.int .i64 v∧t=.int .i64 b∧Past W.heap.size W wr) (fun _ t _=>l.length - (intOf t).toNat)
          case atStart=>exact ⟨_,0,Nat.zero_le _,rfl,rfl,hx⟩
          case round =>
            obtain ⟨v3,b3,hb3,rfl,rfl,hbe3⟩:=hrel
            by_cases hlt3:b3<l.length
            · obtain ⟨a3,x3,rfl,hab,hcell,hcode⟩:=HBL.out b3 hlt3
              obtain ⟨q2,cap2,rfl,hd1,hd2,hcd⟩:=hcode
              unfold maxLen at hd2
              have k1:wr.cell? (a3.add b3)=some (.slice q2 l[b3].length cap2):=(hbe3.2.cell (p:=a3.add b3) (by rw [add_block];exact hab)).trans hcell
              have HCD:=Lib.hid hcd
              have b1:=hbe3.alloc (.cells #[.slice q2 l[b3].length cap2] 46)
              clear hcd hcell
              go_wp2_with fail
              go_loopw [5,69] (fun m t wi=>∃ (v:Int) (k:Nat),k≤l[b3].length∧m=.int .i64 v∧t=.int .i64 k∧Past W.heap.size W wi) (fun _ t _=>l[b3].length - (intOf t).toNat)
              case atStart=>exact ⟨_,0,Nat.zero_le _,rfl,rfl,b1⟩
              case round =>
                obtain ⟨v2,k,hk,rfl,rfl,hbi⟩:=hrel
                by_cases hkl:k<l[b3].length
                · obtain ⟨a2,rfl,ha2,hins⟩:=HCD.out k hkl
                  obtain ⟨z0,z1,z2,z3,z4,z5,z6⟩:=hins.below hbi.2 (by rw [add_block];exact ha2)
                  clear hins
                  go_wp2_with fail
                  · go_ret
                    exact ⟨false,rfl,(hbi.alloc _).2⟩
                  · exact ⟨⟨_,k+1,by omega,rfl,by go_num,hbi.alloc _⟩,by simp [intOf];omega⟩
                · obtain rfl:k=l[b3].length:=by omega
                  go_wp2_with fail
                  exact ⟨⟨_,b3+1,by omega,rfl,by go_num,hbi⟩,by simp [intOf];omega⟩
            · obtain rfl:b3=l.length:=by omega
              go_wp2_with fail
              exact ⟨⟨_,b+1,by omega,rfl,by go_num,hbe3⟩,by simp [intOf];omega⟩
        · obtain rfl:b=fs.length:=by omega
          go_wp2_with fail
          go_ret
          exact ⟨_,rfl,hbe.2⟩
theorem step_append_at {P:Program} {w:World} {ops:Array Oper} {o:Oper} {a:Act} {K:Act→World→Prop} {Q:Exit→Act→World→Prop} {E:Prop} (hgd:o.guard=none) (s x:Operand) (t:TypeId)
    (ho:o.op=.call { callee:=.builtin .append,args:=#[s,x],argTypes:=#[t,t] })
    (base:Nat) (e:TypeId) (i:TypeInfo) (z:Value) (size bytes:Nat) (ht:P.underlying t=some (.slice e)) (hi:P.info? e=some i) (hz:i.zero=some z)
    (hsize:i.size=size) (hby:i.bytes=bytes) (hzs:z.cells.size=size) (hsz:0<size)
    (v:Value) (n:Nat) (xs:List Value) (hs:a.eval s=v) (hown:w.ownsRow base e size v n xs)
    (p:Option Addr) (m c:Nat) (news:List Value) (hx:a.eval x=.slice p m c) (hl:news.length=m * size) (hnews:∀ j u,news[j]? = some u→∃ ad,p=some ad∧w.cell? (ad.add j)=some u) (h1:∀ u∈news,u.oneCell' = true)
    (h63:n+m≤maxLen) (hbytes:(n+m) * bytes≤140737488355328) (hbase:base≤w.heap.size)
    (h:∀ v' w',w'.ownsRow base e size v' (n+m) (xs++news)→w.grownBy w' v.ownBlock→Moved w v v'→K (a.put o.dst v') w') :
    if Region.wanted o (yielded ops a.tmps)=true then Oper.wp P o a w K Q else E:=by
  have hw:Region.wanted o (yielded ops a.tmps)=true:=by simp [Region.wanted,hgd]
  rw [if_pos hw]
  cases p with
  | some ad =>
    have hnews':∀ j u,news[j]? = some u→w.cell? (ad.add j)=some u:=fun j u hj=>by
      obtain ⟨ad',e1,e2⟩:=hnews j u hj
      cases e1
      exact e2
    obtain ⟨v',w',hr,h2,h3,-⟩:=run_append_own (P:=P) w base t o.type e i z size bytes ht hi hz hsize hby hzs hsz v n xs hown ad m c news hl hnews' h1 h63 hbytes hbase
    have h4:=append_where w base t o.type e i z size bytes ht hi hz hsize hby hsz v n xs hown ad m c news hl hnews' h1 h63 hbytes v' w' hr
    unfold Oper.wp execOp
    simp only [ho,resolve,invoke,builtin,Sem.run_bind,Sem.run_pure,Result.andThen_ok,List.map_toArray,List.map_cons,List.map_nil,hs,hx,hr]
    exact h v' w' h2 h3 h4
  | none =>
    have hn0:news=[]:=by
      cases news with
      | nil=>rfl
      | cons u r=>obtain ⟨_,e1,_⟩:=hnews 0 u rfl;cases e1
    subst hn0
    obtain rfl:m=0:=by
      rcases Nat.eq_zero_or_pos m with h0 | h0
      · exact h0
      · have:=Nat.mul_pos h0 hsz;simp at hl;omega
    have hr:(Builtin.append_ #[t,t] o.type #[v,.slice none 0 c]).run P w=.ok v w:=by
      rcases hown.2 with ⟨rfl,rfl⟩ | ⟨g,cap,cur,rfl,hbg,hg,hnc,hcm,hcs,htake⟩
      · simp [Builtin.append_,run_underlying ht,sizeOf,typeInfo,hi,Builtin.lenOf,Builtin.firstCells]
      · simp [Builtin.append_,run_underlying ht,sizeOf,typeInfo,hi,Builtin.lenOf,Builtin.firstCells,hnc,storeCells]
    unfold Oper.wp execOp
    simp only [ho,resolve,invoke,builtin,Sem.run_bind,Sem.run_pure,Result.andThen_ok,List.map_toArray,List.map_cons,List.map_nil,hs,hx,hr]
    exact h v w (by rw [List.append_nil];exact hown) (World.grownBy.refl _ _) (.inl rfl)
section
variable {α:Type} {ty m:Nat} {cel:α→List Value} {Q:Nat→Nat→World→α→Prop} {d:Nat} {ys:List α} {q:Option Addr} {c:Nat} {w w':World}
end
end Go.Proofs.YtmmlfmplggbmiaaGreatDoor
namespace Go.Proofs.YtmmlfmplggbmiaaGreatDoor
set_option linter.unusedVariables false
set_option linter.unusedSimpArgs false
abbrev Tx:=List UInt8
def byt (s:ByteArray):Tx:=s.data.toList
def sepBy (sep:Tx):List Tx→Tx
  | []=>[]
  | [x]=>x
  | x::y::l=>x++sep++sepBy sep (y::l)
def decI (n:Int):Tx:=Lib.decDigits n.toNat
def typeT (t:Int):Tx:=if t=0 then [118,111,105,100] else if t=65 then [112,116,114] else if 0<t∧t<65 then 105::decI t else []
def regT (n:Int):Tx:=37::decI n
def blockT (n:Int):Tx:=98::decI n
def listT (l:List Tx):Tx:=sepBy [44,32] l
def headT (nm:ByteArray) (ps:List Int) (rt:Int):Tx:=byt nm++40::(listT (ps.map typeT)++[41,32]++typeT rt++[10])
def varT (v:PVar):Tx:=[103,108,111,98,97,108,32]++byt v.nm++32::(decI v.size++[10])
def extT (x:PExt):Tx:=[101,120,116,101,114,110,32]++headT x.nm x.ps x.rt
def argT (gs:List PVar) (a:Arg):Tx :=
  if a.kind=1 then regT a.n else if a.kind=2 then decI a.bits else if a.kind=3 then [112,111,105,115,111,110] else if a.kind=4 then [110,117,108,108]
  else 64::(match gs[a.n.toNat]? with | some g=>byt g.nm | none=>[])
def calT (xs:List PExt) (fs:List PFn) (n:Int):Tx :=
  if 0≤n then (match fs[n.toNat]? with | some f=>byt f.nm | none=>[]) else (match xs[(-1 - n).toNat]? with | some x=>byt x.nm | none=>[])
def calR (xs:List PExt) (fs:List PFn) (n:Int):Option Int :=
  if 0≤n then fs[n.toNat]?.map PFn.rt else xs[(-1 - n).toNat]?.map PExt.rt
def pairT (gs:List PVar) (p:Int×Arg):Tx:=blockT p.1++32::argT gs p.2
def behindT (m:PMod) (x:PIns):Tx :=
  if 20≤x.op∧x.op≤22 then 32::(typeT x.n++32::(listT (x.args.map (argT m.vs))++[32,116,111,32]++typeT x.ty))
  else if x.op=25 then 32::(typeT x.ty++if x.args=[] then [] else 32::listT ((x.tg.zip x.args).map (pairT m.vs)))
  else if x.op=26 then 32::decI x.n
  else if x.op=30 then 32::(calT m.xs m.fs x.n++40::(listT (x.args.map (argT m.vs))++[41]))
  else if x.op=29∨x.op=31∨x.op=32 then 32::listT (x.args.map (argT m.vs)++x.tg.map blockT)
  else if x.op=34∨x.op=33∧x.args=[] then []
  else 32::(typeT x.ty++32::listT (x.args.map (argT m.vs)))
def flagsT (fl:Int):Tx:=(if fl % 2=1 then [32,110,115,119] else [])++(if fl / 2 % 2=1 then [32,110,117,119] else [])++(if fl / 4=1 then [32,101,120,97,99,116] else [])
def opT (op:Int):Tx :=
  (([[],[97,100,100],[115,117,98],[109,117,108],[117,100,105,118],[115,100,105,118],[117,114,101,109],[115,114,101,109],[97,110,100],[111,114],[120,111,114],[115,104,108],[108,115,104,114],[97,115,104,114],
    [101,113],[110,101],[117,108,116],[117,108,101],[115,108,116],[115,108,101],[122,101,120,116],[115,101,120,116],[116,114,117,110,99],[115,101,108,101,99,116],[102,114,101,101,122,101],[112,104,105],
    [97,108,108,111,99,97],[108,111,97,100],[115,116,111,114,101],[103,101,112],[99,97,108,108],[98,114],[98,114,105,102],[114,101,116],[104,97,108,116]]:List Tx)[op.toNat]?).getD []
def insT (m:PMod) (x:PIns):Tx:=(if 0≤x.reg then regT x.reg++[32,61,32] else [])++(opT x.op++(flagsT x.fl++behindT m x))
def lineT (m:PMod) (x:PIns):Tx:=[32,32]++insT m x++[10]
def blkT (m:PMod) (i:Nat) (c:List PIns):Tx:=blockT i++[58,10]++(c.map (lineT m)).flatten
def fnT (m:PMod) (f:PFn):Tx:=[102,117,110,99,32]++headT f.nm f.ps f.rt++(f.bs.mapIdx (blkT m)).flatten++[101,110,100,10]
def modT (m:PMod):Tx:=(m.vs.map varT).flatten++(m.xs.map extT).flatten++(m.fs.map (fnT m)).flatten
/-! What may be said; wd tells words. -/
def tyB (t:Int):Bool:=decide (0≤t∧t≤65)
def headB (wd:Tx→Bool) (nm:ByteArray) (ps:List Int) (rt:Int):Bool:=wd (byt nm)&&ps.all tyB&&tyB rt
def cntB (x:PIns):Bool :=
  if x.op=25 then decide (x.tg.length=x.args.length)
  else if x.op=30 then decide (x.tg.length=0)
  else if x.op=33 then decide (x.tg.length=0∧x.args.length≤1)
  else if x.op=31 then decide (x.tg.length=1∧x.args.length=0)
  else if x.op=32 then decide (x.tg.length=2∧x.args.length=1)
  else if x.op=26∨x.op=34 then decide (x.tg.length=0∧x.args.length=0)
  else if 20≤x.op∧x.op≤22∨x.op=24∨x.op=27 then decide (x.tg.length=0∧x.args.length=1)
  else if x.op=23 then decide (x.tg.length=0∧x.args.length=3)
  else decide (x.tg.length=0∧x.args.length=2)
def hasTyB (m:PMod) (x:PIns):Bool :=
  if x.op=26∨x.op=29 then decide (x.ty=65)
  else if x.op=30 then decide (calR m.xs m.fs x.n=some x.ty)
  else if x.op=31∨x.op=32∨x.op=34 then decide (x.ty=0)
  else if x.op=33 then tyB x.ty&&decide (x.args.length=1∨x.ty=0)
  else tyB x.ty
def numB (x:PIns):Bool :=
  if 20≤x.op∧x.op≤22 then tyB x.n else if x.op=26 then decide (0≤x.n) else if x.op=30 then true else decide (x.n=0)
def flB (x:PIns):Bool:=if 13<x.op then decide (x.fl=0) else decide (0≤x.fl∧x.fl≤7)
def regB (n:Int):Bool:=decide (0≤n∧n≤4095)
def hasRegB (x:PIns):Bool:=if x.reg=-1 then !idleB x.op else regB x.reg&&(decide (x.op=30)||idleB x.op)
def argB (m:PMod) (a:Arg):Bool :=
  if a.kind=1 then regB a.n&&decide (a.bits=0)
  else if a.kind=2 then decide (a.n=0)
  else if a.kind=3∨a.kind=4 then decide (a.n=0∧a.bits=0)
  else if a.kind=5 then decide (0≤a.n∧a.n<m.vs.length∧a.bits=0)
  else false
def insB (m:PMod) (x:PIns):Bool:=decide (1≤x.op∧x.op≤34)&&cntB x&&hasTyB m x&&numB x&&flB x&&hasRegB x&&x.tg.all (fun t=>decide (0≤t∧t≤999))&&x.args.all (argB m)
def fnB (wd:Tx→Bool) (m:PMod) (f:PFn):Bool:=headB wd f.nm f.ps f.rt&&f.bs.all fun c=>c.all (insB m)
def sayB (wd:Tx→Bool) (m:PMod):Bool:=m.vs.all (fun v=>wd (byt v.nm)&&decide (0≤v.size))&&m.xs.all (fun x=>headB wd x.nm x.ps x.rt)&&m.fs.all (fnB wd m)
/-! The text of a part. -/
structure PS where
  ts:List Tok
  asked:List Tok
abbrev PM:=StateT PS (Except Flt)
def fltAt (c:Nat) (t:Tok):Flt:=⟨c,t.line,t.col⟩
def qNext (en:Tok):PM Tok:=do let s ← get;return s.ts.head?.getD en
def qPass:PM Unit:=modify fun s=>{ s with ts:=s.ts.tail }
def qBad {α:Type} (c:Nat) (t:Tok):PM α:=fun _=>.error (fltAt c t)
def isTk (k:Nat) (b:Tx) (t:Tok):Bool:=t.kind==k&&t.body==b
def qPassed (en:Tok) (k:Nat) (b:Tx):PM Bool:=do
  let t ← qNext en
  if isTk k b t then qPass;return true
  return false
def qWant (en:Tok) (k:Nat):PM Tok:=do
  let t ← qNext en
  if t.kind==k then qPass;return t
  qBad 3 t
def qThis (en:Tok) (k:Nat) (b:Tx):PM Unit:=do
  let t ← qNext en
  if isTk k b t then qPass else qBad 3 t
def qMark (en:Tok) (c:UInt8):PM Unit:=qThis en 5 [c]
def qLineEnd (en:Tok):PM Unit:=do let _ ← qWant en 6;return ()
def numBehind (c:UInt8) (w:Tx) (most:Nat):Option Nat :=
  match w with
  | []=>none
  | d::r=>if d=c then (List.range (most+1)).find? (fun n=>Lib.decDigits n==r) else none
def typeOfP (w:Tx):Option Nat :=
  if w=[118,111,105,100] then some 0 else if w=[112,116,114] then some 65 else (numBehind 105 w 64).filter (fun n=>0<n)
def blockOfP (t:Tok):Option Nat:=if t.kind==1 then numBehind 98 t.body 999 else none
def numOf (t:Tok):Nat:=match Go.Lib.parseUintB 64 t.body with | .ok u=>u | _=>0
def qType (en:Tok):PM Int:=do
  let t ← qWant en 1
  match typeOfP t.body with
  | some n=>return (n:Int)
  | none=>qBad 7 t
def qSize (en:Tok):PM Int:=do
  let t ← qWant en 2
  if numOf t=0∨64<numOf t then qBad 6 t
  else return (numOf t:Int)
def qBlock (en:Tok):PM Int:=do
  let t ← qNext en
  match blockOfP t with
  | some n=>qPass;return (n:Int)
  | none=>qBad 3 t
def qMore {α:Type} (en:Tok) (item:List α→PM α):Nat→List α→PM (List α)
  | 0,acc=>return acc
  | k + 1,acc=>do
    if ← qPassed en 5 [44] then
      let a ← item acc
      qMore en item k (acc++[a])
    else return acc
def qCommas {α:Type} (en:Tok) (item:List α→PM α):PM (List α):=do
  let a ← item []
  let s ← get
  qMore en item (s.ts.length+1) [a]
def qBrackets {α:Type} (en:Tok) (item:List α→PM α):PM (List α):=do
  qMark en 40
  if ← qPassed en 5 [41] then return []
  let l ← qCommas en item
  qMark en 41
  return l
def qAsk (t:Tok):PM Int:=do
  let s ← get
  set { s with asked:=s.asked++[t] }
  return (s.asked.length:Int)
def qOperand (en:Tok):PM Arg:=do
  let t ← qNext en
  if t.kind==3 then qPass;return ⟨1,numOf t,0⟩
  if t.kind==2 then qPass;return ⟨2,0,numOf t⟩
  if t.kind==4 then let n ← qAsk t;qPass;return ⟨5,n,0⟩
  if isTk 1 [112,111,105,115,111,110] t then qPass;return ⟨3,0,0⟩
  if isTk 1 [110,117,108,108] t then qPass;return ⟨4,0,0⟩
  qBad 3 t
def qOperands (en:Tok):Nat→PM (List Arg)
  | 0=>return []
  | 1=>do let a ← qOperand en;return [a]
  | k+2=>do
    let a ← qOperand en
    qMark en 44
    let l ← qOperands en (k+1)
    return a::l
def opOfP (t:Tok):Nat:=if t.kind==1 then ((List.range 35).find? (fun k:Nat=>decide (0<k)&&opT (k:Int)==t.body)).getD 0 else 0
def qFlags (en:Tok):PM Int:=do
  let a ← qPassed en 1 [110,115,119]
  let b ← qPassed en 1 [110,117,119]
  let c ← qPassed en 1 [101,120,97,99,116]
  return (if a then 1 else 0)+(if b then 2 else 0)+(if c then 4 else 0)
def qTyped (en:Tok) (x:PIns) (n:Nat):PM PIns:=do
  let t ← qType en
  let l ← qOperands en n
  return { x with ty:=t,args:=l }
def qForm (en:Tok) (x:PIns):PM PIns:=do
  if 20≤x.op∧x.op≤22 then
    let n ← qType en
    let a ← qOperand en
    qThis en 1 [116,111]
    let t ← qType en
    return { x with n:=n,args:=[a],ty:=t }
  if x.op=23 then return ← qTyped en x 3
  if x.op=24∨x.op=27 then return ← qTyped en x 1
  if x.op=25 then
    let t ← qType en
    let p ← qNext en
    if p.kind==6 then return { x with ty:=t }
    let l ← qCommas en (fun _=>do let b ← qBlock en;let a ← qOperand en;return (b,a))
    return { x with ty:=t,tg:=l.map Prod.fst,args:=l.map Prod.snd }
  if x.op=26 then let n ← qSize en;return { x with ty:=65,n:=n }
  if x.op=29 then let l ← qOperands en 2;return { x with ty:=65,args:=l }
  if x.op=30 then
    let t ← qWant en 1
    let n ← qAsk t
    let l ← qBrackets en (fun _=>qOperand en)
    return { x with n:=n,args:=l }
  if x.op=32 then
    let a ← qOperand en
    qMark en 44
    let b ← qBlock en
    qMark en 44
    let c ← qBlock en
    return { x with args:=[a],tg:=[b,c] }
  if x.op=31 then let b ← qBlock en;return { x with tg:=[b] }
  if x.op=33 then
    let p ← qNext en
    if p.kind==6 then return x
    return ← qTyped en x 1
  if x.op=34 then return x
  let fl ← if x.op≤13 then qFlags en else pure 0
  qTyped en { x with fl:=fl } 2
def qInstr (en:Tok):PM PIns:=do
  let p ← qNext en
  let r:Int ← if p.kind==3 then (do qPass;qMark en 61;return (numOf p:Int)) else pure (-1)
  let w ← qNext en
  let op:=opOfP w
  if ¬ (op=30∨op≠0∧idleB op=decide (0≤r)) then qBad 3 w
  qPass
  let x ← qForm en ⟨op,r,0,0,0,[],[]⟩
  qLineEnd en
  return x
def qLabel (en:Tok) (front:Tok) (bs:List (List PIns)) (n:Nat):PM Unit:=do
  if bs.length=64 then qBad 6 front
  if n≠bs.length then qBad 8 front
  qPass
  qMark en 58
  qLineEnd en
def addLast (bs:List (List PIns)) (x:PIns):List (List PIns):=bs.dropLast++[bs.getLast?.getD []++[x]]
def qBody (en:Tok):Nat→List (List PIns)→PM (List (List PIns))
  | 0,_=>qBad 3 en
  | k + 1,bs=>do
    let s ← get
    match s.ts with
    | []=>qBad 3 en
    | front::_ =>
      if isTk 6 [] front then qPass;return ← qBody en k bs
      match blockOfP front with
      | some n=>qLabel en front bs n;qBody en k (bs++[[]])
      | none =>
        if bs.length=0 then return ← qBad 3 front
        if isTk 1 [101,110,100] front then qPass;qLineEnd en;return bs
        if bs.flatten.length=400 then return ← qBad 6 front
        let x ← qInstr en
        qBody en k (addLast bs x)
def qTypes (en:Tok):PM (List Int×Int):=do
  let l ← qBrackets en (fun acc=>do
    let p ← qNext en
    let t ← qType en
    if 8≤acc.length then qBad 6 p
    return t)
  let r ← qType en
  return (l,r)
def hasVar (m:PMod) (w:Tx):Bool:=m.vs.any fun v=>byt v.nm==w
def hasCal (m:PMod) (w:Tx):Bool:=(m.xs.any fun x=>byt x.nm==w)||m.fs.any fun f=>byt f.nm==w
def qName (en:Tok) (full told:Tx→Bool):PM ByteArray:=do
  let t ← qWant en 1
  if full t.body then qBad 6 t
  if told t.body then qBad 5 t
  return ⟨t.body.toArray⟩
def qLines (en:Tok):Nat→PMod→PM PMod
  | 0,m=>return m
  | k + 1,m=>do
    let s ← get
    match s.ts with
    | []=>return m
    | front::_ =>
      if isTk 6 [] front then qPass;return ← qLines en k m
      if isTk 1 [103,108,111,98,97,108] front then
        qPass
        let nm ← qName en (fun _=>m.vs.length==8) (hasVar m)
        let n ← qSize en
        qLineEnd en
        return ← qLines en k { m with vs:=m.vs++[⟨nm,n⟩] }
      if isTk 1 [101,120,116,101,114,110] front then
        qPass
        let nm ← qName en (fun _=>m.xs.length==8) (hasCal m)
        let (ps,r) ← qTypes en
        qLineEnd en
        return ← qLines en k { m with xs:=m.xs++[⟨nm,ps,r⟩] }
      if isTk 1 [102,117,110,99] front then
        qPass
        let nm ← qName en (fun _=>m.fs.length==8) (hasCal m)
        let (ps,r) ← qTypes en
        qLineEnd en
        let s ← get
        let bs ← qBody en (s.ts.length+1) []
        return ← qLines en k { m with fs:=m.fs++[⟨nm,ps,r,bs⟩] }
      qBad 3 front
/-! Names. -/
def findVarP (m:PMod) (w:Tx):Option Int:=(m.vs.findIdx? fun v=>byt v.nm==w).map fun k:Nat=>(k:Int)
def findCalP (m:PMod) (w:Tx):Option Int :=
  match m.xs.findIdx? fun x=>byt x.nm==w with
  | some k=>some (-1 - (k:Int))
  | none=>(m.fs.findIdx? fun f=>byt f.nm==w).map fun k:Nat=>(k:Int)
def answerP (en:Tok) (asked:List Tok) (find:Tx→Option Int) (n:Int):Except Flt Int :=
  let t:=asked.getD n.toNat en
  match find t.body with
  | some k=>.ok k
  | none=>.error (fltAt 4 t)
def settleA (en:Tok) (m:PMod) (asked:List Tok) (a:Arg):Except Flt Arg:=do
  if a.kind=5 then let n ← answerP en asked (findVarP m) a.n;return { a with n:=n }
  return a
def settleI (en:Tok) (m:PMod) (asked:List Tok) (x:PIns):Except Flt PIns:=do
  let x ← if x.op=30 then (do let n ← answerP en asked (findCalP m) x.n;return { x with n:=n,ty:=(calR m.xs m.fs n).getD 0 }) else pure x
  let l ← x.args.mapM (settleA en m asked)
  return { x with args:=l }
def settleF (en:Tok) (m:PMod) (asked:List Tok) (f:PFn):Except Flt PFn:=do
  let bs ← f.bs.mapM fun c:List PIns=>c.mapM (settleI en m asked)
  return { f with bs:=bs }
def settleM (en:Tok) (m:PMod) (asked:List Tok):Except Flt PMod:=do
  let fs ← m.fs.mapM (settleF en m asked)
  return { m with fs:=fs }
def endTk (t:Tx):Tok:=⟨6,[],1+t.count 10,runOf (fun c=>c.toNat != 10) t.reverse+1⟩
def parseP (en:Tok) (ts:List Tok):Except Flt PMod:=do
  let (m,s) ← (qLines en (ts.length+1) ⟨[],[],[]⟩).run ⟨ts,[]⟩
  settleM en m s.asked
structure RS where
  ts:List Tok
  asked:List Tok
  flt:Option Flt
def nx (en:Tok) (s:RS):Tok:=s.ts.head?.getD en
def ps (s:RS):RS:={ s with ts:=s.ts.tail }
def bd (c:Nat) (t:Tok) (s:RS):RS:={ s with ts:=[],flt:=some (s.flt.getD (fltAt c t)) }
def sThis (en:Tok) (k:Nat) (b:Tx) (s:RS):RS:=if isTk k b (nx en s) then ps s else bd 3 (nx en s) s
def sWant (en:Tok) (k:Nat) (s:RS):RS:=if (nx en s).kind=k then ps s else ps (bd 3 (nx en s) s)
def sPassed (en:Tok) (k:Nat) (b:Tx) (s:RS):RS:=if isTk k b (nx en s) then ps s else s
def sBlock (en:Tok) (s:RS):RS:=if (blockOfP (nx en s)).isSome then ps s else ps (bd 3 (nx en s) s)
def vBlock (en:Tok) (s:RS):Int:=((blockOfP (nx en s)).getD 0:Nat)
def sType (en:Tok) (s:RS):RS:=if (typeOfP (nx en s).body).isSome then sWant en 1 s else bd 7 (nx en s) (sWant en 1 s)
def vType (en:Tok) (s:RS):Int:=((typeOfP (nx en s).body).getD 0:Nat)
def sSize (en:Tok) (s:RS):RS:=if numOf (nx en s)=0∨64<numOf (nx en s) then bd 6 (nx en s) (sWant en 2 s) else sWant en 2 s
def vSize (en:Tok) (s:RS):Int:=Go.IntKind.i64.wrap (numOf (nx en s))
def sAsk (t:Tok) (s:RS):RS:={ s with asked:=s.asked++[t] }
def vOperand (en:Tok) (s:RS):Arg :=
  if (nx en s).kind=3 then ⟨1,numOf (nx en s),0⟩
  else if (nx en s).kind=2 then ⟨2,0,numOf (nx en s)⟩
  else if (nx en s).kind=4 then ⟨5,s.asked.length,0⟩
  else if isTk 1 [112,111,105,115,111,110] (nx en s) then ⟨3,0,0⟩
  else if isTk 1 [110,117,108,108] (nx en s) then ⟨4,0,0⟩
  else ⟨0,0,0⟩
def sOperand (en:Tok) (s:RS):RS :=
  if (nx en s).kind=3∨(nx en s).kind=2 then ps s
  else if (nx en s).kind=4 then ps (sAsk (nx en s) s)
  else if isTk 1 [112,111,105,115,111,110] (nx en s)∨isTk 1 [110,117,108,108] (nx en s) then ps s
  else ps (bd 3 (nx en s) s)
def vOps (en:Tok):Nat→RS→List Arg
  | 0,_=>[]
  | k+1,s=>vOperand en (sThis en 5 [44] s)::vOps en k (sOperand en (sThis en 5 [44] s))
def sOps (en:Tok):Nat→RS→RS
  | 0,s=>s
  | k+1,s=>sOps en k (sOperand en (sThis en 5 [44] s))
def vOperands (en:Tok):Nat→RS→List Arg
  | 0,_=>[]
  | k+1,s=>vOperand en s::vOps en k (sOperand en s)
def sOperands (en:Tok):Nat→RS→RS
  | 0,s=>s
  | k+1,s=>sOps en k (sOperand en s)
def sMore {β:Type} (en:Tok) (item:β×RS→β×RS):Nat→β×RS→β×RS
  | 0,p=>p
  | k+1,p=>if isTk 5 [44] (nx en p.2) then sMore en item k (item (p.1,ps p.2)) else p
def sCommas {β:Type} (en:Tok) (item:β×RS→β×RS) (p:β×RS):β×RS:=sMore en item ((item p).2.ts.length+1) (item p)
def sBrackets {β:Type} (en:Tok) (item:β×RS→β×RS) (p:β×RS):β×RS :=
  if isTk 5 [41] (nx en (sThis en 5 [40] p.2)) then (p.1,ps (sThis en 5 [40] p.2))
  else ((sCommas en item (p.1,sThis en 5 [40] p.2)).1,sThis en 5 [41] (sCommas en item (p.1,sThis en 5 [40] p.2)).2)
def vFlags (en:Tok) (s:RS):Int :=
  (if isTk 1 [110,115,119] (nx en s) then 1 else 0)+(if isTk 1 [110,117,119] (nx en (sPassed en 1 [110,115,119] s)) then 2 else 0)
   +(if isTk 1 [101,120,97,99,116] (nx en (sPassed en 1 [110,117,119] (sPassed en 1 [110,115,119] s))) then 4 else 0)
def sFlags (en:Tok) (s:RS):RS:=sPassed en 1 [101,120,97,99,116] (sPassed en 1 [110,117,119] (sPassed en 1 [110,115,119] s))
def iArg (en:Tok) (p:PIns×RS):PIns×RS:=({ p.1 with args:=p.1.args++[vOperand en p.2] },sOperand en p.2)
def iTg (en:Tok) (p:PIns×RS):PIns×RS:=({ p.1 with tg:=p.1.tg++[vBlock en p.2] },sBlock en p.2)
def iMark (en:Tok) (c:UInt8) (p:PIns×RS):PIns×RS:=(p.1,sThis en 5 [c] p.2)
def iArgs (en:Tok) (n:Nat) (p:PIns×RS):PIns×RS:=({ p.1 with args:=p.1.args++vOperands en n p.2 },sOperands en n p.2)
def iTyped (en:Tok) (n:Nat) (p:PIns×RS):PIns×RS:=iArgs en n ({ p.1 with ty:=vType en p.2 },sType en p.2)
def iPair (en:Tok) (p:PIns×RS):PIns×RS:=iArg en (iTg en p)
def iConv (en:Tok) (p:PIns×RS):PIns×RS :=
  ({ (iArg en ({ p.1 with n:=vType en p.2 },sType en p.2)).1 with ty:=vType en (sThis en 1 [116,111] (iArg en ({ p.1 with n:=vType en p.2 },sType en p.2)).2) },
    sType en (sThis en 1 [116,111] (iArg en ({ p.1 with n:=vType en p.2 },sType en p.2)).2))
def iPhi (en:Tok) (p:PIns×RS):PIns×RS :=
  if (nx en (sType en p.2)).kind=6 then ({ p.1 with ty:=vType en p.2 },sType en p.2)
  else sCommas en (iPair en) ({ p.1 with ty:=vType en p.2 },sType en p.2)
def iCall (en:Tok) (p:PIns×RS):PIns×RS :=
  sBrackets en (iArg en) ({ p.1 with n:=(sWant en 1 p.2).asked.length },sAsk (nx en p.2) (sWant en 1 p.2))
def iForm (en:Tok) (p:PIns×RS):PIns×RS :=
  if 20≤p.1.op∧p.1.op≤22 then iConv en p
  else if p.1.op=23 then iTyped en 3 p
  else if p.1.op=24∨p.1.op=27 then iTyped en 1 p
  else if p.1.op=25 then iPhi en p
  else if p.1.op=26 then ({ p.1 with ty:=65,n:=vSize en p.2 },sSize en p.2)
  else if p.1.op=29 then iArgs en 2 ({ p.1 with ty:=65 },p.2)
  else if p.1.op=30 then iCall en p
  else if p.1.op=32 then iTg en (iMark en 44 (iTg en (iMark en 44 (iArg en p))))
  else if p.1.op=31 then iTg en p
  else if p.1.op=33 then (if (nx en p.2).kind≠6 then iTyped en 1 p else p)
  else if p.1.op=34 then p
  else if p.1.op≤13 then iTyped en 2 ({ p.1 with fl:=vFlags en p.2 },sFlags en p.2)
  else iTyped en 2 p
def sReg (en:Tok) (s:RS):RS:=if (nx en s).kind=3 then sThis en 5 [61] (sWant en 3 s) else s
def vReg (en:Tok) (s:RS):Int:=if (nx en s).kind=3 then (numOf (nx en s):Int) else -1
def standsP (op r:Int):Bool:=decide (op=30)||(decide (op≠0)&&(idleB op==decide (0≤r)))
def sWord (en:Tok) (r:Int) (s:RS):RS:=ps (if standsP (opOfP (nx en s)) r then s else bd 3 (nx en s) s)
def iInstr (en:Tok) (s:RS):PIns×RS :=
  ((iForm en (⟨opOfP (nx en (sReg en s)),vReg en s,0,0,0,[],[]⟩,sWord en (vReg en s) (sReg en s))).1,
    sWant en 6 (iForm en (⟨opOfP (nx en (sReg en s)),vReg en s,0,0,0,[],[]⟩,sWord en (vReg en s) (sReg en s))).2)
def bdIf (c:Prop) [Decidable c] (k:Nat) (en:Tok) (s:RS):RS:=if c then bd k (nx en s) s else s
def sLabel (en:Tok) (len n:Nat) (s:RS):RS:=sWant en 6 (sThis en 5 [58] (ps (bdIf (n≠len) 8 en (bdIf (len=64) 6 en s))))
def iBody (en:Tok):Nat→List (List PIns)×RS→List (List PIns)×RS
  | 0,p=>(p.1,bd 3 en p.2)
  | k + 1, p =>
    match p.2.ts with
    | []=>(p.1,bd 3 en p.2)
    | front::_ =>
      if isTk 6 [] front then iBody en k (p.1,ps p.2)
      else match blockOfP front with
        | some n=>iBody en k (p.1++[[]],sLabel en p.1.length n p.2)
        | none =>
          if p.1.length=0 then iBody en k (p.1,bd 3 front p.2)
          else if isTk 1 [101,110,100] front then (p.1,sWant en 6 (ps p.2))
          else if p.1.flatten.length=400 then iBody en k (p.1,bd 6 front p.2)
          else iBody en k (addLast p.1 (iInstr en p.2).1,(iInstr en p.2).2)
def iParam (en:Tok) (p:List Int×RS):List Int×RS :=
  (p.1++[vType en p.2],if 8<(p.1++[vType en p.2]).length then bd 6 (nx en p.2) (sType en p.2) else sType en p.2)
def vTypes (en:Tok) (s:RS):List Int×Int:=((sBrackets en (iParam en) ([],s)).1,vType en (sBrackets en (iParam en) ([],s)).2)
def sTypes (en:Tok) (s:RS):RS:=sType en (sBrackets en (iParam en) ([],s)).2
def sName (en:Tok) (full:Bool) (told:Tx→Bool) (s:RS):RS :=
  (fun s' => if told (nx en s).body then bd 5 (nx en s) s' else s') ((fun s' => if full then bd 6 (nx en s) s' else s') (sWant en 1 s))
def vName (en:Tok) (s:RS):ByteArray:=⟨(nx en s).body.toArray⟩
def iGlobal (en:Tok) (p:PMod×RS):PMod×RS :=
  ({ p.1 with vs:=p.1.vs++[⟨vName en p.2,vSize en (sName en (p.1.vs.length==8) (hasVar p.1) p.2)⟩] },sWant en 6 (sSize en (sName en (p.1.vs.length==8) (hasVar p.1) p.2)))
def iExtern (en:Tok) (p:PMod×RS):PMod×RS :=
  ({ p.1 with xs:=p.1.xs++[⟨vName en p.2,(vTypes en (sName en (p.1.xs.length==8) (hasCal p.1) p.2)).1,(vTypes en (sName en (p.1.xs.length==8) (hasCal p.1) p.2)).2⟩] },
    sWant en 6 (sTypes en (sName en (p.1.xs.length==8) (hasCal p.1) p.2)))
def sHead (en:Tok) (p:PMod×RS):RS:=sWant en 6 (sTypes en (sName en (p.1.fs.length==8) (hasCal p.1) p.2))
def iFunc (en:Tok) (p:PMod×RS):PMod×RS :=
  ({ p.1 with fs:=p.1.fs++[⟨vName en p.2,(vTypes en (sName en (p.1.fs.length==8) (hasCal p.1) p.2)).1,(vTypes en (sName en (p.1.fs.length==8) (hasCal p.1) p.2)).2,
      (iBody en ((sHead en p).ts.length+1) ([],sHead en p)).1⟩] },(iBody en ((sHead en p).ts.length+1) ([],sHead en p)).2)
def iLines (en:Tok):Nat→PMod×RS→PMod×RS
  | 0,p=>p
  | k + 1,p =>
    match p.2.ts with
    | []=>p
    | front::_ =>
      if isTk 6 [] front then iLines en k (p.1,ps p.2)
      else if isTk 1 [103,108,111,98,97,108] front then iLines en k (iGlobal en (p.1,ps p.2))
      else if isTk 1 [101,120,116,101,114,110] front then iLines en k (iExtern en (p.1,ps p.2))
      else if isTk 1 [102,117,110,99] front then iLines en k (iFunc en (p.1,ps p.2))
      else iLines en k (p.1,bd 3 front p.2)
/-! Names. -/
def sAnswer (en:Tok) (asked:List Tok) (find:Tx→Option Int) (n:Int) (f:Option Flt):Option Flt :=
  if (find (asked.getD n.toNat en).body).isSome then f else some (f.getD (fltAt 4 (asked.getD n.toNat en)))
structure Gd (t:Tok):Prop where
  word:t.kind=1→0<t.body.length∧wordSize t.body=t.body.length
  reg:t.kind=3→numOf t≤4095
  len:t.body.length≤65536
def Gs (s:PS):Prop:=∀ t∈s.ts,Gd t
def Ens {α:Type} (p:PM α) (Q:α→Prop):Prop:=∀ s a s',Gs s→p s=.ok (a,s')→Q a∧Gs s'
section
variable {α β:Type}
theorem Ens.bind {p:PM α} {f:α→PM β} {Q:α→Prop} {R:β→Prop} (h:Ens p Q) (k:∀ a,Q a→Ens (f a) R):Ens (p >>= f) R:=by
  intro s b s' hs e
  change (p s >>= fun x=>f x.1 x.2)=_ at e
  cases hp:p s with
  | error e' => rw [hp] at e;cases e
  | ok x =>
    obtain ⟨a,s1⟩:=x
    rw [hp] at e
    obtain ⟨h1,h2⟩:=h s a s1 hs hp
    exact k a h1 s1 b s' h2 e
theorem Ens.pure {a:α} {Q:α→Prop} (h:Q a):Ens (Pure.pure a) Q:=by
  intro s b s' hs e
  cases e
  exact ⟨h,hs⟩
theorem Ens.mono {p:PM α} {Q R:α→Prop} (h:Ens p Q) (k:∀ a,Q a→R a):Ens p R:=fun s a s' hs e=>⟨k a (h s a s' hs e).1,(h s a s' hs e).2⟩
theorem Ens.bad {c:Nat} {t:Tok} {Q:α→Prop}:Ens (qBad c t) Q:=fun s a s' hs e=>by cases e
theorem Ens.get:Ens (MonadState.get:PM PS) Gs:=fun s a s' hs e=>by cases e;exact ⟨hs,hs⟩
theorem Ens.ite {c:Prop} [Decidable c] {p q:PM α} {Q:α→Prop} (h:c→Ens p Q) (k:¬ c→Ens q Q):Ens (if c then p else q) Q:=by
  by_cases e:c
  · rw [if_pos e];exact h e
  · rw [if_neg e];exact k e
end
theorem next_ens {en:Tok} (he:Gd en):Ens (qNext en) Gd:=fun s a s' hs e=>by
  cases e
  refine ⟨?_,hs⟩
  cases h:s.ts with
  | nil=>exact he
  | cons t l=>exact hs t (by rw [h];exact List.mem_cons_self ..)
theorem pass_ens:Ens qPass (fun _=>True):=fun s a s' hs e=>by
  cases e
  exact ⟨trivial,fun t ht=>hs t (List.mem_of_mem_tail ht)⟩
theorem passed_ens {en:Tok} (he:Gd en) (k:Nat) (b:Tx):Ens (qPassed en k b) (fun _=>True):=by
  unfold qPassed
  refine Ens.bind (next_ens he) fun t ht=>Ens.ite (fun _=>Ens.bind pass_ens fun _ _=>Ens.pure trivial) (fun _=>Ens.pure trivial)
theorem want_ens {en:Tok} (he:Gd en) (k:Nat):Ens (qWant en k) (fun t=>Gd t∧t.kind=k):=by
  unfold qWant
  refine Ens.bind (next_ens he) fun t ht=>Ens.ite (fun h=>Ens.bind pass_ens fun _ _=>Ens.pure ⟨ht,by simpa using h⟩) (fun _=>Ens.bad)
theorem this_ens {en:Tok} (he:Gd en) (k:Nat) (b:Tx):Ens (qThis en k b) (fun _=>True):=by
  unfold qThis
  exact Ens.bind (next_ens he) fun t ht=>Ens.ite (fun _=>pass_ens) (fun _=>Ens.bad)
theorem lineEnd_ens {en:Tok} (he:Gd en):Ens (qLineEnd en) (fun _=>True):=Ens.bind (want_ens he 6) fun _ _=>Ens.pure trivial
theorem behind_le {c:UInt8} {w:Tx} {most n:Nat} (h:numBehind c w most=some n):n≤most:=by
  unfold numBehind at h
  split at h
  · cases h
  · split at h
    · have:=List.mem_of_find?_eq_some h
      have:=List.mem_range.1 this
      omega
    · cases h
theorem typeOf_le {w:Tx} {n:Nat} (h:typeOfP w=some n):n≤65:=by
  unfold typeOfP at h
  split at h
  · injection h with h;omega
  split at h
  · injection h with h;omega
  · obtain ⟨k,hk⟩:=Option.filter_eq_some_iff.1 h
    have:=behind_le k
    omega
def tyI (t:Int):Prop:=0≤t∧t≤65
theorem ty65:tyI 65:=⟨by decide,by decide⟩
theorem type_ens {en:Tok} (he:Gd en):Ens (qType en) tyI:=by
  unfold qType
  refine Ens.bind (want_ens he 1) fun t ht=>?_
  split
  · rename_i n hn
    have:=typeOf_le hn
    exact Ens.pure ⟨by omega,by omega⟩
  · exact Ens.bad
theorem size_ens {en:Tok} (he:Gd en):Ens (qSize en) (fun n=>1≤n∧n≤64):=by
  unfold qSize
  refine Ens.bind (want_ens he 2) fun t ht=>Ens.ite (fun _=>Ens.bad) (fun h=>Ens.pure ⟨by omega,by omega⟩)
def tgI (t:Int):Prop:=0≤t∧t≤999
theorem block_ens {en:Tok} (he:Gd en):Ens (qBlock en) tgI:=by
  unfold qBlock
  refine Ens.bind (next_ens he) fun t ht=>?_
  split
  · rename_i n hn
    have:n≤999:=by
      unfold blockOfP at hn
      split at hn
      · exact behind_le hn
      · cases hn
    exact Ens.bind pass_ens fun _ _=>Ens.pure ⟨by omega,by omega⟩
  · exact Ens.bad
section
variable {α:Type} {Q:α→Prop} {en:Tok} {item:List α→PM α}
theorem more_ens (he:Gd en) (hi:∀ acc,Ens (item acc) Q):∀ (k:Nat) (acc:List α),(∀ a∈acc,Q a)→Ens (qMore en item k acc) (fun l=>∀ a∈l,Q a)
  | 0,acc,h=>Ens.pure h
  | k+1,acc,h=>by
    unfold qMore
    refine Ens.bind (passed_ens he _ _) fun b _=>Ens.ite (fun _=>Ens.bind (hi acc) fun a ha=>more_ens he hi k _ fun x hx=>?_) (fun _=>Ens.pure h)
    rcases List.mem_append.1 hx with hx | hx
    · exact h x hx
    · rw [List.mem_singleton.1 hx];exact ha
theorem commas_ens (he:Gd en) (hi:∀ acc,Ens (item acc) Q):Ens (qCommas en item) (fun l=>∀ a∈l,Q a):=by
  unfold qCommas
  refine Ens.bind (hi []) fun a ha=>Ens.bind Ens.get fun s _=>more_ens he hi _ _ fun x hx=>?_
  rw [List.mem_singleton.1 hx];exact ha
theorem brackets_ens (he:Gd en) (hi:∀ acc,Ens (item acc) Q):Ens (qBrackets en item) (fun l=>∀ a∈l,Q a):=by
  unfold qBrackets
  refine Ens.bind (this_ens he _ _) fun _ _=>Ens.bind (passed_ens he _ _) fun b _=>Ens.ite (fun _=>Ens.pure fun a h=>by simp at h) (fun _=>Ens.bind (commas_ens he hi) fun l hl=>Ens.bind (this_ens he _ _) fun _ _=>Ens.pure hl)
end
theorem ask_ens (t:Tok):Ens (qAsk t) (fun n=>0≤n):=fun s a s' hs e=>by
  cases e
  exact ⟨by omega,hs⟩
def arI (v:Arg):Prop:=1≤v.kind∧v.kind≤5∧(v.kind=1→v.n≤4095)∧0≤v.n
theorem operand_ens {en:Tok} (he:Gd en):Ens (qOperand en) arI:=by
  unfold qOperand
  refine Ens.bind (next_ens he) fun t ht=>?_
  refine Ens.ite (fun h=>Ens.bind pass_ens fun _ _=>Ens.pure ?_) fun _=>Ens.ite (fun h=>Ens.bind pass_ens fun _ _=>Ens.pure ?_) fun _=>Ens.ite (fun h=>Ens.bind (ask_ens t) fun n hn=>Ens.bind pass_ens fun _ _=>Ens.pure ?_) fun _=>Ens.ite (fun h=>Ens.bind pass_ens fun _ _=>Ens.pure ?_) fun _=>Ens.ite (fun h=>Ens.bind pass_ens fun _ _=>Ens.pure ?_) fun _=>Ens.bad
  · have:=ht.reg (by simpa using h)
    exact ⟨by simp,by simp,fun _=>by show (numOf t:Int)≤4095;omega,by show (0:Int)≤numOf t;omega⟩
  · exact ⟨by simp,by simp,fun k=>by simp at k,by simp⟩
  · exact ⟨by simp,by simp,fun k=>by simp at k,hn⟩
  · exact ⟨by simp,by simp,fun k=>by simp at k,by simp⟩
  · exact ⟨by simp,by simp,fun k=>by simp at k,by simp⟩
theorem operands_ens {en:Tok} (he:Gd en):∀ n,Ens (qOperands en n) (fun l=>∀ a∈l,arI a)
  | 0=>Ens.pure fun a h=>by simp at h
  | 1=>by
    unfold qOperands
    exact Ens.bind (operand_ens he) fun a ha=>Ens.pure fun x hx=>by rw [List.mem_singleton.1 hx];exact ha
  | k + 2=>by
    unfold qOperands
    exact Ens.bind (operand_ens he) fun a ha=>Ens.bind (this_ens he _ _) fun _ _=>Ens.bind (operands_ens he (k+1)) fun l hl=>Ens.pure fun x hx=>by
      rcases List.mem_cons.1 hx with e | hx
      · rw [e];exact ha
      · exact hl x hx
theorem flags_ens {en:Tok} (he:Gd en):Ens (qFlags en) (fun n=>0≤n∧n≤7):=by
  unfold qFlags
  refine Ens.bind (passed_ens he _ _) fun a _=>Ens.bind (passed_ens he _ _) fun b _=>Ens.bind (passed_ens he _ _) fun c _=>Ens.pure ?_
  cases a <;> cases b <;> cases c <;> decide
structure InI (x:PIns):Prop where
  op:1≤x.op∧x.op≤34
  reg:-1≤x.reg∧x.reg≤4095
  ty:tyI x.ty
  fl:13<x.op→x.fl=0
  args:∀ a∈x.args,arI a
  tg:∀ t∈x.tg,tgI t
theorem typed_ens {en:Tok} (he:Gd en) {x:PIns} (hx:InI x) (n:Nat):Ens (qTyped en x n) InI:=by
  unfold qTyped
  exact Ens.bind (type_ens he) fun t ht=>Ens.bind (operands_ens he n) fun l hl=>Ens.pure ⟨hx.op,hx.reg,ht,hx.fl,hl,hx.tg⟩
theorem form_ens {en:Tok} (he:Gd en) {x:PIns} (hx:InI x):Ens (qForm en x) InI:=by
  unfold qForm
  refine Ens.ite (fun _=>Ens.bind (type_ens he) fun n hn=>Ens.bind (operand_ens he) fun a ha=>Ens.bind (this_ens he _ _) fun _ _=>Ens.bind (type_ens he) fun t ht=>Ens.pure ⟨hx.op,hx.reg,ht,hx.fl,fun y hy=>by rw [List.mem_singleton.1 hy];exact ha,hx.tg⟩) fun _=>?_
  refine Ens.ite (fun _=>typed_ens he hx 3) fun _=>?_
  refine Ens.ite (fun _=>typed_ens he hx 1) fun _=>?_
  refine Ens.ite (fun _=>Ens.bind (type_ens he) fun t ht=>Ens.bind (next_ens he) fun p _=>Ens.ite (fun _=>Ens.pure ⟨hx.op,hx.reg,ht,hx.fl,hx.args,hx.tg⟩) fun _=>Ens.bind (commas_ens (Q:=fun q:Int×Arg=>tgI q.1∧arI q.2) he fun _=>Ens.bind (block_ens he) fun b hb=>Ens.bind (operand_ens he) fun a ha=>Ens.pure ⟨hb,ha⟩) fun l hl=>Ens.pure ⟨hx.op,hx.reg,ht,hx.fl,fun y hy=>?_,fun y hy=>?_⟩) fun _=>?_
  · obtain ⟨q,hq,rfl⟩:=List.mem_map.1 hy
    exact (hl q hq).2
  · obtain ⟨q,hq,rfl⟩:=List.mem_map.1 hy
    exact (hl q hq).1
  refine Ens.ite (fun _=>Ens.bind (size_ens he) fun n hn=>Ens.pure ⟨hx.op,hx.reg,ty65,hx.fl,hx.args,hx.tg⟩) fun _=>?_
  refine Ens.ite (fun _=>Ens.bind (operands_ens he 2) fun l hl=>Ens.pure ⟨hx.op,hx.reg,ty65,hx.fl,hl,hx.tg⟩) fun _=>?_
  refine Ens.ite (fun _=>Ens.bind (want_ens he 1) fun t _=>Ens.bind (ask_ens t) fun n _=>Ens.bind (brackets_ens he fun _=>operand_ens he) fun l hl=>Ens.pure ⟨hx.op,hx.reg,hx.ty,hx.fl,hl,hx.tg⟩) fun _=>?_
  refine Ens.ite (fun _=>Ens.bind (operand_ens he) fun a ha=>Ens.bind (this_ens he _ _) fun _ _=>Ens.bind (block_ens he) fun b hb=>Ens.bind (this_ens he _ _) fun _ _=>Ens.bind (block_ens he) fun c hc=>Ens.pure ⟨hx.op,hx.reg,hx.ty,hx.fl,fun y hy=>by rw [List.mem_singleton.1 hy];exact ha,fun y hy=>?_⟩) fun _=>?_
  · rcases List.mem_cons.1 hy with e | hy
    · rw [e];exact hb
    · rw [List.mem_singleton.1 hy];exact hc
  refine Ens.ite (fun _=>Ens.bind (block_ens he) fun b hb=>Ens.pure ⟨hx.op,hx.reg,hx.ty,hx.fl,hx.args,fun y hy=>by rw [List.mem_singleton.1 hy];exact hb⟩) fun _=>?_
  refine Ens.ite (fun _=>Ens.bind (next_ens he) fun p _=>Ens.ite (fun _=>Ens.pure hx) fun _=>typed_ens he hx 1) fun _=>?_
  refine Ens.ite (fun _=>Ens.pure hx) fun _=>?_
  by_cases c:x.op≤13
  · simp only [if_pos c]
    exact Ens.bind (flags_ens he) fun fl _=>typed_ens (x:={ x with fl:=fl }) he ⟨hx.op,hx.reg,hx.ty,fun h=>by have:13<x.op:=h;omega,hx.args,hx.tg⟩ 2
  · simp only [if_neg c]
    exact Ens.bind (Ens.pure (Q:=fun z:Int=>z=0) rfl) fun fl h0=>typed_ens (x:={ x with fl:=fl }) he ⟨hx.op,hx.reg,hx.ty,fun _=>h0,hx.args,hx.tg⟩ 2
theorem opOf_in {w:Tok}:opOfP w=0∨(1≤opOfP w∧opOfP w≤34):=by
  unfold opOfP
  split
  · cases h:(List.range 35).find? (fun k:Nat=>decide (0<k)&&opT (k:Int)==w.body) with
    | none=>exact .inl rfl
    | some k =>
      have h1:=List.mem_range.1 (List.mem_of_find?_eq_some h)
      have h2:=List.find?_some h
      simp only [Bool.and_eq_true,decide_eq_true_eq] at h2
      exact .inr ⟨h2.1,by show k≤34;omega⟩
  · exact .inl rfl
end Go.Proofs.YtmmlfmplggbmiaaGreatDoor
