/- Several texts in one: PgM, PgO, PgS0, PgS1, PgS2, PgS3, PgS4, PgS5, PgS6, PgS7, PgS8, PgS, PgN, PgT0, PgT1, PgT2, PgT3, PgT4, PgT, PgU. -/
import Derived.Deep.MidRow
import Derived.Test.YtmmlfmplggbmiaaGreatDoorMg5
namespace Go.Proofs.YtmmlfmplggbmiaaGreatDoor
open Go.RowKit Go.Maps
set_option linter.unusedVariables false
set_option linter.unusedSimpArgs false
def Holds {β:Type} (B:Nat) (W:World) (b:Nat) (en:Tok) (I:β×RS→World→Prop):Prop :=
  ∀ q w,I q w→∃ m0 m1 m2 r Z,Rd B W b en m0 m1 m2 r q.2 Z w∧∀ s' w',s'.asked=q.2.asked→Rd B W b en m0 m1 m2 r s' Z w'→I (q.1,s') w'
theorem holds_Ik (B:Nat) (W:World) (b:Nat) (en:Tok) (m0 m1 m2:Value) (g:Nat) (Z:As):Holds B W b en (fun p w=>Ik B W b en m0 m1 m2 g p Z w):=fun q w h=>by
  obtain ⟨r,Z',hr,back⟩:=h.rd
  exact ⟨m0,m1,m2,r,Z',hr,back⟩
def lenAt (b:Nat) (w:World):Nat:=match w.cell? ⟨b,0,none⟩ with | some (.slice _ n _)=>n | _=>0
theorem Rd.len {B b:Nat} {W w:World} {en:Tok} {m0 m1 m2 r:Value} {s:RS} {Z:As} (h:Rd B W b en m0 m1 m2 r s Z w):lenAt b w=s.ts.length:=by
  obtain ⟨_,_,tp,tn,tc,hs⟩:=h
  unfold lenAt
  rw [hs.box.get 0 _ rfl]
  exact hs.sat.2.1.1
section
variable {β:Type} {B b:Nat} {W w:World} {en:Tok} {I:β×RS→World→Prop} {item:β×RS→β×RS} {Kq:β×RS→Prop} {fn:FuncId} {cap:Array Value}
theorem more_step (en:Tok) (item:β×RS→β×RS) (k:Nat) (q:β×RS) (h:isTk 5 [44] (nx en q.2)=true):sMore en item (k+1) q=sMore en item k (item (q.1,ps q.2)):=by
  show (if isTk 5 [44] (nx en q.2) then _ else _)=_
  rw [if_pos h]
theorem more_stop (en:Tok) (item:β×RS→β×RS) (k:Nat) (q:β×RS) (h:isTk 5 [44] (nx en q.2)=false):sMore en item (k+1) q=q:=by
  show (if isTk 5 [44] (nx en q.2) then _ else _)=_
  rw [h];rfl
set_option maxRecDepth 100000 in
set_option maxHeartbeats 4000000 in
theorem withCommas_any (h6:en.kind=6) (hI:Holds B W b en I) (hen:∀ (args:Array Value) (w:World),(callFunc fn args).run Tryz.prog w=.ok (.enter fn args) w)
    (hItem:∀ q w,Kq q→I q w→Calls Tryz.prog fn cap w (fun e w' => e=.returned (.tuple #[])∧I (item q) w'))
    (hts:∀ q,(item q).2.ts.length≤q.2.ts.length) (hK:∀ q,Kq q→isTk 5 [44] (nx en (item q).2)=true→Kq ((item q).1,ps (item q).2)) (q:β×RS) (hq:Kq q) (h:I q w) :
    Calls Tryz.prog 172 #[.pointer (some ⟨b,0,none⟩),.func (.func fn) #[] cap] w (fun e w' => e=.returned (.tuple #[])∧I (sCommas en item q) w'):=by
  have C:=hItem q w hq h
  have HQ:=Lib.hid hq
  have HI:=Lib.hid hI
  have HT:=Lib.hid hts
  have HK:=Lib.hid hK
  have HM:=Lib.hid hItem
  unfold sCommas
  clear hI hts hK hItem h hq
  go_enter Tryz.func172,Tryz.ntmps172
  go_wp2_with ((with_reducible refine C.mono ?_);rintro e w1 ⟨rfl,h1⟩)
  have H1:=Lib.hid h1
  clear h1 C
  -- what is read so far: item of a state that may be asked,and as many rounds are left as there must be
  go_loopw [6] (fun t6 wr=>∃ (q':β×RS) (k:Nat),Kq q'∧(item q').2.ts.length<k∧I (item q') wr∧sMore en item ((item q).2.ts.length+1) (item q)=sMore en item k (item q')) (fun _ wr=>lenAt b wr)
  case atStart=>exact ⟨q,_,HQ.out,Nat.lt_succ_self _,H1.out,rfl⟩
  case round =>
    obtain ⟨q',k,hq',hk,hI,hm⟩:=hrel
    obtain ⟨m0,m1,m2,r,Z,hr,back⟩:=HI.out _ _ hI
    have hlen:=hr.len
    have CP:Calls Tryz.prog 73 #[.pointer (some ⟨b,0,none⟩),.int .i64 5,.string ⟨#[44]⟩] wr _:=passed_any hr 5 [44]
    obtain ⟨k',rfl⟩:∃ k',k=k'+1:=⟨k - 1,by omega⟩
    cases hc:isTk 5 [44] (nx en (item q').2) with
    | true =>
      have hne:(item q').2.ts.length≠0:=ts_of_kind h6 (by unfold isTk at hc;rw [Bool.and_eq_true] at hc;have:=hc.1;simp at this;omega)
      have hs:sPassed en 5 [44] (item q').2=ps (item q').2:=by unfold sPassed;rw [if_pos hc]
      simp only [hc,hs] at CP
      have hK':=HK.out q' hq' hc
      have CM:=fun w h=>HM.out ((item q').1,ps (item q').2) w hK' h
      have hst:=more_step en item k' (item q') hc
      have ht2:=HT.out ((item q').1,ps (item q').2)
      have htl:(ps (item q').2).ts.length+1≤(item q').2.ts.length:=by unfold ps;simp;omega
      have HB:=Lib.hid (And.intro back (And.intro hm (And.intro hk (And.intro hst (And.intro ht2 (And.intro htl (And.intro hlen hK')))))))
      clear back hm hk hst ht2 htl hlen hI hr hs hc hne H1 HQ HT HK hK'
      go_wp2_with (first | ((with_reducible refine CP.mono ?_);rintro e w2 ⟨rfl,h2⟩;have h3:=HB.out.1 _ _ (as_ps _) h2) | ((with_reducible refine (CM _ h3).mono ?_);rintro e w4 ⟨rfl,h4⟩))
      obtain ⟨_,e1,e2,e3,e4,e5,e6,e7⟩:=HB.out
      refine ⟨⟨_,k',e7,by omega,h4,e1.trans e3⟩,?_⟩
      obtain ⟨n0,n1,n2,r',Z',hr4,_⟩:=HI.out _ _ h4
      rw [hr4.len,e6]
      omega
    | false =>
      have hs:sPassed en 5 [44] (item q').2=(item q').2:=by unfold sPassed;rw [hc];rfl
      simp only [hc,hs] at CP
      rw [more_stop en item k' (item q') hc] at hm
      have HB:=Lib.hid (And.intro back hm)
      clear back hm hI hr hs hc hlen H1 HQ HT HK
      go_wp2_with ((with_reducible refine CP.mono ?_);rintro e w2 ⟨rfl,h2⟩)
      go_end0
      refine ⟨rfl,?_⟩
      rw [HB.out.2]
      exact HB.out.1 _ _ rfl h2
set_option maxRecDepth 100000 in
set_option maxHeartbeats 4000000 in
theorem inBrackets_any (h6:en.kind=6) (hI:Holds B W b en I) (hen:∀ (args:Array Value) (w:World),(callFunc fn args).run Tryz.prog w=.ok (.enter fn args) w)
    (hItem:∀ q w,Kq q→I q w→Calls Tryz.prog fn cap w (fun e w' => e=.returned (.tuple #[])∧I (item q) w'))
    (hts:∀ q,(item q).2.ts.length≤q.2.ts.length) (hK:∀ q,Kq q→isTk 5 [44] (nx en (item q).2)=true→Kq ((item q).1,ps (item q).2)) (q:β×RS) (hq:Kq (q.1,sThis en 5 [40] q.2)) (h:I q w) :
    Calls Tryz.prog 148 #[.pointer (some ⟨b,0,none⟩),.func (.func fn) #[] cap] w (fun e w' => e=.returned (.tuple #[])∧I (sBrackets en item q) w'):=by
  obtain ⟨m0,m1,m2,r,Z,hr,back⟩:=hI _ _ h
  have C1:Calls Tryz.prog 171 #[.pointer (some ⟨b,0,none⟩),.string ⟨#[40]⟩] w _:=wantMark_any hr [40]
  have C2:∀ w1,Rd B W b en m0 m1 m2 r (sThis en 5 [40] q.2) Z w1→Calls Tryz.prog 73 #[.pointer (some ⟨b,0,none⟩),.int .i64 5,.string ⟨#[41]⟩] w1 (fun e w' => e=.returned (.bool (isTk 5 [41] (nx en (sThis en 5 [40] q.2))))∧Rd B W b en m0 m1 m2 r (sPassed en 5 [41] (sThis en 5 [40] q.2)) Z w'):=fun w1 h1=>passed_any h1 5 [41]
  have C3:=fun w1 (h1:I (q.1,sThis en 5 [40] q.2) w1)=>withCommas_any h6 hI hen hItem hts hK (q.1,sThis en 5 [40] q.2) hq h1
  have C4:∀ q' w1,I q' w1→Calls Tryz.prog 171 #[.pointer (some ⟨b,0,none⟩),.string ⟨#[41]⟩] w1 (fun e w' => e=.returned (.tuple #[])∧I (q'.1,sThis en 5 [41] q'.2) w'):=fun q' w1 h1=>by
    obtain ⟨m0,m1,m2,r,Z,hr,back⟩:=hI _ _ h1
    have C:Calls Tryz.prog 171 #[.pointer (some ⟨b,0,none⟩),.string ⟨#[41]⟩] w1 _:=wantMark_any hr [41]
    exact C.mono fun e w' ⟨h1,h2⟩=>⟨h1,back _ _ (as_this _ _ _ _) h2⟩
  have HB:=Lib.hid back
  unfold sBrackets
  have hasP:∀ k x s,(sPassed en k x s).asked=s.asked:=fun k x s=>as_passed en k x s
  have HP:=Lib.hid hasP
  clear hasP back h hr hItem hts hK hq hI
  cases hc:isTk 5 [41] (nx en (sThis en 5 [40] q.2)) with
  | true =>
    have hs:sPassed en 5 [41] (sThis en 5 [40] q.2)=ps (sThis en 5 [40] q.2):=by unfold sPassed;rw [if_pos hc]
    simp only [hc,hs] at C2
    rw [if_pos rfl]
    clear C3 C4 hc hs
    go_enter Tryz.func148,Tryz.ntmps148
    go_wp2_with (first | ((with_reducible refine C1.mono ?_);rintro e w1 ⟨rfl,h1⟩) | ((with_reducible refine (C2 _ h1).mono ?_);rintro e w2 ⟨rfl,h2⟩))
    refine bodyPost_ret (v:=.tuple #[]) (by simp [results,Tryz.results148,go_sem]) rfl ⟨rfl,HB.out _ _ (by rw [as_ps,as_this]) h2⟩
  | false =>
    have hs:sPassed en 5 [41] (sThis en 5 [40] q.2)=(sThis en 5 [40] q.2):=by unfold sPassed;rw [hc];rfl
    simp only [hc,hs] at C2
    rw [if_neg (by decide)]
    clear hc hs
    go_enter Tryz.func148,Tryz.ntmps148
    go_wp2_with (first | ((with_reducible refine C1.mono ?_);rintro e w1 ⟨rfl,h1⟩) | ((with_reducible refine (C2 _ h1).mono ?_);rintro e w2 ⟨rfl,h2⟩) | ((with_reducible refine (C3 _ (HB.out _ _ (as_this _ _ _ _) h2)).mono ?_);rintro e w3 ⟨rfl,h3⟩) | ((with_reducible refine (C4 _ _ h3).mono ?_);rintro e w4 ⟨rfl,h4⟩))
    go_end0
    exact ⟨rfl,h4⟩
end
/-! Pieces are never more than they were. -/
def tsl (s:RS):Nat:=s.ts.length
theorem tsl_ps (s:RS):tsl (ps s)≤tsl s:=by unfold tsl ps;simp
theorem tsl_bd (c:Nat) (t:Tok) (s:RS):tsl (bd c t s)≤tsl s:=by unfold tsl bd;simp
theorem tsl_ask (t:Tok) (s:RS):tsl (sAsk t s)=tsl s:=rfl
theorem tsl_block (en:Tok) (s:RS):tsl (sBlock en s)≤tsl s:=by unfold sBlock;split;exact tsl_ps s;exact Nat.le_trans (tsl_ps _) (tsl_bd _ _ s)
theorem tsl_want (en:Tok) (k:Nat) (s:RS):tsl (sWant en k s)≤tsl s:=by unfold sWant;split;exact tsl_ps s;exact Nat.le_trans (tsl_ps _) (tsl_bd _ _ s)
theorem tsl_type (en:Tok) (s:RS):tsl (sType en s)≤tsl s:=by unfold sType;split;exact tsl_want _ _ s;exact Nat.le_trans (tsl_bd _ _ _) (tsl_want _ _ s)
theorem tsl_operand (en:Tok) (s:RS):tsl (sOperand en s)≤tsl s:=by
  unfold sOperand
  split
  · exact tsl_ps s
  split
  · exact Nat.le_trans (tsl_ps _) (Nat.le_of_eq (tsl_ask _ s))
  split
  · exact tsl_ps s
  · exact Nat.le_trans (tsl_ps _) (tsl_bd _ _ s)
theorem tsl_pair (en:Tok) (q:PIns×RS):(iPair en q).2.ts.length≤q.2.ts.length:=Nat.le_trans (tsl_operand en (sBlock en q.2)) (tsl_block en q.2)
theorem lim_ps {N:Nat} {en:Tok} (h6:en.kind=6) {q:PIns×RS} (h:Lim (N+2) q) (hc:isTk 5 [44] (nx en q.2)=true):Lim N (q.1,ps q.2):=by
  have hne:q.2.ts.length≠0:=ts_of_kind h6 (by unfold isTk at hc;rw [Bool.and_eq_true] at hc;have:=hc.1;simp at this;omega)
  have:=sz_ps1 hne
  unfold Lim at *
  show q.1.args.length+q.1.tg.length+2 * sz (ps q.2)≤N
  omega
theorem run_kind (k:Int) (s:ByteArray) (l c:Int) (w:World):(Instr.field 81 (.agg #[.int .i64 k,.string s,.int .i64 l,.int .i64 c]) 0).run Tryz.prog w=.ok (.int .i64 k) w:=by kernel_rfl
section
variable {B b g:Nat} {W w:World} {en:Tok} {m0 m1 m2:Value} {p:PIns×RS} {Z:As}
abbrev capB (bi bp g b:Nat):List (Nat×List Value):=[(bi,[.pointer (some ⟨g,0,none⟩)]),(bp,[.pointer (some ⟨b,0,none⟩)])]
theorem Ik.cap {bi bp:Nat} (h:Ik B W b en m0 m1 m2 g p ((As.and (bxs (capB bi bp g b)) Z)) w):w.cell? ⟨bi,0,none⟩=some (.pointer (some ⟨g,0,none⟩))∧w.cell? ⟨bp,0,none⟩=some (.pointer (some ⟨b,0,none⟩))∧bi<w.heap.size∧bp<w.heap.size :=
  ⟨(h.bget 0 rfl).get 0 _ rfl,(h.bget 1 rfl).get 0 _ rfl,(h.bget 0 rfl).1,(h.bget 1 rfl).1⟩
set_option maxRecDepth 100000 in
set_option maxHeartbeats 1000000 in
theorem pair_any (K:Kn B W en) {bi bp:Nat} (hL:Lim 900000 p) (h:Ik B W b en m0 m1 m2 g p ((As.and (bxs (capB bi bp g b)) Z)) w) :
    Calls Tryz.prog 207 #[.pointer (some ⟨bp,0,none⟩),.pointer (some ⟨bi,0,none⟩)] w (fun e w' => e=.returned (.tuple #[])∧Ik B W b en m0 m1 m2 g (iPair en p) ((As.and (bxs (capB bi bp g b)) Z)) w'):=by
  obtain ⟨c0,c1,l0,l1⟩:=h.cap
  have C:=h.target K (hL.mono (by decide))
  have HK:=Lib.hid (And.intro K hL)
  clear h K hL
  go_enter Tryz.func207,Tryz.ntmps207
  go_wp2_with (first | ((with_reducible refine C.mono ?_);rintro e w1 ⟨rfl,h1⟩;obtain ⟨d0,d1,j0,j1⟩:=h1.cap) | ((with_reducible refine (h1.operand HK.out.1 ((lim_tg HK.out.2).mono (by decide))).mono ?_);rintro e w2 ⟨rfl,h2⟩))
  go_end0
  exact ⟨rfl,h2⟩
set_option maxRecDepth 100000 in
set_option maxHeartbeats 1000000 in
theorem arg1_any (K:Kn B W en) {bi bp:Nat} (hL:Lim 900000 p) (h:Ik B W b en m0 m1 m2 g p ((As.and (bxs (capB bi bp g b)) Z)) w) :
    Calls Tryz.prog 201 #[.pointer (some ⟨bp,0,none⟩),.pointer (some ⟨bi,0,none⟩)] w (fun e w' => e=.returned (.tuple #[])∧Ik B W b en m0 m1 m2 g (iArg en p) ((As.and (bxs (capB bi bp g b)) Z)) w'):=by
  obtain ⟨c0,c1,l0,l1⟩:=h.cap
  have C:=h.operand K (hL.mono (by decide))
  clear h K hL
  go_enter Tryz.func201,Tryz.ntmps201
  go_wp2_with ((with_reducible refine C.mono ?_);rintro e w1 ⟨rfl,h1⟩)
  go_end0
  exact ⟨rfl,h1⟩
set_option maxRecDepth 100000 in
theorem enters_phi:∀ (args:Array Value) (w:World),(callFunc 207 args).run Tryz.prog w=.ok (.enter 207 args) w:=fun _ _=>rfl
set_option maxRecDepth 100000 in
theorem enters_form:∀ (args:Array Value) (w:World),(callFunc 201 args).run Tryz.prog w=.ok (.enter 201 args) w:=fun _ _=>rfl
theorem Ik.phiC {bi bp:Nat} (h:Ik B W b en m0 m1 m2 g p ((As.and (bxs (capB bi bp g b)) Z)) w) (K:Kn B W en) (hL:Lim 900000 p) :
    Calls Tryz.prog 172 #[.pointer (some ⟨b,0,none⟩),.func (.func 207) #[] #[.pointer (some ⟨bp,0,none⟩),.pointer (some ⟨bi,0,none⟩)]] w (fun e w' => e=.returned (.tuple #[])∧Ik B W b en m0 m1 m2 g (sCommas en (iPair en) p) ((As.and (bxs (capB bi bp g b)) Z)) w') :=
  withCommas_any (Kq:=Lim 900000) K.2.2.2 (holds_Ik B W b en m0 m1 m2 g _) enters_phi (fun q w hq hI=>pair_any K hq hI) (tsl_pair en) (fun q hq hc=>lim_ps K.2.2.2 (lim_arg K.2.2.2 (lim_tg hq)) hc) p hL h
theorem Ik.callC {bi bp:Nat} (h:Ik B W b en m0 m1 m2 g p ((As.and (bxs (capB bi bp g b)) Z)) w) (K:Kn B W en) (hL:Lim 900000 p) :
    Calls Tryz.prog 148 #[.pointer (some ⟨b,0,none⟩),.func (.func 201) #[] #[.pointer (some ⟨bp,0,none⟩),.pointer (some ⟨bi,0,none⟩)]] w (fun e w' => e=.returned (.tuple #[])∧Ik B W b en m0 m1 m2 g (sBrackets en (iArg en) p) ((As.and (bxs (capB bi bp g b)) Z)) w') :=
  inBrackets_any (Kq:=Lim 900000) K.2.2.2 (holds_Ik B W b en m0 m1 m2 g _) enters_form (fun q w hq hI=>arg1_any K hq hI) (fun q=>tsl_operand en q.2) (fun q hq hc=>lim_ps K.2.2.2 ((lim_arg K.2.2.2 hq).mono (Nat.le_succ _)) hc) p (hL.same rfl rfl (sz_this en 5 [40] p.2)) h
set_option maxRecDepth 100000 in
set_option maxHeartbeats 4000000 in
theorem phi_any (K:Kn B W en) (hL:Lim 800000 p) (h:Ik B W b en m0 m1 m2 g p Z w) :
    Calls Tryz.prog 198 #[.pointer (some ⟨b,0,none⟩),.pointer (some ⟨g,0,none⟩)] w (fun e w' => e=.returned (.tuple #[])∧Ik B W b en m0 m1 m2 g (iPhi en p) Z w'):=by
  have h1:=(h.b0.bpush rfl [.pointer (some ⟨b,0,none⟩)] 79).bpush (g:=w.heap.size+1) (by simp) [.pointer (some ⟨g,0,none⟩)] 119
  have hmf:∀ (fn:Fn) (first cap:Array Value) (w:World),(Instr.makeFunc fn first cap).run Tryz.prog w=.ok (.func fn first cap) w:=fun _ _ _ _=>rfl
  have C:=h1.drew.wantType K
  have CT:=fun (w':World) (h':Ik B W b en m0 m1 m2 g ({ p.1 with ty:=vType en p.2 },sType en p.2) ((As.and (bxs (capB (w.heap.size+1) w.heap.size g b)) Z)) w')=>h'.next
  have CP:=fun (w':World) (h':Ik B W b en m0 m1 m2 g ({ p.1 with ty:=vType en p.2 },sType en p.2) ((As.and (bxs (capB (w.heap.size+1) w.heap.size g b)) Z)) w')=>h'.phiC K (Lim.same (q:=({ p.1 with ty:=vType en p.2 },sType en p.2)) (hL.mono (by decide)) rfl rfl (sz_type en p.2))
  unfold iPhi
  obtain ⟨c0,c1,l0,l1⟩:=h1.cap
  have z2:=h1.cells.2.2.1
  have zf:=h1.frozen 2
  simp only at CT
  obtain ⟨t,et⟩:∃ t,nx en (sType en p.2)=t:=⟨_,rfl⟩
  simp only [et] at CT ⊢
  unfold tkV at CT
  have hfd:=run_kind
  clear h h1 K hL et
  by_cases h6:t.kind=6
  · have e6:((t.kind:Int)==6)=true:=by rw [h6];rfl
    rw [if_pos h6]
    go_enter Tryz.func198,Tryz.ntmps198
    go_wp2_with fail
    go_region_law (first | (go_simp;(with_reducible refine C.mono ?_);rintro e w2 ⟨rfl,h2⟩;obtain ⟨d0,d1,j0,j1⟩:=h2.cap;have y2:=h2.cells.2.2.1;have yf:=h2.frozen 2;have h3:=h2.ty (vType en p.2);obtain ⟨f0,f1,k0,k1⟩:=h3.cap))
    all_goals
      go_wp2_with ((with_reducible refine (CT _ h3).mono ?_);rintro e w4 ⟨rfl,h4⟩)
      (try simp only [Exit.inBlock,Exit.then])
      refine bodyPost_ret (results_none rfl _ _ _) rfl ⟨rfl,h4.nobx⟩
  · have e6:((t.kind:Int)==6)=false:=beq_false_of_ne (by omega)
    rw [if_neg h6]
    go_enter Tryz.func198,Tryz.ntmps198
    go_wp2_with fail
    go_region_law (first | (go_simp;(with_reducible refine C.mono ?_);rintro e w2 ⟨rfl,h2⟩;obtain ⟨d0,d1,j0,j1⟩:=h2.cap;have y2:=h2.cells.2.2.1;have yf:=h2.frozen 2;have h3:=h2.ty (vType en p.2);obtain ⟨f0,f1,k0,k1⟩:=h3.cap))
    all_goals
      go_wp2_with (first | ((with_reducible refine (CT _ h3).mono ?_);rintro e w4 ⟨rfl,h4⟩;obtain ⟨q0,q1,r0,r1⟩:=h4.cap) | ((with_reducible refine (CP _ h4).mono ?_);rintro e w5 ⟨rfl,h5⟩))
      go_end0
      exact ⟨rfl,h5.nobx⟩
end
section
variable {B b g:Nat} {W w:World} {en:Tok} {m0 m1 m2:Value} {p:PIns×RS} {Z:As} {bi bp:Nat}
theorem Ik.typed (h:Ik B W b en m0 m1 m2 g p Z w) (K:Kn B W en) (n:Nat) (ki:Int) (ek:ki=(n:Int)) (hn:n≤3) (hL:Lim 900000 p) :
    Calls Tryz.prog 197 #[.pointer (some ⟨b,0,none⟩),.pointer (some ⟨g,0,none⟩),.int .i64 ki] w (fun e w' => e=.returned (.tuple #[])∧Ik B W b en m0 m1 m2 g (iTyped en n p) Z w'):=by subst ek;exact typed_any K n hn hL h
theorem Ik.operands (h:Ik B W b en m0 m1 m2 g p Z w) (K:Kn B W en) (n:Nat) (ki:Int) (ek:ki=(n:Int)) (hn:n≤3) (hL:Lim 900000 p) :
    Calls Tryz.prog 199 #[.pointer (some ⟨b,0,none⟩),.pointer (some ⟨g,0,none⟩),.int .i64 ki] w (fun e w' => e=.returned (.tuple #[])∧Ik B W b en m0 m1 m2 g (iArgs en n p) Z w'):=by subst ek;exact operands_any K n hn hL h
theorem Ik.facts (h:Ik B W b en m0 m1 m2 g p ((As.and (bxs (capB bi bp g b)) Z)) w) :
    w.cell? ⟨bi,0,none⟩=some (.pointer (some ⟨g,0,none⟩))∧w.cell? ⟨bp,0,none⟩=some (.pointer (some ⟨b,0,none⟩))∧bi<w.heap.size∧bp<w.heap.size ∧
    w.cell? ⟨g,2,none⟩=some (.int .i64 p.1.ty)∧w.cell? ⟨g,3,none⟩=some (.int .i64 p.1.n)∧w.cell? ⟨g,4,none⟩=some (.int .i64 p.1.fl) ∧
    w.frozen? ⟨g,2,none⟩=false∧w.frozen? ⟨g,3,none⟩=false∧w.frozen? ⟨g,4,none⟩=false :=
  ⟨h.cap.1,h.cap.2.1,h.cap.2.2.1,h.cap.2.2.2,h.cells.2.2.1,h.cells.2.2.2.1,h.cells.2.2.2.2,h.frozen 2,h.frozen 3,h.frozen 4⟩
end
section
variable {B b g:Nat} {W w:World} {en:Tok} {m0 m1 m2:Value} {p:PIns×RS} {Z:As} {bi bp:Nat}
set_option maxRecDepth 100000 in
set_option maxHeartbeats 8000000 in
theorem form_conv20 (K:Kn B W en) (hL:Lim 800000 p) (ho:p.1.op=20) (h:Ik B W b en m0 m1 m2 g p Z w) :
    Calls Tryz.prog 179 #[.pointer (some ⟨b,0,none⟩),.pointer (some ⟨g,0,none⟩)] w (fun e w' => e=.returned (.tuple #[])∧Ik B W b en m0 m1 m2 g (iConv en p) Z w'):=by
  have h1:=(h.b0.bpush rfl [.pointer (some ⟨b,0,none⟩)] 79).bpush (g:=w.heap.size+1) (by simp) [.pointer (some ⟨g,0,none⟩)] 119
  have hmf:∀ (fn:Fn) (first cap:Array Value) (w:World),(Instr.makeFunc fn first cap).run Tryz.prog w=.ok (.func fn first cap) w:=fun _ _ _ _=>rfl
  have hfd:=run_kind
  have c0:=h1.cells.1
  obtain ⟨x1a,x1b,x1c,x1d,x1e,x1f,x1g,x1h,x1i,x1j⟩:=(h1).facts
  have HK:=Lib.hid (And.intro K (And.intro hL h1))
  rw [ho] at c0
  clear h h1 K hL ho
  go_enter Tryz.func179,Tryz.ntmps179
  go_wp2_with fail
  go_region_law (first | (go_simp;(with_reducible refine (HK.out.2.2.drew.wantType HK.out.1).mono ?_);rintro e w2 ⟨rfl,h2⟩;obtain ⟨x2a,x2b,x2c,x2d,x2e,x2f,x2g,x2h,x2i,x2j⟩:=(h2).facts;have h3:=h2.n (vType en p.2);obtain ⟨x3a,x3b,x3c,x3d,x3e,x3f,x3g,x3h,x3i,x3j⟩:=(h3).facts))
  all_goals
    have HL4:Lim 900000 (({ p.1 with n:=vType en p.2 },sType en p.2):PIns×RS):=(Lim.same (N:=800000) (q:=({ p.1 with n:=vType en p.2 },sType en p.2)) HK.out.2.1 rfl rfl (sz_type en p.2)).mono (by decide)
    go_wp2_with (first | ((with_reducible refine (h3.operand HK.out.1 (HL4.mono (by decide))).mono ?_);rintro e w4 ⟨rfl,h4⟩;obtain ⟨x4a,x4b,x4c,x4d,x4e,x4f,x4g,x4h,x4i,x4j⟩:=(h4).facts) | ((with_reducible refine (h4.wantWord [116,111] ⟨#[116,111]⟩ rfl).mono ?_);rintro e w5 ⟨rfl,h5⟩;obtain ⟨x5a,x5b,x5c,x5d,x5e,x5f,x5g,x5h,x5i,x5j⟩:=(h5).facts))
    go_region_law (first | (go_simp;(with_reducible refine (h5.drew.wantType HK.out.1).mono ?_);rintro e w6 ⟨rfl,h6⟩;obtain ⟨x6a,x6b,x6c,x6d,x6e,x6f,x6g,x6h,x6i,x6j⟩:=(h6).facts;have h7:=h6.ty (vType en (sThis en 1 [116,111] (iArg en ({ p.1 with n:=vType en p.2 },sType en p.2)).2));obtain ⟨x7a,x7b,x7c,x7d,x7e,x7f,x7g,x7h,x7i,x7j⟩:=(h7).facts))
    all_goals
      go_wp2_with fail
      go_end0
      exact ⟨rfl,h7.nobx⟩
end
section
variable {B b g:Nat} {W w:World} {en:Tok} {m0 m1 m2:Value} {p:PIns×RS} {Z:As} {bi bp:Nat}
set_option maxRecDepth 100000 in
set_option maxHeartbeats 8000000 in
theorem form_conv21 (K:Kn B W en) (hL:Lim 800000 p) (ho:p.1.op=21) (h:Ik B W b en m0 m1 m2 g p Z w) :
    Calls Tryz.prog 179 #[.pointer (some ⟨b,0,none⟩),.pointer (some ⟨g,0,none⟩)] w (fun e w' => e=.returned (.tuple #[])∧Ik B W b en m0 m1 m2 g (iConv en p) Z w'):=by
  have h1:=(h.b0.bpush rfl [.pointer (some ⟨b,0,none⟩)] 79).bpush (g:=w.heap.size+1) (by simp) [.pointer (some ⟨g,0,none⟩)] 119
  have hmf:∀ (fn:Fn) (first cap:Array Value) (w:World),(Instr.makeFunc fn first cap).run Tryz.prog w=.ok (.func fn first cap) w:=fun _ _ _ _=>rfl
  have hfd:=run_kind
  have c0:=h1.cells.1
  obtain ⟨x1a,x1b,x1c,x1d,x1e,x1f,x1g,x1h,x1i,x1j⟩:=(h1).facts
  have HK:=Lib.hid (And.intro K (And.intro hL h1))
  rw [ho] at c0
  clear h h1 K hL ho
  go_enter Tryz.func179,Tryz.ntmps179
  go_wp2_with fail
  go_region_law (first | (go_simp;(with_reducible refine (HK.out.2.2.drew.wantType HK.out.1).mono ?_);rintro e w2 ⟨rfl,h2⟩;obtain ⟨x2a,x2b,x2c,x2d,x2e,x2f,x2g,x2h,x2i,x2j⟩:=(h2).facts;have h3:=h2.n (vType en p.2);obtain ⟨x3a,x3b,x3c,x3d,x3e,x3f,x3g,x3h,x3i,x3j⟩:=(h3).facts))
  all_goals
    have HL4:Lim 900000 (({ p.1 with n:=vType en p.2 },sType en p.2):PIns×RS):=(Lim.same (N:=800000) (q:=({ p.1 with n:=vType en p.2 },sType en p.2)) HK.out.2.1 rfl rfl (sz_type en p.2)).mono (by decide)
    go_wp2_with (first | ((with_reducible refine (h3.operand HK.out.1 (HL4.mono (by decide))).mono ?_);rintro e w4 ⟨rfl,h4⟩;obtain ⟨x4a,x4b,x4c,x4d,x4e,x4f,x4g,x4h,x4i,x4j⟩:=(h4).facts) | ((with_reducible refine (h4.wantWord [116,111] ⟨#[116,111]⟩ rfl).mono ?_);rintro e w5 ⟨rfl,h5⟩;obtain ⟨x5a,x5b,x5c,x5d,x5e,x5f,x5g,x5h,x5i,x5j⟩:=(h5).facts))
    go_region_law (first | (go_simp;(with_reducible refine (h5.drew.wantType HK.out.1).mono ?_);rintro e w6 ⟨rfl,h6⟩;obtain ⟨x6a,x6b,x6c,x6d,x6e,x6f,x6g,x6h,x6i,x6j⟩:=(h6).facts;have h7:=h6.ty (vType en (sThis en 1 [116,111] (iArg en ({ p.1 with n:=vType en p.2 },sType en p.2)).2));obtain ⟨x7a,x7b,x7c,x7d,x7e,x7f,x7g,x7h,x7i,x7j⟩:=(h7).facts))
    all_goals
      go_wp2_with fail
      go_end0
      exact ⟨rfl,h7.nobx⟩
end
section
variable {B b g:Nat} {W w:World} {en:Tok} {m0 m1 m2:Value} {p:PIns×RS} {Z:As} {bi bp:Nat}
set_option maxRecDepth 100000 in
set_option maxHeartbeats 8000000 in
theorem form_conv22 (K:Kn B W en) (hL:Lim 800000 p) (ho:p.1.op=22) (h:Ik B W b en m0 m1 m2 g p Z w) :
    Calls Tryz.prog 179 #[.pointer (some ⟨b,0,none⟩),.pointer (some ⟨g,0,none⟩)] w (fun e w' => e=.returned (.tuple #[])∧Ik B W b en m0 m1 m2 g (iConv en p) Z w'):=by
  have h1:=(h.b0.bpush rfl [.pointer (some ⟨b,0,none⟩)] 79).bpush (g:=w.heap.size+1) (by simp) [.pointer (some ⟨g,0,none⟩)] 119
  have hmf:∀ (fn:Fn) (first cap:Array Value) (w:World),(Instr.makeFunc fn first cap).run Tryz.prog w=.ok (.func fn first cap) w:=fun _ _ _ _=>rfl
  have hfd:=run_kind
  have c0:=h1.cells.1
  obtain ⟨x1a,x1b,x1c,x1d,x1e,x1f,x1g,x1h,x1i,x1j⟩:=(h1).facts
  have HK:=Lib.hid (And.intro K (And.intro hL h1))
  rw [ho] at c0
  clear h h1 K hL ho
  go_enter Tryz.func179,Tryz.ntmps179
  go_wp2_with fail
  go_region_law (first | (go_simp;(with_reducible refine (HK.out.2.2.drew.wantType HK.out.1).mono ?_);rintro e w2 ⟨rfl,h2⟩;obtain ⟨x2a,x2b,x2c,x2d,x2e,x2f,x2g,x2h,x2i,x2j⟩:=(h2).facts;have h3:=h2.n (vType en p.2);obtain ⟨x3a,x3b,x3c,x3d,x3e,x3f,x3g,x3h,x3i,x3j⟩:=(h3).facts))
  all_goals
    have HL4:Lim 900000 (({ p.1 with n:=vType en p.2 },sType en p.2):PIns×RS):=(Lim.same (N:=800000) (q:=({ p.1 with n:=vType en p.2 },sType en p.2)) HK.out.2.1 rfl rfl (sz_type en p.2)).mono (by decide)
    go_wp2_with (first | ((with_reducible refine (h3.operand HK.out.1 (HL4.mono (by decide))).mono ?_);rintro e w4 ⟨rfl,h4⟩;obtain ⟨x4a,x4b,x4c,x4d,x4e,x4f,x4g,x4h,x4i,x4j⟩:=(h4).facts) | ((with_reducible refine (h4.wantWord [116,111] ⟨#[116,111]⟩ rfl).mono ?_);rintro e w5 ⟨rfl,h5⟩;obtain ⟨x5a,x5b,x5c,x5d,x5e,x5f,x5g,x5h,x5i,x5j⟩:=(h5).facts))
    go_region_law (first | (go_simp;(with_reducible refine (h5.drew.wantType HK.out.1).mono ?_);rintro e w6 ⟨rfl,h6⟩;obtain ⟨x6a,x6b,x6c,x6d,x6e,x6f,x6g,x6h,x6i,x6j⟩:=(h6).facts;have h7:=h6.ty (vType en (sThis en 1 [116,111] (iArg en ({ p.1 with n:=vType en p.2 },sType en p.2)).2));obtain ⟨x7a,x7b,x7c,x7d,x7e,x7f,x7g,x7h,x7i,x7j⟩:=(h7).facts))
    all_goals
      go_wp2_with fail
      go_end0
      exact ⟨rfl,h7.nobx⟩
end
section
variable {B b g:Nat} {W w:World} {en:Tok} {m0 m1 m2:Value} {p:PIns×RS} {Z:As} {bi bp:Nat}
set_option maxRecDepth 100000 in
set_option maxHeartbeats 8000000 in
theorem form_typed23 (K:Kn B W en) (hL:Lim 800000 p) (ho:p.1.op=23) (h:Ik B W b en m0 m1 m2 g p Z w) :
    Calls Tryz.prog 179 #[.pointer (some ⟨b,0,none⟩),.pointer (some ⟨g,0,none⟩)] w (fun e w' => e=.returned (.tuple #[])∧Ik B W b en m0 m1 m2 g (iTyped en 3 p) Z w'):=by
  have h1:=(h.b0.bpush rfl [.pointer (some ⟨b,0,none⟩)] 79).bpush (g:=w.heap.size+1) (by simp) [.pointer (some ⟨g,0,none⟩)] 119
  have hmf:∀ (fn:Fn) (first cap:Array Value) (w:World),(Instr.makeFunc fn first cap).run Tryz.prog w=.ok (.func fn first cap) w:=fun _ _ _ _=>rfl
  have hfd:=run_kind
  have c0:=h1.cells.1
  obtain ⟨x1a,x1b,x1c,x1d,x1e,x1f,x1g,x1h,x1i,x1j⟩:=(h1).facts
  have HK:=Lib.hid (And.intro K (And.intro hL h1))
  rw [ho] at c0
  clear h h1 K hL ho
  go_enter Tryz.func179,Tryz.ntmps179
  go_wp2_with ((with_reducible refine (HK.out.2.2.typed HK.out.1 3 3 rfl (by decide) (HK.out.2.1.mono (by decide))).mono ?_);rintro e w2 ⟨rfl,h2⟩;obtain ⟨x2a,x2b,x2c,x2d,x2e,x2f,x2g,x2h,x2i,x2j⟩:=(h2).facts)
  go_end0
  exact ⟨rfl,h2.nobx⟩
set_option maxRecDepth 100000 in
set_option maxHeartbeats 8000000 in
theorem form_typed24 (K:Kn B W en) (hL:Lim 800000 p) (ho:p.1.op=24) (h:Ik B W b en m0 m1 m2 g p Z w) :
    Calls Tryz.prog 179 #[.pointer (some ⟨b,0,none⟩),.pointer (some ⟨g,0,none⟩)] w (fun e w' => e=.returned (.tuple #[])∧Ik B W b en m0 m1 m2 g (iTyped en 1 p) Z w'):=by
  have h1:=(h.b0.bpush rfl [.pointer (some ⟨b,0,none⟩)] 79).bpush (g:=w.heap.size+1) (by simp) [.pointer (some ⟨g,0,none⟩)] 119
  have hmf:∀ (fn:Fn) (first cap:Array Value) (w:World),(Instr.makeFunc fn first cap).run Tryz.prog w=.ok (.func fn first cap) w:=fun _ _ _ _=>rfl
  have hfd:=run_kind
  have c0:=h1.cells.1
  obtain ⟨x1a,x1b,x1c,x1d,x1e,x1f,x1g,x1h,x1i,x1j⟩:=(h1).facts
  have HK:=Lib.hid (And.intro K (And.intro hL h1))
  rw [ho] at c0
  clear h h1 K hL ho
  go_enter Tryz.func179,Tryz.ntmps179
  go_wp2_with ((with_reducible refine (HK.out.2.2.typed HK.out.1 1 1 rfl (by decide) (HK.out.2.1.mono (by decide))).mono ?_);rintro e w2 ⟨rfl,h2⟩;obtain ⟨x2a,x2b,x2c,x2d,x2e,x2f,x2g,x2h,x2i,x2j⟩:=(h2).facts)
  go_end0
  exact ⟨rfl,h2.nobx⟩
set_option maxRecDepth 100000 in
set_option maxHeartbeats 8000000 in
theorem form_typed27 (K:Kn B W en) (hL:Lim 800000 p) (ho:p.1.op=27) (h:Ik B W b en m0 m1 m2 g p Z w) :
    Calls Tryz.prog 179 #[.pointer (some ⟨b,0,none⟩),.pointer (some ⟨g,0,none⟩)] w (fun e w' => e=.returned (.tuple #[])∧Ik B W b en m0 m1 m2 g (iTyped en 1 p) Z w'):=by
  have h1:=(h.b0.bpush rfl [.pointer (some ⟨b,0,none⟩)] 79).bpush (g:=w.heap.size+1) (by simp) [.pointer (some ⟨g,0,none⟩)] 119
  have hmf:∀ (fn:Fn) (first cap:Array Value) (w:World),(Instr.makeFunc fn first cap).run Tryz.prog w=.ok (.func fn first cap) w:=fun _ _ _ _=>rfl
  have hfd:=run_kind
  have c0:=h1.cells.1
  obtain ⟨x1a,x1b,x1c,x1d,x1e,x1f,x1g,x1h,x1i,x1j⟩:=(h1).facts
  have HK:=Lib.hid (And.intro K (And.intro hL h1))
  rw [ho] at c0
  clear h h1 K hL ho
  go_enter Tryz.func179,Tryz.ntmps179
  go_wp2_with ((with_reducible refine (HK.out.2.2.typed HK.out.1 1 1 rfl (by decide) (HK.out.2.1.mono (by decide))).mono ?_);rintro e w2 ⟨rfl,h2⟩;obtain ⟨x2a,x2b,x2c,x2d,x2e,x2f,x2g,x2h,x2i,x2j⟩:=(h2).facts)
  go_end0
  exact ⟨rfl,h2.nobx⟩
set_option maxRecDepth 100000 in
set_option maxHeartbeats 8000000 in
theorem form_phi (K:Kn B W en) (hL:Lim 800000 p) (ho:p.1.op=25) (h:Ik B W b en m0 m1 m2 g p Z w) :
    Calls Tryz.prog 179 #[.pointer (some ⟨b,0,none⟩),.pointer (some ⟨g,0,none⟩)] w (fun e w' => e=.returned (.tuple #[])∧Ik B W b en m0 m1 m2 g (iPhi en p) Z w'):=by
  have h1:=(h.b0.bpush rfl [.pointer (some ⟨b,0,none⟩)] 79).bpush (g:=w.heap.size+1) (by simp) [.pointer (some ⟨g,0,none⟩)] 119
  have hmf:∀ (fn:Fn) (first cap:Array Value) (w:World),(Instr.makeFunc fn first cap).run Tryz.prog w=.ok (.func fn first cap) w:=fun _ _ _ _=>rfl
  have hfd:=run_kind
  have c0:=h1.cells.1
  obtain ⟨x1a,x1b,x1c,x1d,x1e,x1f,x1g,x1h,x1i,x1j⟩:=(h1).facts
  have HK:=Lib.hid (And.intro K (And.intro hL h1))
  rw [ho] at c0
  clear h h1 K hL ho
  have CP:=phi_any HK.out.1 HK.out.2.1 HK.out.2.2
  go_enter Tryz.func179,Tryz.ntmps179
  go_wp2_with ((with_reducible refine (CP).mono ?_);rintro e w2 ⟨rfl,h2⟩;obtain ⟨x2a,x2b,x2c,x2d,x2e,x2f,x2g,x2h,x2i,x2j⟩:=(h2).facts)
  go_end0
  exact ⟨rfl,h2.nobx⟩
end
section
variable {B b g:Nat} {W w:World} {en:Tok} {m0 m1 m2:Value} {p:PIns×RS} {Z:As} {bi bp:Nat}
set_option maxRecDepth 100000 in
set_option maxHeartbeats 8000000 in
theorem form_alloca (K:Kn B W en) (hL:Lim 800000 p) (ho:p.1.op=26) (h:Ik B W b en m0 m1 m2 g p Z w) :
    Calls Tryz.prog 179 #[.pointer (some ⟨b,0,none⟩),.pointer (some ⟨g,0,none⟩)] w (fun e w' => e=.returned (.tuple #[])∧Ik B W b en m0 m1 m2 g (({ p.1 with ty:=65,n:=vSize en p.2 },sSize en p.2)) Z w'):=by
  have h1:=(h.b0.bpush rfl [.pointer (some ⟨b,0,none⟩)] 79).bpush (g:=w.heap.size+1) (by simp) [.pointer (some ⟨g,0,none⟩)] 119
  have hmf:∀ (fn:Fn) (first cap:Array Value) (w:World),(Instr.makeFunc fn first cap).run Tryz.prog w=.ok (.func fn first cap) w:=fun _ _ _ _=>rfl
  have hfd:=run_kind
  have c0:=h1.cells.1
  obtain ⟨x1a,x1b,x1c,x1d,x1e,x1f,x1g,x1h,x1i,x1j⟩:=(h1).facts
  have HK:=Lib.hid (And.intro K (And.intro hL h1))
  rw [ho] at c0
  clear h h1 K hL ho
  go_enter Tryz.func179,Tryz.ntmps179
  go_wp2_with fail
  go_region_law (first | (go_simp;(with_reducible refine (HK.out.2.2.drew.wantSize HK.out.1).mono ?_);rintro e w2 ⟨rfl,h2⟩;obtain ⟨x2a,x2b,x2c,x2d,x2e,x2f,x2g,x2h,x2i,x2j⟩:=(h2).facts))
  all_goals
    go_wp2_with fail
    go_end0
    first
      | exact ⟨rfl,((h2.ty 65).n (vSize en p.2)).nobx⟩
      | exact ⟨rfl,((h2.n (vSize en p.2)).ty 65).nobx⟩
set_option maxRecDepth 100000 in
set_option maxHeartbeats 8000000 in
theorem form_gep (K:Kn B W en) (hL:Lim 800000 p) (ho:p.1.op=29) (h:Ik B W b en m0 m1 m2 g p Z w) :
    Calls Tryz.prog 179 #[.pointer (some ⟨b,0,none⟩),.pointer (some ⟨g,0,none⟩)] w (fun e w' => e=.returned (.tuple #[])∧Ik B W b en m0 m1 m2 g (iArgs en 2 ({ p.1 with ty:=65 },p.2)) Z w'):=by
  have h1:=(h.b0.bpush rfl [.pointer (some ⟨b,0,none⟩)] 79).bpush (g:=w.heap.size+1) (by simp) [.pointer (some ⟨g,0,none⟩)] 119
  have hmf:∀ (fn:Fn) (first cap:Array Value) (w:World),(Instr.makeFunc fn first cap).run Tryz.prog w=.ok (.func fn first cap) w:=fun _ _ _ _=>rfl
  have hfd:=run_kind
  have c0:=h1.cells.1
  obtain ⟨x1a,x1b,x1c,x1d,x1e,x1f,x1g,x1h,x1i,x1j⟩:=(h1).facts
  have HK:=Lib.hid (And.intro K (And.intro hL h1))
  rw [ho] at c0
  clear h h1 K hL ho
  have h2:=HK.out.2.2.ty 65
  obtain ⟨x2a,x2b,x2c,x2d,x2e,x2f,x2g,x2h,x2i,x2j⟩:=(h2).facts
  go_enter Tryz.func179,Tryz.ntmps179
  go_wp2_with ((with_reducible refine (h2.operands HK.out.1 2 2 rfl (by decide) (Lim.same (q:=({ p.1 with ty:=65 },p.2)) (HK.out.2.1.mono (by decide)) rfl rfl (Nat.le_refl _))).mono ?_);rintro e w3 ⟨rfl,h3⟩;obtain ⟨x3a,x3b,x3c,x3d,x3e,x3f,x3g,x3h,x3i,x3j⟩:=(h3).facts)
  go_end0
  exact ⟨rfl,h3.nobx⟩
end
section
variable {B b g:Nat} {W w:World} {en:Tok} {m0 m1 m2:Value} {p:PIns×RS} {Z:As} {bi bp:Nat}
set_option maxRecDepth 100000 in
set_option maxHeartbeats 8000000 in
theorem form_call (K:Kn B W en) (hL:Lim 800000 p) (ho:p.1.op=30) (h:Ik B W b en m0 m1 m2 g p Z w) :
    Calls Tryz.prog 179 #[.pointer (some ⟨b,0,none⟩),.pointer (some ⟨g,0,none⟩)] w (fun e w' => e=.returned (.tuple #[])∧Ik B W b en m0 m1 m2 g (iCall en p) Z w'):=by
  have h1:=(h.b0.bpush rfl [.pointer (some ⟨b,0,none⟩)] 79).bpush (g:=w.heap.size+1) (by simp) [.pointer (some ⟨g,0,none⟩)] 119
  have hmf:∀ (fn:Fn) (first cap:Array Value) (w:World),(Instr.makeFunc fn first cap).run Tryz.prog w=.ok (.func fn first cap) w:=fun _ _ _ _=>rfl
  have hfd:=run_kind
  have c0:=h1.cells.1
  obtain ⟨x1a,x1b,x1c,x1d,x1e,x1f,x1g,x1h,x1i,x1j⟩:=(h1).facts
  have HK:=Lib.hid (And.intro K (And.intro hL h1))
  have ht:=h.nx_gt K
  have hT:=Lib.hid ht
  have hsz:=sz_want en 1 p.2
  have has:=as_want en 1 p.2
  have HS:=Lib.hid (And.intro hsz has)
  unfold iCall
  clear ht hsz has
  rw [ho] at c0
  clear h h1 K hL ho
  go_enter Tryz.func179,Tryz.ntmps179
  go_wp2_with fail
  go_region_law (first | (go_simp;(with_reducible refine (HK.out.2.2.drew.want 1 1 rfl).mono ?_);rintro e w2 ⟨rfl,h2⟩;obtain ⟨x2a,x2b,x2c,x2d,x2e,x2f,x2g,x2h,x2i,x2j⟩:=(h2).facts) | (go_simp;(with_reducible refine (h2.ask _ hT.out (by rw [HS.out.2];exact Nat.le_trans HK.out.2.1.asked (by decide))).mono ?_);rintro e w3 ⟨rfl,h3⟩;obtain ⟨x3a,x3b,x3c,x3d,x3e,x3f,x3g,x3h,x3i,x3j⟩:=(h3).facts;have h4:=h3.n ((sWant en 1 p.2).asked.length:Nat);obtain ⟨x4a,x4b,x4c,x4d,x4e,x4f,x4g,x4h,x4i,x4j⟩:=(h4).facts))
  all_goals
    have HL4:Lim 900000 (({ p.1 with n:=((sWant en 1 p.2).asked.length:Nat) },sAsk (nx en p.2) (sWant en 1 p.2)):PIns×RS):=by
      have h0:=HK.out.2.1
      have h1:=HS.out.1
      have h2:=sz_ask (nx en p.2) (sWant en 1 p.2)
      unfold Lim at *
      show p.1.args.length+p.1.tg.length+2 * sz (sAsk (nx en p.2) (sWant en 1 p.2))≤_
      omega
    go_wp2_with ((with_reducible refine (h4.callC HK.out.1 HL4).mono ?_);rintro e w5 ⟨rfl,h5⟩;obtain ⟨x5a,x5b,x5c,x5d,x5e,x5f,x5g,x5h,x5i,x5j⟩:=(h5).facts)
    go_end0
    exact ⟨rfl,h5.nobx⟩
end
section
variable {B b g:Nat} {W w:World} {en:Tok} {m0 m1 m2:Value} {p:PIns×RS} {Z:As} {bi bp:Nat}
set_option maxRecDepth 100000 in
set_option maxHeartbeats 8000000 in
theorem form_brif (K:Kn B W en) (hL:Lim 800000 p) (ho:p.1.op=32) (h:Ik B W b en m0 m1 m2 g p Z w) :
    Calls Tryz.prog 179 #[.pointer (some ⟨b,0,none⟩),.pointer (some ⟨g,0,none⟩)] w (fun e w' => e=.returned (.tuple #[])∧Ik B W b en m0 m1 m2 g (iTg en (iMark en 44 (iTg en (iMark en 44 (iArg en p))))) Z w'):=by
  have h1:=(h.b0.bpush rfl [.pointer (some ⟨b,0,none⟩)] 79).bpush (g:=w.heap.size+1) (by simp) [.pointer (some ⟨g,0,none⟩)] 119
  have hmf:∀ (fn:Fn) (first cap:Array Value) (w:World),(Instr.makeFunc fn first cap).run Tryz.prog w=.ok (.func fn first cap) w:=fun _ _ _ _=>rfl
  have hfd:=run_kind
  have c0:=h1.cells.1
  obtain ⟨x1a,x1b,x1c,x1d,x1e,x1f,x1g,x1h,x1i,x1j⟩:=(h1).facts
  have HK:=Lib.hid (And.intro K (And.intro hL h1))
  rw [ho] at c0
  clear h h1 K hL ho
  have L2:=lim_mark (en:=en) (c:=44) (lim_arg HK.out.1.2.2.2 HK.out.2.1)
  have L3:=lim_mark (en:=en) (c:=44) (lim_tg (en:=en) L2)
  have LL:=Lib.hid (And.intro L2 L3)
  clear L2 L3
  go_enter Tryz.func179,Tryz.ntmps179
  go_wp2_with (first | ((with_reducible refine (HK.out.2.2.operand HK.out.1 (HK.out.2.1.mono (by decide))).mono ?_);rintro e w2 ⟨rfl,h2⟩;obtain ⟨x2a,x2b,x2c,x2d,x2e,x2f,x2g,x2h,x2i,x2j⟩:=(h2).facts) | ((with_reducible refine (h2.mark 44 ⟨#[44]⟩ rfl).mono ?_);rintro e w3 ⟨rfl,h3⟩;obtain ⟨x3a,x3b,x3c,x3d,x3e,x3f,x3g,x3h,x3i,x3j⟩:=(h3).facts) | ((with_reducible refine (h3.target HK.out.1 (LL.out.1.mono (by decide))).mono ?_);rintro e w4 ⟨rfl,h4⟩;obtain ⟨x4a,x4b,x4c,x4d,x4e,x4f,x4g,x4h,x4i,x4j⟩:=(h4).facts) | ((with_reducible refine (h4.mark 44 ⟨#[44]⟩ rfl).mono ?_);rintro e w5 ⟨rfl,h5⟩;obtain ⟨x5a,x5b,x5c,x5d,x5e,x5f,x5g,x5h,x5i,x5j⟩:=(h5).facts) | ((with_reducible refine (h5.target HK.out.1 (LL.out.2.mono (by decide))).mono ?_);rintro e w6 ⟨rfl,h6⟩;obtain ⟨x6a,x6b,x6c,x6d,x6e,x6f,x6g,x6h,x6i,x6j⟩:=(h6).facts))
  go_end0
  exact ⟨rfl,h6.nobx⟩
set_option maxRecDepth 100000 in
set_option maxHeartbeats 8000000 in
theorem form_br (K:Kn B W en) (hL:Lim 800000 p) (ho:p.1.op=31) (h:Ik B W b en m0 m1 m2 g p Z w) :
    Calls Tryz.prog 179 #[.pointer (some ⟨b,0,none⟩),.pointer (some ⟨g,0,none⟩)] w (fun e w' => e=.returned (.tuple #[])∧Ik B W b en m0 m1 m2 g (iTg en p) Z w'):=by
  have h1:=(h.b0.bpush rfl [.pointer (some ⟨b,0,none⟩)] 79).bpush (g:=w.heap.size+1) (by simp) [.pointer (some ⟨g,0,none⟩)] 119
  have hmf:∀ (fn:Fn) (first cap:Array Value) (w:World),(Instr.makeFunc fn first cap).run Tryz.prog w=.ok (.func fn first cap) w:=fun _ _ _ _=>rfl
  have hfd:=run_kind
  have c0:=h1.cells.1
  obtain ⟨x1a,x1b,x1c,x1d,x1e,x1f,x1g,x1h,x1i,x1j⟩:=(h1).facts
  have HK:=Lib.hid (And.intro K (And.intro hL h1))
  rw [ho] at c0
  clear h h1 K hL ho
  go_enter Tryz.func179,Tryz.ntmps179
  go_wp2_with ((with_reducible refine (HK.out.2.2.target HK.out.1 (HK.out.2.1.mono (by decide))).mono ?_);rintro e w2 ⟨rfl,h2⟩;obtain ⟨x2a,x2b,x2c,x2d,x2e,x2f,x2g,x2h,x2i,x2j⟩:=(h2).facts)
  go_end0
  exact ⟨rfl,h2.nobx⟩
set_option maxRecDepth 100000 in
set_option maxHeartbeats 8000000 in
theorem form_ret (K:Kn B W en) (hL:Lim 800000 p) (ho:p.1.op=33) (h:Ik B W b en m0 m1 m2 g p Z w) :
    Calls Tryz.prog 179 #[.pointer (some ⟨b,0,none⟩),.pointer (some ⟨g,0,none⟩)] w (fun e w' => e=.returned (.tuple #[])∧Ik B W b en m0 m1 m2 g (if (nx en p.2).kind≠6 then iTyped en 1 p else p) Z w'):=by
  have h1:=(h.b0.bpush rfl [.pointer (some ⟨b,0,none⟩)] 79).bpush (g:=w.heap.size+1) (by simp) [.pointer (some ⟨g,0,none⟩)] 119
  have hmf:∀ (fn:Fn) (first cap:Array Value) (w:World),(Instr.makeFunc fn first cap).run Tryz.prog w=.ok (.func fn first cap) w:=fun _ _ _ _=>rfl
  have hfd:=run_kind
  have c0:=h1.cells.1
  obtain ⟨x1a,x1b,x1c,x1d,x1e,x1f,x1g,x1h,x1i,x1j⟩:=(h1).facts
  have HK:=Lib.hid (And.intro K (And.intro hL h1))
  have CT:=h1.next
  obtain ⟨t,et⟩:∃ t,nx en p.2=t:=⟨_,rfl⟩
  simp only [et] at CT ⊢
  unfold tkV at CT
  clear et
  rw [ho] at c0
  clear h h1 K hL ho
  by_cases h6:t.kind=6
  · have e6:((t.kind:Int) != 6)=false:=by simp [h6]
    rw [if_neg (by simpa using h6)]
    go_enter Tryz.func179,Tryz.ntmps179
    go_wp2_with ((with_reducible refine (CT).mono ?_);rintro e w2 ⟨rfl,h2⟩;obtain ⟨x2a,x2b,x2c,x2d,x2e,x2f,x2g,x2h,x2i,x2j⟩:=(h2).facts)
    go_end0
    exact ⟨rfl,h2.nobx⟩
  · have e6:((t.kind:Int) != 6)=true:=by simp;omega
    rw [if_pos h6]
    go_enter Tryz.func179,Tryz.ntmps179
    go_wp2_with (first | ((with_reducible refine (CT).mono ?_);rintro e w2 ⟨rfl,h2⟩;obtain ⟨x2a,x2b,x2c,x2d,x2e,x2f,x2g,x2h,x2i,x2j⟩:=(h2).facts) | ((with_reducible refine (h2.typed HK.out.1 1 1 rfl (by decide) (HK.out.2.1.mono (by decide))).mono ?_);rintro e w3 ⟨rfl,h3⟩;obtain ⟨x3a,x3b,x3c,x3d,x3e,x3f,x3g,x3h,x3i,x3j⟩:=(h3).facts))
    go_end0
    exact ⟨rfl,h3.nobx⟩
end
section
variable {B b g:Nat} {W w:World} {en:Tok} {m0 m1 m2:Value} {p:PIns×RS} {Z:As} {bi bp:Nat}
set_option maxRecDepth 100000 in
set_option maxHeartbeats 8000000 in
theorem form_halt (K:Kn B W en) (hL:Lim 800000 p) (ho:p.1.op=34) (h:Ik B W b en m0 m1 m2 g p Z w) :
    Calls Tryz.prog 179 #[.pointer (some ⟨b,0,none⟩),.pointer (some ⟨g,0,none⟩)] w (fun e w' => e=.returned (.tuple #[])∧Ik B W b en m0 m1 m2 g (p) Z w'):=by
  have h1:=(h.b0.bpush rfl [.pointer (some ⟨b,0,none⟩)] 79).bpush (g:=w.heap.size+1) (by simp) [.pointer (some ⟨g,0,none⟩)] 119
  have hmf:∀ (fn:Fn) (first cap:Array Value) (w:World),(Instr.makeFunc fn first cap).run Tryz.prog w=.ok (.func fn first cap) w:=fun _ _ _ _=>rfl
  have hfd:=run_kind
  have c0:=h1.cells.1
  obtain ⟨x1a,x1b,x1c,x1d,x1e,x1f,x1g,x1h,x1i,x1j⟩:=(h1).facts
  have HK:=Lib.hid (And.intro K (And.intro hL h1))
  rw [ho] at c0
  clear h h1 K hL ho
  go_enter Tryz.func179,Tryz.ntmps179
  go_wp2_with fail
  go_end0
  exact ⟨rfl,HK.out.2.2.nobx⟩
set_option maxRecDepth 100000 in
set_option maxHeartbeats 8000000 in
theorem form_flags (K:Kn B W en) (hL:Lim 800000 p) (hno:∀ k∈[20,21,22,23,24,25,26,27,29,30,31,32,33,34],p.1.op≠(k:Int)) (hle:p.1.op≤13) (h:Ik B W b en m0 m1 m2 g p Z w) :
    Calls Tryz.prog 179 #[.pointer (some ⟨b,0,none⟩),.pointer (some ⟨g,0,none⟩)] w (fun e w' => e=.returned (.tuple #[])∧Ik B W b en m0 m1 m2 g (iTyped en 2 ({ p.1 with fl:=vFlags en p.2 },sFlags en p.2)) Z w'):=by
  have h1:=(h.b0.bpush rfl [.pointer (some ⟨b,0,none⟩)] 79).bpush (g:=w.heap.size+1) (by simp) [.pointer (some ⟨g,0,none⟩)] 119
  have hmf:∀ (fn:Fn) (first cap:Array Value) (w:World),(Instr.makeFunc fn first cap).run Tryz.prog w=.ok (.func fn first cap) w:=fun _ _ _ _=>rfl
  have hfd:=run_kind
  have c0:=h1.cells.1
  obtain ⟨x1a,x1b,x1c,x1d,x1e,x1f,x1g,x1h,x1i,x1j⟩:=(h1).facts
  have HK:=Lib.hid (And.intro K (And.intro hL h1))
  have hsz:sz (sFlags en p.2)≤sz p.2:=by unfold sFlags;exact Nat.le_trans (sz_passed _ _ _ _) (Nat.le_trans (sz_passed _ _ _ _) (sz_passed _ _ _ _))
  have HS:=Lib.hid hsz
  clear hsz
  obtain ⟨op,eop⟩:∃ op,p.1.op=op:=⟨_,rfl⟩
  rw [eop] at c0 hle
  have n20:(op==20)=false:=beq_false_of_ne (fun e=>hno 20 (by decide) (by rw [eop];exact e))
  have n21:(op==21)=false:=beq_false_of_ne (fun e=>hno 21 (by decide) (by rw [eop];exact e))
  have n22:(op==22)=false:=beq_false_of_ne (fun e=>hno 22 (by decide) (by rw [eop];exact e))
  have n23:(op==23)=false:=beq_false_of_ne (fun e=>hno 23 (by decide) (by rw [eop];exact e))
  have n24:(op==24)=false:=beq_false_of_ne (fun e=>hno 24 (by decide) (by rw [eop];exact e))
  have n27:(op==27)=false:=beq_false_of_ne (fun e=>hno 27 (by decide) (by rw [eop];exact e))
  have n25:(op==25)=false:=beq_false_of_ne (fun e=>hno 25 (by decide) (by rw [eop];exact e))
  have n26:(op==26)=false:=beq_false_of_ne (fun e=>hno 26 (by decide) (by rw [eop];exact e))
  have n29:(op==29)=false:=beq_false_of_ne (fun e=>hno 29 (by decide) (by rw [eop];exact e))
  have n30:(op==30)=false:=beq_false_of_ne (fun e=>hno 30 (by decide) (by rw [eop];exact e))
  have n32:(op==32)=false:=beq_false_of_ne (fun e=>hno 32 (by decide) (by rw [eop];exact e))
  have n31:(op==31)=false:=beq_false_of_ne (fun e=>hno 31 (by decide) (by rw [eop];exact e))
  have n33:(op==33)=false:=beq_false_of_ne (fun e=>hno 33 (by decide) (by rw [eop];exact e))
  have n34:(op==34)=false:=beq_false_of_ne (fun e=>hno 34 (by decide) (by rw [eop];exact e))
  clear h h1 K hL hno eop
  have d13:decide (op≤13)=true:=decide_eq_true hle
  go_enter Tryz.func179,Tryz.ntmps179
  go_wp2_with fail
  go_region_law (first | (go_simp;(with_reducible refine (flags_any HK.out.2.2.drew).mono ?_);rintro e w2 ⟨rfl,h2⟩;obtain ⟨x2a,x2b,x2c,x2d,x2e,x2f,x2g,x2h,x2i,x2j⟩:=(h2).facts;have h3:=h2.fl (vFlags en p.2);obtain ⟨x3a,x3b,x3c,x3d,x3e,x3f,x3g,x3h,x3i,x3j⟩:=(h3).facts))
  all_goals
    go_wp2_with ((with_reducible refine (h3.typed HK.out.1 2 2 rfl (by decide) (Lim.same (q:=({ p.1 with fl:=vFlags en p.2 },sFlags en p.2)) (HK.out.2.1.mono (by decide)) rfl rfl HS.out)).mono ?_);rintro e w4 ⟨rfl,h4⟩;obtain ⟨x4a,x4b,x4c,x4d,x4e,x4f,x4g,x4h,x4i,x4j⟩:=(h4).facts)
    go_end0
    exact ⟨rfl,h4.nobx⟩
set_option maxRecDepth 100000 in
set_option maxHeartbeats 8000000 in
theorem form_plain (K:Kn B W en) (hL:Lim 800000 p) (hno:∀ k∈[20,21,22,23,24,25,26,27,29,30,31,32,33,34],p.1.op≠(k:Int)) (hle:¬ p.1.op≤13) (h:Ik B W b en m0 m1 m2 g p Z w) :
    Calls Tryz.prog 179 #[.pointer (some ⟨b,0,none⟩),.pointer (some ⟨g,0,none⟩)] w (fun e w' => e=.returned (.tuple #[])∧Ik B W b en m0 m1 m2 g (iTyped en 2 p) Z w'):=by
  have h1:=(h.b0.bpush rfl [.pointer (some ⟨b,0,none⟩)] 79).bpush (g:=w.heap.size+1) (by simp) [.pointer (some ⟨g,0,none⟩)] 119
  have hmf:∀ (fn:Fn) (first cap:Array Value) (w:World),(Instr.makeFunc fn first cap).run Tryz.prog w=.ok (.func fn first cap) w:=fun _ _ _ _=>rfl
  have hfd:=run_kind
  have c0:=h1.cells.1
  obtain ⟨x1a,x1b,x1c,x1d,x1e,x1f,x1g,x1h,x1i,x1j⟩:=(h1).facts
  have HK:=Lib.hid (And.intro K (And.intro hL h1))
  obtain ⟨op,eop⟩:∃ op,p.1.op=op:=⟨_,rfl⟩
  rw [eop] at c0 hle
  have n20:(op==20)=false:=beq_false_of_ne (fun e=>hno 20 (by decide) (by rw [eop];exact e))
  have n21:(op==21)=false:=beq_false_of_ne (fun e=>hno 21 (by decide) (by rw [eop];exact e))
  have n22:(op==22)=false:=beq_false_of_ne (fun e=>hno 22 (by decide) (by rw [eop];exact e))
  have n23:(op==23)=false:=beq_false_of_ne (fun e=>hno 23 (by decide) (by rw [eop];exact e))
  have n24:(op==24)=false:=beq_false_of_ne (fun e=>hno 24 (by decide) (by rw [eop];exact e))
  have n27:(op==27)=false:=beq_false_of_ne (fun e=>hno 27 (by decide) (by rw [eop];exact e))
  have n25:(op==25)=false:=beq_false_of_ne (fun e=>hno 25 (by decide) (by rw [eop];exact e))
  have n26:(op==26)=false:=beq_false_of_ne (fun e=>hno 26 (by decide) (by rw [eop];exact e))
  have n29:(op==29)=false:=beq_false_of_ne (fun e=>hno 29 (by decide) (by rw [eop];exact e))
  have n30:(op==30)=false:=beq_false_of_ne (fun e=>hno 30 (by decide) (by rw [eop];exact e))
  have n32:(op==32)=false:=beq_false_of_ne (fun e=>hno 32 (by decide) (by rw [eop];exact e))
  have n31:(op==31)=false:=beq_false_of_ne (fun e=>hno 31 (by decide) (by rw [eop];exact e))
  have n33:(op==33)=false:=beq_false_of_ne (fun e=>hno 33 (by decide) (by rw [eop];exact e))
  have n34:(op==34)=false:=beq_false_of_ne (fun e=>hno 34 (by decide) (by rw [eop];exact e))
  clear h h1 K hL hno eop
  have d13:decide (op≤13)=false:=decide_eq_false hle
  go_enter Tryz.func179,Tryz.ntmps179
  go_wp2_with ((with_reducible refine (HK.out.2.2.typed HK.out.1 2 2 rfl (by decide) (HK.out.2.1.mono (by decide))).mono ?_);rintro e w2 ⟨rfl,h2⟩;obtain ⟨x2a,x2b,x2c,x2d,x2e,x2f,x2g,x2h,x2i,x2j⟩:=(h2).facts)
  go_end0
  exact ⟨rfl,h2.nobx⟩
end
section
variable {B b g:Nat} {W w:World} {en:Tok} {m0 m1 m2:Value} {p:PIns×RS} {Z:As} {bi bp:Nat}
theorem form_any (K:Kn B W en) (hL:Lim 800000 p) (h:Ik B W b en m0 m1 m2 g p Z w) :
    Calls Tryz.prog 179 #[.pointer (some ⟨b,0,none⟩),.pointer (some ⟨g,0,none⟩)] w (fun e w' => e=.returned (.tuple #[])∧Ik B W b en m0 m1 m2 g (iForm en p) Z w'):=by
  unfold iForm
  by_cases c0:20≤p.1.op∧p.1.op≤22
  · rw [if_pos c0]
    rcases (show p.1.op=20∨p.1.op=21∨p.1.op=22 by omega) with e | e | e
    · exact form_conv20 K hL e h
    · exact form_conv21 K hL e h
    · exact form_conv22 K hL e h
  rw [if_neg c0]
  by_cases c1:p.1.op=23
  · rw [if_pos c1]
    exact form_typed23 K hL c1 h
  rw [if_neg c1]
  by_cases c2:p.1.op=24∨p.1.op=27
  · rw [if_pos c2]
    rcases c2 with e | e
    · exact form_typed24 K hL e h
    · exact form_typed27 K hL e h
  rw [if_neg c2]
  by_cases c3:p.1.op=25
  · rw [if_pos c3]
    exact form_phi K hL c3 h
  rw [if_neg c3]
  by_cases c4:p.1.op=26
  · rw [if_pos c4]
    exact form_alloca K hL c4 h
  rw [if_neg c4]
  by_cases c5:p.1.op=29
  · rw [if_pos c5]
    exact form_gep K hL c5 h
  rw [if_neg c5]
  by_cases c6:p.1.op=30
  · rw [if_pos c6]
    exact form_call K hL c6 h
  rw [if_neg c6]
  by_cases c7:p.1.op=32
  · rw [if_pos c7]
    exact form_brif K hL c7 h
  rw [if_neg c7]
  by_cases c8:p.1.op=31
  · rw [if_pos c8]
    exact form_br K hL c8 h
  rw [if_neg c8]
  by_cases c9:p.1.op=33
  · rw [if_pos c9]
    exact form_ret K hL c9 h
  rw [if_neg c9]
  by_cases c10:p.1.op=34
  · rw [if_pos c10]
    exact form_halt K hL c10 h
  rw [if_neg c10]
  have hno:∀ k∈[20,21,22,23,24,25,26,27,29,30,31,32,33,34],p.1.op≠(k:Int):=by
    intro k hk e
    simp at hk
    omega
  by_cases c11:p.1.op≤13
  · rw [if_pos c11]
    exact form_flags K hL hno c11 h
  · rw [if_neg c11]
    exact form_plain K hL hno c11 h
end
def opsA:Array Value:=((List.range 35).map fun (k:Nat)=>Value.string ⟨(opT (k:Int)).toArray⟩).toArray
theorem opsA_get (i:Nat) (h:i<35):opsA[i]? = some (.string ⟨(opT (i:Int)).toArray⟩):=by
  unfold opsA
  simp [h]
theorem opsA_size:opsA.size=35:=by unfold opsA;simp
set_option maxRecDepth 100000 in
set_option maxHeartbeats 4000000 in
theorem Op_any (x:Tx) (W:World) (hO:OpsK W):Calls Tryz.prog 194 #[.string (str x)] W fun e w' => e=.returned (.int .i64 ((((List.range 35).find? (fun k:Nat=>decide (0<k)&&opT (k:Int)==x)).getD 0:Nat):Int))∧w' = W:=by
  have hc:W.rangeAt 0 0 opsA.toList:=fun j v hv=>by
    rw [Nat.zero_add]
    have hj:j<35:=by have:=(List.getElem?_eq_some_iff.1 hv).1;rw [Array.length_toList,opsA_size] at this;exact this
    have e:=opsA_get j hj
    rw [Array.getElem?_toList] at hv
    rw [e] at hv
    rw [← hv]
    exact hO j hj
  obtain ⟨A,eA⟩:∃ A,opsA.toList.toArray=A:=⟨_,rfl⟩
  have hA:∀ i (h:i<35),A[i]? = some (.string (str (opT (i:Int)))):=fun i h=>by rw [← eA,Array.toArray_toList];exact opsA_get i h
  have hsz:A.size=35:=by rw [← eA,Array.toArray_toList];exact opsA_size
  have HC:=Lib.hid (And.intro hc eA)
  have HA:=Lib.hid hA
  clear hO hc hA eA
  go_enter Tryz.func194,Tryz.ntmps194
  go_wp2_with (refine wpList_load_mid rfl 131 _ rfl 0 0 rfl opsA.toList _ HC.out.1 Tryz.underlying131 rfl (by rw [Array.length_toList,opsA_size];kernel_rfl) ?_;rw [HC.out.2])
  go_loopw [3,4,6] (fun t3 t4 t6 wr=>∃ i:Nat,i≤35∧t6=.int .i64 i∧wr=W∧∀ j:Nat,j<i→opT (j:Int)≠x) (fun _ _ t6 _=>35 - (intOf t6).toNat)
  case atStart=>exact ⟨0,Nat.zero_le _,rfl,rfl,fun j h=>absurd h (Nat.not_lt_zero _)⟩
  case round =>
    obtain ⟨i,hi,rfl,rfl,hno⟩:=hrel
    by_cases hlt:i<35
    · have hd:decide ((i:Int)<35)=true:=by simp;omega
      have hAi:=HA.out i hlt
      have hs:((str (opT (i:Int))).toList==(str x).toList)=decide (opT (i:Int)=x):=by
        rw [ByteArray.toList_eq,ByteArray.toList_eq,str_list,str_list]
        by_cases h:opT (i:Int)=x <;> simp [h]
      have hix:(Instr.index 131 (.agg A) (.int .i64 (i:Int))).run Tryz.prog wr=.ok (.string (str (opT (i:Int)))) wr:=by
        have h1:(0:Int)≤(i:Int)∧(i:Int)<((35:Nat):Int):=by omega
        simp [Instr.index,run_underlying Tryz.underlying131,asIntOf,h1,go_sem,hAi]
        intro h;omega
      have HN:=Lib.hid hno
      clear hno
      by_cases he:opT (i:Int)=x
      · rw [decide_eq_true he] at hs
        go_wp2_with fail
        go_ret
        refine ⟨?_,rfl⟩
        have hne:∀ k:Fin 35,0<k.val→opT (k.val:Int)≠[]:=by decide
        by_cases h0:i=0
        · subst h0
          have hx:x=[]:=he.symm
          have:(List.range 35).find? (fun k:Nat=>decide (0<k)&&opT (k:Int)==x)=none:=by
            rw [List.find?_eq_none]
            intro j hj h
            rw [Bool.and_eq_true] at h
            have h1:0<j:=by simpa using h.1
            have h2:opT (j:Int)=x:=by simpa using h.2
            exact hne ⟨j,List.mem_range.1 hj⟩ h1 (h2.trans hx)
          rw [this]
          rfl
        · have:(List.range 35).find? (fun k:Nat=>decide (0<k)&&opT (k:Int)==x)=some i:=by
            rw [List.find?_eq_some_iff_getElem]
            refine ⟨by simp [he];omega,i,by simpa using hlt,by simp,fun j hj=>?_⟩
            have:=HN.out j hj
            simp [this]
          rw [this]
          rfl
      · rw [decide_eq_false he] at hs
        go_wp2_with fail
        exact ⟨⟨i+1,by omega,by go_num,trivial,fun j hj=>by
          by_cases e:j=i
          · rw [e];exact he
          · exact HN.out j (by omega)⟩,by simp [intOf];omega⟩
    · obtain rfl:i=35:=by omega
      go_wp2_with fail
      go_ret
      refine ⟨?_,rfl⟩
      have:(List.range 35).find? (fun k:Nat=>decide (0<k)&&opT (k:Int)==x)=none:=by
        rw [List.find?_eq_none]
        intro j hj h
        rw [Bool.and_eq_true] at h
        exact hno j (List.mem_range.1 hj) (by simpa using h.2)
      rw [this]
      rfl
set_option maxRecDepth 100000 in
set_option maxHeartbeats 1000000 in
theorem opOf_any (t:Tok) (W:World) (hS:Stc W):Calls Tryz.prog 177 #[tkV t] W fun e w' => e=.returned (.int .i64 (opOfP t:Nat))∧Below W.heap.size W w':=by
  unfold opOfP
  by_cases hk:t.kind=1
  · rw [if_pos (by simp [hk])]
    have hb1:=(Below.refl W.heap.size W).alloc (Nat.le_refl _) (.cells #[.int .i64 t.kind,.string (str t.body),.int .i64 t.line,.int .i64 t.col] 81)
    have C:=Op_any t.body _ (hS.later hb1).2.2
    have HB:=Lib.hid hb1
    have e2:((t.kind:Int)==1)=true:=by rw [hk];rfl
    clear hb1 hS hk
    unfold tkV
    go_enter Tryz.func177,Tryz.ntmps177
    go_wp2_with ((with_reducible refine C.mono ?_);rintro e w1 ⟨rfl,rfl⟩)
    go_ret
    exact ⟨rfl,HB.out⟩
  · rw [if_neg (by simpa using hk)]
    have e2:((t.kind:Int)==1)=false:=beq_false_of_ne (by omega)
    unfold tkV
    go_enter Tryz.func177,Tryz.ntmps177
    go_wp2_with fail
    go_ret
    exact ⟨rfl,(Below.refl W.heap.size W).alloc (Nat.le_refl _) _⟩
theorem idleP (op:Int) (W:World):Calls Tryz.prog 98 #[.int .i64 op] W fun e w' => e=.returned (.bool (idleB op))∧w' = W:=by
  unfold idleB
  go_enter Tryz.func98,Tryz.ntmps98
  go_wp2
  all_goals go_ret
  all_goals exact ⟨ret_bool (by rw [Bool.eq_iff_iff];simp;omega),rfl⟩
set_option maxRecDepth 100000 in
set_option maxHeartbeats 1000000 in
theorem standsBehind_any (op:Int) (b:Bool) (W:World):Calls Tryz.prog 178 #[.int .i64 op,.bool b] W fun e w' => e=.returned (.bool (decide (op=30)||(decide (op≠0)&&(idleB op==b))))∧w' = W:=by
  have C:=idleP op W
  obtain ⟨i,ei⟩:∃ i,idleB op=i:=⟨_,rfl⟩
  rw [ei] at C ⊢
  clear ei
  by_cases h30:op=30
  · subst h30
    go_enter Tryz.func178,Tryz.ntmps178
    go_wp2_with fail
    go_ret
    exact ⟨by simp,rfl⟩
  · have e30:(op==30)=false:=beq_false_of_ne h30
    by_cases h0:op=0
    · subst h0
      go_enter Tryz.func178,Tryz.ntmps178
      go_wp2_with fail
      go_ret
      exact ⟨by simp,rfl⟩
    · have e0:(op != 0)=true:=by simp [h0]
      have hv:(decide (op=30)||(decide (op≠0)&&(i==b)))=(i==b):=by simp [h30,h0]
      rw [hv]
      cases i <;> cases b
      all_goals
        go_enter Tryz.func178,Tryz.ntmps178
        go_wp2_with ((with_reducible refine C.mono ?_);rintro e w1 ⟨rfl,rfl⟩)
        go_ret
        exact ⟨rfl,rfl⟩
abbrev ins0:PIns:=⟨0,-1,0,0,0,[],[]⟩
abbrev z7:List Value:=[.int .i64 0,.int .i64 0,.int .i64 0,.int .i64 0,.int .i64 0,.slice none 0 0,.slice none 0 0]
section
variable {B b g:Nat} {W w:World} {en:Tok} {m0 m1 m2:Value} {s:RS} {p:PIns×RS} {Z:As}
theorem Ik.new (h:Pk B W b en m0 m1 m2 s Z w) (hg:g=w.heap.size) (t:TypeId) :
    Ik B W b en m0 m1 m2 g (ins0,s) Z (w.alloc (.cells #[.int .i64 0,.int .i64 (-1),.int .i64 0,.int .i64 0,.int .i64 0,.slice none 0 0,.slice none 0 0] t)):=by
  refine ⟨(⟨0,-1,0,0,0,none,0,0,none,0,0,[]⟩,[]),rfl,?_⟩
  refine (h.push hg [.int .i64 0,.int .i64 (-1),.int .i64 0,.int .i64 0,.int .i64 0,.slice none 0 0,.slice none 0 0] t).imp ⟨fun w x=>⟨x.1,⟨rw_nil w,rw_nil w⟩,x.2⟩,fun k=>?_⟩
  simp only [As.and_c,insRow,rw_c,cR]
  exact Nat.le_of_eq (by simp only [bx_c];omega)
theorem Ik.lt (h:Ik B W b en m0 m1 m2 g p Z w):g<w.heap.size:=by obtain ⟨x,ex,hP⟩:=h;exact hP.box.1
theorem sz_reg (en:Tok) (s:RS):sz (sReg en s)≤sz s:=by
  unfold sReg
  split
  · exact Nat.le_trans (sz_this _ _ _ _) (sz_want _ _ _)
  · exact Nat.le_refl _
theorem sz_word (en:Tok) (r:Int) (s:RS):sz (sWord en r s)≤sz s:=by
  unfold sWord
  refine Nat.le_trans (sz_ps _) ?_
  split
  · exact Nat.le_refl _
  · exact sz_bd _ _ _
theorem Ik.out {z:Nat} {t:Tok} {g4:Nat} (h:Ik B W b en m0 m1 m2 g p ((As.and (bxs [(g4,tkC t),(z,z7)]) Z)) w):∃ x:LI,insD x=p.1∧(w.cell? ⟨g,0,none⟩=some (.int .i64 x.1.op)∧w.cell? ⟨g,1,none⟩=some (.int .i64 x.1.reg)∧w.cell? ⟨g,2,none⟩=some (.int .i64 x.1.ty)∧w.cell? ⟨g,3,none⟩=some (.int .i64 x.1.n)∧w.cell? ⟨g,4,none⟩=some (.int .i64 x.1.fl)∧w.cell? ⟨g,5,none⟩=some (.slice x.1.ap x.1.al x.1.ac)∧w.cell? ⟨g,6,none⟩=some (.slice x.1.tp x.1.tl x.1.tc)) ∧
    (w.cell? ⟨z,0,none⟩=some (.int .i64 0)∧w.cell? ⟨z,1,none⟩=some (.int .i64 0)∧w.cell? ⟨z,2,none⟩=some (.int .i64 0)∧w.cell? ⟨z,3,none⟩=some (.int .i64 0)∧w.cell? ⟨z,4,none⟩=some (.int .i64 0)∧w.cell? ⟨z,5,none⟩=some (.slice none 0 0)∧w.cell? ⟨z,6,none⟩=some (.slice none 0 0)∧∀ i,w.frozen? ⟨z,i,none⟩=false) ∧
    Pk B W b en m0 m1 m2 p.2 ((As.and (insRow B x) Z)) (((((((w.setCell ⟨z,0,none⟩ (.int .i64 x.1.op)).setCell ⟨z,1,none⟩ (.int .i64 x.1.reg)).setCell ⟨z,2,none⟩ (.int .i64 x.1.ty)).setCell ⟨z,3,none⟩ (.int .i64 x.1.n)).setCell ⟨z,4,none⟩ (.int .i64 x.1.fl)).setCell ⟨z,5,none⟩ (.slice x.1.ap x.1.al x.1.ac)).setCell ⟨z,6,none⟩ (.slice x.1.tp x.1.tl x.1.tc)):=by
  have bz:=h.bget 1 rfl
  obtain ⟨x,ex,hP⟩:=h
  have bg:=hP.box
  refine ⟨x,ex,⟨bg.get 0 _ rfl,bg.get 1 _ rfl,bg.get 2 _ rfl,bg.get 3 _ rfl,bg.get 4 _ rfl,bg.get 5 _ rfl,bg.get 6 _ rfl⟩,⟨bz.get 0 _ rfl,bz.get 1 _ rfl,bz.get 2 _ rfl,bz.get 3 _ rfl,bz.get 4 _ rfl,bz.get 5 _ rfl,bz.get 6 _ rfl,bz.2.1⟩,?_⟩
  have h2:Pk B W b en m0 m1 m2 p.2 ((As.and (bxs [(g4,tkC t),(z,z7)]) ((As.and (bx g (insC x.1)) (As.and (insRow B x) Z))))) w:=hP.imp ⟨fun w y=>⟨y.2.2.1,y.1,y.2.1,y.2.2.2⟩,fun k=>by simp only [As.and_c];omega⟩
  have h3:=((((((h2.bput 1 rfl 0 (.int .i64 x.1.op)).bput 1 rfl 1 (.int .i64 x.1.reg)).bput 1 rfl 2 (.int .i64 x.1.ty)).bput 1 rfl 3 (.int .i64 x.1.n)).bput 1 rfl 4 (.int .i64 x.1.fl)).bput 1 rfl 5 (.slice x.1.ap x.1.al x.1.ac)).bput 1 rfl 6 (.slice x.1.tp x.1.tl x.1.tc)
  exact h3.nobx.imp ⟨fun w y=>y.2,fun k=>by simp only [As.and_c];omega⟩
end
section
variable {B b g:Nat} {W w:World} {en:Tok} {m0 m1 m2:Value} {s:RS} {p:PIns×RS} {Z:As}
set_option maxRecDepth 100000 in
set_option maxHeartbeats 8000000 in
theorem instr_rt (K:Kn B W en) (hz:sz s≤300000) (hk3:(nx en s).kind=3) (hst:standsP (opOfP (nx en (sReg en s))) (vReg en s)=true) (h:Pk B W b en m0 m1 m2 s Z w) :
    Calls Tryz.prog 154 #[.pointer (some ⟨b,0,none⟩)] w (fun e w' => ∃ x:LI,insD x=(iInstr en s).1∧e=.returned x.1.val∧Pk B W b en m0 m1 m2 (iInstr en s).2 ((As.and (insRow B x) Z)) w'):=by
  have hfd:=run_kind
  have ht:=h.nx_gt K
  have h1:=Ik.new (g:=w.heap.size+1) (h.b0.bpush rfl z7 43) (by simp) 43
  have C1:=h1.next
  have hsz:=Nat.le_trans (sz_word en (vReg en s) (sReg en s)) (sz_reg en s)
  unfold iInstr
  have hreg:sReg en s=sThis en 5 [61] (sWant en 3 s):=by unfold sReg;rw [if_pos hk3]
  have hvr:vReg en s=(numOf (nx en s):Int):=by unfold vReg;rw [if_pos hk3]
  rw [hreg,hvr] at hst hsz ⊢
  obtain ⟨t0,et0⟩:∃ t0,nx en s=t0:=⟨_,rfl⟩
  simp only [et0] at C1 hst hk3 ht hsz ⊢
  have hn4:numOf t0≤4095:=ht.1.2 hk3
  have CW:∀ w1,Ik B W b en m0 m1 m2 (w.heap.size+1) (ins0,s) ((As.and (bxs [(w.heap.size,z7)]) Z)) w1→Calls Tryz.prog 143 #[.pointer (some ⟨b,0,none⟩),.int .i64 3] w1 (fun e w' => e=.returned (.agg #[.int .i64 3,.string (str t0.body),.int .i64 t0.line,.int .i64 t0.col])∧Ik B W b en m0 m1 m2 (w.heap.size+1) (ins0,sWant en 3 s) ((As.and (bxs [(w.heap.size,z7)]) Z)) w'):=fun w1 h=>by
    have:=h.want 3 3 rfl
    simp only [et0] at this
    rw [show tkV t0=.agg #[.int .i64 3,.string (str t0.body),.int .i64 t0.line,.int .i64 t0.col] by unfold tkV;rw [hk3];rfl] at this
    exact this
  have CN:∀ w1,Stc w1→Calls Tryz.prog 145 #[.agg #[.int .i64 3,.string (str t0.body),.int .i64 t0.line,.int .i64 t0.col]] w1 fun e w' => e=.returned (.int .u64 (numOf t0))∧Below w1.heap.size w1 w':=fun w1 hs=>by
    have:=numberOf_any t0 ht w1 hs.1
    rw [show tkV t0=.agg #[.int .i64 3,.string (str t0.body),.int .i64 t0.line,.int .i64 t0.col] by unfold tkV;rw [hk3];rfl] at this
    exact this
  rw [show tkV t0=.agg #[.int .i64 3,.string (str t0.body),.int .i64 t0.line,.int .i64 t0.col] by unfold tkV;rw [hk3];rfl] at C1
  obtain ⟨n,enn⟩:∃ n,numOf t0=n:=⟨_,rfl⟩
  simp only [enn] at CN hn4 hst hsz ⊢
  clear enn
  obtain ⟨t,et⟩:∃ t,nx en (sThis en 5 [61] (sWant en 3 s))=t:=⟨_,rfl⟩
  simp only [et] at hst ⊢
  have CX:∀ w1,Ik B W b en m0 m1 m2 (w.heap.size+1) (⟨0,(n:Int),0,0,0,[],[]⟩,(sThis en 5 [61] (sWant en 3 s))) ((As.and (bxs [(w.heap.size,z7)]) Z)) w1→Calls Tryz.prog 78 #[.pointer (some ⟨b,0,none⟩)] w1 (fun e w' => e=.returned (tkV t)∧Ik B W b en m0 m1 m2 (w.heap.size+1) (⟨0,(n:Int),0,0,0,[],[]⟩,(sThis en 5 [61] (sWant en 3 s))) ((As.and (bxs [(w.heap.size,z7)]) Z)) w'):=fun w1 h=>by
    have:=h.next
    simp only [et] at this
    exact this
  obtain ⟨op,eop⟩:∃ op,opOfP t=op:=⟨_,rfl⟩
  have CO:∀ w1,Stc w1→Calls Tryz.prog 177 #[tkV t] w1 fun e w' => e=.returned (.int .i64 (op:Nat))∧Below w1.heap.size w1 w':=fun w1 hs=>by rw [← eop];exact opOf_any t w1 hs
  simp only [eop] at hst ⊢
  have hr:decide ((0:Int)≤(n:Int))=true:=by simp
  have CST:∀ w1,Calls Tryz.prog 178 #[.int .i64 (op:Nat),.bool true] w1 fun e w' => e=.returned (.bool true)∧w' = w1:=fun w1=>by
    have:=standsBehind_any (op:Int) true w1
    unfold standsP at hst
    rw [hr] at hst
    rw [hst] at this
    exact this
  have hw:sWord en (n:Int) (sThis en 5 [61] (sWant en 3 s))=ps (sThis en 5 [61] (sWant en 3 s)):=by
    unfold sWord
    simp only [et,eop,hst]
    rfl
  rw [hw] at hsz ⊢
  have HK:=Lib.hid (And.intro K (And.intro hz hsz))
  obtain ⟨d0,dg⟩:w.heap.size<(w.alloc (.cells #[.int .i64 0,.int .i64 0] 3)).heap.size∧True:=⟨by simp,trivial⟩
  clear h h1 K hz hst ht et eop hsz hreg hvr hw et0 d0 dg hr
  have LF:Hid (Lim 800000 (((⟨op,(n:Int),0,0,0,[],[]⟩:PIns),ps (sThis en 5 [61] (sWant en 3 s))):PIns×RS)):=Lib.hid (by have a1:=HK.out.2.1;have a2:=HK.out.2.2;show 0+0+2 * sz (ps (sThis en 5 [61] (sWant en 3 s)))≤800000;omega)
  go_enter Tryz.func154,Tryz.ntmps154
  go_wp2_with (first | ((with_reducible refine (C1).mono ?_);rintro e w2 ⟨rfl,h2⟩;have g1:=h2.cells.2.1;have gf:=h2.frozen 1;have gg:=h2.bget 0 rfl |>.1) | ((with_reducible refine (CW _ h2).mono ?_);rintro e w3 ⟨rfl,h3⟩) | ((with_reducible refine (CN _ (h3.stc HK.out.1)).mono ?_);rintro e w4 ⟨rfl,h4⟩;have h4b:=(h3.later h4).reg (n:Int);have k1:=(h3.later h4).cells.2.1;have kf:=(h3.later h4).frozen 1;have kg:=(h3.later h4).bget 0 rfl |>.1) | ((with_reducible refine (h4b.wantMark [61] ⟨#[61]⟩ rfl).mono ?_);rintro e w5 ⟨rfl,h5⟩) | ((with_reducible refine (CX _ h5).mono ?_);rintro e w6 ⟨rfl,h6⟩;have h7:=h6.bpush rfl (tkC t) 81;have f0:=h7.cells.1;have f1:=h7.cells.2.1;have ff:=h7.frozen 0;have fg:=h7.bget 1 rfl |>.1;have fi:w.heap.size+1<_:=Ik.lt h7) | ((with_reducible refine (CO _ (h7.stc HK.out.1)).mono ?_);rintro e w8 ⟨rfl,h8⟩;have h8b:=h7.later h8;have h9:=h8b.op (op:Nat);have y0:=h8b.cells.1;have y1:=h8b.cells.2.1;have yf:=h8b.frozen 0;obtain ⟨v0,v1,v2,v3⟩:=h8b.tk4;obtain ⟨u0,u1,u2,u3⟩:=h9.tk4;have q0:=h9.cells.1;have q1:=h9.cells.2.1) | ((with_reducible refine (CST _).mono ?_);rintro e wx ⟨rfl,rfl⟩) | ((with_reducible refine (h9.pass).mono ?_);rintro e w11 ⟨rfl,h11⟩) | ((with_reducible refine (form_any HK.out.1 LF.out h11).mono ?_);rintro e w12 ⟨rfl,h12⟩) | ((with_reducible refine (h12.wantLineEnd).mono ?_);rintro e w13 ⟨rfl,h13⟩;obtain ⟨x,ex,⟨a0,a1,a2,a3,a4,a5,a6⟩,⟨b0,b1,b2,b3,b4,b5,b6,bf⟩,hF⟩:=h13.out))
  refine bodyPost_ret (v:=x.1.val) (by simp [results,Tryz.results154,go_sem,Ins.val,b0,b1,b2,b3,b4,b5,b6]) rfl ⟨x,ex,rfl,hF⟩
end
section
variable {B b g:Nat} {W w:World} {en:Tok} {m0 m1 m2:Value} {s:RS} {p:PIns×RS} {Z:As}
set_option maxRecDepth 100000 in
set_option maxHeartbeats 8000000 in
theorem instr_rf (K:Kn B W en) (hz:sz s≤300000) (hk3:(nx en s).kind=3) (hst:standsP (opOfP (nx en (sReg en s))) (vReg en s)=false) (h:Pk B W b en m0 m1 m2 s Z w) :
    Calls Tryz.prog 154 #[.pointer (some ⟨b,0,none⟩)] w (fun e w' => ∃ x:LI,insD x=(iInstr en s).1∧e=.returned x.1.val∧Pk B W b en m0 m1 m2 (iInstr en s).2 ((As.and (insRow B x) Z)) w'):=by
  have hfd:=run_kind
  have ht:=h.nx_gt K
  have h1:=Ik.new (g:=w.heap.size+1) (h.b0.bpush rfl z7 43) (by simp) 43
  have C1:=h1.next
  have hsz:=Nat.le_trans (sz_word en (vReg en s) (sReg en s)) (sz_reg en s)
  unfold iInstr
  have hreg:sReg en s=sThis en 5 [61] (sWant en 3 s):=by unfold sReg;rw [if_pos hk3]
  have hvr:vReg en s=(numOf (nx en s):Int):=by unfold vReg;rw [if_pos hk3]
  rw [hreg,hvr] at hst hsz ⊢
  obtain ⟨t0,et0⟩:∃ t0,nx en s=t0:=⟨_,rfl⟩
  simp only [et0] at C1 hst hk3 ht hsz ⊢
  have hn4:numOf t0≤4095:=ht.1.2 hk3
  have CW:∀ w1,Ik B W b en m0 m1 m2 (w.heap.size+1) (ins0,s) ((As.and (bxs [(w.heap.size,z7)]) Z)) w1→Calls Tryz.prog 143 #[.pointer (some ⟨b,0,none⟩),.int .i64 3] w1 (fun e w' => e=.returned (.agg #[.int .i64 3,.string (str t0.body),.int .i64 t0.line,.int .i64 t0.col])∧Ik B W b en m0 m1 m2 (w.heap.size+1) (ins0,sWant en 3 s) ((As.and (bxs [(w.heap.size,z7)]) Z)) w'):=fun w1 h=>by
    have:=h.want 3 3 rfl
    simp only [et0] at this
    rw [show tkV t0=.agg #[.int .i64 3,.string (str t0.body),.int .i64 t0.line,.int .i64 t0.col] by unfold tkV;rw [hk3];rfl] at this
    exact this
  have CN:∀ w1,Stc w1→Calls Tryz.prog 145 #[.agg #[.int .i64 3,.string (str t0.body),.int .i64 t0.line,.int .i64 t0.col]] w1 fun e w' => e=.returned (.int .u64 (numOf t0))∧Below w1.heap.size w1 w':=fun w1 hs=>by
    have:=numberOf_any t0 ht w1 hs.1
    rw [show tkV t0=.agg #[.int .i64 3,.string (str t0.body),.int .i64 t0.line,.int .i64 t0.col] by unfold tkV;rw [hk3];rfl] at this
    exact this
  rw [show tkV t0=.agg #[.int .i64 3,.string (str t0.body),.int .i64 t0.line,.int .i64 t0.col] by unfold tkV;rw [hk3];rfl] at C1
  obtain ⟨n,enn⟩:∃ n,numOf t0=n:=⟨_,rfl⟩
  simp only [enn] at CN hn4 hst hsz ⊢
  clear enn
  obtain ⟨t,et⟩:∃ t,nx en (sThis en 5 [61] (sWant en 3 s))=t:=⟨_,rfl⟩
  simp only [et] at hst ⊢
  have CX:∀ w1,Ik B W b en m0 m1 m2 (w.heap.size+1) (⟨0,(n:Int),0,0,0,[],[]⟩,(sThis en 5 [61] (sWant en 3 s))) ((As.and (bxs [(w.heap.size,z7)]) Z)) w1→Calls Tryz.prog 78 #[.pointer (some ⟨b,0,none⟩)] w1 (fun e w' => e=.returned (tkV t)∧Ik B W b en m0 m1 m2 (w.heap.size+1) (⟨0,(n:Int),0,0,0,[],[]⟩,(sThis en 5 [61] (sWant en 3 s))) ((As.and (bxs [(w.heap.size,z7)]) Z)) w'):=fun w1 h=>by
    have:=h.next
    simp only [et] at this
    exact this
  obtain ⟨op,eop⟩:∃ op,opOfP t=op:=⟨_,rfl⟩
  have CO:∀ w1,Stc w1→Calls Tryz.prog 177 #[tkV t] w1 fun e w' => e=.returned (.int .i64 (op:Nat))∧Below w1.heap.size w1 w':=fun w1 hs=>by rw [← eop];exact opOf_any t w1 hs
  simp only [eop] at hst ⊢
  have hr:decide ((0:Int)≤(n:Int))=true:=by simp
  have CST:∀ w1,Calls Tryz.prog 178 #[.int .i64 (op:Nat),.bool true] w1 fun e w' => e=.returned (.bool false)∧w' = w1:=fun w1=>by
    have:=standsBehind_any (op:Int) true w1
    unfold standsP at hst
    rw [hr] at hst
    rw [hst] at this
    exact this
  have hw:sWord en (n:Int) (sThis en 5 [61] (sWant en 3 s))=ps (bd 3 t (sThis en 5 [61] (sWant en 3 s))):=by
    unfold sWord
    simp only [et,eop,hst]
    rfl
  rw [hw] at hsz ⊢
  have HK:=Lib.hid (And.intro K (And.intro hz hsz))
  obtain ⟨d0,dg⟩:w.heap.size<(w.alloc (.cells #[.int .i64 0,.int .i64 0] 3)).heap.size∧True:=⟨by simp,trivial⟩
  clear h h1 K hz hst ht et eop hsz hreg hvr hw et0 d0 dg hr
  have LF:Hid (Lim 800000 (((⟨op,(n:Int),0,0,0,[],[]⟩:PIns),ps (bd 3 t (sThis en 5 [61] (sWant en 3 s)))):PIns×RS)):=Lib.hid (by have a1:=HK.out.2.1;have a2:=HK.out.2.2;show 0+0+2 * sz (ps (bd 3 t (sThis en 5 [61] (sWant en 3 s))))≤800000;omega)
  go_enter Tryz.func154,Tryz.ntmps154
  go_wp2_with (first | ((with_reducible refine (C1).mono ?_);rintro e w2 ⟨rfl,h2⟩;have g1:=h2.cells.2.1;have gf:=h2.frozen 1;have gg:=h2.bget 0 rfl |>.1) | ((with_reducible refine (CW _ h2).mono ?_);rintro e w3 ⟨rfl,h3⟩) | ((with_reducible refine (CN _ (h3.stc HK.out.1)).mono ?_);rintro e w4 ⟨rfl,h4⟩;have h4b:=(h3.later h4).reg (n:Int);have k1:=(h3.later h4).cells.2.1;have kf:=(h3.later h4).frozen 1;have kg:=(h3.later h4).bget 0 rfl |>.1) | ((with_reducible refine (h4b.wantMark [61] ⟨#[61]⟩ rfl).mono ?_);rintro e w5 ⟨rfl,h5⟩) | ((with_reducible refine (CX _ h5).mono ?_);rintro e w6 ⟨rfl,h6⟩;have h7:=h6.bpush rfl (tkC t) 81;have f0:=h7.cells.1;have f1:=h7.cells.2.1;have ff:=h7.frozen 0;have fg:=h7.bget 1 rfl |>.1;have fi:w.heap.size+1<_:=Ik.lt h7) | ((with_reducible refine (CO _ (h7.stc HK.out.1)).mono ?_);rintro e w8 ⟨rfl,h8⟩;have h8b:=h7.later h8;have h9:=h8b.op (op:Nat);have y0:=h8b.cells.1;have y1:=h8b.cells.2.1;have yf:=h8b.frozen 0;obtain ⟨v0,v1,v2,v3⟩:=h8b.tk4;obtain ⟨u0,u1,u2,u3⟩:=h9.tk4;have q0:=h9.cells.1;have q1:=h9.cells.2.1) | ((with_reducible refine (CST _).mono ?_);rintro e wx ⟨rfl,rfl⟩))
  go_region_law (first | (go_simp;(with_reducible refine (h9.drew.refuse3 t).mono ?_);rintro e w10 ⟨rfl,h10⟩))
  all_goals
    go_wp2_with (first | ((with_reducible refine (h10.pass).mono ?_);rintro e w11 ⟨rfl,h11⟩) | ((with_reducible refine (form_any HK.out.1 LF.out h11).mono ?_);rintro e w12 ⟨rfl,h12⟩) | ((with_reducible refine (h12.wantLineEnd).mono ?_);rintro e w13 ⟨rfl,h13⟩;obtain ⟨x,ex,⟨a0,a1,a2,a3,a4,a5,a6⟩,⟨b0,b1,b2,b3,b4,b5,b6,bf⟩,hF⟩:=h13.out))
    refine bodyPost_ret (v:=x.1.val) (by simp [results,Tryz.results154,go_sem,Ins.val,b0,b1,b2,b3,b4,b5,b6]) rfl ⟨x,ex,rfl,hF⟩
end
section
variable {B b g:Nat} {W w:World} {en:Tok} {m0 m1 m2:Value} {s:RS} {p:PIns×RS} {Z:As}
set_option maxRecDepth 100000 in
set_option maxHeartbeats 8000000 in
theorem instr_nt (K:Kn B W en) (hz:sz s≤300000) (hk3:(nx en s).kind≠3) (hst:standsP (opOfP (nx en (sReg en s))) (vReg en s)=true) (h:Pk B W b en m0 m1 m2 s Z w) :
    Calls Tryz.prog 154 #[.pointer (some ⟨b,0,none⟩)] w (fun e w' => ∃ x:LI,insD x=(iInstr en s).1∧e=.returned x.1.val∧Pk B W b en m0 m1 m2 (iInstr en s).2 ((As.and (insRow B x) Z)) w'):=by
  have hfd:=run_kind
  have ht:=h.nx_gt K
  have h1:=Ik.new (g:=w.heap.size+1) (h.b0.bpush rfl z7 43) (by simp) 43
  have C1:=h1.next
  have hsz:=Nat.le_trans (sz_word en (vReg en s) (sReg en s)) (sz_reg en s)
  unfold iInstr
  have hreg:sReg en s=s:=by unfold sReg;rw [if_neg hk3]
  have hvr:vReg en s=-1:=by unfold vReg;rw [if_neg hk3]
  rw [hreg,hvr] at hst hsz ⊢
  obtain ⟨t,et⟩:∃ t,nx en s=t:=⟨_,rfl⟩
  simp only [et] at C1 hst hk3 ht hsz ⊢
  have e3:((t.kind:Int)==3)=false:=beq_false_of_ne (by omega)
  unfold tkV at C1
  have et0:=et
  have CX:∀ w1,Ik B W b en m0 m1 m2 (w.heap.size+1) (⟨0,(-1),0,0,0,[],[]⟩,s) ((As.and (bxs [(w.heap.size,z7)]) Z)) w1→Calls Tryz.prog 78 #[.pointer (some ⟨b,0,none⟩)] w1 (fun e w' => e=.returned (tkV t)∧Ik B W b en m0 m1 m2 (w.heap.size+1) (⟨0,(-1),0,0,0,[],[]⟩,s) ((As.and (bxs [(w.heap.size,z7)]) Z)) w'):=fun w1 h=>by
    have:=h.next
    simp only [et] at this
    exact this
  obtain ⟨op,eop⟩:∃ op,opOfP t=op:=⟨_,rfl⟩
  have CO:∀ w1,Stc w1→Calls Tryz.prog 177 #[tkV t] w1 fun e w' => e=.returned (.int .i64 (op:Nat))∧Below w1.heap.size w1 w':=fun w1 hs=>by rw [← eop];exact opOf_any t w1 hs
  simp only [eop] at hst ⊢
  have hr:decide ((0:Int)≤(-1))=false:=by simp
  have CST:∀ w1,Calls Tryz.prog 178 #[.int .i64 (op:Nat),.bool false] w1 fun e w' => e=.returned (.bool true)∧w' = w1:=fun w1=>by
    have:=standsBehind_any (op:Int) false w1
    unfold standsP at hst
    rw [hr] at hst
    rw [hst] at this
    exact this
  have hw:sWord en (-1) s=ps s:=by
    unfold sWord
    simp only [et,eop,hst]
    rfl
  rw [hw] at hsz ⊢
  have HK:=Lib.hid (And.intro K (And.intro hz hsz))
  obtain ⟨d0,dg⟩:w.heap.size<(w.alloc (.cells #[.int .i64 0,.int .i64 0] 3)).heap.size∧True:=⟨by simp,trivial⟩
  clear h h1 K hz hst ht et eop hsz hreg hvr hw et0 d0 dg hr
  have LF:Hid (Lim 800000 (((⟨op,(-1),0,0,0,[],[]⟩:PIns),ps s):PIns×RS)):=Lib.hid (by have a1:=HK.out.2.1;have a2:=HK.out.2.2;show 0+0+2 * sz (ps s)≤800000;omega)
  go_enter Tryz.func154,Tryz.ntmps154
  go_wp2_with (first | ((with_reducible refine (C1).mono ?_);rintro e w2 ⟨rfl,h2⟩;have g1:=h2.cells.2.1;have gf:=h2.frozen 1;have gg:=h2.bget 0 rfl |>.1) | ((with_reducible refine (CX _ h2).mono ?_);rintro e w6 ⟨rfl,h6⟩;have h7:=h6.bpush rfl (tkC t) 81;have f0:=h7.cells.1;have f1:=h7.cells.2.1;have ff:=h7.frozen 0;have fg:=h7.bget 1 rfl |>.1;have fi:w.heap.size+1<_:=Ik.lt h7) | ((with_reducible refine (CO _ (h7.stc HK.out.1)).mono ?_);rintro e w8 ⟨rfl,h8⟩;have h8b:=h7.later h8;have h9:=h8b.op (op:Nat);have y0:=h8b.cells.1;have y1:=h8b.cells.2.1;have yf:=h8b.frozen 0;obtain ⟨v0,v1,v2,v3⟩:=h8b.tk4;obtain ⟨u0,u1,u2,u3⟩:=h9.tk4;have q0:=h9.cells.1;have q1:=h9.cells.2.1) | ((with_reducible refine (CST _).mono ?_);rintro e wx ⟨rfl,rfl⟩) | ((with_reducible refine (h9.pass).mono ?_);rintro e w11 ⟨rfl,h11⟩) | ((with_reducible refine (form_any HK.out.1 LF.out h11).mono ?_);rintro e w12 ⟨rfl,h12⟩) | ((with_reducible refine (h12.wantLineEnd).mono ?_);rintro e w13 ⟨rfl,h13⟩;obtain ⟨x,ex,⟨a0,a1,a2,a3,a4,a5,a6⟩,⟨b0,b1,b2,b3,b4,b5,b6,bf⟩,hF⟩:=h13.out))
  refine bodyPost_ret (v:=x.1.val) (by simp [results,Tryz.results154,go_sem,Ins.val,b0,b1,b2,b3,b4,b5,b6]) rfl ⟨x,ex,rfl,hF⟩
end
section
variable {B b g:Nat} {W w:World} {en:Tok} {m0 m1 m2:Value} {s:RS} {p:PIns×RS} {Z:As}
set_option maxRecDepth 100000 in
set_option maxHeartbeats 8000000 in
theorem instr_nf (K:Kn B W en) (hz:sz s≤300000) (hk3:(nx en s).kind≠3) (hst:standsP (opOfP (nx en (sReg en s))) (vReg en s)=false) (h:Pk B W b en m0 m1 m2 s Z w) :
    Calls Tryz.prog 154 #[.pointer (some ⟨b,0,none⟩)] w (fun e w' => ∃ x:LI,insD x=(iInstr en s).1∧e=.returned x.1.val∧Pk B W b en m0 m1 m2 (iInstr en s).2 ((As.and (insRow B x) Z)) w'):=by
  have hfd:=run_kind
  have ht:=h.nx_gt K
  have h1:=Ik.new (g:=w.heap.size+1) (h.b0.bpush rfl z7 43) (by simp) 43
  have C1:=h1.next
  have hsz:=Nat.le_trans (sz_word en (vReg en s) (sReg en s)) (sz_reg en s)
  unfold iInstr
  have hreg:sReg en s=s:=by unfold sReg;rw [if_neg hk3]
  have hvr:vReg en s=-1:=by unfold vReg;rw [if_neg hk3]
  rw [hreg,hvr] at hst hsz ⊢
  obtain ⟨t,et⟩:∃ t,nx en s=t:=⟨_,rfl⟩
  simp only [et] at C1 hst hk3 ht hsz ⊢
  have e3:((t.kind:Int)==3)=false:=beq_false_of_ne (by omega)
  unfold tkV at C1
  have et0:=et
  have CX:∀ w1,Ik B W b en m0 m1 m2 (w.heap.size+1) (⟨0,(-1),0,0,0,[],[]⟩,s) ((As.and (bxs [(w.heap.size,z7)]) Z)) w1→Calls Tryz.prog 78 #[.pointer (some ⟨b,0,none⟩)] w1 (fun e w' => e=.returned (tkV t)∧Ik B W b en m0 m1 m2 (w.heap.size+1) (⟨0,(-1),0,0,0,[],[]⟩,s) ((As.and (bxs [(w.heap.size,z7)]) Z)) w'):=fun w1 h=>by
    have:=h.next
    simp only [et] at this
    exact this
  obtain ⟨op,eop⟩:∃ op,opOfP t=op:=⟨_,rfl⟩
  have CO:∀ w1,Stc w1→Calls Tryz.prog 177 #[tkV t] w1 fun e w' => e=.returned (.int .i64 (op:Nat))∧Below w1.heap.size w1 w':=fun w1 hs=>by rw [← eop];exact opOf_any t w1 hs
  simp only [eop] at hst ⊢
  have hr:decide ((0:Int)≤(-1))=false:=by simp
  have CST:∀ w1,Calls Tryz.prog 178 #[.int .i64 (op:Nat),.bool false] w1 fun e w' => e=.returned (.bool false)∧w' = w1:=fun w1=>by
    have:=standsBehind_any (op:Int) false w1
    unfold standsP at hst
    rw [hr] at hst
    rw [hst] at this
    exact this
  have hw:sWord en (-1) s=ps (bd 3 t s):=by
    unfold sWord
    simp only [et,eop,hst]
    rfl
  rw [hw] at hsz ⊢
  have HK:=Lib.hid (And.intro K (And.intro hz hsz))
  obtain ⟨d0,dg⟩:w.heap.size<(w.alloc (.cells #[.int .i64 0,.int .i64 0] 3)).heap.size∧True:=⟨by simp,trivial⟩
  clear h h1 K hz hst ht et eop hsz hreg hvr hw et0 d0 dg hr
  have LF:Hid (Lim 800000 (((⟨op,(-1),0,0,0,[],[]⟩:PIns),ps (bd 3 t s)):PIns×RS)):=Lib.hid (by have a1:=HK.out.2.1;have a2:=HK.out.2.2;show 0+0+2 * sz (ps (bd 3 t s))≤800000;omega)
  go_enter Tryz.func154,Tryz.ntmps154
  go_wp2_with (first | ((with_reducible refine (C1).mono ?_);rintro e w2 ⟨rfl,h2⟩;have g1:=h2.cells.2.1;have gf:=h2.frozen 1;have gg:=h2.bget 0 rfl |>.1) | ((with_reducible refine (CX _ h2).mono ?_);rintro e w6 ⟨rfl,h6⟩;have h7:=h6.bpush rfl (tkC t) 81;have f0:=h7.cells.1;have f1:=h7.cells.2.1;have ff:=h7.frozen 0;have fg:=h7.bget 1 rfl |>.1;have fi:w.heap.size+1<_:=Ik.lt h7) | ((with_reducible refine (CO _ (h7.stc HK.out.1)).mono ?_);rintro e w8 ⟨rfl,h8⟩;have h8b:=h7.later h8;have h9:=h8b.op (op:Nat);have y0:=h8b.cells.1;have y1:=h8b.cells.2.1;have yf:=h8b.frozen 0;obtain ⟨v0,v1,v2,v3⟩:=h8b.tk4;obtain ⟨u0,u1,u2,u3⟩:=h9.tk4;have q0:=h9.cells.1;have q1:=h9.cells.2.1) | ((with_reducible refine (CST _).mono ?_);rintro e wx ⟨rfl,rfl⟩))
  go_region_law (first | (go_simp;(with_reducible refine (h9.drew.refuse3 t).mono ?_);rintro e w10 ⟨rfl,h10⟩))
  all_goals
    go_wp2_with (first | ((with_reducible refine (h10.pass).mono ?_);rintro e w11 ⟨rfl,h11⟩) | ((with_reducible refine (form_any HK.out.1 LF.out h11).mono ?_);rintro e w12 ⟨rfl,h12⟩) | ((with_reducible refine (h12.wantLineEnd).mono ?_);rintro e w13 ⟨rfl,h13⟩;obtain ⟨x,ex,⟨a0,a1,a2,a3,a4,a5,a6⟩,⟨b0,b1,b2,b3,b4,b5,b6,bf⟩,hF⟩:=h13.out))
    refine bodyPost_ret (v:=x.1.val) (by simp [results,Tryz.results154,go_sem,Ins.val,b0,b1,b2,b3,b4,b5,b6]) rfl ⟨x,ex,rfl,hF⟩
end
section
variable {B b g:Nat} {W w:World} {en:Tok} {m0 m1 m2:Value} {s:RS} {p:PIns×RS} {Z:As}
theorem instr_any (K:Kn B W en) (hz:sz s≤300000) (h:Pk B W b en m0 m1 m2 s Z w) :
    Calls Tryz.prog 154 #[.pointer (some ⟨b,0,none⟩)] w (fun e w' => ∃ x:LI,insD x=(iInstr en s).1∧e=.returned x.1.val∧Pk B W b en m0 m1 m2 (iInstr en s).2 ((As.and (insRow B x) Z)) w'):=by
  by_cases hk:(nx en s).kind=3
  · cases hst:standsP (opOfP (nx en (sReg en s))) (vReg en s) with
    | true=>exact instr_rt K hz hk hst h
    | false=>exact instr_rf K hz hk hst h
  · cases hst:standsP (opOfP (nx en (sReg en s))) (vReg en s) with
    | true=>exact instr_nt K hz hk hst h
    | false=>exact instr_nf K hz hk hst h
end
/-! What is owned lies in memory. -/
theorem row_in {α:Type} {B:Nat} {ty:TypeId} {m:Nat} {cel:α→List Value} {p:Option Addr} {n c:Nat} {xs:List α} {w:World} (hm:0<m) (hc:∀ x,(cel x).length=m) (h:rowP B ty m cel p n c xs w) :
    n=xs.length∧n≤c∧c≤maxLen∧RowAt w.heap.size w p (xs.flatMap cel):=by
  obtain ⟨h1,h2⟩:=h
  rcases id h2.2 with ⟨e,h0⟩ | ⟨g,cap,cur,e,hg,hh,k1,k2,k3,k4⟩
  · injection e with e1 e2 e3
    subst e1 e2 e3
    have:xs=[]:=List.eq_nil_of_length_eq_zero h1.symm
    subst this
    exact ⟨h1,Nat.le_refl _,Nat.zero_le _,fun j u hu=>by simp at hu⟩
  · injection e with e1 e2 e3
    subst e1 e3
    refine ⟨h1,k1,k2,fun j u hu=>⟨⟨g,0,none⟩,rfl,(Array.getElem?_eq_some_iff.1 hh).1,?_⟩⟩
    have hj:j<n * m:=by rw [h1,← flat_len cel m hc];exact (List.getElem?_eq_some_iff.1 hu).1
    rw [add0,h2.cellAt j hj]
    exact hu
theorem list_in {α:Type} {B:Nat} {ty:TypeId} {m:Nat} {cel:α→List Value} {p:Option Addr} {n c:Nat} {xs:List α} {w:World} {E:Nat→World→α→Prop} (hm:0<m) (hc:∀ x,(cel x).length=m) (h:rowP B ty m cel p n c xs w) (hE:∀ x∈xs,E w.heap.size w x):ListIn cel E w.heap.size w p n c xs:=by
  obtain ⟨h1,h2,h3,h4⟩:=row_in hm hc h
  exact ⟨h1,h2,h3,h4,hE⟩
theorem ins_in {B:Nat} {x:LI} {w:World} (h:(insRow B x).sat w):InsIn w.heap.size w x :=
  ⟨list_in (m:=3) (by decide) (fun _=>rfl) h.1 (fun _ _=>trivial),list_in (m:=1) (by decide) (fun _=>rfl) h.2 (fun _ _=>trivial)⟩
def blkAs (B:Nat) (c:LB):As:=(As.and (rw' B 43 7 liC c.p c.n c.k c.code) (As.all (insRow B) c.code))
theorem blk_in {B:Nat} {x:LB} {w:World} (h:(blkAs B x).sat w):BlkIn w.heap.size w x:=list_in (m:=7) (by decide) (fun _=>rfl) h.1 (fun y hy=>ins_in (As.all_mem _ h.2 y hy))
def blksAs (B:Nat) (bp:Option Addr) (bn bc:Nat) (bs:List LB):As:=(As.and (rw' B 46 1 blkC bp bn bc bs) (As.all (blkAs B) bs))
theorem blks_in {B:Nat} {bp:Option Addr} {bn bc:Nat} {bs:List LB} {w:World} (h:(blksAs B bp bn bc bs).sat w):ListIn blkC BlkIn w.heap.size w bp bn bc bs:=list_in (m:=1) (by decide) (fun _=>rfl) h.1 (fun y hy=>blk_in (As.all_mem _ h.2 y hy))
def Fk (B:Nat) (W:World) (b:Nat) (en:Tok) (m0 m1 m2:Value) (gf:Nat) (nm:ByteArray) (pp:Option Addr) (pn pc:Nat) (rt:Int) (q:List (List PIns)×RS) (Z:As) (w:World):Prop :=
  ∃ (bp:Option Addr) (bc:Nat) (bs:List LB),bs.map blkD=q.1∧Pk B W b en m0 m1 m2 q.2 ((As.and (bx gf [.string nm,.slice pp pn pc,.int .i64 rt,.slice bp bs.length bc]) (As.and (blksAs B bp bs.length bc bs) Z))) w
section
variable {B b gf:Nat} {W w w':World} {en:Tok} {m0 m1 m2:Value} {nm:ByteArray} {pp:Option Addr} {pn pc:Nat} {rt:Int} {q:List (List PIns)×RS} {Z Z':As}
theorem Fk.later (h:Fk B W b en m0 m1 m2 gf nm pp pn pc rt q Z w) (hb:Below w.heap.size w w'):Fk B W b en m0 m1 m2 gf nm pp pn pc rt q Z w':=by
  obtain ⟨bp,bc,bs,e,h⟩:=h
  exact ⟨bp,bc,bs,e,h.later hb⟩
theorem Fk.drew (h:Fk B W b en m0 m1 m2 gf nm pp pn pc rt q Z w):Fk B W b en m0 m1 m2 gf nm pp pn pc rt q Z w.drew:=h.later (below_drew (Below.refl _ _))
theorem Fk.below (h:Fk B W b en m0 m1 m2 gf nm pp pn pc rt q Z w):Below B W w:=by obtain ⟨bp,bc,bs,e,h⟩:=h;exact h.below
theorem Fk.imp (h:Fk B W b en m0 m1 m2 gf nm pp pn pc rt q Z w) (k:Z.le Z'):Fk B W b en m0 m1 m2 gf nm pp pn pc rt q Z' w:=by
  obtain ⟨bp,bc,bs,e,h⟩:=h
  exact ⟨bp,bc,bs,e,h.imp ((As.le.refl _).and ((As.le.refl _).and k))⟩
theorem Fk.pk (h:Fk B W b en m0 m1 m2 gf nm pp pn pc rt q Z w):∃ Z',Pk B W b en m0 m1 m2 q.2 Z' w∧∀ s' w',Pk B W b en m0 m1 m2 s' Z' w'→Fk B W b en m0 m1 m2 gf nm pp pn pc rt (q.1,s') Z w':=by
  obtain ⟨bp,bc,bs,e,h⟩:=h
  exact ⟨_,h,fun s' w' h' => ⟨bp,bc,bs,e,h'⟩⟩
theorem Fk.rd (h:Fk B W b en m0 m1 m2 gf nm pp pn pc rt q Z w):∃ r Z',Rd B W b en m0 m1 m2 r q.2 Z' w∧∀ s' w',s'.asked=q.2.asked→Rd B W b en m0 m1 m2 r s' Z' w'→Fk B W b en m0 m1 m2 gf nm pp pn pc rt (q.1,s') Z w':=by
  obtain ⟨Z1,h1,k1⟩:=h.pk
  obtain ⟨r,Z2,h2,k2⟩:=h1.rd
  exact ⟨r,Z2,h2,fun s' w' e h' => k1 _ _ (k2 _ _ e h')⟩
theorem Fk.st (h:Fk B W b en m0 m1 m2 gf nm pp pn pc rt q Z w):∃ Y,St B W ((As.and Z Y)) w∧∀ Z' w',St B W ((As.and Z' Y)) w'→Fk B W b en m0 m1 m2 gf nm pp pn pc rt q Z' w':=by
  obtain ⟨bp,bc,bs,e,h⟩:=h
  obtain ⟨Y,hs,back⟩:=h.st
  refine ⟨(As.and (bx gf [.string nm,.slice pp pn pc,.int .i64 rt,.slice bp bs.length bc]) (As.and (blksAs B bp bs.length bc bs) Y)),hs.imp ⟨fun w x=>⟨x.1.2.2,x.1.1,x.1.2.1,x.2⟩,fun k=>by simp only [As.and_c];omega⟩,fun Z' w' h' => ⟨bp,bc,bs,e,back _ _ (h'.imp ⟨fun w x=>⟨⟨x.2.1,x.2.2.1,x.1⟩,x.2.2.2⟩,fun k=>by simp only [As.and_c];omega⟩)⟩⟩
theorem Fk.cells (h:Fk B W b en m0 m1 m2 gf nm pp pn pc rt q Z w):∃ bp bc,w.cell? ⟨gf,0,none⟩=some (.string nm)∧w.cell? ⟨gf,1,none⟩=some (.slice pp pn pc)∧w.cell? ⟨gf,2,none⟩=some (.int .i64 rt)∧w.cell? ⟨gf,3,none⟩=some (.slice bp q.1.length bc)∧gf<w.heap.size∧w.frozen? ⟨gf,3,none⟩=false:=by
  obtain ⟨bp,bc,bs,e,h⟩:=h
  have hb:=h.box
  refine ⟨bp,bc,hb.get 0 _ rfl,hb.get 1 _ rfl,hb.get 2 _ rfl,?_,hb.1,hb.2.1 3⟩
  rw [hb.get 3 _ rfl,← e,List.length_map]
end
section
variable {B b:Nat} {W w:World} {en:Tok} {m0 m1 m2:Value} {gf:Nat} {nm:ByteArray} {pp:Option Addr} {pn pc:Nat} {rt:Int} {p:List (List PIns)×RS} {Z:As} {bs:List (Nat×List Value)}
theorem Fk.b0 (h:Fk B W b en m0 m1 m2 gf nm pp pn pc rt p Z w):Fk B W b en m0 m1 m2 gf nm pp pn pc rt p ((As.and (bxs []) Z)) w:=h.imp (As.nob _)
theorem Fk.nobx (h:Fk B W b en m0 m1 m2 gf nm pp pn pc rt p ((As.and (bxs bs) Z)) w):Fk B W b en m0 m1 m2 gf nm pp pn pc rt p Z w:=h.imp (As.drop _ _)
theorem Fk.bpush (h:Fk B W b en m0 m1 m2 gf nm pp pn pc rt p ((As.and (bxs bs) Z)) w) {g:Nat} (hg:g=w.heap.size) (cs:List Value) (t:TypeId):Fk B W b en m0 m1 m2 gf nm pp pn pc rt p ((As.and (bxs ((g,cs)::bs)) Z)) (w.alloc (.cells cs.toArray t)):=by
  obtain ⟨Y,hs,back⟩:=h.st
  exact back _ _ (((hs.imp (As.asl _ _ _)).bpush hg cs t).imp (As.asr _ _ _))
theorem Fk.bget (h:Fk B W b en m0 m1 m2 gf nm pp pn pc rt p ((As.and (bxs bs) Z)) w) (i:Nat) {g:Nat} {cs:List Value} (e:bs[i]? = some (g,cs)):Box g cs w:=by
  obtain ⟨Y,hs,back⟩:=h.st
  exact (hs.imp (As.asl _ _ _)).bget i e
end
end Go.Proofs.YtmmlfmplggbmiaaGreatDoor
