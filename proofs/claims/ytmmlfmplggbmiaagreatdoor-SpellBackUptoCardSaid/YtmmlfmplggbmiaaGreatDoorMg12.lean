/- Several texts in one: PsNd, PsWt, SpA. -/
import Derived.BigQuiet
import Derived.IntWalk
import Derived.Test.YtmmlfmplggbmiaaGreatDoorMg11
namespace Go.Proofs.YtmmlfmplggbmiaaGreatDoor
set_option linter.unusedVariables false
set_option linter.unusedSimpArgs false
theorem form_size {en:Tok} (he:Gd en) (x:PIns):Ens (qForm en x) sizeOk:=by
  by_cases c:x.op=26
  · unfold qForm
    exact Ens.ite (fun k=>absurd k (by omega)) fun _=>Ens.ite (fun k=>absurd k (by omega)) fun _=>Ens.ite (fun k=>absurd k (by omega)) fun _=>Ens.ite (fun k=>absurd k (by omega)) fun _ =>
      Ens.ite (fun _=>Ens.bind (size_ens he) fun n hn=>Ens.pure fun _=>hn) fun k=>absurd c k
  · exact (form_keep he x).mono fun y h k=>absurd (h.1.symm.trans k) c
def bitI (a:Arg):Prop:=0≤a.bits∧a.bits<18446744073709551616
def Bz (x:PIns):Prop:=∀ a∈x.args,bitI a
theorem numOf_lt (t:Tok):numOf t<18446744073709551616:=by
  unfold numOf
  split
  · rename_i u h
    have:=Lib.parseUintB_le h
    omega
  · decide
theorem operand_bit {en:Tok} (he:Gd en):Ens (qOperand en) bitI:=by
  unfold qOperand
  refine Ens.bind (next_ens he) fun t ht=>?_
  refine Ens.ite (fun h=>Ens.bind pass_ens fun _ _=>Ens.pure ⟨Int.le_refl _,(by decide:(0:Int)<18446744073709551616)⟩) fun _=>Ens.ite (fun h=>Ens.bind pass_ens fun _ _=>Ens.pure ?_) fun _=>Ens.ite (fun h=>Ens.bind (ask_ens t) fun n hn=>Ens.bind pass_ens fun _ _=>Ens.pure ⟨Int.le_refl _,(by decide:(0:Int)<18446744073709551616)⟩) fun _ =>
    Ens.ite (fun h=>Ens.bind pass_ens fun _ _=>Ens.pure ⟨Int.le_refl _,(by decide:(0:Int)<18446744073709551616)⟩) fun _=>Ens.ite (fun h=>Ens.bind pass_ens fun _ _=>Ens.pure ⟨Int.le_refl _,(by decide:(0:Int)<18446744073709551616)⟩) fun _=>Ens.bad
  have:=numOf_lt t
  exact ⟨by show (0:Int)≤numOf t;omega,by show (numOf t:Int)<_;omega⟩
theorem operands_bit {en:Tok} (he:Gd en):∀ n,Ens (qOperands en n) (fun l=>∀ a∈l,bitI a)
  | 0=>Ens.pure fun a h=>by cases h
  | 1=>Ens.bind (operand_bit he) fun a ha=>Ens.pure fun x hx=>by rw [List.mem_singleton.1 hx];exact ha
  | k+2=>Ens.bind (operand_bit he) fun a ha=>Ens.bind (this_ens he _ _) fun _ _=>Ens.bind (operands_bit he (k+1)) fun l hl=>Ens.pure fun x hx=>by
    rcases List.mem_cons.1 hx with rfl | hx
    · exact ha
    · exact hl x hx
theorem typed_bit {en:Tok} (he:Gd en) (x:PIns) (n:Nat):Ens (qTyped en x n) Bz:=by
  unfold qTyped
  exact Ens.bind (type_ens he) fun t h1=>Ens.bind (operands_bit he n) fun l hl=>Ens.pure hl
theorem form_bit {en:Tok} (he:Gd en) (x:PIns) (hx:Bz x):Ens (qForm en x) Bz:=by
  have one:∀ {a:Arg},bitI a→∀ b∈[a],bitI b:=fun ha b hb=>by rw [List.mem_singleton.1 hb];exact ha
  unfold qForm
  refine Ens.ite (fun _=>Ens.bind (type_ens he) fun n hn=>Ens.bind (operand_bit he) fun a ha=>Ens.bind (this_ens he _ _) fun _ _=>Ens.bind (type_ens he) fun t ht=>Ens.pure (one ha)) fun _=>?_
  refine Ens.ite (fun _=>typed_bit he x 3) fun _=>?_
  refine Ens.ite (fun _=>typed_bit he x 1) fun _=>?_
  refine Ens.ite (fun _=>Ens.bind (type_ens he) fun t ht=>Ens.bind (next_ens he) fun p _=>Ens.ite (fun _=>Ens.pure hx) fun _=>Ens.bind (commas_ens (Q:=fun z:Int×Arg=>bitI z.2) he fun _=>Ens.bind (block_ens he) fun b hb=>Ens.bind (operand_bit he) fun a ha=>Ens.pure ha) fun l hl=>Ens.pure fun a ha=>by
    obtain ⟨z,hz,rfl⟩:=List.mem_map.1 ha
    exact hl z hz) fun _=>?_
  refine Ens.ite (fun _=>Ens.bind (size_ens he) fun n hn=>Ens.pure hx) fun _=>?_
  refine Ens.ite (fun _=>Ens.bind (operands_bit he 2) fun l hl=>Ens.pure hl) fun _=>?_
  refine Ens.ite (fun _=>Ens.bind (want_ens he 1) fun t _=>Ens.bind (ask_ens t) fun n _=>Ens.bind (brackets_ens he fun _=>operand_bit he) fun l hl=>Ens.pure hl) fun _=>?_
  refine Ens.ite (fun _=>Ens.bind (operand_bit he) fun a ha=>Ens.bind (this_ens he _ _) fun _ _=>Ens.bind (block_ens he) fun b hb=>Ens.bind (this_ens he _ _) fun _ _=>Ens.bind (block_ens he) fun c hc=>Ens.pure (one ha)) fun _=>?_
  refine Ens.ite (fun _=>Ens.bind (block_ens he) fun b hb=>Ens.pure hx) fun _=>?_
  refine Ens.ite (fun _=>Ens.bind (next_ens he) fun p _=>Ens.ite (fun _=>Ens.pure hx) fun _=>typed_bit he x 1) fun _=>?_
  refine Ens.ite (fun _=>Ens.pure hx) fun _=>?_
  by_cases c:x.op≤13
  · simp only [if_pos c]
    exact Ens.bind (flags_ens he) fun fl _=>typed_bit he { x with fl:=fl } 2
  · simp only [if_neg c]
    exact Ens.bind (Ens.pure (Q:=fun z:Int=>z=0) rfl) fun fl h0=>typed_bit he { x with fl:=fl } 2
def InX (x:PIns):Prop:=sizeOk x∧Bz x
theorem instr_size {en:Tok} (he:Gd en):Ens (qInstr en) InX:=by
  unfold qInstr
  refine Ens.bind (next_ens he) fun p _=>?_
  have main:∀ r:Int,Ens (do
      let w ← qNext en
      let op:=opOfP w
      if ¬ (op=30∨op≠0∧idleB op=decide (0≤r)) then qBad 3 w
      qPass
      let x ← qForm en ⟨op,r,0,0,0,[],[]⟩
      qLineEnd en
      return x) InX:=fun r=>by
    refine Ens.bind (next_ens he) fun w hw=>?_
    exact Ens.ite (fun _=>Ens.bind (Q:=fun _=>False) Ens.bad fun _ h=>h.elim) fun hc=>Ens.bind pass_ens fun _ _=>Ens.bind ((form_size he _).and (form_bit he _ fun a h=>by cases h)) fun x hx=>Ens.bind (lineEnd_ens he) fun _ _=>Ens.pure hx
  by_cases c:(p.kind==3)=true
  · simp only [if_pos c]
    exact Ens.bind (Q:=fun _=>True) (Ens.bind pass_ens fun _ _=>Ens.bind (this_ens he _ _) fun _ _=>Ens.pure trivial) fun r _=>main r
  · simp only [if_neg c]
    exact Ens.bind (Q:=fun _=>True) (Ens.pure trivial) fun r _=>main r
def SzB (bs:List (List PIns)):Prop:=∀ c∈bs,∀ x∈c,InX x
theorem body_size {en:Tok} (he:Gd en):∀ (k:Nat) (bs:List (List PIns)),SzB bs→Ens (qBody en k bs) (fun bs=>SzB bs∧bs.length≠0)
  | 0,bs,hb=>Ens.bad
  | k + 1,bs,hb=>by
    unfold qBody
    refine Ens.bind Ens.get fun s hs=>?_
    split
    · exact Ens.bad
    rename_i front rest hts
    refine Ens.ite (fun _=>Ens.bind pass_ens fun _ _=>body_size he k bs hb) fun _=>?_
    split
    · rename_i n hn
      refine Ens.bind (Q:=fun _=>True) ?_ fun _ _=>body_size he k _ fun c hc x hx=>?_
      · unfold qLabel
        exact Ens.ite (fun _=>Ens.bind (Q:=fun _=>False) Ens.bad fun _ h=>h.elim) fun hc=>Ens.ite (fun _=>Ens.bind (Q:=fun _=>False) Ens.bad fun _ h=>h.elim) fun _=>Ens.bind pass_ens fun _ _=>Ens.bind (this_ens he _ _) fun _ _=>lineEnd_ens he
      · rcases List.mem_append.1 hc with hc | hc
        · exact hb c hc x hx
        · rw [List.mem_singleton.1 hc] at hx;simp at hx
    · refine Ens.ite (fun _=>Ens.bad) fun h0=>Ens.ite (fun _=>Ens.bind pass_ens fun _ _=>Ens.bind (lineEnd_ens he) fun _ _=>Ens.pure ⟨hb,h0⟩) fun _=>Ens.ite (fun _=>Ens.bad) fun h4=>?_
      refine Ens.bind (instr_size he) fun x hx=>body_size he k _ ?_
      obtain ⟨l,c,rfl⟩:∃ l c,bs=l++[c]:=⟨bs.dropLast,bs.getLast (fun e=>h0 (by rw [e];rfl)),(List.dropLast_concat_getLast _).symm⟩
      rw [addLast_snoc]
      intro d hd y hy
      rcases List.mem_append.1 hd with hd | hd
      · exact hb d (List.mem_append_left _ hd) y hy
      · rw [List.mem_singleton.1 hd] at hy
        rcases List.mem_append.1 hy with hy | hy
        · exact hb c (by simp) y hy
        · rw [List.mem_singleton.1 hy];exact hx
structure Nd (m:PMod):Prop where
  vs:(m.vs.map fun v=>byt v.nm).Nodup
  cal:((m.xs.map fun x=>byt x.nm).Nodup∧(m.fs.map fun f=>byt f.nm).Nodup)∧∀ x∈m.xs,∀ f∈m.fs,byt x.nm≠byt f.nm
  bs:∀ f∈m.fs,SzB f.bs∧f.bs.length≠0
theorem lines_nd {en:Tok} (he:Gd en):∀ (k:Nat) (m:PMod),Nd m→Ens (qLines en k m) Nd
  | 0,m,h=>Ens.pure h
  | k + 1, m,h=>by
    unfold qLines
    refine Ens.bind Ens.get fun s hs=>?_
    split
    · exact Ens.pure h
    rename_i front rest hts
    refine Ens.ite (fun _=>Ens.bind pass_ens fun _ _=>lines_nd he k m h) fun _=>?_
    refine Ens.ite (fun _=>Ens.bind pass_ens fun _ _=>Ens.bind (name_ens he _ _) fun nm hn=>Ens.bind (size_ens he) fun n hz=>Ens.bind (lineEnd_ens he) fun _ _=>lines_nd he k _ ?_) fun _=>?_
    · refine ⟨?_,h.cal,h.bs⟩
      show ((m.vs++[(⟨nm,n⟩:PVar)]).map fun v=>byt v.nm).Nodup
      rw [List.map_append]
      refine nd_snoc h.vs fun hm=>?_
      rw [← hasVar_iff,hn.2.2] at hm
      cases hm
    have cal:∀ nm:ByteArray,hasCal m (byt nm)=false→(∀ x∈m.xs,byt x.nm≠byt nm)∧∀ f∈m.fs,byt f.nm≠byt nm:=fun nm hn=>by
      have hm:byt nm∉calNs m:=fun k=>by rw [← hasCal_iff,hn] at k;cases k
      exact ⟨fun x hx e=>hm (List.mem_append_left _ (List.mem_map.2 ⟨x,hx,e⟩)),fun f hf e=>hm (List.mem_append_right _ (List.mem_map.2 ⟨f,hf,e⟩))⟩
    refine Ens.ite (fun _=>Ens.bind pass_ens fun _ _=>Ens.bind (name_ens he _ _) fun nm hn=>Ens.bind (types_ens he) fun p hp=>Ens.bind (lineEnd_ens he) fun _ _=>lines_nd he k _ ?_) fun _=>?_
    · obtain ⟨c1,c2⟩:=cal nm hn.2.2
      refine ⟨h.vs,⟨⟨?_,h.cal.1.2⟩,fun x hx f hf=>?_⟩,h.bs⟩
      · show ((m.xs++[(⟨nm,p.1,p.2⟩:PExt)]).map fun v=>byt v.nm).Nodup
        rw [List.map_append]
        exact nd_snoc h.cal.1.1 fun hm=>by
          obtain ⟨x,hx,e⟩:=List.mem_map.1 hm
          exact c1 x hx e
      · rcases List.mem_append.1 hx with hx | hx
        · exact h.cal.2 x hx f hf
        · rw [List.mem_singleton.1 hx]
          exact fun e=>c2 f hf e.symm
    refine Ens.ite (fun _=>Ens.bind pass_ens fun _ _=>Ens.bind (name_ens he _ _) fun nm hn=>Ens.bind (types_ens he) fun p hp=>Ens.bind (lineEnd_ens he) fun _ _=>Ens.bind Ens.get fun s2 _=>Ens.bind (body_size he _ [] (fun c hc=>by simp at hc)) fun bs hb=>lines_nd he k _ ?_) fun _=>Ens.bad
    obtain ⟨c1,c2⟩:=cal nm hn.2.2
    refine ⟨h.vs,⟨⟨h.cal.1.1,?_⟩,fun x hx f hf=>?_⟩,fun f hf=>?_⟩
    · show ((m.fs++[(⟨nm,p.1,p.2,bs⟩:PFn)]).map fun v=>byt v.nm).Nodup
      rw [List.map_append]
      exact nd_snoc h.cal.1.2 fun hm=>by
        obtain ⟨x,hx,e⟩:=List.mem_map.1 hm
        exact c2 x hx e
    · rcases List.mem_append.1 hf with hf | hf
      · exact h.cal.2 x hx f hf
      · rw [List.mem_singleton.1 hf]
        exact c1 x hx
    · rcases List.mem_append.1 hf with hf | hf
      · exact h.bs f hf
      · rw [List.mem_singleton.1 hf]
        exact hb
theorem settleA_bit {en:Tok} {m:PMod} {asked:List Tok} {a b:Arg} (h:settleA en m asked a=.ok b) (ha:bitI a):bitI b:=by
  unfold settleA at h
  by_cases c:a.kind=5
  · simp only [if_pos c] at h
    cases hn:answerP en asked (findVarP m) a.n with
    | error e=>rw [hn] at h;cases h
    | ok n=>rw [hn] at h;cases h;exact ha
  · simp only [if_neg c] at h
    cases h
    exact ha
theorem settleI_size {en:Tok} {m:PMod} {asked:List Tok} {x y:PIns} (h:settleI en m asked x=.ok y) (hx:InX x):InX y:=by
  unfold settleI at h
  by_cases c:x.op=30
  · simp only [if_pos c] at h
    cases hn:answerP en asked (findCalP m) x.n with
    | error e=>rw [hn] at h;cases h
    | ok n =>
      rw [hn] at h
      change (x.args.mapM (settleA en m asked) >>= _)=_ at h
      cases hl:x.args.mapM (settleA en m asked) with
      | error e=>rw [hl] at h;cases h
      | ok l =>
        rw [hl] at h
        cases h
        exact ⟨fun k=>absurd (c.symm.trans k) (by decide),(each_of hl).all fun a ha b hb=>settleA_bit hb (hx.2 a ha)⟩
  · simp only [if_neg c] at h
    change (x.args.mapM (settleA en m asked) >>= _)=_ at h
    cases hl:x.args.mapM (settleA en m asked) with
    | error e=>rw [hl] at h;cases h
    | ok l =>
      rw [hl] at h
      cases h
      exact ⟨hx.1,(each_of hl).all fun a ha b hb=>settleA_bit hb (hx.2 a ha)⟩
theorem settleM_nd {en:Tok} {m m':PMod} (hm:Nd m) {asked:List Tok} (h:settleM en m asked=.ok m'):Nd m':=by
  unfold settleM at h
  cases hl:m.fs.mapM (settleF en m asked) with
  | error e=>rw [hl] at h;cases h
  | ok fs =>
    rw [hl] at h
    cases h
    have he:=each_of hl
    have key:∀ f∈m.fs,∀ g,settleF en m asked f=.ok g→g.nm=f.nm∧SzB g.bs∧g.bs.length≠0:=by
      intro f hf g hg
      unfold settleF at hg
      cases hb:f.bs.mapM fun c:List PIns=>c.mapM (settleI en m asked) with
      | error e=>rw [hb] at hg;cases hg
      | ok bs =>
        rw [hb] at hg
        cases hg
        have eb:=each_of hb
        have hB:=hm.bs f hf
        exact ⟨rfl,eb.all fun c hc d hd=>(each_of hd).all fun x hx y hy=>settleI_size hy (hB.1 c hc x hx),by show bs.length≠0;rw [eb.len];exact hB.2⟩
    have en1:(fs.map fun f=>byt f.nm)=m.fs.map fun f=>byt f.nm:=he.map (k:=fun f=>byt f.nm) fun f hf g hg=>by rw [(key f hf g hg).1]
    refine ⟨hm.vs,⟨⟨hm.cal.1.1,?_⟩,fun x hx f hf e=>?_⟩,he.all fun f hf g hg=>(key f hf g hg).2⟩
    · show (fs.map fun f=>byt f.nm).Nodup
      rw [en1]
      exact hm.cal.1.2
    · have:byt f.nm∈m.fs.map fun f=>byt f.nm:=by rw [← en1];exact List.mem_map.2 ⟨f,hf,rfl⟩
      obtain ⟨f0,h0,e0⟩:=List.mem_map.1 this
      exact hm.cal.2 x hx f0 h0 (e.trans e0.symm)
theorem parseP_nd {en:Tok} {ts:List Tok} {m:PMod} (he:Gd en) (hs:∀ t∈ts,Gd t) (h:parseP en ts=.ok m):Nd m:=by
  unfold parseP at h
  cases hq:(qLines en (ts.length+1) ⟨[],[],[]⟩).run ⟨ts,[]⟩ with
  | error e=>rw [hq] at h;cases h
  | ok p =>
    obtain ⟨m1,s⟩:=p
    rw [hq] at h
    have:=lines_nd he (ts.length+1) ⟨[],[],[]⟩ ⟨by simp,⟨⟨by simp,by simp⟩,fun v h=>by simp at h⟩,fun v h=>by simp at h⟩ ⟨ts,[]⟩ m1 s hs hq
    exact settleM_nd this.1 h
theorem modOk_of {m:PMod} (h:MS m) (k:Nd m):modOk m :=
  ⟨⟨h.vl,fun v hv=>(h.vs v hv).2,k.vs⟩,⟨h.xl,fun x hx=>(h.xs x hx).2.1.1⟩,⟨h.fl,fun f hf=>⟨(h.fs f hf).2.1.1,by have:=(k.bs f hf).2;simpa using this,by have:=(h.fs f hf).2.2.2.1;simpa using this,by have:=(h.fs f hf).2.2.2.2.1;simpa using this,fun c hc x hx=>((k.bs f hf).1 c hc x hx).1⟩⟩,
    List.nodup_append.2 ⟨k.cal.1.1,k.cal.1.2,fun a ha b hb=>by
      obtain ⟨x,hx,rfl⟩:=List.mem_map.1 ha
      obtain ⟨f,hf,rfl⟩:=List.mem_map.1 hb
      exact k.cal.2 x hx f hf⟩⟩
theorem insW_of {m:PMod} (h:MS m) (k:Nd m):∀ f∈m.fs,∀ c∈f.bs,∀ x∈c,insW x:=fun f hf c hc x hx=>by
  have hi:=(h.fs f hf).2.2.2.2.2 c hc x hx
  refine ⟨?_,((k.bs f hf).1 c hc x hx).2⟩
  by_cases e:x.op=30
  · have hcal:=hi.cal e
    have h3:=h.fl
    unfold calR at hcal
    by_cases c0:0≤x.n
    · rw [if_pos c0] at hcal
      obtain ⟨g,hg,_⟩:=Option.map_eq_some_iff.1 hcal
      obtain ⟨hlt,_⟩:=List.getElem?_eq_some_iff.1 hg
      omega
    · omega
  · have:=hi.num e
    omega
theorem parse_again {en:Tok} {m:PMod} (h:MS m) (k:Nd m) {ts:List Tok} (ht:ts.map KB=modQ m):parseP en ts=.ok m:=by
  rcases parse_x (en:=en) (m:=m) (fun v hv=>by have:=(h.vs v hv).2;omega) (fun x hx=>⟨fun t h1=>tyB_of ((h.xs x hx).2.1.2 t h1),tyB_of (h.xs x hx).2.2⟩)
    (fun f hf=>⟨⟨fun t h1=>tyB_of ((h.fs f hf).2.1.2 t h1),tyB_of (h.fs f hf).2.2.1⟩,fun c hc x hx=>⟨((h.fs f hf).2.2.2.2.2 c hc x hx).say,insW_of h k f hf c hc x hx⟩⟩) ht with ⟨hn,_⟩ | e
  · exact absurd (modOk_of h k) hn
  · exact e
theorem again {en:Tok} {m:PMod} (h:MS m) (k:Nd m):∃ ts,Lexed (modT m) 1 1 ts none∧parseP en ts=.ok m:=by
  obtain ⟨ts,h1,h2⟩:=lexed_mod (m:=m) (wd:=fun w=>decide (0<w.length)&&decide (wordSize w=w.length)) (fun w hw=>by
    rw [Bool.and_eq_true] at hw
    exact isW_of (of_decide_eq_true hw.1) (of_decide_eq_true hw.2)) h.say (fun v hv=>by have:=(h.vs v hv).2;omega) (insW_of h k)
  exact ⟨ts,h1,parse_again h k h2⟩
def En {α:Type} (P:PS→Prop) (p:PM α) (c:Nat) (f:α→Nat):Prop:=∀ s a s',P s→p s=.ok (a,s')→s'.ts.length+f a≤s.ts.length+c
def hdIs (en t:Tok) (s:PS):Prop:=s.ts.head?.getD en=t
def anyS:PS→Prop:=fun _=>True
section
variable {α β:Type} {P:PS→Prop} {c:Nat} {en:Tok}
theorem En.bind {p:PM α} {k:α→PM β} {f:α→Nat} {g:β→Nat} (h:En P p c f) (j:∀ a,En anyS (k a) (f a) g):En P (p >>= k) c g:=by
  intro s b s' hs e
  change (p s >>= fun x=>k x.1 x.2)=_ at e
  cases hp:p s with
  | error e' => rw [hp] at e;cases e
  | ok x =>
    obtain ⟨a,s1⟩:=x
    rw [hp] at e
    have h1:=h s a s1 hs hp
    have h2:=j a s1 b s' trivial e
    omega
theorem En.next {k:Tok→PM β} {g:β→Nat} (h:∀ t,En (hdIs en t) (k t) c g):En P (qNext en >>= k) c g:=fun s b s' _ e=>h _ s b s' rfl e
theorem En.get {k:PS→PM β} {g:β→Nat} (h:∀ s0,En (fun s=>s=s0) (k s0) c g):En P ((MonadState.get:PM PS) >>= k) c g:=fun s b s' _ e=>h _ s b s' rfl e
theorem En.ask {t x:Tok} {k:Int→PM β} {g:β→Nat} (h:∀ n,En (hdIs en t) (k n) c g):En (hdIs en t) (qAsk x >>= k) c g:=fun s b s' hs e=>h _ ⟨s.ts,s.asked++[x]⟩ b s' hs e
theorem En.ask0 {x:Tok}:En P (qAsk x) c (fun _=>c):=fun s b s' hs e=>by cases e;exact Nat.le_refl _
theorem En.pure {a:α} {f:α→Nat} (h:f a≤c):En P (Pure.pure a) c f:=fun s b s' _ e=>by cases e;omega
theorem En.bad {k:Nat} {t:Tok} {f:α→Nat}:En P (qBad k t) c f:=fun s a s' hs e=>by cases e
theorem En.badf {k:Nat} {t:Tok} {j:α→PM β} {g:β→Nat}:En P (qBad k t >>= j) c g:=fun s a s' hs e=>by cases e
theorem En.up {p:PM α} {f g:α→Nat} {c':Nat} (h:En P p c f) (hc:c≤c') (hg:∀ a,g a≤f a):En P p c' g:=fun s a s' hs e=>by
  have:=h s a s' hs e
  have:=hg a
  omega
theorem En.of {Q:PS→Prop} {p:PM α} {f:α→Nat} (h:En anyS p c f):En Q p c f:=fun s a s' _ e=>h s a s' trivial e
theorem En.ite {q:Prop} [Decidable q] {p r:PM α} {f:α→Nat} (h:q→En P p c f) (k:¬ q→En P r c f):En P (if q then p else r) c f:=by
  by_cases e:q
  · rw [if_pos e];exact h e
  · rw [if_neg e];exact k e
theorem En.pass0:En P qPass c (fun _=>c):=fun s a s' hs e=>by
  cases e
  show s.ts.tail.length+c≤s.ts.length+c
  rw [List.length_tail]
  omega
theorem En.pass1 (h:∀ s,P s→s.ts≠[]):En P qPass c (fun _=>c+1):=fun s a s' hs e=>by
  cases e
  show s.ts.tail.length+(c+1)≤s.ts.length+c
  have:=h s hs
  have:=List.length_pos_iff.2 this
  rw [List.length_tail]
  omega
theorem En.pass (h6:en.kind=6) {t:Tok} (ht:t.kind≠6):En (hdIs en t) qPass c (fun _=>c+1):=En.pass1 fun s hs e=>by
  unfold hdIs at hs
  rw [e] at hs
  exact ht (hs▸h6)
theorem isTk_kd {k:Nat} {b:Tx} {t:Tok} (h:isTk k b t=true):t.kind=k:=by
  unfold isTk at h
  rw [Bool.and_eq_true] at h
  simpa using h.1
theorem En.passed (k:Nat) (b:Tx):En P (qPassed en k b) c (fun _=>c):=by
  unfold qPassed
  exact En.next fun t=>En.ite (fun _=>En.bind En.pass0 fun _=>En.pure (Nat.le_refl _)) (fun _=>En.pure (Nat.le_refl _))
theorem En.want0 (k:Nat):En P (qWant en k) c (fun _=>c):=by
  unfold qWant
  exact En.next fun t=>En.ite (fun h=>En.bind En.pass0 fun _=>En.pure (Nat.le_refl _)) (fun _=>En.bad)
theorem En.want (h6 : en.kind = 6) {k : Nat} (hk : k ≠ 6) : En P (qWant en k) c (fun _=>c+1):=by
  unfold qWant
  exact En.next fun t => En.ite (fun h => En.bind (En.pass h6 (by have:t.kind=k:=by simpa using h
                                                                  omega)) fun _=>En.pure (Nat.le_refl _)) (fun _=>En.bad)
theorem En.this (k:Nat) (b:Tx):En P (qThis en k b) c (fun _=>c):=by
  unfold qThis
  exact En.next fun t=>En.ite (fun _=>En.pass0) (fun _=>En.bad)
theorem En.mark (b:UInt8):En P (qMark en b) c (fun _=>c):=En.this _ _
theorem En.lineEnd:En P (qLineEnd en) c (fun _=>c):=En.bind (En.want0 6) fun _=>En.pure (Nat.le_refl _)
theorem En.type (h6:en.kind=6):En P (qType en) c (fun _=>c+1):=by
  unfold qType
  refine En.bind (En.want h6 (by decide)) fun t=>?_
  split
  · exact En.pure (Nat.le_refl _)
  · exact En.bad
theorem En.type0 (h6:en.kind=6):En P (qType en) c (fun _=>c):=(En.type h6).up (Nat.le_refl _) fun _=>Nat.le_succ _
theorem En.size:En P (qSize en) c (fun _=>c):=by
  unfold qSize
  exact En.bind (En.want0 2) fun t=>En.ite (fun _=>En.bad) (fun h=>En.pure (Nat.le_refl _))
theorem En.block (h6:en.kind=6):En P (qBlock en) c (fun _=>c+1):=by
  unfold qBlock
  refine En.next fun t=>?_
  split
  · rename_i n hn
    refine En.bind (En.pass h6 fun e=>?_) fun _=>En.pure (Nat.le_refl _)
    unfold blockOfP at hn
    rw [e] at hn
    cases hn
  · exact En.bad
theorem En.operand (h6 : en.kind = 6) : En P (qOperand en) c (fun _ => c + 1) := by
  unfold qOperand
  refine En.next fun t=>?_
  have kd : ∀ k : Nat, (t.kind == k) = true → k ≠ 6 → t.kind ≠ 6 := fun k h hk e => hk (by have:t.kind=k:=by simpa using h
                                                                                           omega)
  refine En.ite (fun h=>En.bind (En.pass h6 (kd _ h (by decide))) fun _=>En.pure (Nat.le_refl _)) fun _=>En.ite (fun h=>En.bind (En.pass h6 (kd _ h (by decide))) fun _=>En.pure (Nat.le_refl _)) fun _=>En.ite (fun h=>En.ask fun n=>En.bind (En.pass h6 (kd _ h (by decide))) fun _=>En.pure (Nat.le_refl _)) fun _=>En.ite (fun h=>En.bind (En.pass h6 (by rw [isTk_kd h];decide)) fun _=>En.pure (Nat.le_refl _)) fun _=>En.ite (fun h=>En.bind (En.pass h6 (by rw [isTk_kd h];decide)) fun _=>En.pure (Nat.le_refl _)) fun _=>En.bad
theorem En.operands (h6:en.kind=6):∀ (n:Nat) {P:PS→Prop} {c:Nat},En P (qOperands en n) c (fun l=>c+l.length)
  | 0,_,_=>En.pure (Nat.le_refl _)
  | 1,_,_=>by
    unfold qOperands
    exact En.bind (En.operand h6) fun a=>En.pure (Nat.le_refl _)
  | k+2,P,c=>by
    unfold qOperands
    exact En.bind (En.operand h6) fun a=>En.bind (En.mark 44) fun _=>En.bind (En.operands h6 (k+1)) fun l=>En.pure (by show c+(a::l).length≤c+1+l.length;rw [List.length_cons];omega)
theorem En.flags:En P (qFlags en) c (fun _=>c):=by
  unfold qFlags
  exact En.bind (En.passed _ _) fun a=>En.bind (En.passed _ _) fun b=>En.bind (En.passed _ _) fun c=>En.pure (Nat.le_refl _)
end
section
variable {α:Type} {en:Tok} {item:List α→PM α} {w:Nat}
theorem En.more (hi:∀ acc c,En anyS (item acc) c (fun _=>c+w)):∀ (k:Nat) (acc:List α) {P:PS→Prop} {c:Nat},En P (qMore en item k acc) (c+w * acc.length) (fun l=>c+w * l.length)
  | 0,acc,_,_=>En.pure (Nat.le_refl _)
  | k+1,acc,P,c=>by
    unfold qMore
    refine En.bind (En.passed _ _) fun b=>En.ite (fun _=>En.bind (hi acc _) fun a=>(En.more hi k (acc++[a]) (c:=c)).up ?_ fun _=>Nat.le_refl _) (fun _=>En.pure (Nat.le_refl _))
    rw [List.length_append,List.length_singleton,Nat.mul_add]
    omega
theorem En.commas (hi:∀ acc c,En anyS (item acc) c (fun _=>c+w)) {P:PS→Prop} {c:Nat}:En P (qCommas en item) c (fun l=>c+w * l.length):=by
  unfold qCommas
  refine En.bind ((hi [] c).of) fun a=>En.get fun s=>(En.more hi _ [a] (c:=c)).up ?_ fun _=>Nat.le_refl _
  rw [List.length_singleton]
  omega
theorem En.brackets (hi:∀ acc c,En anyS (item acc) c (fun _=>c+w)) {P:PS→Prop} {c:Nat}:En P (qBrackets en item) c (fun l=>c+w * l.length):=by
  unfold qBrackets
  refine En.bind (En.mark _) fun _=>En.bind (En.passed _ _) fun b=>En.ite (fun _=>En.pure (by simp)) (fun _=>En.bind (En.commas hi) fun l=>En.bind (En.mark _) fun _=>En.pure (Nat.le_refl _))
end
section
variable {en:Tok} (h6:en.kind=6)
include h6
def argZ (x:PIns):Nat:=x.args.length+x.tg.length
theorem typed_en {P:PS→Prop} {c:Nat} {x:PIns} (h1:x.tg=[]) (n:Nat):En P (qTyped en x n) c (fun y=>c+argZ y):=by
  unfold qTyped
  exact En.bind (En.type0 h6) fun t=>En.bind (En.operands h6 n) fun l=>En.pure (by show c+(l.length+x.tg.length)≤c+l.length;rw [h1];simp)
theorem form_en {P:PS→Prop} {c:Nat} {x:PIns} (h0:x.args=[]) (h1:x.tg=[]):En P (qForm en x) c (fun y=>c+argZ y):=by
  unfold qForm
  have z1:x.args.length=0:=by rw [h0];rfl
  have z2:x.tg.length=0:=by rw [h1];rfl
  refine En.ite (fun _=>En.bind (En.type0 h6) fun n=>En.bind (En.operand h6) fun a=>En.bind (En.this _ _) fun _=>En.bind (En.type0 h6) fun t=>En.pure (by show c+(1+x.tg.length)≤c+1;omega)) fun _=>?_
  refine En.ite (fun _=>typed_en h6 h1 3) fun _=>?_
  refine En.ite (fun _=>typed_en h6 h1 1) fun _=>?_
  refine En.ite (fun _=>En.bind (En.type0 h6) fun t=>En.next fun p=>En.ite (fun _=>En.pure (by show c+(x.args.length+x.tg.length)≤c;omega)) fun _=>En.bind (En.commas (w:=2) fun _ c=>En.bind (En.block h6) fun b=>En.bind (En.operand h6) fun a=>En.pure (Nat.le_refl _)) fun l=>En.pure ?_) fun _=>?_
  · show c+((l.map Prod.snd).length+(l.map Prod.fst).length)≤c+2 * l.length
    rw [List.length_map,List.length_map]
    omega
  refine En.ite (fun _=>En.bind En.size fun n=>En.pure (by show c+(x.args.length+x.tg.length)≤c;omega)) fun _=>?_
  refine En.ite (fun _=>En.bind (En.operands h6 2) fun l=>En.pure (by show c+(l.length+x.tg.length)≤c+l.length;omega)) fun _=>?_
  refine En.ite (fun _=>En.bind (En.want0 1) fun t=>En.bind En.ask0 fun n=>En.bind (En.brackets (w:=1) fun _ c=>En.operand h6) fun l=>En.pure (by show c+(l.length+x.tg.length)≤c+1 * l.length;omega)) fun _=>?_
  refine En.ite (fun _=>En.bind (En.operand h6) fun a=>En.bind (En.mark _) fun _=>En.bind (En.block h6) fun b=>En.bind (En.mark _) fun _=>En.bind (En.block h6) fun d=>En.pure (by show c+(1+2)≤c+1+1+1;omega)) fun _=>?_
  refine En.ite (fun _=>En.bind (En.block h6) fun b=>En.pure (by show c+(x.args.length+1)≤c+1;omega)) fun _=>?_
  refine En.ite (fun _=>En.next fun p=>En.ite (fun _=>En.pure (by show c+(x.args.length+x.tg.length)≤c;omega)) fun _=>typed_en h6 h1 1) fun _=>?_
  refine En.ite (fun _=>En.pure (by show c+(x.args.length+x.tg.length)≤c;omega)) fun _=>?_
  by_cases q:x.op≤13
  · simp only [if_pos q]
    exact En.bind En.flags fun fl=>typed_en h6 (x:={ x with fl:=fl }) h1 2
  · simp only [if_neg q]
    exact En.bind (En.pure (f:=fun _=>c) (Nat.le_refl _)) fun fl=>typed_en h6 (x:={ x with fl:=fl }) h1 2
theorem instr_en {P:PS→Prop} {c:Nat}:En P (qInstr en) c (fun x=>c+insZ x):=by
  unfold qInstr
  refine En.next fun p=>?_
  have main:∀ r:Int,En anyS (do
      let w ← qNext en
      let op:=opOfP w
      if ¬ (op=30∨op≠0∧idleB op=decide (0≤r)) then qBad 3 w
      qPass
      let x ← qForm en ⟨op,r,0,0,0,[],[]⟩
      qLineEnd en
      return x) c (fun x=>c+insZ x):=by
    intro r
    refine En.next fun w=>?_
    refine En.ite (fun _=>En.badf) fun hc=>?_
    refine En.bind (En.pass h6 fun e=>?_) fun _=>En.bind (form_en h6 rfl rfl) fun x=>En.bind En.lineEnd fun _=>En.pure (by show c+(1+x.args.length+x.tg.length)≤c+1+(x.args.length+x.tg.length);omega)
    refine hc fun k=>?_
    have z:opOfP w=0:=by unfold opOfP;rw [e];rfl
    rw [z] at k
    rcases k with k | k
    · cases k
    · exact k.1 rfl
  by_cases q:(p.kind==3)=true
  · simp only [if_pos q]
    exact En.bind (f:=fun _=>c) (En.bind En.pass0 fun _=>En.bind (En.mark _) fun _=>En.pure (Nat.le_refl _)) main
  · simp only [if_neg q]
    exact En.bind (f:=fun _=>c) (En.pure (Nat.le_refl _)) main
omit h6 in
theorem blksZ_app (a b:List (List PIns)):blksZ (a++b)=blksZ a+blksZ b:=by unfold blksZ;rw [List.map_append,List.sum_append]
omit h6 in
theorem codeZ_app (a b:List PIns):codeZ (a++b)=codeZ a+codeZ b:=by unfold codeZ;rw [List.map_append,List.sum_append]
theorem body_en:∀ (k:Nat) (bs:List (List PIns)) {P:PS→Prop} {c:Nat},En P (qBody en k bs) (c+blksZ bs) (fun r=>c+blksZ r)
  | 0,bs,_,_=>En.bad
  | k + 1,bs,P,c=>by
    unfold qBody
    refine En.get fun s=>?_
    split
    · exact En.bad
    rename_i front rest hts
    have hne:∀ s',s' = s→s'.ts≠[]:=fun s' e k=>by rw [e,hts] at k;cases k
    refine En.ite (fun _=>En.bind En.pass0 fun _=>body_en k bs) fun _=>?_
    split
    · rename_i n hn
      refine En.bind (f:=fun _=>c+blksZ bs+1) ?_ fun _=>(body_en k _ (c:=c)).up (by rw [blksZ_app];show c+(blksZ bs+(1+0+0))≤_;omega) fun _=>Nat.le_refl _
      unfold qLabel
      exact En.ite (fun _=>En.badf) fun hc=>En.ite (fun _=>En.badf) fun _=>En.bind (En.pass1 hne) fun _=>En.bind (En.mark _) fun _=>En.lineEnd
    · refine En.ite (fun _=>En.bad) fun h0=>En.ite (fun _=>En.bind En.pass0 fun _=>En.bind En.lineEnd fun _=>En.pure (Nat.le_refl _)) fun _=>En.ite (fun _=>En.bad) fun h4=>?_
      refine En.bind (instr_en h6) fun x=>(body_en k _ (c:=c)).up ?_ fun _=>Nat.le_refl _
      obtain ⟨l,d,rfl⟩:∃ l d,bs=l++[d]:=⟨bs.dropLast,bs.getLast (fun e=>h0 (by rw [e];rfl)),(List.dropLast_concat_getLast _).symm⟩
      rw [addLast_of,blksZ_app,blksZ_app]
      show c+(blksZ l+(1+codeZ (d++[x])+0))≤c+(blksZ l+(1+codeZ d+0))+insZ x
      rw [codeZ_app]
      show c+(blksZ l+(1+(codeZ d+(insZ x+0))+0))≤c+(blksZ l+(1+codeZ d+0))+insZ x
      omega
theorem types_en {P:PS→Prop} {c:Nat}:En P (qTypes en) c (fun p=>c+p.1.length):=by
  unfold qTypes
  refine En.bind (En.brackets (w:=1) fun acc c=>?_) fun l=>En.bind (En.type0 h6) fun r=>En.pure (by show c+l.length≤c+1 * l.length;omega)
  exact En.next fun p=>En.bind (En.type h6) fun t=>En.ite (fun _=>En.badf) fun _=>En.pure (Nat.le_refl _)
omit h6 in
theorem name_en {P:PS→Prop} {c:Nat} (full told:Tx→Bool):En P (qName en full told) c (fun _=>c):=by
  unfold qName
  exact En.bind (En.want0 1) fun t=>En.ite (fun _=>En.badf) fun _=>En.ite (fun _=>En.badf) fun _=>En.pure (Nat.le_refl _)
theorem lines_en:∀ (k:Nat) (m:PMod) {P:PS→Prop},En P (qLines en k m) (modZ m) modZ
  | 0,m,_=>En.pure (Nat.le_refl _)
  | k + 1,m,P=>by
    unfold qLines
    refine En.get fun s=>?_
    split
    · exact En.pure (Nat.le_refl _)
    rename_i front rest hts
    have hne:∀ s',s' = s→s'.ts≠[]:=fun s' e k=>by rw [e,hts] at k;cases k
    refine En.ite (fun _=>En.bind En.pass0 fun _=>lines_en k m) fun _=>?_
    refine En.ite (fun _=>En.bind (En.pass1 hne) fun _=>En.bind (name_en _ _) fun nm=>En.bind En.size fun n=>En.bind En.lineEnd fun _=>(lines_en k _).up ?_ fun _=>Nat.le_refl _) fun _=>?_
    · show (m.vs++[(⟨nm,n⟩:PVar)]).length+(m.xs.map extZ).sum+(m.fs.map fnZ).sum≤m.vs.length+(m.xs.map extZ).sum+(m.fs.map fnZ).sum+1
      rw [List.length_append,List.length_singleton]
      omega
    refine En.ite (fun _=>En.bind (En.pass1 hne) fun _=>En.bind (name_en _ _) fun nm=>En.bind (types_en h6) fun p=>En.bind En.lineEnd fun _=>(lines_en k _).up ?_ fun _=>Nat.le_refl _) fun _=>?_
    · show m.vs.length+((m.xs++[(⟨nm,p.1,p.2⟩:PExt)]).map extZ).sum+(m.fs.map fnZ).sum≤m.vs.length+(m.xs.map extZ).sum+(m.fs.map fnZ).sum+1+p.1.length
      rw [List.map_append,List.sum_append]
      show m.vs.length+((m.xs.map extZ).sum+(1+p.1.length+0))+(m.fs.map fnZ).sum≤m.vs.length+(m.xs.map extZ).sum+(m.fs.map fnZ).sum+1+p.1.length
      omega
    refine En.ite (fun _=>En.bind (En.pass1 hne) fun _=>En.bind (name_en _ _) fun nm=>En.bind (types_en h6) fun p=>En.bind En.lineEnd fun _=>En.get fun s2=>En.bind ((body_en h6 _ [] (c:=modZ m+1+p.1.length)).of.up (Nat.le_refl _) fun _=>Nat.le_refl _) fun bs=>(lines_en k _).up ?_ fun _=>Nat.le_refl _) fun _=>En.bad
    show m.vs.length+(m.xs.map extZ).sum+((m.fs++[(⟨nm,p.1,p.2,bs⟩:PFn)]).map fnZ).sum≤m.vs.length+(m.xs.map extZ).sum+(m.fs.map fnZ).sum+1+p.1.length+blksZ bs
    rw [List.map_append,List.sum_append]
    show m.vs.length+(m.xs.map extZ).sum+((m.fs.map fnZ).sum+(1+p.1.length+blksZ bs+0))≤m.vs.length+(m.xs.map extZ).sum+(m.fs.map fnZ).sum+1+p.1.length+blksZ bs
    omega
end
/-! Settling keeps the weight. -/
theorem settleI_z {en:Tok} {m:PMod} {asked:List Tok} {x y:PIns} (h:settleI en m asked x=.ok y):insZ y=insZ x:=by
  unfold settleI at h
  by_cases c:x.op=30
  · simp only [if_pos c] at h
    cases hn:answerP en asked (findCalP m) x.n with
    | error e=>rw [hn] at h;cases h
    | ok n =>
      rw [hn] at h
      change (x.args.mapM (settleA en m asked) >>= _)=_ at h
      cases hl:x.args.mapM (settleA en m asked) with
      | error e=>rw [hl] at h;cases h
      | ok l =>
        rw [hl] at h
        cases h
        show 1+l.length+x.tg.length=1+x.args.length+x.tg.length
        rw [(each_of hl).len]
  · simp only [if_neg c] at h
    change (x.args.mapM (settleA en m asked) >>= _)=_ at h
    cases hl:x.args.mapM (settleA en m asked) with
    | error e=>rw [hl] at h;cases h
    | ok l =>
      rw [hl] at h
      cases h
      show 1+l.length+x.tg.length=1+x.args.length+x.tg.length
      rw [(each_of hl).len]
theorem Each.sum {α β:Type} {f:α→Except Flt β} {u:α→Nat} {v:β→Nat} {l:List α} {r:List β} (h:Each f l r) (k:∀ a∈l,∀ b,f a=.ok b→v b=u a):(r.map v).sum=(l.map u).sum:=by
  rw [h.map (g:=v) (k:=u) fun a ha b hb=>k a ha b hb]
theorem settleM_z {en:Tok} {m m':PMod} {asked:List Tok} (h:settleM en m asked=.ok m'):modZ m' = modZ m:=by
  unfold settleM at h
  cases hl:m.fs.mapM (settleF en m asked) with
  | error e=>rw [hl] at h;cases h
  | ok fs =>
    rw [hl] at h
    cases h
    show m.vs.length+(m.xs.map extZ).sum+(fs.map fnZ).sum=m.vs.length+(m.xs.map extZ).sum+(m.fs.map fnZ).sum
    rw [(each_of hl).sum (u:=fnZ) fun f hf g hg=>?_]
    unfold settleF at hg
    cases hb:f.bs.mapM fun c:List PIns=>c.mapM (settleI en m asked) with
    | error e=>rw [hb] at hg;cases hg
    | ok bs =>
      rw [hb] at hg
      cases hg
      show 1+f.ps.length+blksZ bs=1+f.ps.length+blksZ f.bs
      unfold blksZ
      rw [(each_of hb).sum (u:=fun c=>1+codeZ c) fun c hc d hd=>?_]
      show 1+codeZ d=1+codeZ c
      unfold codeZ
      rw [(each_of hd).sum (u:=insZ) fun x hx y hy=>settleI_z hy]
theorem parseP_z {en:Tok} {ts:List Tok} {m:PMod} (h6:en.kind=6) (h:parseP en ts=.ok m):modZ m≤ts.length:=by
  unfold parseP at h
  cases hq:(qLines en (ts.length+1) ⟨[],[],[]⟩).run ⟨ts,[]⟩ with
  | error e=>rw [hq] at h;cases h
  | ok p =>
    obtain ⟨m1,s⟩:=p
    rw [hq] at h
    have:=lines_en h6 (ts.length+1) ⟨[],[],[]⟩ (P:=anyS) ⟨ts,[]⟩ m1 s trivial hq
    have e:=settleM_z (show settleM en m1 s.asked=.ok m from h)
    have z:modZ ⟨[],[],[]⟩=0:=rfl
    rw [z] at this
    have t:(PS.mk ts []).ts.length=ts.length:=rfl
    omega
end Go.Proofs.YtmmlfmplggbmiaaGreatDoor
namespace Go.Proofs.YtmmlfmplggbmiaaGreatDoor
open Go.RowKit Go.Maps
set_option linter.unusedVariables false
set_option linter.unusedSimpArgs false
def Ans (v:Value) (W:World) (e:Ending) (w':World):Prop:=e=.returned v∧Below W.heap.size W w'
theorem below_drewN' {B:Nat} {W w:World} (h:Below B W w) (n:Nat):Below B W (w.drewN n):=⟨h.os,h.tape,h.output,h.size,h.block⟩
def tgB (t:Int):Bool:=decide (0≤t∧t≤999)
theorem idle_any (op:Int) (W:World):Calls Tryz.prog 98 #[.int .i64 op] W fun e w' => e=.returned (.bool (idleB op))∧w' = W:=by
  unfold idleB
  go_enter Tryz.func98,Tryz.ntmps98
  go_wp2
  all_goals go_ret
  all_goals exact ⟨ret_bool (by rw [Bool.eq_iff_iff];simp;omega),rfl⟩
theorem isType_any (t:Int) (W:World):Calls Tryz.prog 38 #[.int .i64 t] W fun e w' => e=.returned (.bool (tyB t))∧w' = W:=by
  unfold tyB
  go_enter Tryz.func38,Tryz.ntmps38
  go_wp2
  all_goals go_ret
  all_goals exact ⟨ret_bool (by rw [Bool.eq_iff_iff];simp;omega),rfl⟩
theorem isRegister_any (t:Int) (W:World):Calls Tryz.prog 99 #[.int .i64 t] W fun e w' => e=.returned (.bool (regB t))∧w' = W:=by
  unfold regB
  go_enter Tryz.func99,Tryz.ntmps99
  go_wp2
  all_goals go_ret
  all_goals exact ⟨ret_bool (by rw [Bool.eq_iff_iff];simp;omega),rfl⟩
theorem isTarget_any (t:Int) (W:World):Calls Tryz.prog 65 #[.int .i64 t] W fun e w' => e=.returned (.bool (tgB t))∧w' = W:=by
  unfold tgB
  go_enter Tryz.func65,Tryz.ntmps65
  go_wp2
  all_goals go_ret
  all_goals exact ⟨ret_bool (by rw [Bool.eq_iff_iff];simp;omega),rfl⟩
theorem op_cases (op:Int):op=20∨op=21∨op=22∨op=23∨op=24∨op=25∨op=26∨op=27∨op=29∨op=30∨op=31∨op=32∨op=33∨op=34∨(op≠20∧op≠21∧op≠22∧op≠23∧op≠24∧op≠25∧op≠26∧op≠27∧op≠29∧op≠30∧op≠31∧op≠32∧op≠33∧op≠34):=by omega
def cntI (op:Int) (al tl:Nat):Bool :=
  if op=25 then decide (tl=al)
  else if op=30 then decide (tl=0)
  else if op=33 then decide (tl=0∧al≤1)
  else if op=31 then decide (tl=1∧al=0)
  else if op=32 then decide (tl=2∧al=1)
  else if op=26∨op=34 then decide (tl=0∧al=0)
  else if 20≤op∧op≤22∨op=24∨op=27 then decide (tl=0∧al=1)
  else if op=23 then decide (tl=0∧al=3)
  else decide (tl=0∧al=2)
theorem cntI_none {op:Int} {al tl:Nat} (h:op≠20∧op≠21∧op≠22∧op≠23∧op≠24∧op≠25∧op≠26∧op≠27∧op≠29∧op≠30∧op≠31∧op≠32∧op≠33∧op≠34):cntI op al tl=decide (tl=0∧al=2):=by
  unfold cntI
  rw [if_neg (by omega),if_neg (by omega),if_neg (by omega),if_neg (by omega),if_neg (by omega),if_neg (by omega),if_neg (by omega),if_neg (by omega)]
def numI (op n:Int):Bool:=if 20≤op∧op≤22 then tyB n else if op=26 then decide (0≤n) else if op=30 then true else decide (n=0)
theorem numI_none {op n:Int} (h:op≠20∧op≠21∧op≠22∧op≠23∧op≠24∧op≠25∧op≠26∧op≠27∧op≠29∧op≠30∧op≠31∧op≠32∧op≠33∧op≠34):numI op n=decide (n=0):=by
  unfold numI
  rw [if_neg (by omega),if_neg (by omega),if_neg (by omega)]
def flI (op fl:Int):Bool:=if 13<op then decide (fl=0) else decide (0≤fl∧fl≤7)
def hasRegI (op reg:Int):Bool:=if reg=-1 then !idleB op else regB reg&&(decide (op=30)||idleB op)
set_option maxRecDepth 100000 in
set_option maxHeartbeats 8000000 in
theorem hasLists_any (op rg ty nn fl:Int) (ap tp:Option Addr) (al ac tl tc:Nat) (W:World) :
    Calls Tryz.prog 60 #[.agg #[.int .i64 op,.int .i64 rg,.int .i64 ty,.int .i64 nn,.int .i64 fl,.slice ap al ac,.slice tp tl tc]] W (Ans (.bool (cntI op al tl)) W):=by
  rcases op_cases op with rfl | rfl | rfl | rfl | rfl | rfl | rfl | rfl | rfl | rfl | rfl | rfl | rfl | rfl | hno
  · go_enter Tryz.func60,Tryz.ntmps60
    go_wp2_with fail
    go_quiet (fail)
    all_goals go_wp2
    all_goals go_ret
    all_goals exact ⟨ret_bool (by rw [Bool.eq_iff_iff];unfold cntI;simp <;> omega),below_drewN' ((Below.refl _ _).alloc (Nat.le_refl _) _) _⟩
  · go_enter Tryz.func60,Tryz.ntmps60
    go_wp2_with fail
    go_quiet (fail)
    all_goals go_wp2
    all_goals go_ret
    all_goals exact ⟨ret_bool (by rw [Bool.eq_iff_iff];unfold cntI;simp <;> omega),below_drewN' ((Below.refl _ _).alloc (Nat.le_refl _) _) _⟩
  · go_enter Tryz.func60,Tryz.ntmps60
    go_wp2_with fail
    go_quiet (fail)
    all_goals go_wp2
    all_goals go_ret
    all_goals exact ⟨ret_bool (by rw [Bool.eq_iff_iff];unfold cntI;simp <;> omega),below_drewN' ((Below.refl _ _).alloc (Nat.le_refl _) _) _⟩
  · go_enter Tryz.func60,Tryz.ntmps60
    go_wp2_with fail
    go_quiet (fail)
    all_goals go_wp2
    all_goals go_ret
    all_goals exact ⟨ret_bool (by rw [Bool.eq_iff_iff];unfold cntI;simp <;> omega),below_drewN' ((Below.refl _ _).alloc (Nat.le_refl _) _) _⟩
  · go_enter Tryz.func60,Tryz.ntmps60
    go_wp2_with fail
    go_quiet (fail)
    all_goals go_wp2
    all_goals go_ret
    all_goals exact ⟨ret_bool (by rw [Bool.eq_iff_iff];unfold cntI;simp <;> omega),below_drewN' ((Below.refl _ _).alloc (Nat.le_refl _) _) _⟩
  · go_enter Tryz.func60,Tryz.ntmps60
    go_wp2_with fail
    go_quiet (fail)
    all_goals go_wp2
    all_goals go_ret
    all_goals exact ⟨ret_bool (by rw [Bool.eq_iff_iff];unfold cntI;simp <;> omega),below_drewN' ((Below.refl _ _).alloc (Nat.le_refl _) _) _⟩
  · go_enter Tryz.func60,Tryz.ntmps60
    go_wp2_with fail
    go_quiet (fail)
    all_goals go_wp2
    all_goals go_ret
    all_goals exact ⟨ret_bool (by rw [Bool.eq_iff_iff];unfold cntI;simp <;> omega),below_drewN' ((Below.refl _ _).alloc (Nat.le_refl _) _) _⟩
  · go_enter Tryz.func60,Tryz.ntmps60
    go_wp2_with fail
    go_quiet (fail)
    all_goals go_wp2
    all_goals go_ret
    all_goals exact ⟨ret_bool (by rw [Bool.eq_iff_iff];unfold cntI;simp <;> omega),below_drewN' ((Below.refl _ _).alloc (Nat.le_refl _) _) _⟩
  · go_enter Tryz.func60,Tryz.ntmps60
    go_wp2_with fail
    go_quiet (fail)
    all_goals go_wp2
    all_goals go_ret
    all_goals exact ⟨ret_bool (by rw [Bool.eq_iff_iff];unfold cntI;simp <;> omega),below_drewN' ((Below.refl _ _).alloc (Nat.le_refl _) _) _⟩
  · go_enter Tryz.func60,Tryz.ntmps60
    go_wp2_with fail
    go_quiet (fail)
    all_goals go_wp2
    all_goals go_ret
    all_goals exact ⟨ret_bool (by rw [Bool.eq_iff_iff];unfold cntI;simp <;> omega),below_drewN' ((Below.refl _ _).alloc (Nat.le_refl _) _) _⟩
  · go_enter Tryz.func60,Tryz.ntmps60
    go_wp2_with fail
    go_quiet (fail)
    all_goals go_wp2
    all_goals go_ret
    all_goals exact ⟨ret_bool (by rw [Bool.eq_iff_iff];unfold cntI;simp <;> omega),below_drewN' ((Below.refl _ _).alloc (Nat.le_refl _) _) _⟩
  · go_enter Tryz.func60,Tryz.ntmps60
    go_wp2_with fail
    go_quiet (fail)
    all_goals go_wp2
    all_goals go_ret
    all_goals exact ⟨ret_bool (by rw [Bool.eq_iff_iff];unfold cntI;simp <;> omega),below_drewN' ((Below.refl _ _).alloc (Nat.le_refl _) _) _⟩
  · go_enter Tryz.func60,Tryz.ntmps60
    go_wp2_with fail
    go_quiet (fail)
    all_goals go_wp2
    all_goals go_ret
    all_goals exact ⟨ret_bool (by rw [Bool.eq_iff_iff];unfold cntI;simp <;> omega),below_drewN' ((Below.refl _ _).alloc (Nat.le_refl _) _) _⟩
  · go_enter Tryz.func60,Tryz.ntmps60
    go_wp2_with fail
    go_quiet (fail)
    all_goals go_wp2
    all_goals go_ret
    all_goals exact ⟨ret_bool (by rw [Bool.eq_iff_iff];unfold cntI;simp <;> omega),below_drewN' ((Below.refl _ _).alloc (Nat.le_refl _) _) _⟩
  · have hno2:=hno
    obtain ⟨n20,n21,n22,n23,n24,n25,n26,n27,n29,n30,n31,n32,n33,n34⟩:=hno2
    have e20:(op==(20:Int))=false:=by simp;omega
    have e21:(op==(21:Int))=false:=by simp;omega
    have e22:(op==(22:Int))=false:=by simp;omega
    have e23:(op==(23:Int))=false:=by simp;omega
    have e24:(op==(24:Int))=false:=by simp;omega
    have e25:(op==(25:Int))=false:=by simp;omega
    have e26:(op==(26:Int))=false:=by simp;omega
    have e27:(op==(27:Int))=false:=by simp;omega
    have e29:(op==(29:Int))=false:=by simp;omega
    have e30:(op==(30:Int))=false:=by simp;omega
    have e31:(op==(31:Int))=false:=by simp;omega
    have e32:(op==(32:Int))=false:=by simp;omega
    have e33:(op==(33:Int))=false:=by simp;omega
    have e34:(op==(34:Int))=false:=by simp;omega
    clear n20 n21 n22 n23 n24 n25 n26 n27 n29 n30 n31 n32 n33 n34
    have HNO:=Lib.hid hno
    clear hno
    go_enter Tryz.func60,Tryz.ntmps60
    go_wp2_with fail
    go_quiet (fail)
    all_goals go_wp2
    all_goals go_ret
    all_goals exact ⟨ret_bool (by rw [Bool.eq_iff_iff];rw [cntI_none HNO.out];simp <;> omega),below_drewN' ((Below.refl _ _).alloc (Nat.le_refl _) _) _⟩
set_option maxRecDepth 100000 in
set_option maxHeartbeats 8000000 in
theorem hasFlags_any (op rg ty nn fl:Int) (ap tp:Option Addr) (al ac tl tc:Nat) (W:World) :
    Calls Tryz.prog 63 #[.agg #[.int .i64 op,.int .i64 rg,.int .i64 ty,.int .i64 nn,.int .i64 fl,.slice ap al ac,.slice tp tl tc]] W (Ans (.bool (flI op fl)) W):=by
  unfold flI
  by_cases h0:13<op
  · have d0:decide ((13:Int)<op)=true:=by simp [h0]
    rw [if_pos h0]
    go_enter Tryz.func63,Tryz.ntmps63
    go_wp2
    all_goals go_ret
    all_goals exact ⟨ret_bool (by first | rfl | (rw [Bool.eq_iff_iff];simp)),(Below.refl _ _).alloc (Nat.le_refl _) _⟩
  · have d0:decide ((13:Int)<op)=false:=by simp;omega
    rw [if_neg h0]
    go_enter Tryz.func63,Tryz.ntmps63
    go_wp2
    all_goals go_ret
    all_goals exact ⟨ret_bool (by first | rfl | (rw [Bool.eq_iff_iff];simp <;> omega)),(Below.refl _ _).alloc (Nat.le_refl _) _⟩
set_option maxRecDepth 100000 in
set_option maxHeartbeats 8000000 in
theorem hasNumber_any (op rg ty nn fl:Int) (ap tp:Option Addr) (al ac tl tc:Nat) (W:World) :
    Calls Tryz.prog 62 #[.agg #[.int .i64 op,.int .i64 rg,.int .i64 ty,.int .i64 nn,.int .i64 fl,.slice ap al ac,.slice tp tl tc]] W (Ans (.bool (numI op nn)) W):=by
  rcases op_cases op with rfl | rfl | rfl | rfl | rfl | rfl | rfl | rfl | rfl | rfl | rfl | rfl | rfl | rfl | hno
  · go_enter Tryz.func62,Tryz.ntmps62
    go_wp2_with fail
    refine (isType_any nn _).mono ?_
    rintro e w2 ⟨rfl,rfl⟩
    go_wp2_with fail
    go_ret
    exact ⟨rfl,(Below.refl _ _).alloc (Nat.le_refl _) _⟩
  · go_enter Tryz.func62,Tryz.ntmps62
    go_wp2_with fail
    refine (isType_any nn _).mono ?_
    rintro e w2 ⟨rfl,rfl⟩
    go_wp2_with fail
    go_ret
    exact ⟨rfl,(Below.refl _ _).alloc (Nat.le_refl _) _⟩
  · go_enter Tryz.func62,Tryz.ntmps62
    go_wp2_with fail
    refine (isType_any nn _).mono ?_
    rintro e w2 ⟨rfl,rfl⟩
    go_wp2_with fail
    go_ret
    exact ⟨rfl,(Below.refl _ _).alloc (Nat.le_refl _) _⟩
  · go_enter Tryz.func62,Tryz.ntmps62
    go_wp2
    all_goals go_ret
    all_goals exact ⟨ret_bool (by rw [Bool.eq_iff_iff];unfold numI;simp <;> omega),(Below.refl _ _).alloc (Nat.le_refl _) _⟩
  · go_enter Tryz.func62,Tryz.ntmps62
    go_wp2
    all_goals go_ret
    all_goals exact ⟨ret_bool (by rw [Bool.eq_iff_iff];unfold numI;simp <;> omega),(Below.refl _ _).alloc (Nat.le_refl _) _⟩
  · go_enter Tryz.func62,Tryz.ntmps62
    go_wp2
    all_goals go_ret
    all_goals exact ⟨ret_bool (by rw [Bool.eq_iff_iff];unfold numI;simp <;> omega),(Below.refl _ _).alloc (Nat.le_refl _) _⟩
  · go_enter Tryz.func62,Tryz.ntmps62
    go_wp2
    all_goals go_ret
    all_goals exact ⟨ret_bool (by rw [Bool.eq_iff_iff];unfold numI;simp <;> omega),(Below.refl _ _).alloc (Nat.le_refl _) _⟩
  · go_enter Tryz.func62,Tryz.ntmps62
    go_wp2
    all_goals go_ret
    all_goals exact ⟨ret_bool (by rw [Bool.eq_iff_iff];unfold numI;simp <;> omega),(Below.refl _ _).alloc (Nat.le_refl _) _⟩
  · go_enter Tryz.func62,Tryz.ntmps62
    go_wp2
    all_goals go_ret
    all_goals exact ⟨ret_bool (by rw [Bool.eq_iff_iff];unfold numI;simp <;> omega),(Below.refl _ _).alloc (Nat.le_refl _) _⟩
  · go_enter Tryz.func62,Tryz.ntmps62
    go_wp2
    all_goals go_ret
    all_goals exact ⟨ret_bool (by rw [Bool.eq_iff_iff];unfold numI;simp <;> omega),(Below.refl _ _).alloc (Nat.le_refl _) _⟩
  · go_enter Tryz.func62,Tryz.ntmps62
    go_wp2
    all_goals go_ret
    all_goals exact ⟨ret_bool (by rw [Bool.eq_iff_iff];unfold numI;simp <;> omega),(Below.refl _ _).alloc (Nat.le_refl _) _⟩
  · go_enter Tryz.func62,Tryz.ntmps62
    go_wp2
    all_goals go_ret
    all_goals exact ⟨ret_bool (by rw [Bool.eq_iff_iff];unfold numI;simp <;> omega),(Below.refl _ _).alloc (Nat.le_refl _) _⟩
  · go_enter Tryz.func62,Tryz.ntmps62
    go_wp2
    all_goals go_ret
    all_goals exact ⟨ret_bool (by rw [Bool.eq_iff_iff];unfold numI;simp <;> omega),(Below.refl _ _).alloc (Nat.le_refl _) _⟩
  · go_enter Tryz.func62,Tryz.ntmps62
    go_wp2
    all_goals go_ret
    all_goals exact ⟨ret_bool (by rw [Bool.eq_iff_iff];unfold numI;simp <;> omega),(Below.refl _ _).alloc (Nat.le_refl _) _⟩
  · have hno2:=hno
    obtain ⟨n20,n21,n22,n23,n24,n25,n26,n27,n29,n30,n31,n32,n33,n34⟩:=hno2
    have e20:(op==(20:Int))=false:=by simp;omega
    have e21:(op==(21:Int))=false:=by simp;omega
    have e22:(op==(22:Int))=false:=by simp;omega
    have e23:(op==(23:Int))=false:=by simp;omega
    have e24:(op==(24:Int))=false:=by simp;omega
    have e25:(op==(25:Int))=false:=by simp;omega
    have e26:(op==(26:Int))=false:=by simp;omega
    have e27:(op==(27:Int))=false:=by simp;omega
    have e29:(op==(29:Int))=false:=by simp;omega
    have e30:(op==(30:Int))=false:=by simp;omega
    have e31:(op==(31:Int))=false:=by simp;omega
    have e32:(op==(32:Int))=false:=by simp;omega
    have e33:(op==(33:Int))=false:=by simp;omega
    have e34:(op==(34:Int))=false:=by simp;omega
    clear n20 n21 n22 n23 n24 n25 n26 n27 n29 n30 n31 n32 n33 n34
    have HNO:=Lib.hid hno
    clear hno
    go_enter Tryz.func62,Tryz.ntmps62
    go_wp2
    all_goals go_ret
    all_goals exact ⟨ret_bool (by rw [Bool.eq_iff_iff];rw [numI_none HNO.out];simp),(Below.refl _ _).alloc (Nat.le_refl _) _⟩
set_option maxRecDepth 100000 in
set_option maxHeartbeats 8000000 in
theorem hasRegister_any (op rg ty nn fl:Int) (ap tp:Option Addr) (al ac tl tc:Nat) (W:World) :
    Calls Tryz.prog 64 #[.agg #[.int .i64 op,.int .i64 rg,.int .i64 ty,.int .i64 nn,.int .i64 fl,.slice ap al ac,.slice tp tl tc]] W (Ans (.bool (hasRegI op rg)) W):=by
  have ci:=fun w=>idle_any op w
  have cr:=fun w=>isRegister_any rg w
  unfold hasRegI
  obtain ⟨qi,ei⟩:∃ q,idleB op=q:=⟨_,rfl⟩
  obtain ⟨qr,er⟩:∃ q,regB rg=q:=⟨_,rfl⟩
  simp only [ei] at ci
  simp only [er] at cr
  rw [ei,er]
  clear ei er
  by_cases h0:rg=-1
  · have d0:(rg==(-1:Int))=true:=by simp [h0]
    rw [if_pos h0]
    clear h0
    go_enter Tryz.func64,Tryz.ntmps64
    go_wp2_with fail
    refine (ci _).mono ?_
    rintro e w2 ⟨rfl,rfl⟩
    cases qi
    all_goals
      go_wp2_with fail
      go_ret
      exact ⟨rfl,(Below.refl _ _).alloc (Nat.le_refl _) _⟩
  · have d0:(rg==(-1:Int))=false:=by simp;exact h0
    rw [if_neg h0]
    clear h0
    go_enter Tryz.func64,Tryz.ntmps64
    go_wp2_with fail
    refine (cr _).mono ?_
    rintro e w2 ⟨rfl,rfl⟩
    cases qr
    case false =>
      go_wp2_with fail
      go_ret
      exact ⟨rfl,(Below.refl _ _).alloc (Nat.le_refl _) _⟩
    case true =>
      by_cases h1:op=30
      · have d1:(op==(30:Int))=true:=by simp [h1]
        have H1:=Lib.hid h1
        clear h1
        go_wp2_with fail
        go_ret
        exact ⟨ret_bool (by simp [H1.out]),(Below.refl _ _).alloc (Nat.le_refl _) _⟩
      · have d1:(op==(30:Int))=false:=by simp;exact h1
        have H1:=Lib.hid h1
        clear h1
        go_wp2_with fail
        refine (ci _).mono ?_
        rintro e w2 ⟨rfl,rfl⟩
        cases qi
        all_goals
          go_wp2_with fail
          go_ret
          exact ⟨ret_bool (by simp [H1.out]),(Below.refl _ _).alloc (Nat.le_refl _) _⟩
def Ops (W:World):Prop:=∀ k,k<35→W.cell? ⟨0,k,none⟩=some (.string ⟨(opT k).toArray⟩)
theorem Ops.later {W w:World} (h:Ops W) (hb:Below W.heap.size W w):Ops w:=fun k hk=>(hb.cell (p:=⟨0,k,none⟩) (World.block_lt_of_cell? W _ (h k hk))).trans (h k hk)
theorem opT_out {op:Int} (h:¬ (0≤op∧op<35)):opT op=[]:=by
  unfold opT
  by_cases h0:0≤op
  · rw [List.getElem?_eq_none (by simp;omega)]
    rfl
  · rw [show op.toNat=0 by omega]
    rfl
set_option maxRecDepth 100000 in
theorem Of_any (op:Int) (W:World) (hO:Ops W):Calls Tryz.prog 59 #[.int .i64 op] W fun e w' => e=.returned (.string ⟨(opT op).toArray⟩)∧w' = W:=by
  by_cases h0:0≤op
  · have d0:decide (op<(0:Int))=false:=by simp;omega
    by_cases h1:op<35
    · have d1:decide ((35:Int)≤op)=false:=by simp;omega
      obtain ⟨k,rfl⟩:∃ k:Nat,op=k:=⟨op.toNat,by omega⟩
      have hk:k<35:=by omega
      have k0:=hO k hk
      go_enter Tryz.func59,Tryz.ntmps59
      go_wp2_with fail
      go_ret
      exact ⟨rfl,rfl⟩
    · have d1:decide ((35:Int)≤op)=true:=by simp;omega
      rw [opT_out (by omega)]
      go_enter Tryz.func59,Tryz.ntmps59
      go_wp2_with fail
      go_ret
      exact ⟨rfl,rfl⟩
  · have d0:decide (op<(0:Int))=true:=by simp;omega
    rw [opT_out (by omega)]
    go_enter Tryz.func59,Tryz.ntmps59
    go_wp2_with fail
    go_ret
    exact ⟨rfl,rfl⟩
end Go.Proofs.YtmmlfmplggbmiaaGreatDoor
