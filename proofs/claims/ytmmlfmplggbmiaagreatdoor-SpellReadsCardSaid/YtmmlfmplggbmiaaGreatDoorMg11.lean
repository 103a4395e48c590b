/- Several texts in one: PsBu, PsBv, PsBw, PsBx, PsBy, PsBz, PsSay, PsBnM, PsSet. -/
import Derived.Test.YtmmlfmplggbmiaaGreatDoorMg10
namespace Go.Proofs.YtmmlfmplggbmiaaGreatDoor
set_option linter.unusedVariables false
set_option linter.unusedSimpArgs false
theorem body_at {en:Tok} (k:Nat) (bs:List (List PIns)) (front:Tok) (tl A:List Tok) (hn:isTk 6 [] front=false):qBody en (k+1) bs ⟨front::tl,A⟩ =
    match blockOfP front with
    | some n=>(qLabel en front bs n >>= fun _=>qBody en k (bs++[[]])) ⟨front::tl,A⟩
    | none=>if bs.length=0 then .error (fltAt 3 front) else if isTk 1 [101,110,100] front=true then (qLineEnd en >>= fun _=>(Pure.pure bs:PM _)) ⟨tl,A⟩ else if bs.flatten.length=400 then .error (fltAt 6 front)
      else (qInstr en >>= fun x=>qBody en k (addLast bs x)) ⟨front::tl,A⟩:=by
  conv=>lhs;unfold qBody
  show (if isTk 6 [] front=true then (qPass >>= fun _=>qBody en k bs) else _:PM _) ⟨front::tl,A⟩=_
  rw [if_neg (by rw [hn];simp)]
  cases hb:blockOfP front with
  | some n=>simp only [hb]
  | none =>
    simp only [hb]
    by_cases c0:bs.length=0
    · rw [if_pos c0,if_pos c0];rfl
    · rw [if_neg c0,if_neg c0]
      by_cases c1:isTk 1 [101,110,100] front=true
      · rw [if_pos c1,if_pos c1];rfl
      · rw [if_neg c1,if_neg c1]
        by_cases c2:bs.flatten.length=400
        · rw [if_pos c2,if_pos c2];rfl
        · rw [if_neg c2,if_neg c2]
/-! The first piece of a line of code. -/
def headOk (w:Tx):Bool:=match w with | []=>true | d::r=>d != 98||r.any fun y=>!isDigit y
theorem numBehind_no {w:Tx} (h:headOk w=true):numBehind 98 w 999=none:=by
  cases w with
  | nil=>rfl
  | cons d r =>
    unfold headOk at h
    unfold numBehind
    dsimp only at h ⊢
    by_cases hd:d=98
    · rw [if_pos hd,List.find?_eq_none]
      intro n _ e
      rw [hd] at h
      obtain ⟨y,hy,hy2⟩:=List.any_eq_true.1 (show (r.any fun y=>!isDigit y)=true from by simpa using h)
      rw [← eq_of_beq e] at hy
      rw [dec_digit n y hy] at hy2
      cases hy2
    · rw [if_neg hd]
theorem end_no (l c:Nat):blockOfP (Tok.mk 1 [101,110,100] l c)=none:=by
  unfold blockOfP
  rw [if_pos (show ((1:Nat)==1)=true from rfl)]
  exact numBehind_no rfl
theorem op_words:∀ j:Fin 35,0<j.val→headOk (opT (j.val:Int))=true∧(opT (j.val:Int)==[101,110,100])=false:=by decide
theorem line_head {m:PMod} {x:PIns} (h:insB m x=true) {pre:List Tok} {Q:List (Nat×Tx)} (hp:pre.map KB=lineQ m x++Q) :
    ∃ t tl,pre=t::tl∧isTk 6 [] t=false∧blockOfP t=none∧isTk 1 [101,110,100] t=false:=by
  unfold insB at h
  simp only [Bool.and_eq_true,decide_eq_true_eq] at h
  have hop:=h.1.1.1.1.1.1.1
  unfold lineQ at hp
  by_cases c:0≤x.reg
  · rw [if_pos c] at hp
    obtain ⟨t1,r1,rfl,h1,hp1⟩:=List.map_eq_cons_iff.1 (show pre.map KB=(3,decI x.reg)::_ from hp)
    obtain ⟨k1,b1,l1,c1⟩:=t1
    injection h1 with e1 f1
    simp only at e1 f1
    subst e1 f1
    exact ⟨_,_,rfl,rfl,rfl,rfl⟩
  · rw [if_neg c] at hp
    obtain ⟨t1,r1,rfl,h1,hp1⟩:=List.map_eq_cons_iff.1 (show pre.map KB=(1,opT x.op)::_ from hp)
    obtain ⟨k1,b1,l1,c1⟩:=t1
    injection h1 with e1 f1
    simp only at e1 f1
    subst e1 f1
    obtain ⟨j,hj⟩:∃ j:Nat,x.op=(j:Int):=⟨x.op.toNat,by omega⟩
    have ho:=op_words ⟨j,by omega⟩ (show 0<j by omega)
    simp only at ho
    rw [← hj] at ho
    refine ⟨_,_,rfl,rfl,?_,?_⟩
    · unfold blockOfP
      rw [if_pos (show ((1:Nat)==1)=true from rfl)]
      exact numBehind_no ho.1
    · unfold isTk
      simp only [ho.2,Bool.and_false]
theorem addLast_snoc (B:List (List PIns)) (l:List PIns) (x:PIns):addLast (B++[l]) x=B++[l++[x]]:=by
  unfold addLast
  simp
def codeV (n:Nat) (m:PMod) (c:List PIns):List PIns:=valsV (fun n x=>insV n m x) (insN m) n c
theorem codeV_len (m:PMod):∀ (c:List PIns) (n:Nat),(codeV n m c).length=c.length
  | [],_=>rfl
  | x::c,n=>congrArg (·+1) (codeV_len m c (n+(insN m x).length))
theorem code_x {en:Tok} {m:PMod}:∀ (c:List PIns) (B:List (List PIns)) (l:List PIns) (k:Nat) (pre rest q:List Tok),(∀ x∈c,insB m x=true∧insW x)→(B++[l]).flatten.length≤400→pre.map KB=(c.map (lineQ m)).flatten →
    (¬ ((B++[l]).flatten.length+c.length≤400∧∀ x∈c,sizeOk x)∧∃ f,qBody en (k+c.length) (B++[l]) ⟨pre++rest,q⟩=.error f∧F3 f) ∨
    ∃ nm:List Tok,nm.map Tok.body=c.flatMap (insN m)∧(B++[l]).flatten.length+c.length≤400∧qBody en (k+c.length) (B++[l]) ⟨pre++rest,q⟩=qBody en k (B++[l++codeV q.length m c]) ⟨rest,q++nm⟩
  | [],B,l,k,pre,rest,q,_,hc,hp=>by
    obtain rfl:=List.map_eq_nil_iff.1 (show pre.map KB=[] from hp)
    exact .inr ⟨[],rfl,hc,by simp [codeV,valsV]⟩
  | x :: c,B,l,k,pre,rest,q,hi,hc,hp=>by
    have hx:=hi x (List.mem_cons_self ..)
    obtain ⟨p1,p2,rfl,h1,h2⟩:=List.map_eq_append_iff.1 (show pre.map KB=lineQ m x++(c.map (lineQ m)).flatten from hp)
    obtain ⟨t,tl,rfl,b1,b2,b3⟩:=line_head hx.1 (Q:=[]) (show p1.map KB=lineQ m x++[] by rw [h1,List.append_nil])
    have e:=body_at (en:=en) (k+c.length) (B++[l]) t (tl++p2++rest) q b1
    rw [b2] at e
    dsimp only at e
    rw [if_neg (by simp),if_neg (by rw [b3];simp)] at e
    have es:PS.mk (t::tl++p2++rest) q=PS.mk (t::(tl++p2++rest)) q:=rfl
    rw [show k+(x::c).length=k+c.length+1 from rfl,es,e]
    by_cases c4:(B++[l]).flatten.length=400
    · rw [if_pos c4]
      exact .inl ⟨fun h=>by have:=h.1;rw [List.length_cons] at this;omega,_,rfl,.inr (.inr rfl)⟩
    rw [if_neg c4]
    have es2:PS.mk (t::(tl++p2++rest)) q=PS.mk ((t::tl)++(p2++rest)) q:=by simp
    rw [es2]
    rcases Rx.instr (en:=en) (n:=q.length) hx.1 hx.2 (t::tl) (p2++rest) q rfl h1 trivial with ⟨hn,f,ef,hf⟩ | ⟨n1,e1,f1⟩
    · exact .inl ⟨fun h=>hn (h.2 x (List.mem_cons_self ..)),f,bind_err ef,hf⟩
    rw [bind_ok f1,addLast_snoc]
    have hl:n1.length=(insN m x).length:=by rw [← e1,List.length_map]
    have hlen:(B++[l++[insV q.length m x]]).flatten.length=(B++[l]).flatten.length+1:=by simp;omega
    rcases code_x c B (l++[insV q.length m x]) k p2 rest (q++n1) (fun y hy=>hi y (List.mem_cons_of_mem _ hy)) (by omega) h2 with ⟨hn,f,ef,hf⟩ | ⟨n2,e2,hb,f2⟩
    · exact .inl ⟨fun h=>hn ⟨by have:=h.1;rw [List.length_cons] at this;omega,fun y hy=>h.2 y (List.mem_cons_of_mem _ hy)⟩,f,ef,hf⟩
    · refine .inr ⟨n1++n2,by rw [List.map_append,e1,e2];rfl,by rw [List.length_cons];omega,?_⟩
      rw [f2,List.append_assoc,List.append_assoc]
      rw [List.length_append,hl]
      rfl
/-! Blocks. -/
def blksQ (m:PMod):Nat→List (List PIns)→List (Nat×Tx)
  | _,[]=>[]
  | i,c::bl=>blkQ m i c++blksQ m (i+1) bl
theorem blksQ_of (m:PMod):∀ (bl:List (List PIns)) (i:Nat),(bl.mapIdx fun j=>blkQ m (i+j)).flatten=blksQ m i bl
  | [],i=>rfl
  | c::bl,i=>by
    rw [List.mapIdx_cons,List.flatten_cons]
    show blkQ m (i+0) c++_=blkQ m i c++_
    rw [← blksQ_of m bl (i+1)]
    congr 3
    funext j
    rw [Nat.add_assoc,Nat.add_comm 1 j]
theorem lineQ_pos (m:PMod) (x:PIns):1≤(lineQ m x).length:=by
  unfold lineQ
  simp
  omega
theorem codeQ_len (m:PMod):∀ c:List PIns,c.length≤((c.map (lineQ m)).flatten).length
  | []=>Nat.le_refl _
  | x::c=>by
    have:=codeQ_len m c
    have:=lineQ_pos m x
    rw [List.map_cons,List.flatten_cons,List.length_append,List.length_cons]
    omega
theorem label_x {en:Tok} (bs:List (List PIns)) (i:Nat) (hi:i=bs.length) (front:Tok) (tl rest q:List Tok) (hp:tl.map KB=[(5,[58]),(6,[])]):(qLabel en front bs i) ⟨front::(tl++rest),q⟩=if bs.length=64 then .error (fltAt 6 front) else .ok ((),⟨rest,q⟩):=by
  obtain ⟨t2,r2,rfl,h2,hp2⟩:=List.map_eq_cons_iff.1 hp
  obtain ⟨line,col,rfl⟩:=one_piece hp2
  obtain ⟨k2,b2,l2,c2⟩:=t2
  injection h2 with e2 f2
  simp only at e2 f2
  subst e2 f2
  subst hi
  unfold qLabel
  by_cases c:bs.length=64
  · rw [if_pos c,if_pos c];rfl
  · rw [if_neg c,if_neg c,if_neg (by simp)];rfl
def blksV (n:Nat) (m:PMod) (bl:List (List PIns)):List (List PIns):=valsV (fun n c=>codeV n m c) (fun c=>c.flatMap (insN m)) n bl
def bodyOk (bs bl:List (List PIns)):Prop:=bs.length+bl.length≠0∧bs.length+bl.length≤64∧bs.flatten.length+bl.flatten.length≤400∧∀ c∈bl,∀ x∈c,sizeOk x
theorem body_x {en:Tok} {m:PMod}:∀ (bl bs:List (List PIns)) (k:Nat) (pre rest q:List Tok),(∀ c∈bl,∀ x∈c,insB m x=true∧insW x)→bs.length≤64→bs.flatten.length≤400 →
    pre.map KB=blksQ m bs.length bl++[(1,[101,110,100]),(6,[])]→pre.length<k →
    (¬ bodyOk bs bl∧∃ f,qBody en k bs ⟨pre++rest,q⟩=.error f∧F3 f)∨∃ nm:List Tok,nm.map Tok.body=bl.flatMap (fun c=>c.flatMap (insN m))∧qBody en k bs ⟨pre++rest,q⟩=.ok (bs++blksV q.length m bl,⟨rest,q++nm⟩)
  | [],bs,k,pre,rest,q,_,h1,h2,hp,hk=>by
    obtain ⟨k,rfl⟩:∃ j,k=j+1:=⟨k - 1,by omega⟩
    obtain ⟨t1,r1,rfl,e1,hp1⟩:=List.map_eq_cons_iff.1 (show pre.map KB=(1,[101,110,100])::[(6,[])] from hp)
    obtain ⟨line,col,rfl⟩:=one_piece hp1
    obtain ⟨k1,b1,l1,c1⟩:=t1
    injection e1 with e1 f1
    simp only at e1 f1
    subst e1 f1
    have e:=body_at (en:=en) k bs (Tok.mk 1 [101,110,100] l1 c1) (Tok.mk 6 [] line col::rest) q rfl
    rw [end_no l1 c1] at e
    dsimp only at e
    by_cases c0:bs.length=0
    · rw [if_pos c0] at e
      exact .inl ⟨fun h=>h.1 (by rw [c0];rfl),_,e,.inl rfl⟩
    · rw [if_neg c0,if_pos (show isTk 1 [101,110,100] (Tok.mk 1 [101,110,100] l1 c1)=true from isTk_self _ _ _ _)] at e
      refine .inr ⟨[],rfl,?_⟩
      rw [show bs++blksV q.length m []=bs from List.append_nil bs,List.append_nil]
      exact e
  | c :: bl,bs,k,pre,rest,q,hi,h1,h2,hp,hk=>by
    obtain ⟨p1,p2,rfl,a1,a2⟩:=List.map_eq_append_iff.1 (show pre.map KB=blkQ m bs.length c++(blksQ m (bs.length+1) bl++[(1,[101,110,100]),(6,[])]) from by rw [hp];show (blkQ m bs.length c++_)++_=_;rw [List.append_assoc])
    obtain ⟨p3,p4,rfl,a3,a4⟩:=List.map_eq_append_iff.1 (show p1.map KB=[(1,blockT (bs.length:Nat)),(5,[58]),(6,[])]++(c.map (lineQ m)).flatten from a1)
    obtain ⟨t1,r1,rfl,e1,hp1⟩:=List.map_eq_cons_iff.1 (show p3.map KB=(1,blockT (bs.length:Nat))::[(5,[58]),(6,[])] from a3)
    obtain ⟨k1,b1,l1,c1⟩:=t1
    injection e1 with e1 f1
    simp only at e1 f1
    subst e1 f1
    have hl1:r1.length=2:=by rw [← List.length_map (f:=KB),hp1];rfl
    have hl4:c.length≤p4.length:=by
      have:=codeQ_len m c
      rw [← a4,List.length_map] at this
      exact this
    simp only [List.length_append,List.length_cons] at hk
    obtain ⟨k2,rfl⟩:∃ j,k=j+c.length+1:=⟨k - 1 - c.length,by omega⟩
    have e:=body_at (en:=en) (k2+c.length) bs (Tok.mk 1 (blockT (bs.length:Nat)) l1 c1) (r1++(p4++(p2++rest))) q rfl
    rw [blockOf_block (n:=(bs.length:Nat)) ⟨by omega,by omega⟩] at e
    dsimp only at e
    have es:PS.mk (Tok.mk 1 (blockT (bs.length:Nat)) l1 c1::r1++p4++p2++rest) q=PS.mk (Tok.mk 1 (blockT (bs.length:Nat)) l1 c1::(r1++(p4++(p2++rest)))) q:=by simp
    rw [es,e]
    have el:=label_x (en:=en) bs ((bs.length:Nat):Int).toNat (by simp) (Tok.mk 1 (blockT (bs.length:Nat)) l1 c1) r1 (p4++(p2++rest)) q hp1
    by_cases c0:bs.length=64
    · rw [if_pos c0] at el
      exact .inl ⟨fun h=>by have:=h.2.1;rw [List.length_cons] at this;omega,_,bind_err el,.inr (.inr rfl)⟩
    rw [if_neg c0] at el
    rw [bind_ok el]
    rcases code_x (en:=en) (m:=m) c bs [] k2 p4 (p2++rest) q (hi c (List.mem_cons_self ..)) (by simp;simpa using h2) a4 with ⟨hn,f,ef,hf⟩ | ⟨n1,e1,hb,f1⟩
    · refine .inl ⟨fun h=>hn ⟨?_,h.2.2.2 c (List.mem_cons_self ..)⟩,f,ef,hf⟩
      have:=h.2.2.1
      simp at this ⊢
      omega
    rw [f1]
    have hl:n1.length=(c.flatMap (insN m)).length:=by rw [← e1,List.length_map]
    have hv:=codeV_len m c q.length
    have hb2:(bs++[codeV q.length m c]).flatten.length=bs.flatten.length+c.length:=by
      rw [List.flatten_append,List.length_append]
      simp [hv]
    have hb3:(bs++[([]:List PIns)]).flatten.length=bs.flatten.length:=by
      rw [List.flatten_append,List.length_append]
      simp
    rcases body_x bl (bs++[[]++codeV q.length m c]) k2 p2 rest (q++n1) (fun d hd=>hi d (List.mem_cons_of_mem _ hd)) (by simp;omega) (by rw [List.nil_append,hb2];omega) (by rw [a2];simp) (by omega) with ⟨hn,f,ef,hf⟩ | ⟨n2,e2,f2⟩
    · refine .inl ⟨fun h=>hn ⟨by simp,?_,?_,fun d hd=>h.2.2.2 d (List.mem_cons_of_mem _ hd)⟩,f,ef,hf⟩
      · have:=h.2.1
        simp at this ⊢
        omega
      · have:=h.2.2.1
        rw [List.nil_append,hb2]
        rw [List.flatten_cons,List.length_append] at this
        omega
    · refine .inr ⟨n1++n2,by rw [List.map_append,e1,e2];rfl,?_⟩
      rw [f2,List.append_assoc,List.append_assoc,List.length_append,hl]
      rfl
section
variable {α β:Type} {en:Tok} {item:List β→PM β} {Pf:α→List (Nat×Tx)} {Nf:α→List Tx} {V:Nat→α→β} {ok:Prop} {tot:Nat}
theorem Rx.more:∀ (l:List α) (k:Nat) (acc:List β) (n:Nat),l.length≤k→acc.length+l.length≤tot→(∀ x∈l,∀ acc n,acc.length<tot→Rx ok n (item acc) (Pf x) (Nf x) (V n x) (fun _=>True)) →
      Rx ok n (qMore en item k acc) (l.flatMap fun x=>(5,[44])::Pf x) (l.flatMap Nf) (acc++valsV V Nf n l) (NC en)
  | [],k,acc,n,hk,ht,h=>(RdS.more (en:=en) (item:=item) (Pf:=Pf) (Nf:=Nf) (V:=V) [] k acc n hk (fun x hx=>by cases hx)).x ok
  | x::l,0,acc,n,hk,ht,h=>by simp at hk
  | x :: l,k+1,acc,n,hk,ht,h=>by
    rw [List.length_cons] at ht hk
    have ih:=Rx.more l k (acc++[V n x]) (n+(Nf x).length) (by omega) (by rw [List.length_append,List.length_singleton];omega) (fun y hy=>h y (List.mem_cons_of_mem _ hy))
    have h1:=Rx.bindT (g:=fun y=>qMore en item k (acc++[y])) (h x (List.mem_cons_self ..) acc n (by omega)) ih
    intro pre rest q hq hp hc
    rw [List.flatMap_cons,List.cons_append] at hp
    obtain ⟨t,tl,rfl,ht2,htl⟩:=List.map_eq_cons_iff.1 hp
    obtain ⟨k',b',line,col⟩:=t
    injection ht2 with e1 e2
    simp only at e1 e2
    subst e1 e2
    have e:qPassed en 5 [44] (PS.mk ((⟨5,[44],line,col⟩::tl)++rest) q)=.ok (true,PS.mk (tl++rest) q):=by
      unfold qPassed
      rw [bind_ok (p:=qNext en) (a:=Tok.mk 5 [44] line col) (s1:=PS.mk ((⟨5,[44],line,col⟩::tl)++rest) q) rfl]
      rw [isTk_self]
      rfl
    have e2:qMore en item (k+1) acc (PS.mk ((⟨5,[44],line,col⟩::tl)++rest) q)=(item acc >>= fun y=>qMore en item k (acc++[y])) (PS.mk (tl++rest) q):=by
      conv=>lhs;unfold qMore
      rw [bind_ok e,if_pos rfl]
    rw [e2]
    rcases h1 tl rest q hq htl hc with ⟨hn,f,ef,hf⟩ | ⟨nm,e3,e4⟩
    · exact .inl ⟨hn,f,ef,hf⟩
    · exact .inr ⟨nm,by rw [e3,List.flatMap_cons],by rw [e4];simp [valsV]⟩
theorem Rx.commas (x:α) (l:List α) (n:Nat) (ht:(x::l).length≤tot) (h:∀ y∈x::l,∀ acc n,acc.length<tot→Rx ok n (item acc) (Pf y) (Nf y) (V n y) (fun _=>True)) :
    Rx ok n (qCommas en item) (sepP ((x::l).map Pf)) ((x::l).flatMap Nf) (valsV V Nf n (x::l)) (NC en):=by
  rw [sepP_cons]
  intro pre rest q hq hp hc
  rw [List.length_cons] at ht
  obtain ⟨p1,p2,rfl,h1,h2⟩:=List.map_eq_append_iff.1 hp
  rw [List.append_assoc]
  rcases h x (by simp) [] n (by show 0<tot;omega) p1 (p2++rest) q hq h1 trivial with ⟨hn,f,ef,hf⟩ | ⟨n1,e1,f1⟩
  · exact .inl ⟨hn,f,bind_err ef,hf⟩
  have hl:n1.length=(Nf x).length:=by rw [← e1,List.length_map]
  have hlen:l.length≤(p2++rest).length+1:=by
    have h3:p2.length=(l.flatMap fun y=>((5,[44]):Nat×Tx)::Pf y).length:=by rw [← h2,List.length_map]
    have h4:∀ l:List α,l.length≤(l.flatMap fun y=>((5,[44]):Nat×Tx)::Pf y).length:=fun l=>by
      induction l with
      | nil=>simp
      | cons y l ih=>rw [List.flatMap_cons,List.length_append];simp only [List.length_cons];omega
    have:=h4 l
    rw [List.length_append]
    omega
  unfold qCommas
  rw [bind_ok f1]
  show _∨∃ nm,_∧qMore en item ((p2++rest).length+1) [V n x] (PS.mk (p2++rest) (q++n1))=_
  rcases Rx.more (en:=en) (item:=item) l ((p2++rest).length+1) [V n x] (n+(Nf x).length) hlen (by rw [List.length_singleton];omega) (fun y hy=>h y (List.mem_cons_of_mem _ hy)) p2 rest (q++n1) (by rw [List.length_append,hq,hl]) h2 hc with ⟨hn,f,ef,hf⟩ | ⟨n2,e2,f2⟩
  · exact .inl ⟨hn,f,ef,hf⟩
  · exact .inr ⟨n1++n2,by rw [List.map_append,e1,e2,List.flatMap_cons],by rw [f2,List.append_assoc];rfl⟩
theorem Rx.brackets (l:List α) (n:Nat) {C:List Tok→Prop} (ht:l.length≤tot) (hP:∀ y∈l,∃ k b Q,Pf y=(k,b)::Q∧k≠5) (h:∀ y∈l,∀ acc n,acc.length<tot→Rx ok n (item acc) (Pf y) (Nf y) (V n y) (fun _=>True)) :
    Rx ok n (qBrackets en item) ((5,[40])::(sepP (l.map Pf)++[(5,[41])])) (l.flatMap Nf) (valsV V Nf n l) C:=by
  cases l with
  | nil=>exact (RdS.brackets (en:=en) (item:=item) (Pf:=Pf) (Nf:=Nf) (V:=V) [] n (fun y hy=>by cases hy) (fun y hy=>by cases hy)).x ok
  | cons x l =>
    have h4:=Rx.bind (ok:=ok) (C:=fun _=>True) (D:=C) (g:=fun _=>(Pure.pure (valsV V Nf n (x::l)):PM (List β))) ((RdS.this (en:=en) (n:=n+((x::l).flatMap Nf).length) 5 [41]).x ok) ((RdS.pure _ _ C).x ok) (fun _ _ _ _=>trivial)
    have h3:=Rx.bind (D:=C) (g:=fun l=>qThis en 5 [41] >>= fun _=>(Pure.pure l:PM (List β))) (Rx.commas (en:=en) (item:=item) (V:=V) x l n ht h) h4 (fun post rest hp _=>nt_of (k':=5) (b':=[41]) hp (by decide))
    have h2:=Rx.bind (D:=C) (g:=brRest en item) ((RdS.notPassed (en:=en) (n:=n) 5 [41]).x ok) h3 (fun post rest hp _=>by
      obtain ⟨k,b,Q,e2,hk⟩:=hP x (by simp)
      rw [sepP_cons,e2] at hp
      exact nt_of (by simpa using hp) (by rw [show (k==5)=false from by simpa using hk];rfl))
    have h1:=Rx.bind (C:=fun _=>True) (D:=C) (g:=fun _=>qPassed en 5 [41] >>= brRest en item) ((RdS.this (en:=en) (n:=n) 5 [40]).x ok) h2 (fun _ _ _ _=>trivial)
    exact h1.to (by simp) (by simp) rfl
end
theorem valsV_id:∀ (l:List Int) (n:Nat),valsV (fun _ t=>t) (fun _:Int=>([]:List Tx)) n l=l
  | [],_=>rfl
  | t::l,n=>congrArg (t::·) (valsV_id l _)
theorem Rx.types {en:Tok} {n:Nat} {C:List Tok→Prop} {ps:List Int} {rt:Int} (hp:∀ t∈ps,tyB t=true) (hr:tyB rt=true) :
    Rx (ps.length≤8) n (qTypes en) ((5,[40])::(sepP (ps.map fun t=>[(1,typeT t)])++[(5,[41]),(1,typeT rt)])) [] (ps,rt) C:=by
  have hi:∀ t∈ps,∀ (acc:List Int) (n:Nat),acc.length<ps.length→Rx (ps.length≤8) n (do
      let p ← qNext en
      let t ← qType en
      if 8≤acc.length then qBad 6 p
      return t:PM Int) [(1,typeT t)] [] t (fun _=>True):=fun t ht acc n ha pre rest q hq hpp hc=>by
    obtain ⟨line,col,rfl⟩:=one_piece hpp
    obtain ⟨nm,e1,e2⟩:=RdS.type (en:=en) (n:=n) (C:=fun _=>True) (hp t ht) [Tok.mk 1 (typeT t) line col] rest q hq rfl trivial
    rw [bind_ok (p:=qNext en) (a:=Tok.mk 1 (typeT t) line col) (s1:=PS.mk ([Tok.mk 1 (typeT t) line col]++rest) q) rfl,bind_ok e2]
    by_cases c:8≤acc.length
    · rw [if_pos c]
      exact .inl ⟨by omega,_,rfl,.inr (.inr rfl)⟩
    · rw [if_neg c]
      exact .inr ⟨nm,e1,rfl⟩
  have h1:=Rx.brackets (en:=en) (ok:=ps.length≤8) (tot:=ps.length) (Pf:=fun t=>[(1,typeT t)]) (Nf:=fun _=>[]) (V:=fun _ t=>t) ps n (C:=fun _=>True) (Nat.le_refl _) (fun y _=>⟨1,typeT y,[],rfl,by decide⟩) hi
  have h2:=Rx.bind (D:=C) (g:=fun l=>qType en >>= fun r=>(Pure.pure (l,r):PM (List Int×Int))) h1 (((RdS.type (en:=en) (C:=fun _=>True) hr).bindT (g:=fun r=>(Pure.pure (valsV (fun _ t=>t) (fun _:Int=>([]:List Tx)) n ps,r):PM (List Int×Int))) (RdS.pure _ _ C)).x _) (fun _ _ _ _=>trivial)
  exact h2.to (by simp) (by simp) (by rw [valsV_id])
theorem name_x {en:Tok} {full told:Tx→Bool} {nm:ByteArray} (t:Tok) (ht:KB t=(1,byt nm)) (tl q:List Tok) :
    (¬ (full (byt nm)=false∧told (byt nm)=false)∧∃ f,qName en full told ⟨t::tl,q⟩=.error f∧F3 f)∨(full (byt nm)=false∧told (byt nm)=false)∧qName en full told ⟨t::tl,q⟩=.ok (nm,⟨tl,q⟩):=by
  obtain ⟨k,b,line,col⟩:=t
  injection ht with e1 e2
  simp only at e1 e2
  subst e1 e2
  unfold qName
  rw [bind_ok (p:=qWant en 1) (a:=Tok.mk 1 (byt nm) line col) (s1:=PS.mk tl q) rfl]
  dsimp only
  by_cases c:full (byt nm)=true
  · rw [if_pos c]
    exact .inl ⟨fun h=>(by rw [h.1] at c;cases c),_,rfl,.inr (.inr rfl)⟩
  rw [if_neg c]
  by_cases c2:told (byt nm)=true
  · rw [if_pos c2]
    exact .inl ⟨fun h=>(by rw [h.2] at c2;cases c2),_,rfl,.inr (.inl rfl)⟩
  rw [if_neg c2]
  exact .inr ⟨⟨by simpa using c,by simpa using c2⟩,rfl⟩
def rG (en:Tok) (k:Nat) (m:PMod):PM PMod:=do
  let nm ← qName en (fun _=>m.vs.length==8) (hasVar m)
  let n ← qSize en
  qLineEnd en
  qLines en k { m with vs:=m.vs++[⟨nm,n⟩] }
def rX (en:Tok) (k:Nat) (m:PMod):PM PMod:=do
  let nm ← qName en (fun _=>m.xs.length==8) (hasCal m)
  let p ← qTypes en
  qLineEnd en
  qLines en k { m with xs:=m.xs++[⟨nm,p.1,p.2⟩] }
def rF (en:Tok) (k:Nat) (m:PMod):PM PMod:=do
  let nm ← qName en (fun _=>m.fs.length==8) (hasCal m)
  let p ← qTypes en
  qLineEnd en
  let s ← get
  let bs ← qBody en (s.ts.length+1) []
  qLines en k { m with fs:=m.fs++[⟨nm,p.1,p.2,bs⟩] }
theorem lines_glob {en:Tok} (k:Nat) (m:PMod) (li co:Nat) (l A:List Tok):qLines en (k+1) m ⟨Tok.mk 1 [103,108,111,98,97,108] li co::l,A⟩=rG en k m ⟨l,A⟩:=rfl
theorem lines_ext {en:Tok} (k:Nat) (m:PMod) (li co:Nat) (l A:List Tok):qLines en (k+1) m ⟨Tok.mk 1 [101,120,116,101,114,110] li co::l,A⟩=rX en k m ⟨l,A⟩:=rfl
theorem lines_func {en:Tok} (k:Nat) (m:PMod) (li co:Nat) (l A:List Tok):qLines en (k+1) m ⟨Tok.mk 1 [102,117,110,99] li co::l,A⟩=rF en k m ⟨l,A⟩:=rfl
/-! Names. -/
theorem nd_snoc {L:List Tx} {w:Tx} (h:L.Nodup) (k:w∉L):(L++[w]).Nodup:=by
  rw [List.nodup_append]
  exact ⟨h,by simp,fun a ha b hb=>by rw [List.mem_singleton.1 hb];exact fun e=>k (e▸ha)⟩
theorem nd_not {L R:List Tx} {w:Tx} (h:(L++w::R).Nodup):w∉L:=fun hm=>(List.nodup_append.1 h).2.2 w hm w (List.mem_cons_self ..) rfl
theorem hasVar_iff {m:PMod} {w:Tx}:hasVar m w=true↔w∈m.vs.map fun v=>byt v.nm:=by
  unfold hasVar
  rw [List.any_eq_true,List.mem_map]
  exact ⟨fun ⟨v,h,e⟩=>⟨v,h,eq_of_beq e⟩,fun ⟨v,h,e⟩=>⟨v,h,by rw [e];exact beq_self_eq_true w⟩⟩
def calNs (m:PMod):List Tx:=(m.xs.map fun x=>byt x.nm)++m.fs.map fun f=>byt f.nm
theorem hasCal_iff {m:PMod} {w:Tx}:hasCal m w=true↔w∈calNs m:=by
  unfold hasCal calNs
  rw [Bool.or_eq_true,List.any_eq_true,List.any_eq_true,List.mem_append,List.mem_map,List.mem_map]
  exact ⟨fun h=>h.imp (fun ⟨v,h,e⟩=>⟨v,h,eq_of_beq e⟩) (fun ⟨v,h,e⟩=>⟨v,h,eq_of_beq e⟩),fun h=>h.imp (fun ⟨v,h,e⟩=>⟨v,h,by rw [e];exact beq_self_eq_true w⟩) (fun ⟨v,h,e⟩=>⟨v,h,by rw [e];exact beq_self_eq_true w⟩)⟩
theorem vars_x {en:Tok}:∀ (l:List PVar) (m0:PMod) (k:Nat) (pre rest q:List Tok),(∀ v∈l,0≤v.size∧v.size<18446744073709551616)→m0.vs.length≤8→(m0.vs.map fun v=>byt v.nm).Nodup→pre.map KB=(l.map varP).flatten →
    (¬ (m0.vs.length+l.length≤8∧(∀ v∈l,1≤v.size∧v.size≤64)∧((m0.vs++l).map fun v=>byt v.nm).Nodup)∧∃ f,qLines en (k+l.length) m0 ⟨pre++rest,q⟩=.error f∧F3 f) ∨
    ((m0.vs++l).map fun v=>byt v.nm).Nodup∧qLines en (k+l.length) m0 ⟨pre++rest,q⟩=qLines en k { m0 with vs:=m0.vs++l } ⟨rest,q⟩
  | [],m0,k,pre,rest,q,_,_,hd,hp=>by
    obtain rfl:=List.map_eq_nil_iff.1 (show pre.map KB=[] from hp)
    exact .inr ⟨by rw [List.append_nil];exact hd,by rw [List.append_nil];rfl⟩
  | v :: l,m0,k,pre,rest,q,hs,h8,hd,hp=>by
    obtain ⟨p1,p2,rfl,h1,h2⟩:=List.map_eq_append_iff.1 (show pre.map KB=varP v++(l.map varP).flatten from hp)
    obtain ⟨t1,r1,rfl,e1,hp1⟩:=List.map_eq_cons_iff.1 (show p1.map KB=(1,[103,108,111,98,97,108])::[(1,byt v.nm),(2,decI v.size),(6,[])] from h1)
    obtain ⟨t2,r2,rfl,e2,hp2⟩:=List.map_eq_cons_iff.1 hp1
    obtain ⟨t3,r3,rfl,e3,hp3⟩:=List.map_eq_cons_iff.1 hp2
    obtain ⟨line,col,rfl⟩:=one_piece hp3
    obtain ⟨k1,b1,l1,c1⟩:=t1
    injection e1 with e1 f1
    simp only at e1 f1
    subst e1 f1
    have hg:=lines_glob (en:=en) (k+l.length) m0 l1 c1 (t2::t3::Tok.mk 6 [] line col::(p2++rest)) q
    have es:PS.mk (([Tok.mk 1 [103,108,111,98,97,108] l1 c1,t2,t3,Tok.mk 6 [] line col]++p2)++rest) q=PS.mk (Tok.mk 1 [103,108,111,98,97,108] l1 c1::t2::t3::Tok.mk 6 [] line col::(p2++rest)) q:=by simp
    rw [show k+(v::l).length=k+l.length+1 from rfl,es,hg]
    unfold rG
    rcases name_x (en:=en) (full:=fun _=>m0.vs.length==8) (told:=hasVar m0) t2 e2 (t3::Tok.mk 6 [] line col::(p2++rest)) q with ⟨hn,f,ef,hf⟩ | ⟨⟨hn1,hn2⟩,en1⟩
    · refine .inl ⟨fun h=>hn ⟨?_,?_⟩,f,bind_err ef,hf⟩
      · have:=h.1
        rw [List.length_cons] at this
        simp
        omega
      · have h3:=h.2.2
        rw [List.map_append] at h3
        have:=nd_not (show ((m0.vs.map fun v=>byt v.nm)++byt v.nm::l.map fun v=>byt v.nm).Nodup from h3)
        rw [← hasVar_iff] at this
        simpa using this
    rw [bind_ok en1]
    have h8':m0.vs.length≠8:=by simpa using hn1
    have hd2:((m0.vs++[v]).map fun v=>byt v.nm).Nodup:=by
      rw [List.map_append]
      refine nd_snoc hd fun hm=>?_
      rw [← hasVar_iff,hn2] at hm
      cases hm
    rcases Rx.size (en:=en) (n:=q.length) (C:=fun _=>True) (hs v (List.mem_cons_self ..)) [t3] (Tok.mk 6 [] line col::(p2++rest)) q rfl (by rw [List.map_singleton,e3]) trivial with ⟨hn,f,ef,hf⟩ | ⟨nm,e4,f4⟩
    · exact .inl ⟨fun h=>hn (h.2.1 v (List.mem_cons_self ..)),f,bind_err ef,hf⟩
    obtain rfl:=List.map_eq_nil_iff.1 e4
    rw [List.append_nil] at f4
    have f5:qSize en ⟨t3::Tok.mk 6 [] line col::(p2++rest),q⟩=.ok (v.size,⟨Tok.mk 6 [] line col::(p2++rest),q⟩):=f4
    rw [bind_ok f5,bind_ok (p:=qLineEnd en) (a:=()) (s1:=PS.mk (p2++rest) q) rfl]
    rcases vars_x l { m0 with vs:=m0.vs++[v] } k p2 rest q (fun u hu=>hs u (List.mem_cons_of_mem _ hu)) (by simp;omega) hd2 h2 with ⟨hn,f,ef,hf⟩ | ⟨hd3,e5⟩
    · refine .inl ⟨fun h=>hn ⟨?_,fun u hu=>h.2.1 u (List.mem_cons_of_mem _ hu),?_⟩,f,ef,hf⟩
      · have:=h.1
        simp at this ⊢
        omega
      · simpa using h.2.2
    · refine .inr ⟨by simpa using hd3,?_⟩
      rw [show m0.vs++v::l=m0.vs++[v]++l by simp]
      exact e5
theorem head_x {β:Type} {en:Tok} {full told:Tx→Bool} {nm:ByteArray} {ps:List Int} {rt:Int} (hp:∀ t∈ps,tyB t=true) (hr:tyB rt=true) (g:ByteArray→List Int×Int→PM β) (pre rest q:List Tok) (hpre:pre.map KB=headP nm ps rt) :
    (¬ ((full (byt nm)=false∧told (byt nm)=false)∧ps.length≤8)∧∃ f,(qName en full told >>= fun nm=>qTypes en >>= fun p=>qLineEnd en >>= fun _=>g nm p) ⟨pre++rest,q⟩=.error f∧F3 f) ∨
    (full (byt nm)=false∧told (byt nm)=false)∧(qName en full told >>= fun nm=>qTypes en >>= fun p=>qLineEnd en >>= fun _=>g nm p) ⟨pre++rest,q⟩=g nm (ps,rt) ⟨rest,q⟩:=by
  obtain ⟨t1,r1,rfl,e1,hp1⟩:=List.map_eq_cons_iff.1 (show pre.map KB=(1,byt nm)::_ from hpre)
  obtain ⟨p2,p3,rfl,h2,h3⟩:=List.map_eq_append_iff.1 (show r1.map KB=((5,[40])::(sepP (ps.map fun t=>[(1,typeT t)])++[(5,[41]),(1,typeT rt)]))++[(6,[])] by rw [hp1];simp)
  obtain ⟨line,col,rfl⟩:=one_piece h3
  have es:PS.mk (t1::(p2++[Tok.mk 6 [] line col])++rest) q=PS.mk (t1::(p2++(Tok.mk 6 [] line col::rest))) q:=by simp
  rw [es]
  rcases name_x (en:=en) (full:=full) (told:=told) t1 e1 (p2++(Tok.mk 6 [] line col::rest)) q with ⟨hn,f,ef,hf⟩ | ⟨hn,en1⟩
  · exact .inl ⟨fun h=>hn h.1,f,bind_err ef,hf⟩
  rw [bind_ok en1]
  rcases Rx.types (en:=en) (n:=q.length) (C:=fun _=>True) hp hr p2 (Tok.mk 6 [] line col::rest) q rfl h2 trivial with ⟨hn2,f,ef,hf⟩ | ⟨n2,e4,f4⟩
  · exact .inl ⟨fun h=>hn2 h.2,f,bind_err ef,hf⟩
  obtain rfl:=List.map_eq_nil_iff.1 e4
  rw [List.append_nil] at f4
  rw [bind_ok f4,bind_ok (p:=qLineEnd en) (a:=()) (s1:=PS.mk rest q) rfl]
  exact .inr ⟨hn,rfl⟩
theorem cal_no {m:PMod} {w:Tx} {R:List Tx} (h:(calNs m++w::R).Nodup):hasCal m w=false:=by
  have:=nd_not h
  rw [← hasCal_iff] at this
  simpa using this
theorem exts_x {en:Tok}:∀ (l:List PExt) (m0:PMod) (k:Nat) (pre rest q:List Tok),m0.fs=[]→(∀ x∈l,(∀ t∈x.ps,tyB t=true)∧tyB x.rt=true)→m0.xs.length≤8→(m0.xs.map fun v=>byt v.nm).Nodup→pre.map KB=(l.map extP).flatten →
    (¬ (m0.xs.length+l.length≤8∧(∀ v∈l,v.ps.length≤8)∧((m0.xs++l).map fun v=>byt v.nm).Nodup)∧∃ f,qLines en (k+l.length) m0 ⟨pre++rest,q⟩=.error f∧F3 f) ∨
    ((m0.xs++l).map fun v=>byt v.nm).Nodup∧qLines en (k+l.length) m0 ⟨pre++rest,q⟩=qLines en k { m0 with xs:=m0.xs++l } ⟨rest,q⟩
  | [],m0,k,pre,rest,q,_,_,_,hd,hp=>by
    obtain rfl:=List.map_eq_nil_iff.1 (show pre.map KB=[] from hp)
    exact .inr ⟨by rw [List.append_nil];exact hd,by rw [List.append_nil];rfl⟩
  | x :: l,m0,k,pre,rest,q,hfs,ht,h8,hd,hp=>by
    have hcal:calNs m0=m0.xs.map fun v=>byt v.nm:=by unfold calNs;rw [hfs];simp
    obtain ⟨p1,p2,rfl,h1,h2⟩:=List.map_eq_append_iff.1 (show pre.map KB=extP x++(l.map extP).flatten from hp)
    obtain ⟨t1,r1,rfl,e1,hp1⟩:=List.map_eq_cons_iff.1 (show p1.map KB=(1,[101,120,116,101,114,110])::headP x.nm x.ps x.rt from h1)
    obtain ⟨k1,b1,l1,c1⟩:=t1
    injection e1 with e1 f1
    simp only at e1 f1
    subst e1 f1
    have hg:=lines_ext (en:=en) (k+l.length) m0 l1 c1 (r1++(p2++rest)) q
    have es:PS.mk ((Tok.mk 1 [101,120,116,101,114,110] l1 c1::r1++p2)++rest) q=PS.mk (Tok.mk 1 [101,120,116,101,114,110] l1 c1::(r1++(p2++rest))) q:=by simp
    rw [show k+(x::l).length=k+l.length+1 from rfl,es,hg]
    rcases head_x (en:=en) (full:=fun _=>m0.xs.length==8) (told:=hasCal m0) (ht x (List.mem_cons_self ..)).1 (ht x (List.mem_cons_self ..)).2 (fun nm p=>qLines en (k+l.length) { m0 with xs:=m0.xs++[⟨nm,p.1,p.2⟩] }) r1 (p2++rest) q hp1 with ⟨hn,f,ef,hf⟩ | ⟨⟨hn1,hn2⟩,en1⟩
    · refine .inl ⟨fun h=>hn ⟨⟨?_,?_⟩,h.2.1 x (List.mem_cons_self ..)⟩,f,ef,hf⟩
      · have:=h.1
        rw [List.length_cons] at this
        simp
        omega
      · have h3:=h.2.2
        rw [List.map_append,← hcal] at h3
        exact cal_no (show (calNs m0++byt x.nm::l.map fun v=>byt v.nm).Nodup from h3)
    have h8':m0.xs.length≠8:=by simpa using hn1
    have hd2:((m0.xs++[x]).map fun v=>byt v.nm).Nodup:=by
      rw [List.map_append]
      refine nd_snoc hd fun hm=>?_
      rw [← hcal,← hasCal_iff,hn2] at hm
      cases hm
    have en2:rX en (k+l.length) m0 ⟨r1++(p2++rest),q⟩=qLines en (k+l.length) { m0 with xs:=m0.xs++[x] } ⟨p2++rest,q⟩:=en1
    rw [en2]
    rcases exts_x l { m0 with xs:=m0.xs++[x] } k p2 rest q hfs (fun u hu=>ht u (List.mem_cons_of_mem _ hu)) (by simp;omega) hd2 h2 with ⟨hn,f,ef,hf⟩ | ⟨hd3,e5⟩
    · refine .inl ⟨fun h=>hn ⟨?_,fun u hu=>h.2.1 u (List.mem_cons_of_mem _ hu),?_⟩,f,ef,hf⟩
      · have:=h.1
        simp at this ⊢
        omega
      · simpa using h.2.2
    · refine .inr ⟨by simpa using hd3,?_⟩
      rw [show m0.xs++x::l=m0.xs++[x]++l by simp]
      exact e5
/-! Functions. -/
def fnN (m:PMod) (f:PFn):List Tx:=f.bs.flatMap fun c=>c.flatMap (insN m)
def fnV (n:Nat) (m:PMod) (f:PFn):PFn:={ f with bs:=blksV n m f.bs }
theorem fns_x {en:Tok} {m:PMod}:∀ (l:List PFn) (m0:PMod) (k:Nat) (pre rest q:List Tok),(∀ f∈l,((∀ t∈f.ps,tyB t=true)∧tyB f.rt=true)∧∀ c∈f.bs,∀ x∈c,insB m x=true∧insW x)→m0.fs.length≤8→(calNs m0).Nodup→pre.map KB=(l.map (fnQ m)).flatten →
    (¬ (m0.fs.length+l.length≤8∧(∀ f∈l,f.ps.length≤8∧bodyOk [] f.bs)∧(calNs m0++l.map fun f=>byt f.nm).Nodup)∧∃ f,qLines en (k+l.length) m0 ⟨pre++rest,q⟩=.error f∧F3 f) ∨
    (calNs m0++l.map fun f=>byt f.nm).Nodup∧∃ nm:List Tok,nm.map Tok.body=l.flatMap (fnN m)∧qLines en (k+l.length) m0 ⟨pre++rest,q⟩=qLines en k { m0 with fs:=m0.fs++valsV (fun n f=>fnV n m f) (fnN m) q.length l } ⟨rest,q++nm⟩
  | [],m0,k,pre,rest,q,_,_,hd,hp=>by
    obtain rfl:=List.map_eq_nil_iff.1 (show pre.map KB=[] from hp)
    refine .inr ⟨by simpa using hd,[],rfl,?_⟩
    rw [List.append_nil]
    show _=qLines en k { m0 with fs:=m0.fs++[] } _
    rw [List.append_nil]
    rfl
  | f0 :: l,m0,k,pre,rest,q,ht,h8,hd,hp=>by
    have hf0:=ht f0 (List.mem_cons_self ..)
    obtain ⟨p1,p2,rfl,h1,h2⟩:=List.map_eq_append_iff.1 (show pre.map KB=fnQ m f0++(l.map (fnQ m)).flatten from hp)
    obtain ⟨t1,r1,rfl,e1,hp1⟩:=List.map_eq_cons_iff.1 (show p1.map KB=(1,[102,117,110,99])::(headP f0.nm f0.ps f0.rt++((f0.bs.mapIdx (blkQ m)).flatten++[(1,[101,110,100]),(6,[])])) from h1)
    obtain ⟨ph,pb,rfl,h3,h4⟩:=List.map_eq_append_iff.1 hp1
    obtain ⟨k1,b1,l1,c1⟩:=t1
    injection e1 with e1 f1
    simp only at e1 f1
    subst e1 f1
    have h4':pb.map KB=blksQ m ([]:List (List PIns)).length f0.bs++[(1,[101,110,100]),(6,[])]:=by
      rw [h4,← blksQ_of m f0.bs]
      simp
    have hg:=lines_func (en:=en) (k+l.length) m0 l1 c1 (ph++(pb++(p2++rest))) q
    have es:PS.mk ((Tok.mk 1 [102,117,110,99] l1 c1::(ph++pb)++p2)++rest) q=PS.mk (Tok.mk 1 [102,117,110,99] l1 c1::(ph++(pb++(p2++rest)))) q:=by simp
    rw [show k+(f0::l).length=k+l.length+1 from rfl,es,hg]
    rcases head_x (en:=en) (full:=fun _=>m0.fs.length==8) (told:=hasCal m0) hf0.1.1 hf0.1.2 (fun nm p=>(get >>= fun s=>qBody en (s.ts.length+1) [] >>= fun bs=>qLines en (k+l.length) { m0 with fs:=m0.fs++[⟨nm,p.1,p.2,bs⟩] }:PM PMod)) ph (pb++(p2++rest)) q h3 with ⟨hn,f,ef,hf⟩ | ⟨⟨hn1,hn2⟩,en1⟩
    · refine .inl ⟨fun h=>hn ⟨⟨?_,?_⟩,(h.2.1 f0 (List.mem_cons_self ..)).1⟩,f,ef,hf⟩
      · have:=h.1
        rw [List.length_cons] at this
        simp
        omega
      · exact cal_no (show (calNs m0++byt f0.nm::l.map fun v=>byt v.nm).Nodup from h.2.2)
    have h8':m0.fs.length≠8:=by simpa using hn1
    have en2:rF en (k+l.length) m0 ⟨ph++(pb++(p2++rest)),q⟩=(qBody en ((pb++(p2++rest)).length+1) [] >>= fun bs=>qLines en (k+l.length) { m0 with fs:=m0.fs++[⟨f0.nm,f0.ps,f0.rt,bs⟩] }) ⟨pb++(p2++rest),q⟩:=en1
    rw [en2]
    rcases body_x (en:=en) (m:=m) f0.bs [] ((pb++(p2++rest)).length+1) pb (p2++rest) q hf0.2 (by simp) (by simp) h4' (by rw [List.length_append];omega) with ⟨hn,f,ef,hf⟩ | ⟨n1,e5,f5⟩
    · exact .inl ⟨fun h=>hn (h.2.1 f0 (List.mem_cons_self ..)).2,f,bind_err ef,hf⟩
    rw [List.nil_append] at f5
    rw [bind_ok f5]
    have hl:n1.length=(fnN m f0).length:=by
      have:=congrArg List.length e5
      rw [List.length_map] at this
      exact this
    have hcal:calNs { m0 with fs:=m0.fs++[fnV q.length m f0] }=calNs m0++[byt f0.nm]:=by
      unfold calNs
      simp [fnV]
    have hd2:(calNs { m0 with fs:=m0.fs++[fnV q.length m f0] }).Nodup:=by
      rw [hcal]
      refine nd_snoc hd fun hm=>?_
      rw [← hasCal_iff,hn2] at hm
      cases hm
    show _∨_∧∃ nm:List Tok,_∧qLines en (k+l.length) { m0 with fs:=m0.fs++[fnV q.length m f0] } ⟨p2++rest,q++n1⟩=_
    rcases fns_x l { m0 with fs:=m0.fs++[fnV q.length m f0] } k p2 rest (q++n1) (fun u hu=>ht u (List.mem_cons_of_mem _ hu)) (by simp;omega) hd2 h2 with ⟨hn,f,ef,hf⟩ | ⟨hd3,n2,e6,f6⟩
    · refine .inl ⟨fun h=>hn ⟨?_,fun u hu=>h.2.1 u (List.mem_cons_of_mem _ hu),?_⟩,f,ef,hf⟩
      · have:=h.1
        simp at this ⊢
        omega
      · rw [hcal]
        simpa using h.2.2
    · rw [hcal] at hd3
      refine .inr ⟨by simpa using hd3,n1++n2,by rw [List.map_append,e5,e6];rfl,?_⟩
      rw [f6,List.length_append,hl]
      show qLines en k { m0 with fs:=(m0.fs++[fnV q.length m f0])++_ } _=qLines en k { m0 with fs:=m0.fs++(fnV q.length m f0::_) } _
      rw [List.append_assoc,List.append_assoc]
      rfl
theorem findIdx_nd {α:Type} (nf:α→Tx):∀ (l:List α) (i:Nat) (v:α),l[i]? = some v→(l.map nf).Nodup→l.findIdx? (fun u=>nf u==nf v)=some i
  | [],i,v,h,_=>by simp at h
  | u::l,0,v,h,_=>by
    obtain rfl:u=v:=by simpa using h
    rw [List.findIdx?_cons,if_pos (beq_self_eq_true _)]
  | u::l,i+1,v,h,hd=>by
    have h':l[i]? = some v:=by simpa using h
    rw [List.map_cons,List.nodup_cons] at hd
    have hm:nf v∈l.map nf:=List.mem_map.2 ⟨v,List.mem_of_getElem? h',rfl⟩
    rw [List.findIdx?_cons,if_neg (by intro e;exact hd.1 (eq_of_beq e▸hm)),findIdx_nd nf l i v h' hd.2]
    rfl
theorem findIdx_no {α:Type} (nf:α→Tx) {l:List α} {w:Tx} (h:w∉l.map nf):l.findIdx? (fun u=>nf u==w)=none:=by
  rw [List.findIdx?_eq_none_iff]
  intro u hu
  rw [beq_eq_false_iff_ne]
  exact fun e=>h (List.mem_map.2 ⟨u,hu,e⟩)
def AtN (A:List Tx) (n:Nat) (N:List Tx):Prop:=∃ P S,A=P++(N++S)∧P.length=n
theorem AtN.left {A N M:List Tx} {n:Nat} (h:AtN A n (N++M)):AtN A n N:=by
  obtain ⟨P,S,e,hl⟩:=h
  exact ⟨P,M++S,by rw [e,List.append_assoc],hl⟩
theorem AtN.right {A N M:List Tx} {n:Nat} (h:AtN A n (N++M)):AtN A (n+N.length) M:=by
  obtain ⟨P,S,e,hl⟩:=h
  exact ⟨P++N,S,by rw [e];simp,by rw [List.length_append,hl]⟩
theorem AtN.name {asked:List Tok} {n:Nat} {w:Tx} {en:Tok} (h:AtN (asked.map Tok.body) n [w]):(asked.getD ((n:Int)).toNat en).body=w:=by
  obtain ⟨P,S,e,hl⟩:=h
  have h1:(asked.map Tok.body)[n]? = some w:=by
    rw [e,List.getElem?_append_right (by omega),hl,Nat.sub_self]
    rfl
  rw [List.getElem?_map,Option.map_eq_some_iff] at h1
  obtain ⟨t,h2,h3⟩:=h1
  rw [Int.toNat_natCast,List.getD_eq_getElem?_getD,h2]
  exact h3
theorem vals_mapM {α β γ:Type} {g:β→Except Flt γ} {V:Nat→α→β} {Nf:α→List Tx} {W:α→γ} {A:List Tx}:∀ (l:List α) (n:Nat),AtN A n (l.flatMap Nf)→(∀ x∈l,∀ n,AtN A n (Nf x)→g (V n x)=.ok (W x))→(valsV V Nf n l).mapM g=.ok (l.map W)
  | [],n,_,_=>rfl
  | x::l,n,h,hg=>by
    rw [List.flatMap_cons] at h
    show ((V n x)::valsV V Nf (n+(Nf x).length) l).mapM g=_
    rw [List.mapM_cons,hg x (List.mem_cons_self ..) n h.left,vals_mapM l _ h.right fun y hy=>hg y (List.mem_cons_of_mem _ hy)]
    rfl
section
variable {en:Tok} {m M:PMod} {asked:List Tok}
theorem settleA_x (hv:M.vs=m.vs) (hd:(m.vs.map fun v=>byt v.nm).Nodup) {a:Arg} (h:argB m a=true) {n:Nat} (hA:AtN (asked.map Tok.body) n (argN m.vs a)):settleA en M asked (argV n a)=.ok a:=by
  obtain ⟨kd,an,bits⟩:=a
  unfold argB at h
  unfold argN at hA
  unfold argV settleA
  dsimp only at h hA ⊢
  by_cases k5:kd=5
  · subst k5
    rw [if_pos rfl] at hA
    rw [if_pos rfl,if_pos rfl]
    simp at h
    obtain ⟨h1,h2,rfl⟩:=h
    have hlt:an.toNat<m.vs.length:=by omega
    rw [List.getElem?_eq_getElem hlt] at hA
    dsimp only at hA
    unfold answerP findVarP
    dsimp only
    rw [hA.name,hv,findIdx_nd (fun v:PVar=>byt v.nm) m.vs an.toNat m.vs[an.toNat] (List.getElem?_eq_getElem hlt) hd]
    show Except.ok (⟨5,((an.toNat:Nat):Int),0⟩:Arg)=_
    rw [Int.toNat_of_nonneg h1]
  · rw [if_neg k5,if_neg k5]
    rfl
theorem callee_x (hx:M.xs=m.xs) (hf:M.fs.map PFn.nm=m.fs.map PFn.nm) (hd:(calNs m).Nodup) {k ty:Int} (h:calR m.xs m.fs k=some ty):findCalP M (calT m.xs m.fs k)=some k:=by
  have hd1:=List.nodup_append.1 (show ((m.xs.map fun x=>byt x.nm)++m.fs.map fun f=>byt f.nm).Nodup from hd)
  have hff:∀ w,M.fs.findIdx? (fun f=>byt f.nm==w)=m.fs.findIdx? (fun f=>byt f.nm==w):=fun w=>by
    have e1:=List.findIdx?_map (f:=PFn.nm) (l:=M.fs) (p:=fun b=>byt b==w)
    have e2:=List.findIdx?_map (f:=PFn.nm) (l:=m.fs) (p:=fun b=>byt b==w)
    rw [hf] at e1
    exact e1.symm.trans e2
  unfold calR at h
  unfold calT findCalP
  rw [hx]
  by_cases c:0≤k
  · rw [if_pos c] at h
    rw [if_pos c]
    obtain ⟨f,hf1,hf2⟩:=Option.map_eq_some_iff.1 h
    rw [hf1]
    dsimp only
    have hm:byt f.nm∈m.fs.map fun f=>byt f.nm:=List.mem_map.2 ⟨f,List.mem_of_getElem? hf1,rfl⟩
    rw [findIdx_no (fun x:PExt=>byt x.nm) (fun hm2=>hd1.2.2 _ hm2 _ hm rfl)]
    dsimp only
    rw [hff,findIdx_nd (fun f:PFn=>byt f.nm) m.fs k.toNat f hf1 hd1.2.1]
    show some ((k.toNat:Nat):Int)=_
    rw [Int.toNat_of_nonneg c]
  · rw [if_neg c] at h
    rw [if_neg c]
    obtain ⟨x,hx1,hx2⟩:=Option.map_eq_some_iff.1 h
    rw [hx1]
    dsimp only
    rw [findIdx_nd (fun x:PExt=>byt x.nm) m.xs (-1 - k).toNat x hx1 hd1.1]
    show some (-1 - (((-1 - k).toNat:Nat):Int))=_
    rw [Int.toNat_of_nonneg (by omega)]
    congr 1
    omega
theorem settleI_x (hv:M.vs=m.vs) (hx:M.xs=m.xs) (hf:M.fs.map PFn.nm=m.fs.map PFn.nm) (hr:∀ k,calR M.xs M.fs k=calR m.xs m.fs k) (hd:(m.vs.map fun v=>byt v.nm).Nodup) (hc:(calNs m).Nodup) {x:PIns} (h:insB m x=true) {n:Nat} (hA:AtN (asked.map Tok.body) n (insN m x)) :
    settleI en M asked (insV n m x)=.ok x:=by
  unfold insB at h
  simp only [Bool.and_eq_true,decide_eq_true_eq] at h
  obtain ⟨⟨⟨⟨⟨⟨⟨hop,hcnt⟩,hty⟩,hnum⟩,hfl⟩,hreg⟩,htg⟩,hargs⟩:=h
  have hargs':=List.all_eq_true.1 hargs
  unfold insN at hA
  unfold insV settleI
  by_cases c:x.op=30
  · rw [if_pos c] at hA
    rw [if_pos c]
    dsimp only
    rw [if_pos c]
    unfold hasTyB at hty
    rw [if_neg (by omega),if_pos c] at hty
    have hR:=of_decide_eq_true hty
    have hn:answerP en asked (findCalP M) ((n:Nat):Int)=.ok x.n:=by
      unfold answerP
      dsimp only
      rw [hA.left.name,callee_x hx hf hc hR]
    have hl:=vals_mapM (g:=settleA en M asked) (V:=argV) (Nf:=argN m.vs) (W:=id) x.args (n+1) hA.right (fun a ha n h=>settleA_x hv hd (hargs' a ha) h)
    rw [hn]
    show ((valsV argV (argN m.vs) (n+1) x.args).mapM (settleA en M asked) >>= fun l=>Except.ok ({ x with ty:=(calR M.xs M.fs x.n).getD 0,n:=x.n,args:=l }:PIns))=_
    rw [hl,hr,hR,List.map_id]
    rfl
  · rw [if_neg c,List.nil_append] at hA
    rw [if_neg c]
    dsimp only
    rw [if_neg c]
    have hl:=vals_mapM (g:=settleA en M asked) (V:=argV) (Nf:=argN m.vs) (W:=id) x.args n hA (fun a ha n h=>settleA_x hv hd (hargs' a ha) h)
    show ((valsV argV (argN m.vs) n x.args).mapM (settleA en M asked) >>= fun l=>Except.ok ({ x with args:=l }:PIns))=_
    rw [hl,List.map_id]
    rfl
theorem settleF_x (hv:M.vs=m.vs) (hx:M.xs=m.xs) (hf:M.fs.map PFn.nm=m.fs.map PFn.nm) (hr:∀ k,calR M.xs M.fs k=calR m.xs m.fs k) (hd:(m.vs.map fun v=>byt v.nm).Nodup) (hc:(calNs m).Nodup) {f:PFn} (h:∀ c∈f.bs,∀ x∈c,insB m x=true) {n:Nat} (hA:AtN (asked.map Tok.body) n (fnN m f)) :
    settleF en M asked (fnV n m f)=.ok f:=by
  have hl:=vals_mapM (g:=fun c:List PIns=>c.mapM (settleI en M asked)) (V:=fun n c=>codeV n m c) (Nf:=fun c=>c.flatMap (insN m)) (W:=id) f.bs n hA (fun c hcb n h1=>by
    have:=vals_mapM (g:=settleI en M asked) (V:=fun n x=>insV n m x) (Nf:=insN m) (W:=id) c n h1 (fun x hxc n h2=>settleI_x hv hx hf hr hd hc (h c hcb x hxc) h2)
    rw [List.map_id] at this
    exact this)
  unfold settleF fnV
  show ((blksV n m f.bs).mapM (fun c:List PIns=>c.mapM (settleI en M asked)) >>= fun bs=>Except.ok ({ f with bs:=bs }:PFn))=_
  rw [show (blksV n m f.bs).mapM (fun c:List PIns=>c.mapM (settleI en M asked))=.ok (f.bs.map id) from hl,List.map_id]
  rfl
end
theorem vals_map {α β γ:Type} {V:Nat→α→β} {Nf:α→List Tx} {g:β→γ} {h:α→γ} (e:∀ n x,g (V n x)=h x):∀ (l:List α) (n:Nat),(valsV V Nf n l).map g=l.map h
  | [],_=>rfl
  | x::l,n=>by
    show g (V n x)::(valsV V Nf (n+(Nf x).length) l).map g=h x::l.map h
    rw [e,vals_map e l]
def askM (m:PMod):PMod:={ m with fs:=valsV (fun n f=>fnV n m f) (fnN m) 0 m.fs }
theorem settleM_x {en:Tok} {m:PMod} {asked:List Tok} (hd:(m.vs.map fun v=>byt v.nm).Nodup) (hc:(calNs m).Nodup) (h:∀ f∈m.fs,∀ c∈f.bs,∀ x∈c,insB m x=true) (ha:asked.map Tok.body=m.fs.flatMap (fnN m)):settleM en (askM m) asked=.ok m:=by
  have hf:(askM m).fs.map PFn.nm=m.fs.map PFn.nm:=vals_map (V:=fun n f=>fnV n m f) (Nf:=fnN m) (g:=PFn.nm) (h:=PFn.nm) (fun n x=>rfl) m.fs 0
  have hrt:(askM m).fs.map PFn.rt=m.fs.map PFn.rt:=vals_map (V:=fun n f=>fnV n m f) (Nf:=fnN m) (g:=PFn.rt) (h:=PFn.rt) (fun n x=>rfl) m.fs 0
  have hr:∀ k,calR (askM m).xs (askM m).fs k=calR m.xs m.fs k:=fun k=>by
    unfold calR
    by_cases c:0≤k
    · rw [if_pos c,if_pos c]
      have:=congrArg (fun l:List Int=>l[k.toNat]?) hrt
      rw [List.getElem?_map,List.getElem?_map] at this
      exact this
    · rw [if_neg c,if_neg c]
      rfl
  have hl:=vals_mapM (g:=settleF en (askM m) asked) (V:=fun n f=>fnV n m f) (Nf:=fnN m) (W:=id) m.fs 0 ⟨[],[],by rw [ha];simp,rfl⟩ (fun f hfm n h1=>settleF_x (M:=askM m) (m:=m) rfl rfl hf hr hd hc (h f hfm) h1)
  unfold settleM
  show ((valsV (fun n f=>fnV n m f) (fnN m) 0 m.fs).mapM (settleF en (askM m) asked) >>= fun fs=>Except.ok ({ askM m with fs:=fs }:PMod))=_
  rw [hl,List.map_id]
  rfl
def modOk (m:PMod):Prop :=
  (m.vs.length≤8∧(∀ v∈m.vs,1≤v.size∧v.size≤64)∧(m.vs.map fun v=>byt v.nm).Nodup)∧(m.xs.length≤8∧∀ v∈m.xs,v.ps.length≤8)∧(m.fs.length≤8∧∀ f∈m.fs,f.ps.length≤8∧bodyOk [] f.bs)∧(calNs m).Nodup
theorem flat_ge {α β:Type} {f:α→List β} (h:∀ x,1≤(f x).length):∀ l:List α,l.length≤((l.map f).flatten).length
  | []=>Nat.le_refl _
  | x::l=>by
    have:=h x
    have:=flat_ge h l
    rw [List.map_cons,List.flatten_cons,List.length_append,List.length_cons]
    omega
theorem lines_out {en:Tok} (k:Nat) (m:PMod) (A:List Tok):qLines en k m ⟨[],A⟩=.ok (m,⟨[],A⟩):=by
  cases k with
  | zero=>rfl
  | succ k=>rfl
theorem parse_x {en:Tok} {m:PMod} (hv:∀ v∈m.vs,0≤v.size∧v.size<18446744073709551616) (hx:∀ x∈m.xs,(∀ t∈x.ps,tyB t=true)∧tyB x.rt=true)
    (hf:∀ f∈m.fs,((∀ t∈f.ps,tyB t=true)∧tyB f.rt=true)∧∀ c∈f.bs,∀ x∈c,insB m x=true∧insW x) {ts:List Tok} (h:ts.map KB=modQ m) :
    (¬ modOk m∧∃ f,parseP en ts=.error f∧F3 f)∨parseP en ts=.ok m:=by
  obtain ⟨p12,p3,rfl,h12,h3⟩:=List.map_eq_append_iff.1 (show ts.map KB=((m.vs.map varP).flatten++(m.xs.map extP).flatten)++(m.fs.map (fnQ m)).flatten from h)
  obtain ⟨p1,p2,rfl,h1,h2⟩:=List.map_eq_append_iff.1 h12
  have l1:m.vs.length≤p1.length:=by rw [← List.length_map (f:=KB),h1];exact flat_ge (fun x=>by simp [varP]) m.vs
  have l2:m.xs.length≤p2.length:=by rw [← List.length_map (f:=KB),h2];exact flat_ge (fun x=>by simp [extP]) m.xs
  have l3:m.fs.length≤p3.length:=by rw [← List.length_map (f:=KB),h3];exact flat_ge (fun x=>by simp [fnQ]) m.fs
  obtain ⟨k,hk⟩:∃ k,(p1++p2++p3).length+1=((k+m.fs.length)+m.xs.length)+m.vs.length:=⟨(p1++p2++p3).length+1 - m.vs.length - m.xs.length - m.fs.length,by simp only [List.length_append];omega⟩
  have e:parseP en (p1++p2++p3)=((qLines en ((p1++p2++p3).length+1) ⟨[],[],[]⟩ ⟨p1++p2++p3,[]⟩) >>= fun x=>settleM en x.1 x.2.asked):=rfl
  rw [e,hk,List.append_assoc]
  rcases vars_x (en:=en) m.vs ⟨[],[],[]⟩ ((k+m.fs.length)+m.xs.length) p1 (p2++p3) [] hv (by simp) (by simp) h1 with ⟨hn,f,ef,hf3⟩ | ⟨hd,e1⟩
  · rw [ef]
    exact .inl ⟨fun h=>hn ⟨by simpa using h.1.1,h.1.2.1,by simpa using h.1.2.2⟩,f,rfl,hf3⟩
  rw [e1]
  have c1:=fun (hm:modOk m)=>(List.nodup_append.1 (show ((m.xs.map fun x=>byt x.nm)++m.fs.map fun f=>byt f.nm).Nodup from hm.2.2.2)).1
  rcases exts_x (en:=en) m.xs ⟨[]++m.vs,[],[]⟩ (k+m.fs.length) p2 p3 [] rfl hx (by simp) (by simp) h2 with ⟨hn,f,ef,hf3⟩ | ⟨hd2,e2⟩
  · rw [ef]
    exact .inl ⟨fun h=>hn ⟨by simpa using h.2.1.1,h.2.1.2,by simpa using c1 h⟩,f,rfl,hf3⟩
  rw [e2]
  have ec:calNs ⟨[]++m.vs,[]++m.xs,[]⟩=m.xs.map fun x=>byt x.nm:=by simp [calNs]
  rcases fns_x (en:=en) (m:=m) m.fs ⟨[]++m.vs,[]++m.xs,[]⟩ k p3 [] [] hf (by simp) (by rw [ec];simpa using hd2) h3 with ⟨hn,f,ef,hf3⟩ | ⟨hd3,nm,e3,f3⟩
  · rw [List.append_nil] at ef
    rw [ef]
    refine .inl ⟨fun h=>hn ⟨by simpa using h.2.2.1.1,h.2.2.1.2,?_⟩,f,rfl,hf3⟩
    rw [ec]
    exact h.2.2.2
  rw [List.append_nil] at f3
  rw [ec] at hd3
  rw [f3,lines_out]
  refine .inr ?_
  show settleM en ⟨[]++m.vs,[]++m.xs,[]++valsV (fun n f=>fnV n m f) (fnN m) 0 m.fs⟩ ([]++nm)=_
  exact settleM_x (m:=m) (by simpa using hd) hd3 (fun f hfm c hc x hx=>((hf f hfm).2 c hc x hx).1) e3
def arJ (v:Arg):Prop:=(v.kind=1∧0≤v.n∧v.n≤4095∧v.bits=0)∨(v.kind=2∧v.n=0)∨((v.kind=3∨v.kind=4)∧v.n=0∧v.bits=0)∨(v.kind=5∧0≤v.n∧v.bits=0)
theorem operand_say {en:Tok} (he:Gd en):Ens (qOperand en) arJ:=by
  unfold qOperand
  refine Ens.bind (next_ens he) fun t ht=>?_
  refine Ens.ite (fun h=>Ens.bind pass_ens fun _ _=>Ens.pure ?_) fun _=>Ens.ite (fun h=>Ens.bind pass_ens fun _ _=>Ens.pure ?_) fun _=>Ens.ite (fun h=>Ens.bind (ask_ens t) fun n hn=>Ens.bind pass_ens fun _ _=>Ens.pure ?_) fun _=>Ens.ite (fun h=>Ens.bind pass_ens fun _ _=>Ens.pure ?_) fun _=>Ens.ite (fun h=>Ens.bind pass_ens fun _ _=>Ens.pure ?_) fun _=>Ens.bad
  · have:=ht.reg (by simpa using h)
    exact .inl ⟨rfl,by show (0:Int)≤numOf t;omega,by show (numOf t:Int)≤4095;omega,rfl⟩
  · exact .inr (.inl ⟨rfl,rfl⟩)
  · exact .inr (.inr (.inr ⟨rfl,hn,rfl⟩))
  · exact .inr (.inr (.inl ⟨.inl rfl,rfl,rfl⟩))
  · exact .inr (.inr (.inl ⟨.inr rfl,rfl,rfl⟩))
theorem operands_say {en:Tok} (he:Gd en):∀ n,Ens (qOperands en n) (fun l=>l.length=n∧∀ a∈l,arJ a)
  | 0=>Ens.pure ⟨rfl,fun a h=>by simp at h⟩
  | 1=>by
    unfold qOperands
    exact Ens.bind (operand_say he) fun a ha=>Ens.pure ⟨rfl,fun x hx=>by rw [List.mem_singleton.1 hx];exact ha⟩
  | k + 2=>by
    unfold qOperands
    exact Ens.bind (operand_say he) fun a ha=>Ens.bind (this_ens he _ _) fun _ _=>Ens.bind (operands_say he (k+1)) fun l hl=>Ens.pure ⟨by simp [hl.1],fun x hx=>by
      rcases List.mem_cons.1 hx with e | hx
      · rw [e];exact ha
      · exact hl.2 x hx⟩
structure SayI (x:PIns):Prop where
  cnt:cntB x=true
  ty:x.op≠30→(x.op=26∨x.op=29→x.ty=65)∧(x.op=31∨x.op=32∨x.op=34→x.ty=0)∧tyI x.ty∧(x.op=33→x.args.length=1∨x.ty=0)
  num:x.op≠30→numB x=true
  fl:flB x=true
  args:∀ a∈x.args,arJ a
  big:x.op≠30→x.n≤65
theorem tyB_of {t:Int} (h:tyI t):tyB t=true:=decide_eq_true h
theorem typed_say {en:Tok} (he:Gd en) {x:PIns} (n:Nat) (ho:1≤x.op∧x.op≤34) (hn:(x.op=23∧n=3)∨((x.op=24∨x.op=27∨x.op=33)∧n=1)∨((x.op≤19∨x.op=28)∧n=2)) (hz:x.n=0) (hf:flB x=true) (ht:x.tg=[]):Ens (qTyped en x n) SayI:=by
  unfold qTyped
  refine Ens.bind (type_ens he) fun t h1=>Ens.bind (operands_say he n) fun l hl=>Ens.pure ?_
  obtain ⟨hl,ha⟩:=hl
  obtain ⟨op,rg,ty,nn,fl,ar,tg⟩:=x
  simp only at hn hz ht ho
  subst hz ht
  refine ⟨?_,fun _=>⟨fun k=>?_,fun k=>?_,h1,fun k=>?_⟩,fun _=>?_,hf,ha,fun _=>by dsimp only;omega⟩
  · unfold cntB
    simp only
    repeat' split
    all_goals first
      | (exfalso;omega)
      | (refine decide_eq_true ?_;refine ⟨rfl,?_⟩;show l.length≤1;omega)
      | (refine decide_eq_true ?_;refine ⟨rfl,?_⟩;show l.length=_;omega)
  · exfalso;simp only at k;omega
  · exfalso;simp only at k;omega
  · simp only at k;left;simp only;omega
  · unfold numB
    simp only
    repeat' split
    all_goals first
      | (exfalso;omega)
      | exact decide_eq_true rfl
      | rfl
theorem form_say {en:Tok} (he:Gd en) (op r:Int) (ho:1≤op∧op≤34):Ens (qForm en ⟨op,r,0,0,0,[],[]⟩) SayI:=by
  have hf0:flB ⟨op,r,0,0,0,[],[]⟩=true:=by
    simp [flB]
  have fl0:∀ y:PIns,y.op=op→y.fl=0→flB y=true:=fun y e1 e2=>by
    unfold flB at hf0 ⊢
    rw [e1,e2];exact hf0
  unfold qForm
  simp only
  refine Ens.ite (fun c=>Ens.bind (type_ens he) fun n hn=>Ens.bind (operand_say he) fun a ha=>Ens.bind (this_ens he _ _) fun _ _=>Ens.bind (type_ens he) fun t ht=>Ens.pure ?_) fun _=>?_
  · refine ⟨?_,fun _=>⟨fun k=>?_,fun k=>?_,ht,fun k=>?_⟩,fun _=>?_,fl0 _ rfl rfl,fun y hy=>by rw [List.mem_singleton.1 hy];exact ha,fun _=>hn.2⟩
    · unfold cntB
      simp only
      repeat' split
      all_goals first
        | (exfalso;omega)
        | (refine decide_eq_true ?_;simp)
    · exfalso;simp only at k;omega
    · exfalso;simp only at k;omega
    · exfalso;simp only at k;omega
    · unfold numB
      simp only
      rw [if_pos c]
      exact tyB_of hn
  refine Ens.ite (fun c=>typed_say he 3 ho (.inl ⟨c,rfl⟩) rfl hf0 rfl) fun _=>?_
  refine Ens.ite (fun c=>typed_say he 1 ho (.inr (.inl ⟨by simp only;omega,rfl⟩)) rfl hf0 rfl) fun _=>?_
  refine Ens.ite (fun c=>Ens.bind (type_ens he) fun t ht=>Ens.bind (next_ens he) fun p _=>Ens.ite (fun _=>Ens.pure ?_) fun _=>Ens.bind (commas_ens (Q:=fun q:Int×Arg=>arJ q.2) he fun _=>Ens.bind (block_ens he) fun b hb=>Ens.bind (operand_say he) fun a ha=>Ens.pure ha) fun l hl=>Ens.pure ?_) fun _=>?_
  · subst c
    exact ⟨by simp [cntB],fun _=>⟨fun k=>by simp at k,fun k=>by simp at k,ht,fun k=>by simp at k⟩,fun _=>by simp [numB],by simp [flB],fun y hy=>by simp at hy,fun _=>by dsimp only;omega⟩
  · subst c
    refine ⟨by simp [cntB],fun _=>⟨fun k=>by simp at k,fun k=>by simp at k,ht,fun k=>by simp at k⟩,fun _=>by simp [numB],by simp [flB],fun y hy=>?_,fun _=>by dsimp only;omega⟩
    obtain ⟨q,hq,rfl⟩:=List.mem_map.1 hy
    exact hl q hq
  refine Ens.ite (fun c=>Ens.bind (size_ens he) fun n hn=>Ens.pure ?_) fun _=>?_
  · subst c
    exact ⟨by simp [cntB],fun _=>⟨fun k=>rfl,fun k=>by simp at k,ty65,fun k=>by simp at k⟩,fun _=>by simp [numB];omega,by simp [flB],fun y hy=>by simp at hy,fun _=>by dsimp only;omega⟩
  refine Ens.ite (fun c=>Ens.bind (operands_say he 2) fun l hl=>Ens.pure ?_) fun _=>?_
  · subst c
    exact ⟨by simp [cntB,hl.1],fun _=>⟨fun k=>rfl,fun k=>by simp at k,ty65,fun k=>by simp at k⟩,fun _=>by simp [numB],by simp [flB],hl.2,fun _=>by dsimp only;omega⟩
  refine Ens.ite (fun c=>Ens.bind (want_ens he 1) fun t _=>Ens.bind (ask_ens t) fun n _=>Ens.bind (brackets_ens he fun _=>operand_say he) fun l hl=>Ens.pure ?_) fun _=>?_
  · subst c
    exact ⟨by simp [cntB],fun k=>absurd rfl k,fun k=>absurd rfl k,by simp [flB],hl,fun k=>absurd rfl k⟩
  refine Ens.ite (fun c=>Ens.bind (operand_say he) fun a ha=>Ens.bind (this_ens he _ _) fun _ _=>Ens.bind (block_ens he) fun b hb=>Ens.bind (this_ens he _ _) fun _ _=>Ens.bind (block_ens he) fun d hd=>Ens.pure ?_) fun _=>?_
  · subst c
    exact ⟨by simp [cntB],fun _=>⟨fun k=>by simp at k,fun k=>rfl,⟨by simp,by simp⟩,fun k=>by simp at k⟩,fun _=>by simp [numB],by simp [flB],fun y hy=>by rw [List.mem_singleton.1 hy];exact ha,fun _=>by dsimp only;omega⟩
  refine Ens.ite (fun c=>Ens.bind (block_ens he) fun b hb=>Ens.pure ?_) fun _=>?_
  · subst c
    exact ⟨by simp [cntB],fun _=>⟨fun k=>by simp at k,fun k=>rfl,⟨by simp,by simp⟩,fun k=>by simp at k⟩,fun _=>by simp [numB],by simp [flB],fun y hy=>by simp at hy,fun _=>by dsimp only;omega⟩
  refine Ens.ite (fun c=>Ens.bind (next_ens he) fun p _=>Ens.ite (fun _=>Ens.pure ?_) fun _=>typed_say he 1 ho (.inr (.inl ⟨by simp only;omega,rfl⟩)) rfl hf0 rfl) fun _=>?_
  · subst c
    exact ⟨by simp [cntB],fun _=>⟨fun k=>by simp at k,fun k=>rfl,⟨by simp,by simp⟩,fun k=>.inr rfl⟩,fun _=>by simp [numB],by simp [flB],fun y hy=>by simp at hy,fun _=>by dsimp only;omega⟩
  refine Ens.ite (fun c=>Ens.pure ?_) fun _=>?_
  · subst c
    exact ⟨by simp [cntB],fun _=>⟨fun k=>by simp at k,fun k=>rfl,⟨by simp,by simp⟩,fun k=>by simp at k⟩,fun _=>by simp [numB],by simp [flB],fun y hy=>by simp at hy,fun _=>by dsimp only;omega⟩
  by_cases c:op≤13
  · simp only [if_pos c]
    refine Ens.bind (flags_ens he) fun fl hfl=>typed_say he 2 ho (.inr (.inr ⟨by simp only;omega,rfl⟩)) rfl ?_ rfl
    unfold flB
    simp only
    rw [if_neg (by omega)]
    exact decide_eq_true hfl
  · simp only [if_neg c]
    refine Ens.bind (Ens.pure (Q:=fun z:Int=>z=0) rfl) fun fl h0=>typed_say he 2 ho (.inr (.inr ⟨by simp only;omega,rfl⟩)) rfl ?_ rfl
    subst h0
    exact hf0
theorem Ens.and {α:Type} {p:PM α} {Q R:α→Prop} (h:Ens p Q) (k:Ens p R):Ens p (fun a=>Q a∧R a):=fun s a s' hs e=>⟨⟨(h s a s' hs e).1,(k s a s' hs e).1⟩,(h s a s' hs e).2⟩
theorem typed_keep {en:Tok} (he:Gd en) (x:PIns) (n:Nat):Ens (qTyped en x n) (fun y=>y.op=x.op∧y.reg=x.reg):=by
  unfold qTyped
  exact Ens.bind (type_ens he) fun t h1=>Ens.bind (operands_ens he n) fun l hl=>Ens.pure ⟨rfl,rfl⟩
theorem form_keep {en:Tok} (he:Gd en) (x:PIns):Ens (qForm en x) (fun y=>y.op=x.op∧y.reg=x.reg):=by
  unfold qForm
  refine Ens.ite (fun _=>Ens.bind (type_ens he) fun n hn=>Ens.bind (operand_ens he) fun a ha=>Ens.bind (this_ens he _ _) fun _ _=>Ens.bind (type_ens he) fun t ht=>Ens.pure ⟨rfl,rfl⟩) fun _=>?_
  refine Ens.ite (fun _=>typed_keep he x 3) fun _=>?_
  refine Ens.ite (fun _=>typed_keep he x 1) fun _=>?_
  refine Ens.ite (fun _=>Ens.bind (type_ens he) fun t ht=>Ens.bind (next_ens he) fun p _=>Ens.ite (fun _=>Ens.pure ⟨rfl,rfl⟩) fun _=>Ens.bind (commas_ens (Q:=fun _:Int×Arg=>True) he fun _=>Ens.bind (block_ens he) fun b hb=>Ens.bind (operand_ens he) fun a ha=>Ens.pure trivial) fun l hl=>Ens.pure ⟨rfl,rfl⟩) fun _=>?_
  refine Ens.ite (fun _=>Ens.bind (size_ens he) fun n hn=>Ens.pure ⟨rfl,rfl⟩) fun _=>?_
  refine Ens.ite (fun _=>Ens.bind (operands_ens he 2) fun l hl=>Ens.pure ⟨rfl,rfl⟩) fun _=>?_
  refine Ens.ite (fun _=>Ens.bind (want_ens he 1) fun t _=>Ens.bind (ask_ens t) fun n _=>Ens.bind (brackets_ens he fun _=>operand_ens he) fun l hl=>Ens.pure ⟨rfl,rfl⟩) fun _=>?_
  refine Ens.ite (fun _=>Ens.bind (operand_ens he) fun a ha=>Ens.bind (this_ens he _ _) fun _ _=>Ens.bind (block_ens he) fun b hb=>Ens.bind (this_ens he _ _) fun _ _=>Ens.bind (block_ens he) fun c hc=>Ens.pure ⟨rfl,rfl⟩) fun _=>?_
  refine Ens.ite (fun _=>Ens.bind (block_ens he) fun b hb=>Ens.pure ⟨rfl,rfl⟩) fun _=>?_
  refine Ens.ite (fun _=>Ens.bind (next_ens he) fun p _=>Ens.ite (fun _=>Ens.pure ⟨rfl,rfl⟩) fun _=>typed_keep he x 1) fun _=>?_
  refine Ens.ite (fun _=>Ens.pure ⟨rfl,rfl⟩) fun _=>?_
  by_cases c:x.op≤13
  · simp only [if_pos c]
    exact Ens.bind (flags_ens he) fun fl _=>typed_keep he { x with fl:=fl } 2
  · simp only [if_neg c]
    exact Ens.bind (Ens.pure (Q:=fun z:Int=>z=0) rfl) fun fl h0=>typed_keep he { x with fl:=fl } 2
structure InK (x:PIns):Prop where
  in_:InI x
  say:SayI x
  reg:hasRegB x=true
theorem instr_say {en:Tok} (he:Gd en):Ens (qInstr en) InK:=by
  unfold qInstr
  refine Ens.bind (next_ens he) fun p hp=>?_
  have hr:Ens (if p.kind==3 then (do qPass;qMark en 61;return (numOf p:Int)) else pure (-1)) (fun r:Int=>-1≤r∧r≤4095) :=
    Ens.ite (fun h=>Ens.bind pass_ens fun _ _=>Ens.bind (this_ens he _ _) fun _ _=>Ens.pure (by
      have:=hp.reg (by simpa using h)
      exact ⟨by omega,by omega⟩)) fun _=>Ens.pure ⟨by decide,by decide⟩
  have main:∀ r:Int,-1≤r∧r≤4095→Ens (do
      let w ← qNext en
      let op:=opOfP w
      if ¬ (op=30∨op≠0∧idleB op=decide (0≤r)) then qBad 3 w
      qPass
      let x ← qForm en ⟨op,r,0,0,0,[],[]⟩
      qLineEnd en
      return x) InK:=by
    intro r hr
    refine Ens.bind (next_ens he) fun w hw=>?_
    have hop:=opOf_in (w:=w)
    refine Ens.ite (fun _=>Ens.bind (Q:=fun _=>False) Ens.bad fun _ h=>h.elim) fun hc=>?_
    have hc2:=Decidable.not_not.1 hc
    have h1:1≤opOfP w∧opOfP w≤34:=by
      rcases hop with e | e
      · exact absurd hc (fun k=>k (by rw [e];simp))
      · exact e
    have hoi:(1:Int)≤(opOfP w:Int)∧((opOfP w:Nat):Int)≤34:=by omega
    refine Ens.bind pass_ens fun _ _=>Ens.bind (((form_ens he (x:=⟨opOfP w,r,0,0,0,[],[]⟩) ⟨hoi,hr,⟨by simp,by simp⟩,fun _=>rfl,fun a h=>by simp at h,fun a h=>by simp at h⟩).and (form_say he _ r hoi)).and (form_keep he ⟨opOfP w,r,0,0,0,[],[]⟩)) fun x hx=>Ens.bind (lineEnd_ens he) fun _ _=>Ens.pure ⟨hx.1.1,hx.1.2,?_⟩
    obtain ⟨e1,e2⟩:=hx.2
    simp only at e1 e2
    unfold hasRegB
    rw [e1,e2]
    by_cases c:r=-1
    · rw [if_pos c]
      rcases hc2 with k | ⟨_,k⟩
      · rw [k];decide
      · rw [k,c];decide
    · rw [if_neg c]
      have hrb:regB r=true:=decide_eq_true ⟨by omega,hr.2⟩
      rw [hrb,Bool.true_and]
      rcases hc2 with k | ⟨_,k⟩
      · rw [k];decide
      · rw [k,decide_eq_true (show 0≤r by omega),Bool.or_true]
  by_cases c:(p.kind==3)=true
  · simp only [if_pos c] at hr ⊢
    exact Ens.bind hr main
  · simp only [if_neg c] at hr ⊢
    exact Ens.bind hr main
section
variable {α:Type} {P:List α→Prop} {en:Tok} {item:List α→PM α}
theorem more_ensL (he:Gd en) (hi:∀ acc,P acc→Ens (item acc) (fun a=>P (acc++[a]))):∀ (k:Nat) (acc:List α),P acc→Ens (qMore en item k acc) P
  | 0,acc,h=>Ens.pure h
  | k+1,acc,h=>by
    unfold qMore
    exact Ens.bind (passed_ens he _ _) fun b _=>Ens.ite (fun _=>Ens.bind (hi acc h) fun a ha=>more_ensL he hi k _ ha) (fun _=>Ens.pure h)
theorem brackets_ensL (he:Gd en) (h0:P []) (hi:∀ acc,P acc→Ens (item acc) (fun a=>P (acc++[a]))):Ens (qBrackets en item) P:=by
  unfold qBrackets
  refine Ens.bind (this_ens he _ _) fun _ _=>Ens.bind (passed_ens he _ _) fun b _=>Ens.ite (fun _=>Ens.pure h0) (fun _=>Ens.bind (Q:=P) ?_ fun l hl=>Ens.bind (this_ens he _ _) fun _ _=>Ens.pure hl)
  unfold qCommas
  exact Ens.bind (hi [] h0) fun a ha=>Ens.bind Ens.get fun s _=>more_ensL he hi _ _ ha
end
def psI (l:List Int):Prop:=l.length≤8∧∀ t∈l,tyI t
theorem types_ens {en:Tok} (he:Gd en):Ens (qTypes en) (fun p=>psI p.1∧tyI p.2):=by
  unfold qTypes
  refine Ens.bind (brackets_ensL (P:=psI) he ⟨by simp,fun t h=>by simp at h⟩ fun acc ha=>?_) fun l hl=>Ens.bind (type_ens he) fun r hr=>Ens.pure ⟨hl,hr⟩
  refine Ens.bind (next_ens he) fun p _=>Ens.bind (type_ens he) fun t ht=>Ens.ite (fun _=>Ens.bind (Q:=fun _=>False) Ens.bad fun _ h=>h.elim) (fun hc=>Ens.pure ⟨by simp;omega,fun x hx=>?_⟩)
  rcases List.mem_append.1 hx with hx | hx
  · exact ha.2 x hx
  · rw [List.mem_singleton.1 hx];exact ht
structure BI (bs:List (List PIns)):Prop where
  len:bs.length≤64
  size:bs.flatten.length≤400
  ins:∀ c∈bs,∀ x∈c,InK x
theorem label_ens {en front:Tok} (he:Gd en) {bs:List (List PIns)} (hb:BI bs) (n:Nat):Ens (qLabel en front bs n) (fun _=>bs.length<64):=by
  have:=hb.len
  unfold qLabel
  refine Ens.ite (fun _=>Ens.bind (Q:=fun _=>False) Ens.bad fun _ h=>h.elim) fun hc=>Ens.ite (fun _=>Ens.bind (Q:=fun _=>False) Ens.bad fun _ h=>h.elim) fun _=>?_
  exact Ens.bind pass_ens fun _ _=>Ens.bind (this_ens he _ _) fun _ _=>(lineEnd_ens he).mono fun _ _=>by omega
theorem addLast_of {l:List (List PIns)} {c:List PIns} {x:PIns}:addLast (l++[c]) x=l++[c++[x]]:=by
  unfold addLast
  simp
theorem addLast_BI {bs:List (List PIns)} {x:PIns} (hb:BI bs) (h0:bs.length≠0) (hs:bs.flatten.length≠400) (hx:InK x):BI (addLast bs x):=by
  obtain ⟨l,c,rfl⟩:∃ l c,bs=l++[c]:=⟨bs.dropLast,bs.getLast (fun e=>h0 (by rw [e];rfl)),(List.dropLast_concat_getLast _).symm⟩
  rw [addLast_of]
  have h1:=hb.len
  have h2:=hb.size
  simp only [List.flatten_append,List.flatten_cons,List.flatten_nil,List.append_nil,List.length_append,List.length_cons,List.length_nil] at h1 h2 hs
  refine ⟨by simp;omega,by simp only [List.flatten_append,List.flatten_cons,List.flatten_nil,List.append_nil,List.length_append,List.length_cons,List.length_nil];omega,fun d hd y hy=>?_⟩
  rcases List.mem_append.1 hd with hd | hd
  · exact hb.ins d (List.mem_append_left _ hd) y hy
  · rw [List.mem_singleton.1 hd] at hy
    rcases List.mem_append.1 hy with hy | hy
    · exact hb.ins c (by simp) y hy
    · rw [List.mem_singleton.1 hy];exact hx
theorem body_ens {en:Tok} (he:Gd en):∀ (k:Nat) (bs:List (List PIns)),BI bs→Ens (qBody en k bs) BI
  | 0,bs,hb=>Ens.bad
  | k + 1,bs,hb=>by
    unfold qBody
    refine Ens.bind Ens.get fun s hs=>?_
    split
    · exact Ens.bad
    rename_i front rest hts
    refine Ens.ite (fun _=>Ens.bind pass_ens fun _ _=>body_ens he k bs hb) fun _=>?_
    split
    · rename_i n hn
      refine Ens.bind (label_ens he hb n) fun _ hl=>body_ens he k _ ⟨by simp;omega,by simpa using hb.size,fun c hc x hx=>?_⟩
      rcases List.mem_append.1 hc with hc | hc
      · exact hb.ins c hc x hx
      · rw [List.mem_singleton.1 hc] at hx;simp at hx
    · refine Ens.ite (fun _=>Ens.bad) fun h0=>Ens.ite (fun _=>Ens.bind pass_ens fun _ _=>Ens.bind (lineEnd_ens he) fun _ _=>Ens.pure hb) fun _=>Ens.ite (fun _=>Ens.bad) fun h4=>?_
      exact Ens.bind (instr_say he) fun x hx=>body_ens he k _ (addLast_BI hb h0 h4 hx)
def wdI (nm:ByteArray):Prop:=0<(byt nm).length∧wordSize (byt nm)=(byt nm).length∧(byt nm).length≤65536
theorem name_ens {en:Tok} (he:Gd en) (full told:Tx→Bool):Ens (qName en full told) (fun nm=>wdI nm∧full (byt nm)=false∧told (byt nm)=false):=by
  unfold qName
  refine Ens.bind (want_ens he 1) fun t ht=>Ens.ite (fun _=>Ens.bind (Q:=fun _=>False) Ens.bad fun _ h=>h.elim) fun h1=>Ens.ite (fun _=>Ens.bind (Q:=fun _=>False) Ens.bad fun _ h=>h.elim) fun h2=>Ens.pure ?_
  exact ⟨⟨(ht.1.word ht.2).1,(ht.1.word ht.2).2,ht.1.len⟩,by simpa [byt] using h1,by simpa [byt] using h2⟩
structure FI (f:PFn):Prop where
  nm:wdI f.nm
  ps:psI f.ps
  rt:tyI f.rt
  bs:BI f.bs
structure MI (m:PMod):Prop where
  vl:m.vs.length≤8
  xl:m.xs.length≤8
  fl:m.fs.length≤8
  vs:∀ v∈m.vs,wdI v.nm∧1≤v.size∧v.size≤64
  xs:∀ x∈m.xs,wdI x.nm∧psI x.ps∧tyI x.rt
  fs:∀ f∈m.fs,FI f
  one:(m.fs.map fun f=>byt f.nm).Nodup
theorem mem_snoc {α:Type} {P:α→Prop} {l:List α} {a:α} (h:∀ x∈l,P x) (k:P a):∀ x∈l++[a],P x:=fun x hx=>by
  rcases List.mem_append.1 hx with hx | hx
  · exact h x hx
  · rw [List.mem_singleton.1 hx];exact k
theorem lines_ens {en:Tok} (he:Gd en):∀ (k:Nat) (m:PMod),MI m→Ens (qLines en k m) MI
  | 0,m,h=>Ens.pure h
  | k + 1,m,h=>by
    have h1:=h.vl
    have h2:=h.xl
    have h3:=h.fl
    unfold qLines
    refine Ens.bind Ens.get fun s hs=>?_
    split
    · exact Ens.pure h
    rename_i front rest hts
    refine Ens.ite (fun _=>Ens.bind pass_ens fun _ _=>lines_ens he k m h) fun _=>?_
    refine Ens.ite (fun _=>Ens.bind pass_ens fun _ _=>Ens.bind (name_ens he _ _) fun nm hn=>Ens.bind (size_ens he) fun n hz=>Ens.bind (lineEnd_ens he) fun _ _=>lines_ens he k _ ?_) fun _=>?_
    · have hl:=hn.2.1
      simp only [beq_eq_false_iff_ne,ne_eq] at hl
      exact ⟨by simp;omega,h2,h3,mem_snoc h.vs ⟨hn.1,hz⟩,h.xs,h.fs,h.one⟩
    refine Ens.ite (fun _=>Ens.bind pass_ens fun _ _=>Ens.bind (name_ens he _ _) fun nm hn=>Ens.bind (types_ens he) fun p hp=>Ens.bind (lineEnd_ens he) fun _ _=>lines_ens he k _ ?_) fun _=>?_
    · have hl:=hn.2.1
      simp only [beq_eq_false_iff_ne,ne_eq] at hl
      exact ⟨h1,by simp;omega,h3,h.vs,mem_snoc h.xs ⟨hn.1,hp.1,hp.2⟩,h.fs,h.one⟩
    refine Ens.ite (fun _=>Ens.bind pass_ens fun _ _=>Ens.bind (name_ens he _ _) fun nm hn=>Ens.bind (types_ens he) fun p hp=>Ens.bind (lineEnd_ens he) fun _ _=>Ens.bind Ens.get fun s2 _=>Ens.bind (body_ens he _ [] ⟨by simp,by simp,fun c hc=>by simp at hc⟩) fun bs hb=>lines_ens he k _ ?_) fun _=>Ens.bad
    have hl:=hn.2.1
    simp only [beq_eq_false_iff_ne,ne_eq] at hl
    refine ⟨h1,h2,by simp;omega,h.vs,h.xs,mem_snoc h.fs ⟨hn.1,hp.1,hp.2,hb⟩,?_⟩
    have ht:=hn.2.2
    unfold hasCal at ht
    rw [Bool.or_eq_false_iff] at ht
    have ht2:=ht.2
    rw [List.any_eq_false] at ht2
    show ((m.fs++[(⟨nm,p.1,p.2,bs⟩:PFn)]).map fun f=>byt f.nm).Nodup
    rw [List.map_append,List.nodup_append]
    refine ⟨h.one,by simp,fun a ha b hb' => ?_⟩
    obtain ⟨f,hf,rfl⟩:=List.mem_map.1 ha
    obtain rfl:=List.mem_singleton.1 hb'
    have:=ht2 f hf
    intro e
    exact this (by simpa using e)
inductive Each {α β:Type} (f:α→Except Flt β):List α→List β→Prop
  | nil:Each f [] []
  | cons {a b l r}:f a=.ok b→Each f l r→Each f (a::l) (b::r)
theorem each_of {α β:Type} {f:α→Except Flt β}:∀ {l:List α} {r:List β},l.mapM f=.ok r→Each f l r
  | [],r,h=>by
    rw [List.mapM_nil] at h
    cases h
    exact Each.nil
  | a :: l,r,h=>by
    rw [List.mapM_cons] at h
    cases ha:f a with
    | error e=>rw [ha] at h;cases h
    | ok b =>
      rw [ha] at h
      cases hl:l.mapM f with
      | error e=>rw [hl] at h;cases h
      | ok r' =>
        rw [hl] at h
        cases h
        exact Each.cons ha (each_of hl)
section
variable {α β γ:Type} {f:α→Except Flt β} {l:List α} {r:List β}
theorem Each.len (h:Each f l r):r.length=l.length:=by
  induction h with
  | nil=>rfl
  | cons _ _ ih=>rw [List.length_cons,List.length_cons,ih]
theorem Each.map (h:Each f l r) {g:β→γ} {k:α→γ} (e:∀ a∈l,∀ b,f a=.ok b→g b=k a):r.map g=l.map k:=by
  induction h with
  | nil=>rfl
  | cons h1 _ ih=>rw [List.map_cons,List.map_cons,e _ (List.mem_cons_self ..) _ h1,ih fun a ha=>e a (List.mem_cons_of_mem _ ha)]
theorem Each.all (h:Each f l r) {P:β→Prop} (e:∀ a∈l,∀ b,f a=.ok b→P b):∀ b∈r,P b:=by
  induction h with
  | nil=>intro b hb;simp at hb
  | cons h1 _ ih =>
    intro b hb
    rcases List.mem_cons.1 hb with rfl | hb
    · exact e _ (List.mem_cons_self ..) _ h1
    · exact ih (fun a ha=>e a (List.mem_cons_of_mem _ ha)) b hb
end
theorem answer_of {en:Tok} {asked:List Tok} {find:Tx→Option Int} {n k:Int} (h:answerP en asked find n=.ok k):∃ w,find w=some k:=by
  unfold answerP at h
  simp only at h
  split at h
  · rename_i j hj
    cases h
    exact ⟨_,hj⟩
  · cases h
theorem findVar_lt {m:PMod} {w:Tx} {k:Int} (h:findVarP m w=some k):0≤k∧k<m.vs.length:=by
  unfold findVarP at h
  obtain ⟨i,hi,rfl⟩:=Option.map_eq_some_iff.1 h
  obtain ⟨h1,_⟩:=List.findIdx?_eq_some_iff_getElem.1 hi
  omega
theorem findCal_some {m:PMod} {w:Tx} {k:Int} (h:findCalP m w=some k):∃ t,calR m.xs m.fs k=some t:=by
  unfold findCalP at h
  unfold calR
  split at h
  · rename_i i hi
    injection h with h
    subst h
    obtain ⟨h1,_⟩:=List.findIdx?_eq_some_iff_getElem.1 hi
    rw [if_neg (by omega),show (-1 - (-1 - (i:Int))).toNat=i from by omega,List.getElem?_eq_getElem h1]
    exact ⟨_,rfl⟩
  · obtain ⟨i,hi,rfl⟩:=Option.map_eq_some_iff.1 h
    obtain ⟨h1,_⟩:=List.findIdx?_eq_some_iff_getElem.1 hi
    rw [if_pos (by omega),Int.toNat_natCast,List.getElem?_eq_getElem h1]
    exact ⟨_,rfl⟩
def arS (n:Nat) (v:Arg):Prop:=arI v∧(v.kind=5→v.n<n)
theorem settleA_say {en:Tok} {m:PMod} {asked:List Tok} {a b:Arg} (h:settleA en m asked a=.ok b) (ha:arJ a):argB m b=true:=by
  unfold settleA at h
  by_cases c:a.kind=5
  · rw [if_pos c] at h
    cases hn:answerP en asked (findVarP m) a.n with
    | error e=>rw [hn] at h;cases h
    | ok n =>
      rw [hn] at h
      cases h
      obtain ⟨w,hw⟩:=answer_of hn
      have hv:=findVar_lt hw
      have hb:a.bits=0:=by
        rcases ha with h | h | h | h
        · omega
        · omega
        · omega
        · exact h.2.2
      unfold argB
      simp only [c]
      exact decide_eq_true ⟨hv.1,hv.2,hb⟩
  · rw [if_neg c] at h
    cases h
    unfold argB regB
    rcases ha with h | h | h | h
    · simp [h]
    · simp [h]
    · rcases h with ⟨h1 | h1,h2,h3⟩ <;> simp [h1,h2,h3]
    · exact absurd h.1 c
theorem cnt_congr {x y:PIns} (h1:y.op=x.op) (h2:y.tg=x.tg) (h3:y.args.length=x.args.length):cntB y=cntB x:=by
  unfold cntB
  rw [h1,h2,h3]
theorem settleA_ok {en:Tok} {m:PMod} {asked:List Tok} {a b:Arg} (h:settleA en m asked a=.ok b) (ha:arI a):arS m.vs.length b:=by
  unfold settleA at h
  by_cases c:a.kind=5
  · rw [if_pos c] at h
    cases hn:answerP en asked (findVarP m) a.n with
    | error e=>rw [hn] at h;cases h
    | ok n =>
      rw [hn] at h
      cases h
      obtain ⟨w,hw⟩:=answer_of hn
      have:=findVar_lt hw
      exact ⟨⟨ha.1,ha.2.1,fun k=>by have k':a.kind=1:=k;omega,this.1⟩,fun _=>this.2⟩
  · rw [if_neg c] at h
    cases h
    exact ⟨ha,fun k=>absurd k c⟩
structure InS (m:PMod) (x:PIns):Prop where
  op:1≤x.op∧x.op≤34
  reg:-1≤x.reg∧x.reg≤4095
  ty:tyI x.ty
  fl:13<x.op→x.fl=0
  args:∀ a∈x.args,arS m.vs.length a
  tg:∀ t∈x.tg,tgI t
  cal:x.op=30→calR m.xs m.fs x.n=some x.ty
  say:insB m x=true
  num:x.op≠30→x.n≤65
theorem say_of {m:PMod} {x y:PIns} (hx:InK x) (h1:y.op=x.op) (h2:y.reg=x.reg) (h3:y.fl=x.fl) (h4:y.tg=x.tg) (h5:y.args.length=x.args.length) (h6:x.op≠30→y.n=x.n∧y.ty=x.ty) (h7:x.op=30→calR m.xs m.fs y.n=some y.ty) (h8:∀ a∈y.args,argB m a=true):insB m y=true:=by
  have hi:=hx.in_
  have hs:=hx.say
  unfold insB
  simp only [Bool.and_eq_true,decide_eq_true_eq,List.all_eq_true]
  refine ⟨⟨⟨⟨⟨⟨⟨by rw [h1];exact hi.op,by rw [cnt_congr h1 h4 h5];exact hs.cnt⟩,?_⟩,?_⟩,?_⟩,?_⟩,fun t ht=>by rw [h4] at ht;exact hi.tg t ht⟩,h8⟩
  · unfold hasTyB
    by_cases c:x.op=30
    · rw [if_neg (by omega),if_pos (by omega)]
      exact decide_eq_true (h7 c)
    · obtain ⟨k1,k2,k3,k4⟩:=hs.ty c
      have e:=(h6 c).2
      by_cases c1:x.op=26∨x.op=29
      · rw [if_pos (by omega)];exact decide_eq_true (e.trans (k1 c1))
      rw [if_neg (by omega),if_neg (by omega)]
      by_cases c2:x.op=31∨x.op=32∨x.op=34
      · rw [if_pos (by omega)];exact decide_eq_true (e.trans (k2 c2))
      rw [if_neg (by omega)]
      by_cases c3:x.op=33
      · rw [if_pos (by omega),e,tyB_of k3,Bool.true_and,h5]
        exact decide_eq_true (k4 c3)
      · rw [if_neg (by omega),e];exact tyB_of k3
  · by_cases c:x.op=30
    · unfold numB
      rw [if_neg (by omega),if_neg (by omega),if_pos (by omega)]
    · have:=hs.num c
      unfold numB at this ⊢
      rw [h1,(h6 c).1];exact this
  · have:=hs.fl
    unfold flB at this ⊢
    rw [h1,h3];exact this
  · have:=hx.reg
    unfold hasRegB at this ⊢
    rw [h1,h2];exact this
theorem settleI_ok {en:Tok} {m:PMod} (hm:MI m) {asked:List Tok} {x y:PIns} (h:settleI en m asked x=.ok y) (hk:InK x):InS m y:=by
  have hx:=hk.in_
  have hj:=hk.say.args
  unfold settleI at h
  by_cases c:x.op=30
  · simp only [if_pos c] at h
    cases hn:answerP en asked (findCalP m) x.n with
    | error e=>rw [hn] at h;cases h
    | ok n =>
      rw [hn] at h
      change (x.args.mapM (settleA en m asked) >>= _)=_ at h
      cases hl:x.args.mapM (settleA en m asked) with
      | error e=>rw [hl] at h;cases h
      | ok l =>
        rw [hl] at h
        cases h
        obtain ⟨w,hw⟩:=answer_of hn
        obtain ⟨t,ht⟩:=findCal_some hw
        have hty:tyI t:=by
          unfold calR at ht
          by_cases c0:0≤n
          · rw [if_pos c0] at ht
            obtain ⟨f,hf,rfl⟩:=Option.map_eq_some_iff.1 ht
            exact (hm.fs f (List.mem_of_getElem? hf)).rt
          · rw [if_neg c0] at ht
            obtain ⟨f,hf,rfl⟩:=Option.map_eq_some_iff.1 ht
            exact (hm.xs f (List.mem_of_getElem? hf)).2.2
        refine ⟨hx.op,hx.reg,?_,hx.fl,(each_of hl).all fun a ha b hb=>settleA_ok hb (hx.args a ha),hx.tg,fun _=>?_,say_of hk rfl rfl rfl rfl (each_of hl).len (fun k=>absurd c k) (fun _=>?_) ((each_of hl).all fun a ha b hb=>settleA_say hb (hj a ha)),fun k=>absurd c k⟩
        · show tyI ((calR m.xs m.fs n).getD 0)
          rw [ht];exact hty
        · show calR m.xs m.fs n=some ((calR m.xs m.fs n).getD 0)
          rw [ht];rfl
        · show calR m.xs m.fs n=some ((calR m.xs m.fs n).getD 0)
          rw [ht];rfl
  · simp only [if_neg c] at h
    change (x.args.mapM (settleA en m asked) >>= _)=_ at h
    cases hl:x.args.mapM (settleA en m asked) with
    | error e=>rw [hl] at h;cases h
    | ok l =>
      rw [hl] at h
      cases h
      exact ⟨hx.op,hx.reg,hx.ty,hx.fl,(each_of hl).all fun a ha b hb=>settleA_ok hb (hx.args a ha),hx.tg,fun k=>absurd k c,say_of hk rfl rfl rfl rfl (each_of hl).len (fun _=>⟨rfl,rfl⟩) (fun k=>absurd k c) ((each_of hl).all fun a ha b hb=>settleA_say hb (hj a ha)),fun k=>hk.say.big k⟩
structure MS (m:PMod):Prop where
  vl:m.vs.length≤8
  xl:m.xs.length≤8
  fl:m.fs.length≤8
  vs:∀ v∈m.vs,wdI v.nm∧1≤v.size∧v.size≤64
  xs:∀ x∈m.xs,wdI x.nm∧psI x.ps∧tyI x.rt
  fs:∀ f∈m.fs,wdI f.nm∧psI f.ps∧tyI f.rt∧f.bs.length≤64∧f.bs.flatten.length≤400∧∀ c∈f.bs,∀ x∈c,InS m x
  one:(m.fs.map fun f=>byt f.nm).Nodup
theorem flat_leng {α β:Type} {l:List (List α)} {r:List (List β)} (h:r.map List.length=l.map List.length):r.flatten.length=l.flatten.length:=by
  rw [List.length_flatten,List.length_flatten,h]
theorem settleM_ok {en:Tok} {m m':PMod} (hm:MI m) {asked:List Tok} (h:settleM en m asked=.ok m'):MS m':=by
  unfold settleM at h
  cases hl:m.fs.mapM (settleF en m asked) with
  | error e=>rw [hl] at h;cases h
  | ok fs =>
    rw [hl] at h
    cases h
    have he:=each_of hl
    have key:∀ f∈m.fs,∀ g,settleF en m asked f=.ok g→g.nm=f.nm∧g.ps=f.ps∧g.rt=f.rt∧g.bs.length≤64∧g.bs.flatten.length≤400∧∀ c∈g.bs,∀ x∈c,InS m x:=by
      intro f hf g hg
      unfold settleF at hg
      cases hb:f.bs.mapM fun c:List PIns=>c.mapM (settleI en m asked) with
      | error e=>rw [hb] at hg;cases hg
      | ok bs =>
        rw [hb] at hg
        cases hg
        have hB:=(hm.fs f hf).bs
        have eb:=each_of hb
        refine ⟨rfl,rfl,rfl,by show bs.length≤64;rw [eb.len];exact hB.len,?_,eb.all fun c hc d hd=>(each_of hd).all fun x hx y hy=>settleI_ok hm hy (hB.ins c hc x hx)⟩
        show bs.flatten.length≤400
        rw [flat_leng (eb.map fun c hc d hd=>(each_of hd).len)]
        exact hB.size
    have ert:fs.map PFn.rt=m.fs.map PFn.rt:=he.map fun f hf g hg=>(key f hf g hg).2.2.1
    have ecal:∀ n,calR m.xs fs n=calR m.xs m.fs n:=fun n=>by
      unfold calR
      have e1:fs[n.toNat]?.map PFn.rt=m.fs[n.toNat]?.map PFn.rt:=by rw [← List.getElem?_map,← List.getElem?_map,ert]
      rw [e1]
    have hin:∀ x,InS m x→InS { m with fs:=fs } x:=fun x hx=>⟨hx.op,hx.reg,hx.ty,hx.fl,hx.args,hx.tg,fun k=>(ecal x.n).trans (hx.cal k),by
      have e:insB { m with fs:=fs } x=insB m x:=by
        unfold insB hasTyB
        simp only [ecal]
        rfl
      rw [e];exact hx.say,hx.num⟩
    refine ⟨hm.vl,hm.xl,by show fs.length≤8;rw [he.len];exact hm.fl,hm.vs,hm.xs,he.all fun f hf g hg=>?_,?_⟩
    · obtain ⟨k1,k2,k3,k4,k5,k6⟩:=key f hf g hg
      have hF:=hm.fs f hf
      exact ⟨by rw [k1];exact hF.nm,by rw [k2];exact hF.ps,by rw [k3];exact hF.rt,k4,k5,fun c hc x hx=>hin x (k6 c hc x hx)⟩
    · show (fs.map fun f=>byt f.nm).Nodup
      rw [he.map (k:=fun f=>byt f.nm) fun f hf g hg=>by rw [(key f hf g hg).1]]
      exact hm.one
theorem parseP_bounds {en:Tok} {ts:List Tok} {m:PMod} (he:Gd en) (hs:∀ t∈ts,Gd t) (h:parseP en ts=.ok m):MS m:=by
  unfold parseP at h
  cases hq:(qLines en (ts.length+1) ⟨[],[],[]⟩).run ⟨ts,[]⟩ with
  | error e=>rw [hq] at h;cases h
  | ok p =>
    obtain ⟨m1,s⟩:=p
    rw [hq] at h
    have:=lines_ens he (ts.length+1) ⟨[],[],[]⟩ ⟨by simp,by simp,by simp,fun v h=>by simp at h,fun v h=>by simp at h,fun v h=>by simp at h,by simp⟩ ⟨ts,[]⟩ m1 s hs hq
    exact settleM_ok this.1 h
theorem MS.say {m:PMod} (h:MS m):sayB (fun w=>decide (0<w.length)&&decide (wordSize w=w.length)) m=true:=by
  have hw:∀ nm,wdI nm→(decide (0<(byt nm).length)&&decide (wordSize (byt nm)=(byt nm).length))=true:=fun nm k=>by
    rw [decide_eq_true k.1,decide_eq_true k.2.1];rfl
  have hh:∀ nm ps rt,wdI nm→psI ps→tyI rt→headB (fun w=>decide (0<w.length)&&decide (wordSize w=w.length)) nm ps rt=true:=fun nm ps rt k1 k2 k3=>by
    unfold headB
    simp only
    rw [hw nm k1,tyB_of k3,Bool.and_true,Bool.true_and]
    exact List.all_eq_true.2 fun t ht=>tyB_of (k2.2 t ht)
  unfold sayB
  rw [Bool.and_eq_true,Bool.and_eq_true]
  refine ⟨⟨List.all_eq_true.2 fun v hv=>?_,List.all_eq_true.2 fun x hx=>?_⟩,List.all_eq_true.2 fun f hf=>?_⟩
  · obtain ⟨k1,k2,k3⟩:=h.vs v hv
    simp only
    rw [hw _ k1,Bool.true_and]
    exact decide_eq_true (by omega)
  · obtain ⟨k1,k2,k3⟩:=h.xs x hx
    exact hh _ _ _ k1 k2 k3
  · obtain ⟨k1,k2,k3,_,_,k6⟩:=h.fs f hf
    unfold fnB
    rw [hh _ _ _ k1 k2 k3,Bool.true_and]
    exact List.all_eq_true.2 fun c hc=>List.all_eq_true.2 fun x hx=>(k6 c hc x hx).say
end Go.Proofs.YtmmlfmplggbmiaaGreatDoor
