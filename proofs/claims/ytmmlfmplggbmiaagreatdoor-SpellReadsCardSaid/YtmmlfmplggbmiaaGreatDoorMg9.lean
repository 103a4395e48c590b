/- Several texts in one: PsRefE, PsRefF, PgZ2, BaseG, PgZ3, PgZ4, PgZ5, PgZ6, PgZ7, PgZ8. -/
import Derived.OwnWalk
import Derived.Deep.QuietTactic
import Derived.BigQuiet
import Derived.Test.YtmmlfmplggbmiaaGreatDoorMg8
namespace Go.Proofs.YtmmlfmplggbmiaaGreatDoor
set_option linter.unusedVariables false
set_option linter.unusedSimpArgs false
theorem dd_global {f:Flt} {en:Tok} (p:PMod×RS) (h:Dd f p.2):Dd f (iGlobal en p).2:=dd_want (dd_size (dd_name h _ _ _) _) _ _
theorem dd_extern {f:Flt} {en:Tok} (p:PMod×RS) (h:Dd f p.2):Dd f (iExtern en p).2:=dd_want (dd_types (dd_name h _ _ _) _) _ _
theorem dd_head {f:Flt} {en:Tok} (p:PMod×RS) (h:Dd f p.2):Dd f (sHead en p):=dd_want (dd_types (dd_name h _ _ _) _) _ _
theorem dd_func {f:Flt} {en:Tok} (p:PMod×RS) (h:Dd f p.2):Dd f (iFunc en p).2:=dd_body en _ _ (dd_head p h)
theorem dd_lines {f:Flt} (en:Tok) (k:Nat) (p:PMod×RS) (h:Dd f p.2):Dd f (iLines en k p).2:=by
  cases k with
  | zero=>exact h
  | succ k =>
    unfold iLines
    simp only [h.2]
    exact h
theorem ref_lines (en:Tok):∀ (k:Nat) (m:PMod) (s:RS),s.flt=none→Ref (iLines en k (m,s)).1 (iLines en k (m,s)).2 (qLines en k m (toPS s)):=by
  intro k
  induction k with
  | zero=>intro m s h;exact Ref.pure h _
  | succ k ih =>
    intro m s h
    unfold qLines iLines
    refine Ref.get ?_
    have e1:(toPS s).ts=s.ts:=rfl
    rw [e1]
    dsimp only
    cases hts:s.ts with
    | nil=>exact Ref.pure h _
    | cons front tl =>
      dsimp only
      refine Ref.ite (fun e=>?_) (fun e=>?_)
      · rw [if_pos e]
        exact (Ref.pass h).bind (fun h2=>ih _ _ h2) (fun f d=>dd_lines en k _ d)
      rw [if_neg e]
      refine Ref.ite (fun e=>?_) (fun e=>?_)
      · rw [if_pos e]
        exact (Ref.pass h).bind (fun h1=>(ref_name h1 _ _).bind (fun h2=>(ref_size h2).bind (fun h3=>(ref_end h3).bind (fun h4=>ih _ _ h4)
          (fun f d=>dd_lines en k _ d)) (fun f d=>dd_lines en k _ (dd_want d _ _))) (fun f d=>dd_lines en k _ (dd_want (dd_size d _) _ _))) (fun f d=>dd_lines en k _ (dd_global _ d))
      rw [if_neg e]
      refine Ref.ite (fun e=>?_) (fun e=>?_)
      · rw [if_pos e]
        exact (Ref.pass h).bind (fun h1=>(ref_name h1 _ _).bind (fun h2=>(ref_types h2).bind (fun h3=>(ref_end h3).bind (fun h4=>ih _ _ h4)
          (fun f d=>dd_lines en k _ d)) (fun f d=>dd_lines en k _ (dd_want d _ _))) (fun f d=>dd_lines en k _ (dd_want (dd_types d _) _ _))) (fun f d=>dd_lines en k _ (dd_extern _ d))
      rw [if_neg e]
      refine Ref.ite (fun e=>?_) (fun e=>?_)
      · rw [if_pos e]
        exact (Ref.pass h).bind (fun h1=>(ref_name h1 _ _).bind (fun h2=>(ref_types h2).bind (fun h3=>(ref_end h3).bind (fun h4=>Ref.get ((ref_body en _ [] _ h4).bind (fun h5=>ih _ _ h5)
          (fun f d=>dd_lines en k _ d))) (fun f d=>dd_lines en k _ (dd_body en _ _ d))) (fun f d=>dd_lines en k _ (dd_body en _ _ (dd_want d _ _)))) (fun f d=>dd_lines en k _ (dd_body en _ _ (dd_want (dd_types d _) _ _)))) (fun f d=>dd_lines en k _ (dd_func _ d))
      rw [if_neg e]
      exact dd_lines en k _ (bad_dd h 3 front)
def allLines (en:Tok) (ts:List Tok):PMod×RS:=iLines en (ts.length+1) (⟨[],[],[]⟩,⟨ts,[],none⟩)
theorem parseP_steps (en:Tok) (ts:List Tok) :
    (∃ f,(allLines en ts).2.flt=some f∧parseP en ts=.error f) ∨
    ((allLines en ts).2.flt=none∧parseP en ts=settleM en (allLines en ts).1 (allLines en ts).2.asked):=by
  have h:=ref_lines en (ts.length+1) ⟨[],[],[]⟩ ⟨ts,[],none⟩ rfl
  have e:parseP en ts=((qLines en (ts.length+1) ⟨[],[],[]⟩ (toPS ⟨ts,[],none⟩)) >>= fun x=>settleM en x.1 x.2.asked):=rfl
  rw [e]
  cases hq:qLines en (ts.length+1) ⟨[],[],[]⟩ (toPS ⟨ts,[],none⟩) with
  | error f =>
    rw [hq] at h
    exact .inl ⟨f,h.1,rfl⟩
  | ok x =>
    obtain ⟨m,q⟩:=x
    rw [hq] at h
    obtain ⟨h1,h2,h3⟩:=h
    refine .inr ⟨h3,?_⟩
    unfold allLines
    rw [h1]
    show settleM en m q.asked=_
    rw [← h2]
    rfl
def RE {α:Type} (v:α) (f:Option Flt):Except Flt α→Prop
  | .ok a=>v=a∧f=none
  | .error e=>f=some e
section
variable {α:Type}
def sFold (g:α→Option Flt→α×Option Flt):List α→Option Flt→List α×Option Flt
  | [],f=>([],f)
  | x::xs,f=>((g x f).1::(sFold g xs (g x f).2).1,(sFold g xs (g x f).2).2)
theorem fold_keeps {g:α→Option Flt→α×Option Flt} (hk:∀ x e,(g x (some e)).2=some e) (e:Flt):∀ xs:List α,(sFold g xs (some e)).2=some e
  | []=>rfl
  | x::xs=>by
    unfold sFold
    dsimp only
    rw [hk]
    exact fold_keeps hk e xs
theorem re_fold {g:α→Option Flt→α×Option Flt} {q:α→Except Flt α} (hg:∀ x,RE (g x none).1 (g x none).2 (q x)) (hk:∀ x e,(g x (some e)).2=some e) :
    ∀ xs:List α,RE (sFold g xs none).1 (sFold g xs none).2 (xs.mapM q)
  | []=>⟨rfl,rfl⟩
  | x :: xs=>by
    rw [List.mapM_cons]
    unfold sFold
    dsimp only
    have h:=hg x
    cases hq:q x with
    | error e =>
      rw [hq] at h
      rw [show (g x none).2=some e from h,fold_keeps hk]
      exact rfl
    | ok y =>
      rw [hq] at h
      obtain ⟨h1,h2⟩:=h
      rw [h1,h2]
      have h3:=re_fold hg hk xs
      cases hm:xs.mapM q with
      | error e =>
        rw [hm] at h3
        rw [show (sFold g xs none).2=some e from h3]
        exact rfl
      | ok ys =>
        rw [hm] at h3
        rw [h3.1,h3.2]
        exact ⟨rfl,rfl⟩
end
section
variable (en:Tok) (m:PMod) (asked:List Tok)
def nameOf (n:Int):Tx:=(asked.getD n.toNat en).body
def gA (a:Arg) (f:Option Flt):Arg×Option Flt :=
  if a.kind=5 then ({ a with n:=(findVarP m (nameOf en asked a.n)).getD (-1) },sAnswer en asked (findVarP m) a.n f) else (a,f)
def gC (x:PIns) (f:Option Flt):PIns×Option Flt :=
  if x.op=30 then ({ x with n:=(findCalP m (nameOf en asked x.n)).getD (-1),ty:=(calR m.xs m.fs ((findCalP m (nameOf en asked x.n)).getD (-1))).getD 0 },sAnswer en asked (findCalP m) x.n f) else (x,f)
def gI (x:PIns) (f:Option Flt):PIns×Option Flt :=
  ({ (gC en m asked x f).1 with args:=(sFold (gA en m asked) (gC en m asked x f).1.args (gC en m asked x f).2).1 },(sFold (gA en m asked) (gC en m asked x f).1.args (gC en m asked x f).2).2)
def gF (x:PFn) (f:Option Flt):PFn×Option Flt :=
  ({ x with bs:=(sFold (fun c=>sFold (gI en m asked) c) x.bs f).1 },(sFold (fun c=>sFold (gI en m asked) c) x.bs f).2)
def gM (f:Option Flt):PMod×Option Flt:=({ m with fs:=(sFold (gF en m asked) m.fs f).1 },(sFold (gF en m asked) m.fs f).2)
theorem answer_keeps (find:Tx→Option Int) (n:Int) (e:Flt):sAnswer en asked find n (some e)=some e:=by
  unfold sAnswer
  split <;> rfl
theorem re_answer (find:Tx→Option Int) (n:Int):RE ((find (nameOf en asked n)).getD (-1)) (sAnswer en asked find n none) (answerP en asked find n):=by
  unfold sAnswer answerP nameOf
  dsimp only
  cases h:find (asked.getD n.toNat en).body with
  | some k=>exact ⟨rfl,if_pos rfl⟩
  | none=>exact if_neg (by simp)
theorem gA_keeps (a:Arg) (e:Flt):(gA en m asked a (some e)).2=some e:=by
  unfold gA
  split
  · exact answer_keeps _ _ _ _ _
  · rfl
theorem re_gA (a:Arg):RE (gA en m asked a none).1 (gA en m asked a none).2 (settleA en m asked a):=by
  unfold gA settleA
  by_cases c:a.kind=5
  · rw [if_pos c,if_pos c]
    have h:=re_answer en asked (findVarP m) a.n
    cases hq:answerP en asked (findVarP m) a.n with
    | error e=>rw [hq] at h;exact h
    | ok k=>rw [hq] at h;exact ⟨by rw [h.1],h.2⟩
  · rw [if_neg c,if_neg c]
    exact ⟨rfl,rfl⟩
theorem gC_keeps (x:PIns) (e:Flt):(gC en m asked x (some e)).2=some e:=by
  unfold gC
  split
  · exact answer_keeps _ _ _ _ _
  · rfl
theorem gI_keeps (x:PIns) (e:Flt):(gI en m asked x (some e)).2=some e:=by
  unfold gI
  dsimp only
  rw [gC_keeps]
  exact fold_keeps (gA_keeps en m asked) e _
theorem re_gI (x:PIns):RE (gI en m asked x none).1 (gI en m asked x none).2 (settleI en m asked x):=by
  have hA:=fun l:List Arg=>re_fold (re_gA en m asked) (gA_keeps en m asked) l
  unfold gI settleI
  dsimp only
  by_cases c:x.op=30
  · rw [if_pos c,show gC en m asked x none=({ x with n:=(findCalP m (nameOf en asked x.n)).getD (-1),ty:=(calR m.xs m.fs ((findCalP m (nameOf en asked x.n)).getD (-1))).getD 0 },sAnswer en asked (findCalP m) x.n none) from if_pos c]
    dsimp only
    have h:=re_answer en asked (findCalP m) x.n
    cases hq:answerP en asked (findCalP m) x.n with
    | error e =>
      rw [hq] at h
      rw [show sAnswer en asked (findCalP m) x.n none=some e from h,fold_keeps (gA_keeps en m asked)]
      exact rfl
    | ok k =>
      rw [hq] at h
      rw [h.1,h.2]
      have h2:=hA x.args
      cases hm:x.args.mapM (settleA en m asked) with
      | error e =>
        rw [hm] at h2
        rw [show (sFold (gA en m asked) x.args none).2=some e from h2]
        show RE _ _ (x.args.mapM (settleA en m asked) >>= _)
        rw [hm]
        exact rfl
      | ok l =>
        rw [hm] at h2
        rw [h2.1,h2.2]
        show RE _ _ (x.args.mapM (settleA en m asked) >>= _)
        rw [hm]
        exact ⟨rfl,rfl⟩
  · rw [if_neg c,show gC en m asked x none=(x,none) from if_neg c]
    dsimp only
    have h2:=hA x.args
    show RE _ _ (x.args.mapM (settleA en m asked) >>= _)
    cases hm:x.args.mapM (settleA en m asked) with
    | error e =>
      rw [hm] at h2
      rw [show (sFold (gA en m asked) x.args none).2=some e from h2]
      exact rfl
    | ok l =>
      rw [hm] at h2
      rw [h2.1,h2.2]
      exact ⟨rfl,rfl⟩
theorem gF_keeps (x:PFn) (e:Flt):(gF en m asked x (some e)).2=some e:=fold_keeps (fun c e=>fold_keeps (gI_keeps en m asked) e c) e _
theorem re_gF (x:PFn):RE (gF en m asked x none).1 (gF en m asked x none).2 (settleF en m asked x):=by
  have h:=re_fold (g:=fun c=>sFold (gI en m asked) c) (q:=fun c:List PIns=>c.mapM (settleI en m asked)) (fun c=>re_fold (re_gI en m asked) (gI_keeps en m asked) c) (fun c e=>fold_keeps (gI_keeps en m asked) e c) x.bs
  unfold gF settleF
  dsimp only
  cases hm:x.bs.mapM (fun c:List PIns=>c.mapM (settleI en m asked)) with
  | error e=>rw [hm] at h;exact h
  | ok l=>rw [hm] at h;rw [h.1,h.2];exact ⟨rfl,rfl⟩
theorem gM_keeps (e:Flt):(gM en m asked (some e)).2=some e:=fold_keeps (gF_keeps en m asked) e _
theorem re_gM:RE (gM en m asked none).1 (gM en m asked none).2 (settleM en m asked):=by
  have h:=re_fold (re_gF en m asked) (gF_keeps en m asked) m.fs
  unfold gM settleM
  dsimp only
  cases hm:m.fs.mapM (settleF en m asked) with
  | error e=>rw [hm] at h;exact h
  | ok l=>rw [hm] at h;rw [h.1,h.2];exact ⟨rfl,rfl⟩
end
def allP (en:Tok) (ts:List Tok):PMod×Option Flt:=gM en (allLines en ts).1 (allLines en ts).2.asked (allLines en ts).2.flt
theorem parseP_all (en:Tok) (ts:List Tok):RE (allP en ts).1 (allP en ts).2 (parseP en ts):=by
  unfold allP
  rcases parseP_steps en ts with ⟨f,h1,h2⟩ | ⟨h1,h2⟩
  · rw [h1,h2]
    exact gM_keeps _ _ _ _
  · rw [h1,h2]
    exact re_gM _ _ _
end Go.Proofs.YtmmlfmplggbmiaaGreatDoor
namespace Go.Proofs.YtmmlfmplggbmiaaGreatDoor
open Go.RowKit Go.Maps
set_option linter.unusedVariables false
set_option linter.unusedSimpArgs false
section
variable {B b:Nat} {W w w':World} {en:Tok} {m0 m1 m2:Value} {m:LMod} {s:RS} {Z Z':As}
def Px (B:Nat) (W:World) (b:Nat) (en:Tok) (m:LMod) (s:RS) (Z:As) (w:World):Prop :=
  Pk B W b en (.slice m.vp m.vn m.vc) (.slice m.xp m.xn m.xc) (.slice m.fp m.fn m.fc) s ((As.and (modAs B m) Z)) w
theorem Px.mk (h:Px B W b en m s Z w):Mk B W b en (modD m) s Z w:=⟨m,rfl,h⟩
theorem Px.imp (h:Px B W b en m s Z w) (k:Z.le Z'):Px B W b en m s Z' w:=Pk.imp h ((As.le.refl _).and k)
theorem Px.later (h:Px B W b en m s Z w) (hb:Below w.heap.size w w'):Px B W b en m s Z w':=Pk.later h hb
theorem Px.drew (h:Px B W b en m s Z w):Px B W b en m s Z w.drew:=Pk.drew h
theorem Px.b0 (h:Px B W b en m s Z w):Px B W b en m s ((As.and (bxs []) Z)) w:=h.imp (As.nob _)
theorem Px.nobx {bs:List (Nat×List Value)} (h:Px B W b en m s ((As.and (bxs bs) Z)) w):Px B W b en m s Z w:=h.imp (As.drop _ _)
theorem Px.st (h:Px B W b en m s Z w):∃ Y,St B W ((As.and Z Y)) w∧∀ Z' w',St B W ((As.and Z' Y)) w'→Px B W b en m s Z' w':=by
  obtain ⟨Y,hs,back⟩:=Pk.st h
  exact ⟨(As.and (modAs B m) Y),hs.imp ⟨fun w x=>⟨x.1.2,x.1.1,x.2⟩,fun k=>by simp only [As.and_c];omega⟩,fun Z' w' h' => back _ _ (h'.imp ⟨fun w x=>⟨⟨x.2.1,x.1⟩,x.2.2⟩,fun k=>by simp only [As.and_c];omega⟩)⟩
theorem Px.bpush {bs:List (Nat×List Value)} (h:Px B W b en m s ((As.and (bxs bs) Z)) w) {g:Nat} (hg:g=w.heap.size) (cs:List Value) (t:TypeId):Px B W b en m s ((As.and (bxs ((g,cs)::bs)) Z)) (w.alloc (.cells cs.toArray t)):=by
  obtain ⟨Y,hs,back⟩:=h.st
  exact back _ _ (((hs.imp (As.asl _ _ _)).bpush hg cs t).imp (As.asr _ _ _))
theorem Px.bget {bs:List (Nat×List Value)} (h:Px B W b en m s ((As.and (bxs bs) Z)) w) (i:Nat) {g:Nat} {cs:List Value} (e:bs[i]? = some (g,cs)):Box g cs w:=h.mk.bget i e
theorem Px.refuse4 (h:Px B W b en m s Z w) (t:Tok):Calls Tryz.prog 77 #[.pointer (some ⟨b,0,none⟩),.int .i64 4,tkV t] w (fun e w' => e=.returned (.tuple #[])∧Px B W b en m (bd 4 t s) Z w'):=by
  obtain ⟨r,Z',hr,back⟩:=Pk.rd h
  exact (Go.Proofs.YtmmlfmplggbmiaaGreatDoor.refuse4 hr t).mono fun e w' ⟨h1,h2⟩=>⟨h1,back _ _ (as_bd _ _ _) h2⟩
theorem Pk.ask_at (h:Pk B W b en m0 m1 m2 s Z w) (a:Nat) (ha:a<s.asked.length):∃ g ac,w.cell? ⟨b,11,none⟩=some (.slice (some ⟨g,0,none⟩) s.asked.length ac)∧(w.cell? ⟨g,a * 4,none⟩=some (.int .i64 s.asked[a].kind)∧w.cell? ⟨g,a * 4+1,none⟩=some (.string (str s.asked[a].body)) ∧
      w.cell? ⟨g,a * 4+2,none⟩=some (.int .i64 s.asked[a].line)∧w.cell? ⟨g,a * 4+3,none⟩=some (.int .i64 s.asked[a].col))∧g<w.heap.size∧s.asked.length≤ac∧ac≤maxLen:=by
  obtain ⟨ap,ac,Y,c11,_,_,hS,_⟩:=h.asked
  have hr:=hS.sat.1.2
  rcases id hr.2 with ⟨e,h0⟩ | ⟨g,cap,cur,e,hg,hh,k1,k2,_⟩
  · injection e with e1 e2 e3;omega
  · injection e with e1 e2 e3
    subst e1 e3
    have hcell:∀ (r:Nat) (u:Value),r<4→(tokC s.asked[a])[r]? = some u→w.cell? ⟨g,a * 4+r,none⟩=some u:=fun r u hr2 hu=>by
      have:=hr.cells (g:=g) rfl (a * 4+r) u (by rw [flat_get tokC 4 (fun _=>rfl) s.asked a ha r hr2];exact hu)
      rw [Addr.add_mid,Nat.zero_add] at this
      exact this
    exact ⟨g,ac,c11,⟨hcell 0 _ (by decide) rfl,hcell 1 _ (by decide) rfl,hcell 2 _ (by decide) rfl,hcell 3 _ (by decide) rfl⟩,(Array.getElem?_eq_some_iff.1 hh).1,k1,k2⟩
def wF (s:RS) (f:Option Flt):RS:={ s with flt:=f }
theorem bd_wF {s:RS} (h:s.ts=[]) (c:Nat) (t:Tok):bd c t s=wF s (some (s.flt.getD (fltAt c t))):=by
  unfold bd wF
  rw [← h]
set_option maxRecDepth 100000 in
set_option maxHeartbeats 4000000 in
theorem answer_any (a:Nat) (ha:a<s.asked.length) (hts:s.ts=[]) (ff:FuncId) (find:Tx→Option Int) (hen:∀ (args:Array Value) (w:World),(callFunc ff args).run Tryz.prog w=.ok (.enter ff args) w)
    (hf:∀ (x:Tx) (s1:RS) (Z1:As) (w1:World),Mk B W b en (modD m) s1 Z1 w1→Calls Tryz.prog ff #[.pointer (some ⟨b,0,none⟩),.string (str x)] w1 (fun e w' => e=.returned (.tuple #[.int .i64 ((find x).getD (-1)),.bool (find x).isSome])∧Below w1.heap.size w1 w')) (h:Px B W b en m s Z w) :
    Calls Tryz.prog 122 #[.pointer (some ⟨b,0,none⟩),.int .i64 a,.func (.func ff) #[.pointer (some ⟨b,0,none⟩)] #[]] w (fun e w' => e=.returned (.int .i64 ((find (nameOf en s.asked a)).getD (-1)))∧Px B W b en m (wF s (sAnswer en s.asked find a s.flt)) Z w'):=by
  obtain ⟨g,ac,c11,⟨d0,d1,d2,d3⟩,gl,hac,hmax⟩:=Pk.ask_at h a ha
  have bl:=Pk.lt h
  have en1:nameOf en s.asked a=s.asked[a].body:=by unfold nameOf;simp [ha]
  have en2:sAnswer en s.asked find a s.flt=if (find s.asked[a].body).isSome then s.flt else some (s.flt.getD (fltAt 4 s.asked[a])):=by unfold sAnswer;simp [ha]
  rw [en1,en2]
  obtain ⟨t,et⟩:∃ t,s.asked[a]=t:=⟨_,rfl⟩
  simp only [et] at d0 d1 d2 d3 ⊢
  obtain ⟨n,eN⟩:∃ n,s.asked.length=n:=⟨_,rfl⟩
  rw [eN] at c11 ha hac
  have h2:=h.b0.bpush rfl (tkC t) 81
  have C:=hf t.body _ _ _ h2.mk
  obtain ⟨v,ev⟩:∃ v,(find t.body).getD (-1)=v:=⟨_,rfl⟩
  simp only [ev] at C ⊢
  have hd:decide ((a:Int)<(n:Int))=true:=by simp;omega
  unfold maxLen at hmax
  have HN:=Lib.hid hac
  cases hF:(find t.body).isSome with
  | true =>
    rw [hF] at C
    rw [if_pos rfl]
    have H2:=Lib.hid h2
    clear h h2 en1 en2 et eN hf ev hF hts hac
    go_enter Tryz.func122,Tryz.ntmps122
    go_wp2_with ((with_reducible refine C.mono ?_);rintro e w5 ⟨rfl,hb5⟩)
    go_ret
    exact ⟨rfl,(H2.out.later hb5).nobx⟩
  | false =>
    rw [hF] at C
    rw [if_neg (by decide),← bd_wF hts]
    have H2:=Lib.hid h2
    clear h h2 en1 en2 et eN hf ev hF hts hac
    go_enter Tryz.func122,Tryz.ntmps122
    go_wp2_with ((with_reducible refine C.mono ?_);rintro e w5 ⟨rfl,hb5⟩;have h5:=H2.out.later hb5;obtain ⟨y0,y1,y2,y3⟩:=h5.mk.tk4;have gl5:=(h5.bget 0 rfl).1)
    go_region_law (first | (go_simp;(with_reducible refine (h5.drew.refuse4 t).mono ?_);rintro e w6 ⟨rfl,h6⟩))
    all_goals
      go_wp2_with fail
      go_ret
      exact ⟨rfl,h6.nobx⟩
end
theorem var_ext {x y:PVar} (h:x.nm=y.nm) (k:x.size=y.size):x=y:=by
  obtain ⟨a,b⟩:=x
  obtain ⟨c,d⟩:=y
  obtain rfl:a=c:=h
  obtain rfl:b=d:=k
  rfl
theorem var_row {B:Nat} {w:World} {p:Option Addr} {n c:Nat} {L:List PVar} {E:Nat→World→PVar→Prop} (h:ListIn varC E B w p n c L) (i:Nat) (hi:i<L.length) :
    ∃ a,p=some a∧a.block<B∧w.cell? (a.add (i * 2))=some (.string L[i].nm)∧w.cell? ⟨(a.add (i * 2)).block,(a.add (i * 2)).off+1,none⟩=some (.int .i64 L[i].size):=by
  obtain ⟨h1,h2,h3,h4,-⟩:=h
  obtain ⟨a,e,ha,hc⟩:=h4.at (m:=2) (fun _=>rfl) i hi (by decide)
  refine ⟨a,e,ha,hc 0 (by decide),?_⟩
  have:=hc 1 (by decide);rw [add_add a _ 1 (by decide)] at this;exact this
set_option maxRecDepth 100000 in
set_option maxHeartbeats 2000000 in
theorem EqVars_any (W:World) (p p':Option Addr) (n n' c c':Nat) (ts ts':List PVar) (h:ListIn varC NoMem W.heap.size W p n c ts) (h':ListIn varC NoMem W.heap.size W p' n' c' ts') :
    Calls Tryz.prog 33 #[.slice p n c,.slice p' n' c'] W (Tells (ts=ts') W):=by
  obtain rfl:n=ts.length:=h.1
  obtain rfl:n' = ts'.length:=h'.1
  have k2:=h.2.1
  have k3:=h.2.2.1
  have k2':=h'.2.1
  have k3':=h'.2.2.1
  unfold maxLen at k3 k3'
  have H:=Lib.hid h
  have H':=Lib.hid h'
  clear h h'
  go_enter Tryz.func33,Tryz.ntmps33
  by_cases hl:ts.length=ts'.length
  · have hl2:((ts.length:Int) != (ts'.length:Int))=false:=by simp [hl]
    have HL:=Lib.hid hl
    clear hl
    go_wp2_with fail
    go_loopw [13] (fun t wr=>∃ k:Nat,k≤ts.length∧t=.int .i64 k∧Below W.heap.size W wr∧Hid (∀ i (h1:i<ts.length) (h2:i<ts'.length),i<k→ts[i]=ts'[i])) (fun t _=>ts.length - (intOf t).toNat)
    case atStart=>exact ⟨0,Nat.zero_le _,rfl,Below.refl _ _,Lib.hid (fun i _ _ h=>absurd h (Nat.not_lt_zero i))⟩
    case round =>
      obtain ⟨k,hk,rfl,hb,hE⟩:=hrel
      by_cases hlt:k<ts.length
      · have hlt':k<ts'.length:=by have:=HL.out;omega
        obtain ⟨a,rfl,ha,hc0,hc1⟩:=var_row H.out k hlt
        obtain ⟨a',rfl,ha',hc0',hc1'⟩:=var_row H'.out k hlt'
        have f0:=(hb.cell (p:=a.add (k * 2)) (blk_add a _ ha)).trans hc0
        have f1:=(hb.cell (p:=⟨(a.add (k * 2)).block,(a.add (k * 2)).off+1,none⟩) (blk_add a _ ha)).trans hc1
        have f0':=(hb.cell (p:=a'.add (k * 2)) (blk_add a' _ ha')).trans hc0'
        have f1':=(hb.cell (p:=⟨(a'.add (k * 2)).block,(a'.add (k * 2)).off+1,none⟩) (blk_add a' _ ha')).trans hc1'
        clear hc0 hc1 hc0' hc1'
        by_cases q0:ts[k].nm=ts'[k].nm∧ts[k].size=ts'[k].size
        · have HQ:Hid (ts[k]=ts'[k]):=Lib.hid (var_ext q0.1 q0.2)
          obtain ⟨q1,q2⟩:=q0
          rw [← q1] at f0'
          rw [← q2] at f1'
          clear q1 q2
          go_wp2_with fail
          go_region
          all_goals go_wp2
          all_goals exact ⟨⟨k+1,by omega,by go_num,by first | exact hb | exact below_drew hb,Lib.hid (fun i h1 h2 h3=>by
            by_cases e:i=k
            · subst e;exact HQ.out
            · exact hE.out i h1 h2 (by omega))⟩,by simp [intOf];omega⟩
        · have HQ:Hid (¬ ts[k]=ts'[k]):=Lib.hid (fun e=>q0 ⟨by rw [e],by rw [e]⟩)
          by_cases q1:ts[k].nm=ts'[k].nm
          · rw [← q1] at f0'
            have q2:¬ ts[k].size=ts'[k].size:=fun q2=>q0 ⟨q1,q2⟩
            clear q0 q1
            go_wp2_with fail
            go_region
            all_goals go_wp2
            all_goals go_ret
            all_goals exact ⟨false,rfl,by simp only [Bool.false_eq_true,false_iff];intro e;subst e;exact HQ.out rfl,by first | exact hb | exact below_drew hb⟩
          · clear q0
            have q3:¬ ts[k].nm.toList=ts'[k].nm.toList:=fun e=>q1 (str_inj e)
            go_wp2_with fail
            go_region
            all_goals go_wp2
            all_goals go_ret
            all_goals exact ⟨false,rfl,by simp only [Bool.false_eq_true,false_iff];intro e;subst e;exact HQ.out rfl,by first | exact hb | exact below_drew hb⟩
      · go_wp2_with fail
        go_ret
        refine ⟨true,rfl,?_,hb⟩
        simp only [true_iff]
        exact list_ext HL.out (fun i h1 h2=>hE.out i h1 h2 (by omega))
  · have hl2:((ts.length:Int) != (ts'.length:Int))=true:=by simp;omega
    have HL:=Lib.hid hl
    clear hl
    go_wp2_with fail
    go_ret
    exact ⟨false,rfl,by simp only [Bool.false_eq_true,false_iff];intro e;subst e;exact HL.out rfl,Below.refl _ _⟩
set_option maxRecDepth 100000 in
set_option maxHeartbeats 1000000 in
theorem Same_any (x y:LMod) (W:World) (h:ModIn W.heap.size W x) (h':ModIn W.heap.size W y) :
    Calls Tryz.prog 10 #[.agg (modC x).toArray,.agg (modC y).toArray] W (Tells (modD x=modD y) W):=by
  obtain ⟨vp,vn,vc,vs,xp,xn,xc,xs,fp,fn,fc,fs⟩:=x
  obtain ⟨vp',vn',vc',vs',xp',xn',xc',xs',fp',fn',fc',fs'⟩:=y
  have H:=Lib.hid h
  have H':=Lib.hid h'
  clear h h'
  show Calls Tryz.prog 10 #[.agg #[.slice vp vn vc,.slice xp xn xc,.slice fp fn fc],.agg #[.slice vp' vn' vc',.slice xp' xn' xc',.slice fp' fn' fc']] W _
  have hP:=(Past.refl (Nat.le_refl W.heap.size)).alloc (.cells #[.slice vp vn vc,.slice xp xn xc,.slice fp fn fc] 26)
  have A1:Box W.heap.size [.slice vp vn vc,.slice xp xn xc,.slice fp fn fc] (W.alloc (.cells #[.slice vp vn vc,.slice xp xn xc,.slice fp fn fc] 26)):=Box.new W rfl _ _
  have z1:(W.alloc (.cells #[.slice vp vn vc,.slice xp xn xc,.slice fp fn fc] 26)).heap.size=W.heap.size+1:=by simp
  go_enter Tryz.func10,Tryz.ntmps10
  have hP2:=hP.alloc (.cells #[.slice vp' vn' vc',.slice xp' xn' xc',.slice fp' fn' fc'] 26)
  have A2:=A1.alloc (.cells #[.slice vp' vn' vc',.slice xp' xn' xc',.slice fp' fn' fc'] 26)
  have B2:Box (W.heap.size+1) [.slice vp' vn' vc',.slice xp' xn' xc',.slice fp' fn' fc'] ((W.alloc (.cells #[.slice vp vn vc,.slice xp xn xc,.slice fp fn fc] 26)).alloc (.cells #[.slice vp' vn' vc',.slice xp' xn' xc',.slice fp' fn' fc'] 26)):=Box.new _ (by omega) _ _
  go_upto_region 1 with fail
  generalize ((W.alloc (.cells #[.slice vp vn vc,.slice xp xn xc,.slice fp fn fc] 26)).alloc (.cells #[.slice vp' vn' vc',.slice xp' xn' xc',.slice fp' fn' fc'] 26))=w2 at *
  have a0:=A2.get 0 _ rfl
  have b0:=B2.get 0 _ rfl
  clear A1 hP z1
  go_wp2_with fail
  refine (EqVars_any w2 vp vp' vn vn' vc vc' vs vs' (H.out.1.lasts lasts_NoMem hP2.2 hP2.2.size) (H'.out.1.lasts lasts_NoMem hP2.2 hP2.2.size)).mono ?_
  rintro e w3 ⟨bt,rfl,hbt,hb3⟩
  have HBT:=Lib.hid hbt
  clear hbt
  have P3:=hP2.trans ⟨hP2.size,hb3.mono hP2.size⟩
  have A3:=A2.later hb3
  have B3:=B2.later hb3
  clear a0 b0 A2 B2 hb3
  have a1:=A3.get 1 _ rfl
  have b1:=B3.get 1 _ rfl
  cases bt
  · go_wp2_with fail
    go_ret
    exact ⟨false,rfl,by simp only [Bool.false_eq_true,false_iff];exact fun e=>Bool.noConfusion (HBT.out.2 (congrArg PMod.vs e)),P3.2⟩
  · have hA:=Lib.hid (HBT.out.1 rfl)
    clear HBT
    go_wp2_with fail
    refine (EqFunc_X 35 enters_sx sameExtern_any w3 xp xp' xn xn' xc xc' xs xs' (H.out.2.1.lasts lasts_Ext P3.2 P3.2.size) (H'.out.2.1.lasts lasts_Ext P3.2 P3.2.size)).mono ?_
    rintro e w4 ⟨bt,rfl,hbt,hb4⟩
    have HBT:=Lib.hid hbt
    clear hbt
    have P4:=P3.trans ⟨P3.size,hb4.mono P3.size⟩
    have A4:=A3.later hb4
    have B4:=B3.later hb4
    clear a1 b1 A3 B3 hb4
    have a2:=A4.get 2 _ rfl
    have b2:=B4.get 2 _ rfl
    cases bt
    · go_wp2_with fail
      go_ret
      exact ⟨false,rfl,by simp only [Bool.false_eq_true,false_iff];exact fun e=>Bool.noConfusion (HBT.out.2 (congrArg PMod.xs e)),P4.2⟩
    · have hB:=Lib.hid (HBT.out.1 rfl)
      clear HBT
      go_wp2_with fail
      refine (EqFunc_F 37 enters_sf SameFunc_any w4 fp fp' fn fn' fc fc' fs fs' (H.out.2.2.lasts lasts_Fn P4.2 P4.2.size) (H'.out.2.2.lasts lasts_Fn P4.2 P4.2.size)).mono ?_
      rintro e w5 ⟨bt,rfl,hbt,hb5⟩
      have HBT:=Lib.hid hbt
      clear hbt
      go_wp2_with fail
      go_ret
      refine ⟨bt,rfl,HBT.out.trans ?_,P4.2.trans (hb5.mono P4.size)⟩
      constructor
      · intro e
        show (⟨vs,xs.map extD,fs.map fnD⟩:PMod)=⟨vs',xs'.map extD,fs'.map fnD⟩
        rw [hA.out,hB.out,e]
      · exact fun e=>congrArg PMod.fs e
def callD (m:PMod) (n:Int):Bool×List Int×Int :=
  if 0≤n then (match m.fs[n.toNat]? with | some f=>(true,f.ps,f.rt) | none=>(false,[],0))
  else (match m.xs[(-1 - n).toNat]? with | some x=>(true,x.ps,x.rt) | none=>(false,[],0))
theorem callD_fn (m:LMod) (N:Nat) (h:N<m.fs.length):callD (modD m) (N:Int)=(true,m.fs[N].ps,m.fs[N].rt):=by
  unfold callD modD
  rw [if_pos (by omega)]
  simp [List.getElem?_map,List.getElem?_eq_getElem h,fnD]
theorem callD_fn_no (m:LMod) (N:Nat) (h:¬ N<m.fs.length):callD (modD m) (N:Int)=(false,[],0):=by
  unfold callD modD
  rw [if_pos (by omega)]
  simp [List.getElem?_map,List.getElem?_eq_none (Nat.le_of_not_lt h)]
theorem callD_ext (m:LMod) (N:Nat) (h:N<m.xs.length):callD (modD m) (-1 - (N:Int))=(true,m.xs[N].ps,m.xs[N].rt):=by
  unfold callD modD
  rw [if_neg (by omega),show (-1 - (-1 - (N:Int))).toNat=N by omega]
  simp [List.getElem?_map,List.getElem?_eq_getElem h,extD]
theorem callD_ext_no (m:LMod) (N:Nat) (h:¬ N<m.xs.length):callD (modD m) (-1 - (N:Int))=(false,[],0):=by
  unfold callD modD
  rw [if_neg (by omega),show (-1 - (-1 - (N:Int))).toNat=N by omega]
  simp [List.getElem?_map,List.getElem?_eq_none (Nat.le_of_not_lt h)]
def PTold (m:LMod) (n:Int) (W:World) (e:Ending) (w':World):Prop :=
  ∃ p k c ps t b,e=.returned (.tuple #[.slice p k c,.int .i64 t,.bool b])∧callD (modD m) n=(b,ps,t)∧Past W.heap.size W w'∧ListOwn 3 1 intC NoOwn W.heap.size w'.heap.size w' p k c ps
theorem fnZ_le {m:LMod} (N:Nat) (h:N<m.fs.length) (hq:modZ (modD m)≤1048576):m.fs[N].ps.length≤1048576:=by
  have h1:=fnsZ_mem (List.mem_map_of_mem (f:=fnD) (List.getElem_mem h))
  have h2:m.vs.length+((m.xs.map extD).map extZ).sum+((m.fs.map fnD).map fnZ).sum≤1048576:=hq
  have h3:m.fs[N].ps.length≤fnZ (fnD m.fs[N]):=by unfold fnZ fnD;simp only;omega
  omega
theorem extZ_le {m:LMod} (N:Nat) (h:N<m.xs.length) (hq:modZ (modD m)≤1048576):m.xs[N].ps.length≤1048576:=by
  have h1:=extsZ_mem (List.mem_map_of_mem (f:=extD) (List.getElem_mem h))
  have h2:m.vs.length+((m.xs.map extD).map extZ).sum+((m.fs.map fnD).map fnZ).sum≤1048576:=hq
  have h3:m.xs[N].ps.length≤extZ (extD m.xs[N]):=by unfold extZ extD;simp only;omega
  omega
set_option maxRecDepth 100000 in
set_option maxHeartbeats 1000000 in
theorem Callee_own (m:LMod) (n:Int) (hn:-9223372036854775808≤n) (hn':n≤9223372036854775807) (hq:modZ (modD m)≤1048576) (W:World) (h:ModIn W.heap.size W m) :
    Calls Tryz.prog 97 #[.agg (modC m).toArray,.int .i64 n] W (PTold m n W):=by
  obtain ⟨vp,vn,vc,vs,xp,xn,xc,xs,fp,fn,fc,fs⟩:=m
  obtain ⟨-,h2,h3⟩:=h
  simp only at h2 h3
  obtain rfl:xn=xs.length:=h2.1
  obtain rfl:fn=fs.length:=h3.1
  have k2:=h2.2.1
  have k3:=h2.2.2.1
  have k2':=h3.2.1
  have k3':=h3.2.2.1
  unfold maxLen at k3 k3'
  have H2:=Lib.hid h2
  have H3:=Lib.hid h3
  clear h2 h3
  show Calls Tryz.prog 97 #[.agg #[.slice vp vn vc,.slice xp xs.length xc,.slice fp fs.length fc],.int .i64 n] W (PTold ⟨vp,vn,vc,vs,xp,xs.length,xc,xs,fp,fs.length,fc,fs⟩ n W)
  have hP:=(Past.refl (Nat.le_refl W.heap.size)).alloc (.cells #[.slice vp vn vc,.slice xp xs.length xc,.slice fp fs.length fc] 26)
  have A1:Box W.heap.size [.slice vp vn vc,.slice xp xs.length xc,.slice fp fs.length fc] (W.alloc (.cells #[.slice vp vn vc,.slice xp xs.length xc,.slice fp fs.length fc] 26)):=Box.new W rfl _ _
  have a1:=A1.get 1 _ rfl
  have a2:=A1.get 2 _ rfl
  go_enter Tryz.func97,Tryz.ntmps97
  by_cases hz:0≤n
  · obtain ⟨N,rfl⟩:=Int.eq_ofNat_of_zero_le hz
    by_cases hlt:N<fs.length
    · obtain ⟨a,rfl,ha,c0,c1,c2,c3⟩:=fn_row H3.out N hlt
      have d0:=(hP.2.cell (p:=a.add (N * 4)) (blk_add a _ ha)).trans c0
      have d3:=(hP.2.cell (p:=⟨(a.add (N * 4)).block,(a.add (N * 4)).off+3,none⟩) (blk_add a _ ha)).trans c3
      have d1:=(hP.2.cell (p:=⟨(a.add (N * 4)).block,(a.add (N * 4)).off+1,none⟩) (blk_add a _ ha)).trans c1
      have d2:=(hP.2.cell (p:=⟨(a.add (N * 4)).block,(a.add (N * 4)).off+2,none⟩) (blk_add a _ ha)).trans c2
      have HL:=Lib.hid ((H3.out.2.2.2.2 _ (List.getElem_mem hlt)).1)
      have hzl:fs[N].ps.length≤1048576:=by have:=fnZ_le N hlt hq;omega
      have hP2:=hP.alloc (.cells #[.string fs[N].nm,.slice fs[N].pp fs[N].pn fs[N].pc,.int .i64 fs[N].rt,.slice fs[N].bp fs[N].bn fs[N].bc] 49)
      have F2:Box (W.heap.size+1) [.string fs[N].nm,.slice fs[N].pp fs[N].pn fs[N].pc,.int .i64 fs[N].rt,.slice fs[N].bp fs[N].bn fs[N].bc] ((W.alloc (.cells #[.slice vp vn vc,.slice xp xs.length xc,.slice (some a) fs.length fc] 26)).alloc (.cells #[.string fs[N].nm,.slice fs[N].pp fs[N].pn fs[N].pc,.int .i64 fs[N].rt,.slice fs[N].bp fs[N].bn fs[N].bc] 49)):=Box.new _ (by simp) _ _
      have cI:∀ w,(w.cell? ⟨W.heap.size+1,1,none⟩=some (.slice fs[N].pp fs[N].pn fs[N].pc)∧w.cell? ⟨W.heap.size+1,2,none⟩=some (.int .i64 fs[N].rt)∧W.heap.size+1<w.heap.size∧Below W.heap.size W w)→Calls Tryz.prog 138 #[.slice fs[N].pp fs[N].pn fs[N].pc] w fun e w' => ∃ p' c',e=.returned (.slice p' fs[N].pn c')∧w'.cell? ⟨W.heap.size+1,1,none⟩=some (.slice fs[N].pp fs[N].pn fs[N].pc)∧w'.cell? ⟨W.heap.size+1,2,none⟩=some (.int .i64 fs[N].rt)∧W.heap.size+1<w'.heap.size∧Below W.heap.size W w'∧ListOwn 3 1 intC NoOwn W.heap.size w'.heap.size w' p' fs[N].pn c' fs[N].ps:=by
        rintro w ⟨q1,q2,q3,q4⟩
        refine (copyInts_own w _ _ _ fs[N].ps (HL.out.lasts lasts_NoMem q4 q4.size) hzl).mono ?_
        rintro e w' ⟨p',c',rfl,hp,ho⟩
        obtain ⟨o1,o2,o3,o4⟩:=ho
        exact ⟨p',c',rfl,(hp.2.cell (p:=⟨W.heap.size+1,1,none⟩) q3).trans q1,(hp.2.cell (p:=⟨W.heap.size+1,2,none⟩) q3).trans q2,Nat.lt_of_lt_of_le q3 hp.2.size,q4.trans (hp.2.mono q4.size),o1,o2.mono q4.size,o3,o4.down q4.size⟩
      have f1:=F2.get 1 _ rfl
      have f2:=F2.get 2 _ rfl
      have hb2:=hP2.2
      have HH:=Lib.hid hlt
      clear F2 hzl hP2
      go_wp2_with fail
      go_region_held3 (fun w' => w'.cell? ⟨W.heap.size+1,1,none⟩=some (.slice fs[N].pp fs[N].pn fs[N].pc)∧w'.cell? ⟨W.heap.size+1,2,none⟩=some (.int .i64 fs[N].rt)∧W.heap.size+1<w'.heap.size∧Below W.heap.size W w')
        (((try dsimp only);(repeat' apply And.intro) <;> (first | (with_reducible assumption) | exact f1 | exact f2 | exact k0 | exact k1 | assumption | (rw [World.cell?_drew];with_reducible assumption) | (with_reducible apply below_drew;with_reducible assumption) | (simp <;> omega))))
        (first
          | ((refine (cI _ ?pre).mono ?_);(case pre=>((repeat' apply And.intro) <;> (first | (with_reducible assumption) | (rw [World.cell?_drew];with_reducible assumption) | (with_reducible apply below_drew;with_reducible assumption) | exact f1 | exact f2 | (simp <;> omega))));rintro e w' ⟨p',c',rfl,k0,k1,k2,k3,k4⟩))
      all_goals (try go_wp2)
      all_goals go_ret3
      all_goals first
        | exact ⟨_,_,_,_,_,_,rfl,callD_fn _ N HH.out,⟨Nat.le_refl _,k3⟩,k4⟩
        | exact ⟨_,_,_,_,_,_,rfl,callD_fn _ N HH.out,⟨Nat.le_refl _,below_drew k3⟩,k4.stay local_NoOwn (fun _ _ _=>rfl)⟩
    · go_wp2_with fail
      go_ret3
      exact ⟨_,_,_,_,_,_,rfl,callD_fn_no _ N hlt,hP,own_nil _ hP.size⟩
  · obtain ⟨N,rfl⟩:∃ N:Nat,n=-1 - (N:Int):=⟨(-1 - n).toNat,by omega⟩
    have eN:-1 - (-1 - (N:Int))=N:=by omega
    by_cases hlt:N<xs.length
    · obtain ⟨a,rfl,ha,c0,c1,c2⟩:=ext_row H2.out N hlt
      have d0:=(hP.2.cell (p:=a.add (N * 3)) (blk_add a _ ha)).trans c0
      have d1:=(hP.2.cell (p:=⟨(a.add (N * 3)).block,(a.add (N * 3)).off+1,none⟩) (blk_add a _ ha)).trans c1
      have d2:=(hP.2.cell (p:=⟨(a.add (N * 3)).block,(a.add (N * 3)).off+2,none⟩) (blk_add a _ ha)).trans c2
      have HL:=Lib.hid (H2.out.2.2.2.2 _ (List.getElem_mem hlt))
      have hzl:xs[N].ps.length≤1048576:=by have:=extZ_le N hlt hq;omega
      have hP2:=hP.alloc (.cells #[.string xs[N].nm,.slice xs[N].pp xs[N].pn xs[N].pc,.int .i64 xs[N].rt] 52)
      have F2:Box (W.heap.size+1) [.string xs[N].nm,.slice xs[N].pp xs[N].pn xs[N].pc,.int .i64 xs[N].rt] ((W.alloc (.cells #[.slice vp vn vc,.slice (some a) xs.length xc,.slice fp fs.length fc] 26)).alloc (.cells #[.string xs[N].nm,.slice xs[N].pp xs[N].pn xs[N].pc,.int .i64 xs[N].rt] 52)):=Box.new _ (by simp) _ _
      have cI:∀ w,(w.cell? ⟨W.heap.size+1,1,none⟩=some (.slice xs[N].pp xs[N].pn xs[N].pc)∧w.cell? ⟨W.heap.size+1,2,none⟩=some (.int .i64 xs[N].rt)∧W.heap.size+1<w.heap.size∧Below W.heap.size W w)→Calls Tryz.prog 138 #[.slice xs[N].pp xs[N].pn xs[N].pc] w fun e w' => ∃ p' c',e=.returned (.slice p' xs[N].pn c')∧w'.cell? ⟨W.heap.size+1,1,none⟩=some (.slice xs[N].pp xs[N].pn xs[N].pc)∧w'.cell? ⟨W.heap.size+1,2,none⟩=some (.int .i64 xs[N].rt)∧W.heap.size+1<w'.heap.size∧Below W.heap.size W w'∧ListOwn 3 1 intC NoOwn W.heap.size w'.heap.size w' p' xs[N].pn c' xs[N].ps:=by
        rintro w ⟨q1,q2,q3,q4⟩
        refine (copyInts_own w _ _ _ xs[N].ps (HL.out.lasts lasts_NoMem q4 q4.size) hzl).mono ?_
        rintro e w' ⟨p',c',rfl,hp,ho⟩
        obtain ⟨o1,o2,o3,o4⟩:=ho
        exact ⟨p',c',rfl,(hp.2.cell (p:=⟨W.heap.size+1,1,none⟩) q3).trans q1,(hp.2.cell (p:=⟨W.heap.size+1,2,none⟩) q3).trans q2,Nat.lt_of_lt_of_le q3 hp.2.size,q4.trans (hp.2.mono q4.size),o1,o2.mono q4.size,o3,o4.down q4.size⟩
      have f1:=F2.get 1 _ rfl
      have f2:=F2.get 2 _ rfl
      have hb2:=hP2.2
      have HH:=Lib.hid hlt
      clear F2 hzl hP2
      go_wp2_with fail
      go_region_held3 (fun w' => w'.cell? ⟨W.heap.size+1,1,none⟩=some (.slice xs[N].pp xs[N].pn xs[N].pc)∧w'.cell? ⟨W.heap.size+1,2,none⟩=some (.int .i64 xs[N].rt)∧W.heap.size+1<w'.heap.size∧Below W.heap.size W w')
        (((try dsimp only);(repeat' apply And.intro) <;> (first | (with_reducible assumption) | exact f1 | exact f2 | exact k0 | exact k1 | assumption | (rw [World.cell?_drew];with_reducible assumption) | (with_reducible apply below_drew;with_reducible assumption) | (simp <;> omega))))
        (first
          | ((refine (cI _ ?pre).mono ?_);(case pre=>((repeat' apply And.intro) <;> (first | (with_reducible assumption) | (rw [World.cell?_drew];with_reducible assumption) | (with_reducible apply below_drew;with_reducible assumption) | exact f1 | exact f2 | (simp <;> omega))));rintro e w' ⟨p',c',rfl,k0,k1,k2,k3,k4⟩))
      all_goals (try go_wp2)
      all_goals go_ret3
      all_goals first
        | exact ⟨_,_,_,_,_,_,rfl,callD_ext _ N HH.out,⟨Nat.le_refl _,k3⟩,k4⟩
        | exact ⟨_,_,_,_,_,_,rfl,callD_ext _ N HH.out,⟨Nat.le_refl _,below_drew k3⟩,k4.stay local_NoOwn (fun _ _ _=>rfl)⟩
    · go_wp2_with fail
      go_ret3
      exact ⟨_,_,_,_,_,_,rfl,callD_ext_no _ N hlt,hP,own_nil _ hP.size⟩
theorem modD_vs {x y:LMod} (e:modD x=modD y):x.vs=y.vs:=congrArg PMod.vs e
theorem modD_xs {x y:LMod} (e:modD x=modD y):x.xs.map extD=y.xs.map extD:=congrArg PMod.xs e
theorem modD_fs {x y:LMod} (e:modD x=modD y):x.fs.map fnD=y.fs.map fnD:=congrArg PMod.fs e
set_option maxRecDepth 100000 in
set_option maxHeartbeats 1000000 in
theorem Callee_at (m:LMod) (n:Int) (hn:-9223372036854775808≤n) (hn':n≤9223372036854775807) (hq:(∀ f∈m.fs,f.ps.length≤1048576)∧∀ x∈m.xs,x.ps.length≤1048576) (W:World) (h:ModIn W.heap.size W m) :
    Calls Tryz.prog 97 #[.agg (modC m).toArray,.int .i64 n] W (PTold m n W):=by
  obtain ⟨vp,vn,vc,vs,xp,xn,xc,xs,fp,fn,fc,fs⟩:=m
  obtain ⟨-,h2,h3⟩:=h
  simp only at h2 h3
  obtain rfl:xn=xs.length:=h2.1
  obtain rfl:fn=fs.length:=h3.1
  have k2:=h2.2.1
  have k3:=h2.2.2.1
  have k2':=h3.2.1
  have k3':=h3.2.2.1
  unfold maxLen at k3 k3'
  have H2:=Lib.hid h2
  have H3:=Lib.hid h3
  clear h2 h3
  show Calls Tryz.prog 97 #[.agg #[.slice vp vn vc,.slice xp xs.length xc,.slice fp fs.length fc],.int .i64 n] W (PTold ⟨vp,vn,vc,vs,xp,xs.length,xc,xs,fp,fs.length,fc,fs⟩ n W)
  have hP:=(Past.refl (Nat.le_refl W.heap.size)).alloc (.cells #[.slice vp vn vc,.slice xp xs.length xc,.slice fp fs.length fc] 26)
  have A1:Box W.heap.size [.slice vp vn vc,.slice xp xs.length xc,.slice fp fs.length fc] (W.alloc (.cells #[.slice vp vn vc,.slice xp xs.length xc,.slice fp fs.length fc] 26)):=Box.new W rfl _ _
  have a1:=A1.get 1 _ rfl
  have a2:=A1.get 2 _ rfl
  go_enter Tryz.func97,Tryz.ntmps97
  by_cases hz:0≤n
  · obtain ⟨N,rfl⟩:=Int.eq_ofNat_of_zero_le hz
    by_cases hlt:N<fs.length
    · obtain ⟨a,rfl,ha,c0,c1,c2,c3⟩:=fn_row H3.out N hlt
      have d0:=(hP.2.cell (p:=a.add (N * 4)) (blk_add a _ ha)).trans c0
      have d3:=(hP.2.cell (p:=⟨(a.add (N * 4)).block,(a.add (N * 4)).off+3,none⟩) (blk_add a _ ha)).trans c3
      have d1:=(hP.2.cell (p:=⟨(a.add (N * 4)).block,(a.add (N * 4)).off+1,none⟩) (blk_add a _ ha)).trans c1
      have d2:=(hP.2.cell (p:=⟨(a.add (N * 4)).block,(a.add (N * 4)).off+2,none⟩) (blk_add a _ ha)).trans c2
      have HL:=Lib.hid ((H3.out.2.2.2.2 _ (List.getElem_mem hlt)).1)
      have hzl:fs[N].ps.length≤1048576:=hq.1 _ (List.getElem_mem hlt)
      have hP2:=hP.alloc (.cells #[.string fs[N].nm,.slice fs[N].pp fs[N].pn fs[N].pc,.int .i64 fs[N].rt,.slice fs[N].bp fs[N].bn fs[N].bc] 49)
      have F2:Box (W.heap.size+1) [.string fs[N].nm,.slice fs[N].pp fs[N].pn fs[N].pc,.int .i64 fs[N].rt,.slice fs[N].bp fs[N].bn fs[N].bc] ((W.alloc (.cells #[.slice vp vn vc,.slice xp xs.length xc,.slice (some a) fs.length fc] 26)).alloc (.cells #[.string fs[N].nm,.slice fs[N].pp fs[N].pn fs[N].pc,.int .i64 fs[N].rt,.slice fs[N].bp fs[N].bn fs[N].bc] 49)):=Box.new _ (by simp) _ _
      have cI:∀ w,(w.cell? ⟨W.heap.size+1,1,none⟩=some (.slice fs[N].pp fs[N].pn fs[N].pc)∧w.cell? ⟨W.heap.size+1,2,none⟩=some (.int .i64 fs[N].rt)∧W.heap.size+1<w.heap.size∧Below W.heap.size W w)→Calls Tryz.prog 138 #[.slice fs[N].pp fs[N].pn fs[N].pc] w fun e w' => ∃ p' c',e=.returned (.slice p' fs[N].pn c')∧w'.cell? ⟨W.heap.size+1,1,none⟩=some (.slice fs[N].pp fs[N].pn fs[N].pc)∧w'.cell? ⟨W.heap.size+1,2,none⟩=some (.int .i64 fs[N].rt)∧W.heap.size+1<w'.heap.size∧Below W.heap.size W w'∧ListOwn 3 1 intC NoOwn W.heap.size w'.heap.size w' p' fs[N].pn c' fs[N].ps:=by
        rintro w ⟨q1,q2,q3,q4⟩
        refine (copyInts_own w _ _ _ fs[N].ps (HL.out.lasts lasts_NoMem q4 q4.size) hzl).mono ?_
        rintro e w' ⟨p',c',rfl,hp,ho⟩
        obtain ⟨o1,o2,o3,o4⟩:=ho
        exact ⟨p',c',rfl,(hp.2.cell (p:=⟨W.heap.size+1,1,none⟩) q3).trans q1,(hp.2.cell (p:=⟨W.heap.size+1,2,none⟩) q3).trans q2,Nat.lt_of_lt_of_le q3 hp.2.size,q4.trans (hp.2.mono q4.size),o1,o2.mono q4.size,o3,o4.down q4.size⟩
      have f1:=F2.get 1 _ rfl
      have f2:=F2.get 2 _ rfl
      have hb2:=hP2.2
      have HH:=Lib.hid hlt
      clear F2 hzl hP2
      go_wp2_with fail
      go_region_held3 (fun w' => w'.cell? ⟨W.heap.size+1,1,none⟩=some (.slice fs[N].pp fs[N].pn fs[N].pc)∧w'.cell? ⟨W.heap.size+1,2,none⟩=some (.int .i64 fs[N].rt)∧W.heap.size+1<w'.heap.size∧Below W.heap.size W w')
        (((try dsimp only);(repeat' apply And.intro) <;> (first | (with_reducible assumption) | exact f1 | exact f2 | exact k0 | exact k1 | assumption | (rw [World.cell?_drew];with_reducible assumption) | (with_reducible apply below_drew;with_reducible assumption) | (simp <;> omega))))
        (first
          | ((refine (cI _ ?pre).mono ?_);(case pre=>((repeat' apply And.intro) <;> (first | (with_reducible assumption) | (rw [World.cell?_drew];with_reducible assumption) | (with_reducible apply below_drew;with_reducible assumption) | exact f1 | exact f2 | (simp <;> omega))));rintro e w' ⟨p',c',rfl,k0,k1,k2,k3,k4⟩))
      all_goals (try go_wp2)
      all_goals go_ret3
      all_goals first
        | exact ⟨_,_,_,_,_,_,rfl,callD_fn _ N HH.out,⟨Nat.le_refl _,k3⟩,k4⟩
        | exact ⟨_,_,_,_,_,_,rfl,callD_fn _ N HH.out,⟨Nat.le_refl _,below_drew k3⟩,k4.stay local_NoOwn (fun _ _ _=>rfl)⟩
    · go_wp2_with fail
      go_ret3
      exact ⟨_,_,_,_,_,_,rfl,callD_fn_no _ N hlt,hP,own_nil _ hP.size⟩
  · obtain ⟨N,rfl⟩:∃ N:Nat,n=-1 - (N:Int):=⟨(-1 - n).toNat,by omega⟩
    have eN:-1 - (-1 - (N:Int))=N:=by omega
    by_cases hlt:N<xs.length
    · obtain ⟨a,rfl,ha,c0,c1,c2⟩:=ext_row H2.out N hlt
      have d0:=(hP.2.cell (p:=a.add (N * 3)) (blk_add a _ ha)).trans c0
      have d1:=(hP.2.cell (p:=⟨(a.add (N * 3)).block,(a.add (N * 3)).off+1,none⟩) (blk_add a _ ha)).trans c1
      have d2:=(hP.2.cell (p:=⟨(a.add (N * 3)).block,(a.add (N * 3)).off+2,none⟩) (blk_add a _ ha)).trans c2
      have HL:=Lib.hid (H2.out.2.2.2.2 _ (List.getElem_mem hlt))
      have hzl:xs[N].ps.length≤1048576:=hq.2 _ (List.getElem_mem hlt)
      have hP2:=hP.alloc (.cells #[.string xs[N].nm,.slice xs[N].pp xs[N].pn xs[N].pc,.int .i64 xs[N].rt] 52)
      have F2:Box (W.heap.size+1) [.string xs[N].nm,.slice xs[N].pp xs[N].pn xs[N].pc,.int .i64 xs[N].rt] ((W.alloc (.cells #[.slice vp vn vc,.slice (some a) xs.length xc,.slice fp fs.length fc] 26)).alloc (.cells #[.string xs[N].nm,.slice xs[N].pp xs[N].pn xs[N].pc,.int .i64 xs[N].rt] 52)):=Box.new _ (by simp) _ _
      have cI:∀ w,(w.cell? ⟨W.heap.size+1,1,none⟩=some (.slice xs[N].pp xs[N].pn xs[N].pc)∧w.cell? ⟨W.heap.size+1,2,none⟩=some (.int .i64 xs[N].rt)∧W.heap.size+1<w.heap.size∧Below W.heap.size W w)→Calls Tryz.prog 138 #[.slice xs[N].pp xs[N].pn xs[N].pc] w fun e w' => ∃ p' c',e=.returned (.slice p' xs[N].pn c')∧w'.cell? ⟨W.heap.size+1,1,none⟩=some (.slice xs[N].pp xs[N].pn xs[N].pc)∧w'.cell? ⟨W.heap.size+1,2,none⟩=some (.int .i64 xs[N].rt)∧W.heap.size+1<w'.heap.size∧Below W.heap.size W w'∧ListOwn 3 1 intC NoOwn W.heap.size w'.heap.size w' p' xs[N].pn c' xs[N].ps:=by
        rintro w ⟨q1,q2,q3,q4⟩
        refine (copyInts_own w _ _ _ xs[N].ps (HL.out.lasts lasts_NoMem q4 q4.size) hzl).mono ?_
        rintro e w' ⟨p',c',rfl,hp,ho⟩
        obtain ⟨o1,o2,o3,o4⟩:=ho
        exact ⟨p',c',rfl,(hp.2.cell (p:=⟨W.heap.size+1,1,none⟩) q3).trans q1,(hp.2.cell (p:=⟨W.heap.size+1,2,none⟩) q3).trans q2,Nat.lt_of_lt_of_le q3 hp.2.size,q4.trans (hp.2.mono q4.size),o1,o2.mono q4.size,o3,o4.down q4.size⟩
      have f1:=F2.get 1 _ rfl
      have f2:=F2.get 2 _ rfl
      have hb2:=hP2.2
      have HH:=Lib.hid hlt
      clear F2 hzl hP2
      go_wp2_with fail
      go_region_held3 (fun w' => w'.cell? ⟨W.heap.size+1,1,none⟩=some (.slice xs[N].pp xs[N].pn xs[N].pc)∧w'.cell? ⟨W.heap.size+1,2,none⟩=some (.int .i64 xs[N].rt)∧W.heap.size+1<w'.heap.size∧Below W.heap.size W w')
        (((try dsimp only);(repeat' apply And.intro) <;> (first | (with_reducible assumption) | exact f1 | exact f2 | exact k0 | exact k1 | assumption | (rw [World.cell?_drew];with_reducible assumption) | (with_reducible apply below_drew;with_reducible assumption) | (simp <;> omega))))
        (first
          | ((refine (cI _ ?pre).mono ?_);(case pre=>((repeat' apply And.intro) <;> (first | (with_reducible assumption) | (rw [World.cell?_drew];with_reducible assumption) | (with_reducible apply below_drew;with_reducible assumption) | exact f1 | exact f2 | (simp <;> omega))));rintro e w' ⟨p',c',rfl,k0,k1,k2,k3,k4⟩))
      all_goals (try go_wp2)
      all_goals go_ret3
      all_goals first
        | exact ⟨_,_,_,_,_,_,rfl,callD_ext _ N HH.out,⟨Nat.le_refl _,k3⟩,k4⟩
        | exact ⟨_,_,_,_,_,_,rfl,callD_ext _ N HH.out,⟨Nat.le_refl _,below_drew k3⟩,k4.stay local_NoOwn (fun _ _ _=>rfl)⟩
    · go_wp2_with fail
      go_ret3
      exact ⟨_,_,_,_,_,_,rfl,callD_ext_no _ N hlt,hP,own_nil _ hP.size⟩
theorem callD_calR {mm:PMod} {n:Int} {bb:Bool} {ps:List Int} {t:Int} (h:callD mm n=(bb,ps,t)):t=(calR mm.xs mm.fs n).getD 0:=by
  unfold callD at h
  unfold calR
  split at h
  · rename_i h0
    rw [if_pos h0]
    cases hm:mm.fs[n.toNat]? with
    | none=>rw [hm] at h;cases h;rfl
    | some f=>rw [hm] at h;cases h;rfl
  · rename_i h0
    rw [if_neg h0]
    cases hm:mm.xs[(-1 - n).toNat]? with
    | none=>rw [hm] at h;cases h;rfl
    | some f=>rw [hm] at h;cases h;rfl
def PsOk (mm:PMod):Prop:=(∀ f∈mm.fs,f.ps.length≤1048576)∧∀ x∈mm.xs,x.ps.length≤1048576
theorem Px.callee {B b:Nat} {W w:World} {en:Tok} {m:LMod} {s:RS} {Z:As} (h:Px B W b en m s Z w) (hp:PsOk (modD m)) (n:Int) (hn:-9223372036854775808≤n) (hn':n≤9223372036854775807) :
    Calls Tryz.prog 97 #[.agg #[.slice m.vp m.vn m.vc,.slice m.xp m.xn m.xc,.slice m.fp m.fn m.fc],.int .i64 n] w (fun e w' => ∃ p k c bb,e=.returned (.tuple #[.slice p k c,.int .i64 ((calR (modD m).xs (modD m).fs n).getD 0),.bool bb])∧Below w.heap.size w w'):=by
  have hin:=mod_in (Pk.satZ h).1
  have C:=Callee_at m n hn hn' ⟨fun f hf=>hp.1 (fnD f) (List.mem_map_of_mem hf),fun x hx=>hp.2 (extD x) (List.mem_map_of_mem hx)⟩ w hin
  exact C.mono fun e w' ⟨p,k,c,ps,t,bb,e1,e2,e3,_⟩=>⟨p,k,c,bb,by rw [e1,callD_calR e2],e3.2⟩
def holeB (c:LB) (code:List LI):LB:={ c with code:=code }
def holeF (f:LFn) (B1 B2:List LB) (c:LB) (code:List LI):LFn:={ f with bs:=B1++holeB c code::B2 }
def hole (m:LMod) (F1 F2:List LFn) (f:LFn) (B1 B2:List LB) (c:LB) (code:List LI):LMod:={ m with fs:=F1++holeF f B1 B2 c code::F2 }
theorem As.all_at_mid {α:Type} (f:α→As) (w:World) (xs:List α) (y:α) (ys:List α):(As.all f (xs++y::ys)).sat w↔(As.all f xs).sat w∧(f y).sat w∧(As.all f ys).sat w:=by
  rw [As.all_at_app,As.all_cons,As.and_at]
theorem As.all_c_mid {α:Type} (f:α→As) (k:Nat) (xs:List α) (y:α) (ys:List α):(As.all f (xs++y::ys)).c k=(As.all f xs).c k+(f y).c k+(As.all f ys).c k:=by
  rw [As.all_c_app,As.all_cons,As.and_c];omega
theorem rowP_congr {α:Type} {B:Nat} {ty:TypeId} {m:Nat} {cel:α→List Value} {p:Option Addr} {n c:Nat} {xs ys:List α} {w:World} (h:rowP B ty m cel p n c xs w) (hl:xs.length=ys.length) (hf:xs.flatMap cel=ys.flatMap cel):rowP B ty m cel p n c ys w :=
  ⟨h.1.trans hl,by rw [← hf];exact h.2⟩
section
variable {B b:Nat} {W w w':World} {en:Tok} {m:LMod} {s:RS} {Z Z':As} {F1 F2:List LFn} {f:LFn} {B1 B2:List LB} {c:LB} {code:List LI} {C1 C2:List LI} {x:LI} {gc:Nat}
theorem Px.cod (h:Px B W b en (hole m F1 F2 f B1 B2 c code) s Z w):∃ Y,St B W ((As.and (rw' B 43 7 liC c.p c.n c.k code) (As.and (As.all (insRow B) code) Y))) w ∧
    ∀ code' w',St B W ((As.and (rw' B 43 7 liC c.p c.n c.k code') (As.and (As.all (insRow B) code') Y))) w'→Px B W b en (hole m F1 F2 f B1 B2 c code') s Z w':=by
  obtain ⟨Y0,hs,back⟩:=Pk.st h
  refine ⟨(As.and (varsAs B m) (As.and (extsAs B m) (As.and (rw' B 49 4 fnC m.fp m.fn m.fc (F1++holeF f B1 B2 c code::F2)) (As.and (As.all (fnAs B) F1) (As.and (As.all (fnAs B) F2) (As.and (rw' B 3 1 intC f.pp f.pn f.pc f.ps) (As.and (rw' B 46 1 blkC f.bp f.bn f.bc (B1++holeB c code::B2)) (As.and (As.all (blkAs B) B1) (As.and (As.all (blkAs B) B2) (As.and Z Y0)))))))))),?_,fun code' w' h' => ?_⟩
  · refine hs.imp ⟨fun w y=>?_,fun k=>?_⟩
    · obtain ⟨⟨⟨y1,y2,y3,y4⟩,y5⟩,y6⟩:=y
      obtain ⟨z1,⟨z2,z3,z4⟩,z5⟩:=(As.all_at_mid (fnAs B) w F1 (holeF f B1 B2 c code) F2).1 y4
      obtain ⟨v1,⟨v2,v3⟩,v4⟩:=(As.all_at_mid (blkAs B) w B1 (holeB c code) B2).1 z4
      exact ⟨v2,v3,y1,y2,y3,z1,z5,z2,z3,v1,v4,y5,y6⟩
    · have e1:=As.all_c_mid (fnAs B) k F1 (holeF f B1 B2 c code) F2
      have e2:=As.all_c_mid (blkAs B) k B1 (holeB c code) B2
      have e3:(fnAs B (holeF f B1 B2 c code)).c k=(rw' B 3 1 intC f.pp f.pn f.pc f.ps).c k+((rw' B 46 1 blkC f.bp f.bn f.bc (B1++holeB c code::B2)).c k+(As.all (blkAs B) (B1++holeB c code::B2)).c k):=rfl
      have e4:(blkAs B (holeB c code)).c k=(rw' B 43 7 liC c.p c.n c.k code).c k+(As.all (insRow B) code).c k:=rfl
      have e5:(modAs B (hole m F1 F2 f B1 B2 c code)).c k=(varsAs B m).c k+((extsAs B m).c k+((rw' B 49 4 fnC m.fp m.fn m.fc (F1++holeF f B1 B2 c code::F2)).c k+(As.all (fnAs B) (F1++holeF f B1 B2 c code::F2)).c k)):=rfl
      simp only [As.and_c]
      omega
  · refine back _ _ (h'.imp ⟨fun w y=>?_,fun k=>?_⟩)
    · obtain ⟨v2,v3,y1,y2,y3,z1,z5,z2,z3,v1,v4,y5,y6⟩:=y
      have q1:rowP B 49 4 fnC m.fp m.fn m.fc (F1++holeF f B1 B2 c code'::F2) w:=rowP_congr y3 (by simp) (by simp [fnC,holeF])
      have q2:rowP B 46 1 blkC f.bp f.bn f.bc (B1++holeB c code'::B2) w:=rowP_congr z3 (by simp) (by simp [blkC,holeB])
      exact ⟨⟨⟨y1,y2,q1,(As.all_at_mid (fnAs B) w F1 (holeF f B1 B2 c code') F2).2 ⟨z1,⟨z2,q2,(As.all_at_mid (blkAs B) w B1 (holeB c code') B2).2 ⟨v1,⟨v2,v3⟩,v4⟩⟩,z5⟩⟩,y5⟩,y6⟩
    · have e1:=As.all_c_mid (fnAs B) k F1 (holeF f B1 B2 c code') F2
      have e2:=As.all_c_mid (blkAs B) k B1 (holeB c code') B2
      have e3:(fnAs B (holeF f B1 B2 c code')).c k=(rw' B 3 1 intC f.pp f.pn f.pc f.ps).c k+((rw' B 46 1 blkC f.bp f.bn f.bc (B1++holeB c code::B2)).c k+(As.all (blkAs B) (B1++holeB c code'::B2)).c k):=rfl
      have e4:(blkAs B (holeB c code')).c k=(rw' B 43 7 liC c.p c.n c.k code').c k+(As.all (insRow B) code').c k:=rfl
      have e5:(modAs B (hole m F1 F2 f B1 B2 c code')).c k=(varsAs B m).c k+((extsAs B m).c k+((rw' B 49 4 fnC m.fp m.fn m.fc (F1++holeF f B1 B2 c code::F2)).c k+(As.all (fnAs B) (F1++holeF f B1 B2 c code'::F2)).c k)):=rfl
      simp only [As.and_c]
      show (modAs B (hole m F1 F2 f B1 B2 c code')).c k+Z.c k+Y0.c k≤_
      omega
theorem Px.ins (h:Px B W b en (hole m F1 F2 f B1 B2 c (C1++x::C2)) s Z w):∃ Y,St B W ((As.and (insRow B x) Y)) w ∧
    ∀ x' w',liC x' = liC x→St B W ((As.and (insRow B x') Y)) w'→Px B W b en (hole m F1 F2 f B1 B2 c (C1++x'::C2)) s Z w':=by
  obtain ⟨Y0,hs,back⟩:=h.cod
  refine ⟨(As.and (rw' B 43 7 liC c.p c.n c.k (C1++x::C2)) (As.and (As.all (insRow B) C1) (As.and (As.all (insRow B) C2) Y0))),hs.imp ⟨fun w y=>?_,fun k=>?_⟩,fun x' w' e h' => back _ _ (h'.imp ⟨fun w y=>?_,fun k=>?_⟩)⟩
  · obtain ⟨y1,y2,y3⟩:=y
    obtain ⟨z1,z2,z3⟩:=(As.all_at_mid (insRow B) w C1 x C2).1 y2
    exact ⟨z2,y1,z1,z3,y3⟩
  · have e1:=As.all_c_mid (insRow B) k C1 x C2
    simp only [As.and_c]
    omega
  · obtain ⟨z2,y1,z1,z3,y3⟩:=y
    exact ⟨rowP_congr y1 (by simp) (by simp [e]),(As.all_at_mid (insRow B) w C1 x' C2).2 ⟨z1,z2,z3⟩,y3⟩
  · have e1:=As.all_c_mid (insRow B) k C1 x' C2
    have e2:(rw' B 43 7 liC c.p c.n c.k (C1++x'::C2)).c k=(rw' B 43 7 liC c.p c.n c.k (C1++x::C2)).c k:=rfl
    simp only [As.and_c]
    omega
theorem row_at' {α:Type} {B:Nat} {ty:TypeId} {m:Nat} {cel:α→List Value} {g:Nat} {n c:Nat} {xs ys:List α} {y:α} {w:World} (hm:∀ x,(cel x).length=m) (h:rowP B ty m cel (some ⟨g,0,none⟩) n c (xs++y::ys) w) :
    (∀ (r:Nat) (u:Value),r<m→(cel y)[r]? = some u→w.cell? ⟨g,xs.length * m+r,none⟩=some u)∧(∀ i,w.frozen? ⟨g,i,none⟩=false)∧g<w.heap.size∧n=xs.length+ys.length+1∧n≤c∧c≤maxLen:=by
  rcases id h.2.2 with ⟨e,h0⟩ | ⟨g',cap,cur,e,hg,hh,k1,k2,_⟩
  · injection e with e1 e2 e3;cases e1
  · injection e with e1 e2 e3
    injection e1 with e1
    injection e1 with e1
    subst e1 e3
    refine ⟨fun r u hr hu=>?_,fun i=>by simp [World.frozen?,hh],(Array.getElem?_eq_some_iff.1 hh).1,by have:=h.1;simp at this;omega,k1,k2⟩
    have:=h.2.cells (g:=g) rfl (xs.length * m+r) u (by rw [flat_get cel m hm (xs++y::ys) xs.length (by simp) r hr];simpa using hu)
    rw [Addr.add_mid,Nat.zero_add] at this
    exact this
theorem Px.cells (h:Px B W b en (hole m F1 F2 f B1 B2 c (C1++x::C2)) s Z w) (hc:c.p=some ⟨gc,0,none⟩):(∀ (r:Nat) (u:Value),r<7→(liC x)[r]? = some u→w.cell? ⟨gc,C1.length * 7+r,none⟩=some u)∧(∀ i,w.frozen? ⟨gc,i,none⟩=false)∧gc<w.heap.size∧x.1.al=x.1.args.length:=by
  have hr:=h.cod
  obtain ⟨Y0,hs,_⟩:=hr
  have h1:rowP B 43 7 liC c.p c.n c.k (C1++x::C2) w:=hs.sat.1
  rw [hc] at h1
  obtain ⟨a1,a2,a3,_⟩:=row_at' (cel:=liC) (m:=7) (fun _=>rfl) h1
  have h2:=((As.all_at_mid (insRow B) w C1 x C2).1 hs.sat.2.1).2.1.1.1
  exact ⟨a1,a2,a3,h2⟩
theorem Px.setc (h:Px B W b en (hole m F1 F2 f B1 B2 c (C1++x::C2)) s Z w) (hc:c.p=some ⟨gc,0,none⟩) (r:Nat) (hr:r<7) (v:Value) (x':LI) (e1:liC x' = (liC x).set r v) (e2:insRow B x' = insRow B x) :
    Px B W b en (hole m F1 F2 f B1 B2 c (C1++x'::C2)) s Z (w.setCell ⟨gc,C1.length * 7+r,none⟩ v):=by
  obtain ⟨Y0,hs,back⟩:=h.cod
  rw [hc] at hs
  have hu:=hs.upd1 C1.length r v x' (flat_set1 liC 7 (by decide) (fun _=>rfl) (C1++x::C2) C1.length r (by simp) hr v x' (by simpa using e1))
  have es:(C1++x::C2).set C1.length x' = C1++x'::C2:=by simp
  rw [es,← hc] at hu
  refine back _ _ (hu.imp ⟨fun w y=>⟨y.1,?_,y.2.2⟩,fun k=>?_⟩)
  · obtain ⟨z1,z2,z3⟩:=(As.all_at_mid (insRow B) w C1 x C2).1 y.2.1
    exact (As.all_at_mid (insRow B) w C1 x' C2).2 ⟨z1,by rw [e2];exact z2,z3⟩
  · have k1:=As.all_c_mid (insRow B) k C1 x C2
    have k2:=As.all_c_mid (insRow B) k C1 x' C2
    rw [e2] at k2
    simp only [As.and_c]
    omega
theorem Px.arg {A1 A2:List Arg} {a:Arg} {ga:Nat} (h:Px B W b en (hole m F1 F2 f B1 B2 c (C1++x::C2)) s Z w) (ha:x.1.args=A1++a::A2) (hp:x.1.ap=some ⟨ga,0,none⟩) :
    ((w.cell? ⟨ga,A1.length * 3,none⟩=some (.int .i64 a.kind)∧w.cell? ⟨ga,A1.length * 3+1,none⟩=some (.int .i64 a.n)∧w.cell? ⟨ga,A1.length * 3+2,none⟩=some (.int .u64 a.bits))∧(∀ i,w.frozen? ⟨ga,i,none⟩=false)∧ga<w.heap.size∧x.1.al=A1.length+A2.length+1∧x.1.al≤x.1.ac∧x.1.ac≤maxLen) ∧
    ∀ v:Int,Px B W b en (hole m F1 F2 f B1 B2 c (C1++({ x.1 with args:=A1++{ a with n:=v }::A2 },x.2)::C2)) s Z (w.setCell ⟨ga,A1.length * 3+1,none⟩ (.int .i64 v)):=by
  obtain ⟨Y0,hs,back⟩:=h.ins
  have h1:rowP B 107 3 argC x.1.ap x.1.al x.1.ac x.1.args w:=hs.sat.1.1
  rw [ha,hp] at h1
  obtain ⟨a1,a2,a3,a4,a5,a6⟩:=row_at' (cel:=argC) (m:=3) (fun _=>rfl) h1
  refine ⟨⟨⟨a1 0 _ (by decide) rfl,a1 1 _ (by decide) rfl,a1 2 _ (by decide) rfl⟩,a2,a3,a4,a5,a6⟩,fun v=>?_⟩
  have h2:St B W ((As.and (rw' B 107 3 argC (some ⟨ga,0,none⟩) x.1.al x.1.ac (A1++a::A2)) ((As.and (rw' B 3 1 intC x.1.tp x.1.tl x.1.tc x.2) Y0)))) w:=hs.imp ⟨fun w y=>⟨by rw [← ha,← hp];exact y.1.1,y.1.2,y.2⟩,fun k=>by simp only [insRow,As.and_c,rw_c,hp];omega⟩
  have hu:=h2.upd1 A1.length 1 (.int .i64 v) { a with n:=v } (flat_set1 argC 3 (by decide) (fun _=>rfl) (A1++a::A2) A1.length 1 (by simp) (by decide) _ _ (by simp [argC]))
  have es:(A1++a::A2).set A1.length { a with n:=v }=A1++{ a with n:=v }::A2:=by simp
  rw [es] at hu
  exact back ({ x.1 with args:=A1++{ a with n:=v }::A2 },x.2) _ rfl (hu.imp ⟨fun w y=>⟨⟨by rw [← hp] at y;exact y.1,y.2.1⟩,y.2.2⟩,fun k=>by simp only [insRow,As.and_c,rw_c,hp];omega⟩)
end
/-! What names are answered by. -/
def heads (mm:PMod):List PVar×List PExt×List (ByteArray×List Int×Int):=(mm.vs,mm.xs,mm.fs.map fun f=>(f.nm,f.ps,f.rt))
theorem findVar_heads {m m':PMod} (h:heads m=heads m'):findVarP m=findVarP m':=by
  have h1:m.vs=m'.vs:=congrArg (fun x=>x.1) h
  funext x
  unfold findVarP
  rw [h1]
theorem findCal_heads {m m':PMod} (h:heads m=heads m'):findCalP m=findCalP m':=by
  have h1:m.xs=m'.xs:=congrArg (fun x=>x.2.1) h
  have h2:(m.fs.map fun f=>(f.nm,f.ps,f.rt))=m'.fs.map fun f=>(f.nm,f.ps,f.rt):=congrArg (fun x=>x.2.2) h
  funext x
  have e:∀ l:List PFn,(l.findIdx? fun v=>byt v.nm==x)=(l.map fun f=>(f.nm,f.ps,f.rt)).findIdx? fun v=>byt v.1==x:=fun l=>by rw [List.findIdx?_map];rfl
  unfold findCalP
  rw [e,e,h1,h2]
theorem calR_heads {m m':PMod} (h:heads m=heads m'):calR m.xs m.fs=calR m'.xs m'.fs:=by
  have h1:m.xs=m'.xs:=congrArg (fun x=>x.2.1) h
  have h2:(m.fs.map fun f=>(f.nm,f.ps,f.rt))=m'.fs.map fun f=>(f.nm,f.ps,f.rt):=congrArg (fun x=>x.2.2) h
  have e:∀ (l:List PFn) (n:Nat),l[n]?.map PFn.rt=(l.map fun f=>(f.nm,f.ps,f.rt))[n]?.map fun v=>v.2.2:=fun l n=>by rw [List.getElem?_map,Option.map_map];rfl
  funext n
  unfold calR
  rw [e,e,h1,h2]
theorem gI_heads {en:Tok} {m m':PMod} (h:heads m=heads m') (asked:List Tok) (x:PIns) (f:Option Flt):gI en m asked x f=gI en m' asked x f:=by
  have e1:gA en m asked=gA en m' asked:=by funext a f;unfold gA;rw [findVar_heads h]
  have e2:gC en m asked x f=gC en m' asked x f:=by unfold gC;rw [findCal_heads h,calR_heads h]
  unfold gI
  rw [e1,e2]
theorem heads_hole {m:LMod} {F1 F2:List LFn} {f:LFn} {B1 B2:List LB} {c:LB} (code code':List LI):heads (modD (hole m F1 F2 f B1 B2 c code))=heads (modD (hole m F1 F2 f B1 B2 c code')):=by
  unfold heads modD hole holeF fnD
  simp
theorem findCal_range {mm:PMod} (h:mlen mm≤1000000) (x:Tx):-1000001≤(findCalP mm x).getD (-1)∧(findCalP mm x).getD (-1)≤1000000:=by
  unfold mlen at h
  unfold findCalP
  cases h1:mm.xs.findIdx? (fun v=>byt v.nm==x) with
  | some k =>
    have:=(List.findIdx?_eq_some_iff_getElem.1 h1).1
    simp only [Option.getD_some]
    omega
  | none =>
    cases h2:mm.fs.findIdx? (fun v=>byt v.nm==x) with
    | some k =>
      have:=(List.findIdx?_eq_some_iff_getElem.1 h2).1
      simp only [Option.map_some,Option.getD_some]
      omega
    | none=>simp only [Option.map_none,Option.getD_none];omega
section
variable {B b:Nat} {W w w':World} {en:Tok} {m:LMod} {s:RS} {Z Z':As} {F1 F2:List LFn} {f:LFn} {B1 B2:List LB} {c:LB} {C1 C2:List LI} {x:LI} {gc:Nat}
theorem Px.mcells {code:List LI} (h:Px B W b en (hole m F1 F2 f B1 B2 c code) s Z w):w.cell? ⟨b,8,none⟩=some (.slice m.vp m.vn m.vc)∧w.cell? ⟨b,9,none⟩=some (.slice m.xp m.xn m.xc)∧w.cell? ⟨b,10,none⟩=some (.slice m.fp m.fn m.fc)∧b<w.heap.size:=by
  obtain ⟨h1,h2,h3,_⟩:=Pk.cells h
  exact ⟨h1,h2,h3,Pk.lt h⟩
theorem Px.calleeH {code:List LI} (h:Px B W b en (hole m F1 F2 f B1 B2 c code) s Z w) (hp:PsOk (modD (hole m F1 F2 f B1 B2 c code))) (n:Int) (hn:-9223372036854775808≤n) (hn':n≤9223372036854775807) :
    Calls Tryz.prog 97 #[.agg #[.slice m.vp m.vn m.vc,.slice m.xp m.xn m.xc,.slice m.fp m.fn m.fc],.int .i64 n] w (fun e w' => ∃ p k c' bb,e=.returned (.tuple #[.slice p k c',.int .i64 ((calR (modD (hole m F1 F2 f B1 B2 c code)).xs (modD (hole m F1 F2 f B1 B2 c code)).fs n).getD 0),.bool bb])∧Below w.heap.size w w') :=
  Px.callee h hp n hn hn'
theorem Px.argsP (h:Px B W b en (hole m F1 F2 f B1 B2 c (C1++x::C2)) s Z w):x.1.al=x.1.args.length∧x.1.al≤maxLen∧(x.1.args≠[]→∃ ga,x.1.ap=some ⟨ga,0,none⟩):=by
  obtain ⟨Y0,hs,back⟩:=h.ins
  have h1:rowP B 107 3 argC x.1.ap x.1.al x.1.ac x.1.args w:=hs.sat.1.1
  refine ⟨h1.1,?_,fun hne=>?_⟩
  · rcases id h1.2.2 with ⟨e,h0⟩ | ⟨g',cap,cur,e,hg,hh,k1,k2,_⟩
    · injection e with e1 e2 e3;rw [e2];exact Nat.zero_le _
    · injection e with e1 e2 e3;rw [← e3] at k1;omega
  · rcases id h1.2.2 with ⟨e,h0⟩ | ⟨g',cap,cur,e,hg,hh,k1,k2,_⟩
    · injection e with e1 e2 e3
      exact absurd (List.eq_nil_of_length_eq_zero (by rw [← h1.1,e2])) hne
    · injection e with e1 e2 e3;exact ⟨g',e1⟩
def Ak (en:Tok) (mm:PMod) (asked:List Tok) (args:List Arg) (f0:Option Flt) (A1 A2:List Arg) (f':Option Flt):Prop :=
  sFold (gA en mm asked) args f0=(A1++(sFold (gA en mm asked) A2 f').1,(sFold (gA en mm asked) A2 f').2)∧∀ a∈A2,ArgIn asked.length a
theorem Ak.step {mm:PMod} {asked:List Tok} {args:List Arg} {f0:Option Flt} {A1 A2:List Arg} {a:Arg} {f':Option Flt} (h:Ak en mm asked args f0 A1 (a::A2) f'):Ak en mm asked args f0 (A1++[(gA en mm asked a f').1]) A2 (gA en mm asked a f').2:=by
  obtain ⟨h1,h2⟩:=h
  refine ⟨?_,fun y hy=>h2 y (List.mem_cons_of_mem _ hy)⟩
  have e:sFold (gA en mm asked) (a::A2) f' = ((gA en mm asked a f').1::(sFold (gA en mm asked) A2 (gA en mm asked a f').2).1,(sFold (gA en mm asked) A2 (gA en mm asked a f').2).2):=rfl
  rw [h1,e]
  simp
end
section
variable {B b:Nat} {W w w':World} {en:Tok} {m:LMod} {s:RS} {Z Z':As} {F1 F2:List LFn} {f:LFn} {B1 B2:List LB} {c:LB} {C1 C2:List LI} {x:LI} {gc:Nat}
theorem Px.varAt {mm:PMod} {code:List LI} {f':Option Flt} (em:heads (modD (hole m F1 F2 f B1 B2 c code))=heads mm) (hts:s.ts=[]) (a:Nat) (ha:a<s.asked.length) (h:Px B W b en (hole m F1 F2 f B1 B2 c code) (wF s f') Z w) :
    Calls Tryz.prog 122 #[.pointer (some ⟨b,0,none⟩),.int .i64 a,.func (.func 116) #[.pointer (some ⟨b,0,none⟩)] #[]] w (fun e w' => e=.returned (.int .i64 ((findVarP mm (nameOf en s.asked a)).getD (-1)))∧Px B W b en (hole m F1 F2 f B1 B2 c code) (wF s (sAnswer en s.asked (findVarP mm) a f')) Z w'):=by
  rw [← findVar_heads em]
  exact answer_any (s:=wF s f') a ha hts 116 (findVarP (modD (hole m F1 F2 f B1 B2 c code))) enters_findV (fun x s1 Z1 w1 h1=>findVar_any x h1) h
theorem Px.calAt {mm:PMod} {code:List LI} {f':Option Flt} (em:heads (modD (hole m F1 F2 f B1 B2 c code))=heads mm) (hts:s.ts=[]) (a:Nat) (ha:a<s.asked.length) (h:Px B W b en (hole m F1 F2 f B1 B2 c code) (wF s f') Z w) :
    Calls Tryz.prog 122 #[.pointer (some ⟨b,0,none⟩),.int .i64 a,.func (.func 119) #[.pointer (some ⟨b,0,none⟩)] #[]] w (fun e w' => e=.returned (.int .i64 ((findCalP mm (nameOf en s.asked a)).getD (-1)))∧Px B W b en (hole m F1 F2 f B1 B2 c code) (wF s (sAnswer en s.asked (findCalP mm) a f')) Z w'):=by
  rw [← findCal_heads em]
  exact answer_any (s:=wF s f') a ha hts 119 (findCalP (modD (hole m F1 F2 f B1 B2 c code))) enters_findC (fun x s1 Z1 w1 h1=>findCallee_any x h1) h
set_option maxRecDepth 100000 in
set_option maxHeartbeats 4000000 in
theorem names_no (hc:c.p=some ⟨gc,0,none⟩) (hop:x.1.op≠30) (hts:s.ts=[]) (hin:∀ a∈x.1.args,ArgIn s.asked.length a) (h:Px B W b en (hole m F1 F2 f B1 B2 c (C1++x::C2)) s Z w) :
    Calls Tryz.prog 79 #[.pointer (some ⟨b,0,none⟩),.pointer (some ⟨gc,C1.length * 7,none⟩)] w (fun e w' => e=.returned (.tuple #[])∧∃ x':LI,insD x' = (gI en (modD (hole m F1 F2 f B1 B2 c (C1++x::C2))) s.asked (insD x) s.flt).1∧Px B W b en (hole m F1 F2 f B1 B2 c (C1++x'::C2)) (wF s (gI en (modD (hole m F1 F2 f B1 B2 c (C1++x::C2))) s.asked (insD x) s.flt).2) Z w'):=by
  obtain ⟨hcell,hfr,hgl,_⟩:=h.cells hc
  obtain ⟨hal,hmx,hap⟩:=h.argsP
  have bl:=Pk.lt h
  obtain ⟨⟨op,reg,ty,nn,fl,ap,al,ac,tp,tl,tc,args⟩,tg⟩:=x
  simp only at hop hin hal hmx hap
  have c0:=hcell 0 _ (by decide) rfl
  have c5:=hcell 5 _ (by decide) rfl
  rw [Nat.add_zero] at c0
  obtain ⟨mm,emm⟩:∃ mm,modD (hole m F1 F2 f B1 B2 c (C1++((⟨op,reg,ty,nn,fl,ap,al,ac,tp,tl,tc,args⟩,tg):LI)::C2))=mm:=⟨_,rfl⟩
  have eg:gI en mm s.asked (insD ((⟨op,reg,ty,nn,fl,ap,al,ac,tp,tl,tc,args⟩,tg):LI)) s.flt=({ insD ((⟨op,reg,ty,nn,fl,ap,al,ac,tp,tl,tc,args⟩,tg):LI) with args:=(sFold (gA en mm s.asked) args s.flt).1 },(sFold (gA en mm s.asked) args s.flt).2):=by
    unfold gI
    rw [show gC en mm s.asked (insD ((⟨op,reg,ty,nn,fl,ap,al,ac,tp,tl,tc,args⟩,tg):LI)) s.flt=(insD ((⟨op,reg,ty,nn,fl,ap,al,ac,tp,tl,tc,args⟩,tg):LI),s.flt) from if_neg hop]
    rfl
  rw [emm]
  have f30:(op==30)=false:=beq_false_of_ne hop
  have HH:=Lib.hid h
  have HN:=Lib.hid (And.intro hal (And.intro hmx (And.intro hap (And.intro hin (And.intro eg (And.intro (congrArg heads emm) (And.intro hts hc)))))))
  clear h hcell hfr hmx hap hin eg emm hts hc hop
  go_enter Tryz.func79,Tryz.ntmps79
  go_wp2_with fail
  go_loopw [43] (fun t43 wr=>∃ (A1 A2:List Arg) (f':Option Flt),t43=.int .i64 (A1.length:Nat)∧Hid (A1.length+A2.length=al∧Px B W b en (hole m F1 F2 f B1 B2 c (C1++((⟨op,reg,ty,nn,fl,ap,al,ac,tp,tl,tc,A1++A2⟩,tg):LI)::C2)) (wF s f') Z wr∧Ak en mm s.asked args s.flt A1 A2 f')) (fun t43 _=>al - (intOf t43).toNat)
  case atStart=>exact ⟨[],args,s.flt,rfl,Lib.hid ⟨by have:=HN.out.1;simp;omega,HH.out,rfl,HN.out.2.2.2.1⟩⟩
  case round =>
    obtain ⟨A1,A2,f',rfl,HR⟩:=hrel
    cases A2 with
    | nil =>
      have hl:A1.length=al:=by have:=HR.out.1;simpa using this
      have hd:decide ((al:Int)<(al:Int))=false:=by simp
      rw [hl]
      clear hl
      go_wp2_with fail
      go_end0
      refine ⟨rfl,((⟨op,reg,ty,nn,fl,ap,al,ac,tp,tl,tc,A1++[]⟩,tg):LI),?_,?_⟩
      · rw [HN.out.2.2.2.2.1,HR.out.2.2.1];rfl
      · rw [HN.out.2.2.2.2.1,HR.out.2.2.1];exact HR.out.2.1
    | cons a A2 =>
      have hne:args≠[]:=fun e=>by have h1:=HR.out.1;have h2:=HN.out.1;rw [e] at h2;simp at h1 h2;omega
      obtain ⟨ga,rfl⟩:=HN.out.2.2.1 hne
      obtain ⟨kd,nv,bits⟩:=a
      obtain ⟨⟨⟨d0,d1,d2⟩,dfr,dgl,dal,dac,dmx⟩,hset⟩:=Px.arg (A1:=A1) (A2:=A2) (a:=⟨kd,nv,bits⟩) (ga:=ga) HR.out.2.1 rfl rfl
      obtain ⟨i,ei⟩:∃ i,A1.length=i:=⟨_,rfl⟩
      have hi:i<al:=by have h1:=HR.out.1;simp at h1;omega
      have HL:=Lib.hid (And.intro ei hi)
      have hd:decide ((i:Int)<(al:Int))=true:=by simp;omega
      simp only at d0 d1 d2 dgl dac
      rw [ei] at d0 d1 d2
      rw [ei]
      have h2:=Px.bpush (Px.b0 HR.out.2.1) rfl [.int .i64 kd,.int .i64 nv,.int .u64 bits] 107
      have HP2:=Lib.hid h2
      have hmax:ac≤9223372036854775807:=by unfold maxLen at dmx;exact dmx
      have halac:al≤ac:=dac
      clear h2 hset dal dac dmx hne ei dfr
      by_cases hk:kd=5
      · subst hk
        obtain ⟨q,rfl,hq⟩:∃ q:Nat,nv=(q:Int)∧q<s.asked.length:=by
          obtain ⟨h1,h2⟩:=HR.out.2.2.2 _ (List.mem_cons_self) rfl
          exact ⟨nv.toNat,by simp only at h1 h2;omega,by simp only at h1 h2;omega⟩
        have CA:∀ {Z':As} w1,Px B W b en (hole m F1 F2 f B1 B2 c (C1++((⟨op,reg,ty,nn,fl,some ⟨ga,0,none⟩,al,ac,tp,tl,tc,A1++(⟨5,(q:Int),bits⟩:Arg)::A2⟩,tg):LI)::C2)) (wF s f') Z' w1→_:=fun {Z'} w1 h1=>Px.varAt (mm:=mm) ((heads_hole _ _).trans HN.out.2.2.2.2.2.1) HN.out.2.2.2.2.2.2.1 q hq h1
        obtain ⟨v,ev⟩:∃ v,(findVarP mm (nameOf en s.asked (q:Int))).getD (-1)=v:=⟨_,rfl⟩
        simp only [ev] at CA
        have e0:=HP2.out.bget 0 rfl
        have b0:=e0.get 0 _ rfl
        have b1:=e0.get 1 _ rfl
        have gbl:=e0.1
        obtain ⟨hcell,hfr,hgl,_⟩:=Px.cells HP2.out HN.out.2.2.2.2.2.2.2
        have c5:=hcell 5 _ (by decide) rfl
        have HV:=Lib.hid (And.intro ev hq)
        clear hcell hfr hgl e0 ev hq
        go_wp2_with fail
        go_region_law (first | (go_simp;(with_reducible refine (CA _ HP2.out.drew).mono ?_);rintro e w5 ⟨rfl,h5⟩;obtain ⟨hcell5,hfr5,hgl5,_⟩:=Px.cells h5 HN.out.2.2.2.2.2.2.2;have c55:=hcell5 5 _ (by decide) rfl;obtain ⟨⟨⟨_,i1,_⟩,ifr,igl,_,_,_⟩,hset⟩:=Px.arg (A1:=A1) (A2:=A2) (a:=⟨5,(q:Int),bits⟩) (ga:=ga) h5 rfl rfl;rw [HL.out.1] at i1 hset;have if1:=ifr (i * 3+1);have HS:=Lib.hid hset;clear hcell5 hfr5 hgl5 ifr hset))
        all_goals
          go_wp2_with fail
          have hS:=(HS.out v).nobx
          have hA:=HR.out.2.2.step
          have eA:gA en mm s.asked (⟨5,(q:Int),bits⟩:Arg) f' = (⟨5,v,bits⟩,sAnswer en s.asked (findVarP mm) (q:Int) f'):=by unfold gA;rw [if_pos rfl,HV.out.1]
          rw [eA] at hA
          refine ⟨⟨A1++[⟨5,v,bits⟩],A2,_,?_,Lib.hid ⟨?_,?_,hA⟩⟩,?_⟩
          · rw [List.length_append,List.length_singleton,HL.out.1];go_num
          · have h1:=HR.out.1;simp at h1 ⊢;omega
          · rw [List.append_assoc];exact hS
          · have h1:=HL.out.2;simp [intOf];omega
      · have hk5:(kd==5)=false:=beq_false_of_ne hk
        have e0:=HP2.out.bget 0 rfl
        have b0:=e0.get 0 _ rfl
        have gbl:=e0.1
        have HK:=Lib.hid hk
        clear e0 hk
        go_wp2_with fail
        have hS:=HP2.out.nobx
        have hA:=HR.out.2.2.step
        have eA:gA en mm s.asked (⟨kd,nv,bits⟩:Arg) f' = (⟨kd,nv,bits⟩,f'):=by unfold gA;rw [if_neg HK.out]
        rw [eA] at hA
        refine ⟨⟨A1++[⟨kd,nv,bits⟩],A2,_,?_,Lib.hid ⟨?_,?_,hA⟩⟩,?_⟩
        · rw [List.length_append,List.length_singleton,HL.out.1];go_num
        · have h1:=HR.out.1;simp at h1 ⊢;omega
        · rw [List.append_assoc];exact hS
        · have h1:=HL.out.2;simp [intOf];omega
end
theorem psOk_heads {m m':PMod} (h:heads m=heads m') (hp:PsOk m):PsOk m':=by
  have h1:m.xs=m'.xs:=congrArg (fun x=>x.2.1) h
  have h2:(m.fs.map fun f=>(f.nm,f.ps,f.rt))=m'.fs.map fun f=>(f.nm,f.ps,f.rt):=congrArg (fun x=>x.2.2) h
  refine ⟨fun f hf=>?_,fun x hx=>hp.2 x (by rw [h1];exact hx)⟩
  have h3:(f.nm,f.ps,f.rt)∈m'.fs.map fun f=>(f.nm,f.ps,f.rt):=List.mem_map_of_mem hf
  rw [← h2] at h3
  obtain ⟨g,hg,e⟩:=List.mem_map.1 h3
  have e2:g.ps=f.ps:=congrArg (fun x=>x.2.1) e
  rw [← e2]
  exact hp.1 g hg
section
variable {B b:Nat} {W w w':World} {en:Tok} {m:LMod} {s:RS} {Z Z':As} {F1 F2:List LFn} {f:LFn} {B1 B2:List LB} {c:LB} {C1 C2:List LI} {x:LI} {gc:Nat}
set_option maxRecDepth 100000 in
set_option maxHeartbeats 4000000 in
theorem names_call (hc:c.p=some ⟨gc,0,none⟩) (hop:x.1.op=30) (hts:s.ts=[]) (hn:0≤x.1.n∧x.1.n<s.asked.length) (hin:∀ a∈x.1.args,ArgIn s.asked.length a) (hp:PsOk (modD (hole m F1 F2 f B1 B2 c (C1++x::C2)))) (hml:mlen (modD (hole m F1 F2 f B1 B2 c (C1++x::C2)))≤1000000) (h:Px B W b en (hole m F1 F2 f B1 B2 c (C1++x::C2)) s Z w) :
    Calls Tryz.prog 79 #[.pointer (some ⟨b,0,none⟩),.pointer (some ⟨gc,C1.length * 7,none⟩)] w (fun e w' => e=.returned (.tuple #[])∧∃ x':LI,insD x' = (gI en (modD (hole m F1 F2 f B1 B2 c (C1++x::C2))) s.asked (insD x) s.flt).1∧Px B W b en (hole m F1 F2 f B1 B2 c (C1++x'::C2)) (wF s (gI en (modD (hole m F1 F2 f B1 B2 c (C1++x::C2))) s.asked (insD x) s.flt).2) Z w'):=by
  obtain ⟨hcell,hfr,hgl,_⟩:=h.cells hc
  obtain ⟨hal,hmx,hap⟩:=h.argsP
  have bl:=Pk.lt h
  obtain ⟨⟨op,reg,ty,nn,fl,ap,al,ac,tp,tl,tc,args⟩,tg⟩:=x
  simp only at hop hin hal hmx hap hn
  subst hop
  obtain ⟨q0,rfl,hq0⟩:∃ q0:Nat,nn=(q0:Int)∧q0<s.asked.length:=⟨nn.toNat,by omega,by omega⟩
  have c0:=hcell 0 _ (by decide) rfl
  have c3:=hcell 3 _ (by decide) rfl
  rw [Nat.add_zero] at c0
  obtain ⟨mm,emm⟩:∃ mm,modD (hole m F1 F2 f B1 B2 c (C1++((⟨30,reg,ty,(q0:Int),fl,ap,al,ac,tp,tl,tc,args⟩,tg):LI)::C2))=mm:=⟨_,rfl⟩
  rw [emm] at hp hml
  rw [emm]
  obtain ⟨v0,ev0⟩:∃ v0,(findCalP mm (nameOf en s.asked (q0:Int))).getD (-1)=v0:=⟨_,rfl⟩
  obtain ⟨f0,ef0⟩:∃ f0,sAnswer en s.asked (findCalP mm) (q0:Int) s.flt=f0:=⟨_,rfl⟩
  obtain ⟨t,et⟩:∃ t,(calR mm.xs mm.fs v0).getD 0=t:=⟨_,rfl⟩
  have hv0:-1000001≤v0∧v0≤1000000:=by rw [← ev0];exact findCal_range hml _
  have eg:gI en mm s.asked (insD ((⟨30,reg,ty,(q0:Int),fl,ap,al,ac,tp,tl,tc,args⟩,tg):LI)) s.flt=({ insD ((⟨30,reg,t,v0,fl,ap,al,ac,tp,tl,tc,args⟩,tg):LI) with args:=(sFold (gA en mm s.asked) args f0).1 },(sFold (gA en mm s.asked) args f0).2):=by
    unfold gI
    rw [show gC en mm s.asked (insD ((⟨30,reg,ty,(q0:Int),fl,ap,al,ac,tp,tl,tc,args⟩,tg):LI)) s.flt=(insD ((⟨30,reg,t,v0,fl,ap,al,ac,tp,tl,tc,args⟩,tg):LI),f0) from (if_pos rfl).trans (by
      show (({ insD ((⟨30,reg,ty,(q0:Int),fl,ap,al,ac,tp,tl,tc,args⟩,tg):LI) with n:=(findCalP mm (nameOf en s.asked (q0:Int))).getD (-1),ty:=(calR mm.xs mm.fs ((findCalP mm (nameOf en s.asked (q0:Int))).getD (-1))).getD 0 }:PIns),sAnswer en s.asked (findCalP mm) (q0:Int) s.flt)=_
      rw [ev0,ef0,et]
      rfl)]
    rfl
  have hh:=congrArg heads emm
  have CA0:=Px.calAt (mm:=mm) (f':=s.flt) hh hts q0 hq0 h
  rw [ev0,ef0] at CA0
  have CC:∀ {Z':As} w1,Px B W b en (hole m F1 F2 f B1 B2 c (C1++((⟨30,reg,ty,v0,fl,ap,al,ac,tp,tl,tc,args⟩,tg):LI)::C2)) (wF s f0) Z' w1→Calls Tryz.prog 97 #[.agg #[.slice m.vp m.vn m.vc,.slice m.xp m.xn m.xc,.slice m.fp m.fn m.fc],.int .i64 v0] w1 (fun e w' => ∃ p k c' bb,e=.returned (.tuple #[.slice p k c',.int .i64 t,.bool bb])∧Below w1.heap.size w1 w'):=fun {Z'} w1 h1=>by
    have hh2:=(heads_hole (m:=m) (F1:=F1) (F2:=F2) (f:=f) (B1:=B1) (B2:=B2) (c:=c) (C1++((⟨30,reg,ty,v0,fl,ap,al,ac,tp,tl,tc,args⟩,tg):LI)::C2) (C1++((⟨30,reg,ty,(q0:Int),fl,ap,al,ac,tp,tl,tc,args⟩,tg):LI)::C2)).trans hh
    have h9:=Px.calleeH h1 (psOk_heads hh2.symm hp) v0 (by omega) (by omega)
    rw [calR_heads hh2,et] at h9
    exact h9
  have HN:=Lib.hid (And.intro hal (And.intro hmx (And.intro hap (And.intro hin (And.intro eg (And.intro hh (And.intro hts hc)))))))
  clear h hcell hfr hmx hap hin eg emm hts hc ev0 ef0 et hp hml hq0 hn hh
  go_enter Tryz.func79,Tryz.ntmps79
  have hmf:∀ (fn:Fn) (first cap:Array Value) (w:World),(Instr.makeFunc fn first cap).run Tryz.prog w=.ok (.func fn first cap) w:=fun _ _ _ _=>rfl
  go_wp2_with ((with_reducible refine CA0.mono ?_);rintro e w1 ⟨rfl,h1⟩;obtain ⟨hcell1,fr1,gl1,_⟩:=Px.cells h1 HN.out.2.2.2.2.2.2.2;have fr3:=fr1 (C1.length * 7+3);have c31:=hcell1 3 _ (by decide) rfl;clear fr1 hcell1;have h2:=Px.setc h1 HN.out.2.2.2.2.2.2.2 3 (by decide) (.int .i64 v0) ((⟨30,reg,ty,v0,fl,ap,al,ac,tp,tl,tc,args⟩,tg):LI) rfl rfl;have HP1:=Lib.hid h2;obtain ⟨x8,x9,x10,bl2⟩:=Px.mcells h2;obtain ⟨hcell2,_,gl2,_⟩:=Px.cells h2 HN.out.2.2.2.2.2.2.2;have c33:=hcell2 3 _ (by decide) rfl;clear hcell2 h2 h1)
  go_region_law (first | (go_simp;(with_reducible refine (CC _ HP1.out.drew).mono ?_);rintro e w3 ⟨p3,k3,c3',bb,rfl,hb3⟩;have h3:=Px.later HP1.out.drew hb3;obtain ⟨hcell3,fr33,gl3,_⟩:=Px.cells h3 HN.out.2.2.2.2.2.2.2;have fr32:=fr33 (C1.length * 7+2);have c32:=hcell3 2 _ (by decide) rfl;clear fr33 hcell3;have h4:=Px.setc h3 HN.out.2.2.2.2.2.2.2 2 (by decide) (.int .i64 t) ((⟨30,reg,t,v0,fl,ap,al,ac,tp,tl,tc,args⟩,tg):LI) rfl rfl;have HP4:=Lib.hid h4;obtain ⟨hcell4,_,gl4,_⟩:=Px.cells h4 HN.out.2.2.2.2.2.2.2;have c5:=hcell4 5 _ (by decide) rfl;clear hcell4 h4 h3))
  all_goals
    go_wp2_with fail
    go_loopw [43] (fun t43 wr=>∃ (A1 A2:List Arg) (f':Option Flt),t43=.int .i64 (A1.length:Nat)∧Hid (A1.length+A2.length=al∧Px B W b en (hole m F1 F2 f B1 B2 c (C1++((⟨30,reg,t,v0,fl,ap,al,ac,tp,tl,tc,A1++A2⟩,tg):LI)::C2)) (wF s f') Z wr∧Ak en mm s.asked args f0 A1 A2 f')) (fun t43 _=>al - (intOf t43).toNat)
    case atStart=>exact ⟨[],args,f0,rfl,Lib.hid ⟨by have:=HN.out.1;simp;omega,HP4.out,rfl,HN.out.2.2.2.1⟩⟩
    case round =>
      obtain ⟨A1,A2,f',rfl,HR⟩:=hrel
      cases A2 with
      | nil =>
        have hl:A1.length=al:=by have:=HR.out.1;simpa using this
        have hd:decide ((al:Int)<(al:Int))=false:=by simp
        rw [hl]
        clear hl
        go_wp2_with fail
        go_end0
        refine ⟨rfl,((⟨30,reg,t,v0,fl,ap,al,ac,tp,tl,tc,A1++[]⟩,tg):LI),?_,?_⟩
        · rw [HN.out.2.2.2.2.1,HR.out.2.2.1];rfl
        · rw [HN.out.2.2.2.2.1,HR.out.2.2.1];exact HR.out.2.1
      | cons a A2 =>
        have hne:args≠[]:=fun e=>by have h1:=HR.out.1;have h2:=HN.out.1;rw [e] at h2;simp at h1 h2;omega
        obtain ⟨ga,rfl⟩:=HN.out.2.2.1 hne
        obtain ⟨kd,nv,bits⟩:=a
        obtain ⟨⟨⟨d0,d1,d2⟩,dfr,dgl,dal,dac,dmx⟩,hset⟩:=Px.arg (A1:=A1) (A2:=A2) (a:=⟨kd,nv,bits⟩) (ga:=ga) HR.out.2.1 rfl rfl
        obtain ⟨i,ei⟩:∃ i,A1.length=i:=⟨_,rfl⟩
        have hi:i<al:=by have h1:=HR.out.1;simp at h1;omega
        have HL:=Lib.hid (And.intro ei hi)
        have hd:decide ((i:Int)<(al:Int))=true:=by simp;omega
        simp only at d0 d1 d2 dgl dac
        rw [ei] at d0 d1 d2
        rw [ei]
        have h2:=Px.bpush (Px.b0 HR.out.2.1) rfl [.int .i64 kd,.int .i64 nv,.int .u64 bits] 107
        have HP2:=Lib.hid h2
        have hmax:ac≤9223372036854775807:=by unfold maxLen at dmx;exact dmx
        have halac:al≤ac:=dac
        clear h2 hset dal dac dmx hne ei dfr
        by_cases hk:kd=5
        · subst hk
          obtain ⟨q,rfl,hq⟩:∃ q:Nat,nv=(q:Int)∧q<s.asked.length:=by
            obtain ⟨h1,h2⟩:=HR.out.2.2.2 _ (List.mem_cons_self) rfl
            exact ⟨nv.toNat,by simp only at h1 h2;omega,by simp only at h1 h2;omega⟩
          have CA:∀ {Z':As} w1,Px B W b en (hole m F1 F2 f B1 B2 c (C1++((⟨30,reg,t,v0,fl,some ⟨ga,0,none⟩,al,ac,tp,tl,tc,A1++(⟨5,(q:Int),bits⟩:Arg)::A2⟩,tg):LI)::C2)) (wF s f') Z' w1→_:=fun {Z'} w1 h1=>Px.varAt (mm:=mm) ((heads_hole _ _).trans HN.out.2.2.2.2.2.1) HN.out.2.2.2.2.2.2.1 q hq h1
          obtain ⟨v,ev⟩:∃ v,(findVarP mm (nameOf en s.asked (q:Int))).getD (-1)=v:=⟨_,rfl⟩
          simp only [ev] at CA
          have e0:=HP2.out.bget 0 rfl
          have b0:=e0.get 0 _ rfl
          have b1:=e0.get 1 _ rfl
          have gbl:=e0.1
          obtain ⟨hcell,hfr,hgl,_⟩:=Px.cells HP2.out HN.out.2.2.2.2.2.2.2
          have c5:=hcell 5 _ (by decide) rfl
          have HV:=Lib.hid (And.intro ev hq)
          clear hcell hfr hgl e0 ev hq
          go_wp2_with fail
          go_region_law (first | (go_simp;(with_reducible refine (CA _ HP2.out.drew).mono ?_);rintro e w5 ⟨rfl,h5⟩;obtain ⟨hcell5,hfr5,hgl5,_⟩:=Px.cells h5 HN.out.2.2.2.2.2.2.2;have c55:=hcell5 5 _ (by decide) rfl;obtain ⟨⟨⟨_,i1,_⟩,ifr,igl,_,_,_⟩,hset⟩:=Px.arg (A1:=A1) (A2:=A2) (a:=⟨5,(q:Int),bits⟩) (ga:=ga) h5 rfl rfl;rw [HL.out.1] at i1 hset;have if1:=ifr (i * 3+1);have HS:=Lib.hid hset;clear hcell5 hfr5 hgl5 ifr hset))
          all_goals
            go_wp2_with fail
            have hS:=(HS.out v).nobx
            have hA:=HR.out.2.2.step
            have eA:gA en mm s.asked (⟨5,(q:Int),bits⟩:Arg) f' = (⟨5,v,bits⟩,sAnswer en s.asked (findVarP mm) (q:Int) f'):=by unfold gA;rw [if_pos rfl,HV.out.1]
            rw [eA] at hA
            refine ⟨⟨A1++[⟨5,v,bits⟩],A2,_,?_,Lib.hid ⟨?_,?_,hA⟩⟩,?_⟩
            · rw [List.length_append,List.length_singleton,HL.out.1];go_num
            · have h1:=HR.out.1;simp at h1 ⊢;omega
            · rw [List.append_assoc];exact hS
            · have h1:=HL.out.2;simp [intOf];omega
        · have hk5:(kd==5)=false:=beq_false_of_ne hk
          have e0:=HP2.out.bget 0 rfl
          have b0:=e0.get 0 _ rfl
          have gbl:=e0.1
          have HK:=Lib.hid hk
          clear e0 hk
          go_wp2_with fail
          have hS:=HP2.out.nobx
          have hA:=HR.out.2.2.step
          have eA:gA en mm s.asked (⟨kd,nv,bits⟩:Arg) f' = (⟨kd,nv,bits⟩,f'):=by unfold gA;rw [if_neg HK.out]
          rw [eA] at hA
          refine ⟨⟨A1++[⟨kd,nv,bits⟩],A2,_,?_,Lib.hid ⟨?_,?_,hA⟩⟩,?_⟩
          · rw [List.length_append,List.length_singleton,HL.out.1];go_num
          · have h1:=HR.out.1;simp at h1 ⊢;omega
          · rw [List.append_assoc];exact hS
          · have h1:=HL.out.2;simp [intOf];omega
end
/-! A fold, half gone. -/
def Sf {α:Type} (g:α→Option Flt→α×Option Flt) (xs:List α) (f0:Option Flt) (A1 A2:List α) (f':Option Flt):Prop :=
  sFold g xs f0=(A1++(sFold g A2 f').1,(sFold g A2 f').2)
theorem Sf.step {α:Type} {g:α→Option Flt→α×Option Flt} {xs:List α} {f0:Option Flt} {A1 A2:List α} {a:α} {f':Option Flt} (h:Sf g xs f0 A1 (a::A2) f'):Sf g xs f0 (A1++[(g a f').1]) A2 (g a f').2:=by
  have e:sFold g (a::A2) f' = ((g a f').1::(sFold g A2 (g a f').2).1,(sFold g A2 (g a f').2).2):=rfl
  unfold Sf at h ⊢
  rw [h,e]
  simp
theorem Sf.fin {α:Type} {g:α→Option Flt→α×Option Flt} {xs:List α} {f0:Option Flt} {A1:List α} {f':Option Flt} (h:Sf g xs f0 A1 [] f'):sFold g xs f0=(A1,f'):=by
  have e:sFold g ([]:List α) f' = ([],f'):=rfl
  unfold Sf at h
  rw [h,e]
  simp
theorem Sf.start {α:Type} {g:α→Option Flt→α×Option Flt} {xs:List α} {f0:Option Flt}:Sf g xs f0 [] xs f0:=rfl
def mF (m:LMod) (fs:List LFn):LMod:={ m with fs:=fs }
def fB (f:LFn) (bs:List LB):LFn:={ f with bs:=bs }
theorem heads_mF {m:LMod} {F1 F2:List LFn} {f f':LFn} (e:(f.nm,f.ps,f.rt)=(f'.nm,f'.ps,f'.rt)):heads (modD (mF m (F1++f::F2)))=heads (modD (mF m (F1++f'::F2))):=by
  have e1:f.nm=f'.nm:=congrArg (fun x=>x.1) e
  have e2:f.ps=f'.ps:=congrArg (fun x=>x.2.1) e
  have e3:f.rt=f'.rt:=congrArg (fun x=>x.2.2) e
  unfold heads modD mF fnD
  simp [e1,e2,e3]
theorem mlen_heads {m m':PMod} (h:heads m=heads m'):mlen m=mlen m':=by
  have h0:m.vs=m'.vs:=congrArg (fun x=>x.1) h
  have h1:m.xs=m'.xs:=congrArg (fun x=>x.2.1) h
  have h2:(m.fs.map fun f=>(f.nm,f.ps,f.rt))=m'.fs.map fun f=>(f.nm,f.ps,f.rt):=congrArg (fun x=>x.2.2) h
  have h3:=congrArg List.length h2
  simp only [List.length_map] at h3
  unfold mlen
  rw [h0,h1,h3]
section
variable {B b:Nat} {W w w':World} {en:Tok} {m:LMod} {s:RS} {Z Z':As} {F1 F2:List LFn} {f:LFn} {B1 B2:List LB} {c:LB} {C1 C2:List LI} {x:LI} {gc:Nat}
theorem row_some {α:Type} {B:Nat} {ty:TypeId} {m:Nat} {cel:α→List Value} {p:Option Addr} {n c:Nat} {xs:List α} {w:World} (h:rowP B ty m cel p n c xs w) (hne:xs≠[]):∃ g,p=some ⟨g,0,none⟩:=by
  rcases id h.2.2 with ⟨e,h0⟩ | ⟨g',cap,cur,e,hg,hh,k1,k2,_⟩
  · injection e with e1 e2 e3
    exact absurd (List.eq_nil_of_length_eq_zero (by rw [← h.1,e2])) hne
  · injection e with e1 e2 e3;exact ⟨g',e1⟩
theorem Px.fsAt (h:Px B W b en (mF m (F1++f::F2)) s Z w):∃ g,m.fp=some ⟨g,0,none⟩∧(w.cell? ⟨g,F1.length * 4,none⟩=some (.string f.nm)∧w.cell? ⟨g,F1.length * 4+1,none⟩=some (.slice f.pp f.pn f.pc)∧w.cell? ⟨g,F1.length * 4+2,none⟩=some (.int .i64 f.rt)∧w.cell? ⟨g,F1.length * 4+3,none⟩=some (.slice f.bp f.bn f.bc))∧g<w.heap.size∧m.fn≤m.fc∧m.fc≤maxLen:=by
  have h1:rowP B 49 4 fnC m.fp m.fn m.fc (F1++f::F2) w:=(Pk.satZ h).1.2.2.1
  obtain ⟨g,e⟩:=row_some h1 (by simp)
  rw [e] at h1
  obtain ⟨a1,a2,a3,a4,a5,a6⟩:=row_at' (cel:=fnC) (m:=4) (fun _=>rfl) h1
  exact ⟨g,e,⟨a1 0 _ (by decide) rfl,a1 1 _ (by decide) rfl,a1 2 _ (by decide) rfl,a1 3 _ (by decide) rfl⟩,a3,a5,a6⟩
theorem Px.bsLen (h:Px B W b en (mF m (F1++f::F2)) s Z w):f.bn=f.bs.length:=by
  have h1:=((As.all_at_mid (fnAs B) w F1 f F2).1 (Pk.satZ h).1.2.2.2).2.1
  exact h1.2.1.1
theorem Px.bsAt (h:Px B W b en (mF m (F1++fB f (B1++c::B2)::F2)) s Z w):(∃ g,f.bp=some ⟨g,0,none⟩∧w.cell? ⟨g,B1.length,none⟩=some (.slice c.p c.n c.k)∧g<w.heap.size∧f.bn≤f.bc∧f.bc≤maxLen)∧c.n=c.code.length:=by
  have h0:=((As.all_at_mid (fnAs B) w F1 (fB f (B1++c::B2)) F2).1 (Pk.satZ h).1.2.2.2).2.1
  have h1:rowP B 46 1 blkC f.bp f.bn f.bc (B1++c::B2) w:=h0.2.1
  obtain ⟨g,e⟩:=row_some h1 (by simp)
  rw [e] at h1
  obtain ⟨a1,a2,a3,a4,a5,a6⟩:=row_at' (cel:=blkC) (m:=1) (fun _=>rfl) h1
  have a10:=a1 0 _ (by decide) rfl
  rw [Nat.mul_one,Nat.add_zero] at a10
  exact ⟨⟨g,e,a10,a3,a5,a6⟩,((As.all_at_mid (blkAs B) w B1 c B2).1 h0.2.2).2.1.1.1⟩
theorem Px.cdAt (h:Px B W b en (hole m F1 F2 f B1 B2 c (C1++x::C2)) s Z w):∃ g,c.p=some ⟨g,0,none⟩∧g<w.heap.size∧c.n≤c.k∧c.k≤maxLen:=by
  obtain ⟨Y0,hs,_⟩:=h.cod
  have h1:rowP B 43 7 liC c.p c.n c.k (C1++x::C2) w:=hs.sat.1
  obtain ⟨g,e⟩:=row_some h1 (by simp)
  rw [e] at h1
  obtain ⟨a1,a2,a3,a4,a5,a6⟩:=row_at' (cel:=liC) (m:=7) (fun _=>rfl) h1
  exact ⟨g,e,a3,a5,a6⟩
theorem names_any {mm:PMod} (hm:heads (modD (hole m F1 F2 f B1 B2 c (C1++x::C2)))=heads mm) (hc:c.p=some ⟨gc,0,none⟩) (hts:s.ts=[]) (hinn:InsInn s.asked.length (insD x)) (hp:PsOk mm) (hml:mlen mm≤1000000) {f':Option Flt} (h:Px B W b en (hole m F1 F2 f B1 B2 c (C1++x::C2)) (wF s f') Z w) :
    Calls Tryz.prog 79 #[.pointer (some ⟨b,0,none⟩),.pointer (some ⟨gc,C1.length * 7,none⟩)] w (fun e w' => e=.returned (.tuple #[])∧∃ x':LI,insD x' = (gI en mm s.asked (insD x) f').1∧Px B W b en (hole m F1 F2 f B1 B2 c (C1++x'::C2)) (wF s (gI en mm s.asked (insD x) f').2) Z w'):=by
  rw [← gI_heads hm]
  by_cases hop:x.1.op=30
  · exact names_call (s:=wF s f') hc hop hts (hinn.1 hop) hinn.2 (psOk_heads hm.symm hp) (by rw [mlen_heads hm];exact hml) h
  · exact names_no (s:=wF s f') hc hop hts hinn.2 h
end
end Go.Proofs.YtmmlfmplggbmiaaGreatDoor
