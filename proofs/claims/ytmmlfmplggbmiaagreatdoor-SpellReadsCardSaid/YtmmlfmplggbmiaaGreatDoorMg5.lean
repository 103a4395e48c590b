/- Several texts in one: PgC, PgF, PgG, PgR, PgH, PgI, PgJ, PgK, PgQ, PgL. -/
import Derived.Deep.RegionLaw
import Derived.Test.YtmmlfmplggbmiaaGreatDoorMg4
namespace Go.Proofs.YtmmlfmplggbmiaaGreatDoor
open Go.RowKit Go.Maps
set_option linter.unusedVariables false
set_option linter.unusedSimpArgs false
theorem step_app {P:Program} {α:Type} {B:Nat} {ty:TypeId} {m:Nat} {cel:α→List Value} {p:Option Addr} {n c:Nat} {xs:List α} {W w:World} {Y:As} {ops:Array Oper} {o:Oper} {a:Act} {K:Act→World→Prop} {Q:Exit→Act→World→Prop} {E:Prop} (hgd:o.guard=none) (s x:Operand) (t:TypeId)
    (ho:o.op=.call { callee:=.builtin .append,args:=#[s,x],argTypes:=#[t,t] })
    (i:TypeInfo) (z:Value) (bytes:Nat) (ht:P.underlying t=some (.slice ty)) (hi:P.info? ty=some i) (hz:i.zero=some z) (hsize:i.size=m) (hby:i.bytes=bytes) (hzs:z.cells.size=m) (hm:0<m)
    (hs:a.eval s=.slice p n c) (h:St B W ((As.and (rw' B ty m cel p n c xs) Y)) w) (y:α) (q:Addr) (cx:Nat) (hx:a.eval x=.slice (some q) 1 cx) (hc:(cel y).length=m) (hq:∀ j u,(cel y)[j]? = some u→w.cell? (q.add j)=some u) (h1:∀ u∈cel y,u.oneCell' = true)
    (h63:xs.length+1≤maxLen) (hbytes:(xs.length+1) * bytes≤140737488355328)
    (k:∀ p' c' w',St B W ((As.and (rw' B ty m cel p' (xs.length+1) c' (xs++[y])) Y)) w'→K (a.put o.dst (.slice p' (xs.length+1) c')) w') :
    if Region.wanted o (yielded ops a.tmps)=true then Oper.wp P o a w K Q else E:=by
  have hn:n=xs.length:=h.sat.1.1
  subst hn
  have hw:Region.wanted o (yielded ops a.tmps)=true:=by simp [Region.wanted,hgd]
  rw [if_pos hw]
  obtain ⟨v',w',hr,h2,h3,-⟩:=run_append_own (P:=P) w B t o.type ty i z m bytes ht hi hz hsize hby hzs hm (.slice p xs.length c) xs.length (xs.flatMap cel) h.sat.1.2 q 1 cx (cel y) (by rw [hc,Nat.one_mul]) hq h1 h63 hbytes h.le
  have h4:=append_where w B t o.type ty i z m bytes ht hi hz hsize hby hm (.slice p xs.length c) xs.length (xs.flatMap cel) h.sat.1.2 q 1 cx (cel y) (by rw [hc,Nat.one_mul]) hq h1 h63 hbytes v' w' hr
  unfold Oper.wp execOp
  simp only [ho,resolve,invoke,builtin,Sem.run_bind,Sem.run_pure,Result.andThen_ok,List.map_toArray,List.map_cons,List.map_nil,hs,hx,hr]
  obtain ⟨p',c',rfl,hS⟩:=h.grown (ys:=[y]) (k:=xs.length+1) rfl (by simpa using h2) h3 h4
  exact k p' c' w' hS
theorem As.asl (a b c:As):((As.and ((As.and a b)) c)).le ((As.and a (As.and b c))):=⟨fun w x=>⟨x.1.1,x.1.2,x.2⟩,fun k=>by simp only [As.and_c];omega⟩
theorem As.asr (a b c:As):((As.and a (As.and b c))).le ((As.and ((As.and a b)) c)):=⟨fun w x=>⟨⟨x.1,x.2.1⟩,x.2.2⟩,fun k=>by simp only [As.and_c];omega⟩
theorem As.drop (a b:As):((As.and a b)).le b:=⟨fun w x=>x.2,fun k=>by simp only [As.and_c];omega⟩
def bxs (bs:List (Nat×List Value)):As:=As.all (fun x=>bx x.1 x.2) bs
theorem As.nob (b:As):b.le ((As.and (bxs []) b)):=⟨fun w x=>⟨trivial,x⟩,fun k=>by show 0+b.c k≤b.c k;omega⟩
section
variable {B:Nat} {W w:World} {Y:As} {bs:List (Nat×List Value)}
theorem St.bpush (h:St B W ((As.and (bxs bs) Y)) w) {g:Nat} (hg:g=w.heap.size) (cs:List Value) (t:TypeId):St B W ((As.and (bxs ((g,cs)::bs)) Y)) (w.alloc (.cells cs.toArray t)) :=
  (h.push hg cs t).imp ⟨fun w x=>⟨⟨x.1,x.2.1⟩,x.2.2⟩,fun k=>by simp only [bxs,As.all_cons,As.and_c];omega⟩
theorem St.bget (h:St B W ((As.and (bxs bs) Y)) w) (i:Nat) {g:Nat} {cs:List Value} (e:bs[i]? = some (g,cs)):Box g cs w:=As.all_mem _ h.sat.1 (g,cs) (List.mem_of_getElem? e)
theorem St.bput (h:St B W ((As.and (bxs bs) Y)) w) (i:Nat) {g:Nat} {cs:List Value} (e:bs[i]? = some (g,cs)) (j:Nat) (v:Value):St B W ((As.and (bxs (bs.set i (g,cs.set j v))) Y)) (w.setCell ⟨g,j,none⟩ v):=by
  obtain ⟨hi,e⟩:=List.getElem?_eq_some_iff.1 e
  have e1:bs=bs.take i++(g,cs)::bs.drop (i+1):=by rw [← e,List.getElem_cons_drop,List.take_append_drop]
  have e2:bs.set i (g,cs.set j v)=bs.take i++(g,cs.set j v)::bs.drop (i+1):=by rw [List.set_eq_take_append_cons_drop,if_pos hi]
  have h1:St B W ((As.and (bx g cs) ((As.and (bxs (bs.take i)) (As.and (bxs (bs.drop (i+1))) Y))))) w:=by
    refine St.imp (X:=(As.and (bxs (bs.take i++(g,cs)::bs.drop (i+1))) Y)) (by rw [← e1];exact h) ⟨fun w x=>?_,fun k=>?_⟩
    · have:=(As.all_at_app _ w _ _).1 x.1
      exact ⟨this.2.1,this.1,this.2.2,x.2⟩
    · simp only [As.and_c,bxs,As.all_c_app,As.all_cons];omega
  rw [e2]
  refine (h1.set j v).imp ⟨fun w x=>⟨(As.all_at_app _ w _ _).2 ⟨x.2.1,x.1,x.2.2.1⟩,x.2.2.2⟩,fun k=>?_⟩
  simp only [As.and_c,bxs,As.all_c_app,As.all_cons,bx_c];omega
end
section
variable {B b:Nat} {W w:World} {en:Tok} {m0 m1 m2 r:Value} {s:RS} {Z:As} {bs:List (Nat×List Value)}
theorem Rd.b0 (h:Rd B W b en m0 m1 m2 r s Z w):Rd B W b en m0 m1 m2 r s ((As.and (bxs []) Z)) w:=h.imp (As.nob _)
theorem Rd.nobx (h:Rd B W b en m0 m1 m2 r s ((As.and (bxs bs) Z)) w):Rd B W b en m0 m1 m2 r s Z w:=h.imp (As.drop _ _)
theorem Rd.bpush (h:Rd B W b en m0 m1 m2 r s ((As.and (bxs bs) Z)) w) {g:Nat} (hg:g=w.heap.size) (cs:List Value) (t:TypeId):Rd B W b en m0 m1 m2 r s ((As.and (bxs ((g,cs)::bs)) Z)) (w.alloc (.cells cs.toArray t)):=by
  obtain ⟨Y,hs,back⟩:=h.st
  exact back _ _ (((hs.imp (As.asl _ _ _)).bpush hg cs t).imp (As.asr _ _ _))
theorem Rd.bget (h:Rd B W b en m0 m1 m2 r s ((As.and (bxs bs) Z)) w) (i:Nat) {g:Nat} {cs:List Value} (e:bs[i]? = some (g,cs)):Box g cs w:=by
  obtain ⟨Y,hs,back⟩:=h.st
  exact (hs.imp (As.asl _ _ _)).bget i e
theorem Rd.bput (h:Rd B W b en m0 m1 m2 r s ((As.and (bxs bs) Z)) w) (i:Nat) {g:Nat} {cs:List Value} (e:bs[i]? = some (g,cs)) (j:Nat) (v:Value):Rd B W b en m0 m1 m2 r s ((As.and (bxs (bs.set i (g,cs.set j v))) Z)) (w.setCell ⟨g,j,none⟩ v):=by
  obtain ⟨Y,hs,back⟩:=h.st
  exact back _ _ (((hs.imp (As.asl _ _ _)).bput i e j v).imp (As.asr _ _ _))
end
section
variable {B b:Nat} {W w:World} {en:Tok} {m0 m1 m2:Value} {s:RS} {Z:As} {bs:List (Nat×List Value)}
theorem Pk.b0 (h:Pk B W b en m0 m1 m2 s Z w):Pk B W b en m0 m1 m2 s ((As.and (bxs []) Z)) w:=h.imp (As.nob _)
theorem Pk.nobx (h:Pk B W b en m0 m1 m2 s ((As.and (bxs bs) Z)) w):Pk B W b en m0 m1 m2 s Z w:=h.imp (As.drop _ _)
theorem Pk.bpush (h:Pk B W b en m0 m1 m2 s ((As.and (bxs bs) Z)) w) {g:Nat} (hg:g=w.heap.size) (cs:List Value) (t:TypeId):Pk B W b en m0 m1 m2 s ((As.and (bxs ((g,cs)::bs)) Z)) (w.alloc (.cells cs.toArray t)):=by
  obtain ⟨Y,hs,back⟩:=h.st
  exact back _ _ (((hs.imp (As.asl _ _ _)).bpush hg cs t).imp (As.asr _ _ _))
theorem Pk.bget (h:Pk B W b en m0 m1 m2 s ((As.and (bxs bs) Z)) w) (i:Nat) {g:Nat} {cs:List Value} (e:bs[i]? = some (g,cs)):Box g cs w:=by
  obtain ⟨Y,hs,back⟩:=h.st
  exact (hs.imp (As.asl _ _ _)).bget i e
theorem Pk.bput (h:Pk B W b en m0 m1 m2 s ((As.and (bxs bs) Z)) w) (i:Nat) {g:Nat} {cs:List Value} (e:bs[i]? = some (g,cs)) (j:Nat) (v:Value):Pk B W b en m0 m1 m2 s ((As.and (bxs (bs.set i (g,cs.set j v))) Z)) (w.setCell ⟨g,j,none⟩ v):=by
  obtain ⟨Y,hs,back⟩:=h.st
  exact back _ _ (((hs.imp (As.asl _ _ _)).bput i e j v).imp (As.asr _ _ _))
end
section
variable {B b:Nat} {W w:World} {en:Tok} {m0 m1 m2:Value} {g0:Nat} {p:PIns×RS} {Z:As} {bs:List (Nat×List Value)}
theorem Ik.b0 (h:Ik B W b en m0 m1 m2 g0 p Z w):Ik B W b en m0 m1 m2 g0 p ((As.and (bxs []) Z)) w:=h.imp (As.nob _)
theorem Ik.nobx (h:Ik B W b en m0 m1 m2 g0 p ((As.and (bxs bs) Z)) w):Ik B W b en m0 m1 m2 g0 p Z w:=h.imp (As.drop _ _)
theorem Ik.bpush (h:Ik B W b en m0 m1 m2 g0 p ((As.and (bxs bs) Z)) w) {g:Nat} (hg:g=w.heap.size) (cs:List Value) (t:TypeId):Ik B W b en m0 m1 m2 g0 p ((As.and (bxs ((g,cs)::bs)) Z)) (w.alloc (.cells cs.toArray t)):=by
  obtain ⟨Y,hs,back⟩:=h.st
  exact back _ _ (((hs.imp (As.asl _ _ _)).bpush hg cs t).imp (As.asr _ _ _))
theorem Ik.bget (h:Ik B W b en m0 m1 m2 g0 p ((As.and (bxs bs) Z)) w) (i:Nat) {g:Nat} {cs:List Value} (e:bs[i]? = some (g,cs)):Box g cs w:=by
  obtain ⟨Y,hs,back⟩:=h.st
  exact (hs.imp (As.asl _ _ _)).bget i e
theorem Ik.bput (h:Ik B W b en m0 m1 m2 g0 p ((As.and (bxs bs) Z)) w) (i:Nat) {g:Nat} {cs:List Value} (e:bs[i]? = some (g,cs)) (j:Nat) (v:Value):Ik B W b en m0 m1 m2 g0 p ((As.and (bxs (bs.set i (g,cs.set j v))) Z)) (w.setCell ⟨g,j,none⟩ v):=by
  obtain ⟨Y,hs,back⟩:=h.st
  exact back _ _ (((hs.imp (As.asl _ _ _)).bput i e j v).imp (As.asr _ _ _))
end
theorem str_tl (b:Tx):(str b).toList=b:=by rw [ByteArray.toList_eq];simp [str]
abbrev tkC (t:Tok):List Value:=[.int .i64 t.kind,.string (str t.body),.int .i64 t.line,.int .i64 t.col]
section
variable {B b:Nat} {W w:World} {en:Tok} {m0 m1 m2 r:Value} {s:RS} {Z:As}
set_option maxRecDepth 100000 in
set_option maxHeartbeats 1000000 in
theorem passed_any (h:Rd B W b en m0 m1 m2 r s Z w) (k:Nat) (x:Tx) :
    Calls Tryz.prog 73 #[.pointer (some ⟨b,0,none⟩),.int .i64 k,.string (str x)] w (fun e w' => e=.returned (.bool (isTk k x (nx en s)))∧Rd B W b en m0 m1 m2 r (sPassed en k x s) Z w'):=by
  unfold sPassed
  have C:=next_any h
  have HH:=Lib.hid h
  clear h
  obtain ⟨t,et⟩:∃ t,nx en s=t:=⟨_,rfl⟩
  rw [et] at C ⊢
  clear et
  unfold isTk
  unfold tkV at C
  by_cases hk:t.kind=k
  · by_cases hx:t.body=x
    · have e:(t.kind==k&&t.body==x)=true:=by simp [hk,hx]
      rw [e,if_pos rfl]
      clear e
      subst hk hx
      go_enter Tryz.func73,Tryz.ntmps73
      go_wp2_with (first | ((with_reducible refine C.mono ?_);rintro e w1 ⟨rfl,h1⟩) | ((with_reducible refine (pass_any ((HH.out.later h1).alloc _)).mono ?_);rintro e w2 ⟨rfl,h2⟩))
      go_ret
      exact ⟨rfl,h2⟩
    · have e:(t.kind==k&&t.body==x)=false:=by simp [hx]
      have e2:((str t.body).toList==(str x).toList)=false:=by rw [str_tl,str_tl];simpa using hx
      rw [e,if_neg (by decide)]
      clear e
      subst hk
      go_enter Tryz.func73,Tryz.ntmps73
      go_wp2_with ((with_reducible refine C.mono ?_);rintro e w1 ⟨rfl,h1⟩)
      go_ret
      exact ⟨rfl,(HH.out.later h1).alloc _⟩
  · have e:(t.kind==k&&t.body==x)=false:=by simp [hk]
    have e2:((t.kind:Int)==(k:Int))=false:=beq_false_of_ne (by omega)
    rw [e,if_neg (by decide)]
    clear e
    go_enter Tryz.func73,Tryz.ntmps73
    go_wp2_with ((with_reducible refine C.mono ?_);rintro e w1 ⟨rfl,h1⟩)
    go_ret
    exact ⟨rfl,(HH.out.later h1).alloc _⟩
set_option maxRecDepth 100000 in
set_option maxHeartbeats 1000000 in
theorem want_any (h:Rd B W b en m0 m1 m2 r s Z w) (k:Nat) :
    Calls Tryz.prog 143 #[.pointer (some ⟨b,0,none⟩),.int .i64 k] w (fun e w' => e=.returned (tkV (nx en s))∧Rd B W b en m0 m1 m2 r (sWant en k s) Z w'):=by
  unfold sWant
  have h0:=h.b0.bpush rfl [.int .i64 0,.string ⟨#[]⟩,.int .i64 0,.int .i64 0] 81
  have C:=next_any h0
  obtain ⟨t,et⟩:∃ t,nx en s=t:=⟨_,rfl⟩
  rw [et] at C ⊢
  have HH:=Lib.hid (And.intro h0 et)
  obtain ⟨z,ez⟩:∃ z,w.heap.size=z:=⟨_,rfl⟩
  rw [ez] at HH
  clear h et h0
  have EZ:=Lib.hid ez
  try simp only [ez] at C
  unfold tkV at C ⊢
  have fin:∀ (q:RS) (g:Nat) w3,Rd B W b en m0 m1 m2 r q ((As.and (bxs [(g,tkC t),(z,[.int .i64 0,.string ⟨#[]⟩,.int .i64 0,.int .i64 0])]) Z)) w3 →
      (w3.cell? ⟨g,0,none⟩=some (.int .i64 t.kind)∧w3.cell? ⟨g,1,none⟩=some (.string (str t.body))∧w3.cell? ⟨g,2,none⟩=some (.int .i64 t.line)∧w3.cell? ⟨g,3,none⟩=some (.int .i64 t.col)) ∧
      (w3.cell? ⟨z,0,none⟩=some (.int .i64 0)∧w3.cell? ⟨z,1,none⟩=some (.string ⟨#[]⟩)∧w3.cell? ⟨z,2,none⟩=some (.int .i64 0)∧w3.cell? ⟨z,3,none⟩=some (.int .i64 0))∧(∀ i,w3.frozen? ⟨z,i,none⟩=false) ∧
      Rd B W b en m0 m1 m2 r q Z ((((w3.setCell ⟨z,0,none⟩ (.int .i64 t.kind)).setCell ⟨z,1,none⟩ (.string (str t.body))).setCell ⟨z,2,none⟩ (.int .i64 t.line)).setCell ⟨z,3,none⟩ (.int .i64 t.col)):=by
    intro q g w3 h3
    have b0:=h3.bget 0 rfl
    have b1:=h3.bget 1 rfl
    exact ⟨⟨b0.get 0 _ rfl,b0.get 1 _ rfl,b0.get 2 _ rfl,b0.get 3 _ rfl⟩,⟨b1.get 0 _ rfl,b1.get 1 _ rfl,b1.get 2 _ rfl,b1.get 3 _ rfl⟩,b1.2.1,((((h3.bput 1 rfl 0 _).bput 1 rfl 1 _).bput 1 rfl 2 _).bput 1 rfl 3 _).nobx⟩
  have FIN:=Lib.hid fin
  clear fin
  by_cases hk:t.kind=k
  · rw [if_pos hk]
    subst hk
    go_enter Tryz.func143,Tryz.ntmps143
    go_wp2_with (first | ((with_reducible refine C.mono ?_);rintro e w1 ⟨rfl,h1⟩) | ((with_reducible refine (pass_any ((HH.out.1.later h1).bpush rfl (tkC t) 81)).mono ?_);rintro e w2 ⟨rfl,h2⟩;obtain ⟨⟨y0,y1,y2,y3⟩,⟨x0,x1,x2,x3⟩,fz,hF⟩:=FIN.out _ _ _ h2))
    refine bodyPost_ret (v:=tkV t) (by simp [results,Tryz.results143,go_sem,tkV,x0,x1,x2,x3]) rfl ⟨rfl,hF⟩
  · rw [if_neg hk]
    have e2:((t.kind:Int)==(k:Int))=false:=beq_false_of_ne (by omega)
    go_enter Tryz.func143,Tryz.ntmps143
    go_wp2_with (first | ((with_reducible refine C.mono ?_);rintro e w1 ⟨rfl,h1⟩) | ((with_reducible refine (refuse3 ((HH.out.1.later h1).bpush rfl (tkC t) 81) t).mono ?_);rintro e w2 ⟨rfl,h2⟩;obtain ⟨⟨y0,y1,y2,y3⟩,_⟩:=FIN.out _ _ _ h2) | ((with_reducible refine (pass_any h2).mono ?_);rintro e w3 ⟨rfl,h3⟩;obtain ⟨⟨y0,y1,y2,y3⟩,⟨x0,x1,x2,x3⟩,fz,hF⟩:=FIN.out _ _ _ h3))
    refine bodyPost_ret (v:=tkV t) (by simp [results,Tryz.results143,go_sem,tkV,x0,x1,x2,x3]) rfl ⟨rfl,hF⟩
end
def Kn (B:Nat) (W:World) (en:Tok):Prop:=Stc W∧W.heap.size≤B∧Gt en∧en.kind=6
section
variable {B b:Nat} {W w:World} {en:Tok} {m0 m1 m2 r:Value} {s:RS} {Z:As}
theorem Rd.stc (h:Rd B W b en m0 m1 m2 r s Z w) (K:Kn B W en):Stc w:=K.1.later (h.below.mono K.2.1)
theorem Rd.tk4 {g:Nat} {t:Tok} {bs:List (Nat×List Value)} (h:Rd B W b en m0 m1 m2 r s ((As.and (bxs ((g,tkC t)::bs)) Z)) w) :
    w.cell? ⟨g,0,none⟩=some (.int .i64 t.kind)∧w.cell? ⟨g,1,none⟩=some (.string (str t.body))∧w.cell? ⟨g,2,none⟩=some (.int .i64 t.line)∧w.cell? ⟨g,3,none⟩=some (.int .i64 t.col):=by
  have b0:=h.bget 0 rfl
  exact ⟨b0.get 0 _ rfl,b0.get 1 _ rfl,b0.get 2 _ rfl,b0.get 3 _ rfl⟩
set_option maxRecDepth 100000 in
set_option maxHeartbeats 1000000 in
theorem wantMark_any (h:Rd B W b en m0 m1 m2 r s Z w) (x:Tx) :
    Calls Tryz.prog 171 #[.pointer (some ⟨b,0,none⟩),.string (str x)] w (fun e w' => e=.returned (.tuple #[])∧Rd B W b en m0 m1 m2 r (sThis en 5 x s) Z w'):=by
  have C:Calls Tryz.prog 73 #[.pointer (some ⟨b,0,none⟩),.int .i64 5,.string (str x)] _ _:=passed_any h 5 x
  unfold sThis
  unfold sPassed at C
  cases hk:isTk 5 x (nx en s) with
  | true =>
    rw [hk,if_pos rfl] at C
    rw [if_pos rfl]
    clear h hk
    go_enter Tryz.func171,Tryz.ntmps171
    go_wp2_with ((with_reducible refine C.mono ?_);rintro e w1 ⟨rfl,h1⟩)
    go_end0
    exact ⟨rfl,h1⟩
  | false =>
    rw [hk,if_neg (by decide)] at C
    rw [if_neg (by decide)]
    clear h hk
    go_enter Tryz.func171,Tryz.ntmps171
    go_wp2_with (first | ((with_reducible refine C.mono ?_);rintro e w1 ⟨rfl,h1⟩) | ((with_reducible refine (next_any h1).mono ?_);rintro e w2 ⟨rfl,h2⟩) | ((with_reducible refine (refuse3 (h1.later h2) _).mono ?_);rintro e w3 ⟨rfl,h3⟩))
    go_end0
    exact ⟨rfl,h3⟩
set_option maxRecDepth 100000 in
set_option maxHeartbeats 1000000 in
theorem wantWord_any (h:Rd B W b en m0 m1 m2 r s Z w) (x:Tx) :
    Calls Tryz.prog 196 #[.pointer (some ⟨b,0,none⟩),.string (str x)] w (fun e w' => e=.returned (.tuple #[])∧Rd B W b en m0 m1 m2 r (sThis en 1 x s) Z w'):=by
  have C:Calls Tryz.prog 73 #[.pointer (some ⟨b,0,none⟩),.int .i64 1,.string (str x)] _ _:=passed_any h 1 x
  unfold sThis
  unfold sPassed at C
  cases hk:isTk 1 x (nx en s) with
  | true =>
    rw [hk,if_pos rfl] at C
    rw [if_pos rfl]
    clear h hk
    go_enter Tryz.func196,Tryz.ntmps196
    go_wp2_with ((with_reducible refine C.mono ?_);rintro e w1 ⟨rfl,h1⟩)
    go_end0
    exact ⟨rfl,h1⟩
  | false =>
    rw [hk,if_neg (by decide)] at C
    rw [if_neg (by decide)]
    clear h hk
    go_enter Tryz.func196,Tryz.ntmps196
    go_wp2_with (first | ((with_reducible refine C.mono ?_);rintro e w1 ⟨rfl,h1⟩) | ((with_reducible refine (next_any h1).mono ?_);rintro e w2 ⟨rfl,h2⟩) | ((with_reducible refine (refuse3 (h1.later h2) _).mono ?_);rintro e w3 ⟨rfl,h3⟩))
    go_end0
    exact ⟨rfl,h3⟩
set_option maxRecDepth 100000 in
set_option maxHeartbeats 1000000 in
theorem wantLineEnd_any (h:Rd B W b en m0 m1 m2 r s Z w) :
    Calls Tryz.prog 118 #[.pointer (some ⟨b,0,none⟩)] w (fun e w' => e=.returned (.tuple #[])∧Rd B W b en m0 m1 m2 r (sWant en 6 s) Z w'):=by
  have C:Calls Tryz.prog 143 #[.pointer (some ⟨b,0,none⟩),.int .i64 6] _ _:=want_any h 6
  clear h
  go_enter Tryz.func118,Tryz.ntmps118
  go_wp2_with ((with_reducible refine C.mono ?_);rintro e w1 ⟨rfl,h1⟩)
  go_end0
  exact ⟨rfl,h1⟩
set_option maxRecDepth 100000 in
set_option maxHeartbeats 1000000 in
theorem wantBlock_any (K:Kn B W en) (h:Rd B W b en m0 m1 m2 r s Z w) :
    Calls Tryz.prog 208 #[.pointer (some ⟨b,0,none⟩)] w (fun e w' => e=.returned (.int .i64 (vBlock en s))∧Rd B W b en m0 m1 m2 r (sBlock en s) Z w'):=by
  unfold vBlock sBlock
  have ht:=h.nx_gt K.2.2.1
  have C:=next_any h.b0
  have HH:=Lib.hid (And.intro h.b0 (And.intro K ht))
  clear h K ht
  obtain ⟨t,et⟩:∃ t,nx en s=t:=⟨_,rfl⟩
  rw [et] at C HH ⊢
  clear et
  have C2:=fun w1 h1=>blockOf_any t HH.out.2.2 _ ((((HH.out.1.later (w':=w1) h1).bpush rfl (tkC t) 81)).stc HH.out.2.1)
  cases hk:(blockOfP t) with
  | some n =>
    simp only [hk] at C2
    simp only [Option.isSome_some,if_true]
    go_enter Tryz.func208,Tryz.ntmps208
    go_wp2_with (first | ((with_reducible refine C.mono ?_);rintro e w1 ⟨rfl,h1⟩) | ((with_reducible refine (C2 _ h1).mono ?_);rintro e w2 ⟨rfl,h2⟩) | ((with_reducible refine (pass_any (((HH.out.1.later h1).bpush rfl (tkC t) 81).later h2)).mono ?_);rintro e w3 ⟨rfl,h3⟩))
    go_ret
    exact ⟨rfl,h3.nobx⟩
  | none =>
    simp only [hk] at C2
    simp only [Option.isSome_none,Bool.false_eq_true,if_false]
    go_enter Tryz.func208,Tryz.ntmps208
    go_wp2_with (first | ((with_reducible refine C.mono ?_);rintro e w1 ⟨rfl,h1⟩) | ((with_reducible refine (C2 _ h1).mono ?_);rintro e w2 ⟨rfl,h2⟩;obtain ⟨y0,y1,y2,y3⟩:=(((HH.out.1.later h1).bpush rfl (tkC t) 81).later h2).tk4) | ((with_reducible refine (refuse3 (((HH.out.1.later h1).bpush rfl (tkC t) 81).later h2) t).mono ?_);rintro e w3 ⟨rfl,h3⟩) | ((with_reducible refine (pass_any h3).mono ?_);rintro e w4 ⟨rfl,h4⟩))
    go_ret
    exact ⟨rfl,h4.nobx⟩
set_option maxRecDepth 100000 in
set_option maxHeartbeats 1000000 in
theorem wantType_any (K:Kn B W en) (h:Rd B W b en m0 m1 m2 r s Z w) :
    Calls Tryz.prog 150 #[.pointer (some ⟨b,0,none⟩)] w (fun e w' => e=.returned (.int .i64 (vType en s))∧Rd B W b en m0 m1 m2 r (sType en s) Z w'):=by
  unfold vType sType
  have ht:=h.nx_gt K.2.2.1
  have C:Calls Tryz.prog 143 #[.pointer (some ⟨b,0,none⟩),.int .i64 1] _ _:=want_any h.b0 1
  have HH:=Lib.hid (And.intro K ht)
  clear h K ht
  obtain ⟨t,et⟩:∃ t,nx en s=t:=⟨_,rfl⟩
  rw [et] at C HH ⊢
  clear et
  have C2:=fun w1 (h1:Rd B W b en m0 m1 m2 r (sWant en 1 s) ((As.and (bxs []) Z)) w1)=>typeOf_any t.body (gt_nm HH.out.2) _ ((h1.bpush rfl (tkC t) 81).stc HH.out.1)
  cases hk:(typeOfP t.body) with
  | some n =>
    simp only [hk] at C2
    simp only [Option.isSome_some,if_true]
    go_enter Tryz.func150,Tryz.ntmps150
    go_wp2_with (first | ((with_reducible refine C.mono ?_);rintro e w1 ⟨rfl,h1⟩) | ((with_reducible refine (C2 _ h1).mono ?_);rintro e w2 ⟨rfl,h2⟩))
    go_ret
    exact ⟨rfl,((h1.bpush rfl (tkC t) 81).later h2).nobx⟩
  | none =>
    simp only [hk] at C2
    simp only [Option.isSome_none,Bool.false_eq_true,if_false]
    go_enter Tryz.func150,Tryz.ntmps150
    go_wp2_with (first | ((with_reducible refine C.mono ?_);rintro e w1 ⟨rfl,h1⟩) | ((with_reducible refine (C2 _ h1).mono ?_);rintro e w2 ⟨rfl,h2⟩;obtain ⟨y0,y1,y2,y3⟩:=((h1.bpush rfl (tkC t) 81).later h2).tk4) | ((with_reducible refine (refuse7 ((h1.bpush rfl (tkC t) 81).later h2) t).mono ?_);rintro e w3 ⟨rfl,h3⟩))
    go_ret
    exact ⟨rfl,h3.nobx⟩
set_option maxRecDepth 100000 in
set_option maxHeartbeats 1000000 in
theorem wantSize_any (K:Kn B W en) (h:Rd B W b en m0 m1 m2 r s Z w) :
    Calls Tryz.prog 117 #[.pointer (some ⟨b,0,none⟩)] w (fun e w' => e=.returned (.int .i64 (vSize en s))∧Rd B W b en m0 m1 m2 r (sSize en s) Z w'):=by
  unfold vSize sSize
  have ht:=h.nx_gt K.2.2.1
  have C:Calls Tryz.prog 143 #[.pointer (some ⟨b,0,none⟩),.int .i64 2] _ _:=want_any h.b0 2
  have HH:=Lib.hid (And.intro K ht)
  clear h K ht
  obtain ⟨t,et⟩:∃ t,nx en s=t:=⟨_,rfl⟩
  rw [et] at C HH ⊢
  clear et
  have C2:=fun w1 (h1:Rd B W b en m0 m1 m2 r (sWant en 2 s) ((As.and (bxs []) Z)) w1)=>numberOf_any t HH.out.2 _ ((h1.bpush rfl (tkC t) 81).stc HH.out.1).1
  obtain ⟨n,en⟩:∃ n,numOf t=n:=⟨_,rfl⟩
  simp only [en] at C2 ⊢
  clear en
  by_cases hk:n=0∨64<n
  · rw [if_pos hk]
    by_cases h0:n=0
    · subst h0
      go_enter Tryz.func117,Tryz.ntmps117
      go_wp2_with (first | ((with_reducible refine C.mono ?_);rintro e w1 ⟨rfl,h1⟩) | ((with_reducible refine (C2 _ h1).mono ?_);rintro e w2 ⟨rfl,h2⟩;obtain ⟨y0,y1,y2,y3⟩:=((h1.bpush rfl (tkC t) 81).later h2).tk4) | ((with_reducible refine (refuse6 ((h1.bpush rfl (tkC t) 81).later h2) t).mono ?_);rintro e w3 ⟨rfl,h3⟩))
      go_ret
      exact ⟨rfl,h3.nobx⟩
    · have e0:((n:Int)==0)=false:=beq_false_of_ne (by omega)
      have e1:(64:Int)<(n:Int):=by omega
      go_enter Tryz.func117,Tryz.ntmps117
      go_wp2_with (first | ((with_reducible refine C.mono ?_);rintro e w1 ⟨rfl,h1⟩) | ((with_reducible refine (C2 _ h1).mono ?_);rintro e w2 ⟨rfl,h2⟩;obtain ⟨y0,y1,y2,y3⟩:=((h1.bpush rfl (tkC t) 81).later h2).tk4) | ((with_reducible refine (refuse6 ((h1.bpush rfl (tkC t) 81).later h2) t).mono ?_);rintro e w3 ⟨rfl,h3⟩))
      go_ret
      exact ⟨ret_int (by first | rfl | simp [wrap64,IntKind.wrap_i64]),h3.nobx⟩
  · rw [if_neg hk]
    have e0:((n:Int)==0)=false:=beq_false_of_ne (by omega)
    have e1:¬ (64:Int)<(n:Int):=by omega
    go_enter Tryz.func117,Tryz.ntmps117
    go_wp2_with (first | ((with_reducible refine C.mono ?_);rintro e w1 ⟨rfl,h1⟩) | ((with_reducible refine (C2 _ h1).mono ?_);rintro e w2 ⟨rfl,h2⟩))
    go_ret
    exact ⟨ret_int (by rw [IntKind.wrap_i64];omega),((h1.bpush rfl (tkC t) 81).later h2).nobx⟩
end
end Go.Proofs.YtmmlfmplggbmiaaGreatDoor
namespace Go.Proofs.YtmmlfmplggbmiaaGreatDoor
set_option linter.unusedVariables false
set_option linter.unusedSimpArgs false
theorem as_ps (s:RS):(ps s).asked=s.asked:=rfl
theorem as_bd (c:Nat) (t:Tok) (s:RS):(bd c t s).asked=s.asked:=rfl
theorem as_this (en:Tok) (k:Nat) (b:Tx) (s:RS):(sThis en k b s).asked=s.asked:=by unfold sThis;split <;> rfl
theorem as_want (en:Tok) (k:Nat) (s:RS):(sWant en k s).asked=s.asked:=by unfold sWant;split <;> rfl
theorem as_passed (en:Tok) (k:Nat) (b:Tx) (s:RS):(sPassed en k b s).asked=s.asked:=by unfold sPassed;split <;> rfl
theorem as_block (en:Tok) (s:RS):(sBlock en s).asked=s.asked:=by unfold sBlock;split <;> rfl
theorem as_type (en:Tok) (s:RS):(sType en s).asked=s.asked:=by unfold sType;split;exact as_want _ _ _;exact as_want _ _ _
theorem as_size (en:Tok) (s:RS):(sSize en s).asked=s.asked:=by unfold sSize;split;exact as_want _ _ _;exact as_want _ _ _
end Go.Proofs.YtmmlfmplggbmiaaGreatDoor
namespace Go.Proofs.YtmmlfmplggbmiaaGreatDoor
open Go.RowKit Go.Maps
set_option linter.unusedVariables false
set_option linter.unusedSimpArgs false
section
variable {B b:Nat} {W w:World} {en:Tok} {m0 m1 m2:Value} {s:RS} {Z:As}
theorem tokC_lit2 (w:World) (o:Obj) (t:Tok):∀ j u,(tokC t)[j]? = some u→(((w.alloc o).alloc (.cells #[.int .i64 t.kind,.string (str t.body),.int .i64 t.line,.int .i64 t.col] 81)).drew).cell? ((⟨w.heap.size+1,0,none⟩:Addr).add j)=some u:=fun j u h=>by
  rw [World.cell?_drew];exact lit_cells2 w o _ _ j u h
set_option maxRecDepth 100000 in
set_option maxHeartbeats 4000000 in
theorem ask_any (t:Tok) (ht:Gt t) (hl:s.asked.length≤1000000) (h:Pk B W b en m0 m1 m2 s Z w) :
    Calls Tryz.prog 200 #[.pointer (some ⟨b,0,none⟩),tkV t] w (fun e w' => e=.returned (.int .i64 (s.asked.length:Nat))∧Pk B W b en m0 m1 m2 (sAsk t s) Z w'):=by
  obtain ⟨iT,hiT,hz0,hz1,hz2⟩:=info_parts infoT
  have HI:=Lib.hid (And.intro hiT (And.intro hz0 (And.intro hz1 hz2)))
  obtain ⟨ap,ac,Y,c11,f11,hlt,hS,hbx,back⟩:=((h.alloc (.cells #[.int .i64 t.kind,.string (str t.body),.int .i64 t.line,.int .i64 t.col] 81))).asked
  have HS:=Lib.hid (And.intro hS (And.intro hbx (And.intro back ht)))
  have hlt0:b<w.heap.size:=by obtain ⟨_,_,_,_,_,z,_⟩:=h.asked;exact z
  clear hiT hz0 hz1 hz2 h hS hbx back hlt ht
  have HL:=Lib.hid hl
  obtain ⟨n,en⟩:∃ n,s.asked.length=n:=⟨_,rfl⟩
  rw [en] at c11 hl ⊢
  have EN:=Lib.hid en
  clear en
  go_enter Tryz.func200,Tryz.ntmps200
  go_wp2_with fail
  go_region_law (first | (refine step_app rfl (.tmp 9) (.tmp 11) 76 rfl iT _ 40 Tryz.underlying76 HI.out.1 HI.out.2.1 HI.out.2.2.1 HI.out.2.2.2 rfl (by decide) (by rw [← EN.out];rfl) ((HS.out.1.alloc _).drew) t _ 1 rfl rfl (tokC_lit2 _ _ t) (tokC_one t) (by have:=HL.out;unfold maxLen;omega) (by have:=HL.out;omega) ?_;intro p' c' w' hS';obtain ⟨k0,k1,k2⟩:=HS.out.2.1 _ _ hS';rw [EN.out] at k0))
  all_goals
    go_wp2_with fail
    go_ret
    refine ⟨ret_int (by first | rfl | (have:=EN.out;unfold wrap64;omega)),?_⟩
    have q:=HS.out.2.2.1 p' c' t w' HS.out.2.2.2 (by unfold askRow;rw [List.length_append];exact hS')
    rw [EN.out] at q ⊢
    exact q
end
section
variable {B b:Nat} {W w:World} {en:Tok} {m0 m1 m2:Value} {s:RS} {Z:As}
theorem Pk.nx_gt (h:Pk B W b en m0 m1 m2 s Z w) (K:Kn B W en):Gt (nx en s):=by
  obtain ⟨r,Z',hr,back⟩:=h.rd
  exact hr.nx_gt K.2.2.1
theorem Pk.tk4 {g':Nat} {t:Tok} {bs:List (Nat×List Value)} (h:Pk B W b en m0 m1 m2 s ((As.and (bxs ((g',tkC t)::bs)) Z)) w) :
    w.cell? ⟨g',0,none⟩=some (.int .i64 t.kind)∧w.cell? ⟨g',1,none⟩=some (.string (str t.body))∧w.cell? ⟨g',2,none⟩=some (.int .i64 t.line)∧w.cell? ⟨g',3,none⟩=some (.int .i64 t.col):=by
  have b0:=h.bget 0 rfl
  exact ⟨b0.get 0 _ rfl,b0.get 1 _ rfl,b0.get 2 _ rfl,b0.get 3 _ rfl⟩
theorem Pk.next (h:Pk B W b en m0 m1 m2 s Z w):Calls Tryz.prog 78 #[.pointer (some ⟨b,0,none⟩)] w (fun e w' => e=.returned (tkV (nx en s))∧Pk B W b en m0 m1 m2 s Z w'):=by
  obtain ⟨r,Z',hr,back⟩:=h.rd
  exact (next_any hr).mono fun e w' ⟨h1,h2⟩=>⟨h1,h.later h2⟩
theorem Pk.refuse5 (h:Pk B W b en m0 m1 m2 s Z w) (t:Tok):Calls Tryz.prog 77 #[.pointer (some ⟨b,0,none⟩),.int .i64 5,tkV t] w (fun e w' => e=.returned (.tuple #[])∧Pk B W b en m0 m1 m2 (bd 5 t s) Z w'):=by
  obtain ⟨r,Z',hr,back⟩:=h.rd
  have C:Calls Tryz.prog 77 #[.pointer (some ⟨b,0,none⟩),.int .i64 5,tkV t] w (fun e w' => e=.returned (.tuple #[])∧Rd B W b en m0 m1 m2 r (bd 5 t s) Z' w'):=Go.Proofs.YtmmlfmplggbmiaaGreatDoor.refuse5 hr t
  exact C.mono fun e w' ⟨h1,h2⟩=>⟨h1,back _ _ (as_bd _ _ _) h2⟩
theorem Pk.refuse6 (h:Pk B W b en m0 m1 m2 s Z w) (t:Tok):Calls Tryz.prog 77 #[.pointer (some ⟨b,0,none⟩),.int .i64 6,tkV t] w (fun e w' => e=.returned (.tuple #[])∧Pk B W b en m0 m1 m2 (bd 6 t s) Z w'):=by
  obtain ⟨r,Z',hr,back⟩:=h.rd
  have C:Calls Tryz.prog 77 #[.pointer (some ⟨b,0,none⟩),.int .i64 6,tkV t] w (fun e w' => e=.returned (.tuple #[])∧Rd B W b en m0 m1 m2 r (bd 6 t s) Z' w'):=Go.Proofs.YtmmlfmplggbmiaaGreatDoor.refuse6 hr t
  exact C.mono fun e w' ⟨h1,h2⟩=>⟨h1,back _ _ (as_bd _ _ _) h2⟩
theorem Pk.want (h:Pk B W b en m0 m1 m2 s Z w) (k:Nat) (ki:Int) (ek:ki=(k:Int)):Calls Tryz.prog 143 #[.pointer (some ⟨b,0,none⟩),.int .i64 ki] w (fun e w' => e=.returned (tkV (nx en s))∧Pk B W b en m0 m1 m2 (sWant en k s) Z w'):=by
  obtain ⟨r,Z',hr,back⟩:=h.rd
  have C:Calls Tryz.prog 143 #[.pointer (some ⟨b,0,none⟩),.int .i64 ki] w (fun e w' => e=.returned (tkV (nx en s))∧Rd B W b en m0 m1 m2 r (sWant en k s) Z' w'):=(by rw [ek];exact want_any hr k)
  exact C.mono fun e w' ⟨h1,h2⟩=>⟨h1,back _ _ (as_want _ _ _) h2⟩
theorem Pk.wantBlock (h:Pk B W b en m0 m1 m2 s Z w) (Kk:Kn B W en):Calls Tryz.prog 208 #[.pointer (some ⟨b,0,none⟩)] w (fun e w' => e=.returned (.int .i64 (vBlock en s))∧Pk B W b en m0 m1 m2 (sBlock en s) Z w'):=by
  obtain ⟨r,Z',hr,back⟩:=h.rd
  have C:Calls Tryz.prog 208 #[.pointer (some ⟨b,0,none⟩)] w (fun e w' => e=.returned (.int .i64 (vBlock en s))∧Rd B W b en m0 m1 m2 r (sBlock en s) Z' w'):=wantBlock_any Kk hr
  exact C.mono fun e w' ⟨h1,h2⟩=>⟨h1,back _ _ (as_block _ _) h2⟩
theorem Pk.wantType (h:Pk B W b en m0 m1 m2 s Z w) (Kk:Kn B W en):Calls Tryz.prog 150 #[.pointer (some ⟨b,0,none⟩)] w (fun e w' => e=.returned (.int .i64 (vType en s))∧Pk B W b en m0 m1 m2 (sType en s) Z w'):=by
  obtain ⟨r,Z',hr,back⟩:=h.rd
  have C:Calls Tryz.prog 150 #[.pointer (some ⟨b,0,none⟩)] w (fun e w' => e=.returned (.int .i64 (vType en s))∧Rd B W b en m0 m1 m2 r (sType en s) Z' w'):=wantType_any Kk hr
  exact C.mono fun e w' ⟨h1,h2⟩=>⟨h1,back _ _ (as_type _ _) h2⟩
end
section
variable {B b:Nat} {W w:World} {en:Tok} {m0 m1 m2:Value} {g:Nat} {p:PIns×RS} {Z:As}
theorem Ik.stc (h:Ik B W b en m0 m1 m2 g p Z w) (K:Kn B W en):Stc w:=K.1.later (h.below.mono K.2.1)
theorem Ik.nx_gt (h:Ik B W b en m0 m1 m2 g p Z w) (K:Kn B W en):Gt (nx en p.2):=by
  obtain ⟨r,Z',hr,back⟩:=h.rd
  exact hr.nx_gt K.2.2.1
theorem Ik.tk4 {g':Nat} {t:Tok} {bs:List (Nat×List Value)} (h:Ik B W b en m0 m1 m2 g p ((As.and (bxs ((g',tkC t)::bs)) Z)) w) :
    w.cell? ⟨g',0,none⟩=some (.int .i64 t.kind)∧w.cell? ⟨g',1,none⟩=some (.string (str t.body))∧w.cell? ⟨g',2,none⟩=some (.int .i64 t.line)∧w.cell? ⟨g',3,none⟩=some (.int .i64 t.col):=by
  have b0:=h.bget 0 rfl
  exact ⟨b0.get 0 _ rfl,b0.get 1 _ rfl,b0.get 2 _ rfl,b0.get 3 _ rfl⟩
theorem Ik.next (h:Ik B W b en m0 m1 m2 g p Z w):Calls Tryz.prog 78 #[.pointer (some ⟨b,0,none⟩)] w (fun e w' => e=.returned (tkV (nx en p.2))∧Ik B W b en m0 m1 m2 g p Z w'):=by
  obtain ⟨r,Z',hr,back⟩:=h.rd
  exact (next_any hr).mono fun e w' ⟨h1,h2⟩=>⟨h1,h.later h2⟩
theorem Ik.pass (h:Ik B W b en m0 m1 m2 g p Z w) :Calls Tryz.prog 114 #[.pointer (some ⟨b,0,none⟩)] w (fun e w' => e=.returned (.tuple #[])∧Ik B W b en m0 m1 m2 g (p.1,ps p.2) Z w'):=by
  obtain ⟨r,Z',hr,back⟩:=h.rd
  have C:Calls Tryz.prog 114 #[.pointer (some ⟨b,0,none⟩)] w (fun e w' => e=.returned (.tuple #[])∧Rd B W b en m0 m1 m2 r (ps p.2) Z' w'):=pass_any hr
  exact C.mono fun e w' ⟨h1,h2⟩=>⟨h1,back _ _ (as_ps _) h2⟩
theorem Ik.refuse3 (h:Ik B W b en m0 m1 m2 g p Z w) (t:Tok):Calls Tryz.prog 77 #[.pointer (some ⟨b,0,none⟩),.int .i64 3,tkV t] w (fun e w' => e=.returned (.tuple #[])∧Ik B W b en m0 m1 m2 g (p.1,bd 3 t p.2) Z w'):=by
  obtain ⟨r,Z',hr,back⟩:=h.rd
  have C:Calls Tryz.prog 77 #[.pointer (some ⟨b,0,none⟩),.int .i64 3,tkV t] w (fun e w' => e=.returned (.tuple #[])∧Rd B W b en m0 m1 m2 r (bd 3 t p.2) Z' w'):=Go.Proofs.YtmmlfmplggbmiaaGreatDoor.refuse3 hr t
  exact C.mono fun e w' ⟨h1,h2⟩=>⟨h1,back _ _ (as_bd _ _ _) h2⟩
theorem Ik.passed (h:Ik B W b en m0 m1 m2 g p Z w) (k:Nat) (x:Tx) (ki:Int) (xi:ByteArray) (ek:ki=(k:Int)) (ex:xi=str x):Calls Tryz.prog 73 #[.pointer (some ⟨b,0,none⟩),.int .i64 ki,.string xi] w (fun e w' => e=.returned (.bool (isTk k x (nx en p.2)))∧Ik B W b en m0 m1 m2 g (p.1,sPassed en k x p.2) Z w'):=by
  obtain ⟨r,Z',hr,back⟩:=h.rd
  have C:Calls Tryz.prog 73 #[.pointer (some ⟨b,0,none⟩),.int .i64 ki,.string xi] w (fun e w' => e=.returned (.bool (isTk k x (nx en p.2)))∧Rd B W b en m0 m1 m2 r (sPassed en k x p.2) Z' w'):=(by rw [ek,ex];exact passed_any hr k x)
  exact C.mono fun e w' ⟨h1,h2⟩=>⟨h1,back _ _ (as_passed _ _ _ _) h2⟩
theorem Ik.want (h:Ik B W b en m0 m1 m2 g p Z w) (k:Nat) (ki:Int) (ek:ki=(k:Int)):Calls Tryz.prog 143 #[.pointer (some ⟨b,0,none⟩),.int .i64 ki] w (fun e w' => e=.returned (tkV (nx en p.2))∧Ik B W b en m0 m1 m2 g (p.1,sWant en k p.2) Z w'):=by
  obtain ⟨r,Z',hr,back⟩:=h.rd
  have C:Calls Tryz.prog 143 #[.pointer (some ⟨b,0,none⟩),.int .i64 ki] w (fun e w' => e=.returned (tkV (nx en p.2))∧Rd B W b en m0 m1 m2 r (sWant en k p.2) Z' w'):=(by rw [ek];exact want_any hr k)
  exact C.mono fun e w' ⟨h1,h2⟩=>⟨h1,back _ _ (as_want _ _ _) h2⟩
theorem Ik.wantMark (h:Ik B W b en m0 m1 m2 g p Z w) (x:Tx) (xi:ByteArray) (ex:xi=str x):Calls Tryz.prog 171 #[.pointer (some ⟨b,0,none⟩),.string xi] w (fun e w' => e=.returned (.tuple #[])∧Ik B W b en m0 m1 m2 g (p.1,sThis en 5 x p.2) Z w'):=by
  obtain ⟨r,Z',hr,back⟩:=h.rd
  have C:Calls Tryz.prog 171 #[.pointer (some ⟨b,0,none⟩),.string xi] w (fun e w' => e=.returned (.tuple #[])∧Rd B W b en m0 m1 m2 r (sThis en 5 x p.2) Z' w'):=(by rw [ex];exact wantMark_any hr x)
  exact C.mono fun e w' ⟨h1,h2⟩=>⟨h1,back _ _ (as_this _ _ _ _) h2⟩
theorem Ik.wantWord (h:Ik B W b en m0 m1 m2 g p Z w) (x:Tx) (xi:ByteArray) (ex:xi=str x):Calls Tryz.prog 196 #[.pointer (some ⟨b,0,none⟩),.string xi] w (fun e w' => e=.returned (.tuple #[])∧Ik B W b en m0 m1 m2 g (p.1,sThis en 1 x p.2) Z w'):=by
  obtain ⟨r,Z',hr,back⟩:=h.rd
  have C:Calls Tryz.prog 196 #[.pointer (some ⟨b,0,none⟩),.string xi] w (fun e w' => e=.returned (.tuple #[])∧Rd B W b en m0 m1 m2 r (sThis en 1 x p.2) Z' w'):=(by rw [ex];exact wantWord_any hr x)
  exact C.mono fun e w' ⟨h1,h2⟩=>⟨h1,back _ _ (as_this _ _ _ _) h2⟩
theorem Ik.wantLineEnd (h:Ik B W b en m0 m1 m2 g p Z w) :Calls Tryz.prog 118 #[.pointer (some ⟨b,0,none⟩)] w (fun e w' => e=.returned (.tuple #[])∧Ik B W b en m0 m1 m2 g (p.1,sWant en 6 p.2) Z w'):=by
  obtain ⟨r,Z',hr,back⟩:=h.rd
  have C:Calls Tryz.prog 118 #[.pointer (some ⟨b,0,none⟩)] w (fun e w' => e=.returned (.tuple #[])∧Rd B W b en m0 m1 m2 r (sWant en 6 p.2) Z' w'):=wantLineEnd_any hr
  exact C.mono fun e w' ⟨h1,h2⟩=>⟨h1,back _ _ (as_want _ _ _) h2⟩
theorem Ik.wantType (h:Ik B W b en m0 m1 m2 g p Z w) (Kk:Kn B W en):Calls Tryz.prog 150 #[.pointer (some ⟨b,0,none⟩)] w (fun e w' => e=.returned (.int .i64 (vType en p.2))∧Ik B W b en m0 m1 m2 g (p.1,sType en p.2) Z w'):=by
  obtain ⟨r,Z',hr,back⟩:=h.rd
  have C:Calls Tryz.prog 150 #[.pointer (some ⟨b,0,none⟩)] w (fun e w' => e=.returned (.int .i64 (vType en p.2))∧Rd B W b en m0 m1 m2 r (sType en p.2) Z' w'):=wantType_any Kk hr
  exact C.mono fun e w' ⟨h1,h2⟩=>⟨h1,back _ _ (as_type _ _) h2⟩
theorem Ik.wantSize (h:Ik B W b en m0 m1 m2 g p Z w) (Kk:Kn B W en):Calls Tryz.prog 117 #[.pointer (some ⟨b,0,none⟩)] w (fun e w' => e=.returned (.int .i64 (vSize en p.2))∧Ik B W b en m0 m1 m2 g (p.1,sSize en p.2) Z w'):=by
  obtain ⟨r,Z',hr,back⟩:=h.rd
  have C:Calls Tryz.prog 117 #[.pointer (some ⟨b,0,none⟩)] w (fun e w' => e=.returned (.int .i64 (vSize en p.2))∧Rd B W b en m0 m1 m2 r (sSize en p.2) Z' w'):=wantSize_any Kk hr
  exact C.mono fun e w' ⟨h1,h2⟩=>⟨h1,back _ _ (as_size _ _) h2⟩
end
theorem parseM_lt {M:Nat}:∀ (l:List UInt8) (a u:Nat),a≤M→Go.Lib.parseUintM M a l=.ok u→u<M+1
  | [],a,u,ha,h=>by
    unfold Go.Lib.parseUintM at h
    injection h with h
    omega
  | c :: r,a,u,ha,h=>by
    unfold Go.Lib.parseUintM at h
    split at h
    · split at h
      · cases h
      · split at h
        · cases h
        · exact parseM_lt r _ u (by omega) h
    · cases h
section
variable {B b g:Nat} {W w:World} {en:Tok} {m0 m1 m2:Value} {p:PIns×RS} {s:RS} {Z:As}
theorem Ik.ask (h:Ik B W b en m0 m1 m2 g p Z w) (t:Tok) (ht:Gt t) (hl:p.2.asked.length≤1000000) :
    Calls Tryz.prog 200 #[.pointer (some ⟨b,0,none⟩),tkV t] w (fun e w' => e=.returned (.int .i64 (p.2.asked.length:Nat))∧Ik B W b en m0 m1 m2 g (p.1,sAsk t p.2) Z w'):=by
  obtain ⟨Z',h1,back⟩:=h.pk
  exact (ask_any t ht hl h1).mono fun e w' ⟨h2,h3⟩=>⟨h2,back _ _ h3⟩
theorem isTk_word {x:Tx} {t:Tok}:isTk 1 x t=(decide (t.kind=1)&&decide (t.body=x)):=by
  unfold isTk
  by_cases h:t.kind=1 <;> by_cases k:t.body=x <;> simp [h,k]
theorem infoV:(Tryz.prog.info? 107).map (fun i=>(i.zero,i.size,i.bytes))=some (some (.agg #[.int .i64 0,.int .i64 0,.int .u64 0]),3,24):=by kernel_rfl
theorem cell3_lit2 (w:World) (a c d:Value) (T:TypeId):∀ j u,([a,c,d]:List Value)[j]? = some u→(((w.alloc (.cells #[a,c,d] T)).drew)).cell? ((⟨w.heap.size,0,none⟩:Addr).add j)=some u:=fun j u h=>by
  rw [World.cell?_drew];exact lit_cells w #[a,c,d] T j u h
theorem argC_o1 (a:Arg):∀ u∈argC a,u.oneCell' = true:=by intro u hu;unfold argC at hu;simp at hu;rcases hu with rfl | rfl | rfl <;> rfl
set_option maxRecDepth 100000 in
set_option maxHeartbeats 8000000 in
theorem operand_any (K:Kn B W en) (hl:p.2.asked.length≤1000000) (hla:p.1.args.length≤1000000) (h:Ik B W b en m0 m1 m2 g p Z w) :
    Calls Tryz.prog 195 #[.pointer (some ⟨b,0,none⟩),.pointer (some ⟨g,0,none⟩)] w (fun e w' => e=.returned (.tuple #[])∧Ik B W b en m0 m1 m2 g (iArg en p) Z w'):=by
  obtain ⟨iV,hiV,hz0,hz1,hz2⟩:=info_parts infoV
  have HI:=Lib.hid (And.intro hiV (And.intro hz0 (And.intro hz1 hz2)))
  clear hiV hz0 hz1 hz2
  have h0:=h.b0.bpush rfl [.int .i64 0,.int .i64 0,.int .u64 0] 107
  have ht:=h.nx_gt K
  have C:=h0.next
  unfold iArg vOperand sOperand
  obtain ⟨t,et⟩:∃ t,nx en p.2=t:=⟨_,rfl⟩
  simp only [et] at C ht ⊢
  have KK:=Lib.hid (And.intro K (And.intro ht (And.intro hl hla)))
  have CNN:∀ (k:Int),(t.kind:Int)=k→∀ w1,Stc w1→Calls Tryz.prog 145 #[.agg #[.int .i64 k,.string (str t.body),.int .i64 t.line,.int .i64 t.col]] w1 fun e w' => e=.returned (.int .u64 (numOf t))∧Below w1.heap.size w1 w':=fun k e w1 hs=>by subst e;exact numberOf_any t ht w1 hs.1
  have CCC:∀ (k:Int),(t.kind:Int)=k→tkV t=.agg #[.int .i64 k,.string (str t.body),.int .i64 t.line,.int .i64 t.col]:=fun k e=>by subst e;rfl
  have hpo:∀ y:Tx,((str t.body).toList==(str y).toList)=decide (t.body=y):=fun y=>by
    rw [ByteArray.toList_eq,ByteArray.toList_eq,str_list,str_list]
    by_cases h:t.body=y <;> simp [h]
  have s0:(⟨#[112,111,105,115,111,110]⟩:ByteArray)=str [112,111,105,115,111,110]:=rfl
  have s1:(⟨#[110,117,108,108]⟩:ByteArray)=str [110,117,108,108]:=rfl
  have hn4:t.kind=3→numOf t≤4095:=fun e=>ht.1.2 e
  have hn64:numOf t<18446744073709551616:=by
    unfold numOf
    cases hp:Go.Lib.parseUintB 64 t.body with
    | ok u =>
      show u<_
      unfold Go.Lib.parseUintB at hp
      split at hp
      · cases hp
      · exact parseM_lt _ _ _ (by decide) hp
    | _=>show 0<_;decide
  clear et h0 h K ht hl hla
  obtain ⟨n,en0⟩:∃ n,numOf t=n:=⟨_,rfl⟩
  simp only [en0] at CNN hn4 hn64 ⊢
  by_cases k3:t.kind=3
  · have CN:=CNN 3 (by rw [k3];rfl)
    rw [CCC 3 (by rw [k3];rfl)] at C
    have hn5:=hn4 k3
    simp only [if_pos k3,if_pos (show t.kind=3∨t.kind=2 from .inl k3)]
    clear CNN CCC hpo s0 s1 hn4 hn64 k3
    go_enter Tryz.func195,Tryz.ntmps195
    go_wp2_with (first | ((with_reducible refine C.mono ?_);rintro e w1 ⟨rfl,h1⟩;have h2:=h1.bpush rfl [.int .i64 3,.string (str t.body),.int .i64 t.line,.int .i64 t.col] 81;have b1:=h2.bget 1 rfl;have z0:=b1.get 0 _ rfl;have z1:=b1.get 1 _ rfl;have z2:=b1.get 2 _ rfl;have zf:=b1.2.1;have zl:=b1.1) | ((with_reducible refine (CN _ (h2.stc KK.out.1)).mono ?_);rintro e w2 ⟨rfl,hb2⟩;have h3:=h2.later hb2;have b3:=h3.bget 1 rfl;have x0:=b3.get 0 _ rfl;have x1:=b3.get 1 _ rfl;have x2:=b3.get 2 _ rfl;have xf:=b3.2.1;have xl:=b3.1) | ((with_reducible refine ((((h3.bput 1 rfl 0 (.int .i64 1)).bput 1 rfl 1 (.int .i64 n)).bput 1 rfl 2 (.int .u64 0)).pass).mono ?_);rintro e w5 ⟨rfl,h5⟩))
    · have b5:=h5.bget 1 rfl
      have v0:=b5.get 0 _ rfl
      have v1:=b5.get 1 _ rfl
      have v2:=b5.get 2 _ rfl
      have vl:=b5.1
      obtain ⟨ap,ac,Y,c5,hS,hbx,back⟩:=h5.args
      have HS:=Lib.hid (And.intro hS (And.intro hbx (And.intro back True.intro)))
      have gl:=(hbx _ _ hS).2.2
      clear hS hbx back b5
      obtain ⟨al,eal⟩:∃ al,p.1.args.length=al:=⟨_,rfl⟩
      have EAL:=Lib.hid eal
      try rw [eal] at c5
      clear eal
      go_wp2_with fail
      go_region_law (first | (refine step_app rfl (.tmp 66) (.tmp 68) 41 rfl iV _ 24 Tryz.underlying41 HI.out.1 HI.out.2.1 HI.out.2.2.1 HI.out.2.2.2 rfl (by decide) (by rw [← EAL.out];rfl) ((HS.out.1.alloc _).drew) (⟨1,(n:Int),0⟩) _ 1 rfl rfl (cell3_lit2 _ _ _ _ _) (argC_o1 _) (by have:=KK.out.2.2.2;show p.1.args.length+1≤_;unfold maxLen;omega) (by have:=KK.out.2.2.2;show (p.1.args.length+1) * _≤_;omega) ?_;intro p' c' w' hS';obtain ⟨k0,k1,k2⟩:=HS.out.2.1 _ _ hS';try rw [EAL.out] at k0))
      all_goals
        go_wp2_with fail
        go_end0
        exact ⟨rfl,(HS.out.2.2.1 _ _ _ _ _ hS').nobx⟩
  by_cases k2:t.kind=2
  · have CN:=CNN 2 (by rw [k2];rfl)
    rw [CCC 2 (by rw [k2];rfl)] at C
    simp only [if_neg k3,if_pos k2,if_pos (show t.kind=3∨t.kind=2 from .inr k2)]
    clear CNN CCC hpo s0 s1 hn4 k2 k3
    go_enter Tryz.func195,Tryz.ntmps195
    go_wp2_with (first | ((with_reducible refine C.mono ?_);rintro e w1 ⟨rfl,h1⟩;have h2:=h1.bpush rfl [.int .i64 2,.string (str t.body),.int .i64 t.line,.int .i64 t.col] 81;have b1:=h2.bget 1 rfl;have z0:=b1.get 0 _ rfl;have z1:=b1.get 1 _ rfl;have z2:=b1.get 2 _ rfl;have zf:=b1.2.1;have zl:=b1.1) | ((with_reducible refine (CN _ (h2.stc KK.out.1)).mono ?_);rintro e w2 ⟨rfl,hb2⟩;have h3:=h2.later hb2;have b3:=h3.bget 1 rfl;have x0:=b3.get 0 _ rfl;have x1:=b3.get 1 _ rfl;have x2:=b3.get 2 _ rfl;have xf:=b3.2.1;have xl:=b3.1) | ((with_reducible refine ((((h3.bput 1 rfl 0 (.int .i64 2)).bput 1 rfl 1 (.int .i64 0)).bput 1 rfl 2 (.int .u64 n)).pass).mono ?_);rintro e w5 ⟨rfl,h5⟩))
    · have b5:=h5.bget 1 rfl
      have v0:=b5.get 0 _ rfl
      have v1:=b5.get 1 _ rfl
      have v2:=b5.get 2 _ rfl
      have vl:=b5.1
      obtain ⟨ap,ac,Y,c5,hS,hbx,back⟩:=h5.args
      have HS:=Lib.hid (And.intro hS (And.intro hbx (And.intro back True.intro)))
      have gl:=(hbx _ _ hS).2.2
      clear hS hbx back b5
      obtain ⟨al,eal⟩:∃ al,p.1.args.length=al:=⟨_,rfl⟩
      have EAL:=Lib.hid eal
      try rw [eal] at c5
      clear eal
      go_wp2_with fail
      go_region_law (first | (refine step_app rfl (.tmp 66) (.tmp 68) 41 rfl iV _ 24 Tryz.underlying41 HI.out.1 HI.out.2.1 HI.out.2.2.1 HI.out.2.2.2 rfl (by decide) (by rw [← EAL.out];rfl) ((HS.out.1.alloc _).drew) (⟨2,0,n⟩) _ 1 rfl rfl (cell3_lit2 _ _ _ _ _) (argC_o1 _) (by have:=KK.out.2.2.2;show p.1.args.length+1≤_;unfold maxLen;omega) (by have:=KK.out.2.2.2;show (p.1.args.length+1) * _≤_;omega) ?_;intro p' c' w' hS';obtain ⟨k0,k1,k2⟩:=HS.out.2.1 _ _ hS';try rw [EAL.out] at k0))
      all_goals
        go_wp2_with fail
        go_end0
        exact ⟨rfl,(HS.out.2.2.1 _ _ _ _ _ hS').nobx⟩
  by_cases k4:t.kind=4
  · rw [CCC 4 (by rw [k4];rfl)] at C
    have CA:=fun w1 (h1:Ik B W b en m0 m1 m2 g p ((As.and (bxs [(w1.heap.size,tkC t)]) Z)) w1)=>True
    simp only [if_neg k3,if_neg k2,if_pos k4,if_neg (show ¬ (t.kind=3∨t.kind=2) by omega)]
    have CAA:∀ {Z':As} w1,Ik B W b en m0 m1 m2 g p Z' w1→Calls Tryz.prog 200 #[.pointer (some ⟨b,0,none⟩),.agg #[.int .i64 4,.string (str t.body),.int .i64 t.line,.int .i64 t.col]] w1 (fun e w' => e=.returned (.int .i64 (p.2.asked.length:Nat))∧Ik B W b en m0 m1 m2 g (p.1,sAsk t p.2) Z' w'):=fun w1 h1=>by
      have:=h1.ask t KK.out.2.1 KK.out.2.2.1
      rw [CCC 4 (by rw [k4];rfl)] at this
      exact this
    obtain ⟨q,eq⟩:∃ q,p.2.asked.length=q:=⟨_,rfl⟩
    simp only [eq] at CAA ⊢
    have hq:q≤1000000:=by rw [← eq];exact KK.out.2.2.1
    clear CNN CCC hpo s0 s1 hn4 hn64 k2 k3 k4 CA eq
    go_enter Tryz.func195,Tryz.ntmps195
    go_wp2_with (first | ((with_reducible refine C.mono ?_);rintro e w1 ⟨rfl,h1⟩;have h2:=h1.bpush rfl [.int .i64 4,.string (str t.body),.int .i64 t.line,.int .i64 t.col] 81;have b1:=h2.bget 1 rfl;have z0:=b1.get 0 _ rfl;have z1:=b1.get 1 _ rfl;have z2:=b1.get 2 _ rfl;have zf:=b1.2.1;have zl:=b1.1) | ((with_reducible refine (CAA _ h2).mono ?_);rintro e w2 ⟨rfl,h3⟩;have b3:=h3.bget 1 rfl;have x0:=b3.get 0 _ rfl;have x1:=b3.get 1 _ rfl;have x2:=b3.get 2 _ rfl;have xf:=b3.2.1;have xl:=b3.1) | ((with_reducible refine ((((h3.bput 1 rfl 0 (.int .i64 5)).bput 1 rfl 1 (.int .i64 q)).bput 1 rfl 2 (.int .u64 0)).pass).mono ?_);rintro e w5 ⟨rfl,h5⟩))
    · have b5:=h5.bget 1 rfl
      have v0:=b5.get 0 _ rfl
      have v1:=b5.get 1 _ rfl
      have v2:=b5.get 2 _ rfl
      have vl:=b5.1
      obtain ⟨ap,ac,Y,c5,hS,hbx,back⟩:=h5.args
      have HS:=Lib.hid (And.intro hS (And.intro hbx (And.intro back True.intro)))
      have gl:=(hbx _ _ hS).2.2
      clear hS hbx back b5
      obtain ⟨al,eal⟩:∃ al,p.1.args.length=al:=⟨_,rfl⟩
      have EAL:=Lib.hid eal
      try rw [eal] at c5
      clear eal
      go_wp2_with fail
      go_region_law (first | (refine step_app rfl (.tmp 66) (.tmp 68) 41 rfl iV _ 24 Tryz.underlying41 HI.out.1 HI.out.2.1 HI.out.2.2.1 HI.out.2.2.2 rfl (by decide) (by rw [← EAL.out];rfl) ((HS.out.1.alloc _).drew) (⟨5,(q:Int),0⟩) _ 1 rfl rfl (cell3_lit2 _ _ _ _ _) (argC_o1 _) (by have:=KK.out.2.2.2;show p.1.args.length+1≤_;unfold maxLen;omega) (by have:=KK.out.2.2.2;show (p.1.args.length+1) * _≤_;omega) ?_;intro p' c' w' hS';obtain ⟨k0,k1,k2⟩:=HS.out.2.1 _ _ hS';try rw [EAL.out] at k0))
      all_goals
        go_wp2_with fail
        go_end0
        exact ⟨rfl,(HS.out.2.2.1 _ _ _ _ _ hS').nobx⟩
  simp only [if_neg k3,if_neg k2,if_neg k4,if_neg (show ¬ (t.kind=3∨t.kind=2) by omega),isTk_word]
  have g3:((t.kind:Int)==3)=false:=beq_false_of_ne (by omega)
  have g2:((t.kind:Int)==2)=false:=beq_false_of_ne (by omega)
  have g4:((t.kind:Int)==4)=false:=beq_false_of_ne (by omega)
  by_cases k1:t.kind=1
  · rw [CCC 1 (by rw [k1];rfl)] at C
    simp only [decide_eq_true k1,Bool.true_and]
    clear g2 g3 g4
    by_cases x0:t.body=[112,111,105,115,111,110]
    · have f0:=hpo [112,111,105,115,111,110]
      rw [decide_eq_true x0] at f0
      simp only [decide_eq_true x0,if_true,true_or]
      clear CNN CCC hpo hn4 hn64 k2 k3 k4 k1 x0
      go_enter Tryz.func195,Tryz.ntmps195
      rw [s0,s1]
      go_wp2_with (first | ((with_reducible refine C.mono ?_);rintro e w1 ⟨rfl,h1⟩;have h2:=h1.bpush rfl [.int .i64 1,.string (str t.body),.int .i64 t.line,.int .i64 t.col] 81;have b1:=h2.bget 1 rfl;have z0:=b1.get 0 _ rfl;have z1:=b1.get 1 _ rfl;have z2:=b1.get 2 _ rfl;have zf:=b1.2.1;have zl:=b1.1) | ((with_reducible refine ((((h2.bput 1 rfl 0 (.int .i64 3)).bput 1 rfl 1 (.int .i64 0)).bput 1 rfl 2 (.int .u64 0)).pass).mono ?_);rintro e w5 ⟨rfl,h5⟩))
      · have b5:=h5.bget 1 rfl
        have v0:=b5.get 0 _ rfl
        have v1:=b5.get 1 _ rfl
        have v2:=b5.get 2 _ rfl
        have vl:=b5.1
        obtain ⟨ap,ac,Y,c5,hS,hbx,back⟩:=h5.args
        have HS:=Lib.hid (And.intro hS (And.intro hbx (And.intro back True.intro)))
        have gl:=(hbx _ _ hS).2.2
        clear hS hbx back b5
        obtain ⟨al,eal⟩:∃ al,p.1.args.length=al:=⟨_,rfl⟩
        have EAL:=Lib.hid eal
        try rw [eal] at c5
        clear eal
        go_wp2_with fail
        go_region_law (first | (refine step_app rfl (.tmp 66) (.tmp 68) 41 rfl iV _ 24 Tryz.underlying41 HI.out.1 HI.out.2.1 HI.out.2.2.1 HI.out.2.2.2 rfl (by decide) (by rw [← EAL.out];rfl) ((HS.out.1.alloc _).drew) (⟨3,0,0⟩) _ 1 rfl rfl (cell3_lit2 _ _ _ _ _) (argC_o1 _) (by have:=KK.out.2.2.2;show p.1.args.length+1≤_;unfold maxLen;omega) (by have:=KK.out.2.2.2;show (p.1.args.length+1) * _≤_;omega) ?_;intro p' c' w' hS';obtain ⟨k0,k1,k2⟩:=HS.out.2.1 _ _ hS';try rw [EAL.out] at k0))
        all_goals
          go_wp2_with fail
          go_end0
          exact ⟨rfl,(HS.out.2.2.1 _ _ _ _ _ hS').nobx⟩
    · have f0 := hpo [112,111,105,115,111,110]
      rw [decide_eq_false x0] at f0
      by_cases x1:t.body=[110,117,108,108]
      · have f1:=hpo [110,117,108,108]
        rw [decide_eq_true x1] at f1
        simp only [decide_eq_false x0,decide_eq_true x1,if_true,or_true,Bool.false_eq_true,if_false]
        clear CNN CCC hpo hn4 hn64 k2 k3 k4 k1 x0 x1
        go_enter Tryz.func195,Tryz.ntmps195
        rw [s0,s1]
        go_wp2_with (first | ((with_reducible refine C.mono ?_);rintro e w1 ⟨rfl,h1⟩;have h2:=h1.bpush rfl [.int .i64 1,.string (str t.body),.int .i64 t.line,.int .i64 t.col] 81;have b1:=h2.bget 1 rfl;have z0:=b1.get 0 _ rfl;have z1:=b1.get 1 _ rfl;have z2:=b1.get 2 _ rfl;have zf:=b1.2.1;have zl:=b1.1) | ((with_reducible refine ((((h2.bput 1 rfl 0 (.int .i64 4)).bput 1 rfl 1 (.int .i64 0)).bput 1 rfl 2 (.int .u64 0)).pass).mono ?_);rintro e w5 ⟨rfl,h5⟩))
        · have b5:=h5.bget 1 rfl
          have v0:=b5.get 0 _ rfl
          have v1:=b5.get 1 _ rfl
          have v2:=b5.get 2 _ rfl
          have vl:=b5.1
          obtain ⟨ap,ac,Y,c5,hS,hbx,back⟩:=h5.args
          have HS:=Lib.hid (And.intro hS (And.intro hbx (And.intro back True.intro)))
          have gl:=(hbx _ _ hS).2.2
          clear hS hbx back b5
          obtain ⟨al,eal⟩:∃ al,p.1.args.length=al:=⟨_,rfl⟩
          have EAL:=Lib.hid eal
          try rw [eal] at c5
          clear eal
          go_wp2_with fail
          go_region_law (first | (refine step_app rfl (.tmp 66) (.tmp 68) 41 rfl iV _ 24 Tryz.underlying41 HI.out.1 HI.out.2.1 HI.out.2.2.1 HI.out.2.2.2 rfl (by decide) (by rw [← EAL.out];rfl) ((HS.out.1.alloc _).drew) (⟨4,0,0⟩) _ 1 rfl rfl (cell3_lit2 _ _ _ _ _) (argC_o1 _) (by have:=KK.out.2.2.2;show p.1.args.length+1≤_;unfold maxLen;omega) (by have:=KK.out.2.2.2;show (p.1.args.length+1) * _≤_;omega) ?_;intro p' c' w' hS';obtain ⟨k0,k1,k2⟩:=HS.out.2.1 _ _ hS';try rw [EAL.out] at k0))
          all_goals
            go_wp2_with fail
            go_end0
            exact ⟨rfl,(HS.out.2.2.1 _ _ _ _ _ hS').nobx⟩
      · have f1:=hpo [110,117,108,108]
        rw [decide_eq_false x1] at f1
        have CRR:∀ {Z':As} w1,Ik B W b en m0 m1 m2 g p Z' w1→Calls Tryz.prog 77 #[.pointer (some ⟨b,0,none⟩),.int .i64 3,.agg #[.int .i64 1,.string (str t.body),.int .i64 t.line,.int .i64 t.col]] w1 (fun e w' => e=.returned (.tuple #[])∧Ik B W b en m0 m1 m2 g (p.1,bd 3 t p.2) Z' w'):=fun w1 h1=>by
          have:=h1.refuse3 t
          rw [CCC 1 (by rw [k1];rfl)] at this
          exact this
        simp only [decide_eq_false x0,decide_eq_false x1,or_false,Bool.false_eq_true,if_false]
        clear CNN CCC hpo hn4 hn64 k2 k3 k4 k1 x0 x1
        go_enter Tryz.func195,Tryz.ntmps195
        rw [s0,s1]
        go_wp2_with (first | ((with_reducible refine C.mono ?_);rintro e w1 ⟨rfl,h1⟩;have h2:=h1.bpush rfl [.int .i64 1,.string (str t.body),.int .i64 t.line,.int .i64 t.col] 81;have b1:=h2.bget 1 rfl;have z0:=b1.get 0 _ rfl;have z1:=b1.get 1 _ rfl;have z2:=b1.get 2 _ rfl;have zf:=b1.2.1;have zl:=b1.1))
        go_region_law (first | (go_simp;(with_reducible refine (CRR _ h2.drew).mono ?_);rintro e w2 ⟨rfl,h4⟩))
        all_goals
          go_wp2_with ((with_reducible refine h4.pass.mono ?_);rintro e w5 ⟨rfl,h5⟩)
          · have b5:=h5.bget 1 rfl
            have v0:=b5.get 0 _ rfl
            have v1:=b5.get 1 _ rfl
            have v2:=b5.get 2 _ rfl
            have vl:=b5.1
            obtain ⟨ap,ac,Y,c5,hS,hbx,back⟩:=h5.args
            have HS:=Lib.hid (And.intro hS (And.intro hbx (And.intro back True.intro)))
            have gl:=(hbx _ _ hS).2.2
            clear hS hbx back b5
            obtain ⟨al,eal⟩:∃ al,p.1.args.length=al:=⟨_,rfl⟩
            have EAL:=Lib.hid eal
            try rw [eal] at c5
            clear eal
            go_wp2_with fail
            go_region_law (first | (refine step_app rfl (.tmp 66) (.tmp 68) 41 rfl iV _ 24 Tryz.underlying41 HI.out.1 HI.out.2.1 HI.out.2.2.1 HI.out.2.2.2 rfl (by decide) (by rw [← EAL.out];rfl) ((HS.out.1.alloc _).drew) (⟨0,0,0⟩) _ 1 rfl rfl (cell3_lit2 _ _ _ _ _) (argC_o1 _) (by have:=KK.out.2.2.2;show p.1.args.length+1≤_;unfold maxLen;omega) (by have:=KK.out.2.2.2;show (p.1.args.length+1) * _≤_;omega) ?_;intro p' c' w' hS';obtain ⟨k0,k1,k2⟩:=HS.out.2.1 _ _ hS';try rw [EAL.out] at k0))
            all_goals
              go_wp2_with fail
              go_end0
              exact ⟨rfl,(HS.out.2.2.1 _ _ _ _ _ hS').nobx⟩
  · have g1:((t.kind:Int)==1)=false:=beq_false_of_ne (by omega)
    simp only [decide_eq_false k1,Bool.false_and,Bool.false_eq_true,if_false,or_false]
    have CRR:∀ {Z':As} w1,Ik B W b en m0 m1 m2 g p Z' w1→Calls Tryz.prog 77 #[.pointer (some ⟨b,0,none⟩),.int .i64 3,.agg #[.int .i64 t.kind,.string (str t.body),.int .i64 t.line,.int .i64 t.col]] w1 (fun e w' => e=.returned (.tuple #[])∧Ik B W b en m0 m1 m2 g (p.1,bd 3 t p.2) Z' w'):=fun w1 h1=>h1.refuse3 t
    clear CNN CCC hpo hn4 hn64 k2 k3 k4 k1
    go_enter Tryz.func195,Tryz.ntmps195
    go_wp2_with (first | ((with_reducible refine C.mono ?_);rintro e w1 ⟨rfl,h1⟩;have h2:=h1.bpush rfl [.int .i64 t.kind,.string (str t.body),.int .i64 t.line,.int .i64 t.col] 81;have b1:=h2.bget 1 rfl;have z0:=b1.get 0 _ rfl;have z1:=b1.get 1 _ rfl;have z2:=b1.get 2 _ rfl;have zf:=b1.2.1;have zl:=b1.1))
    go_region_law (first | (go_simp;(with_reducible refine (CRR _ h2.drew).mono ?_);rintro e w2 ⟨rfl,h4⟩))
    all_goals
      go_wp2_with ((with_reducible refine h4.pass.mono ?_);rintro e w5 ⟨rfl,h5⟩)
      · have b5:=h5.bget 1 rfl
        have v0:=b5.get 0 _ rfl
        have v1:=b5.get 1 _ rfl
        have v2:=b5.get 2 _ rfl
        have vl:=b5.1
        obtain ⟨ap,ac,Y,c5,hS,hbx,back⟩:=h5.args
        have HS:=Lib.hid (And.intro hS (And.intro hbx (And.intro back True.intro)))
        have gl:=(hbx _ _ hS).2.2
        clear hS hbx back b5
        obtain ⟨al,eal⟩:∃ al,p.1.args.length=al:=⟨_,rfl⟩
        have EAL:=Lib.hid eal
        try rw [eal] at c5
        clear eal
        go_wp2_with fail
        go_region_law (first | (refine step_app rfl (.tmp 66) (.tmp 68) 41 rfl iV _ 24 Tryz.underlying41 HI.out.1 HI.out.2.1 HI.out.2.2.1 HI.out.2.2.2 rfl (by decide) (by rw [← EAL.out];rfl) ((HS.out.1.alloc _).drew) (⟨0,0,0⟩) _ 1 rfl rfl (cell3_lit2 _ _ _ _ _) (argC_o1 _) (by have:=KK.out.2.2.2;show p.1.args.length+1≤_;unfold maxLen;omega) (by have:=KK.out.2.2.2;show (p.1.args.length+1) * _≤_;omega) ?_;intro p' c' w' hS';obtain ⟨k0,k1,k2⟩:=HS.out.2.1 _ _ hS';try rw [EAL.out] at k0))
        all_goals
          go_wp2_with fail
          go_end0
          exact ⟨rfl,(HS.out.2.2.1 _ _ _ _ _ hS').nobx⟩
end
section
variable {B b g:Nat} {W w:World} {en:Tok} {m0 m1 m2:Value} {p:PIns×RS} {s:RS} {Z:As}
theorem Pk.tgX {x:LI} (h:Pk B W b en m0 m1 m2 s ((As.and (bx g (insC x.1)) (As.and (insRow B x) Z))) w):∃ Y,St B W ((As.and (rw' B 3 1 intC x.1.tp x.1.tl x.1.tc x.2) Y)) w∧(∀ X w',St B W ((As.and X Y)) w'→w'.cell? ⟨g,6,none⟩=some (.slice x.1.tp x.1.tl x.1.tc)∧w'.frozen? ⟨g,6,none⟩=false∧g<w'.heap.size) ∧
    ∀ ap' ac' n' tg' w',St B W ((As.and (rw' B 3 1 intC ap' n' ac' tg') Y)) w'→Ik B W b en m0 m1 m2 g ({ insD x with tg:=tg' },s) Z (w'.setCell ⟨g,6,none⟩ (.slice ap' n' ac')):=by
  obtain ⟨Y,hs,back⟩:=h.st
  refine ⟨(As.and (bx g (insC x.1)) (As.and (rw' B 107 3 argC x.1.ap x.1.al x.1.ac x.1.args) (As.and Z Y))),hs.imp ⟨fun w x=>⟨x.1.2.1.2,x.1.1,x.1.2.1.1,x.1.2.2,x.2⟩,fun k=>by simp only [As.and_c,insRow];omega⟩,fun X w' h' => (have hb:Box g (insC x.1) w':=h'.sat.2.1;⟨hb.get 6 _ rfl,hb.2.1 6,hb.1⟩),fun ap' ac' n' tg' w' h' => ⟨({ x.1 with tp:=ap',tl:=n',tc:=ac' },tg'),rfl,?_⟩⟩
  refine back _ _ ?_
  have h4:St B W ((As.and (bx g (insC x.1)) (As.and (rw' B 3 1 intC ap' n' ac' tg') (As.and (rw' B 107 3 argC x.1.ap x.1.al x.1.ac x.1.args) (As.and Z Y))))) w':=h'.imp ⟨fun w x=>⟨x.2.1,x.1,x.2.2.1,x.2.2.2.1,x.2.2.2.2⟩,fun k=>by simp only [As.and_c];omega⟩
  exact (h4.set 6 _).imp ⟨fun w x=>⟨⟨x.1,⟨x.2.2.1,x.2.1⟩,x.2.2.2.1⟩,x.2.2.2.2⟩,fun k=>by simp only [As.and_c,insRow];exact Nat.le_of_eq (by simp only [bx_c];omega)⟩
theorem infoNt:(Tryz.prog.info? 3).map (fun i=>(i.zero,i.size,i.bytes))=some (some (.int .i64 0),1,8):=by kernel_rfl
theorem int_lit (w:World) (v:Int):∀ j u,(intC v)[j]? = some u→(w.alloc (.cells #[.int .i64 v] 3)).cell? ((⟨w.heap.size,0,none⟩:Addr).add j)=some u:=lit_cells w #[.int .i64 v] _
set_option maxRecDepth 100000 in
set_option maxHeartbeats 4000000 in
theorem target_any (K:Kn B W en) (hl:p.1.tg.length≤1000000) (h:Ik B W b en m0 m1 m2 g p Z w) :
    Calls Tryz.prog 202 #[.pointer (some ⟨b,0,none⟩),.pointer (some ⟨g,0,none⟩)] w (fun e w' => e=.returned (.tuple #[])∧Ik B W b en m0 m1 m2 g (iTg en p) Z w'):=by
  obtain ⟨iN,hiN,hz0,hz1,hz2⟩:=info_parts infoNt
  have HI:=Lib.hid (And.intro hiN (And.intro hz0 (And.intro hz1 hz2)))
  clear hiN hz0 hz1 hz2
  obtain ⟨x,ex,hP⟩:=h
  have b0:=hP.box
  have c6:=b0.get 6 _ rfl
  have gl:=b0.1
  have C:=fun (w':World) (h':Pk B W b en m0 m1 m2 p.2 ((As.and (bx g (insC x.1)) (As.and (insRow B x) Z))) w')=>h'.wantBlock K
  have HP:=Lib.hid (And.intro hP (And.intro ex hl))
  clear hP b0 K
  unfold iTg
  obtain ⟨v,ev⟩:∃ v,vBlock en p.2=v:=⟨_,rfl⟩
  simp only [ev] at C ⊢
  obtain ⟨n,en0⟩:∃ n,x.1.tl=n:=⟨_,rfl⟩
  have EN:=Lib.hid en0
  rw [en0] at c6
  clear ev en0 hl
  go_enter Tryz.func202,Tryz.ntmps202
  go_wp2_with fail
  go_region_law (first | (refine step_app rfl (.tmp 8) (.tmp 13) 40 rfl iN _ 8 Tryz.underlying40 HI.out.1 HI.out.2.1 HI.out.2.2.1 HI.out.2.2.2 rfl (by decide) (by rw [← EN.out];rfl) (HT.out.1.alloc _) v _ 1 rfl rfl (int_lit _ v) (intC_one v) HP0.out.1 HP0.out.2 ?_;intro p' c' w' hS';obtain ⟨k0,k1,k2⟩:=HT.out.2.1 _ _ hS';rw [EN.out] at k0) | (go_simp;(with_reducible refine (C _ HP.out.1.drew).mono ?_);rintro e w2 ⟨rfl,h3⟩;obtain ⟨Y,hT⟩:=h3.tgX;have HT:=Lib.hid hT;have HP0:Hid (x.2.length+1≤maxLen∧(x.2.length+1) * 8≤140737488355328):=Lib.hid (by (have e0:x.2=p.1.tg:=congrArg PIns.tg HP.out.2.1);rw [e0];have:=HP.out.2.2;unfold maxLen;omega);obtain ⟨d0,d1,d2⟩:=hT.2.1 _ _ hT.1;rw [EN.out] at d0;clear hT h3))
  all_goals
    go_wp2_with fail
    go_end0
    have q:=HT.out.2.2 _ _ _ _ _ hS'
    refine ⟨rfl,?_⟩
    rw [← HP.out.2.1]
    exact q
set_option maxRecDepth 100000 in
set_option maxHeartbeats 4000000 in
theorem flags_any (h:Ik B W b en m0 m1 m2 g p Z w) :
    Calls Tryz.prog 203 #[.pointer (some ⟨b,0,none⟩)] w (fun e w' => e=.returned (.int .i64 (vFlags en p.2))∧Ik B W b en m0 m1 m2 g (p.1,sFlags en p.2) Z w'):=by
  unfold vFlags sFlags
  have C1:∀ w,Ik B W b en m0 m1 m2 g (p.1,p.2) Z w→Calls Tryz.prog 73 #[.pointer (some ⟨b,0,none⟩),.int .i64 1,.string ⟨#[110,115,119]⟩] w (fun e w' => e=.returned (.bool (isTk 1 [110,115,119] (nx en (p.2))))∧Ik B W b en m0 m1 m2 g (p.1,sPassed en 1 [110,115,119] (p.2)) Z w'):=fun w h=>h.passed 1 [110,115,119] 1 _ rfl rfl
  have C2:∀ w,Ik B W b en m0 m1 m2 g (p.1,sPassed en 1 [110,115,119] p.2) Z w→Calls Tryz.prog 73 #[.pointer (some ⟨b,0,none⟩),.int .i64 1,.string ⟨#[110,117,119]⟩] w (fun e w' => e=.returned (.bool (isTk 1 [110,117,119] (nx en (sPassed en 1 [110,115,119] p.2))))∧Ik B W b en m0 m1 m2 g (p.1,sPassed en 1 [110,117,119] (sPassed en 1 [110,115,119] p.2)) Z w'):=fun w h=>h.passed 1 [110,117,119] 1 _ rfl rfl
  have C3:∀ w,Ik B W b en m0 m1 m2 g (p.1,sPassed en 1 [110,117,119] (sPassed en 1 [110,115,119] p.2)) Z w→Calls Tryz.prog 73 #[.pointer (some ⟨b,0,none⟩),.int .i64 1,.string ⟨#[101,120,97,99,116]⟩] w (fun e w' => e=.returned (.bool (isTk 1 [101,120,97,99,116] (nx en (sPassed en 1 [110,117,119] (sPassed en 1 [110,115,119] p.2)))))∧Ik B W b en m0 m1 m2 g (p.1,sPassed en 1 [101,120,97,99,116] (sPassed en 1 [110,117,119] (sPassed en 1 [110,115,119] p.2))) Z w'):=fun w h=>h.passed 1 [101,120,97,99,116] 1 _ rfl rfl
  replace C1:=C1 w h
  clear h
  obtain ⟨a1,e1⟩:∃ a,isTk 1 [110,115,119] (nx en p.2)=a:=⟨_,rfl⟩
  simp only [e1] at C1 ⊢
  obtain ⟨a2,e2⟩:∃ a,isTk 1 [110,117,119] (nx en (sPassed en 1 [110,115,119] p.2))=a:=⟨_,rfl⟩
  simp only [e2] at C2 ⊢
  obtain ⟨a3,e3⟩:∃ a,isTk 1 [101,120,97,99,116] (nx en (sPassed en 1 [110,117,119] (sPassed en 1 [110,115,119] p.2)))=a:=⟨_,rfl⟩
  simp only [e3] at C3 ⊢
  clear e1 e2 e3
  cases a1 <;> cases a2 <;> cases a3
  all_goals
    go_enter Tryz.func203,Tryz.ntmps203
    go_wp2_with (first | ((with_reducible refine C1.mono ?_);rintro e w1 ⟨rfl,h1⟩) | ((with_reducible refine (C2 _ h1).mono ?_);rintro e w2 ⟨rfl,h2⟩) | ((with_reducible refine (C3 _ h2).mono ?_);rintro e w3 ⟨rfl,h3⟩))
    go_ret
    exact ⟨rfl,h3⟩
end
end Go.Proofs.YtmmlfmplggbmiaaGreatDoor
namespace Go.Proofs.YtmmlfmplggbmiaaGreatDoor
set_option linter.unusedVariables false
set_option linter.unusedSimpArgs false
def ArgIn (n:Nat) (a:Arg):Prop:=a.kind=5→0≤a.n∧a.n<n
def InsInn (n:Nat) (x:PIns):Prop:=(x.op=30→0≤x.n∧x.n<n)∧∀ a∈x.args,ArgIn n a
def CodeInn (n:Nat) (bs:List (List PIns)):Prop:=∀ c∈bs,∀ x∈c,InsInn n x
def ModInn (n:Nat) (m:PMod):Prop:=∀ f∈m.fs,CodeInn n f.bs
theorem ArgIn.mono {n k:Nat} {a:Arg} (h:ArgIn n a) (hk:n≤k):ArgIn k a:=fun e=>by have:=h e;omega
theorem InsInn.mono {n k:Nat} {x:PIns} (h:InsInn n x) (hk:n≤k):InsInn k x:=⟨fun e=>by have:=h.1 e;omega,fun a ha=>(h.2 a ha).mono hk⟩
theorem CodeInn.mono {n k:Nat} {x:List (List PIns)} (h:CodeInn n x) (hk:n≤k):CodeInn k x:=fun c hc x hx=>(h c hc x hx).mono hk
/-! Names that are asked stay asked. -/
def nA (s:RS):Nat:=s.asked.length
theorem nA_ps (s:RS):nA (ps s)=nA s:=rfl
theorem nA_bd (c:Nat) (t:Tok) (s:RS):nA (bd c t s)=nA s:=rfl
theorem nA_ask (t:Tok) (s:RS):nA (sAsk t s)=nA s+1:=by unfold nA sAsk;simp
theorem nA_this (en:Tok) (k:Nat) (b:Tx) (s:RS):nA (sThis en k b s)=nA s:=by unfold sThis;split <;> rfl
theorem nA_want (en:Tok) (k:Nat) (s:RS):nA (sWant en k s)=nA s:=by unfold sWant;split <;> rfl
theorem nA_passed (en:Tok) (k:Nat) (b:Tx) (s:RS):nA (sPassed en k b s)=nA s:=by unfold sPassed;split <;> rfl
theorem nA_block (en:Tok) (s:RS):nA (sBlock en s)=nA s:=by unfold sBlock;split <;> rfl
theorem nA_type (en:Tok) (s:RS):nA (sType en s)=nA s:=by unfold sType;split <;> simp only [nA_bd,nA_want]
theorem nA_size (en:Tok) (s:RS):nA (sSize en s)=nA s:=by unfold sSize;split <;> simp only [nA_bd,nA_want]
theorem nA_flags (en:Tok) (s:RS):nA (sFlags en s)=nA s:=by unfold sFlags;simp only [nA_passed]
theorem nA_operand (en:Tok) (s:RS):nA s≤nA (sOperand en s):=by
  unfold sOperand
  split
  · exact Nat.le_refl _
  split
  · rw [nA_ps,nA_ask];omega
  split <;> exact Nat.le_refl _
theorem argIn_operand (en:Tok) (s:RS):ArgIn (nA (sOperand en s)) (vOperand en s):=by
  intro hk
  by_cases h3:(nx en s).kind=3
  · unfold vOperand at hk;rw [if_pos h3] at hk;exact absurd hk (by show ¬ ((1:Int)=5);decide)
  by_cases h2:(nx en s).kind=2
  · unfold vOperand at hk;rw [if_neg h3,if_pos h2] at hk;exact absurd hk (by show ¬ ((2:Int)=5);decide)
  by_cases h4:(nx en s).kind=4
  · have e1:vOperand en s=⟨5,s.asked.length,0⟩:=by unfold vOperand;rw [if_neg h3,if_neg h2,if_pos h4]
    have e2:sOperand en s=ps (sAsk (nx en s) s):=by unfold sOperand;rw [if_neg (by omega),if_pos h4]
    rw [e1,e2,nA_ps,nA_ask]
    unfold nA
    exact ⟨by show (0:Int)≤(s.asked.length:Int);omega,by show (s.asked.length:Int)<((s.asked.length+1:Nat):Int);omega⟩
  · unfold vOperand at hk
    rw [if_neg h3,if_neg h2,if_neg h4] at hk
    split at hk
    · exact absurd hk (by show ¬ ((3:Int)=5);decide)
    split at hk
    · exact absurd hk (by show ¬ ((4:Int)=5);decide)
    · exact absurd hk (by show ¬ ((0:Int)=5);decide)
def Kps (p q:PIns×RS):Prop:=nA p.2≤nA q.2∧(InsInn (nA p.2) p.1→InsInn (nA q.2) q.1)
theorem Kps.refl (p:PIns×RS):Kps p p:=⟨Nat.le_refl _,id⟩
theorem Kps.trans {p q r:PIns×RS} (h:Kps p q) (k:Kps q r):Kps p r:=⟨Nat.le_trans h.1 k.1,fun x=>k.2 (h.2 x)⟩
theorem kps_arg (en:Tok) (p:PIns×RS):Kps p (iArg en p):=by
  refine ⟨nA_operand en p.2,fun h=>⟨fun e=>?_,fun a ha=>?_⟩⟩
  · have:=h.1 e
    have:=nA_operand en p.2
    show 0≤p.1.n∧p.1.n<(nA (sOperand en p.2):Int)
    omega
  · rcases List.mem_append.1 ha with ha | ha
    · exact (h.2 a ha).mono (nA_operand en p.2)
    · rw [List.mem_singleton.1 ha]
      exact argIn_operand en p.2
theorem kps_same {p q:PIns×RS} (h:nA q.2=nA p.2) (h1:q.1.op=p.1.op) (h2:q.1.n=p.1.n) (h3:q.1.args=p.1.args):Kps p q:=by
  refine ⟨Nat.le_of_eq h.symm,fun k=>⟨fun e=>?_,fun a ha=>?_⟩⟩
  · rw [h2,h];exact k.1 (by rw [← h1];exact e)
  · rw [h];exact k.2 a (by rw [← h3];exact ha)
theorem kps_tg (en:Tok) (p:PIns×RS):Kps p (iTg en p):=kps_same (nA_block en p.2) rfl rfl rfl
theorem kps_mark (en:Tok) (c:UInt8) (p:PIns×RS):Kps p (iMark en c p):=kps_same (nA_this en 5 [c] p.2) rfl rfl rfl
theorem kps_ty (en:Tok) (p:PIns×RS):Kps p ({ p.1 with ty:=vType en p.2 },sType en p.2):=kps_same (nA_type en p.2) rfl rfl rfl
theorem kps_ops (en:Tok):∀ (k:Nat) (p:PIns×RS),Kps p ({ p.1 with args:=p.1.args++vOps en k p.2 },sOps en k p.2)
  | 0,p=>kps_same rfl rfl rfl (by show p.1.args++[]=_;rw [List.append_nil])
  | k + 1,p=>by
    have h:=((kps_mark en 44 p).trans (kps_arg en _)).trans (kps_ops en k (iArg en (iMark en 44 p)))
    have e:({ (iArg en (iMark en 44 p)).1 with args:=(iArg en (iMark en 44 p)).1.args++vOps en k (iArg en (iMark en 44 p)).2 }:PIns)={ p.1 with args:=p.1.args++vOps en (k+1) p.2 }:=by
      simp only [iArg,iMark,vOps]
      rw [List.append_assoc]
      rfl
    rw [e] at h
    exact h
theorem kps_args (en:Tok) (n:Nat) (p:PIns×RS):Kps p (iArgs en n p):=by
  unfold iArgs
  cases n with
  | zero=>exact kps_same rfl rfl rfl (by show p.1.args++[]=_;rw [List.append_nil])
  | succ k =>
    have h:=(kps_arg en p).trans (kps_ops en k (iArg en p))
    have e:({ (iArg en p).1 with args:=(iArg en p).1.args++vOps en k (iArg en p).2 }:PIns)={ p.1 with args:=p.1.args++vOperands en (k+1) p.2 }:=by
      simp only [iArg,vOperands]
      rw [List.append_assoc]
      rfl
    rw [e] at h
    exact h
theorem kps_typed (en:Tok) (n:Nat) (p:PIns×RS):Kps p (iTyped en n p):=(kps_ty en p).trans (kps_args en n _)
theorem kps_more (en:Tok) {item:PIns×RS→PIns×RS} (hi:∀ p,Kps p (item p)):∀ (k:Nat) (p:PIns×RS),Kps p (sMore en item k p)
  | 0,p=>Kps.refl p
  | k + 1,p=>by
    unfold sMore
    split
    · have h0:Kps p (p.1,ps p.2):=kps_same rfl rfl rfl rfl
      exact (h0.trans (hi _)).trans (kps_more en hi k _)
    · exact Kps.refl p
theorem kps_commas (en:Tok) {item:PIns×RS→PIns×RS} (hi:∀ p,Kps p (item p)) (p:PIns×RS):Kps p (sCommas en item p):=(hi p).trans (kps_more en hi _ _)
theorem kps_brackets (en:Tok) {item:PIns×RS→PIns×RS} (hi:∀ p,Kps p (item p)) (p:PIns×RS):Kps p (sBrackets en item p):=by
  unfold sBrackets
  have h0:Kps p (p.1,sThis en 5 [40] p.2):=kps_same (nA_this en 5 [40] p.2) rfl rfl rfl
  split
  · exact kps_same (by rw [nA_ps,nA_this]) rfl rfl rfl
  · exact (h0.trans (kps_commas en hi _)).trans (kps_same (nA_this en 5 [41] _) rfl rfl rfl)
theorem kps_phi (en:Tok) (p:PIns×RS):Kps p (iPhi en p):=by
  unfold iPhi
  split
  · exact kps_ty en p
  · exact (kps_ty en p).trans (kps_commas en (fun q=>(kps_tg en q).trans (kps_arg en _)) _)
theorem kps_n {p:PIns×RS} (h:p.1.op≠30) (v:Int) (s:RS) (hs:nA s=nA p.2) (t:Int):Kps p ({ p.1 with ty:=t,n:=v },s) :=
  ⟨Nat.le_of_eq hs.symm,fun k=>⟨fun e=>absurd e h,fun a ha=>by rw [hs];exact k.2 a ha⟩⟩
theorem kps_conv (en:Tok) (p:PIns×RS) (h:p.1.op≠30):Kps p (iConv en p):=by
  unfold iConv
  have h1:Kps p ({ p.1 with n:=vType en p.2 },sType en p.2):=kps_n h _ _ (nA_type en p.2) p.1.ty
  have h2:=h1.trans (kps_arg en _)
  refine h2.trans (kps_same ?_ rfl rfl rfl)
  rw [nA_type,nA_this]
theorem kps_call (en:Tok) (p:PIns×RS):Kps p (iCall en p):=by
  unfold iCall
  have h1:Kps p ({ p.1 with n:=(sWant en 1 p.2).asked.length },sAsk (nx en p.2) (sWant en 1 p.2)):=by
    refine ⟨by rw [nA_ask,nA_want];omega,fun k=>⟨fun _=>?_,fun a ha=>(k.2 a ha).mono (by rw [nA_ask,nA_want];omega)⟩⟩
    rw [nA_ask]
    show (0:Int)≤((sWant en 1 p.2).asked.length:Int)∧((sWant en 1 p.2).asked.length:Int)<((nA (sWant en 1 p.2)+1:Nat):Int)
    unfold nA
    omega
  exact h1.trans (kps_brackets en (kps_arg en) _)
theorem kps_form (en:Tok) (p:PIns×RS):Kps p (iForm en p):=by
  unfold iForm
  by_cases c0:20≤p.1.op∧p.1.op≤22
  · rw [if_pos c0]
    exact kps_conv en p (by omega)
  rw [if_neg c0]
  by_cases c1:p.1.op=23
  · rw [if_pos c1]
    exact kps_typed en 3 p
  rw [if_neg c1]
  by_cases c2:p.1.op=24∨p.1.op=27
  · rw [if_pos c2]
    exact kps_typed en 1 p
  rw [if_neg c2]
  by_cases c3:p.1.op=25
  · rw [if_pos c3]
    exact kps_phi en p
  rw [if_neg c3]
  by_cases c4:p.1.op=26
  · rw [if_pos c4]
    exact kps_n (by omega) _ _ (nA_size en p.2) _
  rw [if_neg c4]
  by_cases c5:p.1.op=29
  · rw [if_pos c5]
    exact (kps_same (q:=({ p.1 with ty:=65 },p.2)) rfl rfl rfl rfl).trans (kps_args en 2 _)
  rw [if_neg c5]
  by_cases c6:p.1.op=30
  · rw [if_pos c6]
    exact kps_call en p
  rw [if_neg c6]
  by_cases c7:p.1.op=32
  · rw [if_pos c7]
    exact ((((kps_arg en p).trans (kps_mark en 44 _)).trans (kps_tg en _)).trans (kps_mark en 44 _)).trans (kps_tg en _)
  rw [if_neg c7]
  by_cases c8:p.1.op=31
  · rw [if_pos c8]
    exact kps_tg en p
  rw [if_neg c8]
  by_cases c9:p.1.op=33
  · rw [if_pos c9]
    by_cases d:(nx en p.2).kind≠6
    · rw [if_pos d];exact kps_typed en 1 p
    · rw [if_neg d];exact Kps.refl p
  rw [if_neg c9]
  by_cases c10:p.1.op=34
  · rw [if_pos c10]
    exact Kps.refl p
  rw [if_neg c10]
  by_cases c11:p.1.op≤13
  · rw [if_pos c11]
    exact (kps_same (q:=({ p.1 with fl:=vFlags en p.2 },sFlags en p.2)) (nA_flags en p.2) rfl rfl rfl).trans (kps_typed en 2 _)
  rw [if_neg c11]
  exact kps_typed en 2 p
theorem nA_reg (en:Tok) (s:RS):nA (sReg en s)=nA s:=by unfold sReg;split;rw [nA_this,nA_want];rfl
theorem nA_word (en:Tok) (r:Int) (s:RS):nA (sWord en r s)=nA s:=by unfold sWord;rw [nA_ps];split <;> rfl
theorem ins_inn (en:Tok) (s:RS):nA s≤nA (iInstr en s).2∧InsInn (nA (iInstr en s).2) (iInstr en s).1:=by
  unfold iInstr
  dsimp only
  rw [nA_want]
  generalize hs:sWord en (vReg en s) (sReg en s)=s2
  have hn:nA s2=nA s:=by rw [← hs,nA_word,nA_reg]
  generalize hop:opOfP (nx en (sReg en s))=op
  refine ⟨?_,?_⟩
  · rw [← hn]
    exact (kps_form en (⟨op,vReg en s,0,0,0,[],[]⟩,s2)).1
  · by_cases h30:op=30
    · subst h30
      have e:iForm en (⟨((30:Nat):Int),vReg en s,0,0,0,[],[]⟩,s2)=iCall en (⟨((30:Nat):Int),vReg en s,0,0,0,[],[]⟩,s2):=rfl
      rw [e]
      unfold iCall
      refine (kps_brackets en (kps_arg en) _).2 ⟨fun _=>?_,fun a ha=>by cases ha⟩
      rw [nA_ask]
      show (0:Int)≤((sWant en 1 s2).asked.length:Int)∧((sWant en 1 s2).asked.length:Int)<((nA (sWant en 1 s2)+1:Nat):Int)
      unfold nA
      omega
    · exact (kps_form en (⟨op,vReg en s,0,0,0,[],[]⟩,s2)).2 ⟨fun e=>absurd (Int.ofNat.inj e) h30,fun a ha=>by cases ha⟩
theorem nA_bdIf (c:Prop) [Decidable c] (k:Nat) (en:Tok) (s:RS):nA (bdIf c k en s)=nA s:=by unfold bdIf;split <;> rfl
theorem nA_label (en:Tok) (len n:Nat) (s:RS):nA (sLabel en len n s)=nA s:=by unfold sLabel;rw [nA_want,nA_this,nA_ps,nA_bdIf,nA_bdIf]
theorem addLast_inn {n:Nat} {bs:List (List PIns)} {x:PIns} (h:CodeInn n bs) (hx:InsInn n x):CodeInn n (addLast bs x):=by
  intro c hc y hy
  unfold addLast at hc
  rcases List.mem_append.1 hc with hc | hc
  · exact h c ((List.dropLast_subset bs hc)) y hy
  · rw [List.mem_singleton.1 hc] at hy
    rcases List.mem_append.1 hy with hy | hy
    · cases e:bs.getLast? with
      | none=>rw [e] at hy;cases hy
      | some d =>
        rw [e] at hy
        exact h d (List.mem_of_getLast? e) y hy
    · rw [List.mem_singleton.1 hy];exact hx
theorem body_inn (en:Tok):∀ (k:Nat) (p:List (List PIns)×RS),CodeInn (nA p.2) p.1→nA p.2≤nA (iBody en k p).2∧CodeInn (nA (iBody en k p).2) (iBody en k p).1
  | 0,p,h=>⟨Nat.le_refl _,h⟩
  | k + 1, p,h=>by
    unfold iBody
    split
    · exact ⟨Nat.le_refl _,h⟩
    · split
      · exact body_inn en k (p.1,ps p.2) h
      · split
        · rename_i n _
          have e:=nA_label en p.1.length n p.2
          have:=body_inn en k (p.1++[[]],sLabel en p.1.length n p.2) (by
            rw [e]
            intro c hc x hx
            rcases List.mem_append.1 hc with hc | hc
            · exact h c hc x hx
            · rw [List.mem_singleton.1 hc] at hx;cases hx)
          exact ⟨by rw [← e];exact this.1,this.2⟩
        · split
          · exact body_inn en k (p.1,bd 3 _ p.2) h
          split
          · exact ⟨by rw [nA_want];exact Nat.le_refl _,by dsimp only;rw [nA_want];exact h⟩
          split
          · exact body_inn en k (p.1,bd 6 _ p.2) h
          · have hi:=ins_inn en p.2
            have:=body_inn en k (addLast p.1 (iInstr en p.2).1,(iInstr en p.2).2) (addLast_inn (h.mono hi.1) hi.2)
            exact ⟨Nat.le_trans hi.1 this.1,this.2⟩
theorem nA_param (en:Tok) (p:List Int×RS):nA (iParam en p).2=nA p.2:=by
  unfold iParam
  dsimp only
  split
  · rw [nA_bd,nA_type]
  · rw [nA_type]
theorem nA_more {β:Type} (en:Tok) {item:β×RS→β×RS} (hi:∀ p,nA (item p).2=nA p.2):∀ (k:Nat) (p:β×RS),nA (sMore en item k p).2=nA p.2
  | 0,p=>rfl
  | k+1,p=>by
    unfold sMore
    split
    · rw [nA_more en hi k,hi];rfl
    · rfl
theorem nA_commas {β:Type} (en:Tok) {item:β×RS→β×RS} (hi:∀ p,nA (item p).2=nA p.2) (p:β×RS):nA (sCommas en item p).2=nA p.2:=by unfold sCommas;rw [nA_more en hi,hi]
theorem nA_brackets {β:Type} (en:Tok) {item:β×RS→β×RS} (hi:∀ p,nA (item p).2=nA p.2) (p:β×RS):nA (sBrackets en item p).2=nA p.2:=by
  unfold sBrackets
  split
  · dsimp only;rw [nA_ps,nA_this]
  · dsimp only;rw [nA_this,nA_commas en hi,nA_this]
theorem nA_types (en:Tok) (s:RS):nA (sTypes en s)=nA s:=by unfold sTypes;rw [nA_type,nA_brackets en (nA_param en)]
theorem nA_name (en:Tok) (f:Bool) (told:Tx→Bool) (s:RS):nA (sName en f told s)=nA s:=by
  unfold sName
  dsimp only
  split <;> (try rw [nA_bd]) <;> split <;> (try rw [nA_bd]) <;> rw [nA_want]
theorem nA_head (en:Tok) (p:PMod×RS):nA (sHead en p)=nA p.2:=by unfold sHead;rw [nA_want,nA_types,nA_name]
theorem func_inn (en:Tok) (p:PMod×RS) (h:ModInn (nA p.2) p.1):nA p.2≤nA (iFunc en p).2∧ModInn (nA (iFunc en p).2) (iFunc en p).1:=by
  have hb:=body_inn en ((sHead en p).ts.length+1) ([],sHead en p) (fun c hc=>by cases hc)
  have e:=nA_head en p
  unfold iFunc
  refine ⟨by rw [← e];exact hb.1,fun f hf=>?_⟩
  rcases List.mem_append.1 hf with hf | hf
  · exact (h f hf).mono (by rw [← e];exact hb.1)
  · rw [List.mem_singleton.1 hf]
    exact hb.2
theorem lines_inn (en:Tok):∀ (k:Nat) (p:PMod×RS),ModInn (nA p.2) p.1→nA p.2≤nA (iLines en k p).2∧ModInn (nA (iLines en k p).2) (iLines en k p).1
  | 0,p,h=>⟨Nat.le_refl _,h⟩
  | k + 1,p,h=>by
    unfold iLines
    split
    · exact ⟨Nat.le_refl _,h⟩
    · split
      · exact lines_inn en k (p.1,ps p.2) h
      split
      · have e:nA (iGlobal en (p.1,ps p.2)).2=nA p.2:=by unfold iGlobal;dsimp only;rw [nA_want,nA_size,nA_name];rfl
        have:=lines_inn en k (iGlobal en (p.1,ps p.2)) (by rw [e];exact h)
        exact ⟨by rw [← e];exact this.1,this.2⟩
      split
      · have e:nA (iExtern en (p.1,ps p.2)).2=nA p.2:=by unfold iExtern;dsimp only;rw [nA_want,nA_types,nA_name];rfl
        have:=lines_inn en k (iExtern en (p.1,ps p.2)) (by rw [e];exact h)
        exact ⟨by rw [← e];exact this.1,this.2⟩
      split
      · have hf:=func_inn en (p.1,ps p.2) h
        have:=lines_inn en k (iFunc en (p.1,ps p.2)) hf.2
        exact ⟨Nat.le_trans hf.1 this.1,this.2⟩
      · exact lines_inn en k (p.1,bd 3 _ p.2) h
end Go.Proofs.YtmmlfmplggbmiaaGreatDoor
namespace Go.Proofs.YtmmlfmplggbmiaaGreatDoor
open Go.RowKit Go.Maps
set_option linter.unusedVariables false
set_option linter.unusedSimpArgs false
/-! How much there can be of an instruction. -/
def Lim (N:Nat) (p:PIns×RS):Prop:=p.1.args.length+p.1.tg.length+2 * sz p.2≤N
theorem Lim.mono {N M:Nat} {p:PIns×RS} (h:Lim N p) (k:N≤M):Lim M p:=Nat.le_trans h k
theorem Lim.asked {N:Nat} {p:PIns×RS} (h:Lim N p):p.2.asked.length≤N:=by unfold Lim sz at h;omega
theorem Lim.args {N:Nat} {p:PIns×RS} (h:Lim N p):p.1.args.length≤N:=by unfold Lim at h;omega
theorem Lim.tg {N:Nat} {p:PIns×RS} (h:Lim N p):p.1.tg.length≤N:=by unfold Lim at h;omega
theorem Lim.same {N:Nat} {p q:PIns×RS} (h:Lim N p) (h1:q.1.args=p.1.args) (h2:q.1.tg=p.1.tg) (h3:sz q.2≤sz p.2):Lim N q:=by unfold Lim at *;rw [h1,h2];omega
theorem lim_arg {N:Nat} {en:Tok} (he:en.kind=6) {p:PIns×RS} (h:Lim N p):Lim (N+1) (iArg en p):=by
  have:=sz_operand he p.2
  unfold Lim at *
  show (p.1.args++[_]).length+p.1.tg.length+2 * sz (sOperand en p.2)≤_
  simp
  omega
theorem lim_tg {N:Nat} {en:Tok} {p:PIns×RS} (h:Lim N p):Lim (N+1) (iTg en p):=by
  have:=sz_block en p.2
  unfold Lim at *
  show p.1.args.length+(p.1.tg++[_]).length+2 * sz (sBlock en p.2)≤_
  simp
  omega
theorem lim_mark {N:Nat} {en:Tok} {c:UInt8} {p:PIns×RS} (h:Lim N p):Lim N (iMark en c p):=h.same rfl rfl (sz_this en 5 [c] p.2)
def opStep (en:Tok) (i:Nat) (q:PIns×RS):PIns×RS:=if i=0 then iArg en q else iArg en (iMark en 44 q)
def opIter (en:Tok):Nat→PIns×RS→PIns×RS
  | 0,q=>q
  | i+1,q=>opStep en i (opIter en i q)
theorem sOps_snoc (en:Tok):∀ (k:Nat) (s:RS),sOps en (k+1) s=sOperand en (sThis en 5 [44] (sOps en k s))
  | 0,s=>rfl
  | k+1,s=>by
    show sOps en (k+1) (sOperand en (sThis en 5 [44] s))=_
    rw [sOps_snoc en k]
    rfl
theorem vOps_snoc (en:Tok):∀ (k:Nat) (s:RS),vOps en (k+1) s=vOps en k s++[vOperand en (sThis en 5 [44] (sOps en k s))]
  | 0,s=>rfl
  | k+1,s=>by
    show vOperand en (sThis en 5 [44] s)::vOps en (k+1) (sOperand en (sThis en 5 [44] s))=_
    rw [vOps_snoc en k]
    rfl
theorem opIter_args (en:Tok) (p:PIns×RS):∀ n:Nat,opIter en n p=iArgs en n p
  | 0=>by
    unfold opIter iArgs
    show p=({ p.1 with args:=p.1.args++[] },p.2)
    rw [List.append_nil]
  | 1=>by
    unfold opIter opIter opStep iArgs
    rfl
  | n+2=>by
    have ih:=opIter_args en p (n+1)
    show opStep en (n+1) (opIter en (n+1) p)=_
    rw [ih]
    unfold opStep
    rw [if_neg (by omega)]
    show iArg en (iMark en 44 ({ p.1 with args:=p.1.args++(vOperand en p.2::vOps en n (sOperand en p.2)) },sOps en n (sOperand en p.2)))=({ p.1 with args:=p.1.args++(vOperand en p.2::vOps en (n+1) (sOperand en p.2)) },sOps en (n+1) (sOperand en p.2))
    rw [sOps_snoc,vOps_snoc]
    unfold iArg iMark
    simp
theorem lim_iter {N:Nat} {en:Tok} (he:en.kind=6) {p:PIns×RS} (h:Lim N p):∀ n:Nat,Lim (N+n) (opIter en n p)
  | 0=>h
  | n+1=>by
    show Lim (N+n+1) (opStep en n (opIter en n p))
    have ih:=lim_iter he h n
    unfold opStep
    split
    · exact lim_arg he ih
    · exact lim_arg he (lim_mark ih)
section
variable {B b g:Nat} {W w:World} {en:Tok} {m0 m1 m2:Value} {p:PIns×RS} {s:RS} {Z:As}
theorem Ik.operand (h:Ik B W b en m0 m1 m2 g p Z w) (K:Kn B W en) (hL:Lim 1000000 p) :
    Calls Tryz.prog 195 #[.pointer (some ⟨b,0,none⟩),.pointer (some ⟨g,0,none⟩)] w (fun e w' => e=.returned (.tuple #[])∧Ik B W b en m0 m1 m2 g (iArg en p) Z w'):=operand_any K hL.asked hL.args h
theorem Ik.target (h:Ik B W b en m0 m1 m2 g p Z w) (K:Kn B W en) (hL:Lim 1000000 p) :
    Calls Tryz.prog 202 #[.pointer (some ⟨b,0,none⟩),.pointer (some ⟨g,0,none⟩)] w (fun e w' => e=.returned (.tuple #[])∧Ik B W b en m0 m1 m2 g (iTg en p) Z w'):=target_any K hL.tg h
theorem Ik.mark (h:Ik B W b en m0 m1 m2 g p Z w) (c:UInt8) (xi:ByteArray) (ex:xi=⟨#[c]⟩) :
    Calls Tryz.prog 171 #[.pointer (some ⟨b,0,none⟩),.string xi] w (fun e w' => e=.returned (.tuple #[])∧Ik B W b en m0 m1 m2 g (iMark en c p) Z w'):=h.wantMark [c] xi ex
set_option maxRecDepth 100000 in
set_option maxHeartbeats 4000000 in
theorem operands_any (K:Kn B W en) (n:Nat) (hn:n≤3) (hL:Lim 900000 p) (h:Ik B W b en m0 m1 m2 g p Z w) :
    Calls Tryz.prog 199 #[.pointer (some ⟨b,0,none⟩),.pointer (some ⟨g,0,none⟩),.int .i64 n] w (fun e w' => e=.returned (.tuple #[])∧Ik B W b en m0 m1 m2 g (iArgs en n p) Z w'):=by
  rw [← opIter_args]
  have KK:=Lib.hid (And.intro K hL)
  have H0:=Lib.hid h
  clear K hL h
  go_enter Tryz.func199,Tryz.ntmps199
  go_wp2_with fail
  go_loopw [6,8] (fun t6 t8 wr=>∃ i:Nat,i≤n∧t8=.int .i64 i∧Ik B W b en m0 m1 m2 g (opIter en i p) Z wr) (fun _ t8 _=>n - (intOf t8).toNat)
  case atStart=>exact ⟨0,Nat.zero_le _,rfl,H0.out⟩
  case round =>
    obtain ⟨i,hi,rfl,hI⟩:=hrel
    clear H0
    have HL:=Lib.hid (lim_iter KK.out.1.2.2.2 KK.out.2 i)
    by_cases hlt:i<n
    · have hd:decide ((i:Int)<(n:Int))=true:=by simp;omega
      by_cases h0:i=0
      · subst h0
        have e:opIter en 1 p=iArg en (opIter en 0 p):=rfl
        have C:=hI.operand KK.out.1 (HL.out.mono (by omega))
        clear hI
        go_wp2_with ((with_reducible refine C.mono ?_);rintro e w1 ⟨rfl,h1⟩)
        exact ⟨⟨1,by omega,by go_num,h1⟩,by simp [intOf];omega⟩
      · have hd0:decide ((0:Int)<(i:Int))=true:=by simp;omega
        have e:opIter en (i+1) p=iArg en (iMark en 44 (opIter en i p)):=by
          show opStep en i (opIter en i p)=_
          unfold opStep
          rw [if_neg h0]
        have C:=hI.mark 44 ⟨#[44]⟩ rfl
        clear hI
        go_wp2_with (first | ((with_reducible refine C.mono ?_);rintro e w1 ⟨rfl,h1⟩) | ((with_reducible refine (h1.operand KK.out.1 (lim_mark (HL.out.mono (by omega)))).mono ?_);rintro e w2 ⟨rfl,h2⟩))
        exact ⟨⟨i+1,by omega,by go_num,by rw [e];exact h2⟩,by simp [intOf];omega⟩
    · obtain rfl:i=n:=by omega
      have HI:=Lib.hid hI
      clear hI
      go_wp2_with fail
      go_end0
      exact ⟨rfl,HI.out⟩
set_option maxRecDepth 100000 in
set_option maxHeartbeats 4000000 in
theorem typed_any (K:Kn B W en) (n:Nat) (hn:n≤3) (hL:Lim 900000 p) (h:Ik B W b en m0 m1 m2 g p Z w) :
    Calls Tryz.prog 197 #[.pointer (some ⟨b,0,none⟩),.pointer (some ⟨g,0,none⟩),.int .i64 n] w (fun e w' => e=.returned (.tuple #[])∧Ik B W b en m0 m1 m2 g (iTyped en n p) Z w'):=by
  have C:=h.wantType K
  have HK:=Lib.hid (And.intro K hL)
  have C2:=fun w1 (h1:Ik B W b en m0 m1 m2 g ({ p.1 with ty:=vType en p.2 },sType en p.2) Z w1)=>operands_any K n hn (Lim.same (q:=({ p.1 with ty:=vType en p.2 },sType en p.2)) hL rfl rfl (sz_type en p.2)) h1
  unfold iTyped
  clear h K hL
  go_enter Tryz.func197,Tryz.ntmps197
  go_wp2_with (first | ((with_reducible refine C.mono ?_);rintro e w1 ⟨rfl,h1⟩;have z2:=h1.cells.2.2.1;have zf:=h1.frozen 2) | ((with_reducible refine (C2 _ (h1.ty _)).mono ?_);rintro e w2 ⟨rfl,h2⟩))
  go_end0
  exact ⟨rfl,h2⟩
end
end Go.Proofs.YtmmlfmplggbmiaaGreatDoor
