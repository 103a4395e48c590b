/- Several texts in one: PgY4, PgY5, PgY6, PgY7, PgY8, PgZ1, PsRef, PsRefB, PsRefC, PsRefD. -/
import Derived.Test.YtmmlfmplggbmiaaGreatDoorMg7
namespace Go.Proofs.YtmmlfmplggbmiaaGreatDoor
open Go.RowKit Go.Maps
set_option linter.unusedVariables false
set_option linter.unusedSimpArgs false
section
variable {B b:Nat} {W w w':World} {en:Tok} {mm:PMod} {s:RS} {Z Z':As}
set_option maxRecDepth 100000 in
set_option maxHeartbeats 2000000 in
theorem findCallee_any (x:Tx) (h:Mk B W b en mm s Z w) :
    Calls Tryz.prog 119 #[.pointer (some ⟨b,0,none⟩),.string (str x)] w (fun e w' => e=.returned (.tuple #[.int .i64 ((findCalP mm x).getD (-1)),.bool (findCalP mm x).isSome])∧Below w.heap.size w w'):=by
  obtain ⟨m,e,hP⟩:=h
  obtain ⟨c8,c9,c10,cf⟩:=hP.cells
  have bl:=hP.lt
  have hmf:∀ (fn:Fn) (first cap:Array Value) (w:World),(Instr.makeFunc fn first cap).run Tryz.prog w=.ok (.func fn first cap) w:=fun _ _ _ _=>rfl
  have hb1:=(Below.refl w.heap.size w).alloc (Nat.le_refl _) (.cells #[.string (str x)] 9)
  have hP1:=hP.alloc (.cells #[.string (str x)] 9)
  have C:=IndexFunc_X m.xs B m.xp m.xn m.xc _ hP1.satZ.1.2.1.1 146 #[.pointer (some ⟨w.heap.size,0,none⟩)] (fun v=>byt v.nm==x) enters_fX (fun y hy w2 hb=>by
    have hc:w2.cell? ⟨w.heap.size,0,none⟩=some (.string (str x)):=(hb.cell (p:=⟨w.heap.size,0,none⟩) (by simp)).trans (by rw [World.cell?_alloc_at _ _ _ _ rfl];rfl)
    exact find1_X y.nm y.pp y.pn y.pc y.rt x w.heap.size w2 hc (by have:=hb.size;simp at this;omega))
  have ex:findCalP mm x=match m.xs.findIdx? (fun v=>byt v.nm==x) with | some k=>some (-1 - (k:Int)) | none=>(m.fs.findIdx? fun v=>byt v.nm==x).map fun k:Nat=>(k:Int):=by
    rw [← e]
    unfold findCalP modD
    simp only [List.findIdx?_map]
    rfl
  have HB:=Lib.hid hb1
  have HP:=Lib.hid hP1
  cases hx:m.xs.findIdx? (fun v=>byt v.nm==x) with
  | some k =>
    rw [hx] at C ex
    have e2:idxV (some k)=(k:Int):=rfl
    have d0:(0:Int)≤(k:Int):=by omega
    have hk:k<m.xs.length:=by
      rw [List.findIdx?_eq_some_iff_getElem] at hx
      exact hx.1
    have hk2:k≤9223372036854775807:=by
      have hr:=hP1.satZ.1.2.1.1
      obtain ⟨_,h2,h3,_⟩:=row_in (m:=3) (by decide) (fun _=>rfl) hr
      have h1:=hr.1
      unfold maxLen at h3
      omega
    rw [ex]
    rw [e2] at C
    clear hP hb1 hP1 ex cf c8 c10 e hx hk e2
    go_enter Tryz.func119,Tryz.ntmps119
    go_wp2_with ((with_reducible refine C.mono ?_);rintro e w2 ⟨rfl,h2⟩)
    go_ret2
    exact ⟨by simp,HB.out.trans (h2.mono HB.out.size)⟩
  | none =>
    rw [hx] at C ex
    have e2:idxV none=-1:=rfl
    rw [e2] at C
    rw [ex,idxV_getD,← idxV_some]
    have CF:∀ w1,Below (w.alloc (.cells #[.string (str x)] 9)).heap.size (w.alloc (.cells #[.string (str x)] 9)) w1→_:=fun w1 hb0=>IndexFunc_F m.fs B m.fp m.fn m.fc w1 (hP1.later hb0).satZ.1.2.2.1 147 #[.pointer (some ⟨w.heap.size,0,none⟩)] (fun v=>byt v.nm==x) enters_fF (fun y hy w2 hb=>by
      have hc1:w1.cell? ⟨w.heap.size,0,none⟩=some (.string (str x)):=(hb0.cell (p:=⟨w.heap.size,0,none⟩) (by simp)).trans (by rw [World.cell?_alloc_at _ _ _ _ rfl];rfl)
      have hl1:w.heap.size<w1.heap.size:=by have:=hb0.size;simp at this;omega
      have hc:w2.cell? ⟨w.heap.size,0,none⟩=some (.string (str x)):=(hb.cell (p:=⟨w.heap.size,0,none⟩) hl1).trans hc1
      exact find1_F y.nm y.pp y.pn y.pc y.rt y.bp y.bn y.bc x w.heap.size w2 hc (Nat.lt_of_lt_of_le hl1 hb.size))
    obtain ⟨v,ev⟩:∃ v,idxV (m.fs.findIdx? fun v=>byt v.nm==x)=v:=⟨_,rfl⟩
    simp only [ev] at CF ⊢
    have HK:=Lib.hid cf
    clear hb1 ex ev cf e hx e2 hP1
    have HC:Hid (∀ w1,Below (w.alloc (.cells #[.string (str x)] 9)).heap.size (w.alloc (.cells #[.string (str x)] 9)) w1→w1.cell? ⟨b,10,none⟩=some (.slice m.fp m.fn m.fc)∧b<w1.heap.size):=fun w1 hb0=>⟨(HP.out.later hb0).cells.2.2.1,(HP.out.later hb0).lt⟩
    clear hP
    by_cases h0:0≤v
    all_goals
      go_enter Tryz.func119,Tryz.ntmps119
      go_wp2_with (first | ((with_reducible refine C.mono ?_);rintro e w2 ⟨rfl,h2⟩;obtain ⟨d10,bl2⟩:=HC.out _ h2) | ((with_reducible refine (CF _ h2).mono ?_);rintro e w3 ⟨rfl,h3⟩))
      go_ret2
      exact ⟨by simp [h0],HB.out.trans ((h2.trans (h3.mono h2.size)).mono HB.out.size)⟩
theorem Mk.of {g:Nat} {cs:List Value} {m:LMod} (e:modD m=mm) (h:Pk B W b en (.slice m.vp m.vn m.vc) (.slice m.xp m.xn m.xc) (.slice m.fp m.fn m.fc) s ((As.and (bxs [(g,cs)]) ((As.and (modAs B m) Z)))) w):Mk B W b en mm s ((As.and (bxs [(g,cs)]) Z)) w :=
  ⟨m,e,h.imp ⟨fun w x=>⟨x.2.1,x.1,x.2.2⟩,fun k=>by simp only [As.and_c];omega⟩⟩
set_option maxRecDepth 100000 in
set_option maxHeartbeats 4000000 in
theorem newName_ff (K:Kn B W en) (full:Bool) (ff:FuncId) (vv:Tx→Int) (told:Tx→Bool) (hen:∀ (args:Array Value) (w:World),(callFunc ff args).run Tryz.prog w=.ok (.enter ff args) w)
    (hf:∀ (x:Tx) (s1:RS) (Z1:As) (w1:World),Mk B W b en mm s1 Z1 w1→Calls Tryz.prog ff #[.pointer (some ⟨b,0,none⟩),.string (str x)] w1 (fun e w' => e=.returned (.tuple #[.int .i64 (vv x),.bool (told x)])∧Below w1.heap.size w1 w'))
    (hfull:full=false) (htold:told (nx en s).body=false) (h:Mk B W b en mm s Z w) :
    Calls Tryz.prog 115 #[.pointer (some ⟨b,0,none⟩),.bool full,.func (.func ff) #[.pointer (some ⟨b,0,none⟩)] #[]] w (fun e w' => e=.returned (.string (vName en s))∧Mk B W b en mm (sName en full told s) Z w'):=by
  obtain ⟨m,em,hP⟩:=h
  have C1:=hP.b0.want 1 1 rfl
  unfold sName
  dsimp only
  rw [htold,hfull]
  have ev:vName en s=str (nx en s).body:=rfl
  rw [ev]
  simp only [Bool.false_eq_true,if_false,if_true]
  obtain ⟨t,et⟩:∃ t,nx en s=t:=⟨_,rfl⟩
  simp only [et] at C1 htold ⊢
  have CF:∀ s1 Z1 w1,Mk B W b en mm s1 Z1 w1→Calls Tryz.prog ff #[.pointer (some ⟨b,0,none⟩),.string (str t.body)] w1 (fun e w' => e=.returned (.tuple #[.int .i64 (vv t.body),.bool false])∧Below w1.heap.size w1 w'):=fun s1 Z1 w1 h1=>by
    have:=hf t.body s1 Z1 w1 h1
    rw [htold] at this
    exact this
  have HE:=Lib.hid em
  clear hP et em hf ev htold
  subst hfull
  go_enter Tryz.func115,Tryz.ntmps115
  go_wp2_with (first | ((with_reducible refine (C1).mono ?_);rintro e w1 ⟨rfl,h1⟩;have h2:=h1.bpush rfl (tkC t) 81;obtain ⟨v0,v1,v2,v3⟩:=h2.tk4;have gl:=(h2.bget 0 rfl).1) | ((with_reducible refine (CF _ _ _ (Mk.of HE.out h2)).mono ?_);rintro e w5 ⟨rfl,hb5⟩;have h5:=Pk.later h2 hb5;obtain ⟨y0,y1,y2,y3⟩:=h5.tk4;have gl5:=(h5.bget 0 rfl).1))
  go_ret
  exact ⟨rfl,_,HE.out,h5.nobx⟩
set_option maxRecDepth 100000 in
set_option maxHeartbeats 4000000 in
theorem newName_tf (K:Kn B W en) (full:Bool) (ff:FuncId) (vv:Tx→Int) (told:Tx→Bool) (hen:∀ (args:Array Value) (w:World),(callFunc ff args).run Tryz.prog w=.ok (.enter ff args) w)
    (hf:∀ (x:Tx) (s1:RS) (Z1:As) (w1:World),Mk B W b en mm s1 Z1 w1→Calls Tryz.prog ff #[.pointer (some ⟨b,0,none⟩),.string (str x)] w1 (fun e w' => e=.returned (.tuple #[.int .i64 (vv x),.bool (told x)])∧Below w1.heap.size w1 w'))
    (hfull:full=true) (htold:told (nx en s).body=false) (h:Mk B W b en mm s Z w) :
    Calls Tryz.prog 115 #[.pointer (some ⟨b,0,none⟩),.bool full,.func (.func ff) #[.pointer (some ⟨b,0,none⟩)] #[]] w (fun e w' => e=.returned (.string (vName en s))∧Mk B W b en mm (sName en full told s) Z w'):=by
  obtain ⟨m,em,hP⟩:=h
  have C1:=hP.b0.want 1 1 rfl
  unfold sName
  dsimp only
  rw [htold,hfull]
  have ev:vName en s=str (nx en s).body:=rfl
  rw [ev]
  simp only [Bool.false_eq_true,if_false,if_true]
  obtain ⟨t,et⟩:∃ t,nx en s=t:=⟨_,rfl⟩
  simp only [et] at C1 htold ⊢
  have CF:∀ s1 Z1 w1,Mk B W b en mm s1 Z1 w1→Calls Tryz.prog ff #[.pointer (some ⟨b,0,none⟩),.string (str t.body)] w1 (fun e w' => e=.returned (.tuple #[.int .i64 (vv t.body),.bool false])∧Below w1.heap.size w1 w'):=fun s1 Z1 w1 h1=>by
    have:=hf t.body s1 Z1 w1 h1
    rw [htold] at this
    exact this
  have HE:=Lib.hid em
  clear hP et em hf ev htold
  subst hfull
  go_enter Tryz.func115,Tryz.ntmps115
  go_wp2_with ((with_reducible refine (C1).mono ?_);rintro e w1 ⟨rfl,h1⟩;have h2:=h1.bpush rfl (tkC t) 81;obtain ⟨v0,v1,v2,v3⟩:=h2.tk4;have gl:=(h2.bget 0 rfl).1)
  go_region_law (first | (go_simp;(with_reducible refine (h2.drew.refuse6 t).mono ?_);rintro e w3 ⟨rfl,h3⟩;obtain ⟨u0,u1,u2,u3⟩:=h3.tk4;have gl3:=(h3.bget 0 rfl).1))
  all_goals
    go_wp2_with ((with_reducible refine (CF _ _ _ (Mk.of HE.out h3)).mono ?_);rintro e w5 ⟨rfl,hb5⟩;have h5:=Pk.later h3 hb5;obtain ⟨y0,y1,y2,y3⟩:=h5.tk4;have gl5:=(h5.bget 0 rfl).1)
    go_ret
    exact ⟨rfl,_,HE.out,h5.nobx⟩
set_option maxRecDepth 100000 in
set_option maxHeartbeats 4000000 in
theorem newName_ft (K:Kn B W en) (full:Bool) (ff:FuncId) (vv:Tx→Int) (told:Tx→Bool) (hen:∀ (args:Array Value) (w:World),(callFunc ff args).run Tryz.prog w=.ok (.enter ff args) w)
    (hf:∀ (x:Tx) (s1:RS) (Z1:As) (w1:World),Mk B W b en mm s1 Z1 w1→Calls Tryz.prog ff #[.pointer (some ⟨b,0,none⟩),.string (str x)] w1 (fun e w' => e=.returned (.tuple #[.int .i64 (vv x),.bool (told x)])∧Below w1.heap.size w1 w'))
    (hfull:full=false) (htold:told (nx en s).body=true) (h:Mk B W b en mm s Z w) :
    Calls Tryz.prog 115 #[.pointer (some ⟨b,0,none⟩),.bool full,.func (.func ff) #[.pointer (some ⟨b,0,none⟩)] #[]] w (fun e w' => e=.returned (.string (vName en s))∧Mk B W b en mm (sName en full told s) Z w'):=by
  obtain ⟨m,em,hP⟩:=h
  have C1:=hP.b0.want 1 1 rfl
  unfold sName
  dsimp only
  rw [htold,hfull]
  have ev:vName en s=str (nx en s).body:=rfl
  rw [ev]
  simp only [Bool.false_eq_true,if_false,if_true]
  obtain ⟨t,et⟩:∃ t,nx en s=t:=⟨_,rfl⟩
  simp only [et] at C1 htold ⊢
  have CF:∀ s1 Z1 w1,Mk B W b en mm s1 Z1 w1→Calls Tryz.prog ff #[.pointer (some ⟨b,0,none⟩),.string (str t.body)] w1 (fun e w' => e=.returned (.tuple #[.int .i64 (vv t.body),.bool true])∧Below w1.heap.size w1 w'):=fun s1 Z1 w1 h1=>by
    have:=hf t.body s1 Z1 w1 h1
    rw [htold] at this
    exact this
  have HE:=Lib.hid em
  clear hP et em hf ev htold
  subst hfull
  go_enter Tryz.func115,Tryz.ntmps115
  go_wp2_with (first | ((with_reducible refine (C1).mono ?_);rintro e w1 ⟨rfl,h1⟩;have h2:=h1.bpush rfl (tkC t) 81;obtain ⟨v0,v1,v2,v3⟩:=h2.tk4;have gl:=(h2.bget 0 rfl).1) | ((with_reducible refine (CF _ _ _ (Mk.of HE.out h2)).mono ?_);rintro e w5 ⟨rfl,hb5⟩;have h5:=Pk.later h2 hb5;obtain ⟨y0,y1,y2,y3⟩:=h5.tk4;have gl5:=(h5.bget 0 rfl).1))
  go_region_law (first | (go_simp;(with_reducible refine (h5.drew.refuse5 t).mono ?_);rintro e w6 ⟨rfl,h6⟩;obtain ⟨z0,z1,z2,z3⟩:=h6.tk4;have gl6:=(h6.bget 0 rfl).1))
  all_goals
    go_wp2_with fail
    go_ret
    exact ⟨rfl,_,HE.out,h6.nobx⟩
set_option maxRecDepth 100000 in
set_option maxHeartbeats 4000000 in
theorem newName_tt (K:Kn B W en) (full:Bool) (ff:FuncId) (vv:Tx→Int) (told:Tx→Bool) (hen:∀ (args:Array Value) (w:World),(callFunc ff args).run Tryz.prog w=.ok (.enter ff args) w)
    (hf:∀ (x:Tx) (s1:RS) (Z1:As) (w1:World),Mk B W b en mm s1 Z1 w1→Calls Tryz.prog ff #[.pointer (some ⟨b,0,none⟩),.string (str x)] w1 (fun e w' => e=.returned (.tuple #[.int .i64 (vv x),.bool (told x)])∧Below w1.heap.size w1 w'))
    (hfull:full=true) (htold:told (nx en s).body=true) (h:Mk B W b en mm s Z w) :
    Calls Tryz.prog 115 #[.pointer (some ⟨b,0,none⟩),.bool full,.func (.func ff) #[.pointer (some ⟨b,0,none⟩)] #[]] w (fun e w' => e=.returned (.string (vName en s))∧Mk B W b en mm (sName en full told s) Z w'):=by
  obtain ⟨m,em,hP⟩:=h
  have C1:=hP.b0.want 1 1 rfl
  unfold sName
  dsimp only
  rw [htold,hfull]
  have ev:vName en s=str (nx en s).body:=rfl
  rw [ev]
  simp only [Bool.false_eq_true,if_false,if_true]
  obtain ⟨t,et⟩:∃ t,nx en s=t:=⟨_,rfl⟩
  simp only [et] at C1 htold ⊢
  have CF:∀ s1 Z1 w1,Mk B W b en mm s1 Z1 w1→Calls Tryz.prog ff #[.pointer (some ⟨b,0,none⟩),.string (str t.body)] w1 (fun e w' => e=.returned (.tuple #[.int .i64 (vv t.body),.bool true])∧Below w1.heap.size w1 w'):=fun s1 Z1 w1 h1=>by
    have:=hf t.body s1 Z1 w1 h1
    rw [htold] at this
    exact this
  have HE:=Lib.hid em
  clear hP et em hf ev htold
  subst hfull
  go_enter Tryz.func115,Tryz.ntmps115
  go_wp2_with ((with_reducible refine (C1).mono ?_);rintro e w1 ⟨rfl,h1⟩;have h2:=h1.bpush rfl (tkC t) 81;obtain ⟨v0,v1,v2,v3⟩:=h2.tk4;have gl:=(h2.bget 0 rfl).1)
  go_region_law (first | (go_simp;(with_reducible refine (h2.drew.refuse6 t).mono ?_);rintro e w3 ⟨rfl,h3⟩;obtain ⟨u0,u1,u2,u3⟩:=h3.tk4;have gl3:=(h3.bget 0 rfl).1))
  all_goals
    go_wp2_with ((with_reducible refine (CF _ _ _ (Mk.of HE.out h3)).mono ?_);rintro e w5 ⟨rfl,hb5⟩;have h5:=Pk.later h3 hb5;obtain ⟨y0,y1,y2,y3⟩:=h5.tk4;have gl5:=(h5.bget 0 rfl).1)
    go_region_law (first | (go_simp;(with_reducible refine (h5.drew.refuse5 t).mono ?_);rintro e w6 ⟨rfl,h6⟩;obtain ⟨z0,z1,z2,z3⟩:=h6.tk4;have gl6:=(h6.bget 0 rfl).1))
    all_goals
      go_wp2_with fail
      go_ret
      exact ⟨rfl,_,HE.out,h6.nobx⟩
theorem newName_any (K:Kn B W en) (full:Bool) (ff:FuncId) (vv:Tx→Int) (told:Tx→Bool) (hen:∀ (args:Array Value) (w:World),(callFunc ff args).run Tryz.prog w=.ok (.enter ff args) w)
    (hf:∀ (x:Tx) (s1:RS) (Z1:As) (w1:World),Mk B W b en mm s1 Z1 w1→Calls Tryz.prog ff #[.pointer (some ⟨b,0,none⟩),.string (str x)] w1 (fun e w' => e=.returned (.tuple #[.int .i64 (vv x),.bool (told x)])∧Below w1.heap.size w1 w')) (h:Mk B W b en mm s Z w) :
    Calls Tryz.prog 115 #[.pointer (some ⟨b,0,none⟩),.bool full,.func (.func ff) #[.pointer (some ⟨b,0,none⟩)] #[]] w (fun e w' => e=.returned (.string (vName en s))∧Mk B W b en mm (sName en full told s) Z w'):=by
  cases hF:full <;> cases hT:told (nx en s).body
  · exact newName_ff K false ff vv told hen hf rfl hT h
  · exact newName_ft K false ff vv told hen hf rfl hT h
  · exact newName_tf K true ff vv told hen hf rfl hT h
  · exact newName_tt K true ff vv told hen hf rfl hT h
end
section
variable {B b:Nat} {W w w':World} {en:Tok} {mm:PMod} {s:RS} {Z Z':As}
theorem Mk.below (h:Mk B W b en mm s Z w):Below B W w:=by obtain ⟨m,e,h⟩:=h;exact h.below
theorem Mk.drew (h:Mk B W b en mm s Z w):Mk B W b en mm s Z w.drew:=h.later (below_drew (Below.refl _ _))
theorem Mk.st (h:Mk B W b en mm s Z w):∃ Y,St B W ((As.and Z Y)) w∧∀ Z' w',St B W ((As.and Z' Y)) w'→Mk B W b en mm s Z' w':=by
  obtain ⟨m,e,h⟩:=h
  obtain ⟨Y,hs,back⟩:=h.st
  exact ⟨(As.and (modAs B m) Y),hs.imp ⟨fun w x=>⟨x.1.2,x.1.1,x.2⟩,fun k=>by simp only [As.and_c];omega⟩,fun Z' w' h' => ⟨m,e,back _ _ (h'.imp ⟨fun w x=>⟨⟨x.2.1,x.1⟩,x.2.2⟩,fun k=>by simp only [As.and_c];omega⟩)⟩⟩
theorem Mk.rd (h:Mk B W b en mm s Z w):∃ m0 m1 m2 r Z',Rd B W b en m0 m1 m2 r s Z' w∧∀ s' w',s'.asked=s.asked→Rd B W b en m0 m1 m2 r s' Z' w'→Mk B W b en mm s' Z w':=by
  obtain ⟨m,e,h⟩:=h
  obtain ⟨r,Z2,h2,k2⟩:=h.rd
  exact ⟨_,_,_,r,Z2,h2,fun s' w' e2 h' => ⟨m,e,k2 _ _ e2 h'⟩⟩
end
section
variable {B b:Nat} {W w:World} {en:Tok} {mm:PMod} {s:RS} {Z:As} {bs:List (Nat×List Value)}
theorem Mk.b0 (h:Mk B W b en mm s Z w):Mk B W b en mm s ((As.and (bxs []) Z)) w:=h.imp (As.nob _)
theorem Mk.nobx (h:Mk B W b en mm s ((As.and (bxs bs) Z)) w):Mk B W b en mm s Z w:=h.imp (As.drop _ _)
theorem Mk.bpush (h:Mk B W b en mm s ((As.and (bxs bs) Z)) w) {g:Nat} (hg:g=w.heap.size) (cs:List Value) (t:TypeId):Mk B W b en mm s ((As.and (bxs ((g,cs)::bs)) Z)) (w.alloc (.cells cs.toArray t)):=by
  obtain ⟨Y,hs,back⟩:=h.st
  exact back _ _ (((hs.imp (As.asl _ _ _)).bpush hg cs t).imp (As.asr _ _ _))
theorem Mk.bget (h:Mk B W b en mm s ((As.and (bxs bs) Z)) w) (i:Nat) {g:Nat} {cs:List Value} (e:bs[i]? = some (g,cs)):Box g cs w:=by
  obtain ⟨Y,hs,back⟩:=h.st
  exact (hs.imp (As.asl _ _ _)).bget i e
theorem Mk.bput (h:Mk B W b en mm s ((As.and (bxs bs) Z)) w) (i:Nat) {g:Nat} {cs:List Value} (e:bs[i]? = some (g,cs)) (j:Nat) (v:Value):Mk B W b en mm s ((As.and (bxs (bs.set i (g,cs.set j v))) Z)) (w.setCell ⟨g,j,none⟩ v):=by
  obtain ⟨Y,hs,back⟩:=h.st
  exact back _ _ (((hs.imp (As.asl _ _ _)).bput i e j v).imp (As.asr _ _ _))
end
section
variable {B b:Nat} {W w:World} {en:Tok} {mm:PMod} {s:RS} {Z:As}
theorem Mk.tk4 {g':Nat} {t:Tok} {bs:List (Nat×List Value)} (h:Mk B W b en mm s ((As.and (bxs ((g',tkC t)::bs)) Z)) w) :
    w.cell? ⟨g',0,none⟩=some (.int .i64 t.kind)∧w.cell? ⟨g',1,none⟩=some (.string (str t.body))∧w.cell? ⟨g',2,none⟩=some (.int .i64 t.line)∧w.cell? ⟨g',3,none⟩=some (.int .i64 t.col):=by
  have b0:=h.bget 0 rfl
  exact ⟨b0.get 0 _ rfl,b0.get 1 _ rfl,b0.get 2 _ rfl,b0.get 3 _ rfl⟩
theorem Mk.next (h:Mk B W b en mm s Z w):Calls Tryz.prog 78 #[.pointer (some ⟨b,0,none⟩)] w (fun e w' => e=.returned (tkV (nx en s))∧Mk B W b en mm s Z w'):=by
  obtain ⟨m0,m1,m2,r,Z',hr,back⟩:=h.rd
  exact (next_any hr).mono fun e w' ⟨h1,h2⟩=>⟨h1,h.later h2⟩
theorem Mk.refuse3 (h:Mk B W b en mm s Z w) (t:Tok):Calls Tryz.prog 77 #[.pointer (some ⟨b,0,none⟩),.int .i64 3,tkV t] w (fun e w' => e=.returned (.tuple #[])∧Mk B W b en mm (bd 3 t s) Z w'):=by
  obtain ⟨m0,m1,m2,r,Z',hr,back⟩:=h.rd
  have C:Calls Tryz.prog 77 #[.pointer (some ⟨b,0,none⟩),.int .i64 3,tkV t] w (fun e w' => e=.returned (.tuple #[])∧Rd B W b en m0 m1 m2 r (bd 3 t s) Z' w'):=Go.Proofs.YtmmlfmplggbmiaaGreatDoor.refuse3 hr t
  exact C.mono fun e w' ⟨h1,h2⟩=>⟨h1,back _ _ (as_bd _ _ _) h2⟩
theorem Mk.passed (h:Mk B W b en mm s Z w) (k:Nat) (x:Tx) (ki:Int) (xi:ByteArray) (ek:ki=(k:Int)) (ex:xi=str x):Calls Tryz.prog 73 #[.pointer (some ⟨b,0,none⟩),.int .i64 ki,.string xi] w (fun e w' => e=.returned (.bool (isTk k x (nx en s)))∧Mk B W b en mm (sPassed en k x s) Z w'):=by
  obtain ⟨m0,m1,m2,r,Z',hr,back⟩:=h.rd
  have C:Calls Tryz.prog 73 #[.pointer (some ⟨b,0,none⟩),.int .i64 ki,.string xi] w (fun e w' => e=.returned (.bool (isTk k x (nx en s)))∧Rd B W b en m0 m1 m2 r (sPassed en k x s) Z' w'):=(by rw [ek,ex];exact passed_any hr k x)
  exact C.mono fun e w' ⟨h1,h2⟩=>⟨h1,back _ _ (as_passed _ _ _ _) h2⟩
theorem Mk.wantLineEnd (h:Mk B W b en mm s Z w) :Calls Tryz.prog 118 #[.pointer (some ⟨b,0,none⟩)] w (fun e w' => e=.returned (.tuple #[])∧Mk B W b en mm (sWant en 6 s) Z w'):=by
  obtain ⟨m0,m1,m2,r,Z',hr,back⟩:=h.rd
  have C:Calls Tryz.prog 118 #[.pointer (some ⟨b,0,none⟩)] w (fun e w' => e=.returned (.tuple #[])∧Rd B W b en m0 m1 m2 r (sWant en 6 s) Z' w'):=wantLineEnd_any hr
  exact C.mono fun e w' ⟨h1,h2⟩=>⟨h1,back _ _ (as_want _ _ _) h2⟩
theorem Mk.wantSize (h:Mk B W b en mm s Z w) (Kk:Kn B W en):Calls Tryz.prog 117 #[.pointer (some ⟨b,0,none⟩)] w (fun e w' => e=.returned (.int .i64 (vSize en s))∧Mk B W b en mm (sSize en s) Z w'):=by
  obtain ⟨m0,m1,m2,r,Z',hr,back⟩:=h.rd
  have C:Calls Tryz.prog 117 #[.pointer (some ⟨b,0,none⟩)] w (fun e w' => e=.returned (.int .i64 (vSize en s))∧Rd B W b en m0 m1 m2 r (sSize en s) Z' w'):=wantSize_any Kk hr
  exact C.mono fun e w' ⟨h1,h2⟩=>⟨h1,back _ _ (as_size _ _) h2⟩
end
theorem Mk.vars {B b:Nat} {W w:World} {en:Tok} {mm:PMod} {s:RS} {Z:As} {x:PVar} (h:Mk B W b en mm s (Z) w):∃ (m:LMod) (Y:As),modD m=mm∧m.vn=m.vs.length∧St B W ((As.and (rw' B 39 2 varC m.vp m.vn m.vc m.vs) Y)) w ∧
    (∀ X w',St B W ((As.and X Y)) w'→w'.cell? ⟨b,8,none⟩=some (.slice m.vp m.vn m.vc)∧w'.frozen? ⟨b,8,none⟩=false∧b<w'.heap.size) ∧
    ∀ p' n' c' w',St B W ((As.and (rw' B 39 2 varC p' n' c' (m.vs++[x])) Y)) w'→Mk B W b en { mm with vs:=mm.vs++[x] } s Z (w'.setCell ⟨b,8,none⟩ (.slice p' n' c')):=by
  obtain ⟨m,e,h1,ap,ac,h2,h3,tp,tn,tc,hS⟩:=h
  refine ⟨m,(As.and (bx b (rdC tp tn tc en s.flt (.slice m.vp m.vn m.vc) (.slice m.xp m.xn m.xc) (.slice m.fp m.fn m.fc) (.slice ap s.asked.length ac))) (As.and (tk tp tn tc s.ts) (As.and (askRow B ap ac s.asked) (As.and As.emp (As.and ((As.and (extsAs B m) (fnsAs B m))) Z))))),e,?_,?_,fun X w' h' => ?_,fun p' n' c' w' h' => ⟨{ m with vp:=p',vn:=n',vc:=c',vs:=m.vs++[x] },?_,h1,ap,ac,h2,h3,tp,tn,tc,?_⟩⟩
  · exact hS.sat.2.2.2.1.1.1
  · exact hS.imp ⟨fun w x=>⟨x.2.2.2.1.1,x.1,x.2.1,x.2.2.1,trivial,⟨x.2.2.2.1.2.1,x.2.2.2.1.2.2⟩,x.2.2.2.2⟩,fun k=>by simp only [modAs,varsAs,extsAs,fnsAs,As.and_c,As.emp_c];omega⟩
  · have hb:Box b _ w':=h'.sat.2.1
    exact ⟨hb.get 8 _ rfl,hb.2.1 8,hb.1⟩
  · rw [← e]
    unfold modD
    simp
  · have h4:St B W ((As.and (bx b (rdC tp tn tc en s.flt (.slice m.vp m.vn m.vc) (.slice m.xp m.xn m.xc) (.slice m.fp m.fn m.fc) (.slice ap s.asked.length ac))) (As.and (rw' B 39 2 varC p' n' c' (m.vs++[x])) (As.and (tk tp tn tc s.ts) (As.and (askRow B ap ac s.asked) (As.and As.emp (As.and ((As.and (extsAs B m) (fnsAs B m))) Z))))))) w':=h'.imp ⟨fun w x=>⟨x.2.1,x.1,x.2.2⟩,fun k=>by simp only [As.and_c];omega⟩
    refine (h4.set 8 (.slice p' n' c')).imp ⟨fun w y=>⟨y.1,y.2.2.1,y.2.2.2.1,⟨y.2.1,y.2.2.2.2.2.1.1,y.2.2.2.2.2.1.2⟩,y.2.2.2.2.2.2⟩,fun k=>?_⟩
    simp only [modAs,varsAs,extsAs,fnsAs,As.and_c,As.emp_c,bx_c]
    omega
theorem Mk.exts {B b:Nat} {W w:World} {en:Tok} {mm:PMod} {s:RS} {Z:As} {x:LExt} (h:Mk B W b en mm s ((As.and (extAs B x) Z)) w):∃ (m:LMod) (Y:As),modD m=mm∧m.xn=m.xs.length∧St B W ((As.and (rw' B 52 3 extC m.xp m.xn m.xc m.xs) Y)) w ∧
    (∀ X w',St B W ((As.and X Y)) w'→w'.cell? ⟨b,9,none⟩=some (.slice m.xp m.xn m.xc)∧w'.frozen? ⟨b,9,none⟩=false∧b<w'.heap.size) ∧
    ∀ p' n' c' w',St B W ((As.and (rw' B 52 3 extC p' n' c' (m.xs++[x])) Y)) w'→Mk B W b en { mm with xs:=mm.xs++[extD x] } s Z (w'.setCell ⟨b,9,none⟩ (.slice p' n' c')):=by
  obtain ⟨m,e,h1,ap,ac,h2,h3,tp,tn,tc,hS⟩:=h
  refine ⟨m,(As.and (bx b (rdC tp tn tc en s.flt (.slice m.vp m.vn m.vc) (.slice m.xp m.xn m.xc) (.slice m.fp m.fn m.fc) (.slice ap s.asked.length ac))) (As.and (tk tp tn tc s.ts) (As.and (askRow B ap ac s.asked) (As.and (As.all (extAs B) m.xs) (As.and ((As.and (varsAs B m) (fnsAs B m))) (As.and (extAs B x) Z)))))),e,?_,?_,fun X w' h' => ?_,fun p' n' c' w' h' => ⟨{ m with xp:=p',xn:=n',xc:=c',xs:=m.xs++[x] },?_,h1,ap,ac,h2,h3,tp,tn,tc,?_⟩⟩
  · exact hS.sat.2.2.2.1.2.1.1.1
  · exact hS.imp ⟨fun w x=>⟨x.2.2.2.1.2.1.1,x.1,x.2.1,x.2.2.1,x.2.2.2.1.2.1.2,⟨x.2.2.2.1.1,x.2.2.2.1.2.2⟩,x.2.2.2.2⟩,fun k=>by simp only [modAs,varsAs,extsAs,fnsAs,As.and_c,As.emp_c];omega⟩
  · have hb:Box b _ w':=h'.sat.2.1
    exact ⟨hb.get 9 _ rfl,hb.2.1 9,hb.1⟩
  · rw [← e]
    unfold modD
    simp
  · have h4:St B W ((As.and (bx b (rdC tp tn tc en s.flt (.slice m.vp m.vn m.vc) (.slice m.xp m.xn m.xc) (.slice m.fp m.fn m.fc) (.slice ap s.asked.length ac))) (As.and (rw' B 52 3 extC p' n' c' (m.xs++[x])) (As.and (tk tp tn tc s.ts) (As.and (askRow B ap ac s.asked) (As.and (As.all (extAs B) m.xs) (As.and ((As.and (varsAs B m) (fnsAs B m))) (As.and (extAs B x) Z)))))))) w':=h'.imp ⟨fun w x=>⟨x.2.1,x.1,x.2.2⟩,fun k=>by simp only [As.and_c];omega⟩
    refine (h4.set 9 (.slice p' n' c')).imp ⟨fun w y=>⟨y.1,y.2.2.1,y.2.2.2.1,⟨y.2.2.2.2.2.1.1,⟨y.2.1,(As.all_at_app _ w _ _).2 ⟨y.2.2.2.2.1,y.2.2.2.2.2.2.1,trivial⟩⟩,y.2.2.2.2.2.1.2⟩,y.2.2.2.2.2.2.2⟩,fun k=>?_⟩
    have e1:=As.all_c_app (extAs B) k m.xs [x]
    have e2:(As.all (extAs B) [x]).c k=(extAs B x).c k+0:=rfl
    simp only [modAs,varsAs,extsAs,fnsAs,As.and_c,bx_c,e1,e2]
    omega
theorem Mk.fns {B b:Nat} {W w:World} {en:Tok} {mm:PMod} {s:RS} {Z:As} {x:LFn} (h:Mk B W b en mm s ((As.and (fnAs B x) Z)) w):∃ (m:LMod) (Y:As),modD m=mm∧m.fn=m.fs.length∧St B W ((As.and (rw' B 49 4 fnC m.fp m.fn m.fc m.fs) Y)) w ∧
    (∀ X w',St B W ((As.and X Y)) w'→w'.cell? ⟨b,10,none⟩=some (.slice m.fp m.fn m.fc)∧w'.frozen? ⟨b,10,none⟩=false∧b<w'.heap.size) ∧
    ∀ p' n' c' w',St B W ((As.and (rw' B 49 4 fnC p' n' c' (m.fs++[x])) Y)) w'→Mk B W b en { mm with fs:=mm.fs++[fnD x] } s Z (w'.setCell ⟨b,10,none⟩ (.slice p' n' c')):=by
  obtain ⟨m,e,h1,ap,ac,h2,h3,tp,tn,tc,hS⟩:=h
  refine ⟨m,(As.and (bx b (rdC tp tn tc en s.flt (.slice m.vp m.vn m.vc) (.slice m.xp m.xn m.xc) (.slice m.fp m.fn m.fc) (.slice ap s.asked.length ac))) (As.and (tk tp tn tc s.ts) (As.and (askRow B ap ac s.asked) (As.and (As.all (fnAs B) m.fs) (As.and ((As.and (varsAs B m) (extsAs B m))) (As.and (fnAs B x) Z)))))),e,?_,?_,fun X w' h' => ?_,fun p' n' c' w' h' => ⟨{ m with fp:=p',fn:=n',fc:=c',fs:=m.fs++[x] },?_,h1,ap,ac,h2,h3,tp,tn,tc,?_⟩⟩
  · exact hS.sat.2.2.2.1.2.2.1.1
  · exact hS.imp ⟨fun w x=>⟨x.2.2.2.1.2.2.1,x.1,x.2.1,x.2.2.1,x.2.2.2.1.2.2.2,⟨x.2.2.2.1.1,x.2.2.2.1.2.1⟩,x.2.2.2.2⟩,fun k=>by simp only [modAs,varsAs,extsAs,fnsAs,As.and_c,As.emp_c];omega⟩
  · have hb:Box b _ w':=h'.sat.2.1
    exact ⟨hb.get 10 _ rfl,hb.2.1 10,hb.1⟩
  · rw [← e]
    unfold modD
    simp
  · have h4:St B W ((As.and (bx b (rdC tp tn tc en s.flt (.slice m.vp m.vn m.vc) (.slice m.xp m.xn m.xc) (.slice m.fp m.fn m.fc) (.slice ap s.asked.length ac))) (As.and (rw' B 49 4 fnC p' n' c' (m.fs++[x])) (As.and (tk tp tn tc s.ts) (As.and (askRow B ap ac s.asked) (As.and (As.all (fnAs B) m.fs) (As.and ((As.and (varsAs B m) (extsAs B m))) (As.and (fnAs B x) Z)))))))) w':=h'.imp ⟨fun w x=>⟨x.2.1,x.1,x.2.2⟩,fun k=>by simp only [As.and_c];omega⟩
    refine (h4.set 10 (.slice p' n' c')).imp ⟨fun w y=>⟨y.1,y.2.2.1,y.2.2.2.1,⟨y.2.2.2.2.2.1.1,y.2.2.2.2.2.1.2,⟨y.2.1,(As.all_at_app _ w _ _).2 ⟨y.2.2.2.2.1,y.2.2.2.2.2.2.1,trivial⟩⟩⟩,y.2.2.2.2.2.2.2⟩,fun k=>?_⟩
    have e1:=As.all_c_app (fnAs B) k m.fs [x]
    have e2:(As.all (fnAs B) [x]).c k=(fnAs B x).c k+0:=rfl
    simp only [modAs,varsAs,extsAs,fnsAs,As.and_c,bx_c,e1,e2]
    omega
theorem infoVar:(Tryz.prog.info? 39).map (fun i=>(i.zero,i.size,i.bytes))=some (some (.agg #[.string ⟨#[]⟩,.int .i64 0]),2,24):=by kernel_rfl
theorem infoExt:(Tryz.prog.info? 52).map (fun i=>(i.zero,i.size,i.bytes))=some (some (.agg #[.string ⟨#[]⟩,.slice none 0 0,.int .i64 0]),3,48):=by kernel_rfl
theorem infoFn:(Tryz.prog.info? 49).map (fun i=>(i.zero,i.size,i.bytes))=some (some (.agg #[.string ⟨#[]⟩,.slice none 0 0,.int .i64 0,.slice none 0 0]),4,72):=by kernel_rfl
theorem cell2_lit2 (w:World) (a c:Value) (T:TypeId):∀ j u,([a,c]:List Value)[j]? = some u→(((w.alloc (.cells #[a,c] T)).drew)).cell? ((⟨w.heap.size,0,none⟩:Addr).add j)=some u:=fun j u h=>by
  rw [World.cell?_drew];exact lit_cells w #[a,c] T j u h
theorem cell4_lit2 (w:World) (a b c d:Value) (T:TypeId):∀ j u,([a,b,c,d]:List Value)[j]? = some u→(((w.alloc (.cells #[a,b,c,d] T)).drew)).cell? ((⟨w.heap.size,0,none⟩:Addr).add j)=some u:=fun j u h=>by
  rw [World.cell?_drew];exact lit_cells w #[a,b,c,d] T j u h
theorem hasVar_eq (mm:PMod):(fun x=>(findVarP mm x).isSome)=hasVar mm:=by
  funext x
  unfold findVarP hasVar
  rw [Option.isSome_map,List.findIdx?_isSome]
theorem hasCal_eq (mm:PMod):(fun x=>(findCalP mm x).isSome)=hasCal mm:=by
  funext x
  unfold findCalP hasCal
  have e1:=List.findIdx?_isSome (xs:=mm.xs) (p:=fun v=>byt v.nm==x)
  have e2:=List.findIdx?_isSome (xs:=mm.fs) (p:=fun v=>byt v.nm==x)
  cases hx:mm.xs.findIdx? (fun v=>byt v.nm==x) with
  | some k =>
    rw [hx] at e1
    simp only [Option.isSome_some] at e1 ⊢
    rw [← e1]
    rfl
  | none =>
    rw [hx] at e1
    simp only [Option.isSome_none] at e1
    rw [← e1]
    simp only [Option.isSome_map,e2,Bool.false_or]
section
variable {B b:Nat} {W w w':World} {en:Tok} {mm:PMod} {s:RS} {Z Z':As}
theorem Mk.lt (h:Mk B W b en mm s Z w):b<w.heap.size:=by obtain ⟨m,e,hP⟩:=h;exact hP.lt
theorem Mk.head (h:Mk B W b en mm s Z w):∃ vp vc xp xc fp fc,(w.cell? ⟨b,8,none⟩=some (.slice vp mm.vs.length vc)∧w.cell? ⟨b,9,none⟩=some (.slice xp mm.xs.length xc)∧w.cell? ⟨b,10,none⟩=some (.slice fp mm.fs.length fc))∧b<w.heap.size:=by
  obtain ⟨m,e,hP⟩:=h
  obtain ⟨c8,c9,c10,_⟩:=hP.cells
  have h1:m.vn=mm.vs.length:=by rw [← e];exact hP.satZ.1.1.1
  have h2:m.xn=mm.xs.length:=by have:=hP.satZ.1.2.1.1.1;rw [← e];unfold modD;simp only [List.length_map];exact this
  have h3:m.fn=mm.fs.length:=by have:=hP.satZ.1.2.2.1.1;rw [← e];unfold modD;simp only [List.length_map];exact this
  rw [h1] at c8
  rw [h2] at c9
  rw [h3] at c10
  exact ⟨_,_,_,_,_,_,⟨c8,c9,c10⟩,hP.lt⟩
set_option maxRecDepth 100000 in
theorem enters_findV:∀ (args:Array Value) (w:World),(callFunc 116 args).run Tryz.prog w=.ok (.enter 116 args) w:=fun _ _=>rfl
set_option maxRecDepth 100000 in
theorem enters_findC:∀ (args:Array Value) (w:World),(callFunc 119 args).run Tryz.prog w=.ok (.enter 119 args) w:=fun _ _=>rfl
set_option maxRecDepth 100000 in
set_option maxHeartbeats 4000000 in
theorem global_any (K:Kn B W en) (hv:mm.vs.length≤1000000) (h:Mk B W b en mm s Z w) :
    Calls Tryz.prog 74 #[.pointer (some ⟨b,0,none⟩)] w (fun e w' => e=.returned (.tuple #[])∧Mk B W b en (iGlobal en (mm,s)).1 (iGlobal en (mm,s)).2 Z w'):=by
  obtain ⟨iV,hiV,hz0,hz1,hz2⟩:=info_parts infoVar
  have HI:=Lib.hid (And.intro hiV (And.intro hz0 (And.intro hz1 hz2)))
  clear hiV hz0 hz1 hz2
  obtain ⟨vp,vc,xp,xc,fp,fc,⟨c8,c9,c10⟩,bl⟩:=h.head
  clear c9 c10
  obtain ⟨n,eN⟩:∃ n,mm.vs.length=n:=⟨_,rfl⟩
  rw [eN] at c8 hv
  obtain ⟨F,eF⟩:∃ F,(n==8)=F:=⟨_,rfl⟩
  have eF2:((n:Int)==8)=F:=by
    rw [← eF]
    by_cases h8:n=8
    · subst h8;rfl
    · rw [beq_false_of_ne h8];exact beq_false_of_ne (by omega)
  have C1:=newName_any K F 116 (fun x=>(findVarP mm x).getD (-1)) (fun x=>(findVarP mm x).isSome) enters_findV (fun x s1 Z1 w1 h1=>findVar_any x h1) h
  rw [hasVar_eq] at C1
  have hmf:∀ (fn:Fn) (first cap:Array Value) (w:World),(Instr.makeFunc fn first cap).run Tryz.prog w=.ok (.func fn first cap) w:=fun _ _ _ _=>rfl
  have eR:iGlobal en (mm,s)=({ mm with vs:=mm.vs++[⟨vName en s,vSize en (sName en F (hasVar mm) s)⟩] },sWant en 6 (sSize en (sName en F (hasVar mm) s))):=by
    unfold iGlobal
    dsimp only
    rw [eN,eF]
  rw [eR]
  obtain ⟨s1,es1⟩:∃ s1,sName en F (hasVar mm) s=s1:=⟨_,rfl⟩
  obtain ⟨nm,enm⟩:∃ nm,vName en s=nm:=⟨_,rfl⟩
  simp only [es1,enm] at C1 ⊢
  obtain ⟨z,ez⟩:∃ z,vSize en s1=z:=⟨_,rfl⟩
  simp only [ez]
  have CS:∀ {Z':As} w1,Mk B W b en mm s1 Z' w1→Calls Tryz.prog 117 #[.pointer (some ⟨b,0,none⟩)] w1 (fun e w' => e=.returned (.int .i64 z)∧Mk B W b en mm (sSize en s1) Z' w'):=fun w1 h1=>by
    rw [← ez];exact h1.wantSize K
  have HN:=Lib.hid (And.intro eN hv)
  clear h eR es1 enm ez eN hv eF K
  go_enter Tryz.func74,Tryz.ntmps74
  go_wp2_with (first | ((with_reducible refine C1.mono ?_);rintro e w1 ⟨rfl,h1⟩;have bl1:=h1.lt) | ((with_reducible refine (CS _ h1).mono ?_);rintro e w2 ⟨rfl,h2⟩;have bl2:=h2.lt;have h3:=h2.b0.bpush rfl [.string nm,.int .i64 z] 39;have hb3:=h3.bget 0 rfl;have v0:=hb3.get 0 _ rfl;have v1:=hb3.get 1 _ rfl;have gl:=hb3.1) | ((with_reducible refine (h3.wantLineEnd).mono ?_);rintro e w4 ⟨rfl,h4⟩;have bl4:=h4.lt;have hb4:=h4.bget 0 rfl;have y0:=hb4.get 0 _ rfl;have y1:=hb4.get 1 _ rfl;have gl4:=hb4.1;obtain ⟨m,Y,em,emn,hS,hcc,back⟩:=h4.vars (x:=⟨nm,z⟩);have HG:=Lib.hid (And.intro em (And.intro emn (And.intro hS (And.intro hcc back))));obtain ⟨k0,k1,k2⟩:=hcc _ _ hS;clear hS hcc back em emn))
  go_region_law (first | (refine step_app rfl (.tmp 30) (.tmp 32) 22 rfl iV _ 24 Tryz.underlying22 HI.out.1 HI.out.2.1 HI.out.2.2.1 HI.out.2.2.2 rfl (by decide) rfl ((HG.out.2.2.1.alloc _).drew) (⟨nm,z⟩:PVar) _ 1 rfl rfl (cell2_lit2 _ _ _ _) (varC_one _) (by have h1:=HN.out.1;have h2:=HN.out.2;have h3:m.vs.length=n:=(by rw [← h1,← HG.out.1];rfl);rw [h3];unfold maxLen;omega) (by have h1:=HN.out.1;have h2:=HN.out.2;have h3:m.vs.length=n:=(by rw [← h1,← HG.out.1];rfl);rw [h3];omega) ?_;intro p' c' w' hS';obtain ⟨j0,j1,j2⟩:=HG.out.2.2.2.1 _ _ hS'))
  all_goals
    go_end0
    exact ⟨rfl,(HG.out.2.2.2.2 _ _ _ _ hS').nobx⟩
end
theorem cell3_lit3 (w:World) (a c d:Value) (T:TypeId):∀ j u,([a,c,d]:List Value)[j]? = some u→(((w.alloc (.cells #[a,c,d] T)).drew)).cell? ((⟨w.heap.size,0,none⟩:Addr).add j)=some u:=fun j u h=>by
  rw [World.cell?_drew];exact lit_cells w #[a,c,d] T j u h
theorem l2_name (en:Tok) (full:Bool) (told:Tx→Bool) (s:RS):Le2 s (sName en full told s):=by
  unfold sName
  dsimp only
  have h0:=l2_want en 1 s
  have h1:Le2 s (if full=true then bd 6 (nx en s) (sWant en 1 s) else sWant en 1 s):=by split;exact h0.trans (l2_bd _ _ _);exact h0
  split
  · exact h1.trans (l2_bd _ _ _)
  · exact h1
theorem l2_types {en:Tok} (h6:en.kind=6) (s:RS):Le2 s (sTypes en s):=by
  unfold sTypes
  have hp:∀ p:List Int×RS,Le2 p.2 (iParam en p).2:=fun p=>by
    unfold iParam
    dsimp only
    split
    · exact (l2_type en p.2).trans (l2_bd _ _ _)
    · exact l2_type en p.2
  exact (l2_brackets h6 hp ([],s)).trans (l2_type en _)
section
variable {B b:Nat} {W w w':World} {en:Tok} {mm:PMod} {s:RS} {Z Z':As}
theorem Mk.types (h:Mk B W b en mm s Z w) (K:Kn B W en) (hL:tsl s≤500000) :
    Calls Tryz.prog 120 #[.pointer (some ⟨b,0,none⟩)] w (fun e w' => ∃ p c,e=.returned (.tuple #[.slice p (vTypes en s).1.length c,.int .i64 (vTypes en s).2])∧Mk B W b en mm (sTypes en s) ((As.and (rw' B 3 1 intC p (vTypes en s).1.length c (vTypes en s).1) Z)) w'):=by
  obtain ⟨m,e,hP⟩:=h
  exact (types_any K hL hP).mono fun e' w' ⟨p,c,h1,h2⟩=>⟨p,c,h1,m,e,h2.imp ⟨fun w x=>⟨x.2.1,x.1,x.2.2⟩,fun k=>by simp only [As.and_c];omega⟩⟩
theorem Mk.out1 {bs:List (Nat×List Value)} {X:As} (h:Mk B W b en mm s ((As.and X ((As.and (bxs bs) Z)))) w):Mk B W b en mm s ((As.and (bxs bs) ((As.and X Z)))) w:=h.imp ⟨fun w x=>⟨x.2.1,x.1,x.2.2⟩,fun k=>by simp only [As.and_c];omega⟩
theorem Mk.in1 {bs:List (Nat×List Value)} {X:As} (h:Mk B W b en mm s ((As.and (bxs bs) ((As.and X Z)))) w):Mk B W b en mm s ((As.and X ((As.and (bxs bs) Z)))) w:=h.imp ⟨fun w x=>⟨x.2.1,x.1,x.2.2⟩,fun k=>by simp only [As.and_c];omega⟩
set_option maxRecDepth 100000 in
set_option maxHeartbeats 4000000 in
theorem extern_any (K:Kn B W en) (hv:mm.xs.length≤1000000) (hL:tsl s≤500000) (h:Mk B W b en mm s Z w) :
    Calls Tryz.prog 75 #[.pointer (some ⟨b,0,none⟩)] w (fun e w' => e=.returned (.tuple #[])∧Mk B W b en (iExtern en (mm,s)).1 (iExtern en (mm,s)).2 Z w'):=by
  obtain ⟨iV,hiV,hz0,hz1,hz2⟩:=info_parts infoExt
  have HI:=Lib.hid (And.intro hiV (And.intro hz0 (And.intro hz1 hz2)))
  clear hiV hz0 hz1 hz2
  obtain ⟨vp,vc,xp,xc,fp,fc,⟨c8,c9,c10⟩,bl⟩:=h.head
  clear c8 c10
  obtain ⟨n,eN⟩:∃ n,mm.xs.length=n:=⟨_,rfl⟩
  rw [eN] at c9 hv
  obtain ⟨F,eF⟩:∃ F,(n==8)=F:=⟨_,rfl⟩
  have eF2:((n:Int)==8)=F:=by
    rw [← eF]
    by_cases h8:n=8
    · subst h8;rfl
    · rw [beq_false_of_ne h8];exact beq_false_of_ne (by omega)
  have C1:=newName_any K F 119 (fun x=>(findCalP mm x).getD (-1)) (fun x=>(findCalP mm x).isSome) enters_findC (fun x s1 Z1 w1 h1=>findCallee_any x h1) h
  rw [hasCal_eq] at C1
  have hmf:∀ (fn:Fn) (first cap:Array Value) (w:World),(Instr.makeFunc fn first cap).run Tryz.prog w=.ok (.func fn first cap) w:=fun _ _ _ _=>rfl
  have eR:iExtern en (mm,s)=({ mm with xs:=mm.xs++[⟨vName en s,(vTypes en (sName en F (hasCal mm) s)).1,(vTypes en (sName en F (hasCal mm) s)).2⟩] },sWant en 6 (sTypes en (sName en F (hasCal mm) s))):=by
    unfold iExtern
    dsimp only
    rw [eN,eF]
  rw [eR]
  have hL1:tsl (sName en F (hasCal mm) s)≤500000:=Nat.le_trans (l2_name en F (hasCal mm) s).2 hL
  obtain ⟨s1,es1⟩:∃ s1,sName en F (hasCal mm) s=s1:=⟨_,rfl⟩
  obtain ⟨nm,enm⟩:∃ nm,vName en s=nm:=⟨_,rfl⟩
  simp only [es1,enm] at C1 hL1 ⊢
  have CS:∀ {Z':As} w1,Mk B W b en mm s1 Z' w1→_:=fun {Z'} w1 h1=>h1.types K hL1
  obtain ⟨q,eq⟩:∃ q,vTypes en s1=q:=⟨_,rfl⟩
  obtain ⟨ps,rt⟩:=q
  simp only [eq] at CS ⊢
  obtain ⟨pn,epn⟩:∃ pn,ps.length=pn:=⟨_,rfl⟩
  simp only [epn] at CS
  have HN:=Lib.hid (And.intro eN hv)
  clear h eR es1 enm eq eN hv eF K hL hL1 epn
  go_enter Tryz.func75,Tryz.ntmps75
  go_wp2_with (first | ((with_reducible refine C1.mono ?_);rintro e w1 ⟨rfl,h1⟩;have bl1:=h1.lt;have h2:=h1.b0.bpush rfl [.string nm,.slice none 0 0,.int .i64 0] 52) | ((with_reducible refine (CS _ h2).mono ?_);rintro e w3 ⟨p,c,rfl,hT⟩;have h3:=hT.out1;have bl3:=h3.lt;have hb3:=h3.bget 0 rfl;have v0:=hb3.get 0 _ rfl;have v1:=hb3.get 1 _ rfl;have v2:=hb3.get 2 _ rfl;have gl:=hb3.1;have f1:=hb3.2.1 1;have f2:=hb3.2.1 2;have h5:=(h3.bput 0 rfl 1 (.slice p pn c)).bput 0 rfl 2 (.int .i64 rt)) | ((with_reducible refine (h5.wantLineEnd).mono ?_);rintro e w6 ⟨rfl,h6⟩;have bl6:=h6.lt;have hb6:=h6.bget 0 rfl;have y0:=hb6.get 0 _ rfl;have y1:=hb6.get 1 _ rfl;have y2:=hb6.get 2 _ rfl;have gl6:=hb6.1;obtain ⟨m,Y,em,emn,hS,hcc,back⟩:=(Mk.exts (x:=⟨nm,p,pn,c,ps,rt⟩) h6.in1);have HG:=Lib.hid (And.intro em (And.intro emn (And.intro hS (And.intro hcc back))));obtain ⟨k0,k1,k2⟩:=hcc _ _ hS;clear hS hcc back em emn))
  go_region_law (first | (refine step_app rfl (.tmp 31) (.tmp 33) 23 rfl iV _ 48 Tryz.underlying23 HI.out.1 HI.out.2.1 HI.out.2.2.1 HI.out.2.2.2 rfl (by decide) rfl ((HG.out.2.2.1.alloc _).drew) (⟨nm,p,pn,c,ps,rt⟩:LExt) _ 1 rfl rfl (cell3_lit3 _ _ _ _ _) (extC_one _) (by have h1:=HN.out.1;have h2:=HN.out.2;have h3:m.xs.length=n:=(by rw [← h1,← HG.out.1];unfold modD;simp);rw [h3];unfold maxLen;omega) (by have h1:=HN.out.1;have h2:=HN.out.2;have h3:m.xs.length=n:=(by rw [← h1,← HG.out.1];unfold modD;simp);rw [h3];omega) ?_;intro p' c' w' hS';obtain ⟨j0,j1,j2⟩:=HG.out.2.2.2.1 _ _ hS'))
  all_goals
    go_end0
    exact ⟨rfl,(HG.out.2.2.2.2 _ _ _ _ hS').nobx⟩
end
section
variable {B b:Nat} {W w w':World} {en:Tok} {mm:PMod} {s:RS} {Z Z':As}
theorem Mk.fk {g:Nat} {nm:ByteArray} {p:Option Addr} {pn c:Nat} {rt:Int} {X:As} (h:Mk B W b en mm s ((As.and (bxs [(g,[.string nm,.slice p pn c,.int .i64 rt,.slice none 0 0])]) ((As.and X Z)))) w) :
    ∃ m:LMod,modD m=mm∧Fk B W b en (.slice m.vp m.vn m.vc) (.slice m.xp m.xn m.xc) (.slice m.fp m.fn m.fc) g nm p pn c rt ([],s) ((As.and X ((As.and (modAs B m) Z)))) w:=by
  obtain ⟨m,e,hP⟩:=h
  refine ⟨m,e,none,0,[],rfl,hP.imp ⟨fun w x=>⟨x.2.1.1,⟨rw_nil w,trivial⟩,x.2.2.1,x.1,x.2.2.2⟩,fun k=>?_⟩⟩
  simp only [As.and_c,blksAs,rw_c,cR,bxs,As.all,As.emp_c,List.length_nil]
  omega
theorem Mk.unfk {g:Nat} {nm:ByteArray} {p:Option Addr} {pn c:Nat} {rt:Int} {ps:List Int} {m:LMod} (e:modD m=mm) {r:List (List PIns)×RS} (h:Fk B W b en (.slice m.vp m.vn m.vc) (.slice m.xp m.xn m.xc) (.slice m.fp m.fn m.fc) g nm p pn c rt r ((As.and (rw' B 3 1 intC p pn c ps) ((As.and (modAs B m) Z)))) w) :
    ∃ (bp:Option Addr) (bn bc:Nat) (bs:List LB),bs.map blkD=r.1∧Mk B W b en mm r.2 ((As.and (bxs [(g,[.string nm,.slice p pn c,.int .i64 rt,.slice bp bn bc])]) ((As.and (fnAs B ⟨nm,p,pn,c,ps,rt,bp,bn,bc,bs⟩) Z)))) w:=by
  obtain ⟨bp,bc,bs,eb,hP⟩:=h
  refine ⟨bp,bs.length,bc,bs,eb,m,e,hP.imp ⟨fun w x=>⟨x.2.2.2.1,⟨x.1,trivial⟩,⟨x.2.2.1,x.2.1⟩,x.2.2.2.2⟩,fun k=>?_⟩⟩
  simp only [As.and_c,fnAs,bxs,As.all,As.emp_c]
  omega
set_option maxRecDepth 100000 in
set_option maxHeartbeats 4000000 in
theorem function_any (K:Kn B W en) (hv:mm.fs.length≤1000000) (hL:tsl s≤500000) (hZ:sz s≤300000) (h:Mk B W b en mm s Z w) :
    Calls Tryz.prog 76 #[.pointer (some ⟨b,0,none⟩)] w (fun e w' => e=.returned (.tuple #[])∧Mk B W b en (iFunc en (mm,s)).1 (iFunc en (mm,s)).2 Z w'):=by
  obtain ⟨iV,hiV,hz0,hz1,hz2⟩:=info_parts infoFn
  have HI:=Lib.hid (And.intro hiV (And.intro hz0 (And.intro hz1 hz2)))
  clear hiV hz0 hz1 hz2
  obtain ⟨vp,vc,xp,xc,fp,fc,⟨c8,c9,c10⟩,bl⟩:=h.head
  clear c8 c9
  obtain ⟨n,eN⟩:∃ n,mm.fs.length=n:=⟨_,rfl⟩
  rw [eN] at c10 hv
  obtain ⟨F,eF⟩:∃ F,(n==8)=F:=⟨_,rfl⟩
  have eF2:((n:Int)==8)=F:=by
    rw [← eF]
    by_cases h8:n=8
    · subst h8;rfl
    · rw [beq_false_of_ne h8];exact beq_false_of_ne (by omega)
  have C1:=newName_any K F 119 (fun x=>(findCalP mm x).getD (-1)) (fun x=>(findCalP mm x).isSome) enters_findC (fun x s1 Z1 w1 h1=>findCallee_any x h1) h
  rw [hasCal_eq] at C1
  have hmf:∀ (fn:Fn) (first cap:Array Value) (w:World),(Instr.makeFunc fn first cap).run Tryz.prog w=.ok (.func fn first cap) w:=fun _ _ _ _=>rfl
  have eH:sHead en (mm,s)=sWant en 6 (sTypes en (sName en F (hasCal mm) s)):=by
    unfold sHead
    dsimp only
    rw [eN,eF]
  have eR:iFunc en (mm,s)=({ mm with fs:=mm.fs++[⟨vName en s,(vTypes en (sName en F (hasCal mm) s)).1,(vTypes en (sName en F (hasCal mm) s)).2,(iBody en ((sWant en 6 (sTypes en (sName en F (hasCal mm) s))).ts.length+1) ([],sWant en 6 (sTypes en (sName en F (hasCal mm) s)))).1⟩] },
      (iBody en ((sWant en 6 (sTypes en (sName en F (hasCal mm) s))).ts.length+1) ([],sWant en 6 (sTypes en (sName en F (hasCal mm) s)))).2):=by
    unfold iFunc
    dsimp only
    rw [eH,eN,eF]
  rw [eR]
  have hl0:=l2_name en F (hasCal mm) s
  have hL1:tsl (sName en F (hasCal mm) s)≤500000:=Nat.le_trans hl0.2 hL
  have hl2:Le2 s (sWant en 6 (sTypes en (sName en F (hasCal mm) s))):=hl0.trans ((l2_types K.2.2.2 _).trans (l2_want _ _ _))
  obtain ⟨s1,es1⟩:∃ s1,sName en F (hasCal mm) s=s1:=⟨_,rfl⟩
  obtain ⟨nm,enm⟩:∃ nm,vName en s=nm:=⟨_,rfl⟩
  simp only [es1,enm] at C1 hL1 hl2 ⊢
  have CS:∀ {Z':As} w1,Mk B W b en mm s1 Z' w1→_:=fun {Z'} w1 h1=>h1.types K hL1
  obtain ⟨q,eq⟩:∃ q,vTypes en s1=q:=⟨_,rfl⟩
  obtain ⟨ps,rt⟩:=q
  simp only [eq] at CS ⊢
  obtain ⟨pn,epn⟩:∃ pn,ps.length=pn:=⟨_,rfl⟩
  simp only [epn] at CS
  have CB:∀ {m0 m1 m2:Value} {g:Nat} {p:Option Addr} {c:Nat} {Z':As} w1,Fk B W b en m0 m1 m2 g nm p pn c rt ([],sWant en 6 (sTypes en s1)) Z' w1→_:=fun {m0 m1 m2 g p c Z'} w1 h1 =>
    body_any K ((sWant en 6 (sTypes en s1)).ts.length+1) (Nat.lt_succ_self _) (Nat.le_trans hl2.1 hZ) (by have h9:=Nat.le_trans hl2.2 hL;show 0+0+tsl (sWant en 6 (sTypes en s1))≤500000;omega) h1
  obtain ⟨r,er⟩:∃ r,iBody en ((sWant en 6 (sTypes en s1)).ts.length+1) ([],sWant en 6 (sTypes en s1))=r:=⟨_,rfl⟩
  simp only [er] at CB ⊢
  have HN:=Lib.hid (And.intro eN hv)
  clear h eR es1 enm eq eN hv eF K hL hL1 epn hl0 hl2 er eH
  go_enter Tryz.func76,Tryz.ntmps76
  go_wp2_with (first | ((with_reducible refine C1.mono ?_);rintro e w1 ⟨rfl,h1⟩;have bl1:=h1.lt;have h2:=h1.b0.bpush rfl [.string nm,.slice none 0 0,.int .i64 0,.slice none 0 0] 49) | ((with_reducible refine (CS _ h2).mono ?_);rintro e w3 ⟨p,c,rfl,hT⟩;have h3:=hT.out1;have bl3:=h3.lt;have hb3:=h3.bget 0 rfl;have v0:=hb3.get 0 _ rfl;have v1:=hb3.get 1 _ rfl;have v2:=hb3.get 2 _ rfl;have v3:=hb3.get 3 _ rfl;have gl:=hb3.1;have f1:=hb3.2.1 1;have f2:=hb3.2.1 2;have h5:=(h3.bput 0 rfl 1 (.slice p pn c)).bput 0 rfl 2 (.int .i64 rt)) | ((with_reducible refine (h5.wantLineEnd).mono ?_);rintro e w6 ⟨rfl,h6⟩;have bl6:=h6.lt;have gl6:=(h6.bget 0 rfl).1;obtain ⟨m1,em1,hF⟩:=Mk.fk h6;have HM:=Lib.hid em1;clear em1) | ((with_reducible refine (CB _ hF).mono ?_);rintro e w7 ⟨rfl,hF7⟩;obtain ⟨bp,bn,bc,bs,ebs,h7⟩:=Mk.unfk HM.out hF7;have HE:=Lib.hid ebs;have bl7:=h7.lt;have hb7:=h7.bget 0 rfl;have y0:=hb7.get 0 _ rfl;have y1:=hb7.get 1 _ rfl;have y2:=hb7.get 2 _ rfl;have y3:=hb7.get 3 _ rfl;have gl7:=hb7.1;obtain ⟨m,Y,em,emn,hS,hcc,back⟩:=(Mk.fns (x:=⟨nm,p,pn,c,ps,rt,bp,bn,bc,bs⟩) h7.in1);have HG:=Lib.hid (And.intro em (And.intro emn (And.intro hS (And.intro hcc back))));obtain ⟨k0,k1,k2⟩:=hcc _ _ hS;clear hS hcc back em emn ebs))
  go_region_law (first | (refine step_app rfl (.tmp 33) (.tmp 35) 24 rfl iV _ 72 Tryz.underlying24 HI.out.1 HI.out.2.1 HI.out.2.2.1 HI.out.2.2.2 rfl (by decide) rfl ((HG.out.2.2.1.alloc _).drew) (⟨nm,p,pn,c,ps,rt,bp,bn,bc,bs⟩:LFn) _ 1 rfl rfl (cell4_lit2 _ _ _ _ _ _) (fnC_one _) (by have h1:=HN.out.1;have h2:=HN.out.2;have h3:m.fs.length=n:=(by rw [← h1,← HG.out.1];unfold modD;simp);rw [h3];unfold maxLen;omega) (by have h1:=HN.out.1;have h2:=HN.out.2;have h3:m.fs.length=n:=(by rw [← h1,← HG.out.1];unfold modD;simp);rw [h3];omega) ?_;intro p' c' w' hS';obtain ⟨j0,j1,j2⟩:=HG.out.2.2.2.1 _ _ hS'))
  all_goals
    go_end0
    have q:=(HG.out.2.2.2.2 _ _ _ _ hS').nobx
    have e9:fnD (⟨nm,p,pn,c,ps,rt,bp,bn,bc,bs⟩:LFn)=⟨nm,ps,rt,r.1⟩:=by unfold fnD;rw [HE.out]
    rw [e9] at q
    exact ⟨rfl,q⟩
end
section
variable {en:Tok} (h6:en.kind=6)
include h6
theorem l2_body : ∀ (k:Nat) (q:List (List PIns)×RS),Le2 q.2 (iBody en k q).2
  | 0,q=>l2_bd _ _ _
  | k + 1, q => by
    unfold iBody
    split
    · exact l2_bd _ _ _
    · rename_i f l hts
      have hn:tsl q.2≠0:=by unfold tsl;rw [hts];simp
      split
      · exact (l2_ps q.2).trans (l2_body k _)
      · split
        · rename_i n hb
          have h1:=label_le (en:=en) q.1.length n q.2 hn
          have h0:Le2 q.2 (sLabel en q.1.length n q.2):=⟨h1.1,by have:=h1.2;omega⟩
          exact h0.trans (l2_body k _)
        · split
          · exact (l2_bd 3 f q.2).trans (l2_body k _)
          · split
            · exact (l2_ps q.2).trans (l2_want _ _ _)
            · split
              · exact (l2_bd 6 f q.2).trans (l2_body k _)
              · have h1:=instr_le h6 q.2 hn
                have h0:Le2 q.2 (iInstr en q.2).2:=⟨h1.1,by have:=h1.2;omega⟩
                exact h0.trans (l2_body k (addLast q.1 (iInstr en q.2).1,(iInstr en q.2).2))
omit h6 in
theorem l2_global (p:PMod×RS):Le2 p.2 (iGlobal en p).2:=(l2_name en _ _ p.2).trans ((l2_size en _).trans (l2_want _ _ _))
theorem l2_extern (p:PMod×RS):Le2 p.2 (iExtern en p).2:=(l2_name en _ _ p.2).trans ((l2_types h6 _).trans (l2_want _ _ _))
theorem l2_func (p:PMod×RS):Le2 p.2 (iFunc en p).2:=by
  have h1:Le2 p.2 (sHead en p):=(l2_name en _ _ p.2).trans ((l2_types h6 _).trans (l2_want _ _ _))
  exact h1.trans (l2_body h6 _ ([],sHead en p))
end
theorem il_nil {en:Tok} {k:Nat} {p:PMod×RS} (h:p.2.ts=[]):iLines en (k+1) p=p:=by unfold iLines;rw [h]
theorem il_end {en:Tok} {k:Nat} {p:PMod×RS} {f:Tok} {l:List Tok} (h:p.2.ts=f::l)  (c0:isTk 6 [] f=true):iLines en (k+1) p=iLines en k (p.1,ps p.2):=by
  conv=>lhs;unfold iLines
  rw [h];simp only [c0,Bool.false_eq_true,if_false,if_true]
theorem il_global {en:Tok} {k:Nat} {p:PMod×RS} {f:Tok} {l:List Tok} (h:p.2.ts=f::l) (c0:isTk 6 [] f=false) (c1:isTk 1 [103,108,111,98,97,108] f=true):iLines en (k+1) p=iLines en k (iGlobal en (p.1,ps p.2)):=by
  conv=>lhs;unfold iLines
  rw [h];simp only [c0,c1,Bool.false_eq_true,if_false,if_true]
theorem il_extern {en:Tok} {k:Nat} {p:PMod×RS} {f:Tok} {l:List Tok} (h:p.2.ts=f::l) (c0:isTk 6 [] f=false) (c1:isTk 1 [103,108,111,98,97,108] f=false) (c2:isTk 1 [101,120,116,101,114,110] f=true):iLines en (k+1) p=iLines en k (iExtern en (p.1,ps p.2)):=by
  conv=>lhs;unfold iLines
  rw [h];simp only [c0,c1,c2,Bool.false_eq_true,if_false,if_true]
theorem il_func {en:Tok} {k:Nat} {p:PMod×RS} {f:Tok} {l:List Tok} (h:p.2.ts=f::l) (c0:isTk 6 [] f=false) (c1:isTk 1 [103,108,111,98,97,108] f=false) (c2:isTk 1 [101,120,116,101,114,110] f=false) (c3:isTk 1 [102,117,110,99] f=true):iLines en (k+1) p=iLines en k (iFunc en (p.1,ps p.2)):=by
  conv=>lhs;unfold iLines
  rw [h];simp only [c0,c1,c2,c3,Bool.false_eq_true,if_false,if_true]
theorem il_else {en:Tok} {k:Nat} {p:PMod×RS} {f:Tok} {l:List Tok} (h:p.2.ts=f::l) (c0:isTk 6 [] f=false) (c1:isTk 1 [103,108,111,98,97,108] f=false) (c2:isTk 1 [101,120,116,101,114,110] f=false) (c3:isTk 1 [102,117,110,99] f=false):iLines en (k+1) p=iLines en k (p.1,bd 3 f p.2):=by
  conv=>lhs;unfold iLines
  rw [h];simp only [c0,c1,c2,c3,Bool.false_eq_true,if_false,if_true]
section
variable {B b:Nat} {W w w':World} {en:Tok} {mm:PMod} {s:RS} {Z Z':As} {q:PMod×RS}
def mlen (m:PMod):Nat:=m.vs.length+m.xs.length+m.fs.length
def Lk (en:Tok) (k0:Nat) (q q':PMod×RS) (k:Nat):Prop :=
  tsl q'.2<k∧iLines en k0 q=iLines en k q'∧sz q'.2≤300000∧mlen q'.1+tsl q'.2≤500000
theorem Lk.next {k0 k:Nat} {q q' q2:PMod×RS} (h:Lk en k0 q q' (k+1)) (e:iLines en (k+1) q' = iLines en k q2) (h2:sz q2.2≤sz q'.2) (h3:tsl q2.2+1≤tsl q'.2) (h4:mlen q2.1≤mlen q'.1+1):Lk en k0 q q2 k:=by
  obtain ⟨a,c,d,f⟩:=h
  exact ⟨by omega,c.trans e,by omega,by omega⟩
theorem Mk.ends (h:Mk B W b en mm s Z w):(∃ tp tc,w.cell? ⟨b,0,none⟩=some (.slice tp (tsl s) tc))∧b<w.heap.size∧lenAt b w=tsl s:=by
  obtain ⟨m0,m1,m2,r,Z',hr,_⟩:=h.rd
  have hlen:=hr.len
  obtain ⟨_,_,tp,tn,tc,hs⟩:=hr
  have hb:=hs.box
  have hn:tn=s.ts.length:=hs.sat.2.1.1
  exact ⟨⟨tp,tc,by rw [hb.get 0 _ rfl,hn];rfl⟩,hb.1,hlen⟩
set_option maxRecDepth 100000 in
set_option maxHeartbeats 8000000 in
theorem lines_any (K:Kn B W en) (k0:Nat) (hk0:tsl q.2<k0) (hs0:sz q.2≤300000) (hq0:mlen q.1+tsl q.2≤500000) (h:Mk B W b en q.1 q.2 Z w) :
    Calls Tryz.prog 31 #[.pointer (some ⟨b,0,none⟩)] w (fun e w' => e=.returned (.tuple #[])∧Mk B W b en (iLines en k0 q).1 (iLines en k0 q).2 Z w'):=by
  have HK:=Lib.hid K
  have H0:=Lib.hid (And.intro h (show Lk en k0 q q k0 from ⟨hk0,rfl,hs0,hq0⟩))
  clear h K hk0 hs0 hq0
  go_enter Tryz.func31,Tryz.ntmps31
  go_wp2_with fail
  go_loopw [2] (fun t2 wr=>∃ (q':PMod×RS) (k:Nat),Mk B W b en q'.1 q'.2 Z wr∧Lk en k0 q q' k) (fun _ wr=>lenAt b wr)
  case atStart=>exact ⟨q,k0,H0.out.1,H0.out.2⟩
  case round =>
    obtain ⟨q',k,h,hk⟩:=hrel
    clear H0
    obtain ⟨k,rfl⟩:∃ k',k=k'+1:=⟨k - 1,by have:=hk.1;omega⟩
    obtain ⟨⟨tp,tc,c0a⟩,bl,hlen⟩:=h.ends
    cases hts:q'.2.ts with
    | nil =>
      have hn:tsl q'.2=0:=by unfold tsl;rw [hts];rfl
      rw [hn] at c0a
      have HH:=Lib.hid (And.intro h (hk.2.1.trans (il_nil hts)))
      clear h hk hts hn hlen
      go_wp2_with fail
      go_end0
      rw [HH.out.2]
      exact ⟨rfl,HH.out.1⟩
    | cons f l =>
      have hn:tsl q'.2≠0:=by unfold tsl;rw [hts];simp
      have hf:=nx_cons (en:=en) hts
      have hL0:tsl (ps q'.2)+1≤tsl q'.2:=by unfold tsl ps at *;simp;omega
      have hS0:=sz_ps q'.2
      have hm1:q'.1.vs.length≤1000000∧q'.1.xs.length≤1000000∧q'.1.fs.length≤1000000∧tsl (ps q'.2)≤500000∧sz (ps q'.2)≤300000:=by
        obtain ⟨_,_,d,e⟩:=hk
        unfold mlen at e
        exact ⟨by omega,by omega,by omega,by omega,by omega⟩
      have hpos:(0:Int)<(tsl q'.2:Int):=by omega
      have C6:∀ {Z':As} w1,Mk B W b en q'.1 q'.2 Z' w1→Calls Tryz.prog 73 #[.pointer (some ⟨b,0,none⟩),.int .i64 6,.string ⟨#[]⟩] w1 (fun e w' => e=.returned (.bool (isTk 6 [] f))∧Mk B W b en q'.1 (if isTk 6 [] f then ps q'.2 else q'.2) Z' w'):=fun w1 h1=>by
        have h9:=h1.passed 6 [] 6 ⟨#[]⟩ rfl rfl
        unfold sPassed at h9
        rw [hf] at h9
        exact h9
      have Cg:∀ {Z':As} w1,Mk B W b en q'.1 q'.2 Z' w1→Calls Tryz.prog 73 #[.pointer (some ⟨b,0,none⟩),.int .i64 1,.string ⟨#[103,108,111,98,97,108]⟩] w1 (fun e w' => e=.returned (.bool (isTk 1 [103,108,111,98,97,108] f))∧Mk B W b en q'.1 (if isTk 1 [103,108,111,98,97,108] f then ps q'.2 else q'.2) Z' w'):=fun w1 h1=>by
        have h9:=h1.passed 1 [103,108,111,98,97,108] 1 ⟨#[103,108,111,98,97,108]⟩ rfl rfl
        unfold sPassed at h9
        rw [hf] at h9
        exact h9
      have Cx:∀ {Z':As} w1,Mk B W b en q'.1 q'.2 Z' w1→Calls Tryz.prog 73 #[.pointer (some ⟨b,0,none⟩),.int .i64 1,.string ⟨#[101,120,116,101,114,110]⟩] w1 (fun e w' => e=.returned (.bool (isTk 1 [101,120,116,101,114,110] f))∧Mk B W b en q'.1 (if isTk 1 [101,120,116,101,114,110] f then ps q'.2 else q'.2) Z' w'):=fun w1 h1=>by
        have h9:=h1.passed 1 [101,120,116,101,114,110] 1 ⟨#[101,120,116,101,114,110]⟩ rfl rfl
        unfold sPassed at h9
        rw [hf] at h9
        exact h9
      have Cf:∀ {Z':As} w1,Mk B W b en q'.1 q'.2 Z' w1→Calls Tryz.prog 73 #[.pointer (some ⟨b,0,none⟩),.int .i64 1,.string ⟨#[102,117,110,99]⟩] w1 (fun e w' => e=.returned (.bool (isTk 1 [102,117,110,99] f))∧Mk B W b en q'.1 (if isTk 1 [102,117,110,99] f then ps q'.2 else q'.2) Z' w'):=fun w1 h1=>by
        have h9:=h1.passed 1 [102,117,110,99] 1 ⟨#[102,117,110,99]⟩ rfl rfl
        unfold sPassed at h9
        rw [hf] at h9
        exact h9
      obtain ⟨nl,enl⟩:∃ nl,tsl q'.2=nl:=⟨_,rfl⟩
      rw [enl] at c0a hpos
      cases c0:isTk 6 [] f with
      | true =>
        have hN:=hk.next (il_end hts c0) hS0 hL0 (Nat.le_succ _)
        simp only [c0,if_true] at C6
        have hT:tsl (q'.1,ps q'.2).2<nl:=by rw [← enl];exact Nat.lt_of_succ_le hL0
        have HB:=Lib.hid (And.intro hN (And.intro hT (And.intro hlen enl)))
        have HH:=Lib.hid h
        clear h hk hN hT hts hn hf hL0 hS0 hm1 enl hlen c0 Cg Cx Cf
        go_wp2_with (first | ((with_reducible refine (C6 _ HH.out).mono ?_);rintro e v0 ⟨rfl,p0⟩;obtain ⟨_,bl0,hl0⟩:=p0.ends;have HL0:=Lib.hid hl0;clear hl0))
        obtain ⟨_,_,hl9⟩:=p0.ends
        refine ⟨⟨_,k,p0,HB.out.1⟩,?_⟩
        rw [hl9,HB.out.2.2.1,HB.out.2.2.2]
        exact HB.out.2.1
      | false =>
        simp only [c0,Bool.false_eq_true,if_false] at C6
        cases c1:isTk 1 [103,108,111,98,97,108] f with
        | true =>
          have hN:=hk.next (il_global hts c0 c1) (Nat.le_trans (l2_global (en:=en) (q'.1,ps q'.2)).1 hS0) (Nat.le_trans (Nat.succ_le_succ (l2_global (en:=en) (q'.1,ps q'.2)).2) hL0) (by unfold iGlobal mlen;simp <;> omega)
          have CC:∀ {Z':As} w1,Mk B W b en q'.1 (ps q'.2) Z' w1→_:=fun {Z'} w1 h1=>global_any HK.out hm1.1 h1
          simp only [c1,if_true] at Cg
          have hT:tsl (iGlobal en (q'.1,ps q'.2)).2<nl:=by rw [← enl];exact Nat.lt_of_succ_le (Nat.le_trans (Nat.succ_le_succ (l2_global (en:=en) (q'.1,ps q'.2)).2) hL0)
          have HB:=Lib.hid (And.intro hN (And.intro hT (And.intro hlen enl)))
          have HH:=Lib.hid h
          clear h hk hN hT hts hn hf hL0 hS0 hm1 enl hlen c0 c1 Cx Cf
          go_wp2_with (first | ((with_reducible refine (C6 _ HH.out).mono ?_);rintro e v0 ⟨rfl,p0⟩;obtain ⟨_,bl0,hl0⟩:=p0.ends;have HL0:=Lib.hid hl0;clear hl0) | ((with_reducible refine (Cg _ p0).mono ?_);rintro e v1 ⟨rfl,p1⟩;obtain ⟨_,bl1,hl1⟩:=p1.ends;have HL1:=Lib.hid hl1;clear hl1) | ((with_reducible refine (CC _ p1).mono ?_);rintro e v9 ⟨rfl,p9⟩))
          obtain ⟨_,_,hl9⟩:=p9.ends
          refine ⟨⟨_,k,p9,HB.out.1⟩,?_⟩
          rw [hl9,HB.out.2.2.1,HB.out.2.2.2]
          exact HB.out.2.1
        | false =>
          simp only [c1,Bool.false_eq_true,if_false] at Cg
          cases c2:isTk 1 [101,120,116,101,114,110] f with
          | true =>
            have hN:=hk.next (il_extern hts c0 c1 c2) (Nat.le_trans (l2_extern HK.out.2.2.2 (q'.1,ps q'.2)).1 hS0) (Nat.le_trans (Nat.succ_le_succ (l2_extern HK.out.2.2.2 (q'.1,ps q'.2)).2) hL0) (by unfold iExtern mlen;simp <;> omega)
            have CC:∀ {Z':As} w1,Mk B W b en q'.1 (ps q'.2) Z' w1→_:=fun {Z'} w1 h1=>extern_any HK.out hm1.2.1 hm1.2.2.2.1 h1
            simp only [c2,if_true] at Cx
            have hT:tsl (iExtern en (q'.1,ps q'.2)).2<nl:=by rw [← enl];exact Nat.lt_of_succ_le (Nat.le_trans (Nat.succ_le_succ (l2_extern HK.out.2.2.2 (q'.1,ps q'.2)).2) hL0)
            have HB:=Lib.hid (And.intro hN (And.intro hT (And.intro hlen enl)))
            have HH:=Lib.hid h
            clear h hk hN hT hts hn hf hL0 hS0 hm1 enl hlen c0 c1 c2 Cf
            go_wp2_with (first | ((with_reducible refine (C6 _ HH.out).mono ?_);rintro e v0 ⟨rfl,p0⟩;obtain ⟨_,bl0,hl0⟩:=p0.ends;have HL0:=Lib.hid hl0;clear hl0) | ((with_reducible refine (Cg _ p0).mono ?_);rintro e v1 ⟨rfl,p1⟩;obtain ⟨_,bl1,hl1⟩:=p1.ends;have HL1:=Lib.hid hl1;clear hl1) | ((with_reducible refine (Cx _ p1).mono ?_);rintro e v2 ⟨rfl,p2⟩;obtain ⟨_,bl2,hl2⟩:=p2.ends;have HL2:=Lib.hid hl2;clear hl2) | ((with_reducible refine (CC _ p2).mono ?_);rintro e v9 ⟨rfl,p9⟩))
            obtain ⟨_,_,hl9⟩:=p9.ends
            refine ⟨⟨_,k,p9,HB.out.1⟩,?_⟩
            rw [hl9,HB.out.2.2.1,HB.out.2.2.2]
            exact HB.out.2.1
          | false =>
            simp only [c2,Bool.false_eq_true,if_false] at Cx
            cases c3:isTk 1 [102,117,110,99] f with
            | true =>
              have hN:=hk.next (il_func hts c0 c1 c2 c3) (Nat.le_trans (l2_func HK.out.2.2.2 (q'.1,ps q'.2)).1 hS0) (Nat.le_trans (Nat.succ_le_succ (l2_func HK.out.2.2.2 (q'.1,ps q'.2)).2) hL0) (by unfold iFunc mlen;simp <;> omega)
              have CC:∀ {Z':As} w1,Mk B W b en q'.1 (ps q'.2) Z' w1→_:=fun {Z'} w1 h1=>function_any HK.out hm1.2.2.1 hm1.2.2.2.1 hm1.2.2.2.2 h1
              simp only [c3,if_true] at Cf
              have hT:tsl (iFunc en (q'.1,ps q'.2)).2<nl:=by rw [← enl];exact Nat.lt_of_succ_le (Nat.le_trans (Nat.succ_le_succ (l2_func HK.out.2.2.2 (q'.1,ps q'.2)).2) hL0)
              have HB:=Lib.hid (And.intro hN (And.intro hT (And.intro hlen enl)))
              have HH:=Lib.hid h
              clear h hk hN hT hts hn hf hL0 hS0 hm1 enl hlen c0 c1 c2 c3
              go_wp2_with (first | ((with_reducible refine (C6 _ HH.out).mono ?_);rintro e v0 ⟨rfl,p0⟩;obtain ⟨_,bl0,hl0⟩:=p0.ends;have HL0:=Lib.hid hl0;clear hl0) | ((with_reducible refine (Cg _ p0).mono ?_);rintro e v1 ⟨rfl,p1⟩;obtain ⟨_,bl1,hl1⟩:=p1.ends;have HL1:=Lib.hid hl1;clear hl1) | ((with_reducible refine (Cx _ p1).mono ?_);rintro e v2 ⟨rfl,p2⟩;obtain ⟨_,bl2,hl2⟩:=p2.ends;have HL2:=Lib.hid hl2;clear hl2) | ((with_reducible refine (Cf _ p2).mono ?_);rintro e v3 ⟨rfl,p3⟩;obtain ⟨_,bl3,hl3⟩:=p3.ends;have HL3:=Lib.hid hl3;clear hl3) | ((with_reducible refine (CC _ p3).mono ?_);rintro e v9 ⟨rfl,p9⟩))
              obtain ⟨_,_,hl9⟩:=p9.ends
              refine ⟨⟨_,k,p9,HB.out.1⟩,?_⟩
              rw [hl9,HB.out.2.2.1,HB.out.2.2.2]
              exact HB.out.2.1
            | false =>
              simp only [c3,Bool.false_eq_true,if_false] at Cf
              have hN:=hk.next (il_else hts c0 c1 c2 c3) (sz_bd 3 f q'.2) (by show 0+1≤_;omega) (Nat.le_succ _)
              have hT:tsl (bd 3 f q'.2)<nl:=by rw [← enl];show 0<_;omega
              have HB:=Lib.hid (And.intro hN (And.intro hT (And.intro hlen (And.intro enl hf))))
              have HH:=Lib.hid h
              clear h hk hN hT hts hn hf hL0 hS0 hm1 enl hlen c0 c1 c2 c3
              go_wp2_with (first | ((with_reducible refine (C6 _ HH.out).mono ?_);rintro e v0 ⟨rfl,p0⟩;obtain ⟨_,bl0,hl0⟩:=p0.ends;have HL0:=Lib.hid hl0;clear hl0) | ((with_reducible refine (Cg _ p0).mono ?_);rintro e v1 ⟨rfl,p1⟩;obtain ⟨_,bl1,hl1⟩:=p1.ends;have HL1:=Lib.hid hl1;clear hl1) | ((with_reducible refine (Cx _ p1).mono ?_);rintro e v2 ⟨rfl,p2⟩;obtain ⟨_,bl2,hl2⟩:=p2.ends;have HL2:=Lib.hid hl2;clear hl2) | ((with_reducible refine (Cf _ p2).mono ?_);rintro e v3 ⟨rfl,p3⟩;obtain ⟨_,bl3,hl3⟩:=p3.ends;have HL3:=Lib.hid hl3;clear hl3))
              go_region_law (first | (go_simp;(with_reducible refine (p3.drew.next).mono ?_);rintro e v5 ⟨rfl,p5⟩;have bl5:=p5.lt) | (go_simp;(with_reducible refine (p5.refuse3 _).mono ?_);rintro e v6 ⟨rfl,p6⟩))
              all_goals
                go_wp2_with fail
                rw [HB.out.2.2.2.2] at p6
                obtain ⟨_,_,hl9⟩:=p6.ends
                refine ⟨⟨_,k,p6,HB.out.1⟩,?_⟩
                rw [hl9,HB.out.2.2.1,HB.out.2.2.2.1]
                exact HB.out.2.1
end
end Go.Proofs.YtmmlfmplggbmiaaGreatDoor
namespace Go.Proofs.YtmmlfmplggbmiaaGreatDoor
set_option linter.unusedVariables false
set_option linter.unusedSimpArgs false
def toPS (s:RS):PS:=⟨s.ts,s.asked⟩
def Ref {α:Type} (v:α) (s':RS):Except Flt (α×PS)→Prop
  | .ok (a,q)=>v=a∧toPS s' = q∧s'.flt=none
  | .error f=>s'.flt=some f∧s'.ts=[]
def Dd (f:Flt) (s:RS):Prop:=s.flt=some f∧s.ts=[]
section
variable {α β:Type}
theorem Ref.bind {p:PM α} {g:α→PM β} {q:PS} {v:α} {s':RS} {w:β} {s2:RS} (h:Ref v s' (p q)) (k:s'.flt=none→Ref w s2 (g v (toPS s'))) (d:∀ f,Dd f s'→Dd f s2):Ref w s2 ((p >>= g) q):=by
  show Ref w s2 (p q >>= fun x=>g x.1 x.2)
  cases hp:p q with
  | error e =>
    rw [hp] at h
    exact d e h
  | ok x =>
    obtain ⟨a,q1⟩:=x
    rw [hp] at h
    obtain ⟨rfl,rfl,hf⟩:=h
    exact k hf
theorem Ref.pure {s:RS} (h:s.flt=none) (v:α):Ref v s ((Pure.pure v:PM α) (toPS s)):=⟨rfl,rfl,h⟩
theorem Ref.bad {s:RS} (h:s.flt=none) (v:α) (c:Nat) (t:Tok):Ref v (bd c t s) ((qBad c t:PM α) (toPS s)):=⟨by unfold bd;rw [h];rfl,rfl⟩
theorem Ref.bad' {s s':RS} {c:Nat} {t:Tok} (h:s'.flt=some (fltAt c t)∧s'.ts=[]) (v:α):Ref v s' ((qBad c t:PM α) (toPS s)):=h
theorem Ref.next {s:RS} (h:s.flt=none) (en:Tok):Ref (nx en s) s (qNext en (toPS s)):=⟨rfl,rfl,h⟩
theorem Ref.pass {s:RS} (h:s.flt=none):Ref () (ps s) (qPass (toPS s)):=⟨rfl,rfl,h⟩
theorem Ref.ite {c:Prop} [Decidable c] {p q:PM α} {v:α} {s s':RS} (h:c→Ref v s' (p (toPS s))) (k:¬ c→Ref v s' (q (toPS s))):Ref v s' ((if c then p else q) (toPS s)):=by
  by_cases e:c
  · rw [if_pos e];exact h e
  · rw [if_neg e];exact k e
end
/-! Behind a fault. -/
theorem dd_ps {f:Flt} {s:RS} (h:Dd f s):Dd f (ps s):=⟨h.1,by unfold ps;rw [h.2];rfl⟩
theorem dd_bd {f:Flt} {s:RS} (h:Dd f s) (c:Nat) (t:Tok):Dd f (bd c t s):=⟨by unfold bd;rw [h.1];rfl,rfl⟩
theorem dd_ask {f:Flt} {s:RS} (h:Dd f s) (t:Tok):Dd f (sAsk t s):=⟨h.1,h.2⟩
theorem dd_this {f:Flt} {s:RS} (h:Dd f s) (en:Tok) (k:Nat) (b:Tx):Dd f (sThis en k b s):=by
  unfold sThis;split
  · exact dd_ps h
  · exact dd_bd h _ _
theorem dd_want {f:Flt} {s:RS} (h:Dd f s) (en:Tok) (k:Nat):Dd f (sWant en k s):=by
  unfold sWant;split
  · exact dd_ps h
  · exact dd_ps (dd_bd h _ _)
theorem dd_passed {f:Flt} {s:RS} (h:Dd f s) (en:Tok) (k:Nat) (b:Tx):Dd f (sPassed en k b s):=by
  unfold sPassed;split
  · exact dd_ps h
  · exact h
theorem dd_block {f:Flt} {s:RS} (h:Dd f s) (en:Tok):Dd f (sBlock en s):=by
  unfold sBlock;split
  · exact dd_ps h
  · exact dd_ps (dd_bd h _ _)
theorem dd_type {f:Flt} {s:RS} (h:Dd f s) (en:Tok):Dd f (sType en s):=by
  unfold sType;split
  · exact dd_want h _ _
  · exact dd_bd (dd_want h _ _) _ _
theorem dd_size {f:Flt} {s:RS} (h:Dd f s) (en:Tok):Dd f (sSize en s):=by
  unfold sSize;split
  · exact dd_bd (dd_want h _ _) _ _
  · exact dd_want h _ _
theorem dd_operand {f:Flt} {s:RS} (h:Dd f s) (en:Tok):Dd f (sOperand en s):=by
  unfold sOperand;split
  · exact dd_ps h
  split
  · exact dd_ps (dd_ask h _)
  split
  · exact dd_ps h
  · exact dd_ps (dd_bd h _ _)
theorem dd_ops {f:Flt} (en:Tok):∀ (k:Nat) {s:RS},Dd f s→Dd f (sOps en k s)
  | 0,_,h=>h
  | k+1,_,h=>dd_ops en k (dd_operand (dd_this h _ _ _) _)
theorem dd_operands {f:Flt} (en:Tok) {k:Nat} {s:RS} (h:Dd f s):Dd f (sOperands en k s):=by
  cases k with
  | zero=>exact h
  | succ k=>exact dd_ops en k (dd_operand h _)
theorem dd_more {β:Type} {f:Flt} {en:Tok} {item:β×RS→β×RS} (hi:∀ p,Dd f p.2→Dd f (item p).2):∀ (k:Nat) (p:β×RS),Dd f p.2→Dd f (sMore en item k p).2
  | 0,_,h=>h
  | k+1,p,h=>by
    unfold sMore
    split
    · exact dd_more hi k _ (hi _ (dd_ps h))
    · exact h
theorem dd_commas {β:Type} {f:Flt} {en:Tok} {item:β×RS→β×RS} (hi:∀ p,Dd f p.2→Dd f (item p).2) (p:β×RS) (h:Dd f p.2):Dd f (sCommas en item p).2:=dd_more hi _ _ (hi p h)
theorem dd_brackets {β:Type} {f:Flt} {en:Tok} {item:β×RS→β×RS} (hi:∀ p,Dd f p.2→Dd f (item p).2) (p:β×RS) (h:Dd f p.2):Dd f (sBrackets en item p).2:=by
  unfold sBrackets
  split
  · exact dd_ps (dd_this h _ _ _)
  · exact dd_this (dd_commas hi (p.1,_) (dd_this h _ _ _)) _ _ _
theorem dd_flags {f:Flt} {s:RS} (h:Dd f s) (en:Tok):Dd f (sFlags en s):=dd_passed (dd_passed (dd_passed h _ _ _) _ _ _) _ _ _
theorem dd_arg {f:Flt} {en:Tok} (p:PIns×RS) (h:Dd f p.2):Dd f (iArg en p).2:=dd_operand h _
theorem dd_tg {f:Flt} {en:Tok} (p:PIns×RS) (h:Dd f p.2):Dd f (iTg en p).2:=dd_block h _
theorem dd_pair {f:Flt} {en:Tok} (p:PIns×RS) (h:Dd f p.2):Dd f (iPair en p).2:=dd_arg _ (dd_tg _ h)
theorem dd_args {f:Flt} {en:Tok} {n:Nat} (p:PIns×RS) (h:Dd f p.2):Dd f (iArgs en n p).2:=dd_operands en h
theorem dd_typed {f:Flt} {en:Tok} {n:Nat} (p:PIns×RS) (h:Dd f p.2):Dd f (iTyped en n p).2:=dd_args _ (dd_type h _)
theorem dd_phi {f:Flt} {en:Tok} (p:PIns×RS) (h:Dd f p.2):Dd f (iPhi en p).2:=by
  unfold iPhi
  by_cases k:(nx en (sType en p.2)).kind=6
  · rw [if_pos k];exact dd_type h _
  · rw [if_neg k];exact dd_commas (fun p d=>dd_pair p d) _ (dd_type h _)
theorem dd_form {f:Flt} {en:Tok} (p:PIns×RS) (h:Dd f p.2):Dd f (iForm en p).2:=by
  unfold iForm
  by_cases c:20≤p.1.op∧p.1.op≤22
  · rw [if_pos c]
    exact dd_type (dd_this (dd_arg _ (dd_type h _)) _ _ _) _
  rw [if_neg c]
  by_cases c:p.1.op=23
  · rw [if_pos c]
    exact dd_typed _ h
  rw [if_neg c]
  by_cases c:p.1.op=24∨p.1.op=27
  · rw [if_pos c]
    exact dd_typed _ h
  rw [if_neg c]
  by_cases c:p.1.op=25
  · rw [if_pos c]
    exact dd_phi p h
  rw [if_neg c]
  by_cases c:p.1.op=26
  · rw [if_pos c]
    exact dd_size h _
  rw [if_neg c]
  by_cases c:p.1.op=29
  · rw [if_pos c]
    exact dd_args _ h
  rw [if_neg c]
  by_cases c:p.1.op=30
  · rw [if_pos c]
    exact dd_brackets (fun p d=>dd_arg p d) _ (dd_ask (dd_want h _ _) _)
  rw [if_neg c]
  by_cases c:p.1.op=32
  · rw [if_pos c]
    exact dd_tg _ (dd_this (dd_tg _ (dd_this (dd_arg _ h) _ _ _)) _ _ _)
  rw [if_neg c]
  by_cases c:p.1.op=31
  · rw [if_pos c]
    exact dd_tg _ h
  rw [if_neg c]
  by_cases c:p.1.op=33
  · rw [if_pos c]
    by_cases k:(nx en p.2).kind≠6
    · rw [if_pos k];exact dd_typed _ h
    · rw [if_neg k];exact h
  rw [if_neg c]
  by_cases c:p.1.op=34
  · rw [if_pos c]
    exact h
  rw [if_neg c]
  by_cases c:p.1.op≤13
  · rw [if_pos c]
    exact dd_typed _ (dd_flags h _)
  rw [if_neg c]
  exact dd_typed _ h
theorem dd_reg {f:Flt} {s:RS} (h:Dd f s) (en:Tok):Dd f (sReg en s):=by
  unfold sReg;split
  · exact dd_this (dd_want h _ _) _ _ _
  · exact h
theorem dd_word {f:Flt} {s:RS} (h:Dd f s) (en:Tok) (r:Int):Dd f (sWord en r s):=by
  unfold sWord;split
  · exact dd_ps h
  · exact dd_ps (dd_bd h _ _)
theorem dd_instr {f:Flt} {s:RS} (h:Dd f s) (en:Tok):Dd f (iInstr en s).2:=dd_want (dd_form _ (dd_word (dd_reg h _) _ _)) _ _
theorem dd_bdIf {f:Flt} {s:RS} (h:Dd f s) (en:Tok) (c:Prop) [Decidable c] (k:Nat):Dd f (bdIf c k en s):=by
  unfold bdIf;split
  · exact dd_bd h _ _
  · exact h
theorem dd_body {f:Flt} (en:Tok) (k:Nat) (p:List (List PIns)×RS) (h:Dd f p.2):Dd f (iBody en k p).2:=by
  cases k with
  | zero=>exact dd_bd h _ _
  | succ k =>
    unfold iBody
    simp only [h.2]
    exact dd_bd h _ _
theorem dd_param {f:Flt} {en:Tok} (p:List Int×RS) (h:Dd f p.2):Dd f (iParam en p).2:=by
  unfold iParam
  dsimp only
  split
  · exact dd_bd (dd_type h _) _ _
  · exact dd_type h _
theorem dd_types {f:Flt} {s:RS} (h:Dd f s) (en:Tok):Dd f (sTypes en s):=dd_type (dd_brackets dd_param ([],s) h) _
theorem dd_name {f:Flt} {s:RS} (h:Dd f s) (en:Tok) (full:Bool) (told:Tx→Bool):Dd f (sName en full told s):=by
  unfold sName
  dsimp only
  split
  · refine dd_bd ?_ _ _
    split
    · exact dd_bd (dd_want h _ _) _ _
    · exact dd_want h _ _
  · split
    · exact dd_bd (dd_want h _ _) _ _
    · exact dd_want h _ _
/-! Without a fault. -/
section
variable {s:RS} {en:Tok}
theorem ref_this (h:s.flt=none) (k:Nat) (b:Tx):Ref () (sThis en k b s) (qThis en k b (toPS s)):=by
  unfold qThis
  refine (Ref.next h en).bind (fun _=>?_) (fun f d=>dd_this d _ _ _)
  refine Ref.ite (fun e=>?_) (fun e=>?_)
  · rw [show sThis en k b s=ps s from if_pos e];exact Ref.pass h
  · rw [show sThis en k b s=bd 3 (nx en s) s from if_neg e];exact Ref.bad h _ _ _
theorem ref_want (h:s.flt=none) (k:Nat):Ref (nx en s) (sWant en k s) (qWant en k (toPS s)):=by
  unfold qWant
  refine (Ref.next h en).bind (fun _=>?_) (fun f d=>dd_want d _ _)
  refine Ref.ite (fun e=>?_) (fun e=>?_)
  · rw [show sWant en k s=ps s from if_pos (by simpa using e)]
    exact (Ref.pass h).bind (fun h2=>Ref.pure h2 _) (fun f d=>d)
  · rw [show sWant en k s=ps (bd 3 (nx en s) s) from if_neg (by simpa using e)]
    exact Ref.bad' (dd_ps (f:=fltAt 3 (nx en s)) (Ref.bad (α:=Unit) h () 3 (nx en s))) _
theorem ref_end (h:s.flt=none):Ref () (sWant en 6 s) (qLineEnd en (toPS s)):=by
  unfold qLineEnd
  exact (ref_want h 6).bind (fun h2=>Ref.pure h2 ()) (fun f d=>d)
theorem ref_passed (h:s.flt=none) (k:Nat) (b:Tx):Ref (isTk k b (nx en s)) (sPassed en k b s) (qPassed en k b (toPS s)):=by
  unfold qPassed
  refine (Ref.next h en).bind (fun _=>?_) (fun f d=>dd_passed d _ _ _)
  refine Ref.ite (fun e=>?_) (fun e=>?_)
  · rw [show sPassed en k b s=ps s from if_pos e,e]
    exact (Ref.pass h).bind (fun h2=>Ref.pure h2 _) (fun f d=>d)
  · rw [show sPassed en k b s=s from if_neg e,Bool.eq_false_iff.2 e]
    exact Ref.pure h _
theorem ref_block (h:s.flt=none):Ref (vBlock en s) (sBlock en s) (qBlock en (toPS s)):=by
  unfold qBlock
  refine (Ref.next h en).bind (fun _=>?_) (fun f d=>dd_block d _)
  unfold vBlock sBlock
  cases e:blockOfP (nx en s) with
  | some n =>
    rw [if_pos (show (some n).isSome=true from rfl)]
    exact (Ref.pass h).bind (fun h2=>Ref.pure h2 _) (fun f d=>d)
  | none =>
    rw [if_neg (show ¬ (none:Option Nat).isSome=true by simp)]
    exact Ref.bad' (dd_ps (f:=fltAt 3 (nx en s)) (Ref.bad (α:=Unit) h () 3 (nx en s))) _
theorem ref_type (h:s.flt=none):Ref (vType en s) (sType en s) (qType en (toPS s)):=by
  unfold qType
  refine (ref_want h 1).bind (fun h1=>?_) (fun f d=>?_)
  · unfold vType sType
    cases e:typeOfP (nx en s).body with
    | some n=>rw [if_pos (show (some n).isSome=true from rfl)];exact Ref.pure h1 _
    | none=>rw [if_neg (show ¬ (none:Option Nat).isSome=true by simp)];exact Ref.bad h1 _ _ _
  · unfold sType;split
    · exact d
    · exact dd_bd d _ _
theorem num_small {n:Nat} (h:¬ 64<n):Go.IntKind.i64.wrap (n:Int)=(n:Int):=by
  have h2:n≤64:=Nat.le_of_not_lt h
  have:∀ j:Fin 65,Go.IntKind.i64.wrap (j.val:Int)=(j.val:Int):=by decide
  exact this ⟨n,Nat.lt_succ_of_le h2⟩
theorem ref_size (h:s.flt=none):Ref (vSize en s) (sSize en s) (qSize en (toPS s)):=by
  unfold qSize
  refine (ref_want h 2).bind (fun h1=>?_) (fun f d=>?_)
  · unfold vSize sSize
    refine Ref.ite (fun e=>?_) (fun e=>?_)
    · rw [if_pos e];exact Ref.bad h1 _ _ _
    · rw [if_neg e,num_small (fun k=>e (.inr k))];exact Ref.pure h1 _
  · unfold sSize;split
    · exact dd_bd d _ _
    · exact d
theorem ref_ask (h:s.flt=none) (t:Tok):Ref (s.asked.length:Int) (sAsk t s) (qAsk t (toPS s)):=⟨rfl,rfl,h⟩
theorem ref_operand (h:s.flt=none):Ref (vOperand en s) (sOperand en s) (qOperand en (toPS s)):=by
  unfold qOperand
  refine (Ref.next h en).bind (fun _=>?_) (fun f d=>dd_operand d _)
  unfold vOperand sOperand
  refine Ref.ite (fun e=>?_) (fun e=>?_)
  · have e:=of_decide_eq_true e
    rw [if_pos e,if_pos (.inl e)]
    exact (Ref.pass h).bind (fun h2=>Ref.pure h2 _) (fun f d=>d)
  have e:=of_decide_eq_false (Bool.eq_false_iff.2 e)
  rw [if_neg e]
  refine Ref.ite (fun e2=>?_) (fun e2=>?_)
  · have e2:=of_decide_eq_true e2
    rw [if_pos e2,if_pos (.inr e2)]
    exact (Ref.pass h).bind (fun h2=>Ref.pure h2 _) (fun f d=>d)
  have e2:=of_decide_eq_false (Bool.eq_false_iff.2 e2)
  rw [if_neg e2,if_neg (show ¬ ((nx en s).kind=3∨(nx en s).kind=2) from fun k=>k.elim e e2)]
  refine Ref.ite (fun e3=>?_) (fun e3=>?_)
  · have e3:=of_decide_eq_true e3
    rw [if_pos e3,if_pos e3]
    exact (ref_ask h _).bind (fun h2=>(Ref.pass h2).bind (fun h3=>Ref.pure h3 _) (fun f d=>d)) (fun f d=>dd_ps d)
  have e3:=of_decide_eq_false (Bool.eq_false_iff.2 e3)
  rw [if_neg e3,if_neg e3]
  refine Ref.ite (fun e4=>?_) (fun e4=>?_)
  · rw [if_pos e4,if_pos (.inl e4)]
    exact (Ref.pass h).bind (fun h2=>Ref.pure h2 _) (fun f d=>d)
  rw [if_neg e4]
  refine Ref.ite (fun e5=>?_) (fun e5=>?_)
  · rw [if_pos e5,if_pos (.inr e5)]
    exact (Ref.pass h).bind (fun h2=>Ref.pure h2 _) (fun f d=>d)
  rw [if_neg e5,if_neg (show ¬ (isTk 1 [112,111,105,115,111,110] (nx en s)=true∨isTk 1 [110,117,108,108] (nx en s)=true) from fun k=>k.elim e4 e5)]
  exact Ref.bad' (dd_ps (f:=fltAt 3 (nx en s)) (Ref.bad (α:=Unit) h () 3 (nx en s))) _
end
theorem Ref.get {β:Type} {g:PS→PM β} {s s2:RS} {w:β} (h:Ref w s2 (g (toPS s) (toPS s))):Ref w s2 ((get >>= g) (toPS s)):=h
theorem ref_of {α:Type} {v w:α} {s t:RS} {r:Except Flt (α×PS)} (h:Ref v s r) (hv:v=w) (hs:s=t):Ref w t r:=by subst hv hs;exact h
structure Itm {α β:Type} (put:List α→β) (q:List α→PM α) (i:β×RS→β×RS) (v:List α→RS→α) (t:List α→RS→RS):Prop where
  is:∀ acc s,i (put acc,s)=(put (acc++[v acc s]),t acc s)
  ref:∀ acc s,s.flt=none→Ref (v acc s) (t acc s) (q acc (toPS s))
  dd:∀ f p,Dd f p.2→Dd f (i p).2
section
variable {α β:Type}
def lMore (en:Tok) (v:List α→RS→α) (t:List α→RS→RS):Nat→List α→RS→List α
  | 0,acc,s=>acc
  | k+1,acc,s=>if isTk 5 [44] (nx en s) then lMore en v t k (acc++[v acc (ps s)]) (t acc (ps s)) else acc
variable {en:Tok} {put:List α→β} {q:List α→PM α} {i:β×RS→β×RS} {v:List α→RS→α} {t:List α→RS→RS} (hI:Itm put q i v t)
include hI
theorem more_put:∀ k acc s,(sMore en i k (put acc,s)).1=put (lMore en v t k acc s):=by
  intro k
  induction k with
  | zero=>intro acc s;rfl
  | succ k ih =>
    intro acc s
    unfold sMore lMore
    dsimp only
    by_cases e:isTk 5 [44] (nx en s)=true
    · rw [if_pos e,if_pos e,hI.is,ih]
    · rw [if_neg e,if_neg e]
theorem ref_more:∀ k acc s,s.flt=none→Ref (lMore en v t k acc s) (sMore en i k (put acc,s)).2 (qMore en q k acc (toPS s)):=by
  intro k
  induction k with
  | zero=>intro acc s h;exact Ref.pure h _
  | succ k ih =>
    intro acc s h
    unfold qMore
    refine (ref_passed h 5 [44]).bind (fun h2=>?_) (fun f d=>?_)
    · unfold sMore lMore
      dsimp only
      by_cases e:isTk 5 [44] (nx en s)=true
      · rw [if_pos e,if_pos e,hI.is]
        have es:sPassed en 5 [44] s=ps s:=if_pos e
        rw [es] at h2 ⊢
        rw [e,if_pos rfl]
        exact (hI.ref acc (ps s) h2).bind (fun h3=>ih _ _ h3) (fun f d=>dd_more (fun p hp=>hI.dd f p hp) k _ d)
      · have es:sPassed en 5 [44] s=s:=if_neg e
        rw [es] at h2 ⊢
        rw [if_neg e,if_neg e,if_neg e]
        exact Ref.pure h2 _
    · by_cases e:isTk 5 [44] (nx en s)=true
      · have es:sPassed en 5 [44] s=ps s:=if_pos e
        rw [es] at d
        unfold sMore
        dsimp only
        rw [if_pos e]
        exact dd_more (fun p hp=>hI.dd f p hp) k _ (hI.dd f _ d)
      · have es:sPassed en 5 [44] s=s:=if_neg e
        rw [es] at d
        exact dd_more (fun p hp=>hI.dd f p hp) (k+1) _ d
def lCommas (en:Tok) (v:List α→RS→α) (t:List α→RS→RS) (s:RS):List α:=lMore en v t ((t [] s).ts.length+1) [v [] s] (t [] s)
theorem commas_put (s:RS):(sCommas en i (put [],s)).1=put (lCommas en v t s):=by
  unfold sCommas
  rw [hI.is]
  exact more_put hI _ _ _
theorem ref_commas {s:RS} (h:s.flt=none):Ref (lCommas en v t s) (sCommas en i (put [],s)).2 (qCommas en q (toPS s)):=by
  unfold sCommas qCommas
  rw [hI.is]
  exact (hI.ref [] s h).bind (fun h2=>Ref.get (ref_more hI _ _ _ h2)) (fun f d=>dd_more (fun p hp=>hI.dd f p hp) _ _ d)
def lBrackets (en:Tok) (v:List α→RS→α) (t:List α→RS→RS) (s:RS):List α :=
  if isTk 5 [41] (nx en (sThis en 5 [40] s)) then [] else lCommas en v t (sThis en 5 [40] s)
theorem brackets_put (s:RS):(sBrackets en i (put [],s)).1=put (lBrackets en v t s):=by
  unfold sBrackets lBrackets
  dsimp only
  split
  · rfl
  · exact commas_put hI _
theorem ref_brackets {s:RS} (h:s.flt=none):Ref (lBrackets en v t s) (sBrackets en i (put [],s)).2 (qBrackets en q (toPS s)):=by
  unfold qBrackets
  refine (ref_this h 5 [40]).bind (fun h2=>?_) (fun f d=>?_)
  · refine (ref_passed h2 5 [41]).bind (fun h3=>?_) (fun f d=>?_)
    · unfold sBrackets lBrackets
      dsimp only
      by_cases e:isTk 5 [41] (nx en (sThis en 5 [40] s))=true
      · have es:sPassed en 5 [41] (sThis en 5 [40] s)=ps (sThis en 5 [40] s):=if_pos e
        rw [es] at h3 ⊢
        rw [if_pos e,if_pos e,if_pos e]
        exact Ref.pure h3 _
      · have es:sPassed en 5 [41] (sThis en 5 [40] s)=sThis en 5 [40] s:=if_neg e
        rw [es] at h3 ⊢
        rw [if_neg e,if_neg e,if_neg e]
        exact (ref_commas hI h3).bind (fun h4=>(ref_this h4 5 [41]).bind (fun h5=>Ref.pure h5 _) (fun f d=>d)) (fun f d=>dd_this d _ _ _)
    · unfold sBrackets
      dsimp only
      by_cases e:isTk 5 [41] (nx en (sThis en 5 [40] s))=true
      · rw [if_pos e]
        rw [show sPassed en 5 [41] (sThis en 5 [40] s)=ps (sThis en 5 [40] s) from if_pos e] at d
        exact d
      · rw [if_neg e]
        rw [show sPassed en 5 [41] (sThis en 5 [40] s)=sThis en 5 [40] s from if_neg e] at d
        exact dd_this (dd_commas (fun p hp=>hI.dd f p hp) _ d) _ _ _
  · have d2:Dd f (sBrackets en i (put [],s)).2:=by
      unfold sBrackets
      dsimp only
      split
      · exact dd_ps d
      · exact dd_this (dd_commas (fun p hp=>hI.dd f p hp) _ d) _ _ _
    exact d2
end
section
variable {s:RS} {en:Tok}
theorem ref_operands:∀ (n:Nat) {s:RS},s.flt=none→Ref (vOperands en n s) (sOperands en n s) (qOperands en n (toPS s))
  | 0,s,h=>Ref.pure h []
  | 1,s,h=>(ref_operand h).bind (fun h2=>Ref.pure h2 _) (fun f d=>d)
  | k + 2,s,h=>(ref_operand h).bind
      (fun h2=>(ref_this h2 5 [44]).bind (fun h3=>(ref_operands (k+1) h3).bind (fun h4=>Ref.pure h4 _) (fun f d=>d)) (fun f d=>dd_operands (k:=k+1) en d))
      (fun f d=>dd_operands (k:=k+1) en (dd_this d _ _ _))
theorem ref_flags (h:s.flt=none):Ref (vFlags en s) (sFlags en s) (qFlags en (toPS s)):=by
  unfold qFlags
  exact (ref_passed h _ _).bind (fun h2=>(ref_passed h2 _ _).bind (fun h3=>(ref_passed h3 _ _).bind (fun h4=>Ref.pure h4 _) (fun f d=>d)) (fun f d=>dd_passed d _ _ _)) (fun f d=>dd_passed (dd_passed d _ _ _) _ _ _)
theorem ref_typed {x:PIns} (hx:x.args=[]) (n:Nat) (h:s.flt=none):Ref (iTyped en n (x,s)).1 (iTyped en n (x,s)).2 (qTyped en x n (toPS s)):=by
  unfold qTyped
  refine (ref_type h).bind (fun h2=>(ref_operands n h2).bind (fun h3=>ref_of (Ref.pure h3 _) ?_ rfl) (fun f d=>d)) (fun f d=>dd_operands en d)
  unfold iTyped iArgs
  simp [hx]
end
section
variable {s:RS} {en:Tok}
theorem itm_arg (x:PIns):Itm (fun l:List Arg=>{ x with args:=l }) (fun _=>qOperand en) (iArg en) (fun _ s=>vOperand en s) (fun _ s=>sOperand en s) where
  is:=fun acc s=>rfl
  ref:=fun acc s h=>ref_operand h
  dd:=fun f p d=>dd_arg p d
theorem itm_pair (x:PIns):Itm (fun l:List (Int×Arg)=>{ x with tg:=l.map Prod.fst,args:=l.map Prod.snd }) (fun _=>(do let b ← qBlock en;let a ← qOperand en;return (b,a):PM (Int×Arg))) (iPair en)
    (fun _ s=>(vBlock en s,vOperand en (sBlock en s))) (fun _ s=>sOperand en (sBlock en s)) where
  is:=fun acc s=>by simp [iPair,iArg,iTg]
  ref:=fun acc s h=>(ref_block h).bind (fun h2=>(ref_operand h2).bind (fun h3=>Ref.pure h3 _) (fun f d=>d)) (fun f d=>dd_operand d _)
  dd:=fun f p d=>dd_pair p d
theorem ref_form (op r:Int) (h:s.flt=none):Ref (iForm en (⟨op,r,0,0,0,[],[]⟩,s)).1 (iForm en (⟨op,r,0,0,0,[],[]⟩,s)).2 (qForm en ⟨op,r,0,0,0,[],[]⟩ (toPS s)):=by
  unfold qForm iForm
  dsimp only
  refine Ref.ite (fun e=>?_) (fun e=>?_)
  · rw [if_pos e]
    exact (ref_type h).bind (fun h1=>(ref_operand h1).bind (fun h2=>(ref_this h2 1 _).bind (fun h3=>(ref_type h3).bind (fun h4=>Ref.pure h4 _) (fun f d=>d)) (fun f d=>dd_type d _)) (fun f d=>dd_type (dd_this d _ _ _) _)) (fun f d=>dd_type (dd_this (dd_operand d _) _ _ _) _)
  rw [if_neg e]
  refine Ref.ite (fun e=>?_) (fun e=>?_)
  · rw [if_pos e]
    exact ref_typed (x:=⟨op,r,0,0,0,[],[]⟩) rfl 3 h
  rw [if_neg e]
  refine Ref.ite (fun e=>?_) (fun e=>?_)
  · rw [if_pos e]
    exact ref_typed (x:=⟨op,r,0,0,0,[],[]⟩) rfl 1 h
  rw [if_neg e]
  refine Ref.ite (fun e=>?_) (fun e=>?_)
  · rw [if_pos e]
    refine (ref_type h).bind (fun h1=>(Ref.next h1 en).bind (fun h2=>?_) (fun f d=>?_)) (fun f d=>?_)
    · refine Ref.ite (fun e2=>?_) (fun e2=>?_)
      · have e2:=of_decide_eq_true e2
        unfold iPhi
        dsimp only
        rw [if_pos e2]
        exact Ref.pure h2 _
      · have e2:=of_decide_eq_false (Bool.eq_false_iff.2 e2)
        unfold iPhi
        dsimp only
        rw [if_neg e2]
        have hI:=itm_pair (en:=en) ⟨op,r,vType en s,0,0,[],[]⟩
        refine (ref_commas hI h2).bind (fun h3=>ref_of (Ref.pure h3 _) ?_ rfl) (fun f d=>d)
        exact (commas_put hI (sType en s)).symm
    all_goals
      unfold iPhi
      dsimp only
      split
      · exact d
      · exact dd_commas (fun p hp=>dd_pair p hp) _ d
  rw [if_neg e]
  refine Ref.ite (fun e=>?_) (fun e=>?_)
  · rw [if_pos e]
    exact (ref_size h).bind (fun h1=>Ref.pure h1 _) (fun f d=>d)
  rw [if_neg e]
  refine Ref.ite (fun e=>?_) (fun e=>?_)
  · rw [if_pos e]
    exact (ref_operands 2 h).bind (fun h1=>Ref.pure h1 _) (fun f d=>d)
  rw [if_neg e]
  refine Ref.ite (fun e=>?_) (fun e=>?_)
  · rw [if_pos e]
    have hI:=itm_arg (en:=en) ⟨op,r,0,(sWant en 1 s).asked.length,0,[],[]⟩
    refine (ref_want h 1).bind (fun h1=>(ref_ask h1 _).bind (fun h2=>(ref_brackets hI h2).bind (fun h3=>ref_of (Ref.pure h3 _) ?_ rfl) (fun f d=>d)) (fun f d=>?_)) (fun f d=>?_)
    · exact (brackets_put hI (sAsk (nx en s) (sWant en 1 s))).symm
    · exact dd_brackets (fun p hp=>dd_arg p hp) _ d
    · exact dd_brackets (fun p hp=>dd_arg p hp) _ (dd_ask d _)
  rw [if_neg e]
  refine Ref.ite (fun e=>?_) (fun e=>?_)
  · rw [if_pos e]
    exact (ref_operand h).bind (fun h1=>(ref_this h1 5 [44]).bind (fun h2=>(ref_block h2).bind (fun h3=>(ref_this h3 5 [44]).bind (fun h4=>(ref_block h4).bind (fun h5=>Ref.pure h5 _) (fun f d=>d)) (fun f d=>dd_block d _)) (fun f d=>dd_block (dd_this d _ _ _) _)) (fun f d=>dd_block (dd_this (dd_block d _) _ _ _) _))
      (fun f d=>dd_block (dd_this (dd_block (dd_this d _ _ _) _) _ _ _) _)
  rw [if_neg e]
  refine Ref.ite (fun e=>?_) (fun e=>?_)
  · rw [if_pos e]
    exact (ref_block h).bind (fun h1=>Ref.pure h1 _) (fun f d=>d)
  rw [if_neg e]
  refine Ref.ite (fun e=>?_) (fun e=>?_)
  · rw [if_pos e]
    refine (Ref.next h en).bind (fun h2=>?_) (fun f d=>?_)
    · refine Ref.ite (fun e2=>?_) (fun e2=>?_)
      · have e2:=of_decide_eq_true e2
        rw [if_neg (fun k=>k e2)]
        exact Ref.pure h2 _
      · have e2:=of_decide_eq_false (Bool.eq_false_iff.2 e2)
        rw [if_pos e2]
        exact ref_typed (x:=⟨op,r,0,0,0,[],[]⟩) rfl 1 h2
    · split
      · exact dd_typed _ d
      · exact d
  rw [if_neg e]
  refine Ref.ite (fun e=>?_) (fun e=>?_)
  · rw [if_pos e]
    exact Ref.pure h _
  rw [if_neg e]
  by_cases e:op≤13
  · rw [if_pos e,if_pos e]
    exact (ref_flags h).bind (fun h2=>ref_typed (x:=⟨op,r,0,0,vFlags en s,[],[]⟩) rfl 2 h2) (fun f d=>dd_typed _ d)
  · rw [if_neg e,if_neg e]
    exact ref_typed (x:=⟨op,r,0,0,0,[],[]⟩) rfl 2 h
end
theorem dd_formS {f:Flt} {en:Tok} {x:PIns} {s:RS} (h:Dd f s):Dd f (iForm en (x,s)).2:=dd_form (x,s) h
theorem stands_iff (n:Nat) (r:Int):standsP n r=true↔(n=30∨n≠0∧idleB n=decide (0≤r)):=by
  unfold standsP
  simp only [Bool.or_eq_true,Bool.and_eq_true,decide_eq_true_eq,beq_iff_eq]
  constructor
  · rintro (h | ⟨h1,h2⟩)
    · exact .inl (by omega)
    · exact .inr ⟨by omega,h2⟩
  · rintro (h | ⟨h1,h2⟩)
    · exact .inl (by omega)
    · exact .inr ⟨by omega,h2⟩
theorem bad_dd {s:RS} (h:s.flt=none) (c:Nat) (t:Tok):Dd (fltAt c t) (bd c t s):=Ref.bad (α:=Unit) h () c t
section
variable {s:RS} {en:Tok}
theorem ref_reg3 (h:s.flt=none) (e:((nx en s).kind==3)=true):Ref (vReg en s) (sReg en s) ((do qPass;qMark en 61;pure (numOf (nx en s):Int):PM Int) (toPS s)):=by
  have e:=of_decide_eq_true e
  unfold vReg sReg
  rw [if_pos e,if_pos e,show sWant en 3 s=ps s from if_pos e]
  exact (Ref.pass h).bind (fun h2=>(ref_this h2 5 [61]).bind (fun h3=>Ref.pure h3 _) (fun f d=>d)) (fun f d=>dd_this d _ _ _)
theorem ref_reg0 (h:s.flt=none) (e:¬ ((nx en s).kind==3)=true):Ref (vReg en s) (sReg en s) ((pure (-1):PM Int) (toPS s)):=by
  have e:=of_decide_eq_false (Bool.eq_false_iff.2 e)
  unfold vReg sReg
  rw [if_neg e,if_neg e]
  exact Ref.pure h _
theorem ref_instr (h:s.flt=none):Ref (iInstr en s).1 (iInstr en s).2 (qInstr en (toPS s)):=by
  unfold qInstr
  refine (Ref.next h en).bind (fun _=>?_) (fun f d=>dd_instr d _)
  refine Ref.ite (fun e=>(ref_reg3 h e).bind (fun h1=>?_) (fun f d=>dd_want (dd_formS (dd_word d _ _)) _ _)) (fun e=>(ref_reg0 h e).bind (fun h1=>?_) (fun f d=>dd_want (dd_formS (dd_word d _ _)) _ _))
  all_goals
    refine (Ref.next h1 en).bind (fun _=>?_) (fun f d=>dd_want (dd_formS (dd_word d _ _)) _ _)
    unfold iInstr
    dsimp only
    by_cases c:standsP (opOfP (nx en (sReg en s))) (vReg en s)=true
    · rw [if_neg (not_not_intro ((stands_iff _ _).1 c))]
      rw [show sWord en (vReg en s) (sReg en s)=ps (sReg en s) from congrArg ps (if_pos c)]
      exact (Ref.pass h1).bind (fun h2=>(ref_form _ _ h2).bind (fun h3=>(ref_end h3).bind (fun h4=>Ref.pure h4 _) (fun f d=>d)) (fun f d=>dd_want d _ _)) (fun f d=>dd_want (dd_formS d) _ _)
    · rw [if_pos (fun k=>c ((stands_iff _ _).2 k))]
      rw [show sWord en (vReg en s) (sReg en s)=ps (bd 3 (nx en (sReg en s)) (sReg en s)) from congrArg ps (if_neg c)]
      exact dd_want (dd_formS (dd_ps (bad_dd h1 3 _))) _ _
theorem ref_label (h:s.flt=none) (bs:List (List PIns)) (n:Nat):Ref () (sLabel en bs.length n s) (qLabel en (nx en s) bs n (toPS s)):=by
  unfold qLabel
  by_cases c:bs.length=64
  · rw [if_pos c]
    have hd:Dd (fltAt 6 (nx en s)) (bdIf (bs.length=64) 6 en s):=by unfold bdIf;rw [if_pos c];exact bad_dd h 6 _
    exact dd_want (dd_this (dd_ps (dd_bdIf hd _ _ _)) _ _ _) _ _
  rw [if_neg c]
  have hs:bdIf (bs.length=64) 6 en s=s:=if_neg c
  by_cases c2:n≠bs.length
  · rw [if_pos c2]
    have hd:Dd (fltAt 8 (nx en s)) (bdIf (n≠bs.length) 8 en (bdIf (bs.length=64) 6 en s)):=by rw [hs];unfold bdIf;rw [if_pos c2];exact bad_dd h 8 _
    exact dd_want (dd_this (dd_ps hd) _ _ _) _ _
  · rw [if_neg c2]
    unfold sLabel
    rw [hs,show bdIf (n≠bs.length) 8 en s=s from if_neg c2]
    exact (Ref.pass h).bind (fun h2=>(ref_this h2 5 [58]).bind (fun h3=>ref_end h3) (fun f d=>dd_want d _ _)) (fun f d=>dd_want (dd_this d _ _ _) _ _)
end
theorem ref_body (en:Tok):∀ (k:Nat) (bs:List (List PIns)) (s:RS),s.flt=none→Ref (iBody en k (bs,s)).1 (iBody en k (bs,s)).2 (qBody en k bs (toPS s)):=by
  intro k
  induction k with
  | zero=>intro bs s h;exact Ref.bad h _ _ _
  | succ k ih =>
    intro bs s h
    unfold qBody iBody
    refine Ref.get ?_
    have e1:(toPS s).ts=s.ts:=rfl
    rw [e1]
    dsimp only
    cases hts:s.ts with
    | nil=>exact Ref.bad h _ _ _
    | cons front tl =>
      dsimp only
      have hn:nx en s=front:=by unfold nx;rw [hts];rfl
      refine Ref.ite (fun e=>?_) (fun e=>?_)
      · rw [if_pos e]
        exact (Ref.pass h).bind (fun h2=>ih _ _ h2) (fun f d=>dd_body en k _ d)
      rw [if_neg e]
      cases hb:blockOfP front with
      | some n =>
        dsimp only
        rw [← hn]
        exact (ref_label h bs n).bind (fun h2=>ih _ _ h2) (fun f d=>dd_body en k _ d)
      | none =>
        dsimp only
        refine Ref.ite (fun e2=>?_) (fun e2=>?_)
        · rw [if_pos e2]
          exact dd_body en k _ (bad_dd h 3 front)
        rw [if_neg e2]
        refine Ref.ite (fun e3=>?_) (fun e3=>?_)
        · rw [if_pos e3]
          exact (Ref.pass h).bind (fun h2=>(ref_end h2).bind (fun h3=>Ref.pure h3 _) (fun f d=>d)) (fun f d=>dd_want d _ _)
        rw [if_neg e3]
        refine Ref.ite (fun e4=>?_) (fun e4=>?_)
        · rw [if_pos e4]
          exact dd_body en k _ (bad_dd h 6 front)
        rw [if_neg e4]
        exact (ref_instr h).bind (fun h2=>ih _ _ h2) (fun f d=>dd_body en k _ d)
section
variable {s:RS} {en:Tok}
theorem itm_param:Itm (fun l:List Int=>l) (fun acc=>do
      let p ← qNext en
      let t ← qType en
      if 8≤acc.length then qBad 6 p
      return t) (iParam en)
    (fun _ s=>vType en s) (fun acc s=>if 8<(acc++[vType en s]).length then bd 6 (nx en s) (sType en s) else sType en s) where
  is:=fun acc s=>rfl
  ref := fun acc s h=>by
    refine (Ref.next h en).bind (fun _=>(ref_type h).bind (fun h2=>?_) (fun f d=>?_)) (fun f d=>?_)
    · by_cases c:8≤acc.length
      · rw [if_pos c,if_pos (by simp;omega)]
        exact bad_dd h2 6 _
      · rw [if_neg c,if_neg (by simp;omega)]
        exact Ref.pure h2 _
    · split
      · exact dd_bd d _ _
      · exact d
    · split
      · exact dd_bd (dd_type d _) _ _
      · exact dd_type d _
  dd:=fun f p d=>dd_param p d
theorem ref_types (h:s.flt=none):Ref (vTypes en s) (sTypes en s) (qTypes en (toPS s)):=by
  unfold qTypes
  have hI:=itm_param (en:=en)
  refine (ref_brackets hI h).bind (fun h2=>(ref_type h2).bind (fun h3=>ref_of (Ref.pure h3 _) ?_ rfl) (fun f d=>d)) (fun f d=>dd_type d _)
  unfold vTypes
  rw [brackets_put hI s]
theorem ref_name (h:s.flt=none) (full:Bool) (told:Tx→Bool):Ref (vName en s) (sName en full told s) (qName en (fun _=>full) told (toPS s)):=by
  unfold qName
  refine (ref_want h 1).bind (fun h1=>?_) (fun f d=>?_)
  · unfold sName
    dsimp only
    by_cases c:full=true
    · rw [if_pos c,if_pos c]
      have hd:=bad_dd h1 6 (nx en s)
      show Dd _ _
      split
      · exact dd_bd hd _ _
      · exact hd
    rw [if_neg c,if_neg c]
    by_cases c2:told (nx en s).body=true
    · rw [if_pos c2,if_pos c2]
      exact bad_dd h1 5 _
    · rw [if_neg c2,if_neg c2]
      exact Ref.pure h1 _
  · unfold sName
    dsimp only
    split <;> split <;> first | exact d | exact dd_bd d _ _ | exact dd_bd (dd_bd d _ _) _ _
end
end Go.Proofs.YtmmlfmplggbmiaaGreatDoor
