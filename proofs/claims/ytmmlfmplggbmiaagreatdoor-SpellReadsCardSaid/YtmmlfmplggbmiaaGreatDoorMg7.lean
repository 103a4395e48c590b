/- Several texts in one: PgU2, PgV, PgX0, PgX1, PgX, PgY1, PgY2, PgY3. -/
import Derived.Test.YtmmlfmplggbmiaaGreatDoorMg6
namespace Go.Proofs.YtmmlfmplggbmiaaGreatDoor
open Go.RowKit Go.Maps
set_option linter.unusedVariables false
set_option linter.unusedSimpArgs false
section
variable {B b:Nat} {W w:World} {en:Tok} {m0 m1 m2:Value} {gf:Nat} {nm:ByteArray} {pp:Option Addr} {pn pc:Nat} {rt:Int} {p:List (List PIns)×RS} {Z:As}
theorem Fk.stc (h:Fk B W b en m0 m1 m2 gf nm pp pn pc rt p Z w) (K:Kn B W en):Stc w:=K.1.later (h.below.mono K.2.1)
theorem Fk.nx_gt (h:Fk B W b en m0 m1 m2 gf nm pp pn pc rt p Z w) (K:Kn B W en):Gt (nx en p.2):=by
  obtain ⟨r,Z',hr,back⟩:=h.rd
  exact hr.nx_gt K.2.2.1
theorem Fk.tk4 {g':Nat} {t:Tok} {bs:List (Nat×List Value)} (h:Fk B W b en m0 m1 m2 gf nm pp pn pc rt p ((As.and (bxs ((g',tkC t)::bs)) Z)) w) :
    w.cell? ⟨g',0,none⟩=some (.int .i64 t.kind)∧w.cell? ⟨g',1,none⟩=some (.string (str t.body))∧w.cell? ⟨g',2,none⟩=some (.int .i64 t.line)∧w.cell? ⟨g',3,none⟩=some (.int .i64 t.col):=by
  have b0:=h.bget 0 rfl
  exact ⟨b0.get 0 _ rfl,b0.get 1 _ rfl,b0.get 2 _ rfl,b0.get 3 _ rfl⟩
theorem Fk.next (h:Fk B W b en m0 m1 m2 gf nm pp pn pc rt p Z w):Calls Tryz.prog 78 #[.pointer (some ⟨b,0,none⟩)] w (fun e w' => e=.returned (tkV (nx en p.2))∧Fk B W b en m0 m1 m2 gf nm pp pn pc rt p Z w'):=by
  obtain ⟨r,Z',hr,back⟩:=h.rd
  exact (next_any hr).mono fun e w' ⟨h1,h2⟩=>⟨h1,h.later h2⟩
theorem Fk.pass (h:Fk B W b en m0 m1 m2 gf nm pp pn pc rt p Z w) :Calls Tryz.prog 114 #[.pointer (some ⟨b,0,none⟩)] w (fun e w' => e=.returned (.tuple #[])∧Fk B W b en m0 m1 m2 gf nm pp pn pc rt (p.1,ps p.2) Z w'):=by
  obtain ⟨r,Z',hr,back⟩:=h.rd
  have C:Calls Tryz.prog 114 #[.pointer (some ⟨b,0,none⟩)] w (fun e w' => e=.returned (.tuple #[])∧Rd B W b en m0 m1 m2 r (ps p.2) Z' w'):=pass_any hr
  exact C.mono fun e w' ⟨h1,h2⟩=>⟨h1,back _ _ (as_ps _) h2⟩
theorem Fk.refuse3 (h:Fk B W b en m0 m1 m2 gf nm pp pn pc rt p Z w) (t:Tok):Calls Tryz.prog 77 #[.pointer (some ⟨b,0,none⟩),.int .i64 3,tkV t] w (fun e w' => e=.returned (.tuple #[])∧Fk B W b en m0 m1 m2 gf nm pp pn pc rt (p.1,bd 3 t p.2) Z w'):=by
  obtain ⟨r,Z',hr,back⟩:=h.rd
  have C:Calls Tryz.prog 77 #[.pointer (some ⟨b,0,none⟩),.int .i64 3,tkV t] w (fun e w' => e=.returned (.tuple #[])∧Rd B W b en m0 m1 m2 r (bd 3 t p.2) Z' w'):=Go.Proofs.YtmmlfmplggbmiaaGreatDoor.refuse3 hr t
  exact C.mono fun e w' ⟨h1,h2⟩=>⟨h1,back _ _ (as_bd _ _ _) h2⟩
theorem Fk.refuse6 (h:Fk B W b en m0 m1 m2 gf nm pp pn pc rt p Z w) (t:Tok):Calls Tryz.prog 77 #[.pointer (some ⟨b,0,none⟩),.int .i64 6,tkV t] w (fun e w' => e=.returned (.tuple #[])∧Fk B W b en m0 m1 m2 gf nm pp pn pc rt (p.1,bd 6 t p.2) Z w'):=by
  obtain ⟨r,Z',hr,back⟩:=h.rd
  have C:Calls Tryz.prog 77 #[.pointer (some ⟨b,0,none⟩),.int .i64 6,tkV t] w (fun e w' => e=.returned (.tuple #[])∧Rd B W b en m0 m1 m2 r (bd 6 t p.2) Z' w'):=Go.Proofs.YtmmlfmplggbmiaaGreatDoor.refuse6 hr t
  exact C.mono fun e w' ⟨h1,h2⟩=>⟨h1,back _ _ (as_bd _ _ _) h2⟩
theorem Fk.refuse8 (h:Fk B W b en m0 m1 m2 gf nm pp pn pc rt p Z w) (t:Tok):Calls Tryz.prog 77 #[.pointer (some ⟨b,0,none⟩),.int .i64 8,tkV t] w (fun e w' => e=.returned (.tuple #[])∧Fk B W b en m0 m1 m2 gf nm pp pn pc rt (p.1,bd 8 t p.2) Z w'):=by
  obtain ⟨r,Z',hr,back⟩:=h.rd
  have C:Calls Tryz.prog 77 #[.pointer (some ⟨b,0,none⟩),.int .i64 8,tkV t] w (fun e w' => e=.returned (.tuple #[])∧Rd B W b en m0 m1 m2 r (bd 8 t p.2) Z' w'):=Go.Proofs.YtmmlfmplggbmiaaGreatDoor.refuse8 hr t
  exact C.mono fun e w' ⟨h1,h2⟩=>⟨h1,back _ _ (as_bd _ _ _) h2⟩
theorem Fk.passed (h:Fk B W b en m0 m1 m2 gf nm pp pn pc rt p Z w) (k:Nat) (x:Tx) (ki:Int) (xi:ByteArray) (ek:ki=(k:Int)) (ex:xi=str x):Calls Tryz.prog 73 #[.pointer (some ⟨b,0,none⟩),.int .i64 ki,.string xi] w (fun e w' => e=.returned (.bool (isTk k x (nx en p.2)))∧Fk B W b en m0 m1 m2 gf nm pp pn pc rt (p.1,sPassed en k x p.2) Z w'):=by
  obtain ⟨r,Z',hr,back⟩:=h.rd
  have C:Calls Tryz.prog 73 #[.pointer (some ⟨b,0,none⟩),.int .i64 ki,.string xi] w (fun e w' => e=.returned (.bool (isTk k x (nx en p.2)))∧Rd B W b en m0 m1 m2 r (sPassed en k x p.2) Z' w'):=(by rw [ek,ex];exact passed_any hr k x)
  exact C.mono fun e w' ⟨h1,h2⟩=>⟨h1,back _ _ (as_passed _ _ _ _) h2⟩
theorem Fk.wantMark (h:Fk B W b en m0 m1 m2 gf nm pp pn pc rt p Z w) (x:Tx) (xi:ByteArray) (ex:xi=str x):Calls Tryz.prog 171 #[.pointer (some ⟨b,0,none⟩),.string xi] w (fun e w' => e=.returned (.tuple #[])∧Fk B W b en m0 m1 m2 gf nm pp pn pc rt (p.1,sThis en 5 x p.2) Z w'):=by
  obtain ⟨r,Z',hr,back⟩:=h.rd
  have C:Calls Tryz.prog 171 #[.pointer (some ⟨b,0,none⟩),.string xi] w (fun e w' => e=.returned (.tuple #[])∧Rd B W b en m0 m1 m2 r (sThis en 5 x p.2) Z' w'):=(by rw [ex];exact wantMark_any hr x)
  exact C.mono fun e w' ⟨h1,h2⟩=>⟨h1,back _ _ (as_this _ _ _ _) h2⟩
theorem Fk.wantLineEnd (h:Fk B W b en m0 m1 m2 gf nm pp pn pc rt p Z w) :Calls Tryz.prog 118 #[.pointer (some ⟨b,0,none⟩)] w (fun e w' => e=.returned (.tuple #[])∧Fk B W b en m0 m1 m2 gf nm pp pn pc rt (p.1,sWant en 6 p.2) Z w'):=by
  obtain ⟨r,Z',hr,back⟩:=h.rd
  have C:Calls Tryz.prog 118 #[.pointer (some ⟨b,0,none⟩)] w (fun e w' => e=.returned (.tuple #[])∧Rd B W b en m0 m1 m2 r (sWant en 6 p.2) Z' w'):=wantLineEnd_any hr
  exact C.mono fun e w' ⟨h1,h2⟩=>⟨h1,back _ _ (as_want _ _ _) h2⟩
end
abbrev lb0:LB:=⟨none,0,0,[]⟩
theorem infoB:(Tryz.prog.info? 46).map (fun i=>(i.zero,i.size,i.bytes))=some (some (.agg #[.slice none 0 0]),1,24):=by kernel_rfl
theorem blk_lit (w:World):∀ j u,(blkC lb0)[j]? = some u→(w.alloc (.cells #[.slice none 0 0] 46)).cell? ((⟨w.heap.size,0,none⟩:Addr).add j)=some u:=lit_cells w #[.slice none 0 0] _
section
variable {B b gf:Nat} {W w w':World} {en:Tok} {m0 m1 m2:Value} {nm:ByteArray} {pp:Option Addr} {pn pc:Nat} {rt:Int} {q:List (List PIns)×RS} {Z Z':As}
theorem Fk.grow (h:Fk B W b en m0 m1 m2 gf nm pp pn pc rt q Z w):∃ bp bc bs Y,bs.map blkD=q.1∧St B W ((As.and (rw' B 46 1 blkC bp bs.length bc bs) Y)) w ∧
    (∀ X w',St B W ((As.and X Y)) w'→w'.cell? ⟨gf,3,none⟩=some (.slice bp bs.length bc)∧w'.frozen? ⟨gf,3,none⟩=false∧gf<w'.heap.size) ∧
    ∀ bp' bc' w',St B W ((As.and (rw' B 46 1 blkC bp' (bs.length+1) bc' (bs++[lb0])) Y)) w'→Fk B W b en m0 m1 m2 gf nm pp pn pc rt (q.1++[[]],q.2) Z (w'.setCell ⟨gf,3,none⟩ (.slice bp' (bs.length+1) bc')):=by
  obtain ⟨bp,bc,bs,e,h⟩:=h
  obtain ⟨Y,hs,back⟩:=h.st
  refine ⟨bp,bc,bs,(As.and (bx gf [.string nm,.slice pp pn pc,.int .i64 rt,.slice bp bs.length bc]) (As.and (As.all (blkAs B) bs) (As.and Z Y))),e,hs.imp ⟨fun w x=>⟨x.1.2.1.1,x.1.1,x.1.2.1.2,x.1.2.2,x.2⟩,fun k=>by simp only [As.and_c,blksAs];omega⟩,
    fun X w' h' => (have hb:Box gf [.string nm,.slice pp pn pc,.int .i64 rt,.slice bp bs.length bc] w':=h'.sat.2.1;⟨hb.get 3 _ rfl,hb.2.1 3,hb.1⟩),fun bp' bc' w' h' => ?_⟩
  refine ⟨bp',bc',bs++[lb0],by rw [List.map_append,e];rfl,back _ _ ?_⟩
  have h4:St B W ((As.and (bx gf [.string nm,.slice pp pn pc,.int .i64 rt,.slice bp bs.length bc]) (As.and (rw' B 46 1 blkC bp' (bs.length+1) bc' (bs++[lb0])) (As.and (As.all (blkAs B) bs) (As.and Z Y))))) w':=h'.imp ⟨fun w x=>⟨x.2.1,x.1,x.2.2.1,x.2.2.2.1,x.2.2.2.2⟩,fun k=>by simp only [As.and_c];omega⟩
  have el:(bs++[lb0]).length=bs.length+1:=by simp
  rw [el]
  refine (h4.set 3 (.slice bp' (bs.length+1) bc')).imp ⟨fun w x=>⟨⟨x.1,⟨x.2.1,(As.all_at_app _ w _ _).2 ⟨x.2.2.1,⟨rw_nil w,trivial⟩,trivial⟩⟩,x.2.2.2.1⟩,x.2.2.2.2⟩,fun k=>?_⟩
  have e0:(As.all (blkAs B) [lb0]).c k=0:=rfl
  have e1:(blksAs B bp' (bs.length+1) bc' (bs++[lb0])).c k=(rw' B 46 1 blkC bp' (bs.length+1) bc' (bs++[lb0])).c k+(As.all (blkAs B) bs).c k:=by
    unfold blksAs
    have:=As.all_c_app (blkAs B) k bs [lb0]
    rw [As.and_c]
    omega
  simp only [As.and_c,e1,bx_c]
  omega
set_option maxRecDepth 100000 in
set_option maxHeartbeats 4000000 in
theorem label_nn (K:Kn B W en) (n:Nat) (hq:q.1.length≤1000000) (h64:q.1.length≠64) (hne:n=q.1.length) (h:Fk B W b en m0 m1 m2 gf nm pp pn pc rt q Z w) :
    Calls Tryz.prog 152 #[.pointer (some ⟨b,0,none⟩),.pointer (some ⟨gf,0,none⟩),.int .i64 n] w (fun e w' => e=.returned (.tuple #[])∧Fk B W b en m0 m1 m2 gf nm pp pn pc rt (q.1++[[]],sLabel en q.1.length n q.2) Z w'):=by
  obtain ⟨iB,hiB,hz0,hz1,hz2⟩:=info_parts infoB
  have HI:=Lib.hid (And.intro hiB (And.intro hz0 (And.intro hz1 hz2)))
  clear hiB hz0 hz1 hz2
  have es:sLabel en q.1.length n q.2=sWant en 6 (sThis en 5 [58] (ps q.2)):=by
    unfold sLabel
    have a1:bdIf (q.1.length=64) 6 en q.2=q.2:=by unfold bdIf;rw [if_neg h64]
    rw [a1]
    unfold bdIf
    rw [if_neg (by omega)]
  rw [es]
  obtain ⟨p0,c0,_,_,_,x0,y0,z0⟩:=h.cells
  obtain ⟨l,el⟩:∃ l,q.1.length=l:=⟨_,rfl⟩
  rw [el] at x0
  have f64:((l:Int)==64)=false:=beq_false_of_ne (by omega)
  have fne:(n:Int)=(l:Int):=by omega
  have HH:=Lib.hid (And.intro h (And.intro el (And.intro hq K)))
  clear h el hq K es h64 hne
  go_enter Tryz.func152,Tryz.ntmps152
  go_wp2_with (first | ((with_reducible refine (HH.out.1.pass).mono ?_);rintro e w5 ⟨rfl,h5⟩) | ((with_reducible refine (h5.wantMark [58] ⟨#[58]⟩ rfl).mono ?_);rintro e w6 ⟨rfl,h6⟩) | ((with_reducible refine (h6.wantLineEnd).mono ?_);rintro e w7 ⟨rfl,h7⟩;obtain ⟨bp,bc,bs,Y,eb,hS,hbx,back⟩:=h7.grow;have HG:=Lib.hid (And.intro eb (And.intro hS (And.intro hbx back)));have el2:bs.length=l:=(by have:=congrArg List.length eb;rw [List.length_map,HH.out.2.1] at this;exact this);obtain ⟨k0,k1,k2⟩:=hbx _ _ hS;rw [el2] at k0;clear hS hbx back eb) | (at_builtin;refine wpList_app rfl _ _ 47 rfl iB _ 24 Tryz.underlying47 HI.out.1 HI.out.2.1 HI.out.2.2.1 HI.out.2.2.2 rfl (by decide) (by rw [← el2];rfl) (HG.out.2.1.alloc _) lb0 _ 1 rfl rfl (blk_lit _) (blkC_one lb0) (by have:=HH.out.2.2.1;have:=HH.out.2.1;unfold maxLen;omega) (by have:=HH.out.2.2.1;have:=HH.out.2.1;omega) ?_;intro p' c' w8 hS8;obtain ⟨j0,j1,j2⟩:=HG.out.2.2.1 _ _ hS8;rw [el2] at j0))
  go_end0
  refine ⟨rfl,?_⟩
  have q8:=HG.out.2.2.2 _ _ _ hS8
  rw [el2] at q8
  exact q8
set_option maxRecDepth 100000 in
set_option maxHeartbeats 4000000 in
theorem label_yn (K:Kn B W en) (n:Nat) (hq:q.1.length≤1000000) (h64:q.1.length=64) (hne:n=q.1.length) (h:Fk B W b en m0 m1 m2 gf nm pp pn pc rt q Z w) :
    Calls Tryz.prog 152 #[.pointer (some ⟨b,0,none⟩),.pointer (some ⟨gf,0,none⟩),.int .i64 n] w (fun e w' => e=.returned (.tuple #[])∧Fk B W b en m0 m1 m2 gf nm pp pn pc rt (q.1++[[]],sLabel en q.1.length n q.2) Z w'):=by
  obtain ⟨iB,hiB,hz0,hz1,hz2⟩:=info_parts infoB
  have HI:=Lib.hid (And.intro hiB (And.intro hz0 (And.intro hz1 hz2)))
  clear hiB hz0 hz1 hz2
  have es:sLabel en q.1.length n q.2=sWant en 6 (sThis en 5 [58] (ps (bd 6 (nx en q.2) q.2))):=by
    unfold sLabel
    have a1:bdIf (q.1.length=64) 6 en q.2=bd 6 (nx en q.2) q.2:=by unfold bdIf;rw [if_pos h64]
    rw [a1]
    unfold bdIf
    rw [if_neg (by omega)]
  rw [es]
  obtain ⟨p0,c0,_,_,_,x0,y0,z0⟩:=h.cells
  obtain ⟨l,el⟩:∃ l,q.1.length=l:=⟨_,rfl⟩
  rw [el] at x0
  have f64:((l:Int)==64)=true:=by rw [← el,h64];rfl
  have fne:(n:Int)=(l:Int):=by omega
  have HH:=Lib.hid (And.intro h (And.intro el (And.intro hq K)))
  clear h el hq K es h64 hne
  go_enter Tryz.func152,Tryz.ntmps152
  go_wp2_with fail
  go_region_law (first | (go_simp;(with_reducible refine (HH.out.1.drew.next).mono ?_);rintro e w1 ⟨rfl,h1⟩) | (go_simp;(with_reducible refine (h1.refuse6 _).mono ?_);rintro e w2 ⟨rfl,h2⟩;obtain ⟨p2,c2,_,_,_,x2,y2,z2⟩:=(h2).cells;rw [HH.out.2.1] at x2))
  all_goals
    go_wp2_with (first | ((with_reducible refine (h2.pass).mono ?_);rintro e w5 ⟨rfl,h5⟩) | ((with_reducible refine (h5.wantMark [58] ⟨#[58]⟩ rfl).mono ?_);rintro e w6 ⟨rfl,h6⟩) | ((with_reducible refine (h6.wantLineEnd).mono ?_);rintro e w7 ⟨rfl,h7⟩;obtain ⟨bp,bc,bs,Y,eb,hS,hbx,back⟩:=h7.grow;have HG:=Lib.hid (And.intro eb (And.intro hS (And.intro hbx back)));have el2:bs.length=l:=(by have:=congrArg List.length eb;rw [List.length_map,HH.out.2.1] at this;exact this);obtain ⟨k0,k1,k2⟩:=hbx _ _ hS;rw [el2] at k0;clear hS hbx back eb) | (at_builtin;refine wpList_app rfl _ _ 47 rfl iB _ 24 Tryz.underlying47 HI.out.1 HI.out.2.1 HI.out.2.2.1 HI.out.2.2.2 rfl (by decide) (by rw [← el2];rfl) (HG.out.2.1.alloc _) lb0 _ 1 rfl rfl (blk_lit _) (blkC_one lb0) (by have:=HH.out.2.2.1;have:=HH.out.2.1;unfold maxLen;omega) (by have:=HH.out.2.2.1;have:=HH.out.2.1;omega) ?_;intro p' c' w8 hS8;obtain ⟨j0,j1,j2⟩:=HG.out.2.2.1 _ _ hS8;rw [el2] at j0))
    go_end0
    refine ⟨rfl,?_⟩
    have q8:=HG.out.2.2.2 _ _ _ hS8
    rw [el2] at q8
    exact q8
set_option maxRecDepth 100000 in
set_option maxHeartbeats 4000000 in
theorem label_ny (K:Kn B W en) (n:Nat) (hq:q.1.length≤1000000) (h64:q.1.length≠64) (hne:n≠q.1.length) (h:Fk B W b en m0 m1 m2 gf nm pp pn pc rt q Z w) :
    Calls Tryz.prog 152 #[.pointer (some ⟨b,0,none⟩),.pointer (some ⟨gf,0,none⟩),.int .i64 n] w (fun e w' => e=.returned (.tuple #[])∧Fk B W b en m0 m1 m2 gf nm pp pn pc rt (q.1++[[]],sLabel en q.1.length n q.2) Z w'):=by
  obtain ⟨iB,hiB,hz0,hz1,hz2⟩:=info_parts infoB
  have HI:=Lib.hid (And.intro hiB (And.intro hz0 (And.intro hz1 hz2)))
  clear hiB hz0 hz1 hz2
  have es:sLabel en q.1.length n q.2=sWant en 6 (sThis en 5 [58] (ps (bd 8 (nx en q.2) q.2))):=by
    unfold sLabel
    have a1:bdIf (q.1.length=64) 6 en q.2=q.2:=by unfold bdIf;rw [if_neg h64]
    rw [a1]
    unfold bdIf
    rw [if_pos hne]
  rw [es]
  obtain ⟨p0,c0,_,_,_,x0,y0,z0⟩:=h.cells
  obtain ⟨l,el⟩:∃ l,q.1.length=l:=⟨_,rfl⟩
  rw [el] at x0
  have f64:((l:Int)==64)=false:=beq_false_of_ne (by omega)
  have fne:((n:Int) != (l:Int))=true:=by simp;omega
  have HH:=Lib.hid (And.intro h (And.intro el (And.intro hq K)))
  clear h el hq K es h64 hne
  go_enter Tryz.func152,Tryz.ntmps152
  go_wp2_with fail
  go_region_law (first | (go_simp;(with_reducible refine (HH.out.1.drew.next).mono ?_);rintro e w3 ⟨rfl,h3⟩) | (go_simp;(with_reducible refine (h3.refuse8 _).mono ?_);rintro e w4 ⟨rfl,h4⟩;obtain ⟨p4,c4,_,_,_,x4,y4,z4⟩:=(h4).cells;rw [HH.out.2.1] at x4))
  all_goals
    go_wp2_with (first | ((with_reducible refine (h4.pass).mono ?_);rintro e w5 ⟨rfl,h5⟩) | ((with_reducible refine (h5.wantMark [58] ⟨#[58]⟩ rfl).mono ?_);rintro e w6 ⟨rfl,h6⟩) | ((with_reducible refine (h6.wantLineEnd).mono ?_);rintro e w7 ⟨rfl,h7⟩;obtain ⟨bp,bc,bs,Y,eb,hS,hbx,back⟩:=h7.grow;have HG:=Lib.hid (And.intro eb (And.intro hS (And.intro hbx back)));have el2:bs.length=l:=(by have:=congrArg List.length eb;rw [List.length_map,HH.out.2.1] at this;exact this);obtain ⟨k0,k1,k2⟩:=hbx _ _ hS;rw [el2] at k0;clear hS hbx back eb) | (at_builtin;refine wpList_app rfl _ _ 47 rfl iB _ 24 Tryz.underlying47 HI.out.1 HI.out.2.1 HI.out.2.2.1 HI.out.2.2.2 rfl (by decide) (by rw [← el2];rfl) (HG.out.2.1.alloc _) lb0 _ 1 rfl rfl (blk_lit _) (blkC_one lb0) (by have:=HH.out.2.2.1;have:=HH.out.2.1;unfold maxLen;omega) (by have:=HH.out.2.2.1;have:=HH.out.2.1;omega) ?_;intro p' c' w8 hS8;obtain ⟨j0,j1,j2⟩:=HG.out.2.2.1 _ _ hS8;rw [el2] at j0))
    go_end0
    refine ⟨rfl,?_⟩
    have q8:=HG.out.2.2.2 _ _ _ hS8
    rw [el2] at q8
    exact q8
set_option maxRecDepth 100000 in
set_option maxHeartbeats 4000000 in
theorem label_yy (K:Kn B W en) (n:Nat) (hq:q.1.length≤1000000) (h64:q.1.length=64) (hne:n≠q.1.length) (h:Fk B W b en m0 m1 m2 gf nm pp pn pc rt q Z w) :
    Calls Tryz.prog 152 #[.pointer (some ⟨b,0,none⟩),.pointer (some ⟨gf,0,none⟩),.int .i64 n] w (fun e w' => e=.returned (.tuple #[])∧Fk B W b en m0 m1 m2 gf nm pp pn pc rt (q.1++[[]],sLabel en q.1.length n q.2) Z w'):=by
  obtain ⟨iB,hiB,hz0,hz1,hz2⟩:=info_parts infoB
  have HI:=Lib.hid (And.intro hiB (And.intro hz0 (And.intro hz1 hz2)))
  clear hiB hz0 hz1 hz2
  have es:sLabel en q.1.length n q.2=sWant en 6 (sThis en 5 [58] (ps (bd 8 (nx en (bd 6 (nx en q.2) q.2)) (bd 6 (nx en q.2) q.2)))):=by
    unfold sLabel
    have a1:bdIf (q.1.length=64) 6 en q.2=bd 6 (nx en q.2) q.2:=by unfold bdIf;rw [if_pos h64]
    rw [a1]
    unfold bdIf
    rw [if_pos hne]
  rw [es]
  obtain ⟨p0,c0,_,_,_,x0,y0,z0⟩:=h.cells
  obtain ⟨l,el⟩:∃ l,q.1.length=l:=⟨_,rfl⟩
  rw [el] at x0
  have f64:((l:Int)==64)=true:=by rw [← el,h64];rfl
  have fne:((n:Int) != (l:Int))=true:=by simp;omega
  have HH:=Lib.hid (And.intro h (And.intro el (And.intro hq K)))
  clear h el hq K es h64 hne
  go_enter Tryz.func152,Tryz.ntmps152
  go_wp2_with fail
  go_region_law (first | (go_simp;(with_reducible refine (HH.out.1.drew.next).mono ?_);rintro e w1 ⟨rfl,h1⟩) | (go_simp;(with_reducible refine (h1.refuse6 _).mono ?_);rintro e w2 ⟨rfl,h2⟩;obtain ⟨p2,c2,_,_,_,x2,y2,z2⟩:=(h2).cells;rw [HH.out.2.1] at x2))
  all_goals
    go_wp2_with fail
    go_region_law (first | (go_simp;(with_reducible refine (h2.drew.next).mono ?_);rintro e w3 ⟨rfl,h3⟩) | (go_simp;(with_reducible refine (h3.refuse8 _).mono ?_);rintro e w4 ⟨rfl,h4⟩;obtain ⟨p4,c4,_,_,_,x4,y4,z4⟩:=(h4).cells;rw [HH.out.2.1] at x4))
    all_goals
      go_wp2_with (first | ((with_reducible refine (h4.pass).mono ?_);rintro e w5 ⟨rfl,h5⟩) | ((with_reducible refine (h5.wantMark [58] ⟨#[58]⟩ rfl).mono ?_);rintro e w6 ⟨rfl,h6⟩) | ((with_reducible refine (h6.wantLineEnd).mono ?_);rintro e w7 ⟨rfl,h7⟩;obtain ⟨bp,bc,bs,Y,eb,hS,hbx,back⟩:=h7.grow;have HG:=Lib.hid (And.intro eb (And.intro hS (And.intro hbx back)));have el2:bs.length=l:=(by have:=congrArg List.length eb;rw [List.length_map,HH.out.2.1] at this;exact this);obtain ⟨k0,k1,k2⟩:=hbx _ _ hS;rw [el2] at k0;clear hS hbx back eb) | (at_builtin;refine wpList_app rfl _ _ 47 rfl iB _ 24 Tryz.underlying47 HI.out.1 HI.out.2.1 HI.out.2.2.1 HI.out.2.2.2 rfl (by decide) (by rw [← el2];rfl) (HG.out.2.1.alloc _) lb0 _ 1 rfl rfl (blk_lit _) (blkC_one lb0) (by have:=HH.out.2.2.1;have:=HH.out.2.1;unfold maxLen;omega) (by have:=HH.out.2.2.1;have:=HH.out.2.1;omega) ?_;intro p' c' w8 hS8;obtain ⟨j0,j1,j2⟩:=HG.out.2.2.1 _ _ hS8;rw [el2] at j0))
      go_end0
      refine ⟨rfl,?_⟩
      have q8:=HG.out.2.2.2 _ _ _ hS8
      rw [el2] at q8
      exact q8
theorem label_any (K:Kn B W en) (n:Nat) (hq:q.1.length≤1000000) (h:Fk B W b en m0 m1 m2 gf nm pp pn pc rt q Z w) :
    Calls Tryz.prog 152 #[.pointer (some ⟨b,0,none⟩),.pointer (some ⟨gf,0,none⟩),.int .i64 n] w (fun e w' => e=.returned (.tuple #[])∧Fk B W b en m0 m1 m2 gf nm pp pn pc rt (q.1++[[]],sLabel en q.1.length n q.2) Z w'):=by
  by_cases h64:q.1.length=64 <;> by_cases hne:n=q.1.length
  · exact label_yn K n hq h64 hne h
  · exact label_yy K n hq h64 hne h
  · exact label_nn K n hq h64 hne h
  · exact label_ny K n hq h64 hne h
end
end Go.Proofs.YtmmlfmplggbmiaaGreatDoor
namespace Go.Proofs.YtmmlfmplggbmiaaGreatDoor
set_option linter.unusedVariables false
set_option linter.unusedSimpArgs false
set_option linter.unusedSectionVars false
theorem tsl_this (en:Tok) (k:Nat) (b:Tx) (s:RS):tsl (sThis en k b s)≤tsl s:=by unfold sThis;split;exact tsl_ps s;exact tsl_bd _ _ s
theorem tsl_passed (en:Tok) (k:Nat) (b:Tx) (s:RS):tsl (sPassed en k b s)≤tsl s:=by unfold sPassed;split;exact tsl_ps s;exact Nat.le_refl _
theorem tsl_size (en:Tok) (s:RS):tsl (sSize en s)≤tsl s:=by unfold sSize;split;exact Nat.le_trans (tsl_bd _ _ _) (tsl_want _ _ s);exact tsl_want _ _ s
def Le2 (s t:RS):Prop:=sz t≤sz s∧tsl t≤tsl s
theorem Le2.refl (s:RS):Le2 s s:=⟨Nat.le_refl _,Nat.le_refl _⟩
theorem Le2.trans {a b c:RS} (h:Le2 a b) (k:Le2 b c):Le2 a c:=⟨Nat.le_trans k.1 h.1,Nat.le_trans k.2 h.2⟩
theorem l2_this (en:Tok) (k:Nat) (b:Tx) (s:RS):Le2 s (sThis en k b s):=⟨sz_this _ _ _ _,tsl_this _ _ _ _⟩
theorem l2_want (en:Tok) (k:Nat) (s:RS):Le2 s (sWant en k s):=⟨sz_want _ _ _,tsl_want _ _ _⟩
theorem l2_type (en:Tok) (s:RS):Le2 s (sType en s):=⟨sz_type _ _,tsl_type _ _⟩
theorem l2_size (en:Tok) (s:RS):Le2 s (sSize en s):=⟨sz_size _ _,tsl_size _ _⟩
theorem l2_block (en:Tok) (s:RS):Le2 s (sBlock en s):=⟨sz_block _ _,tsl_block _ _⟩
theorem l2_passed (en:Tok) (k:Nat) (b:Tx) (s:RS):Le2 s (sPassed en k b s):=⟨sz_passed _ _ _ _,tsl_passed _ _ _ _⟩
theorem l2_ps (s:RS):Le2 s (ps s):=⟨sz_ps s,tsl_ps s⟩
theorem l2_bd (c:Nat) (t:Tok) (s:RS):Le2 s (bd c t s):=⟨sz_bd _ _ _,tsl_bd _ _ _⟩
theorem l2_flags (en:Tok) (s:RS):Le2 s (sFlags en s):=((l2_passed _ _ _ _).trans (l2_passed _ _ _ _)).trans (l2_passed _ _ _ _)
section
variable {en:Tok} (h6:en.kind=6)
include h6
theorem l2_operand (s:RS):Le2 s (sOperand en s):=⟨sz_operand h6 s,tsl_operand en s⟩
theorem l2_ops:∀ (k:Nat) (s:RS),Le2 s (sOps en k s)
  | 0,s=>Le2.refl s
  | k+1,s=>((l2_this en 5 [44] s).trans (l2_operand h6 _)).trans (l2_ops k _)
theorem l2_operands:∀ (k:Nat) (s:RS),Le2 s (sOperands en k s)
  | 0,s=>Le2.refl s
  | k+1,s=>(l2_operand h6 s).trans (l2_ops h6 k _)
theorem l2_typed (n:Nat) (p:PIns×RS):Le2 p.2 (iTyped en n p).2:=(l2_type en p.2).trans (l2_operands h6 n _)
theorem l2_more {β:Type} {item:β×RS→β×RS} (hi:∀ p,Le2 p.2 (item p).2):∀ (k:Nat) (p:β×RS),Le2 p.2 (sMore en item k p).2
  | 0,p=>Le2.refl _
  | k+1,p=>by
    unfold sMore
    split
    · exact ((l2_ps p.2).trans (hi (p.1,ps p.2))).trans (l2_more hi k _)
    · exact Le2.refl _
theorem l2_commas {β:Type} {item:β×RS→β×RS} (hi:∀ p,Le2 p.2 (item p).2) (p:β×RS):Le2 p.2 (sCommas en item p).2:=(hi p).trans (l2_more h6 hi _ _)
theorem l2_brackets {β:Type} {item:β×RS→β×RS} (hi:∀ p,Le2 p.2 (item p).2) (p:β×RS):Le2 p.2 (sBrackets en item p).2:=by
  unfold sBrackets
  split
  · exact (l2_this en 5 [40] p.2).trans (l2_ps _)
  · exact ((l2_this en 5 [40] p.2).trans (l2_commas h6 hi (p.1,sThis en 5 [40] p.2))).trans (l2_this en 5 [41] _)
theorem l2_phi (p:PIns×RS):Le2 p.2 (iPhi en p).2:=by
  unfold iPhi
  split
  · exact l2_type en p.2
  · exact (l2_type en p.2).trans (l2_commas h6 (item:=iPair en) (fun q=>(l2_block en q.2).trans (l2_operand h6 _)) _)
theorem l2_form (p:PIns×RS) (h:p.1.op≠30):Le2 p.2 (iForm en p).2:=by
  unfold iForm
  by_cases c0:20≤p.1.op∧p.1.op≤22
  · rw [if_pos c0]
    exact (((l2_type en p.2).trans (l2_operand h6 _)).trans (l2_this en 1 [116,111] _)).trans (l2_type en _)
  rw [if_neg c0]
  by_cases c1:p.1.op=23
  · rw [if_pos c1];exact l2_typed h6 3 p
  rw [if_neg c1]
  by_cases c2:p.1.op=24∨p.1.op=27
  · rw [if_pos c2];exact l2_typed h6 1 p
  rw [if_neg c2]
  by_cases c3:p.1.op=25
  · rw [if_pos c3];exact l2_phi h6 p
  rw [if_neg c3]
  by_cases c4:p.1.op=26
  · rw [if_pos c4];exact l2_size en p.2
  rw [if_neg c4]
  by_cases c5:p.1.op=29
  · rw [if_pos c5];exact l2_operands h6 2 p.2
  rw [if_neg c5,if_neg h]
  by_cases c7:p.1.op=32
  · rw [if_pos c7]
    exact ((((l2_operand h6 p.2).trans (l2_this en 5 [44] _)).trans (l2_block en _)).trans (l2_this en 5 [44] _)).trans (l2_block en _)
  rw [if_neg c7]
  by_cases c8:p.1.op=31
  · rw [if_pos c8];exact l2_block en p.2
  rw [if_neg c8]
  by_cases c9:p.1.op=33
  · rw [if_pos c9]
    split
    · exact l2_typed h6 1 p
    · exact Le2.refl _
  rw [if_neg c9]
  by_cases c10:p.1.op=34
  · rw [if_pos c10];exact Le2.refl _
  rw [if_neg c10]
  by_cases c11:p.1.op≤13
  · rw [if_pos c11]
    exact (l2_flags en p.2).trans (l2_typed h6 2 ({ p.1 with fl:=vFlags en p.2 },sFlags en p.2))
  · rw [if_neg c11];exact l2_typed h6 2 p
theorem call_le (p:PIns×RS):sz (iCall en p).2≤sz p.2+1∧tsl (iCall en p).2≤tsl p.2:=by
  unfold iCall
  have h1:=l2_brackets h6 (item:=iArg en) (fun q=>l2_operand h6 q.2) ({ p.1 with n:=(sWant en 1 p.2).asked.length },sAsk (nx en p.2) (sWant en 1 p.2))
  have h2:=l2_want en 1 p.2
  have h3:=sz_ask (nx en p.2) (sWant en 1 p.2)
  have h4:=tsl_ask (nx en p.2) (sWant en 1 p.2)
  obtain ⟨c,d⟩:=h2
  exact ⟨Nat.le_trans h1.1 (by show sz (sAsk (nx en p.2) (sWant en 1 p.2))≤_;omega),Nat.le_trans h1.2 (by show tsl (sAsk (nx en p.2) (sWant en 1 p.2))≤_;omega)⟩
theorem instr_le (s:RS) (hs:tsl s≠0):sz (iInstr en s).2≤sz s∧tsl (iInstr en s).2+1≤tsl s:=by
  have hreg:Le2 s (sReg en s):=by
    unfold sReg
    split
    · exact (l2_want en 3 s).trans (l2_this en 5 [61] _)
    · exact Le2.refl _
  unfold iInstr
  generalize hw:sWord en (vReg en s) (sReg en s)=s2
  have hl:=l2_want en 6 (iForm en (⟨opOfP (nx en (sReg en s)),vReg en s,0,0,0,[],[]⟩,s2)).2
  have hword:Le2 (sReg en s) s2∧(tsl (sReg en s)≠0→tsl s2+1≤tsl (sReg en s)):=by
    rw [← hw]
    unfold sWord
    split
    · exact ⟨l2_ps _,fun h=>by unfold tsl ps at *;simp;omega⟩
    · exact ⟨(l2_bd 3 _ _).trans (l2_ps _),fun h=>by unfold tsl ps bd at *;simp;omega⟩
  have ht2:tsl s2+1≤tsl s:=by
    by_cases h0:tsl (sReg en s)=0
    · have:=hword.1.2;omega
    · have:=hword.2 h0;have:=hreg.2;omega
  by_cases h30:opOfP (nx en (sReg en s))=30
  · have hst:standsP (30:Nat) (vReg en s)=true:=by unfold standsP;simp
    have e2:s2=ps (sReg en s):=by
      rw [← hw]
      unfold sWord
      rw [h30,hst]
      rfl
    have hne:(sReg en s).ts.length≠0:=by
      refine ts_of_kind h6 (fun e=>?_)
      unfold opOfP at h30
      rw [e] at h30
      cases h30
    have h1:=sz_ps1 hne
    rw [h30] at hl ⊢
    have ef:iForm en (⟨((30:Nat):Int),vReg en s,0,0,0,[],[]⟩,s2)=iCall en (⟨((30:Nat):Int),vReg en s,0,0,0,[],[]⟩,s2):=rfl
    rw [ef] at hl ⊢
    have hc:=call_le h6 (⟨((30:Nat):Int),vReg en s,0,0,0,[],[]⟩,s2)
    rw [← e2] at h1
    obtain ⟨a,b⟩:=hl
    obtain ⟨c,d⟩:=hc
    have:=hreg.1
    dsimp only at c d ⊢
    exact ⟨by omega,by omega⟩
  · have hf:=l2_form h6 (⟨opOfP (nx en (sReg en s)),vReg en s,0,0,0,[],[]⟩,s2) (fun e=>h30 (Int.ofNat.inj e))
    obtain ⟨a,b⟩:=hl
    obtain ⟨c,d⟩:=hf
    have:=hreg.1
    have:=hword.1.1
    dsimp only at c d ⊢
    exact ⟨by omega,by omega⟩
omit h6 in
theorem label_le (len n:Nat) (s:RS) (hs:tsl s≠0):sz (sLabel en len n s)≤sz s∧tsl (sLabel en len n s)+1≤tsl s:=by
  unfold sLabel
  have hb:∀ (c:Prop) [Decidable c] (k:Nat) (s:RS),Le2 s (bdIf c k en s):=fun c _ k s=>by unfold bdIf;split;exact l2_bd _ _ _;exact Le2.refl _
  have h1:=(hb (len=64) 6 s).trans (hb (n≠len) 8 _)
  generalize bdIf (n≠len) 8 en (bdIf (len=64) 6 en s)=s2 at *
  have h2:=(l2_this en 5 [58] (ps s2)).trans (l2_want en 6 _)
  have h3:tsl (ps s2)+1≤tsl s:=by
    have:=h1.2
    unfold tsl ps at *
    simp
    omega
  have h4:=sz_ps s2
  exact ⟨Nat.le_trans h2.1 (Nat.le_trans h4 h1.1),by have:=h2.2;omega⟩
end
end Go.Proofs.YtmmlfmplggbmiaaGreatDoor
namespace Go.Proofs.YtmmlfmplggbmiaaGreatDoor
open Go.RowKit Go.Maps
set_option linter.unusedVariables false
set_option linter.unusedSimpArgs false
theorem infoIns:(Tryz.prog.info? 43).map (fun i=>(i.zero,i.size,i.bytes))=some (some (.agg #[.int .i64 0,.int .i64 0,.int .i64 0,.int .i64 0,.int .i64 0,.slice none 0 0,.slice none 0 0]),7,88):=by kernel_rfl
theorem ins_lit (w:World) (x:LI):∀ j u,(liC x)[j]? = some u→(w.alloc (.cells #[.int .i64 x.1.op,.int .i64 x.1.reg,.int .i64 x.1.ty,.int .i64 x.1.n,.int .i64 x.1.fl,.slice x.1.ap x.1.al x.1.ac,.slice x.1.tp x.1.tl x.1.tc] 43)).cell? ((⟨w.heap.size,0,none⟩:Addr).add j)=some u:=lit_cells w _ _
section
variable {B b gf:Nat} {W w w':World} {en:Tok} {m0 m1 m2:Value} {nm:ByteArray} {pp:Option Addr} {pn pc:Nat} {rt:Int} {q:List (List PIns)×RS} {s s2:RS} {Z Z':As}
theorem Pk.satZ (h:Pk B W b en m0 m1 m2 s Z w):Z.sat w:=by
  obtain ⟨Y,hs,_⟩:=h.st
  exact hs.sat.1
def F0 (B gf:Nat) (nm:ByteArray) (pp:Option Addr) (pn pc:Nat) (rt:Int) (gB bc:Nat) (bs:List LB) (c:LB) (Z:As):As :=
  (As.and (bx gf [.string nm,.slice pp pn pc,.int .i64 rt,.slice (some ⟨gB,0,none⟩) (bs.length+1) bc]) (As.and (rw' B 46 1 blkC (some ⟨gB,0,none⟩) (bs.length+1) bc (bs++[c])) (As.and (As.all (blkAs B) bs) (As.and (rw' B 43 7 liC c.p c.n c.k c.code) (As.and (As.all (insRow B) c.code) Z)))))
theorem F0.facts {gB bc:Nat} {bs:List LB} {c:LB} (h:(F0 B gf nm pp pn pc rt gB bc bs c Z).sat w):w.cell? ⟨gf,3,none⟩=some (.slice (some ⟨gB,0,none⟩) (bs.length+1) bc)∧gf<w.heap.size ∧
    w.cell? ⟨gB,bs.length,none⟩=some (.slice c.p c.n c.k)∧w.frozen? ⟨gB,bs.length,none⟩=false∧gB<w.heap.size∧c.n=c.code.length∧bs.length+1≤bc∧bc≤maxLen:=by
  obtain ⟨h1,h2,h3,h4,h5⟩:=h
  have hb:Box gf _ w:=h1
  have hl:(bs++[c]).length=bs.length+1:=by simp
  have hcc:=h2.2.cells (g:=gB) rfl bs.length (.slice c.p c.n c.k) (by
    rw [List.flatMap_append,List.getElem?_append_right (by rw [flat_len blkC 1 (fun _=>rfl)];omega),flat_len blkC 1 (fun _=>rfl),Nat.mul_one,Nat.sub_self]
    rfl)
  rw [Addr.add_mid,Nat.zero_add] at hcc
  rcases h2.2.2 with ⟨e,_⟩ | ⟨g,cap,cur,e,hg,hh,k1,k2,k3,k4⟩
  · cases e
  · injection e with e1 e2 e3
    injection e1 with e1
    injection e1 with e1
    subst e1 e3
    exact ⟨hb.get 3 _ rfl,hb.1,hcc,by simp [World.frozen?,hh],(Array.getElem?_eq_some_iff.1 hh).1,h4.1,k1,k2⟩
theorem Fk.open (h:Fk B W b en m0 m1 m2 gf nm pp pn pc rt q Z w) (hq:q.1.length≠0):∃ gB bc bs c,q.1=bs.map blkD++[blkD c]∧Pk B W b en m0 m1 m2 q.2 (F0 B gf nm pp pn pc rt gB bc bs c Z) w:=by
  obtain ⟨bp,bc,l,e,h⟩:=h
  have hl:l≠[]:=fun e2=>hq (by rw [← e,e2];rfl)
  obtain ⟨bs,c,rfl⟩:∃ bs c,l=bs++[c]:=⟨l.dropLast,l.getLast hl,(List.dropLast_concat_getLast hl).symm⟩
  have el:(bs++[c]).length=bs.length+1:=by simp
  rw [el] at h
  have hr:=h.satZ.2.1.1
  have:∃ gB,bp=some ⟨gB,0,none⟩:=by
    rcases hr.2.2 with ⟨e2,h0⟩ | ⟨g,cap,cur,e2,_⟩
    · injection e2 with e3 e4 e5;cases e4
    · injection e2 with e3 e4 e5;exact ⟨g,e3⟩
  obtain ⟨gB,rfl⟩:=this
  refine ⟨gB,bc,bs,c,by rw [← e,List.map_append];rfl,h.imp ⟨fun w x=>⟨x.1,x.2.1.1,?_,?_,?_,x.2.2⟩,fun k=>?_⟩⟩
  · exact ((As.all_at_app _ w _ _).1 x.2.1.2).1
  · exact ((As.all_at_app _ w _ _).1 x.2.1.2).2.1.1
  · exact ((As.all_at_app _ w _ _).1 x.2.1.2).2.1.2
  · have e1:=As.all_c_app (blkAs B) k bs [c]
    have e2:(As.all (blkAs B) [c]).c k=(rw' B 43 7 liC c.p c.n c.k c.code).c k+(As.all (insRow B) c.code).c k+0:=rfl
    simp only [F0,blksAs,As.and_c,e1,e2]
    omega
theorem Fk.close {gB bc:Nat} {bs:List LB} {c:LB} (h:Pk B W b en m0 m1 m2 s (F0 B gf nm pp pn pc rt gB bc bs c Z) w):Fk B W b en m0 m1 m2 gf nm pp pn pc rt (bs.map blkD++[blkD c],s) Z w:=by
  have el:(bs++[c]).length=bs.length+1:=by simp
  refine ⟨some ⟨gB,0,none⟩,bc,bs++[c],by rw [List.map_append];rfl,?_⟩
  rw [el]
  refine h.imp ⟨fun w x=>⟨x.1,⟨x.2.1,(As.all_at_app _ w _ _).2 ⟨x.2.2.1,⟨x.2.2.2.1,x.2.2.2.2.1⟩,trivial⟩⟩,x.2.2.2.2.2⟩,fun k=>?_⟩
  have e1:=As.all_c_app (blkAs B) k bs [c]
  have e2:(As.all (blkAs B) [c]).c k=(rw' B 43 7 liC c.p c.n c.k c.code).c k+(As.all (insRow B) c.code).c k+0:=rfl
  simp only [F0,blksAs,As.and_c,e1,e2]
  omega
theorem Fk.push1 {gB bc:Nat} {bs:List LB} {c:LB} {x:LI} (h:Pk B W b en m0 m1 m2 s ((As.and (insRow B x) (F0 B gf nm pp pn pc rt gB bc bs c Z))) w):∃ Y,St B W ((As.and (rw' B 43 7 liC c.p c.n c.k c.code) Y)) w ∧
    (∀ X w',St B W ((As.and X Y)) w'→w'.cell? ⟨gB,bs.length,none⟩=some (.slice c.p c.n c.k)∧w'.frozen? ⟨gB,bs.length,none⟩=false∧gB<w'.heap.size) ∧
    ∀ p' n' c' w',St B W ((As.and (rw' B 43 7 liC p' n' c' (c.code++[x])) Y)) w'→Fk B W b en m0 m1 m2 gf nm pp pn pc rt (bs.map blkD++[blkD c++[insD x]],s) Z (w'.setCell ⟨gB,bs.length,none⟩ (.slice p' n' c')):=by
  obtain ⟨Y,hs,back⟩:=h.st
  have hl:(bs++[c]).length=bs.length+1:=by simp
  refine ⟨(As.and (insRow B x) (As.and (bx gf [.string nm,.slice pp pn pc,.int .i64 rt,.slice (some ⟨gB,0,none⟩) (bs.length+1) bc]) (As.and (rw' B 46 1 blkC (some ⟨gB,0,none⟩) (bs.length+1) bc (bs++[c])) (As.and (As.all (blkAs B) bs) (As.and (As.all (insRow B) c.code) (As.and Z Y)))))),?_,fun X w' h' => ?_,fun p' n' c' w' h' => ?_⟩
  · exact hs.imp ⟨fun w x=>⟨x.1.2.2.2.2.1,x.1.1,x.1.2.1,x.1.2.2.1,x.1.2.2.2.1,x.1.2.2.2.2.2.1,x.1.2.2.2.2.2.2,x.2⟩,fun k=>by simp only [F0,As.and_c];omega⟩
  · have h2:=h'.sat.2.2.2.1
    have hcc:=h2.2.cells (g:=gB) rfl bs.length (.slice c.p c.n c.k) (by
      rw [List.flatMap_append,List.getElem?_append_right (by rw [flat_len blkC 1 (fun _=>rfl)];omega),flat_len blkC 1 (fun _=>rfl),Nat.mul_one,Nat.sub_self]
      rfl)
    rw [Addr.add_mid,Nat.zero_add] at hcc
    rcases h2.2.2 with ⟨e,_⟩ | ⟨g,cap,cur,e,hg,hh,k1,k2,k3,k4⟩
    · cases e
    · injection e with e1 e2 e3
      injection e1 with e1
      injection e1 with e1
      subst e1
      exact ⟨hcc,by simp [World.frozen?,hh],(Array.getElem?_eq_some_iff.1 hh).1⟩
  · have h4:St B W ((As.and (rw' B 46 1 blkC (some ⟨gB,0,none⟩) (bs.length+1) bc (bs++[c])) ((As.and (rw' B 43 7 liC p' n' c' (c.code++[x])) (As.and (insRow B x) (As.and (bx gf [.string nm,.slice pp pn pc,.int .i64 rt,.slice (some ⟨gB,0,none⟩) (bs.length+1) bc]) (As.and (As.all (blkAs B) bs) (As.and (As.all (insRow B) c.code) (As.and Z Y))))))))) w' :=
      h'.imp ⟨fun w x=>⟨x.2.2.2.1,x.1,x.2.1,x.2.2.1,x.2.2.2.2.1,x.2.2.2.2.2.1,x.2.2.2.2.2.2.1,x.2.2.2.2.2.2.2⟩,fun k=>by simp only [As.and_c];omega⟩
    have h5:=h4.upd1 bs.length 0 (.slice p' n' c') ⟨p',n',c',c.code++[x]⟩ (flat_set1 blkC 1 (by decide) (fun _=>rfl) (bs++[c]) bs.length 0 (by simp) (by decide) _ _ rfl)
    rw [Nat.mul_one,Nat.add_zero] at h5
    have es:(bs++[c]).set bs.length ⟨p',n',c',c.code++[x]⟩=bs++[⟨p',n',c',c.code++[x]⟩]:=by simp
    rw [es] at h5
    have e3:blkD (⟨p',n',c',c.code++[x]⟩:LB)=blkD c++[insD x]:=by unfold blkD;simp
    rw [← e3]
    refine Fk.close (gB:=gB) (bc:=bc) (back _ _ (h5.imp ⟨fun w y=>?_,fun k=>?_⟩))
    · exact ⟨⟨y.2.2.2.1,y.1,y.2.2.2.2.1,y.2.1,(As.all_at_app _ w _ _).2 ⟨y.2.2.2.2.2.1,y.2.2.1,trivial⟩,y.2.2.2.2.2.2.1⟩,y.2.2.2.2.2.2.2⟩
    · have e1:=As.all_c_app (insRow B) k c.code [x]
      have e2:(As.all (insRow B) [x]).c k=(insRow B x).c k+0:=rfl
      simp only [F0,As.and_c,e1,e2]
      omega
theorem located_len (bs:List LB):(located bs).flatten.length=(bs.map blkD).flatten.length:=by
  unfold located blkD
  induction bs with
  | nil=>rfl
  | cons c bs ih=>simp at ih ⊢;omega
theorem Fk.size (h:Fk B W b en m0 m1 m2 gf nm pp pn pc rt q Z w) (hq:q.1.flatten.length<4611686018427387904):∃ bp bc,w.cell? ⟨gf,0,none⟩=some (.string nm)∧w.cell? ⟨gf,1,none⟩=some (.slice pp pn pc)∧w.cell? ⟨gf,2,none⟩=some (.int .i64 rt)∧w.cell? ⟨gf,3,none⟩=some (.slice bp q.1.length bc)∧gf<w.heap.size ∧
    Calls Tryz.prog 153 #[.agg #[.string nm,.slice pp pn pc,.int .i64 rt,.slice bp q.1.length bc]] w fun e w' => e=.returned (.int .i64 (q.1.flatten.length:Nat))∧Below w.heap.size w w':=by
  obtain ⟨bp,bc,bs,e,h⟩:=h
  have hb:=h.box
  have hl:=blks_in h.satZ.2.1
  have hlen:q.1.length=bs.length:=by rw [← e,List.length_map]
  rw [hlen]
  refine ⟨bp,bc,hb.get 0 _ rfl,hb.get 1 _ rfl,hb.get 2 _ rfl,hb.get 3 _ rfl,hb.1,?_⟩
  have el:=located_len bs
  rw [e] at el
  exact Size_any w.heap.size (located bs) w (.string nm) (.slice pp pn pc) rt nm pp pn pc bp bs.length bc (Nat.le_refl _) (blocksAt_in hl) _ el hq
theorem Fk.ends (h:Fk B W b en m0 m1 m2 gf nm pp pn pc rt q Z w):(∃ tp tc,w.cell? ⟨b,0,none⟩=some (.slice tp (tsl q.2) tc))∧w.cell? ⟨b,1,none⟩=some (.int .i64 en.kind)∧w.cell? ⟨b,2,none⟩=some (.string (str en.body))∧w.cell? ⟨b,3,none⟩=some (.int .i64 en.line)∧w.cell? ⟨b,4,none⟩=some (.int .i64 en.col)∧b<w.heap.size∧lenAt b w=tsl q.2:=by
  obtain ⟨r,Z',hr,_⟩:=h.rd
  have hlen:=hr.len
  obtain ⟨_,_,tp,tn,tc,hs⟩:=hr
  have hb:=hs.box
  have hn:tn=q.2.ts.length:=hs.sat.2.1.1
  exact ⟨⟨tp,tc,by rw [hb.get 0 _ rfl,hn];rfl⟩,hb.get 1 _ rfl,hb.get 2 _ rfl,hb.get 3 _ rfl,hb.get 4 _ rfl,hb.1,hlen⟩
end
theorem ib_nil {en:Tok} {k:Nat} {p:List (List PIns)×RS} (h:p.2.ts=[]):iBody en (k+1) p=(p.1,bd 3 en p.2):=by unfold iBody;rw [h]
theorem ib_end {en:Tok} {k:Nat} {p:List (List PIns)×RS} {f:Tok} {l:List Tok} (h:p.2.ts=f::l) (c:isTk 6 [] f=true):iBody en (k+1) p=iBody en k (p.1,ps p.2):=by
  conv=>lhs;unfold iBody
  rw [h];simp only [c,if_true]
theorem ib_label {en:Tok} {k:Nat} {p:List (List PIns)×RS} {f:Tok} {l:List Tok} {n:Nat} (h:p.2.ts=f::l) (c:isTk 6 [] f=false) (d:blockOfP f=some n):iBody en (k+1) p=iBody en k (p.1++[[]],sLabel en p.1.length n p.2):=by
  conv=>lhs;unfold iBody
  rw [h];simp only [c,d,Bool.false_eq_true,if_false]
theorem ib_none {en:Tok} {k:Nat} {p:List (List PIns)×RS} {f:Tok} {l:List Tok} (h:p.2.ts=f::l) (c:isTk 6 [] f=false) (d:blockOfP f=none) (e:p.1.length=0):iBody en (k+1) p=iBody en k (p.1,bd 3 f p.2):=by
  conv=>lhs;unfold iBody
  rw [h];simp only [c,d,e,Bool.false_eq_true,if_false,if_true]
theorem ib_over {en:Tok} {k:Nat} {p:List (List PIns)×RS} {f:Tok} {l:List Tok} (h:p.2.ts=f::l) (c:isTk 6 [] f=false) (d:blockOfP f=none) (e:p.1.length≠0) (g:isTk 1 [101,110,100] f=true):iBody en (k+1) p=(p.1,sWant en 6 (ps p.2)):=by
  conv=>lhs;unfold iBody
  rw [h];simp only [c,d,e,g,Bool.false_eq_true,if_false,if_true]
theorem ib_full {en:Tok} {k:Nat} {p:List (List PIns)×RS} {f:Tok} {l:List Tok} (h:p.2.ts=f::l) (c:isTk 6 [] f=false) (d:blockOfP f=none) (e:p.1.length≠0) (g:isTk 1 [101,110,100] f=false) (i:p.1.flatten.length=400):iBody en (k+1) p=iBody en k (p.1,bd 6 f p.2):=by
  conv=>lhs;unfold iBody
  rw [h];simp only [c,d,e,g,i,Bool.false_eq_true,if_false,if_true]
theorem ib_ins {en:Tok} {k:Nat} {p:List (List PIns)×RS} {f:Tok} {l:List Tok} (h:p.2.ts=f::l) (c:isTk 6 [] f=false) (d:blockOfP f=none) (e:p.1.length≠0) (g:isTk 1 [101,110,100] f=false) (i:p.1.flatten.length≠400):iBody en (k+1) p=iBody en k (addLast p.1 (iInstr en p.2).1,(iInstr en p.2).2):=by
  conv=>lhs;unfold iBody
  rw [h];simp only [c,d,e,g,i,Bool.false_eq_true,if_false]
section
variable {B b gf:Nat} {W w w':World} {en:Tok} {m0 m1 m2:Value} {nm:ByteArray} {pp:Option Addr} {pn pc:Nat} {rt:Int} {q:List (List PIns)×RS} {Z:As}
def Bk (en:Tok) (k0:Nat) (q q':List (List PIns)×RS) (k:Nat):Prop :=
  tsl q'.2<k∧iBody en k0 q=iBody en k q'∧sz q'.2≤300000∧q'.1.length+q'.1.flatten.length+tsl q'.2≤500000
theorem nx_cons {s:RS} {f:Tok} {l:List Tok} (h:s.ts=f::l):nx en s=f:=by unfold nx;rw [h];rfl
set_option maxRecDepth 100000 in
set_option maxHeartbeats 16000000 in
theorem body_any (K : Kn B W en) (k0:Nat) (hk0:tsl q.2<k0) (hs0:sz q.2≤300000) (hq0:q.1.length+q.1.flatten.length+tsl q.2≤500000) (h:Fk B W b en m0 m1 m2 gf nm pp pn pc rt q Z w) :
    Calls Tryz.prog 121 #[.pointer (some ⟨b,0,none⟩),.pointer (some ⟨gf,0,none⟩)] w (fun e w' => e=.returned (.tuple #[])∧Fk B W b en m0 m1 m2 gf nm pp pn pc rt (iBody en k0 q) Z w'):=by
  obtain ⟨iI,hiI,hz0,hz1,hz2⟩:=info_parts infoIns
  have HI:=Lib.hid (And.intro hiI (And.intro hz0 (And.intro hz1 hz2)))
  clear hiI hz0 hz1 hz2
  have HK:=Lib.hid K
  have H0:=Lib.hid (And.intro h (show Bk en k0 q q k0 from ⟨hk0,rfl,hs0,hq0⟩))
  clear h K hk0 hs0 hq0
  go_enter Tryz.func121,Tryz.ntmps121
  go_wp2_with fail
  go_loopw [4] (fun t4 wr=>∃ (q':List (List PIns)×RS) (k:Nat),Fk B W b en m0 m1 m2 gf nm pp pn pc rt q' Z wr∧Bk en k0 q q' k) (fun _ wr=>lenAt b wr)
  case atStart=>exact ⟨q,k0,H0.out.1,H0.out.2⟩
  case round =>
    obtain ⟨q',k,h,hk,hm,hsz,hln⟩:=hrel
    clear H0
    obtain ⟨k,rfl⟩:∃ k',k=k'+1:=⟨k - 1,by omega⟩
    obtain ⟨⟨tp,tc,c0⟩,c1,c2,c3,c4,bl,hlen⟩:=h.ends
    cases hts:q'.2.ts with
    | nil =>
      have hn:tsl q'.2=0:=by unfold tsl;rw [hts];rfl
      rw [hn] at c0
      rw [ib_nil hts] at hm
      have HH:=Lib.hid (And.intro h hm)
      clear h hk hm hsz hln hts hn hlen
      go_wp2_with fail
      go_region_law (first | (go_simp;(with_reducible refine (HH.out.1.drew.refuse3 en).mono ?_);rintro e w2 ⟨rfl,h2⟩))
      all_goals
        go_end0
        rw [HH.out.2]
        exact ⟨rfl,h2⟩
    | cons f l =>
      have hn:tsl q'.2≠0:=by unfold tsl;rw [hts];simp
      have hf:=nx_cons (en:=en) hts
      have hgf:Gt f:=by have:=h.nx_gt HK.out;rwa [hf] at this
      have C1:=h.b0.next
      simp only [hf] at C1
      have C3:=fun w1 (h1:Fk B W b en m0 m1 m2 gf nm pp pn pc rt q' ((As.and (bxs [(w1.heap.size,tkC f)]) Z)) w1)=>True
      have CP:∀ {Z':As} w1,Fk B W b en m0 m1 m2 gf nm pp pn pc rt q' Z' w1→Calls Tryz.prog 73 #[.pointer (some ⟨b,0,none⟩),.int .i64 6,.string ⟨#[]⟩] w1 (fun e w' => e=.returned (.bool (isTk 6 [] f))∧Fk B W b en m0 m1 m2 gf nm pp pn pc rt (q'.1,sPassed en 6 [] q'.2) Z' w'):=fun w1 h1=>by
        have:=h1.passed 6 [] 6 ⟨#[]⟩ rfl rfl
        rw [hf] at this
        exact this
      have CE:∀ {Z':As} w1,Fk B W b en m0 m1 m2 gf nm pp pn pc rt q' Z' w1→Calls Tryz.prog 73 #[.pointer (some ⟨b,0,none⟩),.int .i64 1,.string ⟨#[101,110,100]⟩] w1 (fun e w' => e=.returned (.bool (isTk 1 [101,110,100] f))∧Fk B W b en m0 m1 m2 gf nm pp pn pc rt (q'.1,sPassed en 1 [101,110,100] q'.2) Z' w'):=fun w1 h1=>by
        have:=h1.passed 1 [101,110,100] 1 ⟨#[101,110,100]⟩ rfl rfl
        rw [hf] at this
        exact this
      have hpos:(0:Int)<(tsl q'.2:Int):=by omega
      have eP6:sPassed en 6 [] q'.2=if isTk 6 [] f then ps q'.2 else q'.2:=by unfold sPassed;rw [hf]
      have eP1:sPassed en 1 [101,110,100] q'.2=if isTk 1 [101,110,100] f then ps q'.2 else q'.2:=by unfold sPassed;rw [hf]
      have C2:=fun w1 (hs:Stc w1)=>blockOf_any f hgf w1 hs
      obtain ⟨nl,enl⟩:∃ nl,tsl q'.2=nl:=⟨_,rfl⟩
      rw [enl] at c0 hpos
      clear C3
      cases c6:isTk 6 [] f with
      | true =>
        rw [ib_end hts c6] at hm
        simp only [c6,if_true] at CP eP6
        rw [eP6] at CP
        have hL:tsl (ps q'.2)+1≤nl:=by rw [← enl];unfold tsl ps at *;simp;omega
        have hS:=sz_ps q'.2
        have HB:=Lib.hid (And.intro hk (And.intro hm (And.intro hsz (And.intro hln (And.intro hL (And.intro hS (And.intro hlen enl)))))))
        clear h hk hm hsz hln hts hn hlen hf hgf eP6 eP1 CE hL hS enl c6
        go_wp2_with (first | ((with_reducible refine C1.mono ?_);rintro e w1 ⟨rfl,h1⟩;have h2:=h1.bpush rfl (tkC f) 81) | ((with_reducible refine (C2 _ (h2.stc HK.out)).mono ?_);rintro e w3 ⟨rfl,hb3⟩;have h3:=h2.later hb3) | ((with_reducible refine (CP _ h3).mono ?_);rintro e w4 ⟨rfl,h4⟩))
        obtain ⟨_,_,_,_,_,_,hl9⟩:=h4.ends
        obtain ⟨a0,a1,a2,a3,a4,a5,a6,a7⟩:=HB.out
        refine ⟨⟨_,k,h4.nobx,?_,a1,?_,?_⟩,?_⟩
        · show tsl (ps q'.2)<k;omega
        · show sz (ps q'.2)≤300000;omega
        · show q'.1.length+q'.1.flatten.length+tsl (ps q'.2)≤500000;omega
        · rw [hl9,a6];show tsl (ps q'.2)<tsl q'.2;omega
      | false =>
        simp only [c6,Bool.false_eq_true,if_false] at CP eP6
        rw [eP6] at CP
        cases hbo:blockOfP f with
        | some n =>
          rw [ib_label hts c6 hbo] at hm
          simp only [hbo,Option.getD_some,Option.isSome_some] at C2
          obtain ⟨hS,hL⟩:=label_le (en:=en) q'.1.length n q'.2 hn
          have CL:∀ {Z':As} w1,Fk B W b en m0 m1 m2 gf nm pp pn pc rt q' Z' w1→_:=fun {Z'} w1 h1=>label_any HK.out n (by omega) h1
          have HB:=Lib.hid (And.intro hk (And.intro hm (And.intro hsz (And.intro hln (And.intro hL (And.intro hS (And.intro hlen enl)))))))
          clear h hk hm hsz hln hts hn hlen hf hgf eP6 eP1 CE hL hS enl c6 hbo
          go_wp2_with (first | ((with_reducible refine C1.mono ?_);rintro e w1 ⟨rfl,h1⟩;have h2:=h1.bpush rfl (tkC f) 81) | ((with_reducible refine (C2 _ (h2.stc HK.out)).mono ?_);rintro e w3 ⟨rfl,hb3⟩;have h3:=h2.later hb3) | ((with_reducible refine (CP _ h3).mono ?_);rintro e w4 ⟨rfl,h4⟩;obtain ⟨p4,d4,_,_,_,x4,y4,z4⟩:=h4.cells;obtain ⟨v0,v1,v2,v3⟩:=h4.tk4;have g4l:=(h4.bget 0 rfl).1) | ((with_reducible refine (CL _ h4).mono ?_);rintro e w5 ⟨rfl,h5⟩))
          obtain ⟨_,_,_,_,_,_,hl9⟩:=h5.ends
          obtain ⟨a0,a1,a2,a3,a4,a5,a6,a7⟩:=HB.out
          refine ⟨⟨_,k,h5.nobx,?_,a1,?_,?_⟩,?_⟩
          · show tsl (sLabel en q'.1.length n q'.2)<k;omega
          · show sz (sLabel en q'.1.length n q'.2)≤300000;omega
          · show (q'.1++[[]]).length+(q'.1++[[]]).flatten.length+tsl (sLabel en q'.1.length n q'.2)≤500000
            have e1:(q'.1++[[]]).flatten=q'.1.flatten:=by simp
            rw [e1,List.length_append,List.length_singleton]
            omega
          · rw [hl9,a6];show tsl (sLabel en q'.1.length n q'.2)<tsl q'.2;omega
        | none =>
          simp only [hbo,Option.getD_none,Option.isSome_none] at C2
          by_cases hz:q'.1.length=0
          · rw [ib_none hts c6 hbo hz] at hm
            have hL:tsl (bd 3 f q'.2)+1≤nl:=by rw [← enl];show 0+1≤_;omega
            have hS:=sz_bd 3 f q'.2
            have ez0:((q'.1.length:Int)==0)=true:=by rw [hz];rfl
            have HB:=Lib.hid (And.intro hk (And.intro hm (And.intro hsz (And.intro hln (And.intro hL (And.intro hS (And.intro hlen (And.intro enl hz))))))))
            clear h hk hm hsz hln hts hn hlen hf hgf eP6 eP1 CE hL hS enl c6 hbo hz
            go_wp2_with (first | ((with_reducible refine C1.mono ?_);rintro e w1 ⟨rfl,h1⟩;have h2:=h1.bpush rfl (tkC f) 81) | ((with_reducible refine (C2 _ (h2.stc HK.out)).mono ?_);rintro e w3 ⟨rfl,hb3⟩;have h3:=h2.later hb3) | ((with_reducible refine (CP _ h3).mono ?_);rintro e w4 ⟨rfl,h4⟩;obtain ⟨p4,d4,_,_,_,x4,y4,z4⟩:=h4.cells;obtain ⟨v0,v1,v2,v3⟩:=h4.tk4;have g4l:=(h4.bget 0 rfl).1))
            go_region_law (first | (go_simp;(with_reducible refine (h4.drew.refuse3 f).mono ?_);rintro e w5 ⟨rfl,h5⟩))
            all_goals
              go_wp2_with fail
              obtain ⟨_,_,_,_,_,_,hl9⟩:=h5.ends
              obtain ⟨a0,a1,a2,a3,a4,a5,a6,a7,a8⟩:=HB.out
              refine ⟨⟨_,k,h5.nobx,?_,a1,?_,?_⟩,?_⟩
              · show tsl (bd 3 f q'.2)<k;omega
              · show sz (bd 3 f q'.2)≤300000;omega
              · show q'.1.length+q'.1.flatten.length+tsl (bd 3 f q'.2)≤500000;omega
              · rw [hl9,a6];show tsl (bd 3 f q'.2)<tsl q'.2;omega
          · have ez : ((q'.1.length:Int)==0)=false:=beq_false_of_ne (by omega)
            cases ce:isTk 1 [101,110,100] f with
            | true =>
              rw [ib_over hts c6 hbo hz ce] at hm
              simp only [ce,if_true] at CE eP1
              rw [eP1] at CE
              have HB:=Lib.hid hm
              clear h hk hm hsz hln hts hn hlen hf hgf eP6 eP1 enl c6 hbo hz ce
              go_wp2_with (first | ((with_reducible refine C1.mono ?_);rintro e w1 ⟨rfl,h1⟩;have h2:=h1.bpush rfl (tkC f) 81) | ((with_reducible refine (C2 _ (h2.stc HK.out)).mono ?_);rintro e w3 ⟨rfl,hb3⟩;have h3:=h2.later hb3) | ((with_reducible refine (CP _ h3).mono ?_);rintro e w4 ⟨rfl,h4⟩;obtain ⟨p4,d4,_,_,_,x4,y4,z4⟩:=h4.cells;obtain ⟨v0,v1,v2,v3⟩:=h4.tk4;have g4l:=(h4.bget 0 rfl).1) | ((with_reducible refine (CE _ h4).mono ?_);rintro e w5 ⟨rfl,h5⟩) | ((with_reducible refine h5.wantLineEnd.mono ?_);rintro e w6 ⟨rfl,h6⟩))
              (try simp only [Exit.inBlock,Exit.then])
              refine bodyPost_ret (results_none rfl _ _ _) rfl ⟨rfl,?_⟩
              rw [HB.out]
              exact h6.nobx
            | false =>
              simp only [ce,Bool.false_eq_true,if_false] at CE eP1
              rw [eP1] at CE
              have CS:=fun {Z':As} w1 (h1:Fk B W b en m0 m1 m2 gf nm pp pn pc rt q' Z' w1)=>h1.size (by omega)
              by_cases h400:q'.1.flatten.length=400
              · rw [ib_full hts c6 hbo hz ce h400] at hm
                simp only [h400] at CS
                have hL:tsl (bd 6 f q'.2)+1≤nl:=by rw [← enl];show 0+1≤_;omega
                have hS:=sz_bd 6 f q'.2
                have HB:=Lib.hid (And.intro hk (And.intro hm (And.intro hsz (And.intro hln (And.intro hL (And.intro hS (And.intro hlen (And.intro enl hz))))))))
                clear h hk hm hsz hln hts hn hlen hf hgf eP6 eP1 hL hS enl c6 hbo hz h400 ce
                go_wp2_with (first | ((with_reducible refine C1.mono ?_);rintro e w1 ⟨rfl,h1⟩;have h2:=h1.bpush rfl (tkC f) 81) | ((with_reducible refine (C2 _ (h2.stc HK.out)).mono ?_);rintro e w3 ⟨rfl,hb3⟩;have h3:=h2.later hb3) | ((with_reducible refine (CP _ h3).mono ?_);rintro e w4 ⟨rfl,h4⟩;obtain ⟨p4,d4,_,_,_,x4,y4,z4⟩:=h4.cells;obtain ⟨v0,v1,v2,v3⟩:=h4.tk4;have g4l:=(h4.bget 0 rfl).1) | ((with_reducible refine (CE _ h4).mono ?_);rintro e w5 ⟨rfl,h5⟩;obtain ⟨p5,d5,u0,u1,u2,u3,u4,CZ⟩:=CS _ h5) | ((with_reducible refine CZ.mono ?_);rintro e w6 ⟨rfl,hb6⟩;have h6:=h5.later hb6;obtain ⟨v0,v1,v2,v3⟩:=h6.tk4;have g4l:=(h6.bget 0 rfl).1))
                go_region_law (first | (go_simp;(with_reducible refine (h6.drew.refuse6 f).mono ?_);rintro e w7 ⟨rfl,h7⟩))
                all_goals
                  go_wp2_with fail
                  obtain ⟨_,_,_,_,_,_,hl9⟩:=h7.ends
                  obtain ⟨a0,a1,a2,a3,a4,a5,a6,a7,a8⟩:=HB.out
                  refine ⟨⟨_,k,h7.nobx,?_,a1,?_,?_⟩,?_⟩
                  · show tsl (bd 6 f q'.2)<k;omega
                  · show sz (bd 6 f q'.2)≤300000;omega
                  · show q'.1.length+q'.1.flatten.length+tsl (bd 6 f q'.2)≤500000;omega
                  · rw [hl9,a6];show tsl (bd 6 f q'.2)<tsl q'.2;omega
              · rw [ib_ins hts c6 hbo hz ce h400] at hm
                obtain ⟨hS,hL⟩:=instr_le HK.out.2.2.2 q'.2 hn
                obtain ⟨fl,efl⟩:∃ fl,q'.1.flatten.length=fl:=⟨_,rfl⟩
                simp only [efl] at CS
                have e400:((fl:Int)==400)=false:=beq_false_of_ne (by omega)
                have CI:∀ {Z':As} w1,Pk B W b en m0 m1 m2 q'.2 Z' w1→Calls Tryz.prog 154 #[.pointer (some ⟨b,0,none⟩)] w1 (fun e w' => ∃ x:LI,insD x=(iInstr en q'.2).1∧e=.returned (.agg #[.int .i64 x.1.op,.int .i64 x.1.reg,.int .i64 x.1.ty,.int .i64 x.1.n,.int .i64 x.1.fl,.slice x.1.ap x.1.al x.1.ac,.slice x.1.tp x.1.tl x.1.tc])∧Pk B W b en m0 m1 m2 (iInstr en q'.2).2 ((As.and (insRow B x) Z')) w'):=fun {Z'} w1 h1=>instr_any HK.out hsz h1
                have COP:=fun {Z':As} w1 (h1:Fk B W b en m0 m1 m2 gf nm pp pn pc rt q' Z' w1)=>h1.open hz
                have HB:=Lib.hid (And.intro hk (And.intro hm (And.intro hsz (And.intro hln (And.intro hL (And.intro hS (And.intro hlen (And.intro enl efl))))))))
                clear h hk hm hsz hln hts hn hlen hf hgf eP6 eP1 hL hS enl c6 hbo hz h400 ce efl
                go_wp2_with (first | ((with_reducible refine C1.mono ?_);rintro e w1 ⟨rfl,h1⟩;have h2:=h1.bpush rfl (tkC f) 81) | ((with_reducible refine (C2 _ (h2.stc HK.out)).mono ?_);rintro e w3 ⟨rfl,hb3⟩;have h3:=h2.later hb3) | ((with_reducible refine (CP _ h3).mono ?_);rintro e w4 ⟨rfl,h4⟩;obtain ⟨p4,d4,_,_,_,x4,y4,z4⟩:=h4.cells;obtain ⟨v0,v1,v2,v3⟩:=h4.tk4;have g4l:=(h4.bget 0 rfl).1) | ((with_reducible refine (CE _ h4).mono ?_);rintro e w5 ⟨rfl,h5⟩;obtain ⟨p5,d5,u0,u1,u2,u3,u4,CZ⟩:=CS _ h5) | ((with_reducible refine CZ.mono ?_);rintro e w6 ⟨rfl,hb6⟩;have h6:=h5.later hb6;obtain ⟨gB,bc,bs,c,eq1,hP⟩:=COP _ h6;obtain ⟨t0,t1,t2,t3,t4,t5,t6,t7⟩:=F0.facts hP.satZ;have T5:=Lib.hid t5;clear t5))
                obtain ⟨m,em⟩:∃ m,bs.length=m:=⟨_,rfl⟩
                have hcl:c.code.length≤fl∧m≤500000:=by
                  have e1:=congrArg (fun l=>l.flatten.length) eq1
                  have e2:=congrArg List.length eq1
                  simp only [List.flatten_append,List.length_append,List.length_map,List.length_singleton] at e1 e2
                  have e3:[blkD c].flatten.length=c.code.length:=by unfold blkD;simp
                  obtain ⟨_,_,_,a3,_,_,_,_,a8⟩:=HB.out
                  omega
                have hw1:IntKind.i64.wrap (m:Int)=(m:Int):=by rw [IntKind.wrap_i64];omega
                have hw2:wrap64 (m:Int)=(m:Int):=by unfold wrap64;omega
                have hlt:(m:Int)<(m:Int)+1:=by omega
                have HC:=Lib.hid (And.intro hcl (And.intro eq1 em))
                have HP:=Lib.hid hP
                rw [em] at t0 t2 t3 t6
                clear hcl eq1 em hP
                go_region
                all_goals
                  go_wp2_with fail
                  go_region_law (first | (refine step_app rfl (.tmp 39) (.tmp 42) 44 rfl iI _ 88 Tryz.underlying44 HI.out.1 HI.out.2.1 HI.out.2.2.1 HI.out.2.2.2 rfl (by decide) rfl (HG.out.1.alloc _) x _ 1 rfl rfl (ins_lit _ x) (liC_one x) (by have:=HC.out.1.1;have:=HB.out.2.2.2.1;have:=HB.out.2.2.2.2.2.2.2.2;unfold maxLen;omega) (by have:=HC.out.1.1;have:=HB.out.2.2.2.1;have:=HB.out.2.2.2.2.2.2.2.2;omega) ?_;intro p' c' w8 hS8;obtain ⟨j0,j1,j2⟩:=HG.out.2.1 _ _ hS8;rw [HC.out.2.2] at j0 j1) | (go_simp;(with_reducible refine (CI _ HP.out.drew.drew).mono ?_);rintro e w7 ⟨x,ex,rfl,h7⟩;obtain ⟨Y,hG⟩:=Fk.push1 h7;have HG:=Lib.hid hG;have HX:=Lib.hid ex;obtain ⟨i0,i1,i2⟩:=hG.2.1 _ _ hG.1;rw [HC.out.2.2] at i0 i1;clear hG ex h7))
                  all_goals
                    go_wp2_with fail
                    have q8:=HG.out.2.2 _ _ _ _ hS8
                    have eq1:=HC.out.2.1
                    have el:bs.map blkD++[blkD c++[insD x]]=addLast q'.1 (iInstr en q'.2).1:=by
                      rw [← HX.out,eq1]
                      unfold addLast
                      simp
                    rw [HC.out.2.2,el] at q8
                    obtain ⟨_,_,_,_,_,_,hl9⟩:=q8.ends
                    obtain ⟨a0,a1,a2,a3,a4,a5,a6,a7,a8⟩:=HB.out
                    refine ⟨⟨_,k,q8.nobx,?_,a1,?_,?_⟩,?_⟩
                    · show tsl (iInstr en q'.2).2<k;omega
                    · show sz (iInstr en q'.2).2≤300000;omega
                    · show (addLast q'.1 (iInstr en q'.2).1).length+(addLast q'.1 (iInstr en q'.2).1).flatten.length+tsl (iInstr en q'.2).2≤500000
                      have e1:=congrArg (fun l=>l.flatten.length) eq1
                      have e2:=congrArg List.length eq1
                      have e3:=congrArg (fun l=>l.flatten.length) el
                      have e4:=congrArg List.length el
                      simp only [List.flatten_append,List.length_append,List.length_map,List.length_singleton] at e1 e2 e3 e4
                      have e5:[blkD c++[insD x]].flatten.length=[blkD c].flatten.length+1:=by simp
                      omega
                    · rw [hl9,a6];show tsl (iInstr en q'.2).2<tsl q'.2;omega
end
def Tk (B:Nat) (W:World) (b:Nat) (en:Tok) (m0 m1 m2:Value) (g:Nat) (q:List Int×RS) (Z:As) (w:World):Prop :=
  ∃ (p:Option Addr) (c:Nat),Pk B W b en m0 m1 m2 q.2 ((As.and (bx g [.slice p q.1.length c]) (As.and (rw' B 3 1 intC p q.1.length c q.1) Z))) w
section
variable {B b g bp:Nat} {W w w':World} {en:Tok} {m0 m1 m2:Value} {s:RS} {q:List Int×RS} {Z:As}
theorem Tk.rd (h:Tk B W b en m0 m1 m2 g q Z w):∃ r Z',Rd B W b en m0 m1 m2 r q.2 Z' w∧∀ s' w',s'.asked=q.2.asked→Rd B W b en m0 m1 m2 r s' Z' w'→Tk B W b en m0 m1 m2 g (q.1,s') Z w':=by
  obtain ⟨p,c,h⟩:=h
  obtain ⟨r,Z2,h2,k2⟩:=h.rd
  exact ⟨r,Z2,h2,fun s' w' e h' => ⟨p,c,k2 _ _ e h'⟩⟩
theorem holds_Tk:Holds B W b en (fun q w=>Tk B W b en m0 m1 m2 g q Z w):=fun q w h=>by
  obtain ⟨r,Z',hr,back⟩:=h.rd
  exact ⟨m0,m1,m2,r,Z',hr,back⟩
theorem intsz (l:List Int) (v:Int):(l++[v]).length=l.length+1:=by simp
theorem Pk.grow1 {p:Option Addr} {c:Nat} {l:List Int} (h:Pk B W b en m0 m1 m2 s ((As.and (bx g [.slice p l.length c]) (As.and (rw' B 3 1 intC p l.length c l) Z))) w):∃ Y,St B W ((As.and (rw' B 3 1 intC p l.length c l) Y)) w ∧
    (∀ X w',St B W ((As.and X Y)) w'→w'.cell? ⟨g,0,none⟩=some (.slice p l.length c)∧w'.frozen? ⟨g,0,none⟩=false∧g<w'.heap.size) ∧
    ∀ p' c' v w',St B W ((As.and (rw' B 3 1 intC p' (l.length+1) c' (l++[v])) Y)) w'→Pk B W b en m0 m1 m2 s ((As.and (bx g [.slice p' (l++[v]).length c']) (As.and (rw' B 3 1 intC p' (l++[v]).length c' (l++[v])) Z))) (w'.setCell ⟨g,0,none⟩ (.slice p' (l.length+1) c')):=by
  obtain ⟨Y,hs,back⟩:=h.st
  refine ⟨(As.and (bx g [.slice p l.length c]) (As.and Z Y)),hs.imp ⟨fun w x=>⟨x.1.2.1,x.1.1,x.1.2.2,x.2⟩,fun k=>by simp only [As.and_c];omega⟩,fun X w' h' => (have hb:Box g [.slice p l.length c] w':=h'.sat.2.1;⟨hb.get 0 _ rfl,hb.2.1 0,hb.1⟩),fun p' c' v w' h' => ?_⟩
  rw [intsz]
  refine back _ _ ?_
  have h4:St B W ((As.and (bx g [.slice p l.length c]) (As.and (rw' B 3 1 intC p' (l.length+1) c' (l++[v])) (As.and Z Y)))) w':=h'.imp ⟨fun w x=>⟨x.2.1,x.1,x.2.2.1,x.2.2.2⟩,fun k=>by simp only [As.and_c];omega⟩
  exact (h4.set 0 (.slice p' (l.length+1) c')).imp ⟨fun w x=>⟨⟨x.1,x.2.1,x.2.2.1⟩,x.2.2.2⟩,fun k=>by simp only [As.and_c,bx_c];omega⟩
theorem Pk.parts {v:Value} {R:As} {g2:Nat} {t:Tok} (h:Pk B W b en m0 m1 m2 s ((As.and (bx g [v]) (As.and R ((As.and (bxs [(g2,tkC t),(bp,[.pointer (some ⟨b,0,none⟩)])]) Z))))) w) :
    w.cell? ⟨g,0,none⟩=some v∧w.frozen? ⟨g,0,none⟩=false∧g<w.heap.size∧(w.cell? ⟨g2,0,none⟩=some (.int .i64 t.kind)∧w.cell? ⟨g2,1,none⟩=some (.string (str t.body))∧w.cell? ⟨g2,2,none⟩=some (.int .i64 t.line)∧w.cell? ⟨g2,3,none⟩=some (.int .i64 t.col))∧w.cell? ⟨bp,0,none⟩=some (.pointer (some ⟨b,0,none⟩))∧bp<w.heap.size∧g2<w.heap.size:=by
  have hs:=h.satZ
  have hb:Box g [v] w:=hs.1
  have h1:Box g2 (tkC t) w:=hs.2.2.1.1
  have h2:Box bp _ w:=hs.2.2.1.2.1
  exact ⟨hb.get 0 _ rfl,hb.2.1 0,hb.1,⟨h1.get 0 _ rfl,h1.get 1 _ rfl,h1.get 2 _ rfl,h1.get 3 _ rfl⟩,h2.get 0 _ rfl,h2.1,h1.1⟩
theorem Pk.dropT {X R:As} {g2:Nat} {t:Tok} (h:Pk B W b en m0 m1 m2 s ((As.and X (As.and R ((As.and (bxs [(g2,tkC t),(bp,[.pointer (some ⟨b,0,none⟩)])]) Z))))) w):Pk B W b en m0 m1 m2 s ((As.and X (As.and R ((As.and (bxs [(bp,[.pointer (some ⟨b,0,none⟩)])]) Z))))) w :=
  h.imp ((As.le.refl _).and ((As.le.refl _).and ((show (bxs [(g2,tkC t),(bp,[.pointer (some ⟨b,0,none⟩)])]).le (bxs [(bp,[.pointer (some ⟨b,0,none⟩)])]) from ⟨fun w x=>x.2,fun k=>by simp only [bxs,As.all_cons,As.and_c];omega⟩).and (As.le.refl _))))
set_option maxRecDepth 100000 in
set_option maxHeartbeats 4000000 in
theorem param_any (K:Kn B W en) (hl:q.1.length≤1000000) (h:Tk B W b en m0 m1 m2 g q ((As.and (bxs [(bp,[.pointer (some ⟨b,0,none⟩)])]) Z)) w) :
    Calls Tryz.prog 149 #[.pointer (some ⟨bp,0,none⟩),.pointer (some ⟨g,0,none⟩)] w (fun e w' => e=.returned (.tuple #[])∧Tk B W b en m0 m1 m2 g (iParam en q) ((As.and (bxs [(bp,[.pointer (some ⟨b,0,none⟩)])]) Z)) w'):=by
  obtain ⟨iN,hiN,hz0,hz1,hz2⟩:=info_parts infoNt
  have HI:=Lib.hid (And.intro hiN (And.intro hz0 (And.intro hz1 hz2)))
  clear hiN hz0 hz1 hz2
  obtain ⟨p,c,hP⟩:=h
  -- the boxes ahead of all
  have h0:Pk B W b en m0 m1 m2 q.2 ((As.and (bxs [(bp,[.pointer (some ⟨b,0,none⟩)])]) ((As.and (bx g [.slice p q.1.length c]) (As.and (rw' B 3 1 intC p q.1.length c q.1) Z))))) w:=hP.imp ⟨fun w x=>⟨x.2.2.1,x.1,x.2.1,x.2.2.2⟩,fun k=>by simp only [As.and_c];omega⟩
  have b0:=(h0.bget 0 rfl).get 0 _ rfl
  have bl:=(h0.bget 0 rfl).1
  have C1:=h0.next
  unfold iParam
  obtain ⟨t,et⟩:∃ t,nx en q.2=t:=⟨_,rfl⟩
  simp only [et] at C1 ⊢
  have CW:∀ {Z':As} w1,Pk B W b en m0 m1 m2 q.2 Z' w1→_:=fun {Z'} w1 h1=>h1.wantType K
  obtain ⟨v,ev⟩:∃ v,vType en q.2=v:=⟨_,rfl⟩
  simp only [ev] at CW ⊢
  obtain ⟨n,en0⟩:∃ n,q.1.length=n:=⟨_,rfl⟩
  have HH:=Lib.hid (And.intro hl en0)
  have toT:∀ w2 g2 s2,Pk B W b en m0 m1 m2 s2 ((As.and (bxs [(g2,tkC t),(bp,[.pointer (some ⟨b,0,none⟩)])]) ((As.and (bx g [.slice p q.1.length c]) (As.and (rw' B 3 1 intC p q.1.length c q.1) Z))))) w2 →
      Pk B W b en m0 m1 m2 s2 ((As.and (bx g [.slice p q.1.length c]) (As.and (rw' B 3 1 intC p q.1.length c q.1) ((As.and (bxs [(g2,tkC t),(bp,[.pointer (some ⟨b,0,none⟩)])]) Z))))) w2:=fun w2 g2 s2 h2=>h2.imp ⟨fun w x=>⟨x.2.1,x.2.2.1,x.1,x.2.2.2⟩,fun k=>by simp only [As.and_c];omega⟩
  clear h0 hP et ev K hl
  have hint:=int_lit
  by_cases h8:8<n+1
  · have d8:(8:Int)<(q.1.length:Int)+1:=by omega
    rw [if_pos (by rw [intsz,en0];exact h8)]
    clear en0 h8
    go_enter Tryz.func149,Tryz.ntmps149
    go_wp2_with ((with_reducible refine C1.mono ?_);rintro e w1 ⟨rfl,h1⟩;have h2:=toT _ _ _ (h1.bpush rfl (tkC t) 81);obtain ⟨x0,x1,x2,⟨x3,x4,x5,x6⟩,x7,x8,x9⟩:=h2.parts;rw [HH.out.2] at x0)
    go_region_law (first | (refine step_app rfl (.tmp 7) (.tmp 12) 40 rfl iN _ 8 Tryz.underlying40 HI.out.1 HI.out.2.1 HI.out.2.2.1 HI.out.2.2.2 rfl (by decide) (by rw [← HH.out.2];rfl) (HG.out.1.alloc _) v _ 1 rfl rfl (int_lit _ v) (intC_one v) (by have:=HH.out.1;unfold maxLen;omega) (by have:=HH.out.1;omega) ?_;intro p' c' w4 hS4;obtain ⟨j0,j1,j2⟩:=HG.out.2.1 _ _ hS4;rw [HH.out.2] at j0) | (go_simp;(with_reducible refine (CW _ h2.drew).mono ?_);rintro e w3 ⟨rfl,h3⟩;obtain ⟨y0,y1,y2,⟨y3,y4,y5,y6⟩,y7,y8,y9⟩:=h3.parts;rw [HH.out.2] at y0;obtain ⟨Y,hG⟩:=h3.grow1;have HG:=Lib.hid hG;clear hG))
    all_goals
      have h5:=HG.out.2.2 p' c' v w4 hS4
      obtain ⟨z0,z1,z2,⟨z3,z4,z5,z6⟩,z7,z8,z9⟩:=h5.parts
      rw [intsz] at z0
      go_wp2_with fail
      go_region_law (first | (go_simp;(with_reducible refine (h5.drew.refuse6 t).mono ?_);rintro e w6 ⟨rfl,h6⟩))
      all_goals
        go_end0
        exact ⟨rfl,p',c',h6.dropT⟩
  · have d8:¬ (8:Int)<(q.1.length:Int)+1:=by omega
    rw [if_neg (by rw [intsz,en0];exact h8)]
    clear en0 h8
    go_enter Tryz.func149,Tryz.ntmps149
    go_wp2_with ((with_reducible refine C1.mono ?_);rintro e w1 ⟨rfl,h1⟩;have h2:=toT _ _ _ (h1.bpush rfl (tkC t) 81);obtain ⟨x0,x1,x2,⟨x3,x4,x5,x6⟩,x7,x8,x9⟩:=h2.parts;rw [HH.out.2] at x0)
    go_region_law (first | (refine step_app rfl (.tmp 7) (.tmp 12) 40 rfl iN _ 8 Tryz.underlying40 HI.out.1 HI.out.2.1 HI.out.2.2.1 HI.out.2.2.2 rfl (by decide) (by rw [← HH.out.2];rfl) (HG.out.1.alloc _) v _ 1 rfl rfl (int_lit _ v) (intC_one v) (by have:=HH.out.1;unfold maxLen;omega) (by have:=HH.out.1;omega) ?_;intro p' c' w4 hS4;obtain ⟨j0,j1,j2⟩:=HG.out.2.1 _ _ hS4;rw [HH.out.2] at j0) | (go_simp;(with_reducible refine (CW _ h2.drew).mono ?_);rintro e w3 ⟨rfl,h3⟩;obtain ⟨y0,y1,y2,⟨y3,y4,y5,y6⟩,y7,y8,y9⟩:=h3.parts;rw [HH.out.2] at y0;obtain ⟨Y,hG⟩:=h3.grow1;have HG:=Lib.hid hG;clear hG))
    all_goals
      have h5:=HG.out.2.2 p' c' v w4 hS4
      obtain ⟨z0,z1,z2,⟨z3,z4,z5,z6⟩,z7,z8,z9⟩:=h5.parts
      rw [intsz] at z0
      go_wp2_with fail
      go_end0
      exact ⟨rfl,p',c',h5.dropT⟩
end
theorem tsl_param (en:Tok) (q:List Int×RS):(iParam en q).2.ts.length≤q.2.ts.length:=by
  unfold iParam
  dsimp only
  split
  · exact Nat.zero_le _
  · exact tsl_type en q.2
section
variable {B b g bp:Nat} {W w w':World} {en:Tok} {m0 m1 m2:Value} {s:RS} {q:List Int×RS} {Z:As}
set_option maxRecDepth 100000 in
theorem enters_ty:∀ (args:Array Value) (w:World),(callFunc 149 args).run Tryz.prog w=.ok (.enter 149 args) w:=fun _ _=>rfl
theorem Tk.typesC (h:Tk B W b en m0 m1 m2 g q ((As.and (bxs [(bp,[.pointer (some ⟨b,0,none⟩)])]) Z)) w) (K:Kn B W en) (hL:q.1.length+tsl q.2≤600000) :
    Calls Tryz.prog 148 #[.pointer (some ⟨b,0,none⟩),.func (.func 149) #[] #[.pointer (some ⟨bp,0,none⟩),.pointer (some ⟨g,0,none⟩)]] w (fun e w' => e=.returned (.tuple #[])∧Tk B W b en m0 m1 m2 g (sBrackets en (iParam en) q) ((As.and (bxs [(bp,[.pointer (some ⟨b,0,none⟩)])]) Z)) w') :=
  inBrackets_any (Kq:=fun q=>q.1.length+tsl q.2≤600000) K.2.2.2 holds_Tk enters_ty (fun q w hq hI=>param_any K (by omega) hI) (tsl_param en)
    (fun q hq hc=>by
      have hne:(iParam en q).2.ts.length≠0:=ts_of_kind K.2.2.2 (by unfold isTk at hc;rw [Bool.and_eq_true] at hc;have:=hc.1;simp at this;omega)
      have h1:=tsl_param en q
      have h2:(iParam en q).1.length=q.1.length+1:=intsz _ _
      have h3:tsl (ps (iParam en q).2)+1≤(iParam en q).2.ts.length:=by unfold tsl ps;simp;omega
      show (iParam en q).1.length+tsl (ps (iParam en q).2)≤600000
      unfold tsl at hq h3 ⊢
      omega) q (by have:=tsl_this en 5 [40] q.2;show q.1.length+tsl (sThis en 5 [40] q.2)≤600000;omega) h
set_option maxRecDepth 100000 in
set_option maxHeartbeats 4000000 in
theorem types_any (K:Kn B W en) (hL:tsl s≤500000) (h:Pk B W b en m0 m1 m2 s Z w) :
    Calls Tryz.prog 120 #[.pointer (some ⟨b,0,none⟩)] w (fun e w' => ∃ p c,e=.returned (.tuple #[.slice p (vTypes en s).1.length c,.int .i64 (vTypes en s).2])∧Pk B W b en m0 m1 m2 (sTypes en s) ((As.and (rw' B 3 1 intC p (vTypes en s).1.length c (vTypes en s).1) Z)) w'):=by
  have h0:=h.b0.bpush rfl [.pointer (some ⟨b,0,none⟩)] 79
  have hP:=h0.push (g:=w.heap.size+1) (by simp) [.slice none 0 0] 40
  have h1:Tk B W b en m0 m1 m2 (w.heap.size+1) ([],s) ((As.and (bxs [(w.heap.size,[.pointer (some ⟨b,0,none⟩)])]) Z)) ((w.alloc (.cells #[.pointer (some ⟨b,0,none⟩)] 79)).alloc (.cells #[.slice none 0 0] 40)) :=
    ⟨none,0,hP.imp ⟨fun w x=>⟨x.1,rw_nil w,x.2.1,x.2.2⟩,fun k=>by simp only [As.and_c,rw_c,cR,bx_c];omega⟩⟩
  have hmf:∀ (fn:Fn) (first cap:Array Value) (w:World),(Instr.makeFunc fn first cap).run Tryz.prog w=.ok (.func fn first cap) w:=fun _ _ _ _=>rfl
  have C:=h1.typesC K (by show 0+tsl s≤600000;omega)
  have HK:=Lib.hid K
  unfold vTypes sTypes
  obtain ⟨q,eq⟩:∃ q,sBrackets en (iParam en) ([],s)=q:=⟨_,rfl⟩
  simp only [eq] at C ⊢
  have CW:∀ {Z':As} w1,Pk B W b en m0 m1 m2 q.2 Z' w1→_:=fun {Z'} w1 h1=>h1.wantType K
  obtain ⟨v,ev⟩:∃ v,vType en q.2=v:=⟨_,rfl⟩
  simp only [ev] at CW ⊢
  obtain ⟨n,en0⟩:∃ n,q.1.length=n:=⟨_,rfl⟩
  have HN:=Lib.hid en0
  have toT:∀ {p c} w2 s2,Pk B W b en m0 m1 m2 s2 ((As.and (bx (w.heap.size+1) [.slice p q.1.length c]) (As.and (rw' B 3 1 intC p q.1.length c q.1) ((As.and (bxs [(w.heap.size,[.pointer (some ⟨b,0,none⟩)])]) Z))))) w2→(w2.cell? ⟨w.heap.size+1,0,none⟩=some (.slice p n c)∧w.heap.size+1<w2.heap.size∧w2.cell? ⟨w.heap.size,0,none⟩=some (.pointer (some ⟨b,0,none⟩))∧w.heap.size<w2.heap.size)∧Pk B W b en m0 m1 m2 s2 ((As.and (rw' B 3 1 intC p n c q.1) Z)) w2:=fun {p c} w2 s2 h2=>by
    have hs:=h2.satZ
    have hb:Box (w.heap.size+1) _ w2:=hs.1
    have hb2:Box w.heap.size _ w2:=hs.2.2.1.1
    rw [← en0]
    exact ⟨⟨hb.get 0 _ rfl,hb.1,hb2.get 0 _ rfl,hb2.1⟩,h2.imp ⟨fun w x=>⟨x.2.1,x.2.2.2⟩,fun k=>by simp only [As.and_c];omega⟩⟩
  clear h h0 hP h1 K eq ev hL
  simp only [en0]
  clear en0
  go_enter Tryz.func120,Tryz.ntmps120
  go_wp2_with ((with_reducible refine C.mono ?_);rintro e w1 ⟨rfl,p,c,h2⟩;obtain ⟨⟨x0,x1,x2,x3⟩,_⟩:=toT _ _ h2)
  go_region_law (first | (go_simp;(with_reducible refine (CW _ h2.drew).mono ?_);rintro e w3 ⟨rfl,h3⟩;obtain ⟨⟨y0,y1,y2,y3⟩,h4⟩:=toT _ _ h3))
  all_goals
    go_wp2_with fail
    go_ret2
    exact ⟨p,c,rfl,h4⟩
end
def fnAs (B:Nat) (f:LFn):As:=(As.and (rw' B 3 1 intC f.pp f.pn f.pc f.ps) (blksAs B f.bp f.bn f.bc f.bs))
def extAs (B:Nat) (x:LExt):As:=rw' B 3 1 intC x.pp x.pn x.pc x.ps
def varsAs (B:Nat) (m:LMod):As:=rw' B 39 2 varC m.vp m.vn m.vc m.vs
def extsAs (B:Nat) (m:LMod):As:=(As.and (rw' B 52 3 extC m.xp m.xn m.xc m.xs) (As.all (extAs B) m.xs))
def fnsAs (B:Nat) (m:LMod):As:=(As.and (rw' B 49 4 fnC m.fp m.fn m.fc m.fs) (As.all (fnAs B) m.fs))
def modAs (B:Nat) (m:LMod):As:=(As.and (varsAs B m) (As.and (extsAs B m) (fnsAs B m)))
theorem mod_in {B:Nat} {m:LMod} {w:World} (h:(modAs B m).sat w):ModIn w.heap.size w m :=
  ⟨list_in (m:=2) (by decide) (fun _=>rfl) h.1 (fun _ _=>trivial),
    list_in (m:=3) (by decide) (fun _=>rfl) h.2.1.1 (fun x hx=>list_in (m:=1) (by decide) (fun _=>rfl) (As.all_mem _ h.2.1.2 x hx) (fun _ _=>trivial)),
    list_in (m:=4) (by decide) (fun _=>rfl) h.2.2.1 (fun f hf=>⟨list_in (m:=1) (by decide) (fun _=>rfl) (As.all_mem _ h.2.2.2 f hf).1 (fun _ _=>trivial),blks_in (As.all_mem _ h.2.2.2 f hf).2⟩)⟩
def Mk (B:Nat) (W:World) (b:Nat) (en:Tok) (mm:PMod) (s:RS) (Z:As) (w:World):Prop :=
  ∃ m:LMod,modD m=mm∧Pk B W b en (.slice m.vp m.vn m.vc) (.slice m.xp m.xn m.xc) (.slice m.fp m.fn m.fc) s ((As.and (modAs B m) Z)) w
theorem Pk.lt {B b:Nat} {W w:World} {en:Tok} {m0 m1 m2:Value} {s:RS} {Z:As} (h:Pk B W b en m0 m1 m2 s Z w):b<w.heap.size:=by
  obtain ⟨h1,ap,ac,h2,h3,tp,tn,tc,h⟩:=h
  exact h.box.1
theorem idx_some {α:Type} {t:α→Bool} {xs:List α} {i:Nat} (hi:i<xs.length) (ht:t xs[i]=true) (hn:∀ (j:Nat) (h:j<xs.length),j<i→t xs[j]=false):xs.findIdx? t=some i:=by
  rw [List.findIdx?_eq_some_iff_getElem]
  exact ⟨hi,ht,fun j hj=>by simp [hn j (by omega) hj]⟩
theorem idx_none {α:Type} {t:α→Bool} {xs:List α} (hn:∀ (j:Nat) (h:j<xs.length),t xs[j]=false):xs.findIdx? t=none:=by
  rw [List.findIdx?_eq_none_iff]
  intro x hx
  obtain ⟨j,hj,rfl⟩:=List.mem_iff_getElem.1 hx
  exact hn j hj
def idxV (o:Option Nat):Int:=match o with | some k=>(k:Int) | none=>-1
theorem hstr (a:ByteArray) (x:Tx):(a.toList==(str x).toList)=(byt a==x):=by rw [str_tl,ByteArray.toList_eq];rfl
set_option maxRecDepth 100000 in
set_option maxHeartbeats 4000000 in
theorem IndexFunc_V (xs:List PVar) (B:Nat) (p:Option Addr) (n c:Nat) (W:World) (hrow:rowP B 39 2 varC p n c xs W) (fn:FuncId) (cap:Array Value) (test:PVar→Bool)
    (hen:∀ (args:Array Value) (w:World),(callFunc fn args).run Tryz.prog w=.ok (.enter fn args) w)
    (hcl:∀ x∈xs,∀ w,Below W.heap.size W w→Calls Tryz.prog fn (#[.agg #[.string x.nm,.int .i64 x.size]]++cap) w (fun e w' => e=.returned (.bool (test x))∧Below w.heap.size w w')) :
    Calls Tryz.prog 89 #[.slice p n c,.func (.func fn) #[] cap] W (fun e w' => e=.returned (.int .i64 (idxV (xs.findIdx? test)))∧Below W.heap.size W w'):=by
  obtain ⟨hn,hr⟩:=hrow
  subst hn
  have hcp:∀ (i:Nat) (hi:i<xs.length),∃ g,p=some ⟨g,0,none⟩∧g<W.heap.size:=fun i hi=>by
    rcases hr.2 with ⟨e,h0⟩ | ⟨g,cap,cur,e,hg,hh,_⟩
    · omega
    · injection e with e1 e2 e3
      exact ⟨g,e1,(Array.getElem?_eq_some_iff.1 hh).1⟩
  have hbb:xs.length≤c∧c≤maxLen:=by
    rcases hr.2 with ⟨e,h0⟩ | ⟨g,cap,cur,e,hg,hh,k1,k2,_⟩
    · injection e with e1 e2 e3;omega
    · injection e with e1 e2 e3;subst e3;exact ⟨k1,k2⟩
  have HR:=Lib.hid (And.intro hr (And.intro hcp hbb))
  have HC:=Lib.hid hcl
  have hlen:xs.length≤9223372036854775807:=by have:=hbb.1;have:=hbb.2;unfold maxLen at *;omega
  clear hr hcp hbb hcl
  go_enter Tryz.func89,Tryz.ntmps89
  go_wp2_with fail
  go_loopw [5,8] (fun t5 t8 wr=>∃ i:Nat,i≤xs.length∧t8=.int .i64 i∧Hid (Below W.heap.size W wr∧∀ (j:Nat) (h:j<xs.length),j<i→test xs[j]=false)) (fun _ t8 _=>xs.length - (intOf t8).toNat)
  case atStart=>exact ⟨0,Nat.zero_le _,rfl,Lib.hid ⟨Below.refl _ _,fun j _ h=>absurd h (Nat.not_lt_zero _)⟩⟩
  case round =>
    obtain ⟨i,hi,rfl,hI⟩:=hrel
    by_cases hlt:i<xs.length
    · have hd:decide ((i:Int)<(xs.length:Int))=true:=by simp;omega
      obtain ⟨g,rfl,hg⟩:=HR.out.2.1 i hlt
      have hcell:∀ (r:Nat) (u:Value),r<2→(varC xs[i])[r]? = some u→wr.cell? ⟨g,i * 2+r,none⟩=some u:=fun r u hr hu=>by
        have:=HR.out.1.cells (g:=g) rfl (i * 2+r) u (by rw [flat_get varC 2 (fun _=>rfl) xs i hlt r hr];exact hu)
        rw [Addr.add_mid,Nat.zero_add] at this
        exact (hI.out.1.cell (p:=⟨g,i * 2+r,none⟩) hg).trans this
      have C:=HC.out xs[i] (List.getElem_mem hlt) wr hI.out.1
      obtain ⟨y,ey⟩:∃ y,xs[i]=y:=⟨_,rfl⟩
      rw [ey] at C
      have r0:wr.cell? ⟨g,i * 2,none⟩=some (.string y.nm):=by rw [← ey];exact hcell 0 _ (by decide) rfl
      have r1:wr.cell? ⟨g,i * 2+1,none⟩=some (.int .i64 y.size):=by rw [← ey];exact hcell 1 _ (by decide) rfl
      have gl:=(Nat.lt_of_lt_of_le hg hI.out.1.size)
      have EY:=Lib.hid ey
      clear hcell ey
      have ea:∀ (l:List Value),(#[.agg l.toArray]:Array Value)++cap=#[.agg l.toArray]++cap:=fun _=>rfl
      clear ea
      cases ht:test y with
      | true =>
        rw [ht] at C
        have HT:=Lib.hid ht
        clear ht
        go_wp2_with ((with_reducible refine C.mono ?_);rintro e w2 ⟨rfl,h2⟩)
        go_ret
        refine ⟨?_,hI.out.1.trans (h2.mono hI.out.1.size)⟩
        have hk:xs.findIdx? test=some i:=idx_some hlt (by rw [EY.out];exact HT.out) hI.out.2
        rw [hk]
        rfl
      | false =>
        rw [ht] at C
        have HT:=Lib.hid ht
        clear ht
        go_wp2_with ((with_reducible refine C.mono ?_);rintro e w2 ⟨rfl,h2⟩)
        exact ⟨⟨i+1,by omega,by go_num,Lib.hid ⟨hI.out.1.trans (h2.mono hI.out.1.size),fun j h hj=>by
          by_cases e:j=i
          · subst e;rw [EY.out];exact HT.out
          · exact hI.out.2 j h (by omega)⟩⟩,by simp [intOf];omega⟩
    · obtain rfl:i=xs.length:=by omega
      go_wp2_with fail
      go_ret
      refine ⟨?_,hI.out.1⟩
      rw [idx_none (fun j h=>hI.out.2 j h h)]
      rfl
set_option maxRecDepth 100000 in
set_option maxHeartbeats 4000000 in
theorem IndexFunc_X (xs:List LExt) (B:Nat) (p:Option Addr) (n c:Nat) (W:World) (hrow:rowP B 52 3 extC p n c xs W) (fn:FuncId) (cap:Array Value) (test:LExt→Bool)
    (hen:∀ (args:Array Value) (w:World),(callFunc fn args).run Tryz.prog w=.ok (.enter fn args) w)
    (hcl:∀ x∈xs,∀ w,Below W.heap.size W w→Calls Tryz.prog fn (#[.agg #[.string x.nm,.slice x.pp x.pn x.pc,.int .i64 x.rt]]++cap) w (fun e w' => e=.returned (.bool (test x))∧Below w.heap.size w w')) :
    Calls Tryz.prog 91 #[.slice p n c,.func (.func fn) #[] cap] W (fun e w' => e=.returned (.int .i64 (idxV (xs.findIdx? test)))∧Below W.heap.size W w'):=by
  obtain ⟨hn,hr⟩:=hrow
  subst hn
  have hcp:∀ (i:Nat) (hi:i<xs.length),∃ g,p=some ⟨g,0,none⟩∧g<W.heap.size:=fun i hi=>by
    rcases hr.2 with ⟨e,h0⟩ | ⟨g,cap,cur,e,hg,hh,_⟩
    · omega
    · injection e with e1 e2 e3
      exact ⟨g,e1,(Array.getElem?_eq_some_iff.1 hh).1⟩
  have hbb:xs.length≤c∧c≤maxLen:=by
    rcases hr.2 with ⟨e,h0⟩ | ⟨g,cap,cur,e,hg,hh,k1,k2,_⟩
    · injection e with e1 e2 e3;omega
    · injection e with e1 e2 e3;subst e3;exact ⟨k1,k2⟩
  have HR:=Lib.hid (And.intro hr (And.intro hcp hbb))
  have HC:=Lib.hid hcl
  have hlen:xs.length≤9223372036854775807:=by have:=hbb.1;have:=hbb.2;unfold maxLen at *;omega
  clear hr hcp hbb hcl
  go_enter Tryz.func91,Tryz.ntmps91
  go_wp2_with fail
  go_loopw [5,8] (fun t5 t8 wr=>∃ i:Nat,i≤xs.length∧t8=.int .i64 i∧Hid (Below W.heap.size W wr∧∀ (j:Nat) (h:j<xs.length),j<i→test xs[j]=false)) (fun _ t8 _=>xs.length - (intOf t8).toNat)
  case atStart=>exact ⟨0,Nat.zero_le _,rfl,Lib.hid ⟨Below.refl _ _,fun j _ h=>absurd h (Nat.not_lt_zero _)⟩⟩
  case round =>
    obtain ⟨i,hi,rfl,hI⟩:=hrel
    by_cases hlt:i<xs.length
    · have hd:decide ((i:Int)<(xs.length:Int))=true:=by simp;omega
      obtain ⟨g,rfl,hg⟩:=HR.out.2.1 i hlt
      have hcell:∀ (r:Nat) (u:Value),r<3→(extC xs[i])[r]? = some u→wr.cell? ⟨g,i * 3+r,none⟩=some u:=fun r u hr hu=>by
        have:=HR.out.1.cells (g:=g) rfl (i * 3+r) u (by rw [flat_get extC 3 (fun _=>rfl) xs i hlt r hr];exact hu)
        rw [Addr.add_mid,Nat.zero_add] at this
        exact (hI.out.1.cell (p:=⟨g,i * 3+r,none⟩) hg).trans this
      have C:=HC.out xs[i] (List.getElem_mem hlt) wr hI.out.1
      obtain ⟨y,ey⟩:∃ y,xs[i]=y:=⟨_,rfl⟩
      rw [ey] at C
      have r0:wr.cell? ⟨g,i * 3,none⟩=some (.string y.nm):=by rw [← ey];exact hcell 0 _ (by decide) rfl
      have r1:wr.cell? ⟨g,i * 3+1,none⟩=some (.slice y.pp y.pn y.pc):=by rw [← ey];exact hcell 1 _ (by decide) rfl
      have r2:wr.cell? ⟨g,i * 3+2,none⟩=some (.int .i64 y.rt):=by rw [← ey];exact hcell 2 _ (by decide) rfl
      have gl:=(Nat.lt_of_lt_of_le hg hI.out.1.size)
      have EY:=Lib.hid ey
      clear hcell ey
      have ea:∀ (l:List Value),(#[.agg l.toArray]:Array Value)++cap=#[.agg l.toArray]++cap:=fun _=>rfl
      clear ea
      cases ht:test y with
      | true =>
        rw [ht] at C
        have HT:=Lib.hid ht
        clear ht
        go_wp2_with ((with_reducible refine C.mono ?_);rintro e w2 ⟨rfl,h2⟩)
        go_ret
        refine ⟨?_,hI.out.1.trans (h2.mono hI.out.1.size)⟩
        have hk:xs.findIdx? test=some i:=idx_some hlt (by rw [EY.out];exact HT.out) hI.out.2
        rw [hk]
        rfl
      | false =>
        rw [ht] at C
        have HT:=Lib.hid ht
        clear ht
        go_wp2_with ((with_reducible refine C.mono ?_);rintro e w2 ⟨rfl,h2⟩)
        exact ⟨⟨i+1,by omega,by go_num,Lib.hid ⟨hI.out.1.trans (h2.mono hI.out.1.size),fun j h hj=>by
          by_cases e:j=i
          · subst e;rw [EY.out];exact HT.out
          · exact hI.out.2 j h (by omega)⟩⟩,by simp [intOf];omega⟩
    · obtain rfl:i=xs.length:=by omega
      go_wp2_with fail
      go_ret
      refine ⟨?_,hI.out.1⟩
      rw [idx_none (fun j h=>hI.out.2 j h h)]
      rfl
set_option maxRecDepth 100000 in
set_option maxHeartbeats 4000000 in
theorem IndexFunc_F (xs:List LFn) (B:Nat) (p:Option Addr) (n c:Nat) (W:World) (hrow:rowP B 49 4 fnC p n c xs W) (fn:FuncId) (cap:Array Value) (test:LFn→Bool)
    (hen:∀ (args:Array Value) (w:World),(callFunc fn args).run Tryz.prog w=.ok (.enter fn args) w)
    (hcl:∀ x∈xs,∀ w,Below W.heap.size W w→Calls Tryz.prog fn (#[.agg #[.string x.nm,.slice x.pp x.pn x.pc,.int .i64 x.rt,.slice x.bp x.bn x.bc]]++cap) w (fun e w' => e=.returned (.bool (test x))∧Below w.heap.size w w')) :
    Calls Tryz.prog 92 #[.slice p n c,.func (.func fn) #[] cap] W (fun e w' => e=.returned (.int .i64 (idxV (xs.findIdx? test)))∧Below W.heap.size W w'):=by
  obtain ⟨hn,hr⟩:=hrow
  subst hn
  have hcp:∀ (i:Nat) (hi:i<xs.length),∃ g,p=some ⟨g,0,none⟩∧g<W.heap.size:=fun i hi=>by
    rcases hr.2 with ⟨e,h0⟩ | ⟨g,cap,cur,e,hg,hh,_⟩
    · omega
    · injection e with e1 e2 e3
      exact ⟨g,e1,(Array.getElem?_eq_some_iff.1 hh).1⟩
  have hbb:xs.length≤c∧c≤maxLen:=by
    rcases hr.2 with ⟨e,h0⟩ | ⟨g,cap,cur,e,hg,hh,k1,k2,_⟩
    · injection e with e1 e2 e3;omega
    · injection e with e1 e2 e3;subst e3;exact ⟨k1,k2⟩
  have HR:=Lib.hid (And.intro hr (And.intro hcp hbb))
  have HC:=Lib.hid hcl
  have hlen:xs.length≤9223372036854775807:=by have:=hbb.1;have:=hbb.2;unfold maxLen at *;omega
  clear hr hcp hbb hcl
  go_enter Tryz.func92,Tryz.ntmps92
  go_wp2_with fail
  go_loopw [5,8] (fun t5 t8 wr=>∃ i:Nat,i≤xs.length∧t8=.int .i64 i∧Hid (Below W.heap.size W wr∧∀ (j:Nat) (h:j<xs.length),j<i→test xs[j]=false)) (fun _ t8 _=>xs.length - (intOf t8).toNat)
  case atStart=>exact ⟨0,Nat.zero_le _,rfl,Lib.hid ⟨Below.refl _ _,fun j _ h=>absurd h (Nat.not_lt_zero _)⟩⟩
  case round =>
    obtain ⟨i,hi,rfl,hI⟩:=hrel
    by_cases hlt:i<xs.length
    · have hd:decide ((i:Int)<(xs.length:Int))=true:=by simp;omega
      obtain ⟨g,rfl,hg⟩:=HR.out.2.1 i hlt
      have hcell:∀ (r:Nat) (u:Value),r<4→(fnC xs[i])[r]? = some u→wr.cell? ⟨g,i * 4+r,none⟩=some u:=fun r u hr hu=>by
        have:=HR.out.1.cells (g:=g) rfl (i * 4+r) u (by rw [flat_get fnC 4 (fun _=>rfl) xs i hlt r hr];exact hu)
        rw [Addr.add_mid,Nat.zero_add] at this
        exact (hI.out.1.cell (p:=⟨g,i * 4+r,none⟩) hg).trans this
      have C:=HC.out xs[i] (List.getElem_mem hlt) wr hI.out.1
      obtain ⟨y,ey⟩:∃ y,xs[i]=y:=⟨_,rfl⟩
      rw [ey] at C
      have r0:wr.cell? ⟨g,i * 4,none⟩=some (.string y.nm):=by rw [← ey];exact hcell 0 _ (by decide) rfl
      have r1:wr.cell? ⟨g,i * 4+1,none⟩=some (.slice y.pp y.pn y.pc):=by rw [← ey];exact hcell 1 _ (by decide) rfl
      have r2:wr.cell? ⟨g,i * 4+2,none⟩=some (.int .i64 y.rt):=by rw [← ey];exact hcell 2 _ (by decide) rfl
      have r3:wr.cell? ⟨g,i * 4+3,none⟩=some (.slice y.bp y.bn y.bc):=by rw [← ey];exact hcell 3 _ (by decide) rfl
      have gl:=(Nat.lt_of_lt_of_le hg hI.out.1.size)
      have EY:=Lib.hid ey
      clear hcell ey
      have ea:∀ (l:List Value),(#[.agg l.toArray]:Array Value)++cap=#[.agg l.toArray]++cap:=fun _=>rfl
      clear ea
      cases ht:test y with
      | true =>
        rw [ht] at C
        have HT:=Lib.hid ht
        clear ht
        go_wp2_with ((with_reducible refine C.mono ?_);rintro e w2 ⟨rfl,h2⟩)
        go_ret
        refine ⟨?_,hI.out.1.trans (h2.mono hI.out.1.size)⟩
        have hk:xs.findIdx? test=some i:=idx_some hlt (by rw [EY.out];exact HT.out) hI.out.2
        rw [hk]
        rfl
      | false =>
        rw [ht] at C
        have HT:=Lib.hid ht
        clear ht
        go_wp2_with ((with_reducible refine C.mono ?_);rintro e w2 ⟨rfl,h2⟩)
        exact ⟨⟨i+1,by omega,by go_num,Lib.hid ⟨hI.out.1.trans (h2.mono hI.out.1.size),fun j h hj=>by
          by_cases e:j=i
          · subst e;rw [EY.out];exact HT.out
          · exact hI.out.2 j h (by omega)⟩⟩,by simp [intOf];omega⟩
    · obtain rfl:i=xs.length:=by omega
      go_wp2_with fail
      go_ret
      refine ⟨?_,hI.out.1⟩
      rw [idx_none (fun j h=>hI.out.2 j h h)]
      rfl
set_option maxRecDepth 100000 in
set_option maxHeartbeats 1000000 in
theorem find1_V (nm:ByteArray) (sz:Int) (x:Tx) (bn:Nat) (w:World) (hb:w.cell? ⟨bn,0,none⟩=some (.string (str x))) (hl:bn<w.heap.size) :
    Calls Tryz.prog 144 #[.agg #[.string nm,.int .i64 sz],.pointer (some ⟨bn,0,none⟩)] w (fun e w' => e=.returned (.bool (byt nm==x))∧Below w.heap.size w w'):=by
  have hs:=hstr nm x
  obtain ⟨v,ev⟩:∃ v,(byt nm==x)=v:=⟨_,rfl⟩
  rw [ev] at hs ⊢
  clear ev
  cases v
  all_goals
    go_enter Tryz.func144,Tryz.ntmps144
    go_wp2_with fail
    go_ret
    exact ⟨rfl,(Below.refl _ _).alloc (Nat.le_refl _) _⟩
set_option maxRecDepth 100000 in
theorem enters_fV:∀ (args:Array Value) (w:World),(callFunc 144 args).run Tryz.prog w=.ok (.enter 144 args) w:=fun _ _=>rfl
set_option maxRecDepth 100000 in
set_option maxHeartbeats 1000000 in
theorem find1_X (nm:ByteArray) (pp:Option Addr) (pn pc:Nat) (rt:Int) (x:Tx) (bn:Nat) (w:World) (hb:w.cell? ⟨bn,0,none⟩=some (.string (str x))) (hl:bn<w.heap.size) :
    Calls Tryz.prog 146 #[.agg #[.string nm,.slice pp pn pc,.int .i64 rt],.pointer (some ⟨bn,0,none⟩)] w (fun e w' => e=.returned (.bool (byt nm==x))∧Below w.heap.size w w'):=by
  have hs:=hstr nm x
  obtain ⟨v,ev⟩:∃ v,(byt nm==x)=v:=⟨_,rfl⟩
  rw [ev] at hs ⊢
  clear ev
  cases v
  all_goals
    go_enter Tryz.func146,Tryz.ntmps146
    go_wp2_with fail
    go_ret
    exact ⟨rfl,(Below.refl _ _).alloc (Nat.le_refl _) _⟩
set_option maxRecDepth 100000 in
theorem enters_fX:∀ (args:Array Value) (w:World),(callFunc 146 args).run Tryz.prog w=.ok (.enter 146 args) w:=fun _ _=>rfl
set_option maxRecDepth 100000 in
set_option maxHeartbeats 1000000 in
theorem find1_F (nm:ByteArray) (pp:Option Addr) (pn pc:Nat) (rt:Int) (bp:Option Addr) (bn2 bc:Nat) (x:Tx) (bn:Nat) (w:World) (hb:w.cell? ⟨bn,0,none⟩=some (.string (str x))) (hl:bn<w.heap.size) :
    Calls Tryz.prog 147 #[.agg #[.string nm,.slice pp pn pc,.int .i64 rt,.slice bp bn2 bc],.pointer (some ⟨bn,0,none⟩)] w (fun e w' => e=.returned (.bool (byt nm==x))∧Below w.heap.size w w'):=by
  have hs:=hstr nm x
  obtain ⟨v,ev⟩:∃ v,(byt nm==x)=v:=⟨_,rfl⟩
  rw [ev] at hs ⊢
  clear ev
  cases v
  all_goals
    go_enter Tryz.func147,Tryz.ntmps147
    go_wp2_with fail
    go_ret
    exact ⟨rfl,(Below.refl _ _).alloc (Nat.le_refl _) _⟩
set_option maxRecDepth 100000 in
theorem enters_fF:∀ (args:Array Value) (w:World),(callFunc 147 args).run Tryz.prog w=.ok (.enter 147 args) w:=fun _ _=>rfl
theorem idxV_getD (o:Option Nat):(o.map fun k:Nat=>(k:Int)).getD (-1)=idxV o:=by cases o <;> rfl
theorem idxV_some (o:Option Nat):decide (0≤idxV o)=(o.map fun k:Nat=>(k:Int)).isSome:=by cases o <;> simp [idxV]
section
variable {B b:Nat} {W w w':World} {en:Tok} {mm:PMod} {s:RS} {Z Z':As}
theorem Mk.later (h:Mk B W b en mm s Z w) (hb:Below w.heap.size w w'):Mk B W b en mm s Z w':=by
  obtain ⟨m,e,h⟩:=h
  exact ⟨m,e,h.later hb⟩
theorem Mk.imp (h:Mk B W b en mm s Z w) (k:Z.le Z'):Mk B W b en mm s Z' w:=by
  obtain ⟨m,e,h⟩:=h
  exact ⟨m,e,h.imp ((As.le.refl _).and k)⟩
set_option maxRecDepth 100000 in
set_option maxHeartbeats 2000000 in
theorem findVar_any (x:Tx) (h:Mk B W b en mm s Z w) :
    Calls Tryz.prog 116 #[.pointer (some ⟨b,0,none⟩),.string (str x)] w (fun e w' => e=.returned (.tuple #[.int .i64 ((findVarP mm x).getD (-1)),.bool (findVarP mm x).isSome])∧Below w.heap.size w w'):=by
  obtain ⟨m,e,hP⟩:=h
  obtain ⟨c8,c9,c10,cf⟩:=hP.cells
  have bl:=hP.lt
  have hmf:∀ (fn:Fn) (first cap:Array Value) (w:World),(Instr.makeFunc fn first cap).run Tryz.prog w=.ok (.func fn first cap) w:=fun _ _ _ _=>rfl
  have hb1:=(Below.refl w.heap.size w).alloc (Nat.le_refl _) (.cells #[.string (str x)] 9)
  have hrow:=(hP.alloc (.cells #[.string (str x)] 9)).satZ.1.1
  have C:=IndexFunc_V m.vs B m.vp m.vn m.vc _ hrow 144 #[.pointer (some ⟨w.heap.size,0,none⟩)] (fun v=>byt v.nm==x) enters_fV (fun y hy w2 hb=>by
    have hc:w2.cell? ⟨w.heap.size,0,none⟩=some (.string (str x)):=(hb.cell (p:=⟨w.heap.size,0,none⟩) (by simp)).trans (by rw [World.cell?_alloc_at _ _ _ _ rfl];rfl)
    exact find1_V y.nm y.size x w.heap.size w2 hc (by have:=hb.size;simp at this;omega))
  have ef:findVarP mm x=(m.vs.findIdx? fun v=>byt v.nm==x).map fun k:Nat=>(k:Int):=by rw [← e];rfl
  rw [ef,idxV_getD,← idxV_some]
  obtain ⟨v,ev⟩:∃ v,idxV (m.vs.findIdx? fun v=>byt v.nm==x)=v:=⟨_,rfl⟩
  simp only [ev] at C ⊢
  have HB:=Lib.hid hb1
  clear hP hrow hb1 ef ev cf c9 c10 e
  by_cases h0:0≤v
  all_goals
    go_enter Tryz.func116,Tryz.ntmps116
    go_wp2_with ((with_reducible refine C.mono ?_);rintro e w2 ⟨rfl,h2⟩)
    go_ret2
    exact ⟨by simp [h0],HB.out.trans (h2.mono HB.out.size)⟩
end
end Go.Proofs.YtmmlfmplggbmiaaGreatDoor
