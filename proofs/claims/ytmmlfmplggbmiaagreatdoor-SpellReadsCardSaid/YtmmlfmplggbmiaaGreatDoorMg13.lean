/- Several texts in one: SpE, SpB, SpC. -/
import Derived.Test.YtmmlfmplggbmiaaGreatDoorMg12
namespace Go.Proofs.YtmmlfmplggbmiaaGreatDoor
open Go.RowKit Go.Maps
set_option linter.unusedVariables false
set_option linter.unusedSimpArgs false
theorem any_take {α:Type} (P:α→Bool) (xs:List α) (i:Nat) (h:i<xs.length) (ha:(xs.take i).any P=false):(xs.take (i+1)).any P=P xs[i]:=by
  rw [List.take_succ_eq_append_getElem h,List.any_append,ha]
  simp
theorem any_hit {α:Type} (P:α→Bool) (xs:List α) (i:Nat) (h:i<xs.length) (hp:P xs[i]=true):xs.any P=true:=List.any_eq_true.2 ⟨xs[i],List.getElem_mem h,hp⟩
theorem all_not {α:Type} (P:α→Bool) (xs:List α):(!(xs.any fun x=>!P x))=xs.all P:=by
  induction xs with
  | nil=>rfl
  | cons x xs ih=>simp only [List.any_cons,List.all_cons,Bool.not_or,Bool.not_not,ih]
theorem row_V {B:Nat} {w:World} {p:Option Addr} {n c:Nat} {L:List PVar} {E:Nat→World→PVar→Prop} (h:ListIn varC E B w p n c L) (i:Nat) (hi:i<L.length) :
    ∃ a,p=some a∧a.block<B∧w.cell? (a.add (i * 2))=some (.string L[i].nm)∧w.cell? ⟨(a.add (i * 2)).block,(a.add (i * 2)).off+1,none⟩=some (.int .i64 L[i].size):=by
  obtain ⟨h1,h2,h3,h4,-⟩:=h
  obtain ⟨a,e,ha,hc⟩:=h4.at (m:=2) (fun _=>rfl) i hi (by decide)
  refine ⟨a,e,ha,hc 0 (by decide),?_⟩
  · have:=hc 1 (by decide);rw [add_add a _ 1 (by decide)] at this;exact this
set_option maxRecDepth 100000 in
set_option maxHeartbeats 2000000 in
theorem index_V {E:Nat→World→PVar→Prop} (P:PVar→Bool) (p:Option Addr) (n c:Nat) (xs:List PVar) (W:World) (h:ListIn varC E W.heap.size W p n c xs) (g:FuncId) (caps:Array Value)
    (hen:∀ (args:Array Value) (w:World),(callFunc g args).run Tryz.prog w=.ok (.enter g args) w)
    (hg:∀ i (hi:i<xs.length) w,Below W.heap.size W w→Calls Tryz.prog g (#[.agg #[.string xs[i].nm,.int .i64 xs[i].size]]++caps) w (Ans (.bool (P xs[i])) w)) :
    Calls Tryz.prog 89 #[.slice p n c,.func (.func g) #[] caps] W fun e w' => ∃ k:Int,e=.returned (.int .i64 k)∧(decide (0≤k)=xs.any P)∧Below W.heap.size W w':=by
  obtain rfl:n=xs.length:=h.1
  have hc1:=h.2.1
  have hc2:=h.2.2.1
  unfold maxLen at hc2
  have HH:=Lib.hid h
  have HG:=Lib.hid hg
  clear h hg
  go_enter Tryz.func89,Tryz.ntmps89
  go_wp2_with fail
  go_loopw [8] (fun t wr=>∃ i:Nat,i≤xs.length∧t=.int .i64 i∧Hid ((xs.take i).any P=false)∧Below W.heap.size W wr) (fun t _=>xs.length - (intOf t).toNat)
  case atStart=>exact ⟨0,Nat.zero_le _,rfl,Lib.hid (by simp),Below.refl _ _⟩
  case round =>
    obtain ⟨i,hi,rfl,ha,hb⟩:=hrel
    by_cases hlt:i<xs.length
    · obtain ⟨a,rfl,hab,c0,c1⟩:=row_V HH.out i hlt
      have k0:=(hb.cell (p:=a.add (i * 2)) (by rw [add_block];exact hab)).trans c0
      have k1:=(hb.cell (p:=⟨(a.add (i * 2)).block,(a.add (i * 2)).off+1,none⟩) (by dsimp only;rw [add_block];exact hab)).trans c1
      have cg:=HG.out i hlt wr hb
      have HA:=Lib.hid (any_take P xs i hlt ha.out)
      have HT:=Lib.hid (any_hit P xs i hlt)
      have HB:=Lib.hid hb
      obtain ⟨x,ex⟩:∃ x,xs[i]=x:=⟨_,rfl⟩
      simp only [ex] at cg HA HT k0 k1
      clear ex ha hb c0 c1
      obtain ⟨q,eq⟩:∃ q,P x=q:=⟨_,rfl⟩
      rw [eq] at cg HA HT
      clear eq
      go_wp2_with fail
      refine cg.mono ?_
      rintro e w2 ⟨rfl,hb2⟩
      have HB2:=Lib.hid (HB.out.trans (hb2.mono HB.out.size))
      clear hb2 cg
      cases q
      case false =>
        go_wp2_with fail
        exact ⟨⟨i+1,by omega,by go_num,HA,HB2.out⟩,by simp [intOf];omega⟩
      case true =>
        go_wp2_with fail
        go_ret
        exact ⟨i,rfl,by rw [HT.out (by first | rfl | trivial)];simp,HB2.out⟩
    · obtain rfl:i=xs.length:=by omega
      have HA:=Lib.hid ha.out
      have HB:=Lib.hid hb
      clear ha hb
      go_wp2_with fail
      go_ret
      refine ⟨-1,rfl,?_,HB.out⟩
      have:=HA.out
      rw [List.take_length] at this
      rw [this]
      rfl
set_option maxRecDepth 100000 in
set_option maxHeartbeats 2000000 in
theorem each_V {E:Nat→World→PVar→Prop} (hE:Lasts E) (P:PVar→Bool) (p:Option Addr) (n c:Nat) (xs:List PVar) (W:World) (h:ListIn varC E W.heap.size W p n c xs) (g:FuncId) (caps:Array Value)
    (hen:∀ (args:Array Value) (w:World),(callFunc g args).run Tryz.prog w=.ok (.enter g args) w)
    (hg:∀ i (hi:i<xs.length) w,Below W.heap.size W w→Calls Tryz.prog g (#[.agg #[.string xs[i].nm,.int .i64 xs[i].size]]++caps) w (Ans (.bool (P xs[i])) w)) :
    Calls Tryz.prog 17 #[.slice p n c,.func (.func g) #[] caps] W (Ans (.bool (xs.all P)) W):=by
  have b0:Below W.heap.size W (W.alloc (.cells #[.func (.func g) #[] caps] 65)):=(Below.refl _ _).alloc (Nat.le_refl _) _
  have hbox:∀ w,Below (W.heap.size+1) (W.alloc (.cells #[.func (.func g) #[] caps] 65)) w→w.cell? ⟨W.heap.size,0,none⟩=some (.func (.func g) #[] caps):=fun w hb =>
    (hb.cell (p:=⟨W.heap.size,0,none⟩) (Nat.lt_succ_self _)).trans (by rw [World.cell?_alloc_at _ _ _ _ rfl];rfl)
  have hW1:(W.alloc (.cells #[.func (.func g) #[] caps] 65)).heap.size=W.heap.size+1:=World.size_alloc _ _
  have c1:=index_V (fun x=>!P x) p n c xs (W.alloc (.cells #[.func (.func g) #[] caps] 65)) (h.lasts hE b0 b0.size) 48 #[.pointer (some ⟨W.heap.size,0,none⟩)] (fun _ _=>rfl) (fun i hi w hb=>by
    rw [hW1] at hb
    have k0:=hbox w hb
    have hlt0:W.heap.size<w.heap.size:=Nat.lt_of_lt_of_le (by rw [hW1];exact Nat.lt_succ_self _) hb.size
    have hlw:W.heap.size≤w.heap.size:=Nat.le_of_lt hlt0
    have cg:=hg i hi _ ((b0.trans (hb.mono (Nat.le_succ _))).alloc hlw (.cells #[.string xs[i].nm,.int .i64 xs[i].size] 39))
    have hb1:Below w.heap.size w (w.alloc (.cells #[.string xs[i].nm,.int .i64 xs[i].size] 39)):=(Below.refl _ _).alloc (Nat.le_refl _) _
    show Calls Tryz.prog 48 #[.agg #[.string xs[i].nm,.int .i64 xs[i].size],.pointer (some ⟨W.heap.size,0,none⟩)] w _
    obtain ⟨q,eq⟩:∃ q,P xs[i]=q:=⟨_,rfl⟩
    simp only [eq] at cg ⊢
    obtain ⟨x,ex⟩:∃ x,xs[i]=x:=⟨_,rfl⟩
    simp only [ex] at cg hb1 ⊢
    have HB1:=Lib.hid hb1
    clear eq ex hb hb1
    go_enter Tryz.func48,Tryz.ntmps48
    go_wp2_with fail
    refine cg.mono ?_
    rintro e w2 ⟨rfl,hb2⟩
    have HB2:=Lib.hid (HB1.out.trans (hb2.mono HB1.out.size))
    clear hb2 cg
    go_wp2_with fail
    go_ret
    exact ⟨rfl,HB2.out⟩)
  have HB:=Lib.hid b0
  have HW:=Lib.hid hW1
  rw [← all_not P xs]
  obtain ⟨q,eq⟩:∃ q,(xs.any fun x=>!P x)=q:=⟨_,rfl⟩
  rw [eq] at c1 ⊢
  clear hg h hbox b0 hW1 eq
  go_enter Tryz.func17,Tryz.ntmps17
  go_wp2_with fail
  have c2:Calls Tryz.prog 47 #[.slice p n c,.func (.func 48) #[] #[.pointer (some ⟨W.heap.size,0,none⟩)]] (W.alloc (.cells #[.func (.func g) #[] caps] 65)) (fun e w' => e=.returned (.bool q)∧Below (W.heap.size+1) (W.alloc (.cells #[.func (.func g) #[] caps] 65)) w'):=by
    go_enter Tryz.func47,Tryz.ntmps47
    go_wp2_with fail
    refine c1.mono ?_
    rintro e w2 ⟨k,rfl,hk,hb2⟩
    rw [HW.out] at hb2
    have HB2:=Lib.hid hb2
    clear hb2 c1
    cases q
    all_goals
      go_wp2_with fail
      go_ret
      exact ⟨rfl,HB2.out⟩
  clear c1
  refine c2.mono ?_
  rintro e w2 ⟨rfl,hb2⟩
  have HB2:=Lib.hid (HB.out.trans (hb2.mono (Nat.le_succ _)))
  clear c2 hb2
  go_wp2_with fail
  go_ret
  exact ⟨rfl,HB2.out⟩
theorem row_X {B:Nat} {w:World} {p:Option Addr} {n c:Nat} {L:List LExt} {E:Nat→World→LExt→Prop} (h:ListIn extC E B w p n c L) (i:Nat) (hi:i<L.length) :
    ∃ a,p=some a∧a.block<B∧w.cell? (a.add (i * 3))=some (.string L[i].nm)∧w.cell? ⟨(a.add (i * 3)).block,(a.add (i * 3)).off+1,none⟩=some (.slice L[i].pp L[i].pn L[i].pc)∧w.cell? ⟨(a.add (i * 3)).block,(a.add (i * 3)).off+2,none⟩=some (.int .i64 L[i].rt):=by
  obtain ⟨h1,h2,h3,h4,-⟩:=h
  obtain ⟨a,e,ha,hc⟩:=h4.at (m:=3) (fun _=>rfl) i hi (by decide)
  refine ⟨a,e,ha,hc 0 (by decide),?_,?_⟩
  · have:=hc 1 (by decide);rw [add_add a _ 1 (by decide)] at this;exact this
  · have:=hc 2 (by decide);rw [add_add a _ 2 (by decide)] at this;exact this
set_option maxRecDepth 100000 in
set_option maxHeartbeats 2000000 in
theorem index_X {E:Nat→World→LExt→Prop} (P:LExt→Bool) (p:Option Addr) (n c:Nat) (xs:List LExt) (W:World) (h:ListIn extC E W.heap.size W p n c xs) (g:FuncId) (caps:Array Value)
    (hen:∀ (args:Array Value) (w:World),(callFunc g args).run Tryz.prog w=.ok (.enter g args) w)
    (hg:∀ i (hi:i<xs.length) w,Below W.heap.size W w→Calls Tryz.prog g (#[.agg #[.string xs[i].nm,.slice xs[i].pp xs[i].pn xs[i].pc,.int .i64 xs[i].rt]]++caps) w (Ans (.bool (P xs[i])) w)) :
    Calls Tryz.prog 91 #[.slice p n c,.func (.func g) #[] caps] W fun e w' => ∃ k:Int,e=.returned (.int .i64 k)∧(decide (0≤k)=xs.any P)∧Below W.heap.size W w':=by
  obtain rfl:n=xs.length:=h.1
  have hc1:=h.2.1
  have hc2:=h.2.2.1
  unfold maxLen at hc2
  have HH:=Lib.hid h
  have HG:=Lib.hid hg
  clear h hg
  go_enter Tryz.func91,Tryz.ntmps91
  go_wp2_with fail
  go_loopw [8] (fun t wr=>∃ i:Nat,i≤xs.length∧t=.int .i64 i∧Hid ((xs.take i).any P=false)∧Below W.heap.size W wr) (fun t _=>xs.length - (intOf t).toNat)
  case atStart=>exact ⟨0,Nat.zero_le _,rfl,Lib.hid (by simp),Below.refl _ _⟩
  case round =>
    obtain ⟨i,hi,rfl,ha,hb⟩:=hrel
    by_cases hlt:i<xs.length
    · obtain ⟨a,rfl,hab,c0,c1,c2⟩:=row_X HH.out i hlt
      have k0:=(hb.cell (p:=a.add (i * 3)) (by rw [add_block];exact hab)).trans c0
      have k1:=(hb.cell (p:=⟨(a.add (i * 3)).block,(a.add (i * 3)).off+1,none⟩) (by dsimp only;rw [add_block];exact hab)).trans c1
      have k2:=(hb.cell (p:=⟨(a.add (i * 3)).block,(a.add (i * 3)).off+2,none⟩) (by dsimp only;rw [add_block];exact hab)).trans c2
      have cg:=HG.out i hlt wr hb
      have HA:=Lib.hid (any_take P xs i hlt ha.out)
      have HT:=Lib.hid (any_hit P xs i hlt)
      have HB:=Lib.hid hb
      obtain ⟨x,ex⟩:∃ x,xs[i]=x:=⟨_,rfl⟩
      simp only [ex] at cg HA HT k0 k1 k2
      clear ex ha hb c0 c1 c2
      obtain ⟨q,eq⟩:∃ q,P x=q:=⟨_,rfl⟩
      rw [eq] at cg HA HT
      clear eq
      go_wp2_with fail
      refine cg.mono ?_
      rintro e w2 ⟨rfl,hb2⟩
      have HB2:=Lib.hid (HB.out.trans (hb2.mono HB.out.size))
      clear hb2 cg
      cases q
      case false =>
        go_wp2_with fail
        exact ⟨⟨i+1,by omega,by go_num,HA,HB2.out⟩,by simp [intOf];omega⟩
      case true =>
        go_wp2_with fail
        go_ret
        exact ⟨i,rfl,by rw [HT.out (by first | rfl | trivial)];simp,HB2.out⟩
    · obtain rfl:i=xs.length:=by omega
      have HA:=Lib.hid ha.out
      have HB:=Lib.hid hb
      clear ha hb
      go_wp2_with fail
      go_ret
      refine ⟨-1,rfl,?_,HB.out⟩
      have:=HA.out
      rw [List.take_length] at this
      rw [this]
      rfl
set_option maxRecDepth 100000 in
set_option maxHeartbeats 2000000 in
theorem each_X {E:Nat→World→LExt→Prop} (hE:Lasts E) (P:LExt→Bool) (p:Option Addr) (n c:Nat) (xs:List LExt) (W:World) (h:ListIn extC E W.heap.size W p n c xs) (g:FuncId) (caps:Array Value)
    (hen:∀ (args:Array Value) (w:World),(callFunc g args).run Tryz.prog w=.ok (.enter g args) w)
    (hg:∀ i (hi:i<xs.length) w,Below W.heap.size W w→Calls Tryz.prog g (#[.agg #[.string xs[i].nm,.slice xs[i].pp xs[i].pn xs[i].pc,.int .i64 xs[i].rt]]++caps) w (Ans (.bool (P xs[i])) w)) :
    Calls Tryz.prog 19 #[.slice p n c,.func (.func g) #[] caps] W (Ans (.bool (xs.all P)) W):=by
  have b0:Below W.heap.size W (W.alloc (.cells #[.func (.func g) #[] caps] 67)):=(Below.refl _ _).alloc (Nat.le_refl _) _
  have hbox:∀ w,Below (W.heap.size+1) (W.alloc (.cells #[.func (.func g) #[] caps] 67)) w→w.cell? ⟨W.heap.size,0,none⟩=some (.func (.func g) #[] caps):=fun w hb =>
    (hb.cell (p:=⟨W.heap.size,0,none⟩) (Nat.lt_succ_self _)).trans (by rw [World.cell?_alloc_at _ _ _ _ rfl];rfl)
  have hW1:(W.alloc (.cells #[.func (.func g) #[] caps] 67)).heap.size=W.heap.size+1:=World.size_alloc _ _
  have c1:=index_X (fun x=>!P x) p n c xs (W.alloc (.cells #[.func (.func g) #[] caps] 67)) (h.lasts hE b0 b0.size) 51 #[.pointer (some ⟨W.heap.size,0,none⟩)] (fun _ _=>rfl) (fun i hi w hb=>by
    rw [hW1] at hb
    have k0:=hbox w hb
    have hlt0:W.heap.size<w.heap.size:=Nat.lt_of_lt_of_le (by rw [hW1];exact Nat.lt_succ_self _) hb.size
    have hlw:W.heap.size≤w.heap.size:=Nat.le_of_lt hlt0
    have cg:=hg i hi _ ((b0.trans (hb.mono (Nat.le_succ _))).alloc hlw (.cells #[.string xs[i].nm,.slice xs[i].pp xs[i].pn xs[i].pc,.int .i64 xs[i].rt] 52))
    have hb1:Below w.heap.size w (w.alloc (.cells #[.string xs[i].nm,.slice xs[i].pp xs[i].pn xs[i].pc,.int .i64 xs[i].rt] 52)):=(Below.refl _ _).alloc (Nat.le_refl _) _
    show Calls Tryz.prog 51 #[.agg #[.string xs[i].nm,.slice xs[i].pp xs[i].pn xs[i].pc,.int .i64 xs[i].rt],.pointer (some ⟨W.heap.size,0,none⟩)] w _
    obtain ⟨q,eq⟩:∃ q,P xs[i]=q:=⟨_,rfl⟩
    simp only [eq] at cg ⊢
    obtain ⟨x,ex⟩:∃ x,xs[i]=x:=⟨_,rfl⟩
    simp only [ex] at cg hb1 ⊢
    have HB1:=Lib.hid hb1
    clear eq ex hb hb1
    go_enter Tryz.func51,Tryz.ntmps51
    go_wp2_with fail
    refine cg.mono ?_
    rintro e w2 ⟨rfl,hb2⟩
    have HB2:=Lib.hid (HB1.out.trans (hb2.mono HB1.out.size))
    clear hb2 cg
    go_wp2_with fail
    go_ret
    exact ⟨rfl,HB2.out⟩)
  have HB:=Lib.hid b0
  have HW:=Lib.hid hW1
  rw [← all_not P xs]
  obtain ⟨q,eq⟩:∃ q,(xs.any fun x=>!P x)=q:=⟨_,rfl⟩
  rw [eq] at c1 ⊢
  clear hg h hbox b0 hW1 eq
  go_enter Tryz.func19,Tryz.ntmps19
  go_wp2_with fail
  have c2:Calls Tryz.prog 50 #[.slice p n c,.func (.func 51) #[] #[.pointer (some ⟨W.heap.size,0,none⟩)]] (W.alloc (.cells #[.func (.func g) #[] caps] 67)) (fun e w' => e=.returned (.bool q)∧Below (W.heap.size+1) (W.alloc (.cells #[.func (.func g) #[] caps] 67)) w'):=by
    go_enter Tryz.func50,Tryz.ntmps50
    go_wp2_with fail
    refine c1.mono ?_
    rintro e w2 ⟨k,rfl,hk,hb2⟩
    rw [HW.out] at hb2
    have HB2:=Lib.hid hb2
    clear hb2 c1
    cases q
    all_goals
      go_wp2_with fail
      go_ret
      exact ⟨rfl,HB2.out⟩
  clear c1
  refine c2.mono ?_
  rintro e w2 ⟨rfl,hb2⟩
  have HB2:=Lib.hid (HB.out.trans (hb2.mono (Nat.le_succ _)))
  clear c2 hb2
  go_wp2_with fail
  go_ret
  exact ⟨rfl,HB2.out⟩
theorem row_F {B:Nat} {w:World} {p:Option Addr} {n c:Nat} {L:List LFn} {E:Nat→World→LFn→Prop} (h:ListIn fnC E B w p n c L) (i:Nat) (hi:i<L.length) :
    ∃ a,p=some a∧a.block<B∧w.cell? (a.add (i * 4))=some (.string L[i].nm)∧w.cell? ⟨(a.add (i * 4)).block,(a.add (i * 4)).off+1,none⟩=some (.slice L[i].pp L[i].pn L[i].pc)∧w.cell? ⟨(a.add (i * 4)).block,(a.add (i * 4)).off+2,none⟩=some (.int .i64 L[i].rt)∧w.cell? ⟨(a.add (i * 4)).block,(a.add (i * 4)).off+3,none⟩=some (.slice L[i].bp L[i].bn L[i].bc):=by
  obtain ⟨h1,h2,h3,h4,-⟩:=h
  obtain ⟨a,e,ha,hc⟩:=h4.at (m:=4) (fun _=>rfl) i hi (by decide)
  refine ⟨a,e,ha,hc 0 (by decide),?_,?_,?_⟩
  · have:=hc 1 (by decide);rw [add_add a _ 1 (by decide)] at this;exact this
  · have:=hc 2 (by decide);rw [add_add a _ 2 (by decide)] at this;exact this
  · have:=hc 3 (by decide);rw [add_add a _ 3 (by decide)] at this;exact this
set_option maxRecDepth 100000 in
set_option maxHeartbeats 2000000 in
theorem index_F {E:Nat→World→LFn→Prop} (P:LFn→Bool) (p:Option Addr) (n c:Nat) (xs:List LFn) (W:World) (h:ListIn fnC E W.heap.size W p n c xs) (g:FuncId) (caps:Array Value)
    (hen:∀ (args:Array Value) (w:World),(callFunc g args).run Tryz.prog w=.ok (.enter g args) w)
    (hg:∀ i (hi:i<xs.length) w,Below W.heap.size W w→Calls Tryz.prog g (#[.agg #[.string xs[i].nm,.slice xs[i].pp xs[i].pn xs[i].pc,.int .i64 xs[i].rt,.slice xs[i].bp xs[i].bn xs[i].bc]]++caps) w (Ans (.bool (P xs[i])) w)) :
    Calls Tryz.prog 92 #[.slice p n c,.func (.func g) #[] caps] W fun e w' => ∃ k:Int,e=.returned (.int .i64 k)∧(decide (0≤k)=xs.any P)∧Below W.heap.size W w':=by
  obtain rfl:n=xs.length:=h.1
  have hc1:=h.2.1
  have hc2:=h.2.2.1
  unfold maxLen at hc2
  have HH:=Lib.hid h
  have HG:=Lib.hid hg
  clear h hg
  go_enter Tryz.func92,Tryz.ntmps92
  go_wp2_with fail
  go_loopw [8] (fun t wr=>∃ i:Nat,i≤xs.length∧t=.int .i64 i∧Hid ((xs.take i).any P=false)∧Below W.heap.size W wr) (fun t _=>xs.length - (intOf t).toNat)
  case atStart=>exact ⟨0,Nat.zero_le _,rfl,Lib.hid (by simp),Below.refl _ _⟩
  case round =>
    obtain ⟨i,hi,rfl,ha,hb⟩:=hrel
    by_cases hlt:i<xs.length
    · obtain ⟨a,rfl,hab,c0,c1,c2,c3⟩:=row_F HH.out i hlt
      have k0:=(hb.cell (p:=a.add (i * 4)) (by rw [add_block];exact hab)).trans c0
      have k1:=(hb.cell (p:=⟨(a.add (i * 4)).block,(a.add (i * 4)).off+1,none⟩) (by dsimp only;rw [add_block];exact hab)).trans c1
      have k2:=(hb.cell (p:=⟨(a.add (i * 4)).block,(a.add (i * 4)).off+2,none⟩) (by dsimp only;rw [add_block];exact hab)).trans c2
      have k3:=(hb.cell (p:=⟨(a.add (i * 4)).block,(a.add (i * 4)).off+3,none⟩) (by dsimp only;rw [add_block];exact hab)).trans c3
      have cg:=HG.out i hlt wr hb
      have HA:=Lib.hid (any_take P xs i hlt ha.out)
      have HT:=Lib.hid (any_hit P xs i hlt)
      have HB:=Lib.hid hb
      obtain ⟨x,ex⟩:∃ x,xs[i]=x:=⟨_,rfl⟩
      simp only [ex] at cg HA HT k0 k1 k2 k3
      clear ex ha hb c0 c1 c2 c3
      obtain ⟨q,eq⟩:∃ q,P x=q:=⟨_,rfl⟩
      rw [eq] at cg HA HT
      clear eq
      go_wp2_with fail
      refine cg.mono ?_
      rintro e w2 ⟨rfl,hb2⟩
      have HB2:=Lib.hid (HB.out.trans (hb2.mono HB.out.size))
      clear hb2 cg
      cases q
      case false =>
        go_wp2_with fail
        exact ⟨⟨i+1,by omega,by go_num,HA,HB2.out⟩,by simp [intOf];omega⟩
      case true =>
        go_wp2_with fail
        go_ret
        exact ⟨i,rfl,by rw [HT.out (by first | rfl | trivial)];simp,HB2.out⟩
    · obtain rfl:i=xs.length:=by omega
      have HA:=Lib.hid ha.out
      have HB:=Lib.hid hb
      clear ha hb
      go_wp2_with fail
      go_ret
      refine ⟨-1,rfl,?_,HB.out⟩
      have:=HA.out
      rw [List.take_length] at this
      rw [this]
      rfl
set_option maxRecDepth 100000 in
set_option maxHeartbeats 2000000 in
theorem each_F {E:Nat→World→LFn→Prop} (hE:Lasts E) (P:LFn→Bool) (p:Option Addr) (n c:Nat) (xs:List LFn) (W:World) (h:ListIn fnC E W.heap.size W p n c xs) (g:FuncId) (caps:Array Value)
    (hen:∀ (args:Array Value) (w:World),(callFunc g args).run Tryz.prog w=.ok (.enter g args) w)
    (hg:∀ i (hi:i<xs.length) w,Below W.heap.size W w→Calls Tryz.prog g (#[.agg #[.string xs[i].nm,.slice xs[i].pp xs[i].pn xs[i].pc,.int .i64 xs[i].rt,.slice xs[i].bp xs[i].bn xs[i].bc]]++caps) w (Ans (.bool (P xs[i])) w)) :
    Calls Tryz.prog 21 #[.slice p n c,.func (.func g) #[] caps] W (Ans (.bool (xs.all P)) W):=by
  have b0:Below W.heap.size W (W.alloc (.cells #[.func (.func g) #[] caps] 75)):=(Below.refl _ _).alloc (Nat.le_refl _) _
  have hbox:∀ w,Below (W.heap.size+1) (W.alloc (.cells #[.func (.func g) #[] caps] 75)) w→w.cell? ⟨W.heap.size,0,none⟩=some (.func (.func g) #[] caps):=fun w hb =>
    (hb.cell (p:=⟨W.heap.size,0,none⟩) (Nat.lt_succ_self _)).trans (by rw [World.cell?_alloc_at _ _ _ _ rfl];rfl)
  have hW1:(W.alloc (.cells #[.func (.func g) #[] caps] 75)).heap.size=W.heap.size+1:=World.size_alloc _ _
  have c1:=index_F (fun x=>!P x) p n c xs (W.alloc (.cells #[.func (.func g) #[] caps] 75)) (h.lasts hE b0 b0.size) 53 #[.pointer (some ⟨W.heap.size,0,none⟩)] (fun _ _=>rfl) (fun i hi w hb=>by
    rw [hW1] at hb
    have k0:=hbox w hb
    have hlt0:W.heap.size<w.heap.size:=Nat.lt_of_lt_of_le (by rw [hW1];exact Nat.lt_succ_self _) hb.size
    have hlw:W.heap.size≤w.heap.size:=Nat.le_of_lt hlt0
    have cg:=hg i hi _ ((b0.trans (hb.mono (Nat.le_succ _))).alloc hlw (.cells #[.string xs[i].nm,.slice xs[i].pp xs[i].pn xs[i].pc,.int .i64 xs[i].rt,.slice xs[i].bp xs[i].bn xs[i].bc] 49))
    have hb1:Below w.heap.size w (w.alloc (.cells #[.string xs[i].nm,.slice xs[i].pp xs[i].pn xs[i].pc,.int .i64 xs[i].rt,.slice xs[i].bp xs[i].bn xs[i].bc] 49)):=(Below.refl _ _).alloc (Nat.le_refl _) _
    show Calls Tryz.prog 53 #[.agg #[.string xs[i].nm,.slice xs[i].pp xs[i].pn xs[i].pc,.int .i64 xs[i].rt,.slice xs[i].bp xs[i].bn xs[i].bc],.pointer (some ⟨W.heap.size,0,none⟩)] w _
    obtain ⟨q,eq⟩:∃ q,P xs[i]=q:=⟨_,rfl⟩
    simp only [eq] at cg ⊢
    obtain ⟨x,ex⟩:∃ x,xs[i]=x:=⟨_,rfl⟩
    simp only [ex] at cg hb1 ⊢
    have HB1:=Lib.hid hb1
    clear eq ex hb hb1
    go_enter Tryz.func53,Tryz.ntmps53
    go_wp2_with fail
    refine cg.mono ?_
    rintro e w2 ⟨rfl,hb2⟩
    have HB2:=Lib.hid (HB1.out.trans (hb2.mono HB1.out.size))
    clear hb2 cg
    go_wp2_with fail
    go_ret
    exact ⟨rfl,HB2.out⟩)
  have HB:=Lib.hid b0
  have HW:=Lib.hid hW1
  rw [← all_not P xs]
  obtain ⟨q,eq⟩:∃ q,(xs.any fun x=>!P x)=q:=⟨_,rfl⟩
  rw [eq] at c1 ⊢
  clear hg h hbox b0 hW1 eq
  go_enter Tryz.func21,Tryz.ntmps21
  go_wp2_with fail
  have c2:Calls Tryz.prog 52 #[.slice p n c,.func (.func 53) #[] #[.pointer (some ⟨W.heap.size,0,none⟩)]] (W.alloc (.cells #[.func (.func g) #[] caps] 75)) (fun e w' => e=.returned (.bool q)∧Below (W.heap.size+1) (W.alloc (.cells #[.func (.func g) #[] caps] 75)) w'):=by
    go_enter Tryz.func52,Tryz.ntmps52
    go_wp2_with fail
    refine c1.mono ?_
    rintro e w2 ⟨k,rfl,hk,hb2⟩
    rw [HW.out] at hb2
    have HB2:=Lib.hid hb2
    clear hb2 c1
    cases q
    all_goals
      go_wp2_with fail
      go_ret
      exact ⟨rfl,HB2.out⟩
  clear c1
  refine c2.mono ?_
  rintro e w2 ⟨rfl,hb2⟩
  have HB2:=Lib.hid (HB.out.trans (hb2.mono (Nat.le_succ _)))
  clear c2 hb2
  go_wp2_with fail
  go_ret
  exact ⟨rfl,HB2.out⟩
theorem row_B {B:Nat} {w:World} {p:Option Addr} {n c:Nat} {L:List LB} {E:Nat→World→LB→Prop} (h:ListIn blkC E B w p n c L) (i:Nat) (hi:i<L.length) :
    ∃ a,p=some a∧a.block<B∧w.cell? (a.add i)=some (.slice L[i].p L[i].n L[i].k):=by
  obtain ⟨h1,h2,h3,h4,-⟩:=h
  obtain ⟨a,e,ha,hc⟩:=h4.at (m:=1) (fun _=>rfl) i hi (by decide)
  have:=hc 0 (by decide)
  simp only [Nat.mul_one] at this
  exact ⟨a,e,ha,this⟩
set_option maxRecDepth 100000 in
set_option maxHeartbeats 2000000 in
theorem index_B {E:Nat→World→LB→Prop} (P:LB→Bool) (p:Option Addr) (n c:Nat) (xs:List LB) (W:World) (h:ListIn blkC E W.heap.size W p n c xs) (g:FuncId) (caps:Array Value)
    (hen:∀ (args:Array Value) (w:World),(callFunc g args).run Tryz.prog w=.ok (.enter g args) w)
    (hg:∀ i (hi:i<xs.length) w,Below W.heap.size W w→Calls Tryz.prog g (#[.agg #[.slice xs[i].p xs[i].n xs[i].k]]++caps) w (Ans (.bool (P xs[i])) w)) :
    Calls Tryz.prog 95 #[.slice p n c,.func (.func g) #[] caps] W fun e w' => ∃ k:Int,e=.returned (.int .i64 k)∧(decide (0≤k)=xs.any P)∧Below W.heap.size W w':=by
  obtain rfl:n=xs.length:=h.1
  have hc1:=h.2.1
  have hc2:=h.2.2.1
  unfold maxLen at hc2
  have HH:=Lib.hid h
  have HG:=Lib.hid hg
  clear h hg
  go_enter Tryz.func95,Tryz.ntmps95
  go_wp2_with fail
  go_loopw [8] (fun t wr=>∃ i:Nat,i≤xs.length∧t=.int .i64 i∧Hid ((xs.take i).any P=false)∧Below W.heap.size W wr) (fun t _=>xs.length - (intOf t).toNat)
  case atStart=>exact ⟨0,Nat.zero_le _,rfl,Lib.hid (by simp),Below.refl _ _⟩
  case round =>
    obtain ⟨i,hi,rfl,ha,hb⟩:=hrel
    by_cases hlt:i<xs.length
    · obtain ⟨a,rfl,hab,c0⟩:=row_B HH.out i hlt
      have k0:=(hb.cell (p:=a.add i) (by rw [add_block];exact hab)).trans c0
      have cg:=HG.out i hlt wr hb
      have HA:=Lib.hid (any_take P xs i hlt ha.out)
      have HT:=Lib.hid (any_hit P xs i hlt)
      have HB:=Lib.hid hb
      obtain ⟨x,ex⟩:∃ x,xs[i]=x:=⟨_,rfl⟩
      simp only [ex] at cg HA HT k0
      clear ex ha hb c0
      obtain ⟨q,eq⟩:∃ q,P x=q:=⟨_,rfl⟩
      rw [eq] at cg HA HT
      clear eq
      go_wp2_with fail
      refine cg.mono ?_
      rintro e w2 ⟨rfl,hb2⟩
      have HB2:=Lib.hid (HB.out.trans (hb2.mono HB.out.size))
      clear hb2 cg
      cases q
      case false =>
        go_wp2_with fail
        exact ⟨⟨i+1,by omega,by go_num,HA,HB2.out⟩,by simp [intOf];omega⟩
      case true =>
        go_wp2_with fail
        go_ret
        exact ⟨i,rfl,by rw [HT.out (by first | rfl | trivial)];simp,HB2.out⟩
    · obtain rfl:i=xs.length:=by omega
      have HA:=Lib.hid ha.out
      have HB:=Lib.hid hb
      clear ha hb
      go_wp2_with fail
      go_ret
      refine ⟨-1,rfl,?_,HB.out⟩
      have:=HA.out
      rw [List.take_length] at this
      rw [this]
      rfl
set_option maxRecDepth 100000 in
set_option maxHeartbeats 2000000 in
theorem each_B {E:Nat→World→LB→Prop} (hE:Lasts E) (P:LB→Bool) (p:Option Addr) (n c:Nat) (xs:List LB) (W:World) (h:ListIn blkC E W.heap.size W p n c xs) (g:FuncId) (caps:Array Value)
    (hen:∀ (args:Array Value) (w:World),(callFunc g args).run Tryz.prog w=.ok (.enter g args) w)
    (hg:∀ i (hi:i<xs.length) w,Below W.heap.size W w→Calls Tryz.prog g (#[.agg #[.slice xs[i].p xs[i].n xs[i].k]]++caps) w (Ans (.bool (P xs[i])) w)) :
    Calls Tryz.prog 24 #[.slice p n c,.func (.func g) #[] caps] W (Ans (.bool (xs.all P)) W):=by
  have b0:Below W.heap.size W (W.alloc (.cells #[.func (.func g) #[] caps] 74)):=(Below.refl _ _).alloc (Nat.le_refl _) _
  have hbox:∀ w,Below (W.heap.size+1) (W.alloc (.cells #[.func (.func g) #[] caps] 74)) w→w.cell? ⟨W.heap.size,0,none⟩=some (.func (.func g) #[] caps):=fun w hb =>
    (hb.cell (p:=⟨W.heap.size,0,none⟩) (Nat.lt_succ_self _)).trans (by rw [World.cell?_alloc_at _ _ _ _ rfl];rfl)
  have hW1:(W.alloc (.cells #[.func (.func g) #[] caps] 74)).heap.size=W.heap.size+1:=World.size_alloc _ _
  have c1:=index_B (fun x=>!P x) p n c xs (W.alloc (.cells #[.func (.func g) #[] caps] 74)) (h.lasts hE b0 b0.size) 56 #[.pointer (some ⟨W.heap.size,0,none⟩)] (fun _ _=>rfl) (fun i hi w hb=>by
    rw [hW1] at hb
    have k0:=hbox w hb
    have hlt0:W.heap.size<w.heap.size:=Nat.lt_of_lt_of_le (by rw [hW1];exact Nat.lt_succ_self _) hb.size
    have hlw:W.heap.size≤w.heap.size:=Nat.le_of_lt hlt0
    have cg:=hg i hi _ ((b0.trans (hb.mono (Nat.le_succ _))).alloc hlw (.cells #[.slice xs[i].p xs[i].n xs[i].k] 46))
    have hb1:Below w.heap.size w (w.alloc (.cells #[.slice xs[i].p xs[i].n xs[i].k] 46)):=(Below.refl _ _).alloc (Nat.le_refl _) _
    show Calls Tryz.prog 56 #[.agg #[.slice xs[i].p xs[i].n xs[i].k],.pointer (some ⟨W.heap.size,0,none⟩)] w _
    obtain ⟨q,eq⟩:∃ q,P xs[i]=q:=⟨_,rfl⟩
    simp only [eq] at cg ⊢
    obtain ⟨x,ex⟩:∃ x,xs[i]=x:=⟨_,rfl⟩
    simp only [ex] at cg hb1 ⊢
    have HB1:=Lib.hid hb1
    clear eq ex hb hb1
    go_enter Tryz.func56,Tryz.ntmps56
    go_wp2_with fail
    refine cg.mono ?_
    rintro e w2 ⟨rfl,hb2⟩
    have HB2:=Lib.hid (HB1.out.trans (hb2.mono HB1.out.size))
    clear hb2 cg
    go_wp2_with fail
    go_ret
    exact ⟨rfl,HB2.out⟩)
  have HB:=Lib.hid b0
  have HW:=Lib.hid hW1
  rw [← all_not P xs]
  obtain ⟨q,eq⟩:∃ q,(xs.any fun x=>!P x)=q:=⟨_,rfl⟩
  rw [eq] at c1 ⊢
  clear hg h hbox b0 hW1 eq
  go_enter Tryz.func24,Tryz.ntmps24
  go_wp2_with fail
  have c2:Calls Tryz.prog 55 #[.slice p n c,.func (.func 56) #[] #[.pointer (some ⟨W.heap.size,0,none⟩)]] (W.alloc (.cells #[.func (.func g) #[] caps] 74)) (fun e w' => e=.returned (.bool q)∧Below (W.heap.size+1) (W.alloc (.cells #[.func (.func g) #[] caps] 74)) w'):=by
    go_enter Tryz.func55,Tryz.ntmps55
    go_wp2_with fail
    refine c1.mono ?_
    rintro e w2 ⟨k,rfl,hk,hb2⟩
    rw [HW.out] at hb2
    have HB2:=Lib.hid hb2
    clear hb2 c1
    cases q
    all_goals
      go_wp2_with fail
      go_ret
      exact ⟨rfl,HB2.out⟩
  clear c1
  refine c2.mono ?_
  rintro e w2 ⟨rfl,hb2⟩
  have HB2:=Lib.hid (HB.out.trans (hb2.mono (Nat.le_succ _)))
  clear c2 hb2
  go_wp2_with fail
  go_ret
  exact ⟨rfl,HB2.out⟩
theorem row_L {B:Nat} {w:World} {p:Option Addr} {n c:Nat} {L:List LI} {E:Nat→World→LI→Prop} (h:ListIn liC E B w p n c L) (i:Nat) (hi:i<L.length) :
    ∃ a,p=some a∧a.block<B∧w.cell? (a.add (i * 7))=some (.int .i64 L[i].1.op)∧w.cell? ⟨(a.add (i * 7)).block,(a.add (i * 7)).off+1,none⟩=some (.int .i64 L[i].1.reg)∧w.cell? ⟨(a.add (i * 7)).block,(a.add (i * 7)).off+2,none⟩=some (.int .i64 L[i].1.ty)∧w.cell? ⟨(a.add (i * 7)).block,(a.add (i * 7)).off+3,none⟩=some (.int .i64 L[i].1.n)∧w.cell? ⟨(a.add (i * 7)).block,(a.add (i * 7)).off+4,none⟩=some (.int .i64 L[i].1.fl)∧w.cell? ⟨(a.add (i * 7)).block,(a.add (i * 7)).off+5,none⟩=some (.slice L[i].1.ap L[i].1.al L[i].1.ac)∧w.cell? ⟨(a.add (i * 7)).block,(a.add (i * 7)).off+6,none⟩=some (.slice L[i].1.tp L[i].1.tl L[i].1.tc):=by
  obtain ⟨h1,h2,h3,h4,-⟩:=h
  obtain ⟨a,e,ha,hc⟩:=h4.at (m:=7) (fun _=>rfl) i hi (by decide)
  refine ⟨a,e,ha,hc 0 (by decide),?_,?_,?_,?_,?_,?_⟩
  · have:=hc 1 (by decide);rw [add_add a _ 1 (by decide)] at this;exact this
  · have:=hc 2 (by decide);rw [add_add a _ 2 (by decide)] at this;exact this
  · have:=hc 3 (by decide);rw [add_add a _ 3 (by decide)] at this;exact this
  · have:=hc 4 (by decide);rw [add_add a _ 4 (by decide)] at this;exact this
  · have:=hc 5 (by decide);rw [add_add a _ 5 (by decide)] at this;exact this
  · have:=hc 6 (by decide);rw [add_add a _ 6 (by decide)] at this;exact this
set_option maxRecDepth 100000 in
set_option maxHeartbeats 2000000 in
theorem index_L {E:Nat→World→LI→Prop} (P:LI→Bool) (p:Option Addr) (n c:Nat) (xs:List LI) (W:World) (h:ListIn liC E W.heap.size W p n c xs) (g:FuncId) (caps:Array Value)
    (hen:∀ (args:Array Value) (w:World),(callFunc g args).run Tryz.prog w=.ok (.enter g args) w)
    (hg:∀ i (hi:i<xs.length) w,Below W.heap.size W w→Calls Tryz.prog g (#[.agg #[.int .i64 xs[i].1.op,.int .i64 xs[i].1.reg,.int .i64 xs[i].1.ty,.int .i64 xs[i].1.n,.int .i64 xs[i].1.fl,.slice xs[i].1.ap xs[i].1.al xs[i].1.ac,.slice xs[i].1.tp xs[i].1.tl xs[i].1.tc]]++caps) w (Ans (.bool (P xs[i])) w)) :
    Calls Tryz.prog 96 #[.slice p n c,.func (.func g) #[] caps] W fun e w' => ∃ k:Int,e=.returned (.int .i64 k)∧(decide (0≤k)=xs.any P)∧Below W.heap.size W w':=by
  obtain rfl:n=xs.length:=h.1
  have hc1:=h.2.1
  have hc2:=h.2.2.1
  unfold maxLen at hc2
  have HH:=Lib.hid h
  have HG:=Lib.hid hg
  clear h hg
  go_enter Tryz.func96,Tryz.ntmps96
  go_wp2_with fail
  go_loopw [8] (fun t wr=>∃ i:Nat,i≤xs.length∧t=.int .i64 i∧Hid ((xs.take i).any P=false)∧Below W.heap.size W wr) (fun t _=>xs.length - (intOf t).toNat)
  case atStart=>exact ⟨0,Nat.zero_le _,rfl,Lib.hid (by simp),Below.refl _ _⟩
  case round =>
    obtain ⟨i,hi,rfl,ha,hb⟩:=hrel
    by_cases hlt:i<xs.length
    · obtain ⟨a,rfl,hab,c0,c1,c2,c3,c4,c5,c6⟩:=row_L HH.out i hlt
      have k0:=(hb.cell (p:=a.add (i * 7)) (by rw [add_block];exact hab)).trans c0
      have k1:=(hb.cell (p:=⟨(a.add (i * 7)).block,(a.add (i * 7)).off+1,none⟩) (by dsimp only;rw [add_block];exact hab)).trans c1
      have k2:=(hb.cell (p:=⟨(a.add (i * 7)).block,(a.add (i * 7)).off+2,none⟩) (by dsimp only;rw [add_block];exact hab)).trans c2
      have k3:=(hb.cell (p:=⟨(a.add (i * 7)).block,(a.add (i * 7)).off+3,none⟩) (by dsimp only;rw [add_block];exact hab)).trans c3
      have k4:=(hb.cell (p:=⟨(a.add (i * 7)).block,(a.add (i * 7)).off+4,none⟩) (by dsimp only;rw [add_block];exact hab)).trans c4
      have k5:=(hb.cell (p:=⟨(a.add (i * 7)).block,(a.add (i * 7)).off+5,none⟩) (by dsimp only;rw [add_block];exact hab)).trans c5
      have k6:=(hb.cell (p:=⟨(a.add (i * 7)).block,(a.add (i * 7)).off+6,none⟩) (by dsimp only;rw [add_block];exact hab)).trans c6
      have cg:=HG.out i hlt wr hb
      have HA:=Lib.hid (any_take P xs i hlt ha.out)
      have HT:=Lib.hid (any_hit P xs i hlt)
      have HB:=Lib.hid hb
      obtain ⟨x,ex⟩:∃ x,xs[i]=x:=⟨_,rfl⟩
      simp only [ex] at cg HA HT k0 k1 k2 k3 k4 k5 k6
      clear ex ha hb c0 c1 c2 c3 c4 c5 c6
      obtain ⟨q,eq⟩:∃ q,P x=q:=⟨_,rfl⟩
      rw [eq] at cg HA HT
      clear eq
      go_wp2_with fail
      refine cg.mono ?_
      rintro e w2 ⟨rfl,hb2⟩
      have HB2:=Lib.hid (HB.out.trans (hb2.mono HB.out.size))
      clear hb2 cg
      cases q
      case false =>
        go_wp2_with fail
        exact ⟨⟨i+1,by omega,by go_num,HA,HB2.out⟩,by simp [intOf];omega⟩
      case true =>
        go_wp2_with fail
        go_ret
        exact ⟨i,rfl,by rw [HT.out (by first | rfl | trivial)];simp,HB2.out⟩
    · obtain rfl:i=xs.length:=by omega
      have HA:=Lib.hid ha.out
      have HB:=Lib.hid hb
      clear ha hb
      go_wp2_with fail
      go_ret
      refine ⟨-1,rfl,?_,HB.out⟩
      have:=HA.out
      rw [List.take_length] at this
      rw [this]
      rfl
set_option maxRecDepth 100000 in
set_option maxHeartbeats 2000000 in
theorem each_L {E:Nat→World→LI→Prop} (hE:Lasts E) (P:LI→Bool) (p:Option Addr) (n c:Nat) (xs:List LI) (W:World) (h:ListIn liC E W.heap.size W p n c xs) (g:FuncId) (caps:Array Value)
    (hen:∀ (args:Array Value) (w:World),(callFunc g args).run Tryz.prog w=.ok (.enter g args) w)
    (hg:∀ i (hi:i<xs.length) w,Below W.heap.size W w→Calls Tryz.prog g (#[.agg #[.int .i64 xs[i].1.op,.int .i64 xs[i].1.reg,.int .i64 xs[i].1.ty,.int .i64 xs[i].1.n,.int .i64 xs[i].1.fl,.slice xs[i].1.ap xs[i].1.al xs[i].1.ac,.slice xs[i].1.tp xs[i].1.tl xs[i].1.tc]]++caps) w (Ans (.bool (P xs[i])) w)) :
    Calls Tryz.prog 26 #[.slice p n c,.func (.func g) #[] caps] W (Ans (.bool (xs.all P)) W):=by
  have b0:Below W.heap.size W (W.alloc (.cells #[.func (.func g) #[] caps] 73)):=(Below.refl _ _).alloc (Nat.le_refl _) _
  have hbox:∀ w,Below (W.heap.size+1) (W.alloc (.cells #[.func (.func g) #[] caps] 73)) w→w.cell? ⟨W.heap.size,0,none⟩=some (.func (.func g) #[] caps):=fun w hb =>
    (hb.cell (p:=⟨W.heap.size,0,none⟩) (Nat.lt_succ_self _)).trans (by rw [World.cell?_alloc_at _ _ _ _ rfl];rfl)
  have hW1:(W.alloc (.cells #[.func (.func g) #[] caps] 73)).heap.size=W.heap.size+1:=World.size_alloc _ _
  have c1:=index_L (fun x=>!P x) p n c xs (W.alloc (.cells #[.func (.func g) #[] caps] 73)) (h.lasts hE b0 b0.size) 58 #[.pointer (some ⟨W.heap.size,0,none⟩)] (fun _ _=>rfl) (fun i hi w hb=>by
    rw [hW1] at hb
    have k0:=hbox w hb
    have hlt0:W.heap.size<w.heap.size:=Nat.lt_of_lt_of_le (by rw [hW1];exact Nat.lt_succ_self _) hb.size
    have hlw:W.heap.size≤w.heap.size:=Nat.le_of_lt hlt0
    have cg:=hg i hi _ ((b0.trans (hb.mono (Nat.le_succ _))).alloc hlw (.cells #[.int .i64 xs[i].1.op,.int .i64 xs[i].1.reg,.int .i64 xs[i].1.ty,.int .i64 xs[i].1.n,.int .i64 xs[i].1.fl,.slice xs[i].1.ap xs[i].1.al xs[i].1.ac,.slice xs[i].1.tp xs[i].1.tl xs[i].1.tc] 43))
    have hb1:Below w.heap.size w (w.alloc (.cells #[.int .i64 xs[i].1.op,.int .i64 xs[i].1.reg,.int .i64 xs[i].1.ty,.int .i64 xs[i].1.n,.int .i64 xs[i].1.fl,.slice xs[i].1.ap xs[i].1.al xs[i].1.ac,.slice xs[i].1.tp xs[i].1.tl xs[i].1.tc] 43)):=(Below.refl _ _).alloc (Nat.le_refl _) _
    show Calls Tryz.prog 58 #[.agg #[.int .i64 xs[i].1.op,.int .i64 xs[i].1.reg,.int .i64 xs[i].1.ty,.int .i64 xs[i].1.n,.int .i64 xs[i].1.fl,.slice xs[i].1.ap xs[i].1.al xs[i].1.ac,.slice xs[i].1.tp xs[i].1.tl xs[i].1.tc],.pointer (some ⟨W.heap.size,0,none⟩)] w _
    obtain ⟨q,eq⟩:∃ q,P xs[i]=q:=⟨_,rfl⟩
    simp only [eq] at cg ⊢
    obtain ⟨x,ex⟩:∃ x,xs[i]=x:=⟨_,rfl⟩
    simp only [ex] at cg hb1 ⊢
    have HB1:=Lib.hid hb1
    clear eq ex hb hb1
    go_enter Tryz.func58,Tryz.ntmps58
    go_wp2_with fail
    refine cg.mono ?_
    rintro e w2 ⟨rfl,hb2⟩
    have HB2:=Lib.hid (HB1.out.trans (hb2.mono HB1.out.size))
    clear hb2 cg
    go_wp2_with fail
    go_ret
    exact ⟨rfl,HB2.out⟩)
  have HB:=Lib.hid b0
  have HW:=Lib.hid hW1
  rw [← all_not P xs]
  obtain ⟨q,eq⟩:∃ q,(xs.any fun x=>!P x)=q:=⟨_,rfl⟩
  rw [eq] at c1 ⊢
  clear hg h hbox b0 hW1 eq
  go_enter Tryz.func26,Tryz.ntmps26
  go_wp2_with fail
  have c2:Calls Tryz.prog 57 #[.slice p n c,.func (.func 58) #[] #[.pointer (some ⟨W.heap.size,0,none⟩)]] (W.alloc (.cells #[.func (.func g) #[] caps] 73)) (fun e w' => e=.returned (.bool q)∧Below (W.heap.size+1) (W.alloc (.cells #[.func (.func g) #[] caps] 73)) w'):=by
    go_enter Tryz.func57,Tryz.ntmps57
    go_wp2_with fail
    refine c1.mono ?_
    rintro e w2 ⟨k,rfl,hk,hb2⟩
    rw [HW.out] at hb2
    have HB2:=Lib.hid hb2
    clear hb2 c1
    cases q
    all_goals
      go_wp2_with fail
      go_ret
      exact ⟨rfl,HB2.out⟩
  clear c1
  refine c2.mono ?_
  rintro e w2 ⟨rfl,hb2⟩
  have HB2:=Lib.hid (HB.out.trans (hb2.mono (Nat.le_succ _)))
  clear c2 hb2
  go_wp2_with fail
  go_ret
  exact ⟨rfl,HB2.out⟩
theorem row_A {B:Nat} {w:World} {p:Option Addr} {n c:Nat} {L:List Arg} {E:Nat→World→Arg→Prop} (h:ListIn argC E B w p n c L) (i:Nat) (hi:i<L.length) :
    ∃ a,p=some a∧a.block<B∧w.cell? (a.add (i * 3))=some (.int .i64 L[i].kind)∧w.cell? ⟨(a.add (i * 3)).block,(a.add (i * 3)).off+1,none⟩=some (.int .i64 L[i].n)∧w.cell? ⟨(a.add (i * 3)).block,(a.add (i * 3)).off+2,none⟩=some (.int .u64 L[i].bits):=by
  obtain ⟨h1,h2,h3,h4,-⟩:=h
  obtain ⟨a,e,ha,hc⟩:=h4.at (m:=3) (fun _=>rfl) i hi (by decide)
  refine ⟨a,e,ha,hc 0 (by decide),?_,?_⟩
  · have:=hc 1 (by decide);rw [add_add a _ 1 (by decide)] at this;exact this
  · have:=hc 2 (by decide);rw [add_add a _ 2 (by decide)] at this;exact this
set_option maxRecDepth 100000 in
set_option maxHeartbeats 2000000 in
theorem index_A {E:Nat→World→Arg→Prop} (P:Arg→Bool) (p:Option Addr) (n c:Nat) (xs:List Arg) (W:World) (h:ListIn argC E W.heap.size W p n c xs) (g:FuncId) (caps:Array Value)
    (hen:∀ (args:Array Value) (w:World),(callFunc g args).run Tryz.prog w=.ok (.enter g args) w)
    (hg:∀ i (hi:i<xs.length) w,Below W.heap.size W w→Calls Tryz.prog g (#[.agg #[.int .i64 xs[i].kind,.int .i64 xs[i].n,.int .u64 xs[i].bits]]++caps) w (Ans (.bool (P xs[i])) w)) :
    Calls Tryz.prog 139 #[.slice p n c,.func (.func g) #[] caps] W fun e w' => ∃ k:Int,e=.returned (.int .i64 k)∧(decide (0≤k)=xs.any P)∧Below W.heap.size W w':=by
  obtain rfl:n=xs.length:=h.1
  have hc1:=h.2.1
  have hc2:=h.2.2.1
  unfold maxLen at hc2
  have HH:=Lib.hid h
  have HG:=Lib.hid hg
  clear h hg
  go_enter Tryz.func139,Tryz.ntmps139
  go_wp2_with fail
  go_loopw [8] (fun t wr=>∃ i:Nat,i≤xs.length∧t=.int .i64 i∧Hid ((xs.take i).any P=false)∧Below W.heap.size W wr) (fun t _=>xs.length - (intOf t).toNat)
  case atStart=>exact ⟨0,Nat.zero_le _,rfl,Lib.hid (by simp),Below.refl _ _⟩
  case round =>
    obtain ⟨i,hi,rfl,ha,hb⟩:=hrel
    by_cases hlt:i<xs.length
    · obtain ⟨a,rfl,hab,c0,c1,c2⟩:=row_A HH.out i hlt
      have k0:=(hb.cell (p:=a.add (i * 3)) (by rw [add_block];exact hab)).trans c0
      have k1:=(hb.cell (p:=⟨(a.add (i * 3)).block,(a.add (i * 3)).off+1,none⟩) (by dsimp only;rw [add_block];exact hab)).trans c1
      have k2:=(hb.cell (p:=⟨(a.add (i * 3)).block,(a.add (i * 3)).off+2,none⟩) (by dsimp only;rw [add_block];exact hab)).trans c2
      have cg:=HG.out i hlt wr hb
      have HA:=Lib.hid (any_take P xs i hlt ha.out)
      have HT:=Lib.hid (any_hit P xs i hlt)
      have HB:=Lib.hid hb
      obtain ⟨x,ex⟩:∃ x,xs[i]=x:=⟨_,rfl⟩
      simp only [ex] at cg HA HT k0 k1 k2
      clear ex ha hb c0 c1 c2
      obtain ⟨q,eq⟩:∃ q,P x=q:=⟨_,rfl⟩
      rw [eq] at cg HA HT
      clear eq
      go_wp2_with fail
      refine cg.mono ?_
      rintro e w2 ⟨rfl,hb2⟩
      have HB2:=Lib.hid (HB.out.trans (hb2.mono HB.out.size))
      clear hb2 cg
      cases q
      case false =>
        go_wp2_with fail
        exact ⟨⟨i+1,by omega,by go_num,HA,HB2.out⟩,by simp [intOf];omega⟩
      case true =>
        go_wp2_with fail
        go_ret
        exact ⟨i,rfl,by rw [HT.out (by first | rfl | trivial)];simp,HB2.out⟩
    · obtain rfl:i=xs.length:=by omega
      have HA:=Lib.hid ha.out
      have HB:=Lib.hid hb
      clear ha hb
      go_wp2_with fail
      go_ret
      refine ⟨-1,rfl,?_,HB.out⟩
      have:=HA.out
      rw [List.take_length] at this
      rw [this]
      rfl
set_option maxRecDepth 100000 in
set_option maxHeartbeats 2000000 in
theorem each_A {E:Nat→World→Arg→Prop} (hE:Lasts E) (P:Arg→Bool) (p:Option Addr) (n c:Nat) (xs:List Arg) (W:World) (h:ListIn argC E W.heap.size W p n c xs) (g:FuncId) (caps:Array Value)
    (hen:∀ (args:Array Value) (w:World),(callFunc g args).run Tryz.prog w=.ok (.enter g args) w)
    (hg:∀ i (hi:i<xs.length) w,Below W.heap.size W w→Calls Tryz.prog g (#[.agg #[.int .i64 xs[i].kind,.int .i64 xs[i].n,.int .u64 xs[i].bits]]++caps) w (Ans (.bool (P xs[i])) w)) :
    Calls Tryz.prog 66 #[.slice p n c,.func (.func g) #[] caps] W (Ans (.bool (xs.all P)) W):=by
  have b0:Below W.heap.size W (W.alloc (.cells #[.func (.func g) #[] caps] 109)):=(Below.refl _ _).alloc (Nat.le_refl _) _
  have hbox:∀ w,Below (W.heap.size+1) (W.alloc (.cells #[.func (.func g) #[] caps] 109)) w→w.cell? ⟨W.heap.size,0,none⟩=some (.func (.func g) #[] caps):=fun w hb =>
    (hb.cell (p:=⟨W.heap.size,0,none⟩) (Nat.lt_succ_self _)).trans (by rw [World.cell?_alloc_at _ _ _ _ rfl];rfl)
  have hW1:(W.alloc (.cells #[.func (.func g) #[] caps] 109)).heap.size=W.heap.size+1:=World.size_alloc _ _
  have c1:=index_A (fun x=>!P x) p n c xs (W.alloc (.cells #[.func (.func g) #[] caps] 109)) (h.lasts hE b0 b0.size) 101 #[.pointer (some ⟨W.heap.size,0,none⟩)] (fun _ _=>rfl) (fun i hi w hb=>by
    rw [hW1] at hb
    have k0:=hbox w hb
    have hlt0:W.heap.size<w.heap.size:=Nat.lt_of_lt_of_le (by rw [hW1];exact Nat.lt_succ_self _) hb.size
    have hlw:W.heap.size≤w.heap.size:=Nat.le_of_lt hlt0
    have cg:=hg i hi _ ((b0.trans (hb.mono (Nat.le_succ _))).alloc hlw (.cells #[.int .i64 xs[i].kind,.int .i64 xs[i].n,.int .u64 xs[i].bits] 107))
    have hb1:Below w.heap.size w (w.alloc (.cells #[.int .i64 xs[i].kind,.int .i64 xs[i].n,.int .u64 xs[i].bits] 107)):=(Below.refl _ _).alloc (Nat.le_refl _) _
    show Calls Tryz.prog 101 #[.agg #[.int .i64 xs[i].kind,.int .i64 xs[i].n,.int .u64 xs[i].bits],.pointer (some ⟨W.heap.size,0,none⟩)] w _
    obtain ⟨q,eq⟩:∃ q,P xs[i]=q:=⟨_,rfl⟩
    simp only [eq] at cg ⊢
    obtain ⟨x,ex⟩:∃ x,xs[i]=x:=⟨_,rfl⟩
    simp only [ex] at cg hb1 ⊢
    have HB1:=Lib.hid hb1
    clear eq ex hb hb1
    go_enter Tryz.func101,Tryz.ntmps101
    go_wp2_with fail
    refine cg.mono ?_
    rintro e w2 ⟨rfl,hb2⟩
    have HB2:=Lib.hid (HB1.out.trans (hb2.mono HB1.out.size))
    clear hb2 cg
    go_wp2_with fail
    go_ret
    exact ⟨rfl,HB2.out⟩)
  have HB:=Lib.hid b0
  have HW:=Lib.hid hW1
  rw [← all_not P xs]
  obtain ⟨q,eq⟩:∃ q,(xs.any fun x=>!P x)=q:=⟨_,rfl⟩
  rw [eq] at c1 ⊢
  clear hg h hbox b0 hW1 eq
  go_enter Tryz.func66,Tryz.ntmps66
  go_wp2_with fail
  have c2:Calls Tryz.prog 100 #[.slice p n c,.func (.func 101) #[] #[.pointer (some ⟨W.heap.size,0,none⟩)]] (W.alloc (.cells #[.func (.func g) #[] caps] 109)) (fun e w' => e=.returned (.bool q)∧Below (W.heap.size+1) (W.alloc (.cells #[.func (.func g) #[] caps] 109)) w'):=by
    go_enter Tryz.func100,Tryz.ntmps100
    go_wp2_with fail
    refine c1.mono ?_
    rintro e w2 ⟨k,rfl,hk,hb2⟩
    rw [HW.out] at hb2
    have HB2:=Lib.hid hb2
    clear hb2 c1
    cases q
    all_goals
      go_wp2_with fail
      go_ret
      exact ⟨rfl,HB2.out⟩
  clear c1
  refine c2.mono ?_
  rintro e w2 ⟨rfl,hb2⟩
  have HB2:=Lib.hid (HB.out.trans (hb2.mono (Nat.le_succ _)))
  clear c2 hb2
  go_wp2_with fail
  go_ret
  exact ⟨rfl,HB2.out⟩
theorem row_I {B:Nat} {w:World} {p:Option Addr} {n c:Nat} {L:List Int} {E:Nat→World→Int→Prop} (h:ListIn intC E B w p n c L) (i:Nat) (hi:i<L.length) :
    ∃ a,p=some a∧a.block<B∧w.cell? (a.add i)=some (.int .i64 L[i]):=by
  obtain ⟨h1,h2,h3,h4,-⟩:=h
  obtain ⟨a,e,ha,hc⟩:=h4.at (m:=1) (fun _=>rfl) i hi (by decide)
  have:=hc 0 (by decide)
  simp only [Nat.mul_one] at this
  exact ⟨a,e,ha,this⟩
set_option maxRecDepth 100000 in
set_option maxHeartbeats 2000000 in
theorem index_I {E:Nat→World→Int→Prop} (P:Int→Bool) (p:Option Addr) (n c:Nat) (xs:List Int) (W:World) (h:ListIn intC E W.heap.size W p n c xs) (g:FuncId) (caps:Array Value)
    (hen:∀ (args:Array Value) (w:World),(callFunc g args).run Tryz.prog w=.ok (.enter g args) w)
    (hg:∀ i (hi:i<xs.length) w,Below W.heap.size W w→Calls Tryz.prog g (#[.int .i64 xs[i]]++caps) w (Ans (.bool (P xs[i])) w)) :
    Calls Tryz.prog 137 #[.slice p n c,.func (.func g) #[] caps] W fun e w' => ∃ k:Int,e=.returned (.int .i64 k)∧(decide (0≤k)=xs.any P)∧Below W.heap.size W w':=by
  obtain rfl:n=xs.length:=h.1
  have hc1:=h.2.1
  have hc2:=h.2.2.1
  unfold maxLen at hc2
  have HH:=Lib.hid h
  have HG:=Lib.hid hg
  clear h hg
  go_enter Tryz.func137,Tryz.ntmps137
  go_wp2_with fail
  go_loopw [8] (fun t wr=>∃ i:Nat,i≤xs.length∧t=.int .i64 i∧Hid ((xs.take i).any P=false)∧Below W.heap.size W wr) (fun t _=>xs.length - (intOf t).toNat)
  case atStart=>exact ⟨0,Nat.zero_le _,rfl,Lib.hid (by simp),Below.refl _ _⟩
  case round =>
    obtain ⟨i,hi,rfl,ha,hb⟩:=hrel
    by_cases hlt:i<xs.length
    · obtain ⟨a,rfl,hab,c0⟩:=row_I HH.out i hlt
      have k0:=(hb.cell (p:=a.add i) (by rw [add_block];exact hab)).trans c0
      have cg:=HG.out i hlt wr hb
      have HA:=Lib.hid (any_take P xs i hlt ha.out)
      have HT:=Lib.hid (any_hit P xs i hlt)
      have HB:=Lib.hid hb
      obtain ⟨x,ex⟩:∃ x,xs[i]=x:=⟨_,rfl⟩
      simp only [ex] at cg HA HT k0
      clear ex ha hb c0
      obtain ⟨q,eq⟩:∃ q,P x=q:=⟨_,rfl⟩
      rw [eq] at cg HA HT
      clear eq
      go_wp2_with fail
      refine cg.mono ?_
      rintro e w2 ⟨rfl,hb2⟩
      have HB2:=Lib.hid (HB.out.trans (hb2.mono HB.out.size))
      clear hb2 cg
      cases q
      case false =>
        go_wp2_with fail
        exact ⟨⟨i+1,by omega,by go_num,HA,HB2.out⟩,by simp [intOf];omega⟩
      case true =>
        go_wp2_with fail
        go_ret
        exact ⟨i,rfl,by rw [HT.out (by first | rfl | trivial)];simp,HB2.out⟩
    · obtain rfl:i=xs.length:=by omega
      have HA:=Lib.hid ha.out
      have HB:=Lib.hid hb
      clear ha hb
      go_wp2_with fail
      go_ret
      refine ⟨-1,rfl,?_,HB.out⟩
      have:=HA.out
      rw [List.take_length] at this
      rw [this]
      rfl
set_option maxRecDepth 100000 in
set_option maxHeartbeats 2000000 in
theorem each_I {E:Nat→World→Int→Prop} (hE:Lasts E) (P:Int→Bool) (p:Option Addr) (n c:Nat) (xs:List Int) (W:World) (h:ListIn intC E W.heap.size W p n c xs) (g:FuncId) (caps:Array Value)
    (hen:∀ (args:Array Value) (w:World),(callFunc g args).run Tryz.prog w=.ok (.enter g args) w)
    (hg:∀ i (hi:i<xs.length) w,Below W.heap.size W w→Calls Tryz.prog g (#[.int .i64 xs[i]]++caps) w (Ans (.bool (P xs[i])) w)) :
    Calls Tryz.prog 54 #[.slice p n c,.func (.func g) #[] caps] W (Ans (.bool (xs.all P)) W):=by
  have b0:Below W.heap.size W (W.alloc (.cells #[.func (.func g) #[] caps] 92)):=(Below.refl _ _).alloc (Nat.le_refl _) _
  have hbox:∀ w,Below (W.heap.size+1) (W.alloc (.cells #[.func (.func g) #[] caps] 92)) w→w.cell? ⟨W.heap.size,0,none⟩=some (.func (.func g) #[] caps):=fun w hb =>
    (hb.cell (p:=⟨W.heap.size,0,none⟩) (Nat.lt_succ_self _)).trans (by rw [World.cell?_alloc_at _ _ _ _ rfl];rfl)
  have hW1:(W.alloc (.cells #[.func (.func g) #[] caps] 92)).heap.size=W.heap.size+1:=World.size_alloc _ _
  have c1:=index_I (fun x=>!P x) p n c xs (W.alloc (.cells #[.func (.func g) #[] caps] 92)) (h.lasts hE b0 b0.size) 94 #[.pointer (some ⟨W.heap.size,0,none⟩)] (fun _ _=>rfl) (fun i hi w hb=>by
    rw [hW1] at hb
    have k0:=hbox w hb
    have hlt0:W.heap.size<w.heap.size:=Nat.lt_of_lt_of_le (by rw [hW1];exact Nat.lt_succ_self _) hb.size
    have hlw:W.heap.size≤w.heap.size:=Nat.le_of_lt hlt0
    have cg:=hg i hi w (b0.trans (hb.mono (Nat.le_succ _)))
    have hb1:Below w.heap.size w w:=Below.refl _ _
    show Calls Tryz.prog 94 #[.int .i64 xs[i],.pointer (some ⟨W.heap.size,0,none⟩)] w _
    obtain ⟨q,eq⟩:∃ q,P xs[i]=q:=⟨_,rfl⟩
    simp only [eq] at cg ⊢
    obtain ⟨x,ex⟩:∃ x,xs[i]=x:=⟨_,rfl⟩
    simp only [ex] at cg hb1 ⊢
    have HB1:=Lib.hid hb1
    clear eq ex hb hb1
    go_enter Tryz.func94,Tryz.ntmps94
    go_wp2_with fail
    refine cg.mono ?_
    rintro e w2 ⟨rfl,hb2⟩
    have HB2:=Lib.hid (HB1.out.trans (hb2.mono HB1.out.size))
    clear hb2 cg
    go_wp2_with fail
    go_ret
    exact ⟨rfl,HB2.out⟩)
  have HB:=Lib.hid b0
  have HW:=Lib.hid hW1
  rw [← all_not P xs]
  obtain ⟨q,eq⟩:∃ q,(xs.any fun x=>!P x)=q:=⟨_,rfl⟩
  rw [eq] at c1 ⊢
  clear hg h hbox b0 hW1 eq
  go_enter Tryz.func54,Tryz.ntmps54
  go_wp2_with fail
  have c2:Calls Tryz.prog 93 #[.slice p n c,.func (.func 94) #[] #[.pointer (some ⟨W.heap.size,0,none⟩)]] (W.alloc (.cells #[.func (.func g) #[] caps] 92)) (fun e w' => e=.returned (.bool q)∧Below (W.heap.size+1) (W.alloc (.cells #[.func (.func g) #[] caps] 92)) w'):=by
    go_enter Tryz.func93,Tryz.ntmps93
    go_wp2_with fail
    refine c1.mono ?_
    rintro e w2 ⟨k,rfl,hk,hb2⟩
    rw [HW.out] at hb2
    have HB2:=Lib.hid hb2
    clear hb2 c1
    cases q
    all_goals
      go_wp2_with fail
      go_ret
      exact ⟨rfl,HB2.out⟩
  clear c1
  refine c2.mono ?_
  rintro e w2 ⟨rfl,hb2⟩
  have HB2:=Lib.hid (HB.out.trans (hb2.mono (Nat.le_succ _)))
  clear c2 hb2
  go_wp2_with fail
  go_ret
  exact ⟨rfl,HB2.out⟩
theorem below2 (W:World) (a b:Obj):Below W.heap.size W ((W.alloc a).alloc b):=((Below.refl _ _).alloc (Nat.le_refl _) a).alloc (by simp) b
set_option maxRecDepth 100000 in
set_option maxHeartbeats 4000000 in
theorem isOperand_any (m:LMod) (v:Arg) (hv:m.vn=m.vs.length) (W:World) :
    Calls Tryz.prog 68 #[.agg (modC m).toArray,.agg (argC v).toArray] W (Ans (.bool (argB (modD m) v)) W):=by
  obtain ⟨kd,nn,bt⟩:=v
  obtain ⟨vp,vn,vc,vs,xp,xn,xc,xs,fp,fn,fc,fs⟩:=m
  simp only at hv
  subst hv
  show Calls Tryz.prog 68 #[.agg #[.slice vp vs.length vc,.slice xp xn xc,.slice fp fn fc],.agg #[.int .i64 kd,.int .i64 nn,.int .u64 bt]] W (Ans (.bool (argB ⟨vs,xs.map extD,fs.map fnD⟩ ⟨kd,nn,bt⟩)) W)
  have hk:kd=1∨kd=2∨kd=3∨kd=4∨kd=5∨(kd≠1∧kd≠2∧kd≠3∧kd≠4∧kd≠5):=by omega
  have B2:=below2 W (.cells #[.slice vp vs.length vc,.slice xp xn xc,.slice fp fn fc] 26) (.cells #[.int .i64 kd,.int .i64 nn,.int .u64 bt] 107)
  have HB2:=Lib.hid B2
  clear B2
  rcases hk with rfl | rfl | rfl | rfl | rfl | ⟨n1,n2,n3,n4,n5⟩
  · have cr:=fun w=>isRegister_any nn w
    have hA:argB ⟨vs,xs.map extD,fs.map fnD⟩ ⟨1,nn,bt⟩=(regB nn&&decide (bt=0)):=rfl
    rw [hA]
    clear hA
    generalize regB nn=q at *
    go_enter Tryz.func68,Tryz.ntmps68
    go_wp2_with fail
    refine (cr _).mono ?_
    rintro e w2 ⟨rfl,rfl⟩
    cases q
    · go_wp2_with fail
      go_ret
      exact ⟨rfl,HB2.out⟩
    · go_wp2
      all_goals go_ret
      all_goals exact ⟨ret_bool (by rw [Bool.eq_iff_iff];simp),HB2.out⟩
  · have hA:argB ⟨vs,xs.map extD,fs.map fnD⟩ ⟨2,nn,bt⟩=decide (nn=0):=rfl
    rw [hA]
    clear hA
    go_enter Tryz.func68,Tryz.ntmps68
    go_wp2
    all_goals go_ret
    all_goals exact ⟨ret_bool (by rw [Bool.eq_iff_iff];simp <;> omega),below2 W _ _⟩
  · have hA:argB ⟨vs,xs.map extD,fs.map fnD⟩ ⟨3,nn,bt⟩=decide (nn=0∧bt=0):=rfl
    rw [hA]
    clear hA
    go_enter Tryz.func68,Tryz.ntmps68
    go_wp2
    all_goals go_ret
    all_goals exact ⟨ret_bool (by rw [Bool.eq_iff_iff];simp <;> omega),below2 W _ _⟩
  · have hA:argB ⟨vs,xs.map extD,fs.map fnD⟩ ⟨4,nn,bt⟩=decide (nn=0∧bt=0):=rfl
    rw [hA]
    clear hA
    go_enter Tryz.func68,Tryz.ntmps68
    go_wp2
    all_goals go_ret
    all_goals exact ⟨ret_bool (by rw [Bool.eq_iff_iff];simp <;> omega),below2 W _ _⟩
  · have hA:argB ⟨vs,xs.map extD,fs.map fnD⟩ ⟨5,nn,bt⟩=decide (0≤nn∧nn<vs.length∧bt=0):=rfl
    rw [hA]
    clear hA
    go_enter Tryz.func68,Tryz.ntmps68
    go_wp2
    all_goals go_ret
    all_goals exact ⟨ret_bool (by rw [Bool.eq_iff_iff];simp <;> omega),below2 W _ _⟩
  · have hA:argB ⟨vs,xs.map extD,fs.map fnD⟩ ⟨kd,nn,bt⟩=false:=by
      unfold argB
      simp only
      rw [if_neg n1,if_neg n2,if_neg (by omega),if_neg n5]
    rw [hA]
    have e1:(kd==(1:Int))=false:=by simp;exact n1
    have e2:(kd==(2:Int))=false:=by simp;exact n2
    have e3:(kd==(3:Int))=false:=by simp;exact n3
    have e4:(kd==(4:Int))=false:=by simp;exact n4
    have e5:(kd==(5:Int))=false:=by simp;exact n5
    clear hA n1 n2 n3 n4 n5
    go_enter Tryz.func68,Tryz.ntmps68
    go_wp2_with fail
    go_ret
    exact ⟨rfl,HB2.out⟩
theorem callD_R {m:PMod} {n t:Int} {b:Bool} {ps:List Int} (h:callD m n=(b,ps,t)):(b=true∧calR m.xs m.fs n=some t)∨(b=false∧calR m.xs m.fs n=none):=by
  unfold callD at h
  unfold calR
  by_cases h0:0≤n
  · rw [if_pos h0] at h ⊢
    cases e:m.fs[n.toNat]? with
    | none=>rw [e] at h;injection h with h1 _;exact .inr ⟨h1.symm,rfl⟩
    | some f=>rw [e] at h;injection h with h1 h2;injection h2 with _ h3;exact .inl ⟨h1.symm,by rw [← h3];rfl⟩
  · rw [if_neg h0] at h ⊢
    cases e:m.xs[(-1 - n).toNat]? with
    | none=>rw [e] at h;injection h with h1 _;exact .inr ⟨h1.symm,rfl⟩
    | some f=>rw [e] at h;injection h with h1 h2;injection h2 with _ h3;exact .inl ⟨h1.symm,by rw [← h3];rfl⟩
def tyIS (m:PMod) (op ty n:Int) (al:Nat):Bool :=
  if op=26∨op=29 then decide (ty=65)
  else if op=30 then decide (calR m.xs m.fs n=some ty)
  else if op=31∨op=32∨op=34 then decide (ty=0)
  else if op=33 then tyB ty&&decide (al=1∨ty=0)
  else tyB ty
set_option maxRecDepth 100000 in
set_option maxHeartbeats 8000000 in
theorem hasType_any (m:LMod) (x:LI) (W:World) (hm:ModIn W.heap.size W m) (hq:modZ (modD m)≤1048576) (hn:-9223372036854775808≤x.1.n) (hn':x.1.n≤9223372036854775807) :
    Calls Tryz.prog 61 #[.agg (modC m).toArray,.agg (liC x).toArray] W (Ans (.bool (tyIS (modD m) x.1.op x.1.ty x.1.n x.1.al)) W):=by
  have cc:=fun w (hb:Below W.heap.size W w)=>Callee_own m x.1.n hn hn' hq w (lasts_Mod _ _ _ _ _ hb hb.size hm)
  obtain ⟨⟨op,rg,ty,nn,fl,ap,al,ac,tp,tl,tc,rs⟩,ts⟩:=x
  simp only at cc hn hn'
  obtain ⟨D,eD⟩:∃ D,modD m=D:=⟨_,rfl⟩
  rw [eD]
  obtain ⟨vp,vn,vc,vs,xp,xn,xc,xs,fp,fn,fc,fs⟩:=m
  have cc:∀ w,Below W.heap.size W w→Calls Tryz.prog 97 #[.agg #[.slice vp vn vc,.slice xp xn xc,.slice fp fn fc],.int .i64 nn] w fun e w' => ∃ p k c ps t b,e=.returned (.tuple #[.slice p k c,.int .i64 t,.bool b])∧callD D nn=(b,ps,t)∧Past w.heap.size w w'∧True:=fun w hb=>(cc w hb).mono (fun e w' ⟨p,k,c,ps,t,b,h1,h2,h3,_⟩=>⟨p,k,c,ps,t,b,h1,by rw [← eD];exact h2,h3,trivial⟩)
  clear hm hq eD
  have ct:=fun w=>isType_any ty w
  show Calls Tryz.prog 61 #[.agg #[.slice vp vn vc,.slice xp xn xc,.slice fp fn fc],.agg #[.int .i64 op,.int .i64 rg,.int .i64 ty,.int .i64 nn,.int .i64 fl,.slice ap al ac,.slice tp tl tc]] W (Ans (.bool (tyIS D op ty nn al)) W)
  have HB2:=Lib.hid (below2 W (.cells #[.slice vp vn vc,.slice xp xn xc,.slice fp fn fc] 26) (.cells #[.int .i64 op,.int .i64 rg,.int .i64 ty,.int .i64 nn,.int .i64 fl,.slice ap al ac,.slice tp tl tc] 43))
  rcases op_cases op with rfl | rfl | rfl | rfl | rfl | rfl | rfl | rfl | rfl | rfl | rfl | rfl | rfl | rfl | hno
  · have hT:tyIS D 20 ty nn al=tyB ty:=by unfold tyIS;simp
    rw [hT]
    clear hT
    go_enter Tryz.func61,Tryz.ntmps61
    go_wp2_with fail
    refine (ct _).mono ?_
    rintro e w2 ⟨rfl,rfl⟩
    go_wp2_with fail
    go_ret
    exact ⟨rfl,HB2.out⟩
  · have hT:tyIS D 21 ty nn al=tyB ty:=by unfold tyIS;simp
    rw [hT]
    clear hT
    go_enter Tryz.func61,Tryz.ntmps61
    go_wp2_with fail
    refine (ct _).mono ?_
    rintro e w2 ⟨rfl,rfl⟩
    go_wp2_with fail
    go_ret
    exact ⟨rfl,HB2.out⟩
  · have hT:tyIS D 22 ty nn al=tyB ty:=by unfold tyIS;simp
    rw [hT]
    clear hT
    go_enter Tryz.func61,Tryz.ntmps61
    go_wp2_with fail
    refine (ct _).mono ?_
    rintro e w2 ⟨rfl,rfl⟩
    go_wp2_with fail
    go_ret
    exact ⟨rfl,HB2.out⟩
  · have hT:tyIS D 23 ty nn al=tyB ty:=by unfold tyIS;simp
    rw [hT]
    clear hT
    go_enter Tryz.func61,Tryz.ntmps61
    go_wp2_with fail
    refine (ct _).mono ?_
    rintro e w2 ⟨rfl,rfl⟩
    go_wp2_with fail
    go_ret
    exact ⟨rfl,HB2.out⟩
  · have hT:tyIS D 24 ty nn al=tyB ty:=by unfold tyIS;simp
    rw [hT]
    clear hT
    go_enter Tryz.func61,Tryz.ntmps61
    go_wp2_with fail
    refine (ct _).mono ?_
    rintro e w2 ⟨rfl,rfl⟩
    go_wp2_with fail
    go_ret
    exact ⟨rfl,HB2.out⟩
  · have hT:tyIS D 25 ty nn al=tyB ty:=by unfold tyIS;simp
    rw [hT]
    clear hT
    go_enter Tryz.func61,Tryz.ntmps61
    go_wp2_with fail
    refine (ct _).mono ?_
    rintro e w2 ⟨rfl,rfl⟩
    go_wp2_with fail
    go_ret
    exact ⟨rfl,HB2.out⟩
  · have hT:tyIS D 26 ty nn al=decide (ty=65):=by unfold tyIS;simp
    rw [hT]
    clear hT
    go_enter Tryz.func61,Tryz.ntmps61
    go_wp2
    all_goals go_ret
    all_goals exact ⟨ret_bool (by rw [Bool.eq_iff_iff];simp),below2 W _ _⟩
  · have hT:tyIS D 27 ty nn al=tyB ty:=by unfold tyIS;simp
    rw [hT]
    clear hT
    go_enter Tryz.func61,Tryz.ntmps61
    go_wp2_with fail
    refine (ct _).mono ?_
    rintro e w2 ⟨rfl,rfl⟩
    go_wp2_with fail
    go_ret
    exact ⟨rfl,HB2.out⟩
  · have hT:tyIS D 29 ty nn al=decide (ty=65):=by unfold tyIS;simp
    rw [hT]
    clear hT
    go_enter Tryz.func61,Tryz.ntmps61
    go_wp2
    all_goals go_ret
    all_goals exact ⟨ret_bool (by rw [Bool.eq_iff_iff];simp),below2 W _ _⟩
  · have hT:tyIS D 30 ty nn al=decide (calR D.xs D.fs nn=some ty):=by unfold tyIS;simp
    rw [hT]
    clear hT
    go_enter Tryz.func61,Tryz.ntmps61
    go_wp2_with fail
    refine (cc _ (below2 W _ _)).mono ?_
    rintro e w2 ⟨p,kk,c,ps,t,b,rfl,hcd,hp,-⟩
    have hb3:=HB2.out.trans (hp.2.mono HB2.out.size)
    have HB3:=Lib.hid hb3
    have gk:w2.cell? ⟨W.heap.size+1,2,none⟩=some (.int .i64 ty):=(hp.2.cell (p:=⟨W.heap.size+1,2,none⟩) (by simp)).trans (by rw [World.cell?_alloc_at _ _ _ _ (by simp)];rfl)
    rcases callD_R hcd with ⟨rfl,hr⟩ | ⟨rfl,hr⟩
    · have HR:=Lib.hid hr
      clear hp hcd hb3 hr
      by_cases h1:t=ty
      · have d1:(ty==t)=true:=by simp [h1]
        have H1:=Lib.hid h1
        clear h1
        go_wp2_with fail
        go_ret
        exact ⟨ret_bool (by rw [HR.out,H1.out];simp),HB3.out⟩
      · have d1:(ty==t)=false:=by simp;exact fun e=>h1 e.symm
        have H1:=Lib.hid h1
        clear h1
        go_wp2_with fail
        go_ret
        exact ⟨ret_bool (by rw [HR.out];simp [H1.out]),HB3.out⟩
    · have HR:=Lib.hid hr
      clear hp hcd hb3 hr
      go_wp2_with fail
      go_ret
      exact ⟨ret_bool (by rw [HR.out];simp),HB3.out⟩
  · have hT:tyIS D 31 ty nn al=decide (ty=0):=by unfold tyIS;simp
    rw [hT]
    clear hT
    go_enter Tryz.func61,Tryz.ntmps61
    go_wp2
    all_goals go_ret
    all_goals exact ⟨ret_bool (by rw [Bool.eq_iff_iff];simp),below2 W _ _⟩
  · have hT:tyIS D 32 ty nn al=decide (ty=0):=by unfold tyIS;simp
    rw [hT]
    clear hT
    go_enter Tryz.func61,Tryz.ntmps61
    go_wp2
    all_goals go_ret
    all_goals exact ⟨ret_bool (by rw [Bool.eq_iff_iff];simp),below2 W _ _⟩
  · have hT:tyIS D 33 ty nn al=(tyB ty&&decide (al=1∨ty=0)):=by unfold tyIS;simp
    rw [hT]
    clear hT
    obtain ⟨q,eq⟩:∃ q,tyB ty=q:=⟨_,rfl⟩
    simp only [eq] at ct ⊢
    clear eq
    go_enter Tryz.func61,Tryz.ntmps61
    go_wp2_with fail
    refine (ct _).mono ?_
    rintro e w2 ⟨rfl,rfl⟩
    cases q
    · go_wp2_with fail
      go_ret
      exact ⟨rfl,HB2.out⟩
    · go_wp2
      all_goals go_ret
      all_goals exact ⟨ret_bool (by rw [Bool.eq_iff_iff];simp <;> omega),below2 W _ _⟩
  · have hT:tyIS D 34 ty nn al=decide (ty=0):=by unfold tyIS;simp
    rw [hT]
    clear hT
    go_enter Tryz.func61,Tryz.ntmps61
    go_wp2
    all_goals go_ret
    all_goals exact ⟨ret_bool (by rw [Bool.eq_iff_iff];simp),below2 W _ _⟩
  · obtain ⟨n20,n21,n22,n23,n24,n25,n26,n27,n29,n30,n31,n32,n33,n34⟩:=hno
    have e20:(op==(20:Int))=false:=by simp;omega
    have e21:(op==(21:Int))=false:=by simp;omega
    have e22:(op==(22:Int))=false:=by simp;omega
    have e23:(op==(23:Int))=false:=by simp;omega
    have e24:(op==(24:Int))=false:=by simp;omega
    have e25:(op==(25:Int))=false:=by simp;omega
    have e26:(op==(26:Int))=false:=by simp;omega
    have e27:(op==(27:Int))=false:=by simp;omega
    have e29:(op==(29:Int))=false:=by simp;omega
    have e30:(op==(30:Int))=false:=by simp;omega
    have e31:(op==(31:Int))=false:=by simp;omega
    have e32:(op==(32:Int))=false:=by simp;omega
    have e33:(op==(33:Int))=false:=by simp;omega
    have e34:(op==(34:Int))=false:=by simp;omega
    have hT:tyIS D op ty nn al=tyB ty:=by unfold tyIS;simp [*]
    rw [hT]
    clear hT
    clear n20 n21 n22 n23 n24 n25 n26 n27 n29 n30 n31 n32 n33 n34
    go_enter Tryz.func61,Tryz.ntmps61
    go_wp2_with fail
    refine (ct _).mono ?_
    rintro e w2 ⟨rfl,rfl⟩
    go_wp2_with fail
    go_ret
    exact ⟨rfl,HB2.out⟩
def IS (W:World) (mv iv:List Value) (w:World):Prop:=Box W.heap.size mv w∧Box (W.heap.size+1) iv w∧Below W.heap.size W w
theorem IS.later {W w w':World} {mv iv:List Value} (h:IS W mv iv w) (hb:Below w.heap.size w w'):IS W mv iv w':=⟨h.1.later hb,h.2.1.later hb,h.2.2.trans (hb.mono h.2.2.size)⟩
theorem IS.new (W:World) (mv iv:List Value) (t u:TypeId):IS W mv iv ((W.alloc (.cells mv.toArray t)).alloc (.cells iv.toArray u)) :=
  ⟨(Box.new W rfl _ _).alloc _,Box.new (W.alloc (.cells mv.toArray t)) (by simp) _ _,below2 W _ _⟩
theorem opT_some {op:Int} (h:1≤op∧op≤34):opT op≠[]:=by
  obtain ⟨k,rfl⟩:∃ k:Nat,op=k:=⟨op.toNat,by omega⟩
  have:∀ j:Fin 35,1≤j.val→opT (j.val:Int)≠[]:=by decide
  exact this ⟨k,by omega⟩ (show 1≤k by omega)
theorem opT_none {op:Int} (h:¬ (1≤op∧op≤34)):opT op=[]:=by
  by_cases h0:op=0
  · subst h0;rfl
  · exact opT_out (by omega)
set_option maxRecDepth 100000 in
set_option maxHeartbeats 8000000 in
theorem isInstr_any (m:LMod) (x:LI) (W:World) (hO:Ops W) (hm:ModIn W.heap.size W m) (hx:InsIn W.heap.size W x) (hq:modZ (modD m)≤1048576) (hn:-9223372036854775808≤x.1.n) (hn':x.1.n≤9223372036854775807) :
    Calls Tryz.prog 28 #[.agg (modC m).toArray,.agg (liC x).toArray] W (Ans (.bool (insB (modD m) (insD x))) W):=by
  have hal:=hx.1.1
  have htl:=hx.2.1
  have hall:insB (modD m) (insD x)=(decide (1≤x.1.op∧x.1.op≤34)&&cntI x.1.op x.1.al x.1.tl&&tyIS (modD m) x.1.op x.1.ty x.1.n x.1.al&&numI x.1.op x.1.n&&flI x.1.op x.1.fl&&hasRegI x.1.op x.1.reg&&x.2.all tgB&&x.1.args.all (argB (modD m))):=by
    rw [hal,htl]
    rfl
  rw [hall]
  clear hall
  have k0:=fun w (hb:Below W.heap.size W w)=>Of_any x.1.op w (hO.later hb)
  have k2:=fun w (hb:Below W.heap.size W w)=>hasType_any m x w (lasts_Mod _ _ _ _ _ hb hb.size hm) hq hn hn'
  have k6:∀ w,Below W.heap.size W w→Calls Tryz.prog 54 #[.slice x.1.tp x.1.tl x.1.tc,.func (.func 65) #[] #[]] w (Ans (.bool (x.2.all tgB)) w):=fun w hb =>
    each_I lasts_NoMem tgB x.1.tp x.1.tl x.1.tc x.2 w (hx.2.lasts lasts_NoMem hb hb.size) _ #[] (fun _ _=>rfl) (fun i hi w' hb' => (isTarget_any x.2[i] w').mono (fun e w2 ⟨h1,h2⟩=>⟨h1,by rw [h2];exact Below.refl _ _⟩))
  have k7:∀ w,IS W (modC m) (liC x) w→Calls Tryz.prog 66 #[.slice x.1.ap x.1.al x.1.ac,.func (.func 67) #[] #[.pointer (some ⟨W.heap.size,0,none⟩)]] w (Ans (.bool (x.1.args.all (argB (modD m)))) w):=fun w hS =>
    each_A lasts_NoMem (argB (modD m)) x.1.ap x.1.al x.1.ac x.1.args w (hx.1.lasts lasts_NoMem hS.2.2 hS.2.2.size) 67 #[.pointer (some ⟨W.heap.size,0,none⟩)] (fun _ _=>rfl) (fun i hi w' hb' => by
      have hv:m.vn=m.vs.length:=hm.1.1
      have hS':=hS.later hb'
      have co:=fun w=>isOperand_any m x.1.args[i] hv w
      obtain ⟨v,ev⟩:∃ v,x.1.args[i]=v:=⟨_,rfl⟩
      simp only [ev] at co ⊢
      obtain ⟨q,eq⟩:∃ q,argB (modD m) v=q:=⟨_,rfl⟩
      simp only [eq] at co ⊢
      clear eq ev hS hv
      obtain ⟨kd,nn,bt⟩:=v
      obtain ⟨vp,vn,vc,vs,xp,xn,xc,xs,fp,fn,fc,fs⟩:=m
      have y0:=hS'.1.get 0 _ rfl
      have y1:=hS'.1.get 1 _ rfl
      have y2:=hS'.1.get 2 _ rfl
      simp only at y0 y1 y2
      have hlw:W.heap.size<w'.heap.size:=hS'.1.1
      have hb1:Below w'.heap.size w' (w'.alloc (.cells #[.int .i64 kd,.int .i64 nn,.int .u64 bt] 107)):=(Below.refl _ _).alloc (Nat.le_refl _) _
      have HB1:=Lib.hid hb1
      have co2:=co (w'.alloc (.cells #[.int .i64 kd,.int .i64 nn,.int .u64 bt] 107))
      show Calls Tryz.prog 67 #[.agg #[.int .i64 kd,.int .i64 nn,.int .u64 bt],.pointer (some ⟨W.heap.size,0,none⟩)] w' _
      clear hS' hb1 co k0 k2 k6 hm hx hO hq hn hn' hal htl
      go_enter Tryz.func67,Tryz.ntmps67
      go_wp2_with fail
      refine co2.mono ?_
      rintro e w2 ⟨rfl,hb2⟩
      have HB2:=Lib.hid (HB1.out.trans (hb2.mono HB1.out.size))
      clear co2 hb2
      go_wp2_with fail
      go_ret
      exact ⟨rfl,HB2.out⟩)
  obtain ⟨⟨op,rg,ty,nn,fl,ap,al,ac,tp,tl,tc,rs⟩,ts⟩:=x
  simp only at hal htl k0 k2 k6 k7 ⊢
  have k1:=fun w=>hasLists_any op rg ty nn fl ap tp al ac tl tc w
  have k3:=fun w=>hasNumber_any op rg ty nn fl ap tp al ac tl tc w
  have k4:=fun w=>hasFlags_any op rg ty nn fl ap tp al ac tl tc w
  have k5:=fun w=>hasRegister_any op rg ty nn fl ap tp al ac tl tc w
  obtain ⟨D,eD⟩:∃ D,modD m=D:=⟨_,rfl⟩
  simp only [eD] at k2 k7 ⊢
  obtain ⟨q0,e0⟩:∃ q,decide (1≤op∧op≤34)=q:=⟨_,rfl⟩
  obtain ⟨q1,e1⟩:∃ q,cntI op al tl=q:=⟨_,rfl⟩
  obtain ⟨q2,e2⟩:∃ q,tyIS D op ty nn al=q:=⟨_,rfl⟩
  obtain ⟨q3,e3⟩:∃ q,numI op nn=q:=⟨_,rfl⟩
  obtain ⟨q4,e4⟩:∃ q,flI op fl=q:=⟨_,rfl⟩
  obtain ⟨q5,e5⟩:∃ q,hasRegI op rg=q:=⟨_,rfl⟩
  obtain ⟨q6,e6⟩:∃ q,ts.all tgB=q:=⟨_,rfl⟩
  obtain ⟨q7,e7⟩:∃ q,rs.all (argB D)=q:=⟨_,rfl⟩
  have h0:(opT op=[])↔q0=false:=by
    rw [← e0]
    by_cases h:1≤op∧op≤34
    · simp [opT_some h,h]
    · simp [opT_none h,h]
  simp only [e0,e1,e2,e3,e4,e5,e6,e7] at k1 k2 k3 k4 k5 k6 k7 ⊢
  obtain ⟨s,es⟩:∃ s:ByteArray,(⟨(opT op).toArray⟩:ByteArray)=s:=⟨_,rfl⟩
  have hs:s.toList.isEmpty=!q0:=by
    rw [← es]
    refine empty_iff _ _ ?_
    rw [Bool.eq_iff_iff]
    simp only [decide_eq_true_eq,Bool.not_eq_true']
    rw [← h0]
    show (opT op).toArray.size=0↔_
    simp
  rw [es] at k0
  obtain ⟨vp,vn,vc,vs,xp,xn,xc,xs,fp,fn,fc,fs⟩:=m
  have hS:=IS.new W [.slice vp vn vc,.slice xp xn xc,.slice fp fn fc] [.int .i64 op,.int .i64 rg,.int .i64 ty,.int .i64 nn,.int .i64 fl,.slice ap al ac,.slice tp tl tc] 26 43
  have HS:=Lib.hid hS
  have k7:∀ w,IS W [.slice vp vn vc,.slice xp xn xc,.slice fp fn fc] [.int .i64 op,.int .i64 rg,.int .i64 ty,.int .i64 nn,.int .i64 fl,.slice ap al ac,.slice tp tl tc] w→Calls Tryz.prog 66 #[.slice ap al ac,.func (.func 67) #[] #[.pointer (some ⟨W.heap.size,0,none⟩)]] w (Ans (.bool q7) w):=k7
  have k2:∀ w,Below W.heap.size W w→Calls Tryz.prog 61 #[.agg #[.slice vp vn vc,.slice xp xn xc,.slice fp fn fc],.agg #[.int .i64 op,.int .i64 rg,.int .i64 ty,.int .i64 nn,.int .i64 fl,.slice ap al ac,.slice tp tl tc]] w (Ans (.bool q2) w):=k2
  have HK:=Lib.hid (And.intro k0 (And.intro k1 (And.intro k2 (And.intro k3 (And.intro k4 (And.intro k5 (And.intro k6 k7)))))))
  show Calls Tryz.prog 28 #[.agg #[.slice vp vn vc,.slice xp xn xc,.slice fp fn fc],.agg #[.int .i64 op,.int .i64 rg,.int .i64 ty,.int .i64 nn,.int .i64 fl,.slice ap al ac,.slice tp tl tc]] W _
  clear k0 k1 k2 k3 k4 k5 k6 k7 hm hx hO hq hn hn' hal htl e0 e1 e2 e3 e4 e5 e6 e7 eD es h0 hS
  have c:=HK.out.1 _ HS.out.2.2
  go_enter Tryz.func28,Tryz.ntmps28
  go_wp2_with fail
  refine c.mono ?_
  rintro e w0 ⟨rfl,rfl⟩
  clear c
  cases q0
  case false =>
    go_wp2_with fail
    go_ret
    exact ⟨rfl,HS.out.2.2⟩
  obtain ⟨wa,ewa⟩:∃ wa,((W.alloc (.cells #[.slice vp vn vc,.slice xp xn xc,.slice fp fn fc] 26)).alloc (.cells #[.int .i64 op,.int .i64 rg,.int .i64 ty,.int .i64 nn,.int .i64 fl,.slice ap al ac,.slice tp tl tc] 43))=wa:=⟨_,rfl⟩
  have HS:Hid (IS W [.slice vp vn vc,.slice xp xn xc,.slice fp fn fc] [.int .i64 op,.int .i64 rg,.int .i64 ty,.int .i64 nn,.int .i64 fl,.slice ap al ac,.slice tp tl tc] wa):=Lib.hid (by rw [← ewa];exact HS.out)
  rw [ewa]
  clear ewa
  try simp only [Bool.not_true] at hs
  have y0:=HS.out.1.get 0 _ rfl
  have y1:=HS.out.1.get 1 _ rfl
  have y2:=HS.out.1.get 2 _ rfl
  have z0:=HS.out.2.1.get 0 _ rfl
  have z1:=HS.out.2.1.get 1 _ rfl
  have z2:=HS.out.2.1.get 2 _ rfl
  have z3:=HS.out.2.1.get 3 _ rfl
  have z4:=HS.out.2.1.get 4 _ rfl
  have z5:=HS.out.2.1.get 5 _ rfl
  have z6:=HS.out.2.1.get 6 _ rfl
  have c:=HK.out.2.1 wa
  try simp only at y0 y1 y2 z0 z1 z2 z3 z4 z5 z6
  go_wp2_with fail
  refine c.mono ?_
  rintro e w1 ⟨rfl,hb⟩
  have HS:=Lib.hid (HS.out.later hb)
  clear c hb y0 y1 y2 z0 z1 z2 z3 z4 z5 z6 hs
  cases q1
  case false =>
    go_wp2_with fail
    go_ret
    exact ⟨rfl,HS.out.2.2⟩
  have y0:=HS.out.1.get 0 _ rfl
  have y1:=HS.out.1.get 1 _ rfl
  have y2:=HS.out.1.get 2 _ rfl
  have z0:=HS.out.2.1.get 0 _ rfl
  have z1:=HS.out.2.1.get 1 _ rfl
  have z2:=HS.out.2.1.get 2 _ rfl
  have z3:=HS.out.2.1.get 3 _ rfl
  have z4:=HS.out.2.1.get 4 _ rfl
  have z5:=HS.out.2.1.get 5 _ rfl
  have z6:=HS.out.2.1.get 6 _ rfl
  have c:=HK.out.2.2.1 w1 HS.out.2.2
  try simp only at y0 y1 y2 z0 z1 z2 z3 z4 z5 z6
  go_wp2_with fail
  refine c.mono ?_
  rintro e w2 ⟨rfl,hb⟩
  have HS:=Lib.hid (HS.out.later hb)
  clear c hb y0 y1 y2 z0 z1 z2 z3 z4 z5 z6
  cases q2
  case false =>
    go_wp2_with fail
    go_ret
    exact ⟨rfl,HS.out.2.2⟩
  have y0:=HS.out.1.get 0 _ rfl
  have y1:=HS.out.1.get 1 _ rfl
  have y2:=HS.out.1.get 2 _ rfl
  have z0:=HS.out.2.1.get 0 _ rfl
  have z1:=HS.out.2.1.get 1 _ rfl
  have z2:=HS.out.2.1.get 2 _ rfl
  have z3:=HS.out.2.1.get 3 _ rfl
  have z4:=HS.out.2.1.get 4 _ rfl
  have z5:=HS.out.2.1.get 5 _ rfl
  have z6:=HS.out.2.1.get 6 _ rfl
  have c:=HK.out.2.2.2.1 w2
  try simp only at y0 y1 y2 z0 z1 z2 z3 z4 z5 z6
  go_wp2_with fail
  refine c.mono ?_
  rintro e w3 ⟨rfl,hb⟩
  have HS:=Lib.hid (HS.out.later hb)
  clear c hb y0 y1 y2 z0 z1 z2 z3 z4 z5 z6
  cases q3
  case false =>
    go_wp2_with fail
    go_ret
    exact ⟨rfl,HS.out.2.2⟩
  have y0:=HS.out.1.get 0 _ rfl
  have y1:=HS.out.1.get 1 _ rfl
  have y2:=HS.out.1.get 2 _ rfl
  have z0:=HS.out.2.1.get 0 _ rfl
  have z1:=HS.out.2.1.get 1 _ rfl
  have z2:=HS.out.2.1.get 2 _ rfl
  have z3:=HS.out.2.1.get 3 _ rfl
  have z4:=HS.out.2.1.get 4 _ rfl
  have z5:=HS.out.2.1.get 5 _ rfl
  have z6:=HS.out.2.1.get 6 _ rfl
  have c:=HK.out.2.2.2.2.1 w3
  try simp only at y0 y1 y2 z0 z1 z2 z3 z4 z5 z6
  go_wp2_with fail
  refine c.mono ?_
  rintro e w4 ⟨rfl,hb⟩
  have HS:=Lib.hid (HS.out.later hb)
  clear c hb y0 y1 y2 z0 z1 z2 z3 z4 z5 z6
  cases q4
  case false =>
    go_wp2_with fail
    go_ret
    exact ⟨rfl,HS.out.2.2⟩
  have y0:=HS.out.1.get 0 _ rfl
  have y1:=HS.out.1.get 1 _ rfl
  have y2:=HS.out.1.get 2 _ rfl
  have z0:=HS.out.2.1.get 0 _ rfl
  have z1:=HS.out.2.1.get 1 _ rfl
  have z2:=HS.out.2.1.get 2 _ rfl
  have z3:=HS.out.2.1.get 3 _ rfl
  have z4:=HS.out.2.1.get 4 _ rfl
  have z5:=HS.out.2.1.get 5 _ rfl
  have z6:=HS.out.2.1.get 6 _ rfl
  have c:=HK.out.2.2.2.2.2.1 w4
  try simp only at y0 y1 y2 z0 z1 z2 z3 z4 z5 z6
  go_wp2_with fail
  refine c.mono ?_
  rintro e w5 ⟨rfl,hb⟩
  have HS:=Lib.hid (HS.out.later hb)
  clear c hb y0 y1 y2 z0 z1 z2 z3 z4 z5 z6
  cases q5
  case false =>
    go_wp2_with fail
    go_ret
    exact ⟨rfl,HS.out.2.2⟩
  have y0:=HS.out.1.get 0 _ rfl
  have y1:=HS.out.1.get 1 _ rfl
  have y2:=HS.out.1.get 2 _ rfl
  have z0:=HS.out.2.1.get 0 _ rfl
  have z1:=HS.out.2.1.get 1 _ rfl
  have z2:=HS.out.2.1.get 2 _ rfl
  have z3:=HS.out.2.1.get 3 _ rfl
  have z4:=HS.out.2.1.get 4 _ rfl
  have z5:=HS.out.2.1.get 5 _ rfl
  have z6:=HS.out.2.1.get 6 _ rfl
  have c:=HK.out.2.2.2.2.2.2.1 w5 HS.out.2.2
  try simp only at y0 y1 y2 z0 z1 z2 z3 z4 z5 z6
  go_wp2_with fail
  refine c.mono ?_
  rintro e w6 ⟨rfl,hb⟩
  have HS:=Lib.hid (HS.out.later hb)
  clear c hb y0 y1 y2 z0 z1 z2 z3 z4 z5 z6
  cases q6
  case false =>
    go_wp2_with fail
    go_ret
    exact ⟨rfl,HS.out.2.2⟩
  have y0:=HS.out.1.get 0 _ rfl
  have y1:=HS.out.1.get 1 _ rfl
  have y2:=HS.out.1.get 2 _ rfl
  have z0:=HS.out.2.1.get 0 _ rfl
  have z1:=HS.out.2.1.get 1 _ rfl
  have z2:=HS.out.2.1.get 2 _ rfl
  have z3:=HS.out.2.1.get 3 _ rfl
  have z4:=HS.out.2.1.get 4 _ rfl
  have z5:=HS.out.2.1.get 5 _ rfl
  have z6:=HS.out.2.1.get 6 _ rfl
  have c:=HK.out.2.2.2.2.2.2.2 w6 HS.out
  try simp only at y0 y1 y2 z0 z1 z2 z3 z4 z5 z6
  go_wp2_with fail
  refine c.mono ?_
  rintro e w7 ⟨rfl,hb⟩
  have HS:=Lib.hid (HS.out.later hb)
  clear c hb y0 y1 y2 z0 z1 z2 z3 z4 z5 z6
  cases q7
  all_goals
    go_wp2_with fail
    go_ret
    exact ⟨rfl,HS.out.2.2⟩
end Go.Proofs.YtmmlfmplggbmiaaGreatDoor
