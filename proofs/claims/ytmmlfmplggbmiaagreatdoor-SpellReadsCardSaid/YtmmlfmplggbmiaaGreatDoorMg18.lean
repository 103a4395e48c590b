/- Several texts in one: SpLv, SpOp, SbA. -/
import Derived.Test.YtmmlfmplggbmiaaGreatDoorMg17
namespace Go.Proofs.YtmmlfmplggbmiaaGreatDoor
open Go.RowKit Go.Maps
set_option linter.unusedVariables false
set_option linter.unusedSimpArgs false
theorem HBx.row {k:Nat} {cs:List Value} {T:TypeId} {w:World} (h:HBx k cs T w):RowAt w.heap.size w (some ⟨k,0,none⟩) cs:=fun j u hu=>by
  refine ⟨⟨k,0,none⟩,rfl,heap_lt h,?_⟩
  have:=h.get j u hu
  rw [Lib.add_plain,Nat.zero_add]
  exact this
theorem HBx.one {α:Type} {cel:α→List Value} {E:Nat→World→α→Prop} {k:Nat} {x:α} {T:TypeId} {w:World} (h:HBx k (cel x) T w) (hE:E w.heap.size w x):ListIn cel E w.heap.size w (some ⟨k,0,none⟩) 1 1 [x] :=
  ⟨rfl,Nat.le_refl _,by decide,by rw [List.flatMap_cons,List.flatMap_nil,List.append_nil];exact h.row,fun y hy=>by rw [List.mem_singleton] at hy;subst hy;exact hE⟩
theorem none_in {α:Type} {cel:α→List Value} {E:Nat→World→α→Prop} {B:Nat} {w:World}:ListIn cel E B w none 0 0 [] :=
  ⟨rfl,Nat.le_refl _,Nat.zero_le _,fun j u hu=>by simp at hu,fun x hx=>absurd hx (by simp)⟩
def lvI:LI:=(⟨34,-1,0,0,0,none,0,0,none,0,0,[]⟩,[])
def lvM (b0 b1 b2 b3 b4:Nat):LMod :=
  ⟨some ⟨b0,0,none⟩,1,1,[⟨⟨#[103]⟩,8⟩],none,0,0,[],some ⟨b4,0,none⟩,1,1,[⟨⟨#[102]⟩,some ⟨b1,0,none⟩,1,1,[8],0,some ⟨b3,0,none⟩,1,1,[⟨some ⟨b2,0,none⟩,1,1,[lvI]⟩]⟩]⟩
def lvD:PMod:=⟨[⟨⟨#[103]⟩,8⟩],[],[⟨⟨#[102]⟩,[8],0,[[⟨34,-1,0,0,0,[],[]⟩]]⟩]⟩
theorem lv_same (b0 b1 b2 b3 b4:Nat):modD (lvM b0 b1 b2 b3 b4)=lvD:=rfl
theorem lv_in {b0 b1 b2 b3 b4:Nat} {w:World} (h0:HBx b0 [.string ⟨#[103]⟩,.int .i64 8] 39 w) (h1:HBx b1 [.int .i64 8] 3 w)
    (h2:HBx b2 [.int .i64 34,.int .i64 (-1),.int .i64 0,.int .i64 0,.int .i64 0,.slice none 0 0,.slice none 0 0] 43 w) (h3:HBx b3 [.slice (some ⟨b2,0,none⟩) 1 1] 46 w)
    (h4:HBx b4 [.string ⟨#[102]⟩,.slice (some ⟨b1,0,none⟩) 1 1,.int .i64 0,.slice (some ⟨b3,0,none⟩) 1 1] 49 w):ModIn w.heap.size w (lvM b0 b1 b2 b3 b4):=by
  refine ⟨HBx.one (cel:=varC) (x:=⟨⟨#[103]⟩,8⟩) h0 trivial,none_in,HBx.one (cel:=fnC) (x:=⟨⟨#[102]⟩,some ⟨b1,0,none⟩,1,1,[8],0,some ⟨b3,0,none⟩,1,1,[⟨some ⟨b2,0,none⟩,1,1,[lvI]⟩]⟩) h4 ⟨HBx.one (cel:=intC) (x:=(8:Int)) h1 trivial,?_⟩⟩
  exact HBx.one (cel:=blkC) (x:=⟨some ⟨b2,0,none⟩,1,1,[lvI]⟩) h3 (HBx.one (cel:=liC) (x:=lvI) h2 ⟨none_in,none_in⟩)
theorem lv_wf (b0 b1 b2 b3 b4:Nat):MWf (lvM b0 b1 b2 b3 b4) where
  vs:=fun v hv=>by rw [show (lvM b0 b1 b2 b3 b4).vs=[⟨⟨#[103]⟩,8⟩] from rfl,List.mem_singleton] at hv;subst hv;decide
  xs:=fun x hx=>absurd hx (by simp [lvM])
  fs := fun f hf=>by
    have:f.nm=⟨#[102]⟩:=by
      simp only [lvM,List.mem_singleton] at hf
      rw [hf]
    rw [this]
    decide
  ns:=fun f hf c hc x hx=>by
    simp only [lvM,List.mem_singleton] at hf
    subst hf
    simp only [List.mem_singleton] at hc
    subst hc
    simp only [List.mem_singleton] at hx
    subst hx
    decide
  z:=by rw [lv_same];decide
theorem lv_num (b0 b1 b2 b3 b4:Nat):NumOk (lvM b0 b1 b2 b3 b4) where
  vs:=fun v hv=>by rw [show (lvM b0 b1 b2 b3 b4).vs=[⟨⟨#[103]⟩,8⟩] from rfl,List.mem_singleton] at hv;subst hv;decide
  is:=fun f hf c hc x hx=>by
    simp only [lvM,List.mem_singleton] at hf
    subst hf
    simp only [List.mem_singleton] at hc
    subst hc
    simp only [List.mem_singleton] at hx
    subst hx
    exact ⟨by decide,fun a ha=>absurd ha (by simp [lvI,insD])⟩
theorem lv_say:sayB wdB lvD=true:=by decide
theorem lv_text:modT lvD=[103,108,111,98,97,108,32,103,32,56,10,102,117,110,99,32,102,40,105,56,41,32,118,111,105,100,10,98,48,58,10,32,32,104,97,108,116,10,101,110,100,10]:=by
  have d8:Lib.decDigits 8=[56]:=by rw [Lib.decDigits_one (by omega)];rfl
  have d0:Lib.decDigits 0=[48]:=by rw [Lib.decDigits_one (by omega)];rfl
  have e8:decI 8=[56]:=d8
  have e0:decI ((0:Nat):Int)=[48]:=d0
  have t8:typeT 8=[105,56]:=by unfold typeT;rw [if_neg (by omega),if_neg (by omega),if_pos (by omega),e8]
  unfold modT lvD varT fnT headT
  simp only [List.map_cons,List.map_nil,List.flatten_cons,List.flatten_nil,List.mapIdx_cons,List.mapIdx_nil,blkT,blockT,t8,e8,e0]
  rfl
theorem build_v (w:World) (s:ByteArray):(Instr.build 39 #[(0,.string s),(1,.int .i64 8)]).run Tryz.prog w=.ok (.agg #[.string s,.int .i64 8]) w:=run_build _ _ _ _ (by kernel_rfl)
theorem build_i2 (w:World):(Instr.build 43 #[(0,.int .i64 34),(1,.int .i64 (-1))]).run Tryz.prog w=.ok (.agg #[.int .i64 34,.int .i64 (-1),.int .i64 0,.int .i64 0,.int .i64 0,.slice none 0 0,.slice none 0 0]) w:=run_build _ _ _ _ (by kernel_rfl)
theorem build_b (w:World) (p:Option Addr) (n c:Nat):(Instr.build 46 #[(0,.slice p n c)]).run Tryz.prog w=.ok (.agg #[.slice p n c]) w:=run_build _ _ _ _ (by kernel_rfl)
theorem build_f (w:World) (s:ByteArray) (p q:Option Addr) (n c n2 c2:Nat):(Instr.build 49 #[(0,.string s),(1,.slice p n c),(3,.slice q n2 c2)]).run Tryz.prog w=.ok (.agg #[.string s,.slice p n c,.int .i64 0,.slice q n2 c2]) w:=run_build _ _ _ _ (by kernel_rfl)
theorem build_m (w:World) (p q:Option Addr) (n c n2 c2:Nat):(Instr.build 26 #[(0,.slice p n c),(2,.slice q n2 c2)]).run Tryz.prog w=.ok (.agg #[.slice p n c,.slice none 0 0,.slice q n2 c2]) w:=run_build _ _ _ _ (by kernel_rfl)
theorem HBx.new {w:World} {k:Nat} (cs:List Value) (T:TypeId) (hk:w.heap.size=k):HBx k cs T (w.alloc (.cells cs.toArray T)):=by subst hk;exact heap_new _ _
theorem HBx.al {k:Nat} {cs:List Value} {T:TypeId} {w:World} (h:HBx k cs T w) (o:Obj):HBx k cs T (w.alloc o):=h.later ((Below.refl _ _).alloc (Nat.le_refl _) o)
theorem below_al {B:Nat} {W w:World} (h:Below B W w) (hB:B≤w.heap.size) (o:Obj):Below B W (w.alloc o)∧B≤(w.alloc o).heap.size:=⟨h.alloc hB o,by simp;omega⟩
set_option maxRecDepth 100000 in
set_option maxHeartbeats 4000000 in
theorem lives_any (W:World) (hO:Ops W) (hT:TabOk W):Calls Tryz.prog 5 #[] W fun e w' => e=.returned (.bool true)∧Below W.heap.size W w':=by
  have b1:=build_v
  have b2:=build_i2
  have b3:=build_b
  have b4:=build_f
  have b5:=build_m
  go_enter Tryz.func5,Tryz.ntmps5
  go_upto_region 2 with fail
  have h0:HBx (W.heap.size) [.string ⟨#[103]⟩,.int .i64 8] 39 ((((((W.alloc (.cells #[.string ⟨#[103]⟩,.int .i64 8] 39)).alloc (.cells #[.int .i64 8] 3)).alloc (.cells #[.int .i64 34,.int .i64 (-1),.int .i64 0,.int .i64 0,.int .i64 0,.slice none 0 0,.slice none 0 0] 43)).alloc (.cells #[.slice (some ⟨W.heap.size+1+1,0,none⟩) 1 1] 46)).alloc (.cells #[.string ⟨#[102]⟩,.slice (some ⟨W.heap.size+1,0,none⟩) 1 1,.int .i64 0,.slice (some ⟨W.heap.size+1+1+1,0,none⟩) 1 1] 49)).alloc (.cells #[.slice (some ⟨W.heap.size,0,none⟩) 1 1,.slice none 0 0,.slice (some ⟨W.heap.size+1+1+1+1,0,none⟩) 1 1] 26)):=(HBx.al (HBx.al (HBx.al (HBx.al (HBx.al (HBx.new (w:=W) (k:=W.heap.size) [.string ⟨#[103]⟩,.int .i64 8] 39 (by simp)) _) _) _) _) _)
  have h1:HBx (W.heap.size+1) [.int .i64 8] 3 ((((((W.alloc (.cells #[.string ⟨#[103]⟩,.int .i64 8] 39)).alloc (.cells #[.int .i64 8] 3)).alloc (.cells #[.int .i64 34,.int .i64 (-1),.int .i64 0,.int .i64 0,.int .i64 0,.slice none 0 0,.slice none 0 0] 43)).alloc (.cells #[.slice (some ⟨W.heap.size+1+1,0,none⟩) 1 1] 46)).alloc (.cells #[.string ⟨#[102]⟩,.slice (some ⟨W.heap.size+1,0,none⟩) 1 1,.int .i64 0,.slice (some ⟨W.heap.size+1+1+1,0,none⟩) 1 1] 49)).alloc (.cells #[.slice (some ⟨W.heap.size,0,none⟩) 1 1,.slice none 0 0,.slice (some ⟨W.heap.size+1+1+1+1,0,none⟩) 1 1] 26)):=(HBx.al (HBx.al (HBx.al (HBx.al (HBx.new (w:=(W.alloc (.cells #[.string ⟨#[103]⟩,.int .i64 8] 39))) (k:=W.heap.size+1) [.int .i64 8] 3 (by simp)) _) _) _) _)
  have h2:HBx (W.heap.size+1+1) [.int .i64 34,.int .i64 (-1),.int .i64 0,.int .i64 0,.int .i64 0,.slice none 0 0,.slice none 0 0] 43 ((((((W.alloc (.cells #[.string ⟨#[103]⟩,.int .i64 8] 39)).alloc (.cells #[.int .i64 8] 3)).alloc (.cells #[.int .i64 34,.int .i64 (-1),.int .i64 0,.int .i64 0,.int .i64 0,.slice none 0 0,.slice none 0 0] 43)).alloc (.cells #[.slice (some ⟨W.heap.size+1+1,0,none⟩) 1 1] 46)).alloc (.cells #[.string ⟨#[102]⟩,.slice (some ⟨W.heap.size+1,0,none⟩) 1 1,.int .i64 0,.slice (some ⟨W.heap.size+1+1+1,0,none⟩) 1 1] 49)).alloc (.cells #[.slice (some ⟨W.heap.size,0,none⟩) 1 1,.slice none 0 0,.slice (some ⟨W.heap.size+1+1+1+1,0,none⟩) 1 1] 26)):=(HBx.al (HBx.al (HBx.al (HBx.new (w:=((W.alloc (.cells #[.string ⟨#[103]⟩,.int .i64 8] 39)).alloc (.cells #[.int .i64 8] 3))) (k:=W.heap.size+1+1) [.int .i64 34,.int .i64 (-1),.int .i64 0,.int .i64 0,.int .i64 0,.slice none 0 0,.slice none 0 0] 43 (by simp)) _) _) _)
  have h3:HBx (W.heap.size+1+1+1) [.slice (some ⟨W.heap.size+1+1,0,none⟩) 1 1] 46 ((((((W.alloc (.cells #[.string ⟨#[103]⟩,.int .i64 8] 39)).alloc (.cells #[.int .i64 8] 3)).alloc (.cells #[.int .i64 34,.int .i64 (-1),.int .i64 0,.int .i64 0,.int .i64 0,.slice none 0 0,.slice none 0 0] 43)).alloc (.cells #[.slice (some ⟨W.heap.size+1+1,0,none⟩) 1 1] 46)).alloc (.cells #[.string ⟨#[102]⟩,.slice (some ⟨W.heap.size+1,0,none⟩) 1 1,.int .i64 0,.slice (some ⟨W.heap.size+1+1+1,0,none⟩) 1 1] 49)).alloc (.cells #[.slice (some ⟨W.heap.size,0,none⟩) 1 1,.slice none 0 0,.slice (some ⟨W.heap.size+1+1+1+1,0,none⟩) 1 1] 26)):=(HBx.al (HBx.al (HBx.new (w:=(((W.alloc (.cells #[.string ⟨#[103]⟩,.int .i64 8] 39)).alloc (.cells #[.int .i64 8] 3)).alloc (.cells #[.int .i64 34,.int .i64 (-1),.int .i64 0,.int .i64 0,.int .i64 0,.slice none 0 0,.slice none 0 0] 43))) (k:=W.heap.size+1+1+1) [.slice (some ⟨W.heap.size+1+1,0,none⟩) 1 1] 46 (by simp)) _) _)
  have h4:HBx (W.heap.size+1+1+1+1) [.string ⟨#[102]⟩,.slice (some ⟨W.heap.size+1,0,none⟩) 1 1,.int .i64 0,.slice (some ⟨W.heap.size+1+1+1,0,none⟩) 1 1] 49 ((((((W.alloc (.cells #[.string ⟨#[103]⟩,.int .i64 8] 39)).alloc (.cells #[.int .i64 8] 3)).alloc (.cells #[.int .i64 34,.int .i64 (-1),.int .i64 0,.int .i64 0,.int .i64 0,.slice none 0 0,.slice none 0 0] 43)).alloc (.cells #[.slice (some ⟨W.heap.size+1+1,0,none⟩) 1 1] 46)).alloc (.cells #[.string ⟨#[102]⟩,.slice (some ⟨W.heap.size+1,0,none⟩) 1 1,.int .i64 0,.slice (some ⟨W.heap.size+1+1+1,0,none⟩) 1 1] 49)).alloc (.cells #[.slice (some ⟨W.heap.size,0,none⟩) 1 1,.slice none 0 0,.slice (some ⟨W.heap.size+1+1+1+1,0,none⟩) 1 1] 26)):=(HBx.al (HBx.new (w:=((((W.alloc (.cells #[.string ⟨#[103]⟩,.int .i64 8] 39)).alloc (.cells #[.int .i64 8] 3)).alloc (.cells #[.int .i64 34,.int .i64 (-1),.int .i64 0,.int .i64 0,.int .i64 0,.slice none 0 0,.slice none 0 0] 43)).alloc (.cells #[.slice (some ⟨W.heap.size+1+1,0,none⟩) 1 1] 46))) (k:=W.heap.size+1+1+1+1) [.string ⟨#[102]⟩,.slice (some ⟨W.heap.size+1,0,none⟩) 1 1,.int .i64 0,.slice (some ⟨W.heap.size+1+1+1,0,none⟩) 1 1] 49 (by simp)) _)
  have h5:HBx (W.heap.size+1+1+1+1+1) [.slice (some ⟨W.heap.size,0,none⟩) 1 1,.slice none 0 0,.slice (some ⟨W.heap.size+1+1+1+1,0,none⟩) 1 1] 26 ((((((W.alloc (.cells #[.string ⟨#[103]⟩,.int .i64 8] 39)).alloc (.cells #[.int .i64 8] 3)).alloc (.cells #[.int .i64 34,.int .i64 (-1),.int .i64 0,.int .i64 0,.int .i64 0,.slice none 0 0,.slice none 0 0] 43)).alloc (.cells #[.slice (some ⟨W.heap.size+1+1,0,none⟩) 1 1] 46)).alloc (.cells #[.string ⟨#[102]⟩,.slice (some ⟨W.heap.size+1,0,none⟩) 1 1,.int .i64 0,.slice (some ⟨W.heap.size+1+1+1,0,none⟩) 1 1] 49)).alloc (.cells #[.slice (some ⟨W.heap.size,0,none⟩) 1 1,.slice none 0 0,.slice (some ⟨W.heap.size+1+1+1+1,0,none⟩) 1 1] 26)):=(HBx.new (w:=(((((W.alloc (.cells #[.string ⟨#[103]⟩,.int .i64 8] 39)).alloc (.cells #[.int .i64 8] 3)).alloc (.cells #[.int .i64 34,.int .i64 (-1),.int .i64 0,.int .i64 0,.int .i64 0,.slice none 0 0,.slice none 0 0] 43)).alloc (.cells #[.slice (some ⟨W.heap.size+1+1,0,none⟩) 1 1] 46)).alloc (.cells #[.string ⟨#[102]⟩,.slice (some ⟨W.heap.size+1,0,none⟩) 1 1,.int .i64 0,.slice (some ⟨W.heap.size+1+1+1,0,none⟩) 1 1] 49))) (k:=W.heap.size+1+1+1+1+1) [.slice (some ⟨W.heap.size,0,none⟩) 1 1,.slice none 0 0,.slice (some ⟨W.heap.size+1+1+1+1,0,none⟩) 1 1] 26 (by simp))
  have hb:Below W.heap.size W ((((((W.alloc (.cells #[.string ⟨#[103]⟩,.int .i64 8] 39)).alloc (.cells #[.int .i64 8] 3)).alloc (.cells #[.int .i64 34,.int .i64 (-1),.int .i64 0,.int .i64 0,.int .i64 0,.slice none 0 0,.slice none 0 0] 43)).alloc (.cells #[.slice (some ⟨W.heap.size+1+1,0,none⟩) 1 1] 46)).alloc (.cells #[.string ⟨#[102]⟩,.slice (some ⟨W.heap.size+1,0,none⟩) 1 1,.int .i64 0,.slice (some ⟨W.heap.size+1+1+1,0,none⟩) 1 1] 49)).alloc (.cells #[.slice (some ⟨W.heap.size,0,none⟩) 1 1,.slice none 0 0,.slice (some ⟨W.heap.size+1+1+1+1,0,none⟩) 1 1] 26)):=((fun p=>below_al (And.left p) (And.right p) _) ((fun p=>below_al (And.left p) (And.right p) _) ((fun p=>below_al (And.left p) (And.right p) _) ((fun p=>below_al (And.left p) (And.right p) _) ((fun p=>below_al (And.left p) (And.right p) _) (below_al (Below.refl W.heap.size W) (Nat.le_refl _) _)))))).1
  obtain ⟨w6,e6⟩:∃ w6,((((((W.alloc (.cells #[.string ⟨#[103]⟩,.int .i64 8] 39)).alloc (.cells #[.int .i64 8] 3)).alloc (.cells #[.int .i64 34,.int .i64 (-1),.int .i64 0,.int .i64 0,.int .i64 0,.slice none 0 0,.slice none 0 0] 43)).alloc (.cells #[.slice (some ⟨W.heap.size+1+1,0,none⟩) 1 1] 46)).alloc (.cells #[.string ⟨#[102]⟩,.slice (some ⟨W.heap.size+1,0,none⟩) 1 1,.int .i64 0,.slice (some ⟨W.heap.size+1+1+1,0,none⟩) 1 1] 49)).alloc (.cells #[.slice (some ⟨W.heap.size,0,none⟩) 1 1,.slice none 0 0,.slice (some ⟨W.heap.size+1+1+1+1,0,none⟩) 1 1] 26))=w6:=⟨_,rfl⟩
  rw [e6] at h0 h1 h2 h3 h4 h5 hb ⊢
  clear e6
  obtain ⟨M,eM⟩:∃ M,lvM W.heap.size (W.heap.size+1) (W.heap.size+1+1) (W.heap.size+1+1+1) (W.heap.size+1+1+1+1)=M:=⟨_,rfl⟩
  have hin:ModIn w6.heap.size w6 M:=by rw [← eM];exact lv_in h0 h1 h2 h3 h4
  have hwf:MWf M:=by rw [← eM];exact lv_wf _ _ _ _ _
  have hnm:NumOk M:=by rw [← eM];exact lv_num _ _ _ _ _
  have hD:modD M=lvD:=by rw [← eM];rfl
  have hC:(modC M).toArray=#[.slice (some ⟨W.heap.size,0,none⟩) 1 1,.slice none 0 0,.slice (some ⟨W.heap.size+1+1+1+1,0,none⟩) 1 1]:=by rw [← eM];rfl
  have cS:∀ w,Below w6.heap.size w6 w→Calls Tryz.prog 8 #[.agg #[.slice (some ⟨W.heap.size,0,none⟩) 1 1,.slice none 0 0,.slice (some ⟨W.heap.size+1+1+1+1,0,none⟩) 1 1]] w (Ans (.bool true) w):=fun w h=>by
    have:=Sayable_any M w (hO.later (hb.trans (h.mono hb.size))) (lasts_Mod _ _ _ _ _ h h.size hin) hwf
    rw [hD,lv_say,hC] at this
    exact this
  have cT:∀ w,Below w6.heap.size w6 w→Calls Tryz.prog 7 #[.agg #[.slice (some ⟨W.heap.size,0,none⟩) 1 1,.slice none 0 0,.slice (some ⟨W.heap.size+1+1+1+1,0,none⟩) 1 1]] w (StrV ⟨#[103,108,111,98,97,108,32,103,32,56,10,102,117,110,99,32,102,40,105,56,41,32,118,111,105,100,10,98,48,58,10,32,32,104,97,108,116,10,101,110,100,10]⟩ w):=fun w h=>by
    have:=Text_any M w (hO.later (hb.trans (h.mono hb.size))) (hT.later (hb.trans (h.mono hb.size))) (lasts_Mod _ _ _ _ _ h h.size hin) hwf hnm
    rw [hD,lv_say,hC,lv_text] at this
    exact this
  have cY:∀ w,Below w6.heap.size w6 w→Calls Tryz.prog 11 #[.int .i64 65] w (StrV ⟨#[112,116,114]⟩ w):=fun w h=>sType_any 65 w (hT.later (hb.trans (h.mono hb.size)))
  have H:=Lib.hid (And.intro cS (And.intro cT (And.intro cY (And.intro hb h5))))
  clear h0 h1 h2 h3 h4 h5 hb eM hin hwf hnm hD hC cS cT cY b1 b2 b3 b4 b5
  have x0:=H.out.2.2.2.2.get 0 _ rfl
  have x1:=H.out.2.2.2.2.get 1 _ rfl
  have x2:=H.out.2.2.2.2.get 2 _ rfl
  have c:=H.out.1 w6 (Below.refl _ _)
  go_wp2_with fail
  refine c.mono ?_
  rintro e w7 ⟨rfl,hb7⟩
  have HB7:=Lib.hid hb7
  have y0:=(H.out.2.2.2.2.later hb7).get 0 _ rfl
  have y1:=(H.out.2.2.2.2.later hb7).get 1 _ rfl
  have y2:=(H.out.2.2.2.2.later hb7).get 2 _ rfl
  have c2:=H.out.2.1 w7 hb7
  clear c hb7 x0 x1 x2
  go_wp2_with fail
  refine c2.mono ?_
  rintro e w8 ⟨rfl,hb8⟩
  have HB8:=Lib.hid (HB7.out.trans (hb8.mono HB7.out.size))
  have c3:=H.out.2.2.1 w8 HB8.out
  clear c2 hb8 y0 y1 y2
  go_wp2_with fail
  refine c3.mono ?_
  rintro e w9 ⟨rfl,hb9⟩
  have HB9:=Lib.hid (HB8.out.trans (hb9.mono HB8.out.size))
  clear c3 hb9
  go_wp2_with fail
  go_ret
  exact ⟨rfl,H.out.2.2.2.1.trans (HB9.out.mono H.out.2.2.2.1.size)⟩
end Go.Proofs.YtmmlfmplggbmiaaGreatDoor
namespace Go.Proofs.YtmmlfmplggbmiaaGreatDoor
open Go.RowKit Go.Maps Go.ChangeShapes Go.WideShapes Go.Deep
set_option linter.unusedVariables false
set_option linter.unusedSimpArgs false
def ArgW (a:Arg):Prop:=0≤a.bits∧a.bits<18446744073709551616
def InsW4 (x:LI):Prop:=(-9223372036854775808≤x.1.n∧x.1.n≤9223372036854775807)∧∀ a∈x.1.args,ArgW a
theorem wf_i64 {k:Int} (h:(Lit.int .i64 k).wf=true):-9223372036854775808≤k∧k≤9223372036854775807:=by
  have h1:(decide (IntKind.i64.min≤k)&&decide (k≤IntKind.i64.max))=true:=h
  rw [Bool.and_eq_true,decide_eq_true_eq,decide_eq_true_eq] at h1
  have e1:IntKind.i64.min=-9223372036854775808:=by decide
  have e2:IntKind.i64.max=9223372036854775807:=by decide
  omega
theorem wf_u64 {k:Int} (h:(Lit.int .u64 k).wf=true):0≤k∧k<18446744073709551616:=by
  have h1:(decide (IntKind.u64.min≤k)&&decide (k≤IntKind.u64.max))=true:=h
  rw [Bool.and_eq_true,decide_eq_true_eq,decide_eq_true_eq] at h1
  have e1:IntKind.u64.min=0:=by decide
  have e2:IntKind.u64.max=18446744073709551615:=by decide
  omega
section
variable {H:Type} {enc:TypeId×Value→H} {W:World} {sp:Nat→Bool} {held:Bool}
theorem tr_str {n:Nat} {c:Value} {y:DataW H×List MemPlace} (h:DataW.trod enc Tryz.prog W 0 sp held n 9 [c]=some y):∃ s:ByteArray,c=.string s∧s.size+1≤Rows.uptoBulk y.1:=by
  obtain ⟨s0,h1,h2,_⟩:=DataW.trod_string Tryz.underlying9 h
  refine ⟨s0,(List.cons.inj h1).1,?_⟩
  rw [h2]
  simp [Rows.uptoBulk]
set_option maxRecDepth 100000 in
theorem open_args4 {n:Nat} {c:Value} {y:DataW H×List MemPlace} (h:DataW.trod enc Tryz.prog W 0 sp held n 41 [c]=some y) :
    ∃ (p:Option Addr) (k:Nat) (xs:List Arg),c=.slice p xs.length k∧ListIn argC NoMem W.heap.size W p xs.length k xs∧(∀ x∈xs,ArgW x)∧xs.length≤Rows.uptoBulk y.1:=by
  obtain ⟨p,k,xs,e,hl,hp,_,hn⟩:=open_list (α:=Arg) (m:=3) (by decide) argC (fun _=>rfl) NoMem ArgW (fun _=>1) Tryz.underlying41 cellsValue (fun n cs y hlen h2=>by
    obtain ⟨xs,k,_,_,_,hxl,hg⟩:=DataW.trod_struct Tryz.underlying107 h2
    have c3:=cellsInt
    have c22:=cellsU64
    match cs,hlen with
    | [v0,v1,v2],_ =>
      match xs,hxl with
      | [y0,y1,y2],_ =>
        have g0:=hg 0 _ rfl
        have g1:=hg 1 _ rfl
        have g2:=hg 2 _ rfl
        simp [c3,c22] at g0 g1 g2
        obtain ⟨k0,rfl,_⟩:=tr_int g0
        obtain ⟨k1,rfl,w1⟩:=tr_int g1
        obtain ⟨k2,h1,_,w2⟩:=DataW.trod_int Tryz.underlying105 g2
        obtain rfl:=(List.cons.inj h1).1
        exact ⟨⟨k0,k1,k2⟩,rfl,trivial,wf_u64 w2,bulk_pos _⟩) h
  exact ⟨p,k,xs,e,hl,hp,hn⟩
set_option maxRecDepth 100000 in
theorem open_code4 {n:Nat} {c:Value} {y:DataW H×List MemPlace} (h:DataW.trod enc Tryz.prog W 0 sp held n 44 [c]=some y) :
    ∃ (p:Option Addr) (k:Nat) (L:List LI),c=.slice p L.length k∧ListIn liC InsIn W.heap.size W p L.length k L∧(∀ x∈L,InsW4 x)∧codeZ (L.map insD)≤Rows.uptoBulk y.1:=by
  obtain ⟨p,k,xs,e,hl,hp,hz,_⟩:=open_list (α:=LI) (m:=7) (by decide) liC (fun _=>rfl) InsIn InsW4 (fun x=>insZ (insD x)) Tryz.underlying44 cellsInstr (fun n cs y hlen h2=>by
    obtain ⟨xs,k,_,hx,_,hxl,hg⟩:=DataW.trod_struct Tryz.underlying43 h2
    have c3:=cellsInt
    have c22:=cellsVals
    have c23:=cellsInts
    match cs,hlen with
    | [v0,v1,v2,v3,v4,v5,v6],_ =>
      match xs,hxl with
      | [y0,y1,y2,y3,y4,y5,y6],_ =>
        have g0:=hg 0 _ rfl
        have g1:=hg 1 _ rfl
        have g2:=hg 2 _ rfl
        have g3:=hg 3 _ rfl
        have g4:=hg 4 _ rfl
        have g5:=hg 5 _ rfl
        have g6:=hg 6 _ rfl
        simp [c3,c22,c23] at g0 g1 g2 g3 g4 g5 g6
        obtain ⟨k0,rfl,_⟩:=tr_int g0
        obtain ⟨k1,rfl,w1⟩:=tr_int g1
        obtain ⟨k2,rfl,_⟩:=tr_int g2
        obtain ⟨k3,rfl,w3⟩:=tr_int g3
        obtain ⟨k4,rfl,_⟩:=tr_int g4
        obtain ⟨ap,ac,args,rfl,a1,a2,a3⟩:=open_args4 g5
        obtain ⟨tp,tc,ts,rfl,t1,t2⟩:=open_ints3 g6
        refine ⟨(⟨k0,k1,k2,k3,k4,ap,args.length,ac,tp,ts.length,tc,args⟩,ts),rfl,⟨a1,t1⟩,⟨wf_i64 w3,a2⟩,?_⟩
        show 1+args.length+ts.length≤_
        have e:y.1=.agg [y0.1,y1.1,y2.1,y3.1,y4.1,y5.1,y6.1]:=by have:=congrArg Prod.fst hx;simpa using this
        rw [e]
        simp only [Rows.uptoBulk,Rows.uptoBulkAll]
        omega) h
  refine ⟨p,k,xs,e,hl,hp,?_⟩
  unfold codeZ
  rw [List.map_map]
  exact hz
def BlkW4 (c:LB):Prop:=∀ x∈c.code,InsW4 x
def FnW4 (f:LFn):Prop:=∀ c∈f.bs,BlkW4 c
set_option maxRecDepth 100000 in
theorem open_blks4 {n:Nat} {c:Value} {y:DataW H×List MemPlace} (h:DataW.trod enc Tryz.prog W 0 sp held n 47 [c]=some y) :
    ∃ (p:Option Addr) (k:Nat) (L:List LB),c=.slice p L.length k∧ListIn blkC BlkIn W.heap.size W p L.length k L∧(∀ x∈L,BlkW4 x)∧blksZ (L.map blkD)≤Rows.uptoBulk y.1:=by
  obtain ⟨p,k,xs,e,hl,hp,hz,_⟩:=open_list (α:=LB) (m:=1) (by decide) blkC (fun _=>rfl) BlkIn BlkW4 (fun x=>1+codeZ (blkD x)) Tryz.underlying47 cellsBlock (fun n cs y hlen h2=>by
    obtain ⟨xs,k,_,hx,_,hxl,hg⟩:=DataW.trod_struct Tryz.underlying46 h2
    have cc:=cellsCode
    match cs,hlen with
    | [v0],_ =>
      match xs,hxl with
      | [y0],_ =>
        have g0:=hg 0 _ rfl
        simp [cc] at g0
        obtain ⟨p,c,L,rfl,l1,l2,l3⟩:=open_code4 g0
        refine ⟨⟨p,L.length,c,L⟩,rfl,l1,l2,?_⟩
        show 1+codeZ (L.map insD)≤_
        have e:y.1=.agg [y0.1]:=by have:=congrArg Prod.fst hx;simpa using this
        rw [e]
        simp only [Rows.uptoBulk,Rows.uptoBulkAll]
        omega) h
  refine ⟨p,k,xs,e,hl,hp,?_⟩
  unfold blksZ
  rw [List.map_map]
  exact hz
set_option maxRecDepth 100000 in
theorem open_fn_cells4 {n:Nat} {cs:List Value} {y:DataW H×List MemPlace} (hlen:cs.length=4) (h2:DataW.trod enc Tryz.prog W 0 sp held n 49 cs=some y):∃ f:LFn,cs=fnC f∧FnIn W.heap.size W f∧FnW4 f∧fnZ (fnD f)+f.nm.size≤Rows.uptoBulk y.1:=by
  obtain ⟨xs,k,_,hx,_,hxl,hg⟩:=DataW.trod_struct Tryz.underlying49 h2
  have c3:=cellsInt
  have c22:=cellsBlocks
  have c23:=cellsInts
  have c9:=cellsString
  match cs,hlen with
  | [v0,v1,v2,v3],_ =>
    match xs,hxl with
    | [y0,y1,y2,y3],_ =>
      have g0:=hg 0 _ rfl
      have g1:=hg 1 _ rfl
      have g2:=hg 2 _ rfl
      have g3:=hg 3 _ rfl
      simp [c3,c22,c23,c9] at g0 g1 g2 g3
      obtain ⟨s0,rfl,hs0⟩:=tr_str g0
      obtain ⟨k2,rfl,_⟩:=tr_int g2
      obtain ⟨p1,c1,us,rfl,u1,u2⟩:=open_ints3 g1
      obtain ⟨p2,c2,L,rfl,l1,l2,l3⟩:=open_blks4 g3
      refine ⟨⟨s0,p1,us.length,c1,us,k2,p2,L.length,c2,L⟩,rfl,⟨u1,l1⟩,l2,?_⟩
      show 1+us.length+blksZ (L.map blkD)+s0.size≤_
      have e:y.1=.agg [y0.1,y1.1,y2.1,y3.1]:=by have:=congrArg Prod.fst hx;simpa using this
      rw [e]
      simp only [Rows.uptoBulk,Rows.uptoBulkAll]
      omega
set_option maxRecDepth 100000 in
theorem open_ext_cells4 {n:Nat} {cs:List Value} {y:DataW H×List MemPlace} (hlen:cs.length=3) (h2:DataW.trod enc Tryz.prog W 0 sp held n 52 cs=some y):∃ f:LExt,cs=extC f∧ExtIn W.heap.size W f∧extZ (extD f)+f.nm.size≤Rows.uptoBulk y.1:=by
  obtain ⟨xs,k,_,hx,_,hxl,hg⟩:=DataW.trod_struct Tryz.underlying52 h2
  have c3:=cellsInt
  have c23:=cellsInts
  have c9:=cellsString
  match cs,hlen with
  | [v0,v1,v2],_ =>
    match xs,hxl with
    | [y0,y1,y2],_ =>
      have g0:=hg 0 _ rfl
      have g1:=hg 1 _ rfl
      have g2:=hg 2 _ rfl
      simp [c3,c23,c9] at g0 g1 g2
      obtain ⟨s0,rfl,hs0⟩:=tr_str g0
      obtain ⟨k2,rfl,_⟩:=tr_int g2
      obtain ⟨p1,c1,us,rfl,u1,u2⟩:=open_ints3 g1
      refine ⟨⟨s0,p1,us.length,c1,us,k2⟩,rfl,u1,?_⟩
      show 1+us.length+s0.size≤_
      have e:y.1=.agg [y0.1,y1.1,y2.1]:=by have:=congrArg Prod.fst hx;simpa using this
      rw [e]
      simp only [Rows.uptoBulk,Rows.uptoBulkAll]
      omega
theorem sum_add {α:Type} (f g:α→Nat) (l:List α):(l.map fun x=>f x+g x).sum=(l.map f).sum+(l.map g).sum:=by
  induction l with
  | nil=>rfl
  | cons x l ih=>simp only [List.map_cons,List.sum_cons,ih];omega
set_option maxRecDepth 100000 in
theorem open_mod4 {r:Reach} {b0:Nat} {v:Value} {d:DataW H} {p:List MemPlace} (hv:Value.okWide Tryz.prog W r b0 26 v) (h:DataW.Trod enc Tryz.prog W 0 sp held 26 v d p) (hb:Rows.uptoBulk d≤1048576) :
    ∃ m:LMod,v=.agg (modC m).toArray∧ModIn W.heap.size W m∧MWf m∧NumOk m:=by
  obtain ⟨cs,rfl,hsz⟩:=okWide_struct Tryz.underlying26 hv
  obtain ⟨fuel,hf⟩:=h
  obtain ⟨ls⟩:=cs
  obtain ⟨xs,k,_,hx,_,hxl,hg⟩:=DataW.trod_struct Tryz.underlying26 hf
  have cV:=cellsVars
  have cX:=cellsExterns
  have cF:=cellsFuncs
  match ls,(hsz.trans cellsModule:ls.length=3) with
  | [v0, v1, v2],_ =>
    match xs,hxl with
    | [y0, y1,y2],_ =>
      have g0:=hg 0 _ rfl
      have g1:=hg 1 _ rfl
      have g2:=hg 2 _ rfl
      simp [Value.cells,cV,cX,cF] at g0 g1 g2
      obtain ⟨p0,k0,vs,rfl,i0,q0,z0,l0⟩:=open_list (α:=PVar) (m:=2) (by decide) varC (fun _=>rfl) NoMem (fun v=>v.size≤9223372036854775807) (fun v=>1+v.nm.size) Tryz.underlying22 cellsVar (fun n cs y hlen h2=>by
        obtain ⟨xs,k,_,hx,_,hxl,hg⟩:=DataW.trod_struct Tryz.underlying39 h2
        have c3:=cellsInt
        have c9:=cellsString
        match cs,hlen with
        | [v0,v1],_ =>
          match xs,hxl with
          | [y0,y1],_ =>
            have g0:=hg 0 _ rfl
            have g1:=hg 1 _ rfl
            simp [c3,c9] at g0 g1
            obtain ⟨s0,rfl,hs0⟩:=tr_str g0
            obtain ⟨k2,rfl,w2⟩:=tr_int g1
            refine ⟨⟨s0,k2⟩,rfl,trivial,(wf_i64 w2).2,?_⟩
            have e:y.1=.agg [y0.1,y1.1]:=by have:=congrArg Prod.fst hx;simpa using this
            rw [e]
            simp only [Rows.uptoBulk,Rows.uptoBulkAll]
            omega) g0
      obtain ⟨p1,k1,es,rfl,i1,_,z1,_⟩:=open_list (α:=LExt) (m:=3) (by decide) extC (fun _=>rfl) ExtIn (fun _=>True) (fun x=>extZ (extD x)+x.nm.size) Tryz.underlying23 cellsExtern (fun n cs y hlen h2=>by
        obtain ⟨f,hc,h1,h3⟩:=open_ext_cells4 hlen h2
        exact ⟨f,hc,h1,trivial,h3⟩) g1
      obtain ⟨p2,k2,fs,rfl,i2,w2,z2,_⟩:=open_list (α:=LFn) (m:=4) (by decide) fnC (fun _=>rfl) FnIn FnW4 (fun x=>fnZ (fnD x)+x.nm.size) Tryz.underlying24 cellsFunc (fun n cs y hlen h2=>open_fn_cells4 hlen h2) g2
      have e:d=.agg [y0.1,y1.1,y2.1]:=by have:=congrArg Prod.fst hx;simpa using this
      rw [e] at hb
      simp only [Rows.uptoBulk,Rows.uptoBulkAll] at hb
      have mv:∀ v∈vs,1+v.nm.size≤_:=fun v hv=>sum_mem (fun v:PVar=>1+v.nm.size) hv
      have mx:∀ x∈es,extZ (extD x)+x.nm.size≤_:=fun x hx=>sum_mem (fun x:LExt=>extZ (extD x)+x.nm.size) hx
      have mf:∀ x∈fs,fnZ (fnD x)+x.nm.size≤_:=fun x hx=>sum_mem (fun x:LFn=>fnZ (fnD x)+x.nm.size) hx
      rw [sum_add (fun _:PVar=>1)] at z0
      rw [sum_add (fun x:LExt=>extZ (extD x))] at z1
      rw [sum_add (fun x:LFn=>fnZ (fnD x))] at z2
      refine ⟨⟨p0,vs.length,k0,vs,p1,es.length,k1,es,p2,fs.length,k2,fs⟩,rfl,⟨i0,i1,i2⟩,⟨fun v hv=>?_,fun x hx=>?_,fun f hf=>?_,fun f hf c hc x hx=>(w2 f hf c hc x hx).1,?_⟩,⟨q0,fun f hf c hc x hx=>?_⟩⟩
      · have:=mv v hv
        rw [sum_add (fun _:PVar=>1)] at this
        omega
      · have:=mx x hx
        rw [sum_add (fun x:LExt=>extZ (extD x))] at this
        omega
      · have:=mf f hf
        rw [sum_add (fun x:LFn=>fnZ (fnD x))] at this
        omega
      · show vs.length+((es.map extD).map extZ).sum+((fs.map fnD).map fnZ).sum≤_
        rw [List.map_map,List.map_map]
        show vs.length+(es.map fun x=>extZ (extD x)).sum+(fs.map fun x=>fnZ (fnD x)).sum≤_
        omega
      · have h1:=w2 f hf c hc x hx
        exact ⟨h1.1.2,fun a ha=>h1.2 a ha⟩
end
theorem MWf.same {m y:LMod} (e:modD y=modD m) (h:MWf m):MWf y where
  vs:=by have:=modD_vs e;rw [this];exact h.vs
  xs:=fun x hx=>by
    have h1:=modD_xs e
    have h2:extD x∈m.xs.map extD:=by rw [← h1];exact List.mem_map_of_mem hx
    obtain ⟨x',hx',e'⟩:=List.mem_map.1 h2
    have h3:=h.xs x' hx'
    have e3:x'.nm=x.nm:=congrArg PExt.nm e'
    rw [← e3]
    exact h3
  fs:=fun x hx=>by
    have h1:=modD_fs e
    have h2:fnD x∈m.fs.map fnD:=by rw [← h1];exact List.mem_map_of_mem hx
    obtain ⟨x',hx',e'⟩:=List.mem_map.1 h2
    have h3:=h.fs x' hx'
    have e3:x'.nm=x.nm:=congrArg PFn.nm e'
    rw [← e3]
    exact h3
  ns:=fun f hf c hc x hx=>by
    have h1:=modD_fs e
    have h2:fnD f∈m.fs.map fnD:=by rw [← h1];exact List.mem_map_of_mem hf
    obtain ⟨f',hf',e'⟩:=List.mem_map.1 h2
    have hb:blkD c∈(fnD f').bs:=by rw [e'];exact List.mem_map_of_mem hc
    obtain ⟨c',hc',ec⟩:=List.mem_map.1 hb
    have hi:insD x∈blkD c':=by rw [ec];exact List.mem_map_of_mem hx
    obtain ⟨x',hx',ex⟩:=List.mem_map.1 hi
    have h3:=h.ns f' hf' c' hc' x' hx'
    have e3:x'.1.n=x.1.n:=congrArg PIns.n ex
    rw [← e3]
    exact h3
  z:=by rw [e];exact h.z
theorem NumOk.same {m y:LMod} (e:modD y=modD m) (h:NumOk m):NumOk y where
  vs:=by have:=modD_vs e;rw [this];exact h.vs
  is:=fun f hf c hc x hx=>by
    have h1:=modD_fs e
    have h2:fnD f∈m.fs.map fnD:=by rw [← h1];exact List.mem_map_of_mem hf
    obtain ⟨f',hf',e'⟩:=List.mem_map.1 h2
    have hb:blkD c∈(fnD f').bs:=by rw [e'];exact List.mem_map_of_mem hc
    obtain ⟨c',hc',ec⟩:=List.mem_map.1 hb
    have hi:insD x∈blkD c':=by rw [ec];exact List.mem_map_of_mem hx
    obtain ⟨x',hx',ex⟩:=List.mem_map.1 hi
    have h3:=h.is f' hf' c' hc' x' hx'
    rw [← ex]
    exact h3
end Go.Proofs.YtmmlfmplggbmiaaGreatDoor
namespace Go.Proofs.YtmmlfmplggbmiaaGreatDoor
open Go.RowKit Go.Maps
set_option linter.unusedVariables false
set_option linter.unusedSimpArgs false
set_option maxRecDepth 100000
set_option maxHeartbeats 4000000
def Fm (W:World) (bs:List (Nat×List Value)) (ms:List LMod) (w:World):Prop:=Below W.heap.size W w∧(∀ x∈bs,W.heap.size≤x.1∧Box x.1 x.2 w)∧∀ m∈ms,ModIn w.heap.size w m
theorem Fm.start (W:World) {m:LMod} (h:ModIn W.heap.size W m):Fm W [] [m] W:=⟨Below.refl _ _,(fun _ h=>by cases h),fun x hx=>by rw [List.mem_singleton.1 hx];exact h⟩
theorem Fm.start0 (W:World):Fm W [] [] W:=⟨Below.refl _ _,(fun _ h=>by cases h),(fun _ h=>by cases h)⟩
theorem Fm.later {W w w':World} {bs:List (Nat×List Value)} {ms:List LMod} (F:Fm W bs ms w) (hb:Below w.heap.size w w'):Fm W bs ms w' :=
  ⟨F.1.trans (hb.mono F.1.size),fun x hx=>⟨(F.2.1 x hx).1,(F.2.1 x hx).2.later hb⟩,fun m hm=>lasts_Mod _ _ _ _ _ hb hb.size (F.2.2 m hm)⟩
theorem Fm.alloc {W w:World} {bs:List (Nat×List Value)} {ms:List LMod} (F:Fm W bs ms w) (o:Obj):Fm W bs ms (w.alloc o):=F.later ((Below.refl _ _).alloc (Nat.le_refl _) o)
theorem Fm.push {W w:World} {bs:List (Nat×List Value)} {ms:List LMod} {g:Nat} (F:Fm W bs ms w) (hg:g=w.heap.size) (cs:List Value) (t:TypeId):Fm W ((g,cs)::bs) ms (w.alloc (.cells cs.toArray t)):=by
  refine ⟨F.1.alloc F.1.size _,fun x hx=>?_,(F.alloc _).2.2⟩
  rcases List.mem_cons.1 hx with rfl | hx
  · exact ⟨by rw [hg];exact F.1.size,Box.new w hg cs t⟩
  · exact ⟨(F.2.1 x hx).1,(F.2.1 x hx).2.alloc _⟩
theorem Fm.mod {W w:World} {bs:List (Nat×List Value)} {ms:List LMod} {m:LMod} (F:Fm W bs ms w) (h:ModIn w.heap.size w m):Fm W bs (m::ms) w :=
  ⟨F.1,F.2.1,fun x hx=>by
    rcases List.mem_cons.1 hx with rfl | hx
    · exact h
    · exact F.2.2 x hx⟩
theorem Fm.at {W w:World} {bs:List (Nat×List Value)} {ms:List LMod} (F:Fm W bs ms w) (i:Nat) {g:Nat} {cs:List Value} (h:bs[i]? = some (g,cs)):Box g cs w:=(F.2.1 (g,cs) (List.mem_of_getElem? h)).2
theorem Fm.m {W w:World} {bs:List (Nat×List Value)} {ms:List LMod} (F:Fm W bs ms w) (i:Nat) {m:LMod} (h:ms[i]? = some m):ModIn w.heap.size w m:=F.2.2 m (List.mem_of_getElem? h)
theorem Fm.c3 {W w:World} {bs:List (Nat×List Value)} {ms:List LMod} (F:Fm W bs ms w) (i:Nat) {g:Nat} {v0 v1 v2:Value} (h:bs[i]? = some (g,[v0,v1,v2])) :
    w.cell? ⟨g,0,none⟩=some v0∧w.cell? ⟨g,1,none⟩=some v1∧w.cell? ⟨g,2,none⟩=some v2:=⟨(F.at i h).get 0 _ rfl,(F.at i h).get 1 _ rfl,(F.at i h).get 2 _ rfl⟩
/-! What was read. -/
theorem wd_small {nm:ByteArray} (h:wdI nm):nm.size≤1048576:=by
  have h3:=h.2.2
  rw [byt_len] at h3
  omega
theorem ins_range {m:PMod} (h:MS m) {x:PIns} (hx:InS m x):-9223372036854775808≤x.n∧x.n≤9223372036854775807:=by
  have hs:=hx.say
  unfold insB at hs
  simp only [Bool.and_eq_true] at hs
  have hn:=hs.1.1.1.1.2
  unfold numB at hn
  by_cases c1:20≤x.op∧x.op≤22
  · rw [if_pos c1] at hn
    have:0≤x.n∧x.n≤65:=of_decide_eq_true hn
    omega
  rw [if_neg c1] at hn
  by_cases c2:x.op=26
  · rw [if_pos c2] at hn
    have h0:0≤x.n:=of_decide_eq_true hn
    have:=hx.num (by omega)
    omega
  rw [if_neg c2] at hn
  by_cases c3:x.op=30
  · have hc:=hx.cal c3
    have h1:=h.fl
    have h2:=h.xl
    unfold calR at hc
    by_cases c0:0≤x.n
    · rw [if_pos c0] at hc
      obtain ⟨g,hg,_⟩:=Option.map_eq_some_iff.1 hc
      obtain ⟨hlt,_⟩:=List.getElem?_eq_some_iff.1 hg
      omega
    · rw [if_neg c0] at hc
      obtain ⟨g,hg,_⟩:=Option.map_eq_some_iff.1 hc
      obtain ⟨hlt,_⟩:=List.getElem?_eq_some_iff.1 hg
      omega
  · rw [if_neg c3] at hn
    have:x.n=0:=of_decide_eq_true hn
    omega
structure Was (m:LMod):Prop where
  wf:MWf m
  nu:NumOk m
  ms:MS (modD m)
  nd:Nd (modD m)
  sa:sayB wdB (modD m)=true
theorem endTk_six (t:Tx):(endTk t).kind=6:=rfl
theorem Was.of {l:List UInt8} {ts:List Tok} {m:LMod} (hx:Lexed l 1 1 ts none) (hl:l.length≤65536) (hp:parseP (endTk l) ts=.ok (modD m)):Was m:=by
  have hg:=lexed_gd hx hl
  have h1:=parseP_bounds (endTk_gd l) hg hp
  have h2:=parseP_nd (endTk_gd l) hg hp
  have h3:=parseP_z (endTk_six l) hp
  have h4:ts.length≤65537:=by
    have:=(lexed_few hx).1
    omega
  refine ⟨⟨fun v hv=>wd_small (h1.vs v hv).1,fun x hx=>wd_small (h1.xs (extD x) (List.mem_map_of_mem hx)).1,fun f hf=>wd_small (h1.fs (fnD f) (List.mem_map_of_mem hf)).1,fun f hf c hc x hx=>?_,by omega⟩,⟨fun v hv=>by have:=(h1.vs v hv).2.2;omega,fun f hf c hc x hx=>?_⟩,h1,h2,h1.say⟩
  · exact ins_range h1 ((h1.fs (fnD f) (List.mem_map_of_mem hf)).2.2.2.2.2 (blkD c) (List.mem_map_of_mem hc) (insD x) (List.mem_map_of_mem hx))
  · exact insW_of h1 h2 (fnD f) (List.mem_map_of_mem hf) (blkD c) (List.mem_map_of_mem hc) (insD x) (List.mem_map_of_mem hx)
def PW (W:World) (e:Ending) (w':World):Prop :=
  Below W.heap.size W w' ∧
    ((∃ c ln cl:Nat,c≠0∧e=.returned (.tuple #[.agg #[.slice none 0 0,.slice none 0 0,.slice none 0 0],.agg #[.int .i64 c,.int .i64 ln,.int .i64 cl]])) ∨
     (∃ m:LMod,Was m∧ModIn w'.heap.size w' m∧e=.returned (.tuple #[.agg #[.slice m.vp m.vn m.vc,.slice m.xp m.xn m.xc,.slice m.fp m.fn m.fc],.agg #[.int .i64 0,.int .i64 0,.int .i64 0]])))
theorem Parse_pw (s:ByteArray) (hs:s.size<4611686018427387904) (W:World) (hK:Stc W):Calls Tryz.prog 9 #[.string s] W (PW W):=(Parse_any s hs W hK).mono fun e w' h=>by
  obtain ⟨ts,f0,hT,hB,h⟩:=h
  refine ⟨hB,?_⟩
  rcases h with ⟨⟨c,ln,cl⟩,h1,h2,h3⟩ | ⟨h0,m,h1,h2,h3⟩
  · exact .inl ⟨c,ln,cl,h3,h2⟩
  · refine .inr ⟨m,?_,h3,h2⟩
    rcases hT with ⟨_,_,h4⟩ | ⟨hl,t,hx,ht⟩
    · rw [h0] at h4;cases h4
    · rw [h0] at ht hx
      have:ts=t:=ht
      subst this
      exact Was.of hx hl h1
def PT (ok:Prop) (D:PMod) (z:Nat) (W:World) (e:Ending) (w':World):Prop :=
  Below W.heap.size W w' ∧
    ((∃ c ln cl:Nat,(z≤65536→¬ ok)∧(65536<z→c=6)∧(c=3∨c=5∨c=6)∧e=.returned (.tuple #[.agg #[.slice none 0 0,.slice none 0 0,.slice none 0 0],.agg #[.int .i64 c,.int .i64 ln,.int .i64 cl]])) ∨
     (∃ m:LMod,z≤65536∧modD m=D∧ModIn w'.heap.size w' m∧e=.returned (.tuple #[.agg #[.slice m.vp m.vn m.vc,.slice m.xp m.xn m.xc,.slice m.fp m.fn m.fc],.agg #[.int .i64 0,.int .i64 0,.int .i64 0]])))
theorem Parse_pt {ok:Prop} {D:PMod} {ts:List Tok} (hx:Lexed (modT D) 1 1 ts none) (hp:∀ en,(¬ ok∧∃ f,parseP en ts=.error f∧F3 f)∨parseP en ts=.ok D)
    (hs:(modT D).length<4611686018427387904) (W:World) (hK:Stc W):Calls Tryz.prog 9 #[.string (mkS (modT D))] W (PT ok D (mkS (modT D)).size W):=by
  have hz:(mkS (modT D)).size=(modT D).length:=by show (modT D).toArray.size=_;simp
  have hd:(mkS (modT D)).data.toList=modT D:=by simp [mkS]
  refine (Parse_any (mkS (modT D)) (by omega) W hK).mono fun e w' h=>?_
  rw [hd] at h
  rw [hz]
  obtain ⟨ts',f0,hT,hB,h⟩:=h
  refine ⟨hB,?_⟩
  rcases hT with ⟨hl,rfl,rfl⟩ | ⟨hl,t,hx',rfl⟩
  · rcases h with ⟨f,h1 | ⟨h1,_⟩,h2,h3⟩ | ⟨h0,_⟩
    · injection h1 with h1
      subst h1
      exact .inl ⟨6,0,0,fun k=>by omega,fun _=>rfl,.inr (.inr rfl),h2⟩
    · cases h1
    · cases h0
  · obtain ⟨rfl,rfl⟩:=hx'.unique hx
    have hp':=hp (endTk (modT D))
    simp only [Option.isNone_none,if_true] at h
    rcases h with ⟨f,h1 | ⟨_,h1⟩,h2,h3⟩ | ⟨_,m,h1,h2,h3⟩
    · cases h1
    · rcases hp' with ⟨hn,f',e1,h4⟩ | e1
      · rw [e1] at h1
        injection h1 with h1
        subst h1
        obtain ⟨c,ln,cl⟩:=f'
        exact .inl ⟨c,ln,cl,fun _=>hn,fun k=>by omega,h4,h2⟩
      · rw [e1] at h1;cases h1
    · rcases hp' with ⟨hn,f',e1,h4⟩ | e1
      · rw [e1] at h1;cases h1
      · rw [e1] at h1
        injection h1 with h1
        exact .inr ⟨m,hl,h1.symm,h3,h2⟩
theorem Parse_said {m:LMod} (hw:MWf m) (hn:NumOk m) (hq:sayB wdB (modD m)=true) (hs:(modT (modD m)).length<4611686018427387904) (W:World) (hK:Stc W) :
    Calls Tryz.prog 9 #[.string (mkS (modT (modD m)))] W (PT (modOk (modD m)) (modD m) (mkS (modT (modD m))).size W):=by
  have isw:∀ w,wdB w=true→IsW w:=fun w h=>by
    unfold wdB at h
    rw [Bool.and_eq_true] at h
    exact isW_of (of_decide_eq_true h.1) (of_decide_eq_true h.2)
  obtain ⟨ts,h1,h2⟩:=lexed_mod isw hq (fun v hv=>by have:=hn.vs v hv;omega) hn.ins
  have hq':=hq
  unfold sayB at hq'
  simp only [Bool.and_eq_true,List.all_eq_true,decide_eq_true_eq] at hq'
  refine Parse_pt h1 (fun en=>parse_x (fun v hv=>⟨(hq'.1.1 v hv).2,by have:=hn.vs v hv;omega⟩) (fun x hx=>?_) (fun f hf=>?_) h2) hs W hK
  · have:=hq'.1.2 x hx
    unfold headB at this
    simp only [Bool.and_eq_true,List.all_eq_true] at this
    exact ⟨this.1.2,this.2⟩
  · have:=hq'.2 f hf
    unfold fnB headB at this
    simp only [Bool.and_eq_true,List.all_eq_true] at this
    exact ⟨⟨this.1.1.2,this.1.2⟩,fun c hc x hx=>⟨this.2 c hc x hx,hn.ins f hf c hc x hx⟩⟩
theorem Was.again {m:LMod} (h:Was m) (hs:(modT (modD m)).length<4611686018427387904) (W:World) (hK:Stc W) :
    Calls Tryz.prog 9 #[.string (mkS (modT (modD m)))] W (PT True (modD m) (mkS (modT (modD m))).size W):=by
  obtain ⟨ts,h1,h2⟩:=lexed_mod (m:=modD m) (wd:=wdB) (fun w h=>by
    unfold wdB at h
    rw [Bool.and_eq_true] at h
    exact isW_of (of_decide_eq_true h.1) (of_decide_eq_true h.2)) h.sa (fun v hv=>by have:=h.nu.vs v hv;omega) h.nu.ins
  exact Parse_pt h1 (fun en=>.inr (parse_again h.ms h.nd h2)) hs W hK
end Go.Proofs.YtmmlfmplggbmiaaGreatDoor
