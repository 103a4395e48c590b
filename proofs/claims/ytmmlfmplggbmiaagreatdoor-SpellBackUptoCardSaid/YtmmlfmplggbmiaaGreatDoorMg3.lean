/- Several texts in one: LexBase, PgB, PsGd, SpLay. -/
import Derived.Test.YtmmlfmplggbmiaaGreatDoorProg
import Derived.Test.YtmmlfmplggbmiaaGreatDoorShelf
import Derived.WalkKit
import Derived.WalkSpells
import Derived.WalkLawsBesides
import Derived.Below
import Derived.Lib.Hide
import Derived.Lib.Strings
import Derived.Deep.LoopGhost
import Derived.WalkSmall
import Derived.LoopN
import Derived.ScopeJumps
import Derived.WalkMore
import Derived.Deep.Heap
import Derived.Deep.Onto
import Derived.Test.YtmmlfmplggbmiaaGreatDoorMg2
namespace Go.Proofs.YtmmlfmplggbmiaaGreatDoor
open Go.RowKit Go.Maps
set_option linter.unusedVariables false
set_option linter.unusedSimpArgs false
theorem isBlank_any (c:UInt8) (W:World):Calls Tryz.prog 103 #[.int .u8 (c.toNat:Int)] W fun e w' => e=.returned (.bool (isBlank c))∧w' = W:=by
  have hc:=c.toNat_lt
  unfold isBlank
  generalize c.toNat=n at *
  go_enter Tryz.func103,Tryz.ntmps103
  go_wp2
  all_goals go_ret
  all_goals refine ⟨ret_bool ?_,rfl⟩
  all_goals (rw [Bool.eq_iff_iff];simp <;> omega)
theorem isOfLine_any (c:UInt8) (W:World):Calls Tryz.prog 104 #[.int .u8 (c.toNat:Int)] W fun e w' => e=.returned (.bool (isOfLine c))∧w' = W:=by
  have hc:=c.toNat_lt
  unfold isOfLine
  generalize c.toNat=n at *
  go_enter Tryz.func104,Tryz.ntmps104
  go_wp2
  all_goals go_ret
  all_goals refine ⟨ret_bool ?_,rfl⟩
  all_goals (rw [Bool.eq_iff_iff];simp <;> omega)
theorem isMark_any (c:UInt8) (W:World):Calls Tryz.prog 105 #[.int .u8 (c.toNat:Int)] W fun e w' => e=.returned (.bool (isMark c))∧w' = W:=by
  have hc:=c.toNat_lt
  unfold isMark
  generalize c.toNat=n at *
  go_enter Tryz.func105,Tryz.ntmps105
  go_wp2
  all_goals go_ret
  all_goals refine ⟨ret_bool ?_,rfl⟩
  all_goals (rw [Bool.eq_iff_iff];simp <;> omega)
theorem isLetter_any (c:UInt8) (W:World):Calls Tryz.prog 107 #[.int .u8 (c.toNat:Int)] W fun e w' => e=.returned (.bool (isLetter c))∧w' = W:=by
  have hc:=c.toNat_lt
  unfold isLetter
  generalize c.toNat=n at *
  go_enter Tryz.func107,Tryz.ntmps107
  go_wp2
  all_goals go_ret
  all_goals refine ⟨ret_bool ?_,rfl⟩
  all_goals (rw [Bool.eq_iff_iff];simp <;> omega)
theorem isDigit_any (c:UInt8) (W:World):Calls Tryz.prog 108 #[.int .u8 (c.toNat:Int)] W fun e w' => e=.returned (.bool (isDigit c))∧w' = W:=by
  have hc:=c.toNat_lt
  unfold isDigit
  generalize c.toNat=n at *
  go_enter Tryz.func108,Tryz.ntmps108
  go_wp2
  all_goals go_ret
  all_goals refine ⟨ret_bool ?_,rfl⟩
  all_goals (rw [Bool.eq_iff_iff];simp <;> omega)
theorem isOfWord_any (c:UInt8) (W:World):Calls Tryz.prog 136 #[.int .u8 (c.toNat:Int)] W fun e w' => e=.returned (.bool (isOfWord c))∧w' = W:=by
  unfold isOfWord
  have c1:=isLetter_any c
  have c2:=isDigit_any c
  generalize isLetter c=a at *
  generalize isDigit c=b at *
  go_enter Tryz.func136,Tryz.ntmps136
  cases a
  · go_wp2_with (first | ((with_reducible refine (c1 _).mono ?_);rintro e w' ⟨rfl,rfl⟩) | ((with_reducible refine (c2 _).mono ?_);rintro e w' ⟨rfl,rfl⟩))
    go_ret
    exact ⟨by simp,rfl⟩
  · go_wp2_with (first | ((with_reducible refine (c1 _).mono ?_);rintro e w' ⟨rfl,rfl⟩) | ((with_reducible refine (c2 _).mono ?_);rintro e w' ⟨rfl,rfl⟩))
    go_ret
    exact ⟨by simp,rfl⟩
def Sorts (g:FuncId) (p:UInt8→Bool):Prop:=(∀ (args:Array Value) (w:World),(callFunc g args).run Tryz.prog w=.ok (.enter g args) w)∧∀ (c:UInt8) (w:World),Calls Tryz.prog g #[.int .u8 (c.toNat:Int)] w fun e w' => e=.returned (.bool (p c))∧w' = w
set_option maxRecDepth 100000 in
theorem sort_blank:Sorts 103 isBlank:=⟨fun _ _=>rfl,isBlank_any⟩
set_option maxRecDepth 100000 in
theorem sort_line:Sorts 104 isOfLine:=⟨fun _ _=>rfl,isOfLine_any⟩
set_option maxRecDepth 100000 in
theorem sort_digit:Sorts 108 isDigit:=⟨fun _ _=>rfl,isDigit_any⟩
set_option maxRecDepth 100000 in
theorem sort_word:Sorts 136 isOfWord:=⟨fun _ _=>rfl,isOfWord_any⟩
set_option maxHeartbeats 1000000 in
theorem sizeOf_any (s:ByteArray) (g:FuncId) (p:UInt8→Bool) (hg:Sorts g p) (hs:s.size<9223372036854775807) (W:World) :
    Calls Tryz.prog 102 #[.string s,.func (.func g) #[] #[]] W fun e w' => e=.returned (.int .i64 (runOf p s.data.toList:Nat))∧w' = W:=by
  obtain ⟨hen,hc⟩:=hg
  have HC:=Lib.hid hc
  clear hc
  go_enter Tryz.func102,Tryz.ntmps102
  go_wp2_with fail
  have hL:s.data.toList.length=s.size:=(Lib.size_eq s).symm
  have hrl:=runOf_le p s.data.toList
  have hre:=runOf_end p s.data.toList
  have hra:=runOf_at p s.data.toList
  obtain ⟨R,eR⟩:∃ R,R=runOf p s.data.toList:=⟨_,rfl⟩
  rw [← eR] at hrl
  have HE:=Lib.hid hre
  have HA:=Lib.hid hra
  have ER:=Lib.hid eR
  clear hre hra eR
  go_loop [5] (fun a=>∃ k:Nat,k≤R∧a=.int .i64 k) (fun a=>R - (intOf a).toNat)
  case atStart=>exact ⟨0,Nat.zero_le _,rfl⟩
  case round =>
    obtain ⟨k,hk,rfl⟩:=hrel
    by_cases hkR:k<R
    · have hb:k<s.size:=by omega
      have hp:p s[k]=true:=by
        obtain ⟨h',hp⟩:=HA.out k (by rw [← ER.out];exact hkR)
        show p s.data[k]=true
        simpa using hp
      go_wp2_with fail
      refine (HC.out _ _).mono ?_
      rw [hp]
      rintro e w' ⟨rfl,rfl⟩
      go_wp2
      go_round
      case rel=>exact ⟨k+1,by omega,by go_num⟩
      case measure=>simp [intOf];omega
    · obtain rfl:k=R:=by omega
      by_cases hb:k<s.size
      · have hp:p s[k]=false:=by
          have h:=HE.out (by rw [← ER.out];omega)
          simp only [← ER.out] at h
          show p s.data[k]=false
          simpa using h
        go_wp2_with fail
        refine (HC.out _ _).mono ?_
        rw [hp]
        rintro e w' ⟨rfl,rfl⟩
        go_wp2
        go_ret
        exact ⟨by rw [← ER.out];rfl,rfl⟩
      · have hb2:k=s.size:=by omega
        subst hb2
        go_wp2
        go_ret
        exact ⟨by rw [← ER.out];rfl,rfl⟩
theorem from_data (s:ByteArray) (a:Nat):(s.extract a s.size).data.toList=s.data.toList.drop a:=by
  rw [Lib.extract_data,List.take_of_length_le]
  rw [List.length_drop,← Lib.size_eq]
  exact Nat.le_refl _
theorem from_size (s:ByteArray) (a:Nat):(s.extract a s.size).size=s.size - a:=by
  rw [Lib.size_eq,from_data,List.length_drop,← Lib.size_eq]
theorem cons_of (s:ByteArray) (k:Nat) (h:k<s.size):s.data.toList.drop k=s[k]::s.data.toList.drop (k+1):=by
  have h':k<s.data.toList.length:=by rw [← Lib.size_eq];exact h
  rw [List.drop_eq_getElem_cons h']
  rfl
theorem empty_iff (s:ByteArray) (b:Bool) (h:decide (s.size=0)=b):s.toList.isEmpty=b:=by
  rw [Lib.toList_data,← h,Lib.size_eq]
  cases s.data.toList <;> simp
set_option maxHeartbeats 1000000 in
theorem wordSize_any (s:ByteArray) (hs:s.size<9223372036854775807) (W:World) :
    Calls Tryz.prog 90 #[.string s] W fun e w' => e=.returned (.int .i64 (wordSize s.data.toList:Nat))∧w' = W:=by
  have c1:=sizeOf_any s 136 isOfWord sort_word hs
  by_cases h0:s.size=0
  · have hz:s.data.toList=[]:=List.length_eq_zero_iff.1 (by rw [← Lib.size_eq];exact h0)
    have he:=empty_iff s true (by simp [h0])
    rw [hz]
    go_enter Tryz.func90,Tryz.ntmps90
    go_wp2_with fail
    go_ret
    exact ⟨rfl,rfl⟩
  · have hp:0<s.size:=by omega
    have he:=empty_iff s false (by simp [h0])
    have hc:=cons_of s 0 hp
    rw [List.drop_zero] at hc
    have c2:=isLetter_any s[0]
    have hws:wordSize s.data.toList=if isLetter s[0] then runOf isOfWord s.data.toList else 0:=by
      have:∀ l (h:l=s[0]::s.data.toList.drop 1),wordSize l=if isLetter s[0] then runOf isOfWord l else 0:=fun l h=>by subst h;rfl
      exact this _ hc
    rw [hws]
    clear hws hc h0
    generalize isLetter s[0]=b at *
    cases b
    · go_enter Tryz.func90,Tryz.ntmps90
      go_wp2_with (first | ((with_reducible refine (c2 _).mono ?_);rintro e w' ⟨rfl,rfl⟩) | ((with_reducible refine (c1 _).mono ?_);rintro e w' ⟨rfl,rfl⟩))
      go_ret
      exact ⟨rfl,rfl⟩
    · go_enter Tryz.func90,Tryz.ntmps90
      go_wp2_with (first | ((with_reducible refine (c2 _).mono ?_);rintro e w' ⟨rfl,rfl⟩) | ((with_reducible refine (c1 _).mono ?_);rintro e w' ⟨rfl,rfl⟩))
      go_ret
      exact ⟨rfl,rfl⟩
set_option maxHeartbeats 1000000 in
theorem passedOver_any (s:ByteArray) (hs:s.size<4611686018427387904) (W:World) :
    Calls Tryz.prog 69 #[.string s] W fun e w' => e=.returned (.int .i64 (passed s.data.toList:Nat))∧w' = W:=by
  have c1:=sizeOf_any s 103 isBlank sort_blank (by omega)
  have hle:=runOf_le isBlank s.data.toList
  rw [← Lib.size_eq] at hle
  unfold passed
  generalize runOf isBlank s.data.toList=B at *
  have c2:=sizeOf_any (s.extract B s.size) 104 isOfLine sort_line (by rw [from_size];omega)
  rw [from_data] at c2
  have hrl:=runOf_le isOfLine (s.data.toList.drop B)
  rw [List.length_drop,← Lib.size_eq] at hrl
  by_cases hB:B<s.size
  · have hc:=cons_of s B hB
    rw [hc]
    rw [hc] at c2 hrl
    dsimp only
    generalize runOf isOfLine (s[B]::s.data.toList.drop (B+1))=R at *
    have hne:((B:Int)==(s.size:Int))=false:=by simp;omega
    clear hc
    by_cases h35:s[B].toNat=35
    · rw [if_pos h35]
      have h35':((s[B].toNat:Int) != 35)=false:=by rw [h35];rfl
      go_enter Tryz.func69,Tryz.ntmps69
      go_wp2_with (first | ((with_reducible refine (c2 _).mono ?_);rintro e w' ⟨rfl,rfl⟩) | ((with_reducible refine (c1 _).mono ?_);rintro e w' ⟨rfl,rfl⟩))
      go_ret
      exact ⟨ret_int (by simp),rfl⟩
    · rw [if_neg h35]
      have h35':((s[B].toNat:Int) != 35)=true:=by simp;omega
      go_enter Tryz.func69,Tryz.ntmps69
      go_wp2_with (first | ((with_reducible refine (c2 _).mono ?_);rintro e w' ⟨rfl,rfl⟩) | ((with_reducible refine (c1 _).mono ?_);rintro e w' ⟨rfl,rfl⟩))
      go_ret
      exact ⟨rfl,rfl⟩
  · have hd:s.data.toList.drop B=[]:=List.drop_eq_nil_of_le (by rw [← Lib.size_eq];omega)
    rw [hd]
    have hne:((B:Int)==(s.size:Int))=true:=by simp;omega
    have hBs:B=s.size:=by omega
    clear c2 hrl hd hB
    subst hBs
    go_enter Tryz.func69,Tryz.ntmps69
    go_wp2_with ((with_reducible refine (c1 _).mono ?_);rintro e w' ⟨rfl,rfl⟩)
    go_ret
    exact ⟨rfl,rfl⟩
set_option maxHeartbeats 1000000 in
theorem Word_any (s:ByteArray) (hs:s.size<9223372036854775807) (W:World) :
    Calls Tryz.prog 49 #[.string s] W fun e w' => e=.returned (.bool (decide (0<s.size)&&decide (wordSize s.data.toList=s.size)))∧w' = W:=by
  have c1:=wordSize_any s hs
  generalize wordSize s.data.toList=n at *
  by_cases h0:s.size=0
  · have he:=empty_iff s true (by simp [h0])
    rw [h0]
    go_enter Tryz.func49,Tryz.ntmps49
    go_wp2_with fail
    go_ret
    exact ⟨rfl,rfl⟩
  · have he:=empty_iff s false (by simp [h0])
    go_enter Tryz.func49,Tryz.ntmps49
    go_wp2_with ((with_reducible refine (c1 _).mono ?_);rintro e w' ⟨rfl,rfl⟩)
    go_ret
    refine ⟨ret_bool ?_,rfl⟩
    rw [Bool.eq_iff_iff]
    simp
    omega
def Errs (w:World):Prop:=5<w.heap.size∧6<w.heap.size∧∃ (t:TypeId) (p:Value) (t':TypeId) (p':Value),w.cell? ⟨5,0,none⟩=some (.iface t p)∧w.cell? ⟨6,0,none⟩=some (.iface t' p')
theorem Errs.below {W w:World} {B:Nat} (h:Errs W) (hb:Below B W w) (hB:W.heap.size≤B):Errs w:=by
  obtain ⟨h0,h0',t,p,t',p',h1,h2⟩:=h
  exact ⟨Nat.lt_of_lt_of_le h0 hb.size,Nat.lt_of_lt_of_le h0' hb.size,t,p,t',p',(hb.cell (p:=⟨5,0,none⟩) (Nat.lt_of_lt_of_le h0 hB)).trans h1,(hb.cell (p:=⟨6,0,none⟩) (Nat.lt_of_lt_of_le h0' hB)).trans h2⟩
def str (b:List UInt8):ByteArray:=⟨b.toArray⟩
theorem str_data (s:ByteArray):str s.data.toList=s:=by cases s;simp [str]
theorem str_of (s:ByteArray) (l:List UInt8) (h:s.data.toList=l):s=str l:=by rw [← h,str_data]
def tokV (k:Nat) (b:List UInt8) (line col:Nat):Value:=.agg #[.int .i64 k,.string (str b),.int .i64 line,.int .i64 col]
def cutV:Cut→Value
  | .ok k b s=>.tuple #[tokV k b 0 0,.int .i64 s,.int .i64 0]
  | .bad c=>.tuple #[tokV 0 [] 0 0,.int .i64 0,.int .i64 c]
theorem Clone_any (s:ByteArray) (hs:s.size≤281474976710656) (W:World) :
    Calls Tryz.prog 140 #[.string s] W fun e w' => e=.returned (.string s)∧Below W.heap.size W w':=by
  go_enter Tryz.func140,Tryz.ntmps140
  go_wp2_with ((with_reducible refine (Tryz.stringslite_Clone _ _ hs).mono ?_);rintro e w' ⟨rfl,hb⟩)
  go_ret
  exact ⟨rfl,hb⟩
def Four (c:Nat) (v0 v1 v2 v3:Value) (w:World):Prop :=
  c<w.heap.size∧w.cell? ⟨c,0,none⟩=some v0∧w.cell? ⟨c,1,none⟩=some v1∧w.cell? ⟨c,2,none⟩=some v2∧w.cell? ⟨c,3,none⟩=some v3 ∧
  w.frozen? ⟨c,0,none⟩=false∧w.frozen? ⟨c,1,none⟩=false∧w.frozen? ⟨c,2,none⟩=false∧w.frozen? ⟨c,3,none⟩=false
theorem Four.new (W:World) (v0 v1 v2 v3:Value) (t:TypeId):Four W.heap.size v0 v1 v2 v3 (W.alloc (.cells #[v0,v1,v2,v3] t)):=by
  refine ⟨by simp,?_,?_,?_,?_,World.frozen?_alloc_at _ _ _ _ rfl,World.frozen?_alloc_at _ _ _ _ rfl,World.frozen?_alloc_at _ _ _ _ rfl,World.frozen?_alloc_at _ _ _ _ rfl⟩ <;> (rw [World.cell?_alloc_at _ _ _ _ rfl];rfl)
theorem Four.below {c:Nat} {v0 v1 v2 v3:Value} {W w:World} {B:Nat} (h:Four c v0 v1 v2 v3 W) (hb:Below B W w) (hc:c<B):Four c v0 v1 v2 v3 w:=by
  obtain ⟨z,y0,y1,y2,y3,f0,f1,f2,f3⟩:=h
  exact ⟨Nat.lt_of_lt_of_le z hb.size,(hb.cell (p:=⟨c,0,none⟩) hc).trans y0,(hb.cell (p:=⟨c,1,none⟩) hc).trans y1,(hb.cell (p:=⟨c,2,none⟩) hc).trans y2,(hb.cell (p:=⟨c,3,none⟩) hc).trans y3,
    (hb.frozen (p:=⟨c,0,none⟩) hc).trans f0,(hb.frozen (p:=⟨c,1,none⟩) hc).trans f1,(hb.frozen (p:=⟨c,2,none⟩) hc).trans f2,(hb.frozen (p:=⟨c,3,none⟩) hc).trans f3⟩
theorem Four.kept {W w:World} {v0 v1 v2 v3:Value} {t:TypeId} (hb:Below (W.alloc (.cells #[v0,v1,v2,v3] t)).heap.size (W.alloc (.cells #[v0,v1,v2,v3] t)) w):Four W.heap.size v0 v1 v2 v3 w :=
  (Four.new W v0 v1 v2 v3 t).below hb (by simp)
theorem Past.on {B:Nat} {a b c:World} (h:Past B a b) (k:Below b.heap.size b c):Past B a c:=⟨h.1,h.2.trans (k.mono h.size)⟩
theorem token_any (k:Int) (s:ByteArray) (hs:s.size≤281474976710656) (W:World) :
    Calls Tryz.prog 106 #[.int .i64 k,.string s] W fun e w' => e=.returned (.agg #[.int .i64 k,.string s,.int .i64 0,.int .i64 0])∧Below W.heap.size W w':=by
  have c1:=Clone_any s hs
  have hP:=Past.refl (Nat.le_refl W.heap.size)
  go_enter Tryz.func106,Tryz.ntmps106
  go_wp2_with ((with_reducible refine (c1 _).mono ?_);rintro e w' ⟨rfl,hb⟩;obtain ⟨z,y0,y1,y2,y3,f0,f1,f2,f3⟩:=Four.kept hb)
  refine bodyPost_ret (v:=.agg #[.int .i64 k,.string s,.int .i64 0,.int .i64 0]) (by simp [results,Tryz.results106,go_sem,y0,y1,y2,y3]) rfl ⟨rfl,?_⟩
  exact ((((hP.alloc _).on hb).set (a:=⟨W.heap.size,0,none⟩) (Nat.le_refl _) _).set (a:=⟨W.heap.size,1,none⟩) (Nat.le_refl _) _ |>.set (a:=⟨W.heap.size,2,none⟩) (Nat.le_refl _) _ |>.set (a:=⟨W.heap.size,3,none⟩) (Nat.le_refl _) _).2
theorem number_pass (k:Nat) (l:List UInt8) (m x:Nat):number k l m x=match number k l m 0 with | .ok k b s=>.ok k b (x+s) | .bad c=>.bad c:=by
  unfold number
  split
  · rfl
  · split
    · split <;> simp
    · rfl
theorem parse_ok (d:ByteArray) (hd:d.size≤281474976710656) (u:Nat) (h:Lib.parseUintB 64 d.data.toList=.ok u) (w:World) :
    Calls Tryz.prog 141 #[.string d,.int .i64 10,.int .i64 64] w fun e w' => e=.returned (.tuple #[.int .u64 u,.nilIface])∧Below w.heap.size w w':=by
  refine (Tryz.strconv_ParseUint_10_at64_ok d (by omega) u h w).mono ?_
  rintro e w' ⟨rfl,hw⟩
  refine ⟨rfl,?_⟩
  rcases hw with rfl | rfl
  · exact Below.refl _ _
  · exact Lib.bytesWorld_below _ _ _
theorem parse_bad (d:ByteArray) (hd:d.size≤281474976710656) (h:∀ u,Lib.parseUintB 64 d.data.toList≠.ok u) (w:World) (hE:Errs w) :
    Calls Tryz.prog 141 #[.string d,.int .i64 10,.int .i64 64] w fun e w' => ∃ (x:Int) (t:TypeId) (p:Value),e=.returned (.tuple #[.int .u64 x,.iface t p])∧Below w.heap.size w w':=by
  obtain ⟨_,_,t,p,t',p',h1,h2⟩:=hE
  cases hp:Lib.parseUintB 64 d.data.toList
  · exact absurd hp (h _)
  · have c:Calls Tryz.prog 141 #[.string d,.int .i64 10,.int .i64 64] w fun e w' => ∃ N,e=.returned (.tuple #[.int .u64 0,.iface 198 (.pointer (some ⟨N,0,none⟩))])∧w.heap.size≤N∧w'.heap[N]? = some (.cells #[.string ⟨#[80,97,114,115,101,85,105,110,116]⟩,.string d,.iface t p] 209 (0,0))∧Below w.heap.size w w' :=
      Any.strconv_ParseUint_10_at64_syntax Tryz.laysPu14 d hd hp _ w h1 (Or.inr ⟨t,p,rfl⟩)
    refine c.mono ?_
    rintro e w' ⟨N,rfl,_,_,hb⟩
    exact ⟨_,_,_,rfl,hb⟩
  · have c:Calls Tryz.prog 141 #[.string d,.int .i64 10,.int .i64 64] w fun e w' => ∃ N,e=.returned (.tuple #[.int .u64 18446744073709551615,.iface 198 (.pointer (some ⟨N,0,none⟩))])∧w.heap.size≤N∧w'.heap[N]? = some (.cells #[.string ⟨#[80,97,114,115,101,85,105,110,116]⟩,.string d,.iface t' p'] 209 (0,0))∧Below w.heap.size w w' :=
      Any.strconv_ParseUint_10_at64_range Tryz.laysPu14 d hd hp _ w h2 (Or.inr ⟨t',p',rfl⟩)
    refine c.mono ?_
    rintro e w' ⟨N,rfl,_,_,hb⟩
    exact ⟨_,_,_,rfl,hb⟩
def numCut (k:Nat) (b:List UInt8) (most:Nat) (n:Nat):Cut:=match Lib.parseUintB 64 b with
  | .ok u=>if most<u then .bad 2 else .ok k b (0+n)
  | _=>.bad 2
set_option maxHeartbeats 2000000 in
theorem number_any (k:Nat) (s:ByteArray) (most:Nat) (hs:s.size≤281474976710656) (hm:most<18446744073709551616) (W:World) (hE:Errs W) :
    Calls Tryz.prog 109 #[.int .i64 k,.string s,.int .u64 most] W fun e w' => e=.returned (cutV (number k s.data.toList most 0))∧Below W.heap.size W w':=by
  have c1:=sizeOf_any s 108 isDigit sort_digit (by omega)
  have hn:=runOf_le isDigit s.data.toList
  rw [← Lib.size_eq] at hn
  have hd:(s.extract 0 (runOf isDigit s.data.toList)).data.toList=s.data.toList.takeWhile isDigit:=by rw [Lib.extract_data];simp [take_runOf]
  have hnum:number k s.data.toList most 0=if 1<runOf isDigit s.data.toList∧(s.data.toList.head?.map UInt8.toNat)=some 48 then .bad 2 else numCut k (s.data.toList.takeWhile isDigit) most (runOf isDigit s.data.toList):=rfl
  rw [hnum,← hd]
  have hz:(s.extract 0 (runOf isDigit s.data.toList)).size=runOf isDigit s.data.toList:=by rw [Lib.size_eq,hd];rfl
  have h0:∀ (h:0<(s.extract 0 (runOf isDigit s.data.toList)).size),(s.data.toList.head?.map UInt8.toNat)=some (s.extract 0 (runOf isDigit s.data.toList))[0].toNat:=by
    intro h
    have h2:=cons_of (s.extract 0 (runOf isDigit s.data.toList)) 0 h
    rw [List.drop_zero,hd] at h2
    have h3:∀ l x y,List.takeWhile isDigit l=x::y→l.head? = some x:=by
      intro l x y h2
      cases l with
      | nil=>simp at h2
      | cons c r =>
        rw [List.takeWhile_cons] at h2
        split at h2
        · injection h2 with h4;rw [List.head?_cons,h4]
        · cases h2
    rw [h3 _ _ _ h2];rfl
  have hP:=Past.refl (Nat.le_refl W.heap.size)
  have hE1:∀ v t,Errs (W.alloc (.cells v t)):=fun v t=>hE.below (((Past.refl (Nat.le_refl _)).alloc _).2) (Nat.le_refl _)
  clear hd hnum
  generalize hdd:s.extract 0 (runOf isDigit s.data.toList)=d at *
  generalize runOf isDigit s.data.toList=n at *
  generalize s.data.toList.head?.map UInt8.toNat=hh at *
  rcases Nat.lt_or_ge 1 n with h1 | h1
  · have hx : 0<d.size:=by omega
    have h2:=h0 hx
    subst h2
    have h1':(1:Int)<(n:Int):=by omega
    by_cases h48:d[0].toNat=48
    · have h48':((d[0].toNat:Int)==48)=true:=by rw [h48];rfl
      rw [if_pos ⟨h1,by rw [h48]⟩]
      go_enter Tryz.func109,Tryz.ntmps109
      go_wp2_with ((with_reducible refine (c1 _).mono ?_);rintro e w' ⟨rfl,rfl⟩)
      refine bodyPost_ret (v:=cutV (.bad 2)) (by simp [results,Tryz.results109,go_sem,cutV,tokV,str]) rfl ⟨rfl,(hP.alloc _).2⟩
    · have h48':((d[0].toNat:Int)==48)=false:=by simp;omega
      rw [if_neg (fun h=>h48 (by injection h.2))]
      clear h48 h0 h1
      cases hp:Lib.parseUintB 64 d.data.toList with
      | ok u =>
        have hb64:u<18446744073709551616:=by rw [Lib.parseUintB_64] at hp;exact Lib.parseMag_lt hp
        by_cases hu:most<u
        · have hcut:numCut k d.data.toList most n=.bad 2:=by simp [numCut,hp,hu]
          rw [hcut]
          go_enter Tryz.func109,Tryz.ntmps109
          go_wp2_with (first
            | ((with_reducible refine (c1 _).mono ?_);rintro e w' ⟨rfl,rfl⟩)
            | ((with_reducible refine (parse_ok d (by omega) u hp _).mono ?_);rintro e w1 ⟨rfl,hb1⟩;obtain ⟨z,y0,y1,y2,y3,f0,f1,f2,f3⟩:=Four.kept hb1))
          refine bodyPost_ret (v:=cutV (.bad 2)) (by simp [results,Tryz.results109,go_sem,cutV,tokV,str,y0,y1,y2,y3]) rfl ⟨rfl,?_⟩
          exact (((((hP.alloc _).on hb1).set (a:=⟨W.heap.size,0,none⟩) (Nat.le_refl _) _).set (a:=⟨W.heap.size,1,none⟩) (Nat.le_refl _) _).set (a:=⟨W.heap.size,2,none⟩) (Nat.le_refl _) _).set (a:=⟨W.heap.size,3,none⟩) (Nat.le_refl _) _ |>.2
        · have hcut:numCut k d.data.toList most n=.ok k d.data.toList (0+n):=by simp [numCut,hp,hu]
          rw [hcut]
          go_enter Tryz.func109,Tryz.ntmps109
          go_wp2_with (first
            | ((with_reducible refine (c1 _).mono ?_);rintro e w' ⟨rfl,rfl⟩)
            | ((with_reducible refine (parse_ok d (by omega) u hp _).mono ?_);rintro e w1 ⟨rfl,hb1⟩;have q1:=Four.kept hb1;obtain ⟨z,y0,y1,y2,y3,f0,f1,f2,f3⟩:=id q1)
            | ((with_reducible refine (token_any k d (by omega) _).mono ?_);rintro e w2 ⟨rfl,hb2⟩;have q2:=q1.below hb2 q1.1;clear y0 y1 y2 y3 f0 f1 f2 f3;obtain ⟨z,y0,y1,y2,y3,f0,f1,f2,f3⟩:=id q2))
          refine bodyPost_ret (v:=cutV (.ok k d.data.toList (0+n))) (by simp [results,Tryz.results109,go_sem,cutV,tokV,str_data,y0,y1,y2,y3]) rfl ⟨rfl,?_⟩
          exact ((((((hP.alloc _).on hb1).on hb2).set (a:=⟨W.heap.size,0,none⟩) (Nat.le_refl _) _).set (a:=⟨W.heap.size,1,none⟩) (Nat.le_refl _) _).set (a:=⟨W.heap.size,2,none⟩) (Nat.le_refl _) _).set (a:=⟨W.heap.size,3,none⟩) (Nat.le_refl _) _ |>.2
      | _ =>
        have hcut:numCut k d.data.toList most n=.bad 2:=by simp [numCut,hp]
        rw [hcut]
        have hno:∀ u,Lib.parseUintB 64 d.data.toList≠.ok u:=fun u h=>by rw [hp] at h;cases h
        go_enter Tryz.func109,Tryz.ntmps109
        go_wp2_with (first
          | ((with_reducible refine (c1 _).mono ?_);rintro e w' ⟨rfl,rfl⟩)
          | ((with_reducible refine (parse_bad d (by omega) hno _ (hE1 _ _)).mono ?_);rintro e w1 ⟨x,tt,pp,rfl,hb1⟩;obtain ⟨z,y0,y1,y2,y3,f0,f1,f2,f3⟩:=Four.kept hb1))
        refine bodyPost_ret (v:=cutV (.bad 2)) (by simp [results,Tryz.results109,go_sem,cutV,tokV,str,y0,y1,y2,y3]) rfl ⟨rfl,?_⟩
        exact (((((hP.alloc _).on hb1).set (a:=⟨W.heap.size,0,none⟩) (Nat.le_refl _) _).set (a:=⟨W.heap.size,1,none⟩) (Nat.le_refl _) _).set (a:=⟨W.heap.size,2,none⟩) (Nat.le_refl _) _).set (a:=⟨W.heap.size,3,none⟩) (Nat.le_refl _) _ |>.2
  · have hc:¬ (1<n∧hh=some 48):=fun h=>by omega
    have h1':¬ ((1:Int)<(n:Int)):=by omega
    rw [if_neg hc]
    clear h0 hc
    cases hp:Lib.parseUintB 64 d.data.toList with
    | ok u =>
      have hb64:u<18446744073709551616:=by rw [Lib.parseUintB_64] at hp;exact Lib.parseMag_lt hp
      by_cases hu:most<u
      · have hcut:numCut k d.data.toList most n=.bad 2:=by simp [numCut,hp,hu]
        rw [hcut]
        go_enter Tryz.func109,Tryz.ntmps109
        go_wp2_with (first
          | ((with_reducible refine (c1 _).mono ?_);rintro e w' ⟨rfl,rfl⟩)
          | ((with_reducible refine (parse_ok d (by omega) u hp _).mono ?_);rintro e w1 ⟨rfl,hb1⟩;obtain ⟨z,y0,y1,y2,y3,f0,f1,f2,f3⟩:=Four.kept hb1))
        refine bodyPost_ret (v:=cutV (.bad 2)) (by simp [results,Tryz.results109,go_sem,cutV,tokV,str,y0,y1,y2,y3]) rfl ⟨rfl,?_⟩
        exact (((((hP.alloc _).on hb1).set (a:=⟨W.heap.size,0,none⟩) (Nat.le_refl _) _).set (a:=⟨W.heap.size,1,none⟩) (Nat.le_refl _) _).set (a:=⟨W.heap.size,2,none⟩) (Nat.le_refl _) _).set (a:=⟨W.heap.size,3,none⟩) (Nat.le_refl _) _ |>.2
      · have hcut:numCut k d.data.toList most n=.ok k d.data.toList (0+n):=by simp [numCut,hp,hu]
        rw [hcut]
        go_enter Tryz.func109,Tryz.ntmps109
        go_wp2_with (first
          | ((with_reducible refine (c1 _).mono ?_);rintro e w' ⟨rfl,rfl⟩)
          | ((with_reducible refine (parse_ok d (by omega) u hp _).mono ?_);rintro e w1 ⟨rfl,hb1⟩;have q1:=Four.kept hb1;obtain ⟨z,y0,y1,y2,y3,f0,f1,f2,f3⟩:=id q1)
          | ((with_reducible refine (token_any k d (by omega) _).mono ?_);rintro e w2 ⟨rfl,hb2⟩;have q2:=q1.below hb2 q1.1;clear y0 y1 y2 y3 f0 f1 f2 f3;obtain ⟨z,y0,y1,y2,y3,f0,f1,f2,f3⟩:=id q2))
        refine bodyPost_ret (v:=cutV (.ok k d.data.toList (0+n))) (by simp [results,Tryz.results109,go_sem,cutV,tokV,str_data,y0,y1,y2,y3]) rfl ⟨rfl,?_⟩
        exact ((((((hP.alloc _).on hb1).on hb2).set (a:=⟨W.heap.size,0,none⟩) (Nat.le_refl _) _).set (a:=⟨W.heap.size,1,none⟩) (Nat.le_refl _) _).set (a:=⟨W.heap.size,2,none⟩) (Nat.le_refl _) _).set (a:=⟨W.heap.size,3,none⟩) (Nat.le_refl _) _ |>.2
    | _ =>
      have hcut:numCut k d.data.toList most n=.bad 2:=by simp [numCut,hp]
      rw [hcut]
      have hno:∀ u,Lib.parseUintB 64 d.data.toList≠.ok u:=fun u h=>by rw [hp] at h;cases h
      go_enter Tryz.func109,Tryz.ntmps109
      go_wp2_with (first
        | ((with_reducible refine (c1 _).mono ?_);rintro e w' ⟨rfl,rfl⟩)
        | ((with_reducible refine (parse_bad d (by omega) hno _ (hE1 _ _)).mono ?_);rintro e w1 ⟨x,tt,pp,rfl,hb1⟩;obtain ⟨z,y0,y1,y2,y3,f0,f1,f2,f3⟩:=Four.kept hb1))
      refine bodyPost_ret (v:=cutV (.bad 2)) (by simp [results,Tryz.results109,go_sem,cutV,tokV,str,y0,y1,y2,y3]) rfl ⟨rfl,?_⟩
      exact (((((hP.alloc _).on hb1).set (a:=⟨W.heap.size,0,none⟩) (Nat.le_refl _) _).set (a:=⟨W.heap.size,1,none⟩) (Nat.le_refl _) _).set (a:=⟨W.heap.size,2,none⟩) (Nat.le_refl _) _).set (a:=⟨W.heap.size,3,none⟩) (Nat.le_refl _) _ |>.2
theorem upto_data (s:ByteArray) (a:Nat):(s.extract 0 a).data.toList=s.data.toList.take a:=by rw [Lib.extract_data];simp
theorem upto_size (s:ByteArray) (a:Nat) (h:a≤s.size):(s.extract 0 a).size=a:=by
  rw [Lib.size_eq,upto_data,List.length_take,← Lib.size_eq,Nat.min_eq_left h]
theorem mid_data (s:ByteArray) (a b:Nat):(s.extract a b).data.toList=(s.data.toList.drop a).take (b - a):=by
  rw [Lib.extract_data]
theorem mid_size (s:ByteArray) (a b:Nat) (h:b≤s.size):(s.extract a b).size=b - a:=by
  rw [Lib.size_eq,mid_data,List.length_take,List.length_drop,← Lib.size_eq,Nat.min_eq_left (by omega)]
theorem Past.set4 {B:Nat} {W w:World} {c:Nat} (h:Past B W w) (hc:B≤c) (v0 v1 v2 v3:Value):Past B W ((((w.setCell ⟨c,0,none⟩ v0).setCell ⟨c,1,none⟩ v1).setCell ⟨c,2,none⟩ v2).setCell ⟨c,3,none⟩ v3) :=
  (((h.set (a:=⟨c,0,none⟩) hc _).set (a:=⟨c,1,none⟩) hc _).set (a:=⟨c,2,none⟩) hc _).set (a:=⟨c,3,none⟩) hc _
def cutW (x:Nat):Cut→Value
  | .ok k b s=>.tuple #[tokV k b 0 0,.int .i64 s,.int .i64 0]
  | .bad c=>.tuple #[tokV 0 [] 0 0,.int .i64 x,.int .i64 c]
theorem Four.set4 {c:Nat} {v0 v1 v2 v3:Value} {w:World} (h:Four c v0 v1 v2 v3 w) (u0 u1 u2 u3:Value):Four c u0 u1 u2 u3 ((((w.setCell ⟨c,0,none⟩ u0).setCell ⟨c,1,none⟩ u1).setCell ⟨c,2,none⟩ u2).setCell ⟨c,3,none⟩ u3):=by
  obtain ⟨z,y0,y1,y2,y3,f0,f1,f2,f3⟩:=h
  refine ⟨by simpa [World.setCell] using z,?_,?_,?_,?_,?_,?_,?_,?_⟩ <;> simp [World.frozen?_setCell,go_sem,y0,y1,y2,y3,f0,f1,f2,f3]
theorem Four.alloc {c:Nat} {v0 v1 v2 v3:Value} {w:World} (h:Four c v0 v1 v2 v3 w) (o:Obj):Four c v0 v1 v2 v3 (w.alloc o) :=
  h.below ((Below.refl w.heap.size w).alloc (Nat.le_refl _) o) h.1
theorem number2 (s:ByteArray) (hs:s.size≤281474976710656) (W:World) (hE:Errs W) :
    Calls Tryz.prog 109 #[.int .i64 2,.string s,.int .u64 18446744073709551615] W fun e w' => e=.returned (cutV (number 2 s.data.toList 18446744073709551615 0))∧Below W.heap.size W w' :=
  number_any 2 s 18446744073709551615 hs (by omega) W hE
theorem number3 (s:ByteArray) (hs:s.size≤281474976710656) (W:World) (hE:Errs W) :
    Calls Tryz.prog 109 #[.int .i64 3,.string s,.int .u64 4095] W fun e w' => e=.returned (cutV (number 3 s.data.toList 4095 0))∧Below W.heap.size W w' :=
  number_any 3 s 4095 hs (by omega) W hE
set_option maxRecDepth 100000 in
set_option maxHeartbeats 4000000 in
theorem first_any (s:ByteArray) (h0:0<s.size) (hs:s.size≤281474976710656) (W:World) (hE:Errs W) :
    Calls Tryz.prog 70 #[.string s] W fun e w' => (∃ x:Nat,e=.returned (cutW x (first s.data.toList)))∧Below W.heap.size W w':=by
  have hl:=cons_of s 0 h0
  rw [List.drop_zero] at hl
  have cm:=isMark_any s[0]
  have cl:=isLetter_any s[0]
  have cd:=isDigit_any s[0]
  have hP:=Past.refl (Nat.le_refl W.heap.size)
  have hE1:∀ v t,Errs (W.alloc (.cells v t)):=fun v t=>hE.below (((Past.refl (Nat.le_refl _)).alloc _).2) (Nat.le_refl _)
  have hf:∀ l (h:l=s[0]::s.data.toList.drop 1),first l=if s[0].toNat=10 then .ok 6 [] 1
    else if isMark s[0] then .ok 5 [s[0]] 1
    else if isLetter s[0] then .ok 1 (l.take (wordSize l)) (wordSize l)
    else if isDigit s[0] then number 2 l 18446744073709551615 0
    else if s[0].toNat=37 then number 3 (l.drop 1) 4095 1
    else if s[0].toNat=64∧0<wordSize (l.drop 1) then .ok 4 ((l.drop 1).take (wordSize (l.drop 1))) (1+wordSize (l.drop 1))
    else .bad 1:=fun l h=>by subst h;rfl
  rw [hf _ hl]
  clear hf
  by_cases h10:s[0].toNat=10
  · have k10:((s[0].toNat:Int)==10)=true:=by rw [h10];rfl
    rw [if_pos h10]
    have eV:∀ x:Nat,cutW x (.ok 6 [] 1)=.tuple #[.agg #[.int .i64 6,.string ⟨#[]⟩,.int .i64 0,.int .i64 0],.int .i64 1,.int .i64 0]:=fun _=>rfl
    simp only [eV]
    go_enter Tryz.func70,Tryz.ntmps70
    go_wp2_with fail
    refine bodyPost_ret (v:=.tuple #[.agg #[.int .i64 6,.string ⟨#[]⟩,.int .i64 0,.int .i64 0],.int .i64 1,.int .i64 0]) (by simp [results,Tryz.results70,go_sem]) rfl ⟨⟨0,rfl⟩,(hP.alloc _).2⟩
  · have k10 : ((s[0].toNat:Int)==10)=false:=by simp;omega
    rw [if_neg h10]
    clear h10
    cases hm:isMark s[0] with
    | true =>
      rw [hm] at cm
      rw [if_pos rfl]
      have c1:=token_any 5 (s.extract 0 1) (by rw [upto_size s 1 h0];omega)
      have h1:(1:Int)≤(s.size:Int):=by omega
      have e1:str [s[0]]=s.extract 0 1:=(str_of _ _ (by rw [upto_data,hl];rfl)).symm
      have eV:∀ x:Nat,cutW x (.ok 5 [s[0]] 1)=.tuple #[.agg #[.int .i64 5,.string (s.extract 0 1),.int .i64 0,.int .i64 0],.int .i64 1,.int .i64 0]:=fun _=>by rw [cutW,tokV,e1];rfl
      simp only [eV]
      go_enter Tryz.func70,Tryz.ntmps70
      go_wp2_with (first
        | ((with_reducible refine (cm _).mono ?_);rintro e w' ⟨rfl,rfl⟩)
        | ((with_reducible refine (c1 _).mono ?_);rintro e w1 ⟨rfl,hb1⟩;obtain ⟨z,y0,y1,y2,y3,f0,f1,f2,f3⟩:=Four.kept hb1))
      refine bodyPost_ret (v:=.tuple #[.agg #[.int .i64 5,.string (s.extract 0 1),.int .i64 0,.int .i64 0],.int .i64 1,.int .i64 0]) (by simp [results,Tryz.results70,go_sem,y0,y1,y2,y3]) rfl ⟨⟨0,rfl⟩,(((hP.alloc _).on hb1).set4 (Nat.le_refl _) _ _ _ _).2⟩
    | false =>
      rw [hm] at cm
      rw [if_neg (by simp)]
      cases hlt:isLetter s[0] with
      | true =>
        rw [hlt] at cl
        rw [if_pos rfl]
        have cw:=wordSize_any s (by omega)
        have hw:=wordSize_le s.data.toList
        rw [← Lib.size_eq] at hw
        have hd2:=upto_data s (wordSize s.data.toList)
        rw [← hd2]
        generalize wordSize s.data.toList=n at *
        have c1:=token_any 1 (s.extract 0 n) (by rw [upto_size s n hw];omega)
        have h1:(n:Int)≤(s.size:Int):=by omega
        have eV:∀ x:Nat,cutW x (.ok 1 (s.extract 0 n).data.toList n)=.tuple #[.agg #[.int .i64 1,.string (s.extract 0 n),.int .i64 0,.int .i64 0],.int .i64 n,.int .i64 0]:=fun _=>by rw [cutW,tokV,str_data];rfl
        simp only [eV]
        go_enter Tryz.func70,Tryz.ntmps70
        go_wp2_with (first
          | ((with_reducible refine (cm _).mono ?_);rintro e w' ⟨rfl,rfl⟩)
          | ((with_reducible refine (cl _).mono ?_);rintro e w' ⟨rfl,rfl⟩)
          | ((with_reducible refine (cw _).mono ?_);rintro e w' ⟨rfl,rfl⟩)
          | ((with_reducible refine (c1 _).mono ?_);rintro e w1 ⟨rfl,hb1⟩;obtain ⟨z,y0,y1,y2,y3,f0,f1,f2,f3⟩:=Four.kept hb1))
        refine bodyPost_ret (v:=.tuple #[.agg #[.int .i64 1,.string (s.extract 0 n),.int .i64 0,.int .i64 0],.int .i64 n,.int .i64 0]) (by simp [results,Tryz.results70,go_sem,y0,y1,y2,y3]) rfl ⟨⟨0,rfl⟩,(((hP.alloc _).on hb1).set4 (Nat.le_refl _) _ _ _ _).2⟩
      | false =>
        rw [hlt] at cl
        rw [if_neg (by simp)]
        cases hdg:isDigit s[0] with
        | true =>
          rw [hdg] at cd
          rw [if_pos rfl]
          have cn:=number2 s hs _ (hE1 #[.int .i64 0,.string ⟨#[]⟩,.int .i64 0,.int .i64 0] 81)
          cases hq:number 2 s.data.toList 18446744073709551615 0 with
          | ok k b z =>
            rw [hq] at cn
            have eN:cutV (.ok k b z)=.tuple #[.agg #[.int .i64 k,.string (str b),.int .i64 0,.int .i64 0],.int .i64 z,.int .i64 0]:=rfl
            have eV:∀ x:Nat,cutW x (.ok k b z)=.tuple #[.agg #[.int .i64 k,.string (str b),.int .i64 0,.int .i64 0],.int .i64 z,.int .i64 0]:=fun _=>rfl
            rw [eN] at cn
            simp only [eV]
            go_enter Tryz.func70,Tryz.ntmps70
            go_wp2_with (first
              | ((with_reducible refine (cm _).mono ?_);rintro e w' ⟨rfl,rfl⟩)
              | ((with_reducible refine (cl _).mono ?_);rintro e w' ⟨rfl,rfl⟩)
              | ((with_reducible refine (cd _).mono ?_);rintro e w' ⟨rfl,rfl⟩)
              | ((with_reducible refine cn.mono ?_);rintro e w1 ⟨rfl,hb1⟩;obtain ⟨zz,y0,y1,y2,y3,f0,f1,f2,f3⟩:=Four.kept hb1))
            refine bodyPost_ret (v:=.tuple #[.agg #[.int .i64 k,.string (str b),.int .i64 0,.int .i64 0],.int .i64 z,.int .i64 0]) (by simp [results,Tryz.results70,go_sem,y0,y1,y2,y3]) rfl ⟨⟨0,rfl⟩,(((hP.alloc _).on hb1).set4 (Nat.le_refl _) _ _ _ _).2⟩
          | bad c =>
            rw [hq] at cn
            have eN:cutV (.bad c)=.tuple #[.agg #[.int .i64 0,.string ⟨#[]⟩,.int .i64 0,.int .i64 0],.int .i64 0,.int .i64 c]:=rfl
            have eV:∀ x:Nat,cutW x (.bad c)=.tuple #[.agg #[.int .i64 0,.string ⟨#[]⟩,.int .i64 0,.int .i64 0],.int .i64 (x:Nat),.int .i64 c]:=fun _=>rfl
            rw [eN] at cn
            simp only [eV]
            go_enter Tryz.func70,Tryz.ntmps70
            go_wp2_with (first
              | ((with_reducible refine (cm _).mono ?_);rintro e w' ⟨rfl,rfl⟩)
              | ((with_reducible refine (cl _).mono ?_);rintro e w' ⟨rfl,rfl⟩)
              | ((with_reducible refine (cd _).mono ?_);rintro e w' ⟨rfl,rfl⟩)
              | ((with_reducible refine cn.mono ?_);rintro e w1 ⟨rfl,hb1⟩;obtain ⟨zz,y0,y1,y2,y3,f0,f1,f2,f3⟩:=Four.kept hb1))
            refine bodyPost_ret (v:=.tuple #[.agg #[.int .i64 0,.string (⟨#[]⟩),.int .i64 0,.int .i64 0],.int .i64 0,.int .i64 c]) (by simp [results,Tryz.results70,go_sem,y0,y1,y2,y3]) rfl ⟨⟨0,rfl⟩,(((hP.alloc _).on hb1).set4 (Nat.le_refl _) _ _ _ _).2⟩
        | false =>
          rw [hdg] at cd
          rw [if_neg (by simp)]
          by_cases h37:s[0].toNat=37
          · have k37:((s[0].toNat:Int)==37)=true:=by rw [h37];rfl
            rw [if_pos h37]
            clear h37
            have hd2:=from_data s 1
            rw [← hd2,number_pass]
            have cn:=number3 (s.extract 1 s.size) (by rw [from_size];omega) _ (hE1 #[.int .i64 0,.string ⟨#[]⟩,.int .i64 0,.int .i64 0] 81)
            cases hq:number 3 (s.extract 1 s.size).data.toList 4095 0 with
            | ok k b z =>
              have hz:=(number_size hq).2.2.1
              have hr:=runOf_le isDigit (s.extract 1 s.size).data.toList
              rw [← Lib.size_eq,from_size] at hr
              have hzb:z≤281474976710656:=by omega
              clear hr hz
              rw [hq] at cn
              have eN:cutV (.ok k b z)=.tuple #[.agg #[.int .i64 k,.string (str b),.int .i64 0,.int .i64 0],.int .i64 z,.int .i64 0]:=rfl
              have eV:∀ x:Nat,cutW x (.ok k b z)=.tuple #[.agg #[.int .i64 k,.string (str b),.int .i64 0,.int .i64 0],.int .i64 z,.int .i64 0]:=fun _=>rfl
              have eV2:∀ x:Nat,cutW x (.ok k b (1+z))=.tuple #[.agg #[.int .i64 k,.string (str b),.int .i64 0,.int .i64 0],.int .i64 (1+(z:Int)),.int .i64 0]:=fun _=>by simp [cutW,tokV]
              rw [eN] at cn
              dsimp only
              simp only [eV2]
              go_enter Tryz.func70,Tryz.ntmps70
              go_wp2_with (first
                | ((with_reducible refine (cm _).mono ?_);rintro e w' ⟨rfl,rfl⟩)
                | ((with_reducible refine (cl _).mono ?_);rintro e w' ⟨rfl,rfl⟩)
                | ((with_reducible refine (cd _).mono ?_);rintro e w' ⟨rfl,rfl⟩)
                | ((with_reducible refine cn.mono ?_);rintro e w1 ⟨rfl,hb1⟩;obtain ⟨zz,y0,y1,y2,y3,f0,f1,f2,f3⟩:=Four.kept hb1))
              obtain ⟨_,r0,r1,r2,r3,_⟩:=((Four.kept hb1).set4 (.int .i64 k) (.string (str b)) (.int .i64 0) (.int .i64 0)).alloc (.cells #[.int .i64 k,.string (str b),.int .i64 0,.int .i64 0] 81)
              refine bodyPost_ret (v:=.tuple #[.agg #[.int .i64 k,.string (str b),.int .i64 0,.int .i64 0],.int .i64 (1+(z:Int)),.int .i64 0]) (by simp [results,Tryz.results70,go_sem,r0,r1,r2,r3]) rfl ⟨⟨0,rfl⟩,((((hP.alloc _).on hb1).set4 (Nat.le_refl _) _ _ _ _).alloc _).2⟩
            | bad c =>
              rw [hq] at cn
              have eN:cutV (.bad c)=.tuple #[.agg #[.int .i64 0,.string ⟨#[]⟩,.int .i64 0,.int .i64 0],.int .i64 0,.int .i64 c]:=rfl
              have eV:∀ x:Nat,cutW x (.bad c)=.tuple #[.agg #[.int .i64 0,.string ⟨#[]⟩,.int .i64 0,.int .i64 0],.int .i64 (x:Nat),.int .i64 c]:=fun _=>rfl
              rw [eN] at cn
              show Calls Tryz.prog 70 #[.string s] W fun e w' => (∃ x:Nat,e=.returned (cutW x (.bad c)))∧Below W.heap.size W w'
              simp only [eV]
              go_enter Tryz.func70,Tryz.ntmps70
              go_wp2_with (first
                | ((with_reducible refine (cm _).mono ?_);rintro e w' ⟨rfl,rfl⟩)
                | ((with_reducible refine (cl _).mono ?_);rintro e w' ⟨rfl,rfl⟩)
                | ((with_reducible refine (cd _).mono ?_);rintro e w' ⟨rfl,rfl⟩)
                | ((with_reducible refine cn.mono ?_);rintro e w1 ⟨rfl,hb1⟩;obtain ⟨zz,y0,y1,y2,y3,f0,f1,f2,f3⟩:=Four.kept hb1))
              obtain ⟨_,r0,r1,r2,r3,_⟩:=((Four.kept hb1).set4 (.int .i64 0) (.string ⟨#[]⟩) (.int .i64 0) (.int .i64 0)).alloc (.cells #[.int .i64 0,.string ⟨#[]⟩,.int .i64 0,.int .i64 0] 81)
              refine bodyPost_ret (v:=.tuple #[.agg #[.int .i64 0,.string ⟨#[]⟩,.int .i64 0,.int .i64 0],.int .i64 1,.int .i64 c]) (by simp [results,Tryz.results70,go_sem,r0,r1,r2,r3]) rfl ⟨⟨1,rfl⟩,((((hP.alloc _).on hb1).set4 (Nat.le_refl _) _ _ _ _).alloc _).2⟩
          · have k37:((s[0].toNat:Int)==37)=false:=by simp;omega
            rw [if_neg h37]
            clear h37
            by_cases h64:s[0].toNat=64
            · have k64:((s[0].toNat:Int)==64)=true:=by rw [h64];rfl
              have hd2:=from_data s 1
              rw [← hd2]
              have cw:=wordSize_any (s.extract 1 s.size) (by rw [from_size];omega)
              have hw:=wordSize_le (s.extract 1 s.size).data.toList
              rw [← Lib.size_eq,from_size] at hw
              have hmd:=mid_data s 1 (1+wordSize (s.extract 1 s.size).data.toList)
              rw [Nat.add_sub_cancel_left,← hd2] at hmd
              have h1s:(1:Int)≤(s.size:Int):=by omega
              by_cases hwp:0<wordSize (s.extract 1 s.size).data.toList
              · rw [if_pos ⟨h64,hwp⟩,← hmd]
                clear h64 hmd
                generalize wordSize (s.extract 1 s.size).data.toList=n at *
                have hwp':(0:Int)<(n:Int):=by omega
                have hns:1+(n:Int)≤(s.size:Int):=by omega
                have c1:=token_any 4 (s.extract 1 (1+n)) (by rw [mid_size s 1 (1+n) (by omega)];omega)
                have eV:∀ x:Nat,cutW x (.ok 4 (s.extract 1 (1+n)).data.toList (1+n))=.tuple #[.agg #[.int .i64 4,.string (s.extract 1 (1+n)),.int .i64 0,.int .i64 0],.int .i64 (1+(n:Int)),.int .i64 0]:=fun _=>by rw [cutW,tokV,str_data,Int.natCast_add];rfl
                simp only [eV]
                go_enter Tryz.func70,Tryz.ntmps70
                go_wp2_with (first
                  | ((with_reducible refine (cm _).mono ?_);rintro e w' ⟨rfl,rfl⟩)
                  | ((with_reducible refine (cl _).mono ?_);rintro e w' ⟨rfl,rfl⟩)
                  | ((with_reducible refine (cd _).mono ?_);rintro e w' ⟨rfl,rfl⟩)
                  | ((with_reducible refine (cw _).mono ?_);rintro e w' ⟨rfl,rfl⟩)
                  | ((with_reducible refine (c1 _).mono ?_);rintro e w1 ⟨rfl,hb1⟩;obtain ⟨z,y0,y1,y2,y3,f0,f1,f2,f3⟩:=Four.kept hb1))
                refine bodyPost_ret (v:=.tuple #[.agg #[.int .i64 4,.string (s.extract 1 (1+n)),.int .i64 0,.int .i64 0],.int .i64 (1+(n:Int)),.int .i64 0]) (by simp [results,Tryz.results70,go_sem,y0,y1,y2,y3]) rfl ⟨⟨0,rfl⟩,(((hP.alloc _).on hb1).set4 (Nat.le_refl _) _ _ _ _).2⟩
              · rw [if_neg (fun h=>hwp h.2)]
                have h0w:wordSize (s.extract 1 s.size).data.toList=0:=by omega
                have cw:∀ W:World,Calls Tryz.prog 90 #[.string (s.extract 1 s.size)] W fun e w' => e=.returned (.int .i64 0)∧w' = W:=fun W=>by have h:=cw W;rw [h0w] at h;exact h
                clear hmd hw h64
                have eV:∀ x:Nat,cutW x (.bad 1)=.tuple #[.agg #[.int .i64 0,.string ⟨#[]⟩,.int .i64 0,.int .i64 0],.int .i64 (x:Nat),.int .i64 1]:=fun _=>rfl
                simp only [eV]
                go_enter Tryz.func70,Tryz.ntmps70
                go_wp2_with (first
                  | ((with_reducible refine (cm _).mono ?_);rintro e w' ⟨rfl,rfl⟩)
                  | ((with_reducible refine (cl _).mono ?_);rintro e w' ⟨rfl,rfl⟩)
                  | ((with_reducible refine (cd _).mono ?_);rintro e w' ⟨rfl,rfl⟩)
                  | ((with_reducible refine (cw _).mono ?_);rintro e w' ⟨rfl,rfl⟩))
                refine bodyPost_ret (v:=.tuple #[.agg #[.int .i64 0,.string ⟨#[]⟩,.int .i64 0,.int .i64 0],.int .i64 0,.int .i64 1]) (by simp [results,Tryz.results70,go_sem]) rfl ⟨⟨0,rfl⟩,(hP.alloc _).2⟩
            · have k64:((s[0].toNat:Int)==64)=false:=by simp;omega
              rw [if_neg (fun h=>h64 h.1)]
              have eV:∀ x:Nat,cutW x (.bad 1)=.tuple #[.agg #[.int .i64 0,.string ⟨#[]⟩,.int .i64 0,.int .i64 0],.int .i64 (x:Nat),.int .i64 1]:=fun _=>rfl
              simp only [eV]
              go_enter Tryz.func70,Tryz.ntmps70
              go_wp2_with (first
                | ((with_reducible refine (cm _).mono ?_);rintro e w' ⟨rfl,rfl⟩)
                | ((with_reducible refine (cl _).mono ?_);rintro e w' ⟨rfl,rfl⟩)
                | ((with_reducible refine (cd _).mono ?_);rintro e w' ⟨rfl,rfl⟩))
              refine bodyPost_ret (v:=.tuple #[.agg #[.int .i64 0,.string ⟨#[]⟩,.int .i64 0,.int .i64 0],.int .i64 0,.int .i64 1]) (by simp [results,Tryz.results70,go_sem]) rfl ⟨⟨0,rfl⟩,(hP.alloc _).2⟩
theorem wp_scope_again {P:Program} {a:Act} {w:World} {Q:Exit→Act→World→Prop} {c r:Code} (l:Nat) (J:Act→World→Prop) (μ:Act→World→Nat) (hf:findLabel c l=some (.seq .skip r))
    (pass:∀ a w,J a w→r.wp P (Exit.jump l (fun a' w' => J a' w'∧μ a' w'<μ a w) Q) a w)
    (first:(∀ a w,J a w→r.wp P (Exit.jump l J Q) a w)→c.wp P (Exit.jump l J Q) a w):(Code.scope c).wp P Q a w:=by
  refine wp_scope_jumps l J μ hf (first fun a w h=>Code.wp_mono ?_ (pass a w h)) (fun a w h=>wp_seq (wp_skip (pass a w h)))
  intro e a' w' h
  cases e <;> first | exact h | exact ⟨h.1,h.2.1⟩
def tokC (t:Tok):List Value:=[.int .i64 t.kind,.string (str t.body),.int .i64 t.line,.int .i64 t.col]
def fltV:Option Flt→Value
  | none=>.agg #[.int .i64 0,.int .i64 0,.int .i64 0]
  | some f=>.agg #[.int .i64 f.code,.int .i64 f.line,.int .i64 f.col]
def Toks (l:List UInt8) (ts:List Tok) (f:Option Flt):Prop :=
  (65536<l.length∧ts=[]∧f=some ⟨6,0,0⟩)∨(l.length≤65536∧∃ ts',Lexed l 1 1 ts' f∧ts=if f.isNone then ts' else [])
theorem Toks.unique {l ts f ts' f'} (h:Toks l ts f) (h':Toks l ts' f'):ts=ts'∧f=f':=by
  rcases h with ⟨h1,rfl,rfl⟩ | ⟨h1,t,h2,rfl⟩
  · rcases h' with ⟨_,rfl,rfl⟩ | ⟨h3,_⟩
    · exact ⟨rfl,rfl⟩
    · omega
  · rcases h' with ⟨h3,_⟩ | ⟨_,t',h4,rfl⟩
    · omega
    · obtain ⟨rfl,rfl⟩:=h2.unique h4
      exact ⟨rfl,rfl⟩
def TokEnds (W:World) (l:List UInt8) (e:Ending) (w:World):Prop :=
  ∃ (ts:List Tok) (f:Option Flt) (v:Value),Toks l ts f∧e=.returned (.tuple #[v,fltV f])∧Below W.heap.size W w∧w.ownsRow W.heap.size 81 4 v ts.length (ts.flatMap tokC)
def Three (c:Nat) (v0 v1 v2:Value) (w:World):Prop :=
  c<w.heap.size∧w.cell? ⟨c,0,none⟩=some v0∧w.cell? ⟨c,1,none⟩=some v1∧w.cell? ⟨c,2,none⟩=some v2∧w.frozen? ⟨c,0,none⟩=false∧w.frozen? ⟨c,1,none⟩=false∧w.frozen? ⟨c,2,none⟩=false
theorem Three.new (W:World) (v0 v1 v2:Value) (t:TypeId):Three W.heap.size v0 v1 v2 (W.alloc (.cells #[v0,v1,v2] t)):=by
  refine ⟨by simp,?_,?_,?_,World.frozen?_alloc_at _ _ _ _ rfl,World.frozen?_alloc_at _ _ _ _ rfl,World.frozen?_alloc_at _ _ _ _ rfl⟩ <;> (rw [World.cell?_alloc_at _ _ _ _ rfl];rfl)
theorem Three.below {c:Nat} {v0 v1 v2:Value} {W w:World} {B:Nat} (h:Three c v0 v1 v2 W) (hb:Below B W w) (hc:c<B):Three c v0 v1 v2 w:=by
  obtain ⟨z,y0,y1,y2,f0,f1,f2⟩:=h
  exact ⟨Nat.lt_of_lt_of_le z hb.size,(hb.cell (p:=⟨c,0,none⟩) hc).trans y0,(hb.cell (p:=⟨c,1,none⟩) hc).trans y1,(hb.cell (p:=⟨c,2,none⟩) hc).trans y2,
    (hb.frozen (p:=⟨c,0,none⟩) hc).trans f0,(hb.frozen (p:=⟨c,1,none⟩) hc).trans f1,(hb.frozen (p:=⟨c,2,none⟩) hc).trans f2⟩
theorem Past.set3 {B:Nat} {W w:World} {c:Nat} (h:Past B W w) (hc:B≤c) (v0 v1 v2:Value):Past B W (((w.setCell ⟨c,0,none⟩ v0).setCell ⟨c,1,none⟩ v1).setCell ⟨c,2,none⟩ v2) :=
  ((h.set (a:=⟨c,0,none⟩) hc _).set (a:=⟨c,1,none⟩) hc _).set (a:=⟨c,2,none⟩) hc _
theorem Past.mono {B C:Nat} {W w:World} (h:Past B W w) (hc:C≤B):Past C W w:=⟨Nat.le_trans hc h.1,h.2.mono hc⟩
theorem ownsRow_set3 {w:World} {c e s n:Nat} {v:Value} {xs:List Value} (h:w.ownsRow (c+1) e s v n xs) (v0 v1 v2:Value):(((w.setCell ⟨c,0,none⟩ v0).setCell ⟨c,1,none⟩ v1).setCell ⟨c,2,none⟩ v2).ownsRow c e s v n xs :=
  World.ownsRow.mono (ownsRow_set (ownsRow_set (ownsRow_set h (Nat.lt_succ_self c) v0) (Nat.lt_succ_self c) v1) (Nat.lt_succ_self c) v2) (Nat.le_succ _)
theorem lit_cells2 (w:World) (o:Obj) (cs:Array Value) (ty:TypeId):∀ (j:Nat) (u:Value),cs.toList[j]? = some u→((w.alloc o).alloc (.cells cs ty)).cell? ((⟨w.heap.size+1,0,none⟩:Addr).add j)=some u:=by
  intro j u h
  have h2:=lit_cells (w.alloc o) cs ty j u h
  have e:(w.alloc o).heap.size=w.heap.size+1:=by simp
  rwa [e] at h2
theorem Three.set3 {c:Nat} {v0 v1 v2:Value} {w:World} (h:Three c v0 v1 v2 w) (u0 u1 u2:Value):Three c u0 u1 u2 (((w.setCell ⟨c,0,none⟩ u0).setCell ⟨c,1,none⟩ u1).setCell ⟨c,2,none⟩ u2):=by
  obtain ⟨z,y0,y1,y2,f0,f1,f2⟩:=h
  refine ⟨by simpa [World.setCell] using z,?_,?_,?_,?_,?_,?_⟩ <;> simp [World.frozen?_setCell,go_sem,y0,y1,y2,f0,f1,f2]
theorem Three.alloc {c:Nat} {v0 v1 v2:Value} {w:World} (h:Three c v0 v1 v2 w) (o:Obj):Three c v0 v1 v2 (w.alloc o) :=
  h.below ((Below.refl w.heap.size w).alloc (Nat.le_refl _) o) h.1
theorem tokC_one (t:Tok):∀ u∈tokC t,u.oneCell' = true:=by intro u hu;unfold tokC at hu;simp at hu;rcases hu with rfl | rfl | rfl | rfl <;> rfl
theorem tokC_one' (a c d:Int) (s:ByteArray):∀ u∈[Value.int .i64 a,.string s,.int .i64 c,.int .i64 d],u.oneCell' = true:=by intro u hu;simp at hu;rcases hu with rfl | rfl | rfl | rfl <;> rfl
theorem cell_two (w:World) (cs:Array Value) (t:TypeId) (o:Obj) (v:Value) (h:cs[0]? = some v):((w.alloc (.cells cs t)).alloc o).cell? ⟨w.heap.size,0,none⟩=some v:=by
  have h1:w.heap.size<(w.alloc (.cells cs t)).heap.size:=by simp
  rw [World.cell?_alloc_past _ _ _ h1,World.cell?_alloc_at _ _ _ _ rfl]
  exact h
theorem infoT:(Tryz.prog.info? 81).map (fun i=>(i.zero,i.size,i.bytes))=some (some (.agg #[.int .i64 0,.string ⟨#[]⟩,.int .i64 0,.int .i64 0]),4,40):=by kernel_rfl
def At (W:World) (s:ByteArray) (k line front:Nat) (acc:List Tok) (pv:Value) (w:World):Prop :=
  k≤s.size∧front≤k∧line≤k+1∧acc.length≤k∧Past (W.heap.size+1) (W.alloc (.cells #[.int .i64 0,.int .i64 0,.int .i64 0] 33)) w ∧
  w.ownsRow (W.heap.size+1) 81 4 pv acc.length (acc.flatMap tokC)∧(∀ ts f,Lexed (s.data.toList.drop k) line (k - front+1) ts f→Lexed s.data.toList 1 1 (acc++ts) f)
set_option maxRecDepth 100000 in
set_option maxHeartbeats 4000000 in
theorem Tokens_short (s:ByteArray) (hs:s.size≤65536) (W:World) (hE:Errs W):Calls Tryz.prog 29 #[.string s] W (TokEnds W s.data.toList):=by
  obtain ⟨iT,hiT,hz0,hz1,hz2⟩:=info_parts infoT
  have HI:=Lib.hid (And.intro hiT (And.intro hz0 (And.intro hz1 hz2)))
  clear hiT hz0 hz1 hz2
  have h1:¬ ((65536:Int)<(s.size:Int)):=by omega
  have hlen:s.data.toList.length=s.size:=(Lib.size_eq s).symm
  go_enter Tryz.func29,Tryz.ntmps29
  go_wp2_with fail
  refine wp_scope_again 0 (fun a' w' => ∃ (k line front:Nat) (acc:List Tok) (pv u8 u9 u10 u11 u12 u13 u14 u15 u16 u17 u18 u19 u20 u21 u22 u23 u24 u25 u26 u27 u28 u29 u30 u31 u32 u33 u34 u35 u36 u37 u38 u39 u40 u41 u42 u43 u44 u45 u46 u47 u48 u49 u50 u51 u52 u53 u54 u55 u56 u57 u58 u59 u60 u61 u62:Value),a' = { tmps:=#[.string s,undef,.slice none 0 0,.pointer (some ⟨W.heap.size,0,none⟩),pv,.int .i64 (k:Nat),.int .i64 (line:Nat),.int .i64 (front:Nat),u8,u9,u10,u11,u12,u13,u14,u15,u16,u17,u18,u19,u20,u21,u22,u23,u24,u25,u26,u27,u28,u29,u30,u31,u32,u33,u34,u35,u36,u37,u38,u39,u40,u41,u42,u43,u44,u45,u46,u47,u48,u49,u50,u51,u52,u53,u54,u55,u56,u57,u58,u59,u60,u61,u62],defers:=[] }∧At W s k line front acc pv w') (fun a' _=>s.size - (intOf (a'.tmps.getD 5 undef)).toNat) rfl ?_ ?_
  · rintro a' w' ⟨k,line,front,acc,pv,u8,u9,u10,u11,u12,u13,u14,u15,u16,u17,u18,u19,u20,u21,u22,u23,u24,u25,u26,u27,u28,u29,u30,u31,u32,u33,u34,u35,u36,u37,u38,u39,u40,u41,u42,u43,u44,u45,u46,u47,u48,u49,u50,u51,u52,u53,u54,u55,u56,u57,u58,u59,u60,u61,u62,rfl,hk,hf,hl,ha,hp,hr,hcont⟩
    have HC:=Lib.hid hcont
    have c1:=passedOver_any (s.extract k s.size) (by rw [from_size];omega)
    rw [from_data] at c1
    have hple:=passed_le (s.data.toList.drop k)
    rw [List.length_drop,← Lib.size_eq] at hple
    obtain ⟨p,ep⟩:∃ p,p=passed (s.data.toList.drop k):=⟨_,rfl⟩
    rw [← ep] at c1 hple
    have EP:=Lib.hid ep
    clear ep hcont
    have hth:=(Three.new W (.int .i64 0) (.int .i64 0) (.int .i64 0) 33).below hp.2 (Nat.lt_succ_self _)
    by_cases hend:k+p=s.size
    · have he:((k:Int)+(p:Int)==(s.size:Int))=true:=by simp;omega
      obtain ⟨z,y0,y1,y2,f0,f1,f2⟩:=hth
      go_wp2_with ((with_reducible refine (c1 _).mono ?_);rintro e w1 ⟨rfl,rfl⟩)
      simp only [Exit.jump]
      refine bodyPost_ret (v:=.tuple #[pv,fltV none]) (by simp [results,Tryz.results29,go_sem,fltV,y0,y1,y2]) rfl ⟨acc,none,pv,.inr ⟨by omega,acc,?_,rfl⟩,rfl,?_,?_⟩
      · have h:=HC.out [] none (.done (by rw [← EP.out,List.drop_drop];exact List.drop_eq_nil_of_le (by omega)))
        rwa [List.append_nil] at h
      · exact (((Past.refl (Nat.le_refl W.heap.size)).alloc _).trans (hp.mono (Nat.le_succ _)) |>.set3 (Nat.le_refl _) _ _ _).2
      · exact ownsRow_set3 hr _ _ _
    · have he:((k:Int)+(p:Int)==(s.size:Int))=false:=by simp;omega
      have hlt:k+p<s.size:=by omega
      have c2:=first_any (s.extract (k+p) s.size) (by rw [from_size];omega) (by rw [from_size];omega) w' (hE.below ((Past.refl (Nat.le_refl W.heap.size)).alloc _ |>.trans (hp.mono (Nat.le_succ _))).2 (Nat.le_refl _))
      rw [from_data] at c2
      have hcons:=cons_of s (k+p) hlt
      have hcol:((k - front+1+p:Nat):Int)=(k:Int)+p - front+1:=by omega
      cases hfst:first (s.data.toList.drop (k+p)) with
      | bad c =>
        rw [hfst] at c2
        have eW:∀ x:Nat,cutW x (.bad c)=.tuple #[.agg #[.int .i64 0,.string ⟨#[]⟩,.int .i64 0,.int .i64 0],.int .i64 x,.int .i64 c]:=fun _=>rfl
        simp only [eW] at c2
        have hc12:=first_bad hfst
        have hc0:((c:Int) != 0)=true:=by simp;omega
        clear eW
        go_wp2_with (first
          | ((with_reducible refine (c1 _).mono ?_);rintro e w1 ⟨rfl,rfl⟩)
          | ((with_reducible refine c2.mono ?_);rintro e w2 ⟨⟨x,rfl⟩,hb2⟩;obtain ⟨z,y0,y1,y2,f0,f1,f2⟩:=hth.below hb2 hth.1))
        simp only [Exit.jump]
        obtain ⟨_,r0,r1,r2,_⟩:=((hth.below hb2 hth.1).set3 (.int .i64 c) (.int .i64 line) (.int .i64 ((k:Int)+p - front+1))).alloc (.cells #[.int .i64 0,.string ⟨#[]⟩,.int .i64 0,.int .i64 0] 81)
        refine bodyPost_ret (v:=.tuple #[.slice none 0 0,.agg #[.int .i64 c,.int .i64 line,.int .i64 ((k:Int)+p - front+1)]]) (by simp [results,Tryz.results29,go_sem,r0,r1,r2]) rfl ⟨[],some ⟨c,line,k - front+1+p⟩,.slice none 0 0,.inr ⟨by omega,acc,?_,rfl⟩,?_,?_,World.ownsRow_nil _ _ _ _⟩
        · have h:=HC.out [] _ (.bad (by rw [← EP.out,List.drop_drop];exact hcons) (by rw [← hcons];exact hfst))
          rwa [List.append_nil,← EP.out] at h
        · simp only [fltV,hcol]
        · exact ((((((Past.refl (Nat.le_refl W.heap.size)).alloc _).trans (hp.mono (Nat.le_succ _))).on hb2).set3 (Nat.le_refl _) _ _ _).alloc _).2
      | ok kd b sz =>
        rw [hfst] at c2
        have eW:∀ x:Nat,cutW x (.ok kd b sz)=.tuple #[.agg #[.int .i64 kd,.string (str b),.int .i64 0,.int .i64 0],.int .i64 sz,.int .i64 0]:=fun _=>rfl
        simp only [eW] at c2
        obtain ⟨hsz1,hsz2,hsz3⟩:=first_size hfst
        rw [List.length_drop,← Lib.size_eq] at hsz2
        clear eW hsz3
        have H63:Hid (acc.length+1≤maxLen):=Lib.hid (by unfold maxLen;omega)
        have HB1:Hid ((acc.length+1) * 40≤140737488355328):=Lib.hid (by omega)
        have hnext:∀ l' c' ts f,l' = (if kd=6 then line+1 else line)→c' = (if kd=6 then 1 else k - front+1+p+sz)→Lexed (s.data.toList.drop (k+p+sz)) l' c' ts f→Lexed s.data.toList 1 1 ((acc++[⟨kd,b,line,k - front+1+p⟩])++ts) f:=by
          intro l' c' ts f e1 e2 h
          subst e1 e2
          rw [List.append_assoc]
          have h2:=Lexed.step (line:=line) (col:=k - front+1) (by rw [← EP.out,List.drop_drop];exact hcons) (by rw [← hcons];exact hfst) (ts:=ts) (f:=f) (by rw [← hcons,List.drop_drop,← EP.out];exact h)
          rw [← EP.out] at h2
          exact HC.out _ _ h2
        have HN:=Lib.hid hnext
        have hcells:(acc++[(⟨kd,b,line,k - front+1+p⟩:Tok)]).flatMap tokC=acc.flatMap tokC++[.int .i64 kd,.string (str b),.int .i64 line,.int .i64 ((k:Int)+p - front+1)]:=by
          rw [List.flatMap_append]
          simp [tokC,hcol]
        have HCE:=Lib.hid hcells
        clear hnext hcells hcons hcol hfst
        by_cases h6:kd=6
        · subst h6
          go_wp2_with (first
            | ((with_reducible refine (c1 _).mono ?_);rintro e w1 ⟨rfl,rfl⟩)
            | ((with_reducible refine c2.mono ?_);rintro e w2 ⟨⟨x,rfl⟩,hb2⟩;have hr2:=ownsRow_below hr hb2;have P2:=hp.on hb2)
            | (at_builtin;refine wpList_append_own _ rfl (.tmp 50) (.tmp 52) 76 rfl (W.heap.size+1) 81 iT _ 4 40 Tryz.underlying76 HI.out.1 HI.out.2.1 HI.out.2.2.1 HI.out.2.2.2 rfl (by decide) _ _ _ rfl ((hr2.alloc _).alloc _) ⟨w2.heap.size+1,0,none⟩ 1 1 [.int .i64 6,.string (str b),.int .i64 line,.int .i64 ((k:Int)+p - front+1)] rfl rfl (lit_cells2 _ _ _ _) (tokC_one' _ _ _ _) H63.out HB1.out (by have:=P2.size;simp;omega) ?_;intro pv2 w3 hown3 hgrow3 _;have kf:w3.cell? ⟨w2.heap.size,0,none⟩=some (.int .i64 6):=hgrow3.cell (a:=⟨w2.heap.size,0,none⟩) (cell_two _ _ _ _ _ rfl) (fun e=>Nat.lt_irrefl _ (hr2.lt _ e.symm).2)))
          have P3:=((P2.alloc (.cells #[.int .i64 6,.string (str b),.int .i64 line,.int .i64 ((k:Int)+p - front+1)] 81)).alloc (.cells #[.int .i64 6,.string (str b),.int .i64 line,.int .i64 ((k:Int)+p - front+1)] 81)).grownRow hgrow3 (fun j hj=>(hr2.lt j hj).1)
          have e1:(k:Int)+p+sz=((k+p+sz:Nat):Int):=by omega
          have e2:(line:Int)+1=((line+1:Nat):Int):=by omega
          rw [e1,e2]
          refine wp_goto ⟨rfl,⟨k+p+sz,line+1,k+p+sz,acc++[⟨6,b,line,k - front+1+p⟩],pv2,_,_,_,_,_,_,_,_,_,_,_,_,_,_,_,_,_,_,_,_,_,_,_,_,_,_,_,_,_,_,_,_,_,_,_,_,_,_,_,_,_,_,_,_,_,_,_,_,_,_,_,_,_,_,_,rfl,by omega,by omega,by omega,by rw [List.length_append];simp;omega,P3,?_,fun ts f h=>HN.out (line+1) 1 ts f rfl rfl (by rw [Nat.sub_self] at h;exact h)⟩,?_⟩
          · rw [HCE.out,List.length_append]
            exact hown3
          · simp [intOf]
            omega
        · have hk6:((kd:Int)==6)=false:=by simp;omega
          have HK6:=Lib.hid h6
          clear h6
          go_wp2_with (first
            | ((with_reducible refine (c1 _).mono ?_);rintro e w1 ⟨rfl,rfl⟩)
            | ((with_reducible refine c2.mono ?_);rintro e w2 ⟨⟨x,rfl⟩,hb2⟩;have hr2:=ownsRow_below hr hb2;have P2:=hp.on hb2)
            | (at_builtin;refine wpList_append_own _ rfl (.tmp 50) (.tmp 52) 76 rfl (W.heap.size+1) 81 iT _ 4 40 Tryz.underlying76 HI.out.1 HI.out.2.1 HI.out.2.2.1 HI.out.2.2.2 rfl (by decide) _ _ _ rfl ((hr2.alloc _).alloc _) ⟨w2.heap.size+1,0,none⟩ 1 1 [.int .i64 kd,.string (str b),.int .i64 line,.int .i64 ((k:Int)+p - front+1)] rfl rfl (lit_cells2 _ _ _ _) (tokC_one' _ _ _ _) H63.out HB1.out (by have:=P2.size;simp;omega) ?_;intro pv2 w3 hown3 hgrow3 _;have kf:w3.cell? ⟨w2.heap.size,0,none⟩=some (.int .i64 kd):=hgrow3.cell (a:=⟨w2.heap.size,0,none⟩) (cell_two _ _ _ _ _ rfl) (fun e=>Nat.lt_irrefl _ (hr2.lt _ e.symm).2)))
          have P3:=((P2.alloc (.cells #[.int .i64 kd,.string (str b),.int .i64 line,.int .i64 ((k:Int)+p - front+1)] 81)).alloc (.cells #[.int .i64 kd,.string (str b),.int .i64 line,.int .i64 ((k:Int)+p - front+1)] 81)).grownRow hgrow3 (fun j hj=>(hr2.lt j hj).1)
          have e1:(k:Int)+p+sz=((k+p+sz:Nat):Int):=by omega
          rw [e1]
          refine wp_goto ⟨rfl,⟨k+p+sz,line,front,acc++[⟨kd,b,line,k - front+1+p⟩],pv2,_,_,_,_,_,_,_,_,_,_,_,_,_,_,_,_,_,_,_,_,_,_,_,_,_,_,_,_,_,_,_,_,_,_,_,_,_,_,_,_,_,_,_,_,_,_,_,_,_,_,_,_,_,_,_,rfl,by omega,by omega,by omega,by rw [List.length_append];simp;omega,P3,?_,fun ts f h=>HN.out _ _ ts f (by rw [if_neg HK6.out]) (by rw [if_neg HK6.out];omega) h⟩,?_⟩
          · rw [HCE.out,List.length_append]
            exact hown3
          · simp [intOf]
            omega
  · intro hpass
    go_wp2_with fail
    go_step3
    rename_i K hK
    refine hK _ _ (hpass _ _ ?_)
    exact ⟨0,1,0,[],.slice none 0 0,_,_,_,_,_,_,_,_,_,_,_,_,_,_,_,_,_,_,_,_,_,_,_,_,_,_,_,_,_,_,_,_,_,_,_,_,_,_,_,_,_,_,_,_,_,_,_,_,_,_,_,_,_,_,_,rfl,Nat.zero_le _,Nat.le_refl _,Nat.le_refl _,Nat.le_refl _,Past.refl (by simp),World.ownsRow_nil _ _ _ _,fun ts f h=>h⟩
theorem Tokens_any (s:ByteArray) (hs:s.size<9223372036854775807) (W:World) (hE:Errs W):Calls Tryz.prog 29 #[.string s] W (TokEnds W s.data.toList):=by
  by_cases h:s.size≤65536
  · exact Tokens_short s h W hE
  · have h1:(65536:Int)<(s.size:Int):=by omega
    go_enter Tryz.func29,Tryz.ntmps29
    go_wp2_with fail
    go_step3
    go_wp2_with fail
    rw [Exit.noGoto_ret]
    refine bodyPost_ret (v:=.tuple #[.slice none 0 0,.agg #[.int .i64 6,.int .i64 0,.int .i64 0]]) (by simp [results,Tryz.results29,go_sem]) rfl ⟨[],some ⟨6,0,0⟩,.slice none 0 0,.inl ⟨by rw [← Lib.size_eq];omega,rfl,rfl⟩,rfl,((Past.refl (Nat.le_refl _)).alloc _).2,World.ownsRow_nil _ _ _ _⟩
def fC (f:Option Flt):Int:=match f with | none=>0 | some x=>x.code
def fL (f:Option Flt):Int:=match f with | none=>0 | some x=>x.line
def fK (f:Option Flt):Int:=match f with | none=>0 | some x=>x.col
def FltOk (f:Option Flt):Prop:=∀ x,f=some x→x.code≠0
def Gt (t:Tok):Prop:=Gd t∧t.body.length≤65536∧Go.Lib.parseUintB 64 t.body≠.range∧∀ d∈t.body,d.toNat≠45
def tkP (tp:Option Addr) (tn tc:Nat) (ts:List Tok) (w:World):Prop :=
  tn=ts.length∧tn≤tc∧tc≤maxLen∧(∀ j u,(ts.flatMap tokC)[j]? = some u→∃ g o,tp=some ⟨g,o,none⟩∧w.cell? ⟨g,o+j,none⟩=some u)∧∀ k,cR tp k≠0→k<w.heap.size
theorem cR_self (a:Addr):cR (some a) a.block≠0:=by unfold cR;simp
def tk (tp:Option Addr) (tn tc:Nat) (ts:List Tok):As :=
  ⟨cR tp,tkP tp tn tc ts,fun w w' h hk=>⟨h.1,h.2.1,h.2.2.1,fun j u hu=>by
      obtain ⟨g,o,e,hc⟩:=h.2.2.2.1 j u hu
      exact ⟨g,o,e,(World.cell?_of_block (a:=⟨g,o+j,none⟩) (hk _ (by rw [e];exact cR_self ⟨g,o,none⟩))).trans hc⟩,fun k x=>by
      have e:=hk k x
      have h1:w.heap[k]? = some (w.heap[k]'(h.2.2.2.2 k x)):=Array.getElem?_eq_getElem (h.2.2.2.2 k x)
      rw [h1] at e
      exact (Array.getElem?_eq_some_iff.1 e).1⟩,fun w h=>h.2.2.2.2⟩
theorem tk_c (tp:Option Addr) (tn tc:Nat) (ts:List Tok) (k:Nat):(tk tp tn tc ts).c k=cR tp k:=rfl
theorem fC_zero {f:Option Flt} (h:FltOk f):fC f=0↔f=none:=by
  cases f with
  | none=>simp [fC]
  | some x=>have:=h x rfl;simp only [fC];constructor <;> intro e <;> first | (exact absurd (by exact_mod_cast e) this) | cases e
def rdC (tp:Option Addr) (tn tc:Nat) (en:Tok) (f:Option Flt) (m0 m1 m2 r:Value):List Value :=
  [.slice tp tn tc,.int .i64 en.kind,.string (str en.body),.int .i64 en.line,.int .i64 en.col,.int .i64 (fC f),.int .i64 (fL f),.int .i64 (fK f),m0,m1,m2,r]
def Rd (B:Nat) (W:World) (b:Nat) (en:Tok) (m0 m1 m2 r:Value) (s:RS) (Z:As) (w:World):Prop :=
  (∀ t∈s.ts,Gt t)∧FltOk s.flt∧∃ tp tn tc,St B W ((As.and (bx b (rdC tp tn tc en s.flt m0 m1 m2 r)) (As.and (tk tp tn tc s.ts) Z))) w
section
variable {B b:Nat} {W w w':World} {en:Tok} {m0 m1 m2 r:Value} {s:RS} {Z Z':As}
theorem Rd.imp (h:Rd B W b en m0 m1 m2 r s Z w) (k:Z.le Z'):Rd B W b en m0 m1 m2 r s Z' w:=by
  obtain ⟨h1,h2,tp,tn,tc,h⟩:=h
  exact ⟨h1,h2,tp,tn,tc,h.imp ((As.le.refl _).and ((As.le.refl _).and k))⟩
theorem Rd.later (h:Rd B W b en m0 m1 m2 r s Z w) (hb:Below w.heap.size w w'):Rd B W b en m0 m1 m2 r s Z w':=by
  obtain ⟨h1,h2,tp,tn,tc,h⟩:=h
  exact ⟨h1,h2,tp,tn,tc,h.later hb⟩
theorem Rd.alloc (h:Rd B W b en m0 m1 m2 r s Z w) (o:Obj):Rd B W b en m0 m1 m2 r s Z (w.alloc o):=h.later ((Below.refl _ _).alloc (Nat.le_refl _) o)
theorem Rd.below (h:Rd B W b en m0 m1 m2 r s Z w):Below B W w:=by obtain ⟨h1,h2,tp,tn,tc,h⟩:=h;exact h.below
theorem Rd.same {s':RS} (h:Rd B W b en m0 m1 m2 r s Z w) (e1:s'.ts=s.ts) (e2:s'.flt=s.flt):Rd B W b en m0 m1 m2 r s' Z w:=by
  unfold Rd
  rw [e1,e2];exact h
theorem Rd.nx_gt (h:Rd B W b en m0 m1 m2 r s Z w) (he:Gt en):Gt (nx en s):=by
  unfold nx
  cases e:s.ts with
  | nil=>simpa using he
  | cons t ts=>have h1:=h.1;rw [e] at h1;simpa using h1 t (by simp)
theorem Rd.st (h:Rd B W b en m0 m1 m2 r s Z w):∃ Y,St B W ((As.and Z Y)) w∧∀ Z' w',St B W ((As.and Z' Y)) w'→Rd B W b en m0 m1 m2 r s Z' w':=by
  obtain ⟨h1,h2,tp,tn,tc,h⟩:=h
  refine ⟨(As.and (bx b (rdC tp tn tc en s.flt m0 m1 m2 r)) (tk tp tn tc s.ts)),h.imp ⟨fun w x=>⟨x.2.2,x.1,x.2.1⟩,fun k=>by simp only [As.and_c];omega⟩,fun Z' w' h' => ⟨h1,h2,tp,tn,tc,h'.imp ⟨fun w x=>⟨x.2.1,x.2.2,x.1⟩,fun k=>by simp only [As.and_c];omega⟩⟩⟩
end
/-! The parser's box, with the names asked. -/
def askRow (B:Nat) (ap:Option Addr) (ac:Nat) (l:List Tok):As:=rw' B 81 4 tokC ap l.length ac l
def Pk (B:Nat) (W:World) (b:Nat) (en:Tok) (m0 m1 m2:Value) (s:RS) (Z:As) (w:World):Prop :=
  (∀ t∈s.asked,Gt t)∧∃ ap ac,Rd B W b en m0 m1 m2 (.slice ap s.asked.length ac) s ((As.and (askRow B ap ac s.asked) Z)) w
section
variable {B b g:Nat} {W w w':World} {en:Tok} {m0 m1 m2:Value} {s:RS} {Z Z':As}
theorem Pk.imp (h:Pk B W b en m0 m1 m2 s Z w) (k:Z.le Z'):Pk B W b en m0 m1 m2 s Z' w:=by
  obtain ⟨h1,ap,ac,h⟩:=h
  exact ⟨h1,ap,ac,h.imp ((As.le.refl _).and k)⟩
theorem Pk.later (h:Pk B W b en m0 m1 m2 s Z w) (hb:Below w.heap.size w w'):Pk B W b en m0 m1 m2 s Z w':=by
  obtain ⟨h1,ap,ac,h⟩:=h
  exact ⟨h1,ap,ac,h.later hb⟩
theorem Pk.alloc (h:Pk B W b en m0 m1 m2 s Z w) (o:Obj):Pk B W b en m0 m1 m2 s Z (w.alloc o):=h.later ((Below.refl _ _).alloc (Nat.le_refl _) o)
theorem Pk.drew (h:Pk B W b en m0 m1 m2 s Z w):Pk B W b en m0 m1 m2 s Z w.drew:=h.later (below_drew (Below.refl _ _))
theorem Pk.below (h:Pk B W b en m0 m1 m2 s Z w):Below B W w:=by obtain ⟨h1,ap,ac,h⟩:=h;exact h.below
theorem Pk.rd (h:Pk B W b en m0 m1 m2 s Z w):∃ r Z',Rd B W b en m0 m1 m2 r s Z' w∧∀ s' w',s'.asked=s.asked→Rd B W b en m0 m1 m2 r s' Z' w'→Pk B W b en m0 m1 m2 s' Z w':=by
  obtain ⟨h1,ap,ac,h⟩:=h
  refine ⟨_,_,h,fun s' w' e h' => ⟨by rw [e];exact h1,ap,ac,?_⟩⟩
  rw [e]
  exact h'
theorem Pk.st (h:Pk B W b en m0 m1 m2 s Z w):∃ Y,St B W ((As.and Z Y)) w∧∀ Z' w',St B W ((As.and Z' Y)) w'→Pk B W b en m0 m1 m2 s Z' w':=by
  obtain ⟨h1,ap,ac,h⟩:=h
  obtain ⟨Y,hs,back⟩:=h.st
  refine ⟨(As.and (askRow B ap ac s.asked) Y),hs.imp ⟨fun w x=>⟨x.1.2,x.1.1,x.2⟩,fun k=>by simp only [As.and_c];omega⟩,fun Z' w' h' => ⟨h1,ap,ac,back _ _ (h'.imp ⟨fun w x=>⟨⟨x.2.1,x.1⟩,x.2.2⟩,fun k=>by simp only [As.and_c];omega⟩)⟩⟩
theorem Pk.box {cs:List Value} (h:Pk B W b en m0 m1 m2 s ((As.and (bx g cs) Z)) w):Box g cs w:=by
  obtain ⟨Y,hs,_⟩:=h.st
  exact hs.sat.1.1
theorem Pk.set {cs:List Value} (h:Pk B W b en m0 m1 m2 s ((As.and (bx g cs) Z)) w) (i:Nat) (v:Value):Pk B W b en m0 m1 m2 s ((As.and (bx g (cs.set i v)) Z)) (w.setCell ⟨g,i,none⟩ v):=by
  obtain ⟨Y,hs,back⟩:=h.st
  refine back _ _ ?_
  have h2:St B W ((As.and (bx g cs) ((As.and Z Y)))) w:=hs.imp ⟨fun w x=>⟨x.1.1,x.1.2,x.2⟩,fun k=>by simp only [As.and_c];omega⟩
  exact (h2.set i v).imp ⟨fun w x=>⟨⟨x.1,x.2.1⟩,x.2.2⟩,fun k=>by simp only [As.and_c];omega⟩
theorem Pk.push (h:Pk B W b en m0 m1 m2 s Z w) {g:Nat} (hg:g=w.heap.size) (cs:List Value) (t:TypeId):Pk B W b en m0 m1 m2 s ((As.and (bx g cs) Z)) (w.alloc (.cells cs.toArray t)):=by
  obtain ⟨Y,hs,back⟩:=h.st
  exact back _ _ ((hs.push hg cs t).imp ⟨fun w x=>⟨⟨x.1,x.2.1⟩,x.2.2⟩,fun k=>by simp only [As.and_c];omega⟩)
theorem Pk.asked (h:Pk B W b en m0 m1 m2 s Z w):∃ ap ac Y,w.cell? ⟨b,11,none⟩=some (.slice ap s.asked.length ac)∧w.frozen? ⟨b,11,none⟩=false∧b<w.heap.size∧St B W ((As.and (askRow B ap ac s.asked) Y)) w∧(∀ X w',St B W ((As.and X Y)) w'→w'.cell? ⟨b,11,none⟩=some (.slice ap s.asked.length ac)∧w'.frozen? ⟨b,11,none⟩=false∧b<w'.heap.size) ∧
    ∀ ap' ac' t w',Gt t→St B W ((As.and (askRow B ap' ac' (s.asked++[t])) Y)) w'→Pk B W b en m0 m1 m2 (sAsk t s) Z (w'.setCell ⟨b,11,none⟩ (.slice ap' (s.asked.length+1) ac')):=by
  obtain ⟨h1,ap,ac,h2,h3,tp,tn,tc,h⟩:=h
  refine ⟨ap,ac,(As.and (bx b (rdC tp tn tc en s.flt m0 m1 m2 (.slice ap s.asked.length ac))) (As.and (tk tp tn tc s.ts) Z)),h.box.get 11 _ rfl,h.box.2.1 11,h.box.1,h.imp ⟨fun w x=>⟨x.2.2.1,x.1,x.2.1,x.2.2.2⟩,fun k=>by simp only [As.and_c];omega⟩,fun X w' h' => (have hb:Box b (rdC tp tn tc en s.flt m0 m1 m2 (.slice ap s.asked.length ac)) w':=h'.sat.2.1;⟨hb.get 11 _ rfl,hb.2.1 11,hb.1⟩),fun ap' ac' t w' ht h' => ?_⟩
  refine ⟨fun x hx=>?_,ap',ac',h2,h3,tp,tn,tc,?_⟩
  · rcases List.mem_append.1 hx with hx | hx
    · exact h1 x hx
    · rw [List.mem_singleton.1 hx];exact ht
  · have h4:St B W ((As.and (bx b (rdC tp tn tc en s.flt m0 m1 m2 (.slice ap s.asked.length ac))) (As.and (tk tp tn tc s.ts) (As.and (askRow B ap' ac' (s.asked++[t])) Z)))) w':=h'.imp ⟨fun w x=>⟨x.2.1,x.2.2.1,x.1,x.2.2.2⟩,fun k=>by simp only [As.and_c];omega⟩
    have e:(sAsk t s).asked.length=s.asked.length+1:=by unfold sAsk;simp
    rw [e]
    exact h4.set 11 _
theorem Pk.cells (h:Pk B W b en m0 m1 m2 s Z w):w.cell? ⟨b,8,none⟩=some m0∧w.cell? ⟨b,9,none⟩=some m1∧w.cell? ⟨b,10,none⟩=some m2∧∀ i,w.frozen? ⟨b,i,none⟩=false:=by
  obtain ⟨h1,ap,ac,h2,h3,tp,tn,tc,h⟩:=h
  exact ⟨h.box.get 8 _ rfl,h.box.get 9 _ rfl,h.box.get 10 _ rfl,h.box.2.1⟩
end
/-! An instruction that is being read. -/
def insRow (B:Nat) (x:LI):As:=(As.and (rw' B 107 3 argC x.1.ap x.1.al x.1.ac x.1.args) (rw' B 3 1 intC x.1.tp x.1.tl x.1.tc x.2))
def Ik (B:Nat) (W:World) (b:Nat) (en:Tok) (m0 m1 m2:Value) (g:Nat) (p:PIns×RS) (Z:As) (w:World):Prop :=
  ∃ x:LI,insD x=p.1∧Pk B W b en m0 m1 m2 p.2 ((As.and (bx g (insC x.1)) (As.and (insRow B x) Z))) w
section
variable {B b g:Nat} {W w w':World} {en:Tok} {m0 m1 m2:Value} {p:PIns×RS} {Z Z':As}
theorem Ik.imp (h:Ik B W b en m0 m1 m2 g p Z w) (k:Z.le Z'):Ik B W b en m0 m1 m2 g p Z' w:=by
  obtain ⟨x,e,h⟩:=h
  exact ⟨x,e,h.imp ((As.le.refl _).and ((As.le.refl _).and k))⟩
theorem Ik.later (h:Ik B W b en m0 m1 m2 g p Z w) (hb:Below w.heap.size w w'):Ik B W b en m0 m1 m2 g p Z w':=by
  obtain ⟨x,e,h⟩:=h
  exact ⟨x,e,h.later hb⟩
theorem Ik.drew (h:Ik B W b en m0 m1 m2 g p Z w):Ik B W b en m0 m1 m2 g p Z w.drew:=h.later (below_drew (Below.refl _ _))
theorem Ik.below (h:Ik B W b en m0 m1 m2 g p Z w):Below B W w:=by obtain ⟨x,e,h⟩:=h;exact h.below
theorem Ik.pk (h:Ik B W b en m0 m1 m2 g p Z w):∃ Z',Pk B W b en m0 m1 m2 p.2 Z' w∧∀ s' w',Pk B W b en m0 m1 m2 s' Z' w'→Ik B W b en m0 m1 m2 g (p.1,s') Z w':=by
  obtain ⟨x,e,h⟩:=h
  exact ⟨_,h,fun s' w' h' => ⟨x,e,h'⟩⟩
theorem Ik.rd (h:Ik B W b en m0 m1 m2 g p Z w):∃ r Z',Rd B W b en m0 m1 m2 r p.2 Z' w∧∀ s' w',s'.asked=p.2.asked→Rd B W b en m0 m1 m2 r s' Z' w'→Ik B W b en m0 m1 m2 g (p.1,s') Z w':=by
  obtain ⟨Z1,h1,k1⟩:=h.pk
  obtain ⟨r,Z2,h2,k2⟩:=h1.rd
  exact ⟨r,Z2,h2,fun s' w' e h' => k1 _ _ (k2 _ _ e h')⟩
theorem Ik.st (h:Ik B W b en m0 m1 m2 g p Z w):∃ Y,St B W ((As.and Z Y)) w∧∀ Z' w',St B W ((As.and Z' Y)) w'→Ik B W b en m0 m1 m2 g p Z' w':=by
  obtain ⟨x,e,h⟩:=h
  obtain ⟨Y,hs,back⟩:=h.st
  refine ⟨(As.and (bx g (insC x.1)) (As.and (insRow B x) Y)),hs.imp ⟨fun w x=>⟨x.1.2.2,x.1.1,x.1.2.1,x.2⟩,fun k=>by simp only [As.and_c];omega⟩,fun Z' w' h' => ⟨x,e,back _ _ (h'.imp ⟨fun w x=>⟨⟨x.2.1,x.2.2.1,x.1⟩,x.2.2.2⟩,fun k=>by simp only [As.and_c];omega⟩)⟩⟩
theorem Ik.frozen (h:Ik B W b en m0 m1 m2 g p Z w) (i:Nat):w.frozen? ⟨g,i,none⟩=false:=by
  obtain ⟨x,e,h⟩:=h
  exact h.box.2.1 i
theorem Ik.cells (h:Ik B W b en m0 m1 m2 g p Z w):w.cell? ⟨g,0,none⟩=some (.int .i64 p.1.op)∧w.cell? ⟨g,1,none⟩=some (.int .i64 p.1.reg)∧w.cell? ⟨g,2,none⟩=some (.int .i64 p.1.ty)∧w.cell? ⟨g,3,none⟩=some (.int .i64 p.1.n)∧w.cell? ⟨g,4,none⟩=some (.int .i64 p.1.fl):=by
  obtain ⟨x,e,h⟩:=h
  rw [← e]
  exact ⟨h.box.get 0 _ rfl,h.box.get 1 _ rfl,h.box.get 2 _ rfl,h.box.get 3 _ rfl,h.box.get 4 _ rfl⟩
theorem Ik.op (h:Ik B W b en m0 m1 m2 g p Z w) (v:Int):Ik B W b en m0 m1 m2 g ({ p.1 with op:=v },p.2) Z (w.setCell ⟨g,0,none⟩ (.int .i64 v)):=by
  obtain ⟨x,e,h⟩:=h
  exact ⟨({ x.1 with op:=v },x.2),by rw [← e];rfl,h.set 0 _⟩
theorem Ik.reg (h:Ik B W b en m0 m1 m2 g p Z w) (v:Int):Ik B W b en m0 m1 m2 g ({ p.1 with reg:=v },p.2) Z (w.setCell ⟨g,1,none⟩ (.int .i64 v)):=by
  obtain ⟨x,e,h⟩:=h
  exact ⟨({ x.1 with reg:=v },x.2),by rw [← e];rfl,h.set 1 _⟩
theorem Ik.ty (h:Ik B W b en m0 m1 m2 g p Z w) (v:Int):Ik B W b en m0 m1 m2 g ({ p.1 with ty:=v },p.2) Z (w.setCell ⟨g,2,none⟩ (.int .i64 v)):=by
  obtain ⟨x,e,h⟩:=h
  exact ⟨({ x.1 with ty:=v },x.2),by rw [← e];rfl,h.set 2 _⟩
theorem Ik.n (h:Ik B W b en m0 m1 m2 g p Z w) (v:Int):Ik B W b en m0 m1 m2 g ({ p.1 with n:=v },p.2) Z (w.setCell ⟨g,3,none⟩ (.int .i64 v)):=by
  obtain ⟨x,e,h⟩:=h
  exact ⟨({ x.1 with n:=v },x.2),by rw [← e];rfl,h.set 3 _⟩
theorem Ik.fl (h:Ik B W b en m0 m1 m2 g p Z w) (v:Int):Ik B W b en m0 m1 m2 g ({ p.1 with fl:=v },p.2) Z (w.setCell ⟨g,4,none⟩ (.int .i64 v)):=by
  obtain ⟨x,e,h⟩:=h
  exact ⟨({ x.1 with fl:=v },x.2),by rw [← e];rfl,h.set 4 _⟩
theorem Ik.args (h:Ik B W b en m0 m1 m2 g p Z w):∃ ap ac Y,w.cell? ⟨g,5,none⟩=some (.slice ap p.1.args.length ac)∧St B W ((As.and (rw' B 107 3 argC ap p.1.args.length ac p.1.args) Y)) w∧(∀ X w',St B W ((As.and X Y)) w'→w'.cell? ⟨g,5,none⟩=some (.slice ap p.1.args.length ac)∧w'.frozen? ⟨g,5,none⟩=false∧g<w'.heap.size) ∧
    ∀ ap' ac' n' args' w',St B W ((As.and (rw' B 107 3 argC ap' n' ac' args') Y)) w'→Ik B W b en m0 m1 m2 g ({ p.1 with args:=args' },p.2) Z (w'.setCell ⟨g,5,none⟩ (.slice ap' n' ac')):=by
  obtain ⟨x,e,h⟩:=h
  have hc:=h.box.get 5 _ rfl
  obtain ⟨Y,hs,back⟩:=h.st
  have hr:=hs.sat.1.2.1.1.1
  rw [← e]
  have hr':x.1.al=x.1.args.length:=hr
  refine ⟨x.1.ap,x.1.ac,(As.and (bx g (insC x.1)) (As.and (rw' B 3 1 intC x.1.tp x.1.tl x.1.tc x.2) (As.and Z Y))),by rw [hc,hr'];rfl,?_,fun X w' h' => (have hb:Box g (insC x.1) w':=h'.sat.2.1;⟨by rw [hb.get 5 _ rfl,hr'];rfl,hb.2.1 5,hb.1⟩),fun ap' ac' n' args' w' h' => ⟨({ x.1 with ap:=ap',al:=n',ac:=ac',args:=args' },x.2),rfl,?_⟩⟩
  · show St B W ((As.and (rw' B 107 3 argC x.1.ap x.1.args.length x.1.ac x.1.args) _)) w
    rw [← hr']
    exact hs.imp ⟨fun w x=>⟨x.1.2.1.1,x.1.1,x.1.2.1.2,x.1.2.2,x.2⟩,fun k=>by simp only [As.and_c,insRow];omega⟩
  · refine back _ _ ?_
    have h4:St B W ((As.and (bx g (insC x.1)) (As.and (rw' B 107 3 argC ap' n' ac' args') (As.and (rw' B 3 1 intC x.1.tp x.1.tl x.1.tc x.2) (As.and Z Y))))) w':=h'.imp ⟨fun w x=>⟨x.2.1,x.1,x.2.2.1,x.2.2.2.1,x.2.2.2.2⟩,fun k=>by simp only [As.and_c];omega⟩
    exact (h4.set 5 _).imp ⟨fun w x=>⟨⟨x.1,⟨x.2.1,x.2.2.1⟩,x.2.2.2.1⟩,x.2.2.2.2⟩,fun k=>by simp only [As.and_c,insRow];exact Nat.le_of_eq (by simp only [bx_c];omega)⟩
end
end Go.Proofs.YtmmlfmplggbmiaaGreatDoor
namespace Go.Proofs.YtmmlfmplggbmiaaGreatDoor
set_option linter.unusedVariables false
set_option linter.unusedSimpArgs false
theorem word_gd {c:UInt8} {r:List UInt8} (hc:isLetter c=true):0<((c::r).take (wordSize (c::r))).length∧wordSize ((c::r).take (wordSize (c::r)))=((c::r).take (wordSize (c::r))).length:=by
  have hp:=wordSize_pos c r hc
  have hle:=wordSize_le (c::r)
  have hw:wordSize (c::r)=runOf isOfWord (c::r):=by simp only [wordSize,if_pos hc]
  obtain ⟨n,en⟩:∃ n,wordSize (c::r)=n+1:=⟨wordSize (c::r) - 1,by omega⟩
  have hlen:((c::r).take (wordSize (c::r))).length=wordSize (c::r):=by rw [List.length_take];omega
  refine ⟨by omega,?_⟩
  rw [hlen]
  have e1:(c::r).take (wordSize (c::r))=c::r.take n:=by rw [en,List.take_succ_cons]
  have e2:wordSize (c::r.take n)=runOf isOfWord (c::r.take n):=by simp only [wordSize,if_pos hc]
  rw [e1,e2,← e1]
  refine runOf_eq _ _ _ (by omega) (fun i hi=>?_) (fun h=>by omega)
  rw [List.getElem_take]
  obtain ⟨_,k⟩:=runOf_at isOfWord (c::r) i (by omega)
  exact k
theorem number_gd {kind:Nat} {l:List UInt8} {most extra k s:Nat} {b:List UInt8} (h:number kind l most extra=.ok k b s) (line col:Nat):k=kind∧numOf ⟨k,b,line,col⟩≤most:=by
  unfold number at h
  split at h
  · cases h
  · split at h
    · rename_i u hp
      split at h
      · cases h
      · rename_i hm
        injection h with h1 h2 h3
        subst h1 h2
        refine ⟨rfl,?_⟩
        unfold numOf
        simp only [hp]
        omega
    · cases h
theorem first_len {l:List UInt8} {k s:Nat} {b:List UInt8} (h:first l=.ok k b s):b.length≤l.length:=by
  have num:∀ {kind:Nat} {l:List UInt8} {most extra k s:Nat} {b:List UInt8},number kind l most extra=.ok k b s→b.length≤l.length:=by
    intro kind l most extra k s b h
    unfold number at h
    split at h
    · cases h
    · split at h
      · split at h
        · cases h
        · injection h with h1 h2 h3
          subst h2
          rw [← take_runOf,List.length_take];exact Nat.min_le_right _ _
      · cases h
  cases l with
  | nil=>cases h
  | cons c r =>
    unfold first at h
    simp only at h
    split at h
    · cases h;simp
    split at h
    · cases h;simp
    split at h
    · cases h;rw [List.length_take];exact Nat.min_le_right _ _
    split at h
    · exact num h
    split at h
    · exact Nat.le_trans (num h) (Nat.le_succ _)
    split at h
    · cases h;rw [List.length_take,List.length_cons];omega
    · cases h
theorem first_gd {l:List UInt8} {k s:Nat} {b:List UInt8} (h:first l=.ok k b s) (hl:l.length≤65536) (line col:Nat):Gd ⟨k,b,line,col⟩:=by
  have hb:b.length≤65536:=Nat.le_trans (first_len h) hl
  have no:∀ {j:Nat},j≠1→j≠3→Gd ⟨j,b,line,col⟩:=fun h1 h3=>⟨fun e=>absurd e h1,fun e=>absurd e h3,hb⟩
  cases l with
  | nil=>cases h
  | cons c r =>
    unfold first at h
    simp only at h
    split at h
    · cases h;exact no (by decide) (by decide)
    split at h
    · cases h;exact no (by decide) (by decide)
    split at h
    · rename_i hc
      cases h
      exact ⟨fun _=>word_gd hc,fun e=>by simp at e,hb⟩
    split at h
    · obtain ⟨e,_⟩:=number_gd h line col
      subst e
      exact no (by decide) (by decide)
    split at h
    · obtain ⟨e,hm⟩:=number_gd h line col
      subst e
      exact ⟨fun e=>by simp at e,fun _=>hm,hb⟩
    split at h
    · cases h;exact no (by decide) (by decide)
    · cases h
theorem lexed_gd {l:List UInt8} {line col:Nat} {ts:List Tok} {f:Option Flt} (h:Lexed l line col ts f):l.length≤65536→∀ t∈ts,Gd t:=by
  induction h with
  | done _=>intro _ t ht;simp at ht
  | bad _ _=>intro _ t ht;simp at ht
  | step h0 h1 _ ih =>
    rename_i l line col c r k b s ts f h3
    intro hl t ht
    have hlen:(c::r).length≤l.length:=by rw [← h0,List.length_drop];omega
    rcases List.mem_cons.1 ht with rfl | ht
    · exact first_gd h1 (by omega) _ _
    · exact ih (by rw [List.length_drop];omega) t ht
theorem endTk_gd (t:Tx):Gd (endTk t):=⟨fun e=>by simp [endTk] at e,fun e=>by simp [endTk] at e,by simp [endTk]⟩
def layS (acc p:Tx):Tx:=if acc≠[]∧p≠[] then acc++32::p else acc++p
def layT (ps:List Tx):Tx:=ps.foldl layS []
def beh (p:Tx):Tx:=if p=[] then [] else 32::p
theorem layT_snoc (ps:List Tx) (p:Tx):layT (ps++[p])=layS (layT ps) p:=by unfold layT;rw [List.foldl_append];rfl
theorem layS_ne {acc:Tx} (h:acc≠[]) (p:Tx):layS acc p=acc++beh p:=by
  unfold layS beh
  by_cases e:p=[]
  · rw [if_neg (fun k=>k.2 e),if_pos e,e]
  · rw [if_pos ⟨h,e⟩,if_neg e]
theorem fold_ne:∀ (ps:List Tx) (acc:Tx),acc≠[]→ps.foldl layS acc=acc++(ps.map beh).flatten
  | [],acc,_=>by simp
  | p::ps,acc,h=>by
    rw [List.foldl_cons,layS_ne h,fold_ne ps _ (by simp [h])]
    simp only [List.map_cons,List.flatten_cons,List.append_assoc]
theorem layT_cons {p:Tx} (h:p≠[]) (ps:List Tx):layT (p::ps)=p++(ps.map beh).flatten:=by
  unfold layT
  rw [List.foldl_cons,show layS [] p=p from by unfold layS;rw [if_neg fun k=>k.1 rfl];rfl,fold_ne ps p h]
theorem beh_ne {p:Tx} (h:p≠[]):beh p=32::p:=if_neg h
theorem beh_nil:beh []=[]:=rfl
def flagsP (fl:Int):Tx:=layT ((if fl % 2=1 then [[110,115,119]] else [])++(if fl / 2 % 2=1 then [[110,117,119]] else [])++(if fl / 4 % 2=1 then [[101,120,97,99,116]] else []))
theorem flags_same {fl:Int} (h:0≤fl∧fl≤7):beh (flagsP fl)=flagsT fl:=by
  have:fl=0∨fl=1∨fl=2∨fl=3∨fl=4∨fl=5∨fl=6∨fl=7:=by omega
  rcases this with rfl | rfl | rfl | rfl | rfl | rfl | rfl | rfl <;> rfl
def formP (m:PMod) (x:PIns):List Tx :=
  if 20≤x.op∧x.op≤22 then [typeT x.n,listT (x.args.map (argT m.vs)),[116,111],typeT x.ty]
  else if x.op=25 then [flagsP x.fl,typeT x.ty,listT ((x.tg.zip x.args).map fun p=>layT [blockT p.1,argT m.vs p.2])]
  else if x.op=26 then [decI x.n]
  else if x.op=30 then [calT m.xs m.fs x.n++40::(listT (x.args.map (argT m.vs))++[41])]
  else if x.op=29∨x.op=31∨x.op=32∨x.op=34 then [listT (x.args.map (argT m.vs)++x.tg.map blockT)]
  else if x.op=33∧x.args=[] then []
  else [flagsP x.fl,typeT x.ty,listT (x.args.map (argT m.vs))]
def instrP (m:PMod) (x:PIns):List Tx:=(if x.reg<0 then [] else [regT x.reg,[61]])++opT x.op::formP m x
theorem dec_ne (n:Nat):Lib.decDigits n≠[]:=by
  rw [Lib.decDigits]
  split <;> simp
theorem typeT_ne {t:Int} (h:tyB t=true):typeT t≠[]:=by
  have ht:=of_decide_eq_true h
  unfold typeT
  by_cases h0:t=0
  · rw [if_pos h0];simp
  rw [if_neg h0]
  by_cases h1:t=65
  · rw [if_pos h1];simp
  rw [if_neg h1,if_pos (by omega)]
  simp
theorem argT_ne (gs:List PVar) (a:Arg):argT gs a≠[]:=by
  unfold argT regT decI
  split
  · simp
  split
  · exact dec_ne _
  split
  · simp
  split
  · simp
  · simp
theorem sepBy_ne {sep:Tx}:∀ {l:List Tx},l≠[]→(∀ x∈l,x≠[])→sepBy sep l≠[]
  | [],h,_=>absurd rfl h
  | [x],_,h=>h x (List.mem_singleton.2 rfl)
  | x::y::l,_,h=>by
    show x++sep++sepBy sep (y::l)≠[]
    have:=h x (List.mem_cons_self ..)
    simp [this]
theorem list_ne {gs:List PVar} {l:List Arg} (h:l≠[]):listT (l.map (argT gs))≠[] :=
  sepBy_ne (by simpa using h) (fun x hx=>by
    obtain ⟨a,_,rfl⟩:=List.mem_map.1 hx
    exact argT_ne gs a)
theorem pair_lay (gs:List PVar) (p:Int×Arg):layT [blockT p.1,argT gs p.2]=pairT gs p:=by
  rw [layT_cons (by simp [blockT])]
  show blockT p.1++(beh (argT gs p.2)++[])=pairT gs p
  rw [beh_ne (argT_ne _ _),List.append_nil]
  rfl
theorem opT_ne {op:Int} (h:1≤op∧op≤34):opT op≠[]:=by
  obtain ⟨k,rfl⟩:∃ k:Nat,op=k:=⟨op.toNat,by omega⟩
  have h1:1≤k∧k≤34:=by omega
  have:∀ j:Fin 35,1≤j.val→opT (j.val:Int)≠[]:=by decide
  exact this ⟨k,by omega⟩ h1.1
theorem behindT_lay {m:PMod} {x:PIns} (h:insB m x=true):((formP m x).map beh).flatten=flagsT x.fl++behindT m x:=by
  unfold insB at h
  simp only [Bool.and_eq_true,decide_eq_true_eq] at h
  obtain ⟨⟨⟨⟨⟨⟨⟨h1,h2⟩,h3⟩,h4⟩,h5⟩,h6⟩,h7⟩,h8⟩:=h
  have hz:13<x.op→flagsT x.fl=[]:=fun h=>by
    unfold flB at h5
    rw [if_pos h] at h5
    rw [of_decide_eq_true h5]
    rfl
  have hzp:13<x.op→flagsP x.fl=[]:=fun h=>by
    unfold flB at h5
    rw [if_pos h] at h5
    rw [of_decide_eq_true h5]
    rfl
  unfold formP behindT
  by_cases c1:20≤x.op∧x.op≤22
  · rw [if_pos c1,if_pos c1,hz (by omega)]
    have n1:typeT x.n≠[]:=typeT_ne (by unfold numB at h4;rw [if_pos c1] at h4;exact h4)
    have n2:typeT x.ty≠[]:=typeT_ne (by unfold hasTyB at h3;rw [if_neg (by omega),if_neg (by omega),if_neg (by omega),if_neg (by omega)] at h3;exact h3)
    have n3:x.args≠[]:=fun e=>by
      unfold cntB at h2
      rw [if_neg (by omega),if_neg (by omega),if_neg (by omega),if_neg (by omega),if_neg (by omega),if_neg (by omega),if_pos (.inl c1)] at h2
      have:=(of_decide_eq_true h2).2
      rw [e] at this
      simp at this
    have n4:=list_ne (gs:=m.vs) n3
    simp only [List.map_cons,List.map_nil,List.flatten_cons,List.flatten_nil,beh_ne n1,beh_ne n2,beh_ne n4,List.nil_append,List.cons_append,List.append_assoc,List.append_nil]
    rfl
  rw [if_neg c1,if_neg c1]
  by_cases c2:x.op=25
  · rw [if_pos c2,if_pos c2,hz (by omega),hzp (by omega)]
    have n2:typeT x.ty≠[]:=typeT_ne (by unfold hasTyB at h3;rw [if_neg (by omega),if_neg (by omega),if_neg (by omega),if_neg (by omega)] at h3;exact h3)
    have hp:(fun p:Int×Arg=>layT [blockT p.1,argT m.vs p.2])=pairT m.vs:=funext fun p=>pair_lay m.vs p
    rw [hp]
    by_cases e:x.args=[]
    · rw [if_pos e,e]
      simp only [List.zip_nil_right,List.map_cons,List.map_nil,List.flatten_cons,List.flatten_nil,beh_nil,beh_ne n2,List.nil_append,List.append_nil]
      show 32::typeT x.ty++beh []=_
      rw [beh_nil,List.append_nil]
    · have ht:x.tg.length=x.args.length:=by
        unfold cntB at h2
        rw [if_pos c2] at h2
        exact of_decide_eq_true h2
      have n5:listT ((x.tg.zip x.args).map (pairT m.vs))≠[]:=sepBy_ne (fun k=>by
        have:=congrArg List.length k
        rw [List.length_map,List.length_zip,ht,Nat.min_self,List.length_nil] at this
        exact e (List.length_eq_zero_iff.1 this)) (fun y hy=>by
        obtain ⟨p,_,rfl⟩:=List.mem_map.1 hy
        simp [pairT,blockT])
      rw [if_neg e]
      simp only [List.map_cons,List.map_nil,List.flatten_cons,List.flatten_nil,beh_nil,beh_ne n2,beh_ne n5,List.nil_append,List.append_nil,List.cons_append]
  rw [if_neg c2,if_neg c2]
  by_cases c3:x.op=26
  · rw [if_pos c3,if_pos c3,hz (by omega)]
    simp only [List.map_cons,List.map_nil,List.flatten_cons,List.flatten_nil,beh_ne (dec_ne _),decI,List.nil_append,List.append_nil]
  rw [if_neg c3,if_neg c3]
  by_cases c4:x.op=30
  · rw [if_pos c4,if_pos c4,hz (by omega)]
    have n1:calT m.xs m.fs x.n++40::(listT (x.args.map (argT m.vs))++[41])≠[]:=by simp
    simp only [List.map_cons,List.map_nil,List.flatten_cons,List.flatten_nil,beh_ne n1,List.nil_append,List.append_nil]
  rw [if_neg c4,if_neg c4]
  by_cases c5:x.op=34
  · rw [if_pos (by omega),if_neg (by omega),if_pos (.inl c5),hz (by omega)]
    unfold cntB at h2
    rw [if_neg (by omega),if_neg (by omega),if_neg (by omega),if_neg (by omega),if_neg (by omega),if_pos (by omega)] at h2
    obtain ⟨e1,e2⟩:=of_decide_eq_true h2
    rw [List.length_eq_zero_iff.1 e1,List.length_eq_zero_iff.1 e2]
    rfl
  by_cases c6:x.op=29∨x.op=31∨x.op=32
  · rw [if_pos (by omega),if_pos c6,hz (by omega)]
    have n1:listT (x.args.map (argT m.vs)++x.tg.map blockT)≠[]:=sepBy_ne (fun k=>by
      have k1:=(List.append_eq_nil_iff.1 k)
      have e1:x.args.length=0:=by have:=congrArg List.length k1.1;simpa using this
      have e2:x.tg.length=0:=by have:=congrArg List.length k1.2;simpa using this
      unfold cntB at h2
      rcases c6 with c | c | c
      · rw [if_neg (by omega),if_neg (by omega),if_neg (by omega),if_neg (by omega),if_neg (by omega),if_neg (by omega),if_neg (by omega),if_neg (by omega)] at h2
        have:=(of_decide_eq_true h2).2
        omega
      · rw [if_neg (by omega),if_neg (by omega),if_neg (by omega),if_pos c] at h2
        have:=(of_decide_eq_true h2).1
        omega
      · rw [if_neg (by omega),if_neg (by omega),if_neg (by omega),if_neg (by omega),if_pos c] at h2
        have:=(of_decide_eq_true h2).1
        omega) (fun y hy=>by
      rcases List.mem_append.1 hy with hy | hy
      · obtain ⟨a,_,rfl⟩:=List.mem_map.1 hy
        exact argT_ne _ _
      · obtain ⟨a,_,rfl⟩:=List.mem_map.1 hy
        simp [blockT])
    simp only [List.map_cons,List.map_nil,List.flatten_cons,List.flatten_nil,beh_ne n1,List.nil_append,List.append_nil]
  rw [if_neg (by omega),if_neg c6]
  by_cases c7:x.op=33∧x.args=[]
  · rw [if_pos c7,if_pos (.inr c7),hz (by omega)]
    rfl
  rw [if_neg c7,if_neg (fun k=>k.elim c5 c7)]
  have n2:typeT x.ty≠[]:=typeT_ne (by
    unfold hasTyB at h3
    rw [if_neg (by omega),if_neg (by omega),if_neg (by omega)] at h3
    by_cases c:x.op=33
    · rw [if_pos c] at h3
      rw [Bool.and_eq_true] at h3;exact h3.1
    · rw [if_neg c] at h3;exact h3)
  have n3:x.args≠[]:=fun e=>by
    by_cases c:x.op=33
    · exact c7 ⟨c,e⟩
    unfold cntB at h2
    rw [e] at h2
    rw [if_neg (by omega),if_neg (by omega),if_neg (by omega),if_neg (by omega),if_neg (by omega),if_neg (by omega)] at h2
    split at h2
    · have:=(of_decide_eq_true h2).2;simp at this
    split at h2
    · have:=(of_decide_eq_true h2).2;simp at this
    · have:=(of_decide_eq_true h2).2;simp at this
  have n4:=list_ne (gs:=m.vs) n3
  have hfl:beh (flagsP x.fl)=flagsT x.fl:=by
    by_cases c:13<x.op
    · rw [hz c,hzp c];rfl
    · unfold flB at h5
      rw [if_neg c] at h5
      exact flags_same (of_decide_eq_true h5)
  simp only [List.map_cons,List.map_nil,List.flatten_cons,List.flatten_nil,hfl,beh_ne n2,beh_ne n4,List.nil_append,List.append_nil,List.cons_append]
theorem ins_lay {m:PMod} {x:PIns} (h:insB m x=true):layT (instrP m x)=insT m x:=by
  have hb:=behindT_lay h
  have ho:opT x.op≠[]:=opT_ne (by
    unfold insB at h
    simp only [Bool.and_eq_true,decide_eq_true_eq] at h
    exact h.1.1.1.1.1.1.1)
  unfold instrP insT
  by_cases c:x.reg<0
  · rw [if_pos c,if_neg (by omega),List.nil_append,List.nil_append,layT_cons ho,hb]
  · rw [if_neg c,if_pos (by omega)]
    show layT (regT x.reg::[61]::opT x.op::formP m x)=_
    rw [layT_cons (by simp [regT])]
    simp only [List.map_cons,List.flatten_cons,hb,beh_ne ho,beh_ne (show ([61]:Tx)≠[] by simp),List.append_assoc,List.cons_append,List.nil_append]
end Go.Proofs.YtmmlfmplggbmiaaGreatDoor
