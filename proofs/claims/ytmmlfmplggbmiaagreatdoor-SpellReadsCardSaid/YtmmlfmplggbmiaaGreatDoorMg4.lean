/- Several texts in one: PsLx, PsRel, PsWd, PgP, PgD, PsLy, SpLen, PsLz, PsBk, PgE, LwLaid. -/
import Derived.Lib.AppendIntMem
import Derived.Lib.ParseIntBTie
import Derived.Lib.ItoaMem
import Derived.Lib.AtoiAllCases
import Derived.Test.YtmmlfmplggbmiaaGreatDoorRows
import Derived.ProofKit
import Derived.LaidMore
import Derived.OpenShut
import Derived.Stop.Joined
import Derived.Stop.LaidErr
import Derived.Lib.LaidTab
import Derived.MakeChecks
import Derived.Test.YtmmlfmplggbmiaaGreatDoorMg3
namespace Go.Proofs.YtmmlfmplggbmiaaGreatDoor
set_option linter.unusedVariables false
set_option linter.unusedSimpArgs false
theorem dg_nat {d:Nat} (h:d<10):(UInt8.ofNat (48+d)).toNat=48+d:=by
  show (48+d) % 2 ^ 8=48+d
  omega
theorem dg_digit {d:Nat} (h:d<10):isDigit (UInt8.ofNat (48+d))=true:=by
  unfold isDigit
  rw [dg_nat h]
  simp
  omega
theorem dec_digit (n:Nat):∀ c∈Lib.decDigits n,isDigit c=true:=by
  induction n using Nat.strongRecOn with
  | _ n ih =>
    intro c hc
    rw [Lib.decDigits] at hc
    by_cases h:n<10
    · rw [dif_pos h,List.mem_singleton] at hc
      subst hc
      exact dg_digit h
    · rw [dif_neg h,List.mem_append,List.mem_singleton] at hc
      rcases hc with hc | rfl
      · exact ih _ (by omega) c hc
      · exact dg_digit (by omega)
theorem dec_head (n:Nat):n≠0→∃ c r,Lib.decDigits n=c::r∧c.toNat≠48:=by
  induction n using Nat.strongRecOn with
  | _ n ih =>
    intro hn
    rw [Lib.decDigits]
    by_cases h:n<10
    · rw [dif_pos h]
      exact ⟨_,_,rfl,by rw [dg_nat h];omega⟩
    · rw [dif_neg h]
      obtain ⟨c,r,e,hc⟩:=ih (n / 10) (by omega) (by omega)
      rw [e]
      exact ⟨c,_,rfl,hc⟩
theorem parse_app {M:Nat} (r:List UInt8):∀ (l:List UInt8) (a b:Nat),Lib.parseUintM M a l=.ok b→Lib.parseUintM M a (l++r)=Lib.parseUintM M b r
  | [],a,b,h=>by
    unfold Lib.parseUintM at h
    injection h with h
    subst h
    rfl
  | c :: l,a,b,h=>by
    rw [List.cons_append]
    rw [Lib.parseUintM] at h ⊢
    by_cases h1:48≤c.toNat∧c.toNat≤57
    · rw [if_pos h1] at h ⊢
      by_cases h2:1844674407370955162≤a
      · rw [if_pos h2] at h;cases h
      · rw [if_neg h2] at h ⊢
        by_cases h3:M<a * 10+(c.toNat - 48)
        · rw [if_pos h3] at h;cases h
        · rw [if_neg h3] at h ⊢
          exact parse_app r l _ b h
    · rw [if_neg h1] at h;cases h
theorem parse_one {M a d:Nat} (hd:d<10) (ha:a≤1844674407370955161) (hm:a * 10+d≤M):Lib.parseUintM M a [UInt8.ofNat (48+d)]=.ok (a * 10+d):=by
  unfold Lib.parseUintM
  rw [dg_nat hd,if_pos (by omega),if_neg (by omega),if_neg (by omega),show 48+d - 48=d by omega]
  rfl
theorem parse_dec {M:Nat} (hM:M≤18446744073709551615) (n:Nat):n≤M→Lib.parseUintM M 0 (Lib.decDigits n)=.ok n:=by
  induction n using Nat.strongRecOn with
  | _ n ih =>
    intro hn
    rw [Lib.decDigits]
    by_cases h:n<10
    · rw [dif_pos h,parse_one h (by omega) (by omega)]
      congr 1
      omega
    · rw [dif_neg h,parse_app _ _ _ _ (ih (n / 10) (by omega) (by omega)),parse_one (by omega) (by omega) (by omega)]
      congr 1
      omega
def Stop (p:UInt8→Bool) (t:Tx):Prop:=∀ c r,t=c::r→p c=false
theorem run_all {p:UInt8→Bool} {t:Tx} (ht:Stop p t):∀ {w:Tx},(∀ c∈w,p c=true)→runOf p (w++t)=w.length∧(w++t).takeWhile p=w
  | [],hw=>by
    cases t with
    | nil=>exact ⟨rfl,rfl⟩
    | cons c r =>
      have h:=ht c r rfl
      rw [List.nil_append]
      exact ⟨by rw [runOf_cons,if_neg (by simp [h])];rfl,by simp [h]⟩
  | c::w,hw=>by
    have h:=run_all ht (w:=w) (fun x hx=>hw x (by simp [hx]))
    have hc:=hw c (by simp)
    rw [List.cons_append]
    exact ⟨by rw [runOf_cons,if_pos hc,h.1];rfl,by rw [List.takeWhile_cons,if_pos hc,h.2]⟩
def KB (t:Tok):Nat×Tx:=(t.kind,t.body)
def Lx (s:Tx) (P:List (Nat×Tx)) (t:Tx):Prop :=
  ∀ line col,∃ (line' col':Nat) (pre:List Tok),pre.map KB=P∧∀ ts f,Lexed t line' col' ts f→Lexed (s++t) line col (pre++ts) f
theorem Lx.nil (t:Tx):Lx [] [] t:=fun line col=>⟨line,col,[],rfl,fun ts f h=>h⟩
theorem Lx.app {s u t:Tx} {P Q:List (Nat×Tx)} (h:Lx s P (u++t)) (k:Lx u Q t):Lx (s++u) (P++Q) t:=by
  intro line col
  obtain ⟨l1,c1,p1,e1,f1⟩:=h line col
  obtain ⟨l2,c2,p2,e2,f2⟩:=k l1 c1
  refine ⟨l2,c2,p1++p2,by rw [List.map_append,e1,e2],fun ts f h=>?_⟩
  rw [List.append_assoc,List.append_assoc]
  exact f1 _ _ (f2 _ _ h)
theorem passed_zero {c:UInt8} {r:Tx} (hc:isBlank c=false) (h:c.toNat≠35):passed (c::r)=0:=by
  unfold passed
  have e:runOf isBlank (c::r)=0:=by rw [runOf_cons,if_neg (by simp [hc])]
  rw [e]
  show (if c.toNat=35 then 0+runOf isOfLine (c::r) else 0)=0
  rw [if_neg h]
theorem Lx.one {c:UInt8} {r t:Tx} {k:Nat} {b:Tx} (hc:isBlank c=false) (h35:c.toNat≠35) (hf:first (c::r++t)=.ok k b (r.length+1)):Lx (c::r) [(k,b)] t:=by
  intro line col
  have hp:passed (c::r++t)=0:=passed_zero hc h35
  refine ⟨if k=6 then line+1 else line,if k=6 then 1 else col+0+(r.length+1),[⟨k,b,line,col+0⟩],rfl,fun ts f h=>?_⟩
  have hd:(c::(r++t)).drop (r.length+1)=t:=by simp
  have:=Lexed.step (l:=c::r++t) (line:=line) (col:=col) (c:=c) (r:=r++t) (k:=k) (b:=b) (s:=r.length+1) (ts:=ts) (f:=f) (by rw [hp];rfl) hf (by rw [hd,hp];exact h)
  rw [hp] at this
  exact this
theorem Lx.blank (t:Tx):Lx [32] [] t:=by
  intro line col
  refine ⟨line,col+1,[],rfl,fun ts f h=>?_⟩
  have hr:runOf isBlank (32::t)=runOf isBlank t+1:=by rw [runOf_cons,if_pos (by decide)]
  have hp:passed (32::t)=passed t+1:=by
    unfold passed
    rw [hr,List.drop_succ_cons]
    split
    · rfl
    · split <;> omega
  rw [List.nil_append]
  show Lexed (32::t) line col ts f
  cases h with
  | done h0=>exact .done (by rw [hp,List.drop_succ_cons];exact h0)
  | bad h0 h1 =>
    have:=Lexed.bad (l:=32::t) (line:=line) (col:=col) (by rw [hp,List.drop_succ_cons];exact h0) h1
    rw [hp,show col+(passed t+1)=col+1+passed t by omega] at this
    exact this
  | step h0 h1 h2 =>
    have:=Lexed.step (l:=32::t) (line:=line) (col:=col) (by rw [hp,List.drop_succ_cons];exact h0) h1 (by rw [hp,show col+(passed t+1)=col+1+passed t by omega];exact h2)
    rw [hp,show col+(passed t+1)=col+1+passed t by omega] at this
    exact this
theorem Lx.line (t:Tx):Lx [10] [(6,[])] t:=Lx.one (by decide) (by decide) (by unfold first;rfl)
theorem Lx.mark {c:UInt8} (hc:isMark c=true) (t:Tx):Lx [c] [(5,[c])] t:=by
  have h:c.toNat=61∨c.toNat=44∨c.toNat=40∨c.toNat=41∨c.toNat=58:=by
    unfold isMark at hc
    simp only [Bool.or_eq_true,beq_iff_eq] at hc
    omega
  refine Lx.one (by unfold isBlank;simp;omega) (by omega) ?_
  show first (c::t)=_
  unfold first
  dsimp only
  rw [if_neg (by omega),if_pos hc]
  rfl
theorem letter_nat {c:UInt8} (h:isLetter c=true):(97≤c.toNat∧c.toNat≤122)∨c.toNat=95:=by
  unfold isLetter at h
  simpa using h
theorem digit_nat {c:UInt8} (h:isDigit c=true):48≤c.toNat∧c.toNat≤57:=by
  unfold isDigit at h
  simpa using h
def IsW (w:Tx):Prop:=∃ c r,w=c::r∧isLetter c=true∧∀ x∈w,isOfWord x=true
theorem wordSize_all {w t:Tx} (hw:IsW w) (ht:Stop isOfWord t):wordSize (w++t)=w.length:=by
  obtain ⟨c,r,rfl,hc,ha⟩:=hw
  have:=(run_all ht ha).1
  rw [List.cons_append] at this ⊢
  unfold wordSize
  dsimp only
  rw [if_pos hc]
  exact this
theorem Lx.word {w t:Tx} (hw:IsW w) (ht:Stop isOfWord t):Lx w [(1,w)] t:=by
  have hs:=wordSize_all hw ht
  obtain ⟨c,r,rfl,hc,ha⟩:=hw
  have hn:=letter_nat hc
  refine Lx.one (by unfold isBlank;simp;omega) (by omega) ?_
  rw [List.cons_append] at hs ⊢
  unfold first
  dsimp only
  rw [if_neg (by omega),if_neg (by unfold isMark;simp;omega),if_pos hc,hs]
  simp
theorem Lx.at {w t:Tx} (hw:IsW w) (ht:Stop isOfWord t):Lx (64::w) [(4,w)] t:=by
  have hs:=wordSize_all hw ht
  have hl:0<w.length:=by obtain ⟨c,r,rfl,_⟩:=hw;simp
  refine Lx.one (by decide) (by decide) ?_
  rw [List.cons_append]
  unfold first
  dsimp only
  rw [if_neg (by decide),if_neg (by decide),if_neg (by decide),if_neg (by decide),if_neg (by decide),if_pos ⟨by decide,by rw [hs];exact hl⟩,hs]
  simp
  omega
theorem number_dec {kind most extra n:Nat} {t:Tx} (ht:Stop isDigit t) (hn:n≤most) (hm:most≤18446744073709551615) :
    number kind (Lib.decDigits n++t) most extra=.ok kind (Lib.decDigits n) (extra+(Lib.decDigits n).length):=by
  obtain ⟨h1,h2⟩:=run_all ht (dec_digit n)
  unfold number
  rw [h1,h2]
  have h3:¬ (1<(Lib.decDigits n).length∧((Lib.decDigits n++t).head?.map UInt8.toNat)=some 48):=by
    rintro ⟨h4,h5⟩
    by_cases h0:n=0
    · subst h0
      rw [Lib.decDigits_one (by decide)] at h4
      simp at h4
    · obtain ⟨c,r,e,hc⟩:=dec_head n h0
      rw [e] at h5
      simp at h5
      exact hc h5
  rw [if_neg h3]
  have h6:Lib.parseUintB 64 (Lib.decDigits n)=.ok n:=by
    unfold Lib.parseUintB
    rw [if_neg (dec_ne n)]
    exact parse_dec (by decide) n (by omega)
  rw [h6]
  dsimp only
  rw [if_neg (by omega)]
theorem Lx.num {n:Nat} {t:Tx} (hn:n<18446744073709551616) (ht:Stop isDigit t):Lx (Lib.decDigits n) [(2,Lib.decDigits n)] t:=by
  have hk:=number_dec (kind:=2) (extra:=0) ht (show n≤18446744073709551615 by omega) (Nat.le_refl _)
  have hd:=dec_digit n
  obtain ⟨c,r,e⟩:∃ c r,Lib.decDigits n=c::r:=by
    cases h:Lib.decDigits n with
    | nil=>exact absurd h (dec_ne n)
    | cons c r=>exact ⟨c,r,rfl⟩
  rw [e] at hk hd ⊢
  have hc:=hd c (by simp)
  have hcn:=digit_nat hc
  refine Lx.one (by unfold isBlank;simp;omega) (by omega) ?_
  rw [List.cons_append] at hk ⊢
  unfold first
  dsimp only
  rw [if_neg (by omega),if_neg (by unfold isMark;simp;omega),if_neg (by unfold isLetter;simp;omega),if_pos hc,hk]
  simp
theorem Lx.reg {n:Nat} {t:Tx} (hn:n≤4095) (ht:Stop isDigit t):Lx (37::Lib.decDigits n) [(3,Lib.decDigits n)] t:=by
  have hk:=number_dec (kind:=3) (extra:=1) ht hn (by decide)
  refine Lx.one (by decide) (by decide) ?_
  rw [List.cons_append]
  unfold first
  dsimp only
  rw [if_neg (by decide),if_neg (by decide),if_neg (by decide),if_neg (by decide),if_pos (by decide),hk,Nat.add_comm]
def sameT (t t':Tok):Prop:=t.kind=t'.kind∧t.body=t'.body
theorem isTk_kind {k:Nat} {b:Tx} {t:Tok} (h:isTk k b t=true):t.kind=k:=by
  unfold isTk at h
  rw [Bool.and_eq_true] at h
  simpa using h.1
section
variable {α β:Type} {R:PS→PS→Prop}
end
section
variable {n n':Nat} {en en':Tok} (he:sameT en en') (hk:en.kind=6)
include he hk
end
theorem mem_tw {p:UInt8→Bool}:∀ {l:Tx} {c:UInt8},c∈l.takeWhile p→p c=true
  | [],c,h=>by cases h
  | d :: l,c,h=>by
    rw [List.takeWhile_cons] at h
    split at h
    · rename_i hd
      rcases List.mem_cons.1 h with rfl | h
      · exact hd
      · exact mem_tw h
    · cases h
def DigOk (most:Nat) (b:Tx):Prop:=b≠[]∧(∀ c∈b,isDigit c=true)∧¬ (1<b.length∧b.head?.map UInt8.toNat=some 48)∧∃ u,Go.Lib.parseUintB 64 b=.ok u∧u≤most
def TkOk (t:Tok):Prop :=
  (t.kind=1∧IsW t.body)∨(t.kind=2∧DigOk 18446744073709551615 t.body)∨(t.kind=3∧DigOk 4095 t.body)∨(t.kind=4∧IsW t.body)∨(t.kind=5∧∃ c,t.body=[c]∧isMark c=true)∨(t.kind=6∧t.body=[])
theorem number_ok {kind:Nat} {l:Tx} {most extra k s:Nat} {b:Tx} (h:number kind l most extra=.ok k b s):k=kind∧DigOk most b:=by
  unfold number at h
  split at h
  · cases h
  · rename_i hh
    split at h
    · rename_i u hp
      split at h
      · cases h
      · rename_i hm
        injection h with h1 h2 h3
        subst h1 h2
        refine ⟨rfl,?_,fun c hc=>mem_tw hc,?_,u,hp,by omega⟩
        · intro e
          rw [e] at hp
          unfold Go.Lib.parseUintB at hp
          simp at hp
        · rintro ⟨h4,h5⟩
          refine hh ⟨h4,?_⟩
          cases l with
          | nil=>simp at h4
          | cons c r =>
            rw [List.takeWhile_cons] at h5
            split at h5
            · exact h5
            · simp at h5
    · cases h
theorem word_ok {c:UInt8} {r:Tx} (hc:isLetter c=true):IsW ((c::r).take (wordSize (c::r))):=by
  obtain ⟨n,en⟩:∃ n,wordSize (c::r)=n+1:=⟨wordSize (c::r) - 1,by have:=wordSize_pos c r hc;omega⟩
  have hw:wordSize (c::r)=runOf isOfWord (c::r):=by simp only [wordSize,if_pos hc]
  refine ⟨c,r.take n,by rw [en,List.take_succ_cons],hc,fun x hx=>?_⟩
  rw [hw,take_runOf] at hx
  exact mem_tw hx
theorem first_tkOk {l:Tx} {k s:Nat} {b:Tx} (h:first l=.ok k b s) (line col:Nat):TkOk ⟨k,b,line,col⟩:=by
  cases l with
  | nil=>cases h
  | cons c r =>
    unfold first at h
    simp only at h
    split at h
    · cases h;exact .inr (.inr (.inr (.inr (.inr ⟨rfl,rfl⟩))))
    split at h
    · rename_i hm;cases h;exact .inr (.inr (.inr (.inr (.inl ⟨rfl,c,rfl,hm⟩))))
    split at h
    · rename_i hc;cases h;exact .inl ⟨rfl,word_ok hc⟩
    split at h
    · obtain ⟨rfl,hd⟩:=number_ok h;exact .inr (.inl ⟨rfl,hd⟩)
    split at h
    · obtain ⟨rfl,hd⟩:=number_ok h;exact .inr (.inr (.inl ⟨rfl,hd⟩))
    split at h
    · rename_i hw
      cases h
      cases r with
      | nil=>exact absurd hw.2 (by decide)
      | cons d q =>
        have hd:isLetter d=true:=by
          by_cases hd:isLetter d=true
          · exact hd
          · have:wordSize (d::q)=0:=by simp only [wordSize,if_neg hd]
            omega
        exact .inr (.inr (.inr (.inl ⟨rfl,word_ok hd⟩)))
    · cases h
theorem lexed_tkOk {l:Tx} {line col:Nat} {ts:List Tok} {f:Option Flt} (h:Lexed l line col ts f):∀ t∈ts,TkOk t:=by
  induction h with
  | done _=>intro t ht;cases ht
  | bad _ _=>intro t ht;cases ht
  | step h1 h2 _ ih =>
    intro t ht
    rcases List.mem_cons.1 ht with rfl | ht
    · exact first_tkOk h2 _ _
    · exact ih t ht
theorem parse_letter {c:UInt8} {r:List UInt8} (h:¬ (48≤c.toNat∧c.toNat≤57)):Go.Lib.parseUintB 64 (c::r)≠.range:=by
  unfold Go.Lib.parseUintB
  rw [if_neg (by simp)]
  unfold Go.Lib.parseUintM
  rw [if_neg h]
  intro e;cases e
theorem letter_no {c:UInt8} (h:isLetter c=true):¬ (48≤c.toNat∧c.toNat≤57):=by
  unfold isLetter at h
  simp at h
  omega
theorem first_gt {l:List UInt8} {k s:Nat} {b:List UInt8} (h:first l=.ok k b s):b.length≤l.length∧Go.Lib.parseUintB 64 b≠.range:=by
  have num:∀ {kind:Nat} {l:List UInt8} {most extra k s:Nat} {b:List UInt8},number kind l most extra=.ok k b s→b.length≤l.length∧Go.Lib.parseUintB 64 b≠.range:=by
    intro kind l most extra k s b h
    unfold number at h
    split at h
    · cases h
    · split at h
      · rename_i u hp
        split at h
        · cases h
        · injection h with h1 h2 h3
          subst h2
          exact ⟨by rw [← take_runOf,List.length_take];exact Nat.min_le_right _ _,by rw [hp];intro e;cases e⟩
      · cases h
  cases l with
  | nil=>cases h
  | cons c r =>
    unfold first at h
    simp only at h
    split at h
    · cases h;exact ⟨by simp,by unfold Go.Lib.parseUintB;simp⟩
    split at h
    · rename_i hm
      cases h
      refine ⟨by simp,parse_letter ?_⟩
      unfold isMark at hm
      simp at hm
      omega
    split at h
    · rename_i hc
      cases h
      obtain ⟨n,en⟩:∃ n,wordSize (c::r)=n+1:=⟨wordSize (c::r) - 1,by have:=wordSize_pos c r hc;omega⟩
      refine ⟨by rw [List.length_take];exact Nat.min_le_right _ _,?_⟩
      rw [en,List.take_succ_cons]
      exact parse_letter (letter_no hc)
    split at h
    · exact num h
    split at h
    · have:=num h
      exact ⟨Nat.le_trans this.1 (Nat.le_succ _),this.2⟩
    split at h
    · rename_i hw
      cases h
      refine ⟨by rw [List.length_take,List.length_cons];omega,?_⟩
      cases r with
      | nil=>exact absurd hw.2 (by decide)
      | cons d q =>
        obtain ⟨n,en⟩:∃ n,wordSize (d::q)=n+1:=⟨wordSize (d::q) - 1,by omega⟩
        have hd:isLetter d=true:=by
          by_cases hd:isLetter d=true
          · exact hd
          · have:wordSize (d::q)=0:=by simp only [wordSize,if_neg hd]
            omega
        rw [en,List.take_succ_cons]
        exact parse_letter (letter_no hd)
    · cases h
theorem tkOk_no {t:Tok} (h:TkOk t):∀ d∈t.body,d.toNat≠45:=by
  have w:∀ {d:UInt8},isOfWord d=true→d.toNat≠45:=fun {d} hd=>by
    unfold isOfWord at hd
    rw [Bool.or_eq_true] at hd
    rcases hd with hd | hd
    · have:=letter_nat hd;omega
    · have:=digit_nat hd;omega
  intro d hd
  rcases h with ⟨_,_,_,_,_,h⟩ | ⟨_,_,h,_⟩ | ⟨_,_,h,_⟩ | ⟨_,_,_,_,_,h⟩ | ⟨_,c,h,hm⟩ | ⟨_,h⟩
  · exact w (h d hd)
  · have:=digit_nat (h d hd);omega
  · have:=digit_nat (h d hd);omega
  · exact w (h d hd)
  · rw [h] at hd
    rw [List.mem_singleton.1 hd]
    unfold isMark at hm
    simp at hm
    omega
  · rw [h] at hd;cases hd
theorem lexed_gt {l:List UInt8} {line col:Nat} {ts:List Tok} {f:Option Flt} (h:Lexed l line col ts f) (hl:l.length≤65536):∀ t∈ts,Gt t:=by
  have hg:=lexed_gd h hl
  intro t ht
  have hno:=tkOk_no (lexed_tkOk h t ht)
  refine ⟨hg t ht,?_⟩
  have key:∀ {l:List UInt8} {line col:Nat} {ts:List Tok} {f:Option Flt},Lexed l line col ts f→l.length≤65536→∀ t∈ts,t.body.length≤65536∧Go.Lib.parseUintB 64 t.body≠.range:=by
    intro l line col ts f h
    induction h with
    | done _=>intro _ t ht;cases ht
    | bad _ _=>intro _ t ht;cases ht
    | step h1 h2 _ ih =>
      rename_i l line col c r k b s ts f h3
      intro hl t ht
      have hlen:(c::r).length≤l.length:=by rw [← h1,List.length_drop];omega
      rcases List.mem_cons.1 ht with rfl | ht
      · have:=first_gt h2
        exact ⟨by show b.length≤_;omega,this.2⟩
      · exact ih (by rw [List.length_drop];omega) t ht
  exact ⟨(key h hl t ht).1,(key h hl t ht).2,hno⟩
theorem endTk_gt (t:Tx):Gt (endTk t):=⟨endTk_gd t,by simp [endTk],by unfold Go.Lib.parseUintB endTk;simp,fun d hd=>by cases hd⟩
theorem bd_gt (c:Nat) (t0:Tok) (s:RS):∀ t∈(bd c t0 s).ts,Gt t:=fun t ht=>by cases ht
theorem bd_flt {c:Nat} {t0:Tok} {s:RS} (h:FltOk s.flt) (hc:c≠0):FltOk (bd c t0 s).flt:=by
  intro x hx
  unfold bd at hx
  cases e:s.flt with
  | none=>rw [e] at hx;injection hx with hx;rw [← hx];exact hc
  | some f=>rw [e] at hx;injection hx with hx;rw [← hx];exact h f e
/-! How much there can be. -/
def sz (s:RS):Nat:=s.asked.length+s.ts.length
theorem sz_ps (s:RS):sz (ps s)≤sz s:=by unfold sz ps;simp
theorem sz_bd (c:Nat) (t:Tok) (s:RS):sz (bd c t s)≤sz s:=by unfold sz bd;simp
theorem sz_ask (t:Tok) (s:RS):sz (sAsk t s)=sz s+1:=by unfold sz sAsk;simp;omega
theorem sz_this (en:Tok) (k:Nat) (b:Tx) (s:RS):sz (sThis en k b s)≤sz s:=by unfold sThis;split;exact sz_ps s;exact sz_bd _ _ s
theorem sz_want (en:Tok) (k:Nat) (s:RS):sz (sWant en k s)≤sz s:=by unfold sWant;split;exact sz_ps s;exact Nat.le_trans (sz_ps _) (sz_bd _ _ s)
theorem sz_passed (en:Tok) (k:Nat) (b:Tx) (s:RS):sz (sPassed en k b s)≤sz s:=by unfold sPassed;split;exact sz_ps s;exact Nat.le_refl _
theorem sz_block (en:Tok) (s:RS):sz (sBlock en s)≤sz s:=by unfold sBlock;split;exact sz_ps s;exact Nat.le_trans (sz_ps _) (sz_bd _ _ s)
theorem sz_type (en:Tok) (s:RS):sz (sType en s)≤sz s:=by unfold sType;split;exact sz_want _ _ s;exact Nat.le_trans (sz_bd _ _ _) (sz_want _ _ s)
theorem sz_size (en:Tok) (s:RS):sz (sSize en s)≤sz s:=by unfold sSize;split;exact Nat.le_trans (sz_bd _ _ _) (sz_want _ _ s);exact sz_want _ _ s
theorem ts_of_kind {en:Tok} {s:RS} (he:en.kind=6) (h:(nx en s).kind≠6):s.ts.length≠0:=by
  intro e
  have:s.ts=[]:=List.length_eq_zero_iff.1 e
  unfold nx at h
  rw [this] at h
  exact h he
theorem sz_ps1 {s:RS} (h:s.ts.length≠0):sz (ps s)+1≤sz s:=by
  unfold sz ps
  simp
  omega
theorem sz_operand {en:Tok} (he:en.kind=6) (s:RS):sz (sOperand en s)≤sz s:=by
  unfold sOperand
  split
  · exact sz_ps s
  split
  · rename_i h4
    have h1:=ts_of_kind (s:=s) he (by rw [h4];decide)
    have:sz (ps (sAsk (nx en s) s))+1≤sz (sAsk (nx en s) s):=sz_ps1 h1
    rw [sz_ask] at this
    omega
  split
  · exact sz_ps s
  · exact Nat.le_trans (sz_ps _) (sz_bd _ _ s)
end Go.Proofs.YtmmlfmplggbmiaaGreatDoor
namespace Go.Proofs.YtmmlfmplggbmiaaGreatDoor
open Go.RowKit Go.Maps
set_option linter.unusedVariables false
set_option linter.unusedSimpArgs false
abbrev tkV (t:Tok):Value:=.agg #[.int .i64 t.kind,.string (str t.body),.int .i64 t.line,.int .i64 t.col]
section
variable {B b:Nat} {W w:World} {en:Tok} {m0 m1 m2 r:Value} {s:RS} {Z:As}
set_option maxRecDepth 100000 in
set_option maxHeartbeats 1000000 in
theorem next_any (h:Rd B W b en m0 m1 m2 r s Z w) :
    Calls Tryz.prog 78 #[.pointer (some ⟨b,0,none⟩)] w (fun e w' => e=.returned (tkV (nx en s))∧Below w.heap.size w w'):=by
  obtain ⟨hg,hf,tp,tn,tc,hs⟩:=h
  have hb:=hs.box
  have c0:=hb.get 0 _ rfl
  have c1:=hb.get 1 _ rfl
  have c2:=hb.get 2 _ rfl
  have c3:=hb.get 3 _ rfl
  have c4:=hb.get 4 _ rfl
  have hlt:=hb.1
  obtain ⟨hn,hnc,hcm,hcell,hblk⟩:=hs.sat.2.1
  have HB:∀ o,Below w.heap.size w (w.alloc o):=fun o=>(Below.refl _ _).alloc (Nat.le_refl _) o
  clear hs hb hg hf
  unfold nx tkV
  cases e:s.ts with
  | nil =>
    rw [e] at hn
    simp only [List.length_nil] at hn
    subst hn
    clear hcell hblk
    go_enter Tryz.func78,Tryz.ntmps78
    go_wp2_with fail
    refine bodyPost_ret (v:=tkV en) (by simp [results,Tryz.results78,go_sem,tkV]) rfl ⟨rfl,HB _⟩
  | cons t ts =>
    rw [e] at hn hcell
    simp only [List.length_cons] at hn
    obtain ⟨g,o,ea,k0⟩:=hcell 0 _ rfl
    obtain ⟨g',o',ea',k1⟩:=hcell 1 _ rfl
    rw [ea] at ea';cases ea'
    obtain ⟨g',o',ea',k2⟩:=hcell 2 _ rfl
    rw [ea] at ea';cases ea'
    obtain ⟨g',o',ea',k3⟩:=hcell 3 _ rfl
    rw [ea] at ea';cases ea'
    subst ea
    have hgl:=hblk g (cR_self ⟨g,o,none⟩)
    have hz:((tn:Int)==0)=false:=beq_false_of_ne (by omega)
    have hz2:0<tn:=by omega
    rw [Nat.add_zero] at k0
    clear hcell hblk hn
    go_enter Tryz.func78,Tryz.ntmps78
    go_wp2_with fail
    refine bodyPost_ret (v:=tkV t) (by simp [results,Tryz.results78,go_sem,tkV]) rfl ⟨rfl,HB _⟩
theorem ps_nil {s:RS} (h:s.ts=[]):(ps s).ts=s.ts:=by unfold ps;rw [h];rfl
theorem Rd.pass (h:Rd B W b en m0 m1 m2 r s Z w) {t:Tok} {ts:List Tok} (e:s.ts=t::ts):∃ g o tc,w.cell? ⟨b,0,none⟩=some (.slice (some ⟨g,o,none⟩) (ts.length+1) tc)∧ts.length+1≤tc∧tc≤maxLen ∧
    ∀ o',ts.length=0∨o' = o+4→Rd B W b en m0 m1 m2 r (ps s) Z (w.setCell ⟨b,0,none⟩ (.slice (some ⟨g,o',none⟩) ts.length (tc - 1))):=by
  obtain ⟨hg,hf,tp,tn,tc,hs⟩:=h
  obtain ⟨hn,hnc,hcm,hcell,hblk⟩:=hs.sat.2.1
  have hbx:=hs.box.get 0 _ rfl
  rw [e] at hn hcell
  simp only [List.length_cons] at hn
  obtain ⟨g,o,ea,k0⟩:=hcell 0 _ rfl
  subst ea hn
  refine ⟨g,o,tc,hbx,hnc,hcm,fun o' ho' => ⟨fun t ht=>hg t (by rw [e];unfold ps at ht;rw [e] at ht;exact List.mem_cons_of_mem _ ht),hf,some ⟨g,o',none⟩,ts.length,tc - 1,?_⟩⟩
  have ets:(ps s).ts=ts:=by unfold ps;rw [e];rfl
  rw [ets]
  have h2:=hs.set 0 (.slice (some ⟨g,o',none⟩) ts.length (tc - 1))
  refine h2.imp ⟨fun w x=>⟨x.1,?_,x.2.2⟩,fun k=>?_⟩
  · have x2:tkP (some ⟨g,o,none⟩) (ts.length+1) tc s.ts w:=x.2.1
    obtain ⟨q1,q2,q3,q4,q5⟩:=x2
    rw [e] at q4
    show tkP (some ⟨g,o',none⟩) ts.length (tc - 1) ts w
    refine ⟨rfl,by omega,by omega,fun j u hu=>⟨g,o',rfl,?_⟩,fun k hk=>q5 k hk⟩
    rcases ho' with ho' | rfl
    · rw [List.length_eq_zero_iff.1 ho'] at hu;cases hu
    obtain ⟨g',o',ea',k1⟩:=q4 (4+j) u (by
      rw [List.flatMap_cons,List.getElem?_append_right (by simp [tokC])]
      simpa [tokC] using hu)
    cases ea'
    rw [← Nat.add_assoc] at k1
    exact k1
  · exact Nat.le_refl _
set_option maxRecDepth 100000 in
set_option maxHeartbeats 1000000 in
theorem pass_any (h:Rd B W b en m0 m1 m2 r s Z w) :
    Calls Tryz.prog 114 #[.pointer (some ⟨b,0,none⟩)] w (fun e w' => e=.returned (.tuple #[])∧Rd B W b en m0 m1 m2 r (ps s) Z w'):=by
  have hb:Box b _ w:=h.2.2.choose_spec.choose_spec.choose_spec.box
  have hlt:=hb.1
  have hfr:=hb.2.1 0
  clear hb
  cases e:s.ts with
  | nil =>
    have hb:=h.2.2
    obtain ⟨tp,tn,tc,hs⟩:=hb
    have c0:=hs.box.get 0 _ rfl
    have hn:tn=s.ts.length:=hs.sat.2.1.1
    rw [e] at hn
    simp only [List.length_nil] at hn
    subst hn
    have HF:=Lib.hid (h.same (s':=ps s) (ps_nil e) rfl)
    clear h hs
    go_enter Tryz.func114,Tryz.ntmps114
    go_wp2_with fail
    go_end0
    exact ⟨rfl,HF.out⟩
  | cons t ts =>
    obtain ⟨g,o,tc,c0,h1,h2,hF⟩:=h.pass e
    have HF:=Lib.hid hF
    have hz:(0:Int)<((ts.length+1:Nat):Int):=by omega
    clear h hF
    obtain ⟨n,en⟩:∃ n,ts.length=n:=⟨_,rfl⟩
    rw [en] at c0 HF h1 hz
    clear en e
    go_enter Tryz.func114,Tryz.ntmps114
    go_wp2_with fail
    · subst_vars
      go_end0
      exact ⟨rfl,HF.out _ (.inl (by omega))⟩
    · go_end0
      exact ⟨rfl,HF.out _ (.inr rfl)⟩
theorem Rd.bad (h:Rd B W b en m0 m1 m2 r s Z w) (t:Tok) (c:Nat) (hc:c≠0) :
    (s.flt=none→Rd B W b en m0 m1 m2 r (bd c t s) Z ((((w.setCell ⟨b,5,none⟩ (.int .i64 c)).setCell ⟨b,6,none⟩ (.int .i64 t.line)).setCell ⟨b,7,none⟩ (.int .i64 t.col)).setCell ⟨b,0,none⟩ (.slice none 0 0))) ∧
    (s.flt≠none→Rd B W b en m0 m1 m2 r (bd c t s) Z (w.setCell ⟨b,0,none⟩ (.slice none 0 0))):=by
  obtain ⟨hg,hf,tp,tn,tc,hs⟩:=h
  have hok:=bd_flt (c:=c) (t0:=t) hf hc
  have fin:∀ w' cs,St B W ((As.and (bx b cs) (As.and (tk tp tn tc s.ts) Z))) w'→cs=rdC none 0 0 en (bd c t s).flt m0 m1 m2 r→Rd B W b en m0 m1 m2 r (bd c t s) Z w':=by
    intro w' cs h2 e
    subst e
    refine ⟨bd_gt c t s,hok,none,0,0,h2.imp ⟨fun w x=>⟨x.1,?_,x.2.2⟩,fun k=>?_⟩⟩
    · show tkP none 0 0 [] w
      exact ⟨rfl,Nat.le_refl _,Nat.zero_le _,fun j u hu=>(by cases hu),fun k hk=>absurd rfl hk⟩
    · simp only [As.and_c,tk_c]
      have:cR none k=0:=rfl
      omega
  refine ⟨fun e=>?_,fun e=>?_⟩
  · refine fin _ _ ((((hs.set 5 _).set 6 _).set 7 _).set 0 _) ?_
    unfold bd
    rw [e]
    rfl
  · refine fin _ _ (hs.set 0 _) ?_
    unfold bd
    cases e2:s.flt with
    | none=>exact absurd e2 e
    | some f=>rfl
set_option maxRecDepth 100000 in
set_option maxHeartbeats 1000000 in
theorem refuse_any (h:Rd B W b en m0 m1 m2 r s Z w) (t:Tok) (c:Nat) (hc:c≠0) (ci:Int) (eci:ci=(c:Int)) :
    Calls Tryz.prog 77 #[.pointer (some ⟨b,0,none⟩),.int .i64 ci,tkV t] w (fun e w' => e=.returned (.tuple #[])∧Rd B W b en m0 m1 m2 r (bd c t s) Z w'):=by
  subst eci
  obtain ⟨f1,f2⟩:=h.bad t c hc
  obtain ⟨hg,hf,tp,tn,tc,hs⟩:=h
  have hb:=hs.box
  have c0:=hb.get 0 _ rfl
  have c5:=hb.get 5 _ rfl
  have c6:=hb.get 6 _ rfl
  have c7:=hb.get 7 _ rfl
  have hlt:=hb.1
  have g0:=hb.2.1 0
  have g5:=hb.2.1 5
  have g6:=hb.2.1 6
  have g7:=hb.2.1 7
  have hz:=fC_zero hf
  clear hs hb hg hf
  unfold tkV
  cases e:s.flt with
  | none =>
    have HF:=Lib.hid (f1 e)
    rw [e] at c5 c6 c7
    simp only [fC,fL,fK] at c5 c6 c7
    clear f1 f2 hz e
    go_enter Tryz.func77,Tryz.ntmps77
    go_wp2_with fail
    go_end0
    exact ⟨rfl,HF.out.alloc _⟩
  | some f =>
    have HF:=Lib.hid (f2 (by rw [e];simp))
    have hne:(fC s.flt==0)=false:=beq_false_of_ne (fun x=>by rw [hz,e] at x;cases x)
    obtain ⟨q,eq⟩:∃ q,fC s.flt=q:=⟨_,rfl⟩
    rw [eq] at c5 hne
    clear f1 f2 hz e
    go_enter Tryz.func77,Tryz.ntmps77
    go_wp2_with fail
    go_end0
    exact ⟨rfl,HF.out.alloc _⟩
theorem refuse3 (h:Rd B W b en m0 m1 m2 r s Z w) (t:Tok) :
    Calls Tryz.prog 77 #[.pointer (some ⟨b,0,none⟩),.int .i64 3,tkV t] w (fun e w' => e=.returned (.tuple #[])∧Rd B W b en m0 m1 m2 r (bd 3 t s) Z w'):=refuse_any h t 3 (by decide) 3 rfl
theorem refuse4 (h:Rd B W b en m0 m1 m2 r s Z w) (t:Tok) :
    Calls Tryz.prog 77 #[.pointer (some ⟨b,0,none⟩),.int .i64 4,tkV t] w (fun e w' => e=.returned (.tuple #[])∧Rd B W b en m0 m1 m2 r (bd 4 t s) Z w'):=refuse_any h t 4 (by decide) 4 rfl
theorem refuse5 (h:Rd B W b en m0 m1 m2 r s Z w) (t:Tok) :
    Calls Tryz.prog 77 #[.pointer (some ⟨b,0,none⟩),.int .i64 5,tkV t] w (fun e w' => e=.returned (.tuple #[])∧Rd B W b en m0 m1 m2 r (bd 5 t s) Z w'):=refuse_any h t 5 (by decide) 5 rfl
theorem refuse6 (h:Rd B W b en m0 m1 m2 r s Z w) (t:Tok) :
    Calls Tryz.prog 77 #[.pointer (some ⟨b,0,none⟩),.int .i64 6,tkV t] w (fun e w' => e=.returned (.tuple #[])∧Rd B W b en m0 m1 m2 r (bd 6 t s) Z w'):=refuse_any h t 6 (by decide) 6 rfl
theorem refuse7 (h:Rd B W b en m0 m1 m2 r s Z w) (t:Tok) :
    Calls Tryz.prog 77 #[.pointer (some ⟨b,0,none⟩),.int .i64 7,tkV t] w (fun e w' => e=.returned (.tuple #[])∧Rd B W b en m0 m1 m2 r (bd 7 t s) Z w'):=refuse_any h t 7 (by decide) 7 rfl
theorem refuse8 (h:Rd B W b en m0 m1 m2 r s Z w) (t:Tok) :
    Calls Tryz.prog 77 #[.pointer (some ⟨b,0,none⟩),.int .i64 8,tkV t] w (fun e w' => e=.returned (.tuple #[])∧Rd B W b en m0 m1 m2 r (bd 8 t s) Z w'):=refuse_any h t 8 (by decide) 8 rfl
end
end Go.Proofs.YtmmlfmplggbmiaaGreatDoor
namespace Go.Proofs.YtmmlfmplggbmiaaGreatDoor
set_option linter.unusedVariables false
set_option linter.unusedSimpArgs false
theorem isW_of {w:Tx} (h0:0<w.length) (h:wordSize w=w.length):IsW w:=by
  cases w with
  | nil=>simp at h0
  | cons c r =>
    unfold wordSize at h
    dsimp only at h
    by_cases hc:isLetter c=true
    · rw [if_pos hc] at h
      refine ⟨c,r,rfl,hc,fun x hx=>?_⟩
      obtain ⟨i,hi,rfl⟩:=List.getElem_of_mem hx
      exact (runOf_at isOfWord (c::r) i (by rw [h];exact hi)).2
    · rw [if_neg hc] at h
      simp at h
theorem digit_wordL {x:UInt8} (h:isDigit x=true):isOfWord x=true:=by unfold isOfWord;rw [h];simp
theorem letter_wordL {x:UInt8} (h:isLetter x=true):isOfWord x=true:=by unfold isOfWord;rw [h];simp
theorem isW_dec {c:UInt8} (hc:isLetter c=true) (n:Nat):IsW (c::Lib.decDigits n) :=
  ⟨c,_,rfl,hc,fun x hx=>by
    rcases List.mem_cons.1 hx with rfl | h
    · exact letter_wordL hc
    · exact digit_wordL (dec_digit n x h)⟩
def isWB (w:Tx):Bool:=match w with | []=>false | c::r=>isLetter c&&(c::r).all isOfWord
theorem isW_B {w:Tx} (h:isWB w=true):IsW w:=by
  cases w with
  | nil=>simp [isWB] at h
  | cons c r =>
    unfold isWB at h
    rw [Bool.and_eq_true] at h
    exact ⟨c,r,rfl,h.1,List.all_eq_true.1 h.2⟩
theorem isW_type {t:Int} (h:tyB t=true):IsW (typeT t):=by
  have ht:=of_decide_eq_true h
  unfold typeT
  by_cases h0:t=0
  · rw [if_pos h0];exact isW_B (by decide)
  rw [if_neg h0]
  by_cases h1:t=65
  · rw [if_pos h1];exact isW_B (by decide)
  rw [if_neg h1,if_pos (by omega)]
  exact isW_dec (by decide) _
theorem isW_block (n:Int):IsW (blockT n):=isW_dec (by decide) _
theorem isW_op {op:Int} (h:1≤op∧op≤34):IsW (opT op):=by
  have:∀ k:Fin 35,0<k.val→isWB (opT (k.val:Int))=true:=by decide
  obtain ⟨k,rfl⟩:∃ k:Nat,op=(k:Int):=⟨op.toNat,by omega⟩
  exact isW_B (this ⟨k,by omega⟩ (by show 0<k;omega))
theorem Stop.cons {p:UInt8→Bool} {c:UInt8} {t:Tx} (h:p c=false):Stop p (c::t):=fun d r e=>by
  injection e with e1 e2
  subst e1
  exact h
theorem Stop.digit {t:Tx} (h:Stop isOfWord t):Stop isDigit t:=fun c r e=>by
  have:=h c r e
  cases hd:isDigit c with
  | false=>rfl
  | true=>rw [digit_wordL hd] at this;cases this
def argP (gs:List PVar) (a:Arg):List (Nat×Tx) :=
  if a.kind=1 then [(3,decI a.n)] else if a.kind=2 then [(2,decI a.bits)] else if a.kind=3 then [(1,[112,111,105,115,111,110])] else if a.kind=4 then [(1,[110,117,108,108])]
  else [(4,match gs[a.n.toNat]? with | some g=>byt g.nm | none=>[])]
theorem Lx.arg {m:PMod} {a:Arg} {t:Tx} (h:argB m a=true) (hw:∀ v∈m.vs,IsW (byt v.nm)) (hb:0≤a.bits∧a.bits<18446744073709551616) (ht:Stop isOfWord t):Lx (argT m.vs a) (argP m.vs a) t:=by
  unfold argB at h
  unfold argT argP
  by_cases k1:a.kind=1
  · rw [if_pos k1] at h
    rw [if_pos k1,if_pos k1]
    rw [Bool.and_eq_true] at h
    have h1:=of_decide_eq_true h.1
    exact Lx.reg (by omega) ht.digit
  rw [if_neg k1] at h
  rw [if_neg k1,if_neg k1]
  by_cases k2:a.kind=2
  · rw [if_pos k2,if_pos k2]
    exact Lx.num (by omega) ht.digit
  rw [if_neg k2] at h
  rw [if_neg k2,if_neg k2]
  by_cases k3:a.kind=3
  · rw [if_pos k3,if_pos k3]
    exact Lx.word (isW_B (by decide)) ht
  rw [if_neg k3,if_neg k3]
  by_cases k4:a.kind=4
  · rw [if_pos k4,if_pos k4]
    exact Lx.word (isW_B (by decide)) ht
  rw [if_neg k4,if_neg k4]
  rw [if_neg (by omega)] at h
  by_cases k5:a.kind=5
  · rw [if_pos k5] at h
    have h5:=of_decide_eq_true h
    have hl:a.n.toNat<m.vs.length:=by omega
    rw [List.getElem?_eq_getElem hl]
    exact Lx.at (hw _ (List.getElem_mem hl)) ht
  · rw [if_neg k5] at h
    cases h
def sepP:List (List (Nat×Tx))→List (Nat×Tx)
  | []=>[]
  | [x]=>x
  | x::y::l=>x++[(5,[44])]++sepP (y::l)
theorem Lx.comma (t:Tx):Lx [44,32] [(5,[44])] t:=Lx.app (s:=[44]) (u:=[32]) (Q:=[]) (Lx.mark (by decide) _) (Lx.blank t)
theorem Lx.sep:∀ (l:List (Tx×List (Nat×Tx))) {t:Tx},(∀ x∈l,∀ t,Stop isOfWord t→Lx x.1 x.2 t)→Stop isOfWord t→Lx (listT (l.map Prod.fst)) (sepP (l.map Prod.snd)) t
  | [],t,h,ht=>Lx.nil t
  | [x],t,h,ht=>h x (by simp) t ht
  | x::y::l,t,h,ht=>by
    have ih:=Lx.sep (y::l) (t:=t) (fun z hz=>h z (List.mem_cons_of_mem _ hz)) ht
    refine Lx.app (Lx.app (s:=x.1) (u:=[44,32]) (h x (by simp) _ ?_) (Lx.comma _)) ih
    exact Stop.cons (by decide)
theorem Lx.list {α:Type} {f:α→Tx} {g:α→List (Nat×Tx)} {l:List α} {t:Tx} (h:∀ x∈l,∀ t,Stop isOfWord t→Lx (f x) (g x) t) (ht:Stop isOfWord t):Lx (listT (l.map f)) (sepP (l.map g)) t:=by
  have:=Lx.sep (l.map fun x=>(f x,g x)) (t:=t) (fun y hy=>by
    obtain ⟨x,hx,rfl⟩:=List.mem_map.1 hy
    exact h x hx) ht
  rw [List.map_map,List.map_map] at this
  exact this
theorem Lx.type {ty:Int} {t:Tx} (h:tyB ty=true) (ht:Stop isOfWord t):Lx (typeT ty) [(1,typeT ty)] t:=Lx.word (isW_type h) ht
theorem Lx.sp {s t:Tx} {P:List (Nat×Tx)} (h:Lx s P t):Lx (32::s) P t:=Lx.app (s:=[32]) (P:=[]) (Lx.blank _) h
theorem Lx.ms {c:UInt8} {s t:Tx} {P:List (Nat×Tx)} (hc:isMark c=true) (h:Lx s P t):Lx (c::s) ((5,[c])::P) t:=Lx.app (s:=[c]) (P:=[(5,[c])]) (Lx.mark hc _) h
theorem stop_sp (t:Tx):Stop isOfWord (32::t):=Stop.cons (by decide)
theorem stop_nl (t:Tx):Stop isOfWord (10::t):=Stop.cons (by decide)
def headP (nm:ByteArray) (ps:List Int) (rt:Int):List (Nat×Tx):=(1,byt nm)::(5,[40])::(sepP (ps.map fun t=>[(1,typeT t)])++[(5,[41]),(1,typeT rt),(6,[])])
theorem Lx.head {nm:ByteArray} {ps:List Int} {rt:Int} (hn:IsW (byt nm)) (hp:∀ t∈ps,tyB t=true) (hr:tyB rt=true) (t:Tx):Lx (headT nm ps rt) (headP nm ps rt) t:=by
  unfold headT headP
  refine Lx.app (P:=[(1,byt nm)]) (Lx.word hn (Stop.cons (by decide))) (Lx.ms (by decide) ?_)
  have h3:Lx (41::32::(typeT rt++[10])) [(5,[41]),(1,typeT rt),(6,[])] t :=
    Lx.ms (by decide) (Lx.sp (Lx.app (P:=[(1,typeT rt)]) (Lx.type hr (stop_nl _)) (Lx.line t)))
  have h2:=Lx.app (s:=listT (ps.map typeT)) (u:=41::32::(typeT rt++[10])) (Lx.list (f:=typeT) (g:=fun t=>[(1,typeT t)]) (fun x hx t ht=>Lx.type (hp x hx) ht) (Stop.cons (by decide))) h3
  simpa [List.append_assoc] using h2
def varP (v:PVar):List (Nat×Tx):=[(1,[103,108,111,98,97,108]),(1,byt v.nm),(2,decI v.size),(6,[])]
theorem Lx.var {v:PVar} (hn:IsW (byt v.nm)) (hs:0≤v.size∧v.size<18446744073709551616) (t:Tx):Lx (varT v) (varP v) t:=by
  have h3:Lx (32::(decI v.size++[10])) [(2,decI v.size),(6,[])] t:=Lx.sp (Lx.app (P:=[(2,decI v.size)]) (Lx.num (by omega) (Stop.digit (stop_nl _))) (Lx.line t))
  have h2:=Lx.app (s:=byt v.nm) (P:=[(1,byt v.nm)]) (Lx.word hn (stop_sp _)) h3
  have h1:=Lx.app (s:=[103,108,111,98,97,108]) (P:=[(1,[103,108,111,98,97,108])]) (Lx.word (isW_B (by decide)) (stop_sp _)) (Lx.sp h2)
  unfold varT
  rw [List.append_assoc]
  exact h1
def extP (x:PExt):List (Nat×Tx):=(1,[101,120,116,101,114,110])::headP x.nm x.ps x.rt
theorem Lx.ext {x:PExt} (hn:IsW (byt x.nm)) (hp:∀ t∈x.ps,tyB t=true) (hr:tyB x.rt=true) (t:Tx):Lx (extT x) (extP x) t :=
  Lx.app (s:=[101,120,116,101,114,110]) (P:=[(1,[101,120,116,101,114,110])]) (Lx.word (isW_B (by decide)) (stop_sp _)) (Lx.sp (Lx.head hn hp hr t))
def flagsQ (fl:Int):List (Nat×Tx):=(if fl % 2=1 then [(1,[110,115,119])] else [])++(if fl / 2 % 2=1 then [(1,[110,117,119])] else [])++(if fl / 4=1 then [(1,[101,120,97,99,116])] else [])
theorem dec_len':∀ (k n:Nat),n<10 ^ (k+1)→(Lib.decDigits n).length≤k+1
  | 0,n,h=>by rw [Lib.decDigits_one (by omega)];simp
  | k + 1,n,h=>by
    by_cases h1:n<10
    · rw [Lib.decDigits_one h1];simp
    · rw [Lib.decDigits,dif_neg h1,List.length_append]
      have:=dec_len' k (n / 10) (by rw [Nat.div_lt_iff_lt_mul (by omega)];rw [Nat.pow_succ] at h;exact h)
      simp
      omega
theorem decI_len {n:Int} (h:n<18446744073709551616):(decI n).length≤20:=dec_len' 19 n.toNat (by omega)
theorem typeT_len' (t:Int):(typeT t).length≤21:=by
  unfold typeT
  split
  · simp
  split
  · simp
  split
  · rename_i h
    have:=decI_len (n:=t) (by omega)
    simp
    omega
  · simp
theorem sepBy_len (sep:Tx) (K:Nat):∀ (l:List Tx),(∀ x∈l,x.length≤K)→(sepBy sep l).length≤l.length * (K+sep.length)
  | [],_=>by simp [sepBy]
  | [x],h=>by
    have:=h x (List.mem_singleton.2 rfl)
    simp [sepBy]
    omega
  | x::y::l,h=>by
    have h1:=h x (List.mem_cons_self ..)
    have h2:=sepBy_len sep K (y::l) (fun z hz=>h z (List.mem_cons_of_mem _ hz))
    show (x++sep++sepBy sep (y::l)).length≤((y::l).length+1) * (K+sep.length)
    rw [List.length_append,List.length_append,Nat.add_mul]
    omega
theorem flatT_len {α:Type} (f:α→Tx) (z:α→Nat) (K:Nat):∀ (l:List α),(∀ x∈l,(f x).length≤z x * K)→(l.map f).flatten.length≤(l.map z).sum * K
  | [],_=>by simp
  | x::l,h=>by
    have h1:=h x (List.mem_cons_self ..)
    have h2:=flatT_len f z K l (fun y hy=>h y (List.mem_cons_of_mem _ hy))
    rw [List.map_cons,List.map_cons,List.flatten_cons,List.length_append,List.sum_cons,Nat.add_mul]
    omega
theorem flatT_step {α:Type} (f:α→Tx) (l:List α) (i:Nat) (h:i<l.length):((l.take (i+1)).map f).flatten=((l.take i).map f).flatten++f l[i]:=by
  rw [List.take_succ_eq_append_getElem h,List.map_append,List.flatten_append]
  simp
structure LenOk (m:PMod):Prop where
  vs:∀ v∈m.vs,v.nm.size≤1048576
  xs:∀ x∈m.xs,x.nm.size≤1048576
  fs:∀ f∈m.fs,f.nm.size≤1048576
  z:modZ m≤1048576
def insW (x:PIns):Prop:=x.n≤9223372036854775807∧∀ a∈x.args,0≤a.bits∧a.bits<18446744073709551616
theorem byt_len (s:ByteArray):(byt s).length=s.size:=by simp [byt]
theorem argT_len {m:PMod} (hm:LenOk m) {a:Arg} (h:argB m a=true) (hb:a.bits<18446744073709551616):(argT m.vs a).length≤1048600:=by
  unfold argB at h
  unfold argT regT
  split
  · rename_i e
    rw [if_pos e,Bool.and_eq_true] at h
    have h1:0≤a.n∧a.n≤4095:=of_decide_eq_true h.1
    have:=decI_len (n:=a.n) (by omega)
    simp
    omega
  split
  · have:=decI_len (n:=a.bits) hb
    omega
  split
  · simp
  split
  · simp
  · cases e:m.vs[a.n.toNat]? with
    | none=>simp
    | some g =>
      have:=hm.vs g (List.mem_of_getElem? e)
      simp [byt_len]
      omega
theorem calT_len {m:PMod} (hm:LenOk m) (n:Int):(calT m.xs m.fs n).length≤1048576:=by
  unfold calT
  split
  · cases e:m.fs[n.toNat]? with
    | none=>simp
    | some g=>rw [byt_len];exact hm.fs g (List.mem_of_getElem? e)
  · cases e:m.xs[(-1 - n).toNat]? with
    | none=>simp
    | some g=>rw [byt_len];exact hm.xs g (List.mem_of_getElem? e)
theorem blockT_len {n:Int} (h:n<18446744073709551616):(blockT n).length≤21:=by
  have:=decI_len h
  unfold blockT
  simp
  omega
theorem opT_len (op:Int):(opT op).length≤6:=by
  by_cases h:op.toNat<35
  · have:∀ j:Fin 35,(opT (j.val:Int)).length≤6:=by decide
    have h2:=this ⟨op.toNat,h⟩
    have e:opT ((op.toNat:Nat):Int)=opT op:=by unfold opT;rw [Int.toNat_natCast]
    rw [← e]
    exact h2
  · unfold opT
    rw [List.getElem?_eq_none (by simp;omega)]
    simp
theorem flagsT_len (fl:Int):(flagsT fl).length≤14:=by
  unfold flagsT
  rw [List.length_append,List.length_append]
  have h1:(if fl % 2=1 then [32,110,115,119] else []:Tx).length≤4:=by split <;> simp
  have h2:(if fl / 2 % 2=1 then [32,110,117,119] else []:Tx).length≤4:=by split <;> simp
  have h3:(if fl / 4=1 then [32,101,120,97,99,116] else []:Tx).length≤6:=by split <;> simp
  omega
theorem insB_arg {m:PMod} {x:PIns} (h:insB m x=true):∀ a∈x.args,argB m a=true:=by
  unfold insB at h
  simp only [Bool.and_eq_true] at h
  exact List.all_eq_true.1 h.2
theorem insB_tg {m:PMod} {x:PIns} (h:insB m x=true):∀ t∈x.tg,0≤t∧t≤999:=by
  unfold insB at h
  simp only [Bool.and_eq_true] at h
  intro t ht
  exact of_decide_eq_true (List.all_eq_true.1 h.1.2 t ht)
theorem insB_reg {m:PMod} {x:PIns} (h:insB m x=true):x.reg≤4095:=by
  unfold insB at h
  simp only [Bool.and_eq_true] at h
  have h1:=h.1.1.2
  unfold hasRegB at h1
  split at h1
  · omega
  · rw [Bool.and_eq_true] at h1
    have:0≤x.reg∧x.reg≤4095:=of_decide_eq_true h1.1
    omega
theorem listA_len {m:PMod} (hm:LenOk m) {l:List Arg} (h:∀ a∈l,argB m a=true) (hb:∀ a∈l,0≤a.bits∧a.bits<18446744073709551616):(listT (l.map (argT m.vs))).length≤l.length * 1048602:=by
  have:=sepBy_len [44,32] 1048600 (l.map (argT m.vs)) (fun x hx=>by
    obtain ⟨a,ha,rfl⟩:=List.mem_map.1 hx
    exact argT_len hm (h a ha) (hb a ha).2)
  rw [List.length_map] at this
  exact this
theorem listP_len (ps:List Int):(listT (ps.map typeT)).length≤ps.length * 23:=by
  have:=sepBy_len [44,32] 21 (ps.map typeT) (fun x hx=>by
    obtain ⟨a,ha,rfl⟩:=List.mem_map.1 hx
    exact typeT_len' a)
  rw [List.length_map] at this
  exact this
theorem headT_len (nm:ByteArray) (ps:List Int) (rt:Int) (h:nm.size≤1048576):(headT nm ps rt).length≤1048610+ps.length * 23:=by
  unfold headT
  have h1:=listP_len ps
  have h2:=typeT_len' rt
  simp only [List.length_append,List.length_cons,List.length_nil,byt_len]
  omega
theorem behindT_len {m:PMod} (hm:LenOk m) {x:PIns} (h:insB m x=true) (hw:insW x):(behindT m x).length≤1048700+(x.args.length+x.tg.length) * 1048700:=by
  have hl:=listA_len hm (insB_arg h) hw.2
  have t1:=typeT_len' x.n
  have t2:=typeT_len' x.ty
  have c1:=calT_len hm x.n
  have d1:=decI_len (n:=x.n) (by have:=hw.1;omega)
  unfold behindT
  split
  · simp only [List.length_cons,List.length_append,List.length_nil];omega
  split
  · have hz:(listT ((x.tg.zip x.args).map (pairT m.vs))).length≤x.tg.length * 1048700:=by
      have:=sepBy_len [44,32] 1048690 ((x.tg.zip x.args).map (pairT m.vs)) (fun y hy=>by
        obtain ⟨p,hp,rfl⟩:=List.mem_map.1 hy
        have ha:=argT_len hm (insB_arg h p.2 (List.of_mem_zip hp).2) (hw.2 p.2 (List.of_mem_zip hp).2).2
        have hb:=blockT_len (n:=p.1) (by have:=insB_tg h p.1 (List.of_mem_zip hp).1;omega)
        unfold pairT
        simp only [List.length_append,List.length_cons]
        omega)
      rw [List.length_map,List.length_zip] at this
      refine Nat.le_trans this ?_
      have:min x.tg.length x.args.length≤x.tg.length:=Nat.min_le_left _ _
      simp only [List.length_cons,List.length_nil]
      omega
    split
    · simp;omega
    · simp only [List.length_cons,List.length_append];omega
  split
  · simp only [List.length_cons];omega
  split
  · simp only [List.length_cons,List.length_append,List.length_nil];omega
  split
  · have hz:(listT (x.args.map (argT m.vs)++x.tg.map blockT)).length≤(x.args.length+x.tg.length) * 1048602:=by
      have:=sepBy_len [44,32] 1048600 (x.args.map (argT m.vs)++x.tg.map blockT) (fun y hy=>by
        rcases List.mem_append.1 hy with hy | hy
        · obtain ⟨a,ha,rfl⟩:=List.mem_map.1 hy
          exact argT_len hm (insB_arg h a ha) (hw.2 a ha).2
        · obtain ⟨t,ht,rfl⟩:=List.mem_map.1 hy
          have hb:=blockT_len (n:=t) (by have:=insB_tg h t ht;omega)
          omega)
      rw [List.length_append,List.length_map,List.length_map] at this
      exact this
    simp only [List.length_cons]
    omega
  split
  · simp
  · simp only [List.length_cons,List.length_append];omega
theorem insT_len {m:PMod} (hm:LenOk m) {x:PIns} (h:insB m x=true) (hw:insW x):(insT m x).length+3≤insZ x * 4194304:=by
  have h1:=behindT_len hm h hw
  have h2:=opT_len x.op
  have h3:=flagsT_len x.fl
  have h4:=decI_len (n:=x.reg) (by have:=insB_reg h;omega)
  unfold insT insZ regT
  have h5:(if 0≤x.reg then (37::decI x.reg)++[32,61,32] else []:Tx).length≤24:=by
    split
    · simp;omega
    · simp
  rw [List.length_append,List.length_append,List.length_append]
  omega
theorem lineT_len {m:PMod} (hm:LenOk m) {x:PIns} (h:insB m x=true) (hw:insW x):(lineT m x).length≤insZ x * 4194304:=by
  have:=insT_len hm h hw
  unfold lineT
  simp only [List.length_append,List.length_cons,List.length_nil]
  omega
theorem blkT_len {m:PMod} (hm:LenOk m) {c:List PIns} (h:c.all (insB m)=true) (hw:∀ x∈c,insW x) (i:Nat) (hi:i<18446744073709551616):(blkT m i c).length≤(1+codeZ c) * 4194304:=by
  have h1:=flatT_len (lineT m) insZ 4194304 c (fun x hx=>lineT_len hm (List.all_eq_true.1 h x hx) (hw x hx))
  have h2:=blockT_len (n:=(i:Int)) (by omega)
  unfold blkT codeZ
  rw [List.length_append,List.length_append]
  simp only [List.length_cons,List.length_nil]
  omega
theorem blks_len {m:PMod} (hm:LenOk m):∀ (bs:List (List PIns)) (j:Nat),(∀ c∈bs,c.all (insB m)=true)→(∀ c∈bs,∀ x∈c,insW x)→j+bs.length<18446744073709551616→(bs.mapIdx fun i=>blkT m (i+j)).flatten.length≤blksZ bs * 4194304
  | [],_,_,_,_=>by simp
  | c :: bs,j,h,hw,hj=>by
    have h1:=blkT_len hm (h c (List.mem_cons_self ..)) (hw c (List.mem_cons_self ..)) (0+j) (by simp at hj;omega)
    have h2:=blks_len hm bs (j+1) (fun d hd=>h d (List.mem_cons_of_mem _ hd)) (fun d hd=>hw d (List.mem_cons_of_mem _ hd)) (by simp at hj;omega)
    rw [List.mapIdx_cons,List.flatten_cons,List.length_append]
    have e:(bs.mapIdx fun i=>blkT m (i+1+j))=bs.mapIdx fun i=>blkT m (i+(j+1)):=by
      congr 1
      funext i
      rw [show i+1+j=i+(j+1) by omega]
    unfold blksZ at h2 ⊢
    rw [e,List.map_cons,List.sum_cons,Nat.add_mul]
    omega
theorem fnT_len {m:PMod} (hm:LenOk m) {f:PFn} (hn:f.nm.size≤1048576) (h:∀ c∈f.bs,c.all (insB m)=true) (hw:∀ c∈f.bs,∀ x∈c,insW x) (hl:f.bs.length≤1048576):(fnT m f).length≤fnZ f * 4194304:=by
  have h1:=headT_len f.nm f.ps f.rt hn
  have h2:=blks_len hm f.bs 0 h hw (by omega)
  unfold fnT fnZ
  rw [List.length_append,List.length_append,List.length_append]
  have e:f.bs.mapIdx (blkT m)=f.bs.mapIdx fun i=>blkT m (i+0):=rfl
  rw [e]
  simp only [List.length_cons,List.length_nil]
  omega
theorem varT_len {v:PVar} (h:v.nm.size≤1048576) (hs:v.size≤9223372036854775807):(varT v).length≤1 * 4194304:=by
  have:=decI_len (n:=v.size) (by omega)
  unfold varT
  simp only [List.length_append,List.length_cons,List.length_nil,byt_len]
  omega
theorem extT_len {x:PExt} (h:x.nm.size≤1048576):(extT x).length≤extZ x * 4194304:=by
  have:=headT_len x.nm x.ps x.rt h
  unfold extT extZ
  rw [List.length_append]
  simp only [List.length_cons,List.length_nil]
  omega
theorem modT_len {wd:Tx→Bool} {m:PMod} (hm:LenOk m) (hv:∀ v∈m.vs,v.size≤9223372036854775807) (hw:∀ f∈m.fs,∀ c∈f.bs,∀ x∈c,insW x) (h:sayB wd m=true):(modT m).length≤4398046511104:=by
  have h1:=flatT_len varT (fun _=>1) 4194304 m.vs (fun v hv' => varT_len (hm.vs v hv') (hv v hv'))
  have h2:=flatT_len extT extZ 4194304 m.xs (fun x hx=>extT_len (hm.xs x hx))
  have hz:=hm.z
  have h3:=flatT_len (fnT m) fnZ 4194304 m.fs (fun f hf=>fnT_len hm (hm.fs f hf) (fun c hc=>by
    unfold sayB at h
    rw [Bool.and_eq_true] at h
    have:=List.all_eq_true.1 h.2 f hf
    unfold fnB at this
    rw [Bool.and_eq_true] at this
    exact List.all_eq_true.1 this.2 c hc) (hw f hf) (by
      have a1:=blksZ_len f.bs
      have a2:fnZ f≤(m.fs.map fnZ).sum:=sum_mem fnZ hf
      unfold fnZ at a2
      unfold modZ at hz
      unfold fnZ at hz
      omega))
  unfold modT
  unfold modZ at hz
  rw [List.length_append,List.length_append]
  have e:(m.vs.map fun _=>(1:Nat)).sum=m.vs.length:=sum_one m.vs
  rw [e] at h1
  omega
theorem Lx.opt {c:Prop} [Decidable c] {w t:Tx} (hw:IsW w) (ht:Stop isOfWord t):Lx (if c then 32::w else []) (if c then [(1,w)] else []) t:=by
  split
  · exact Lx.sp (Lx.word hw ht)
  · exact Lx.nil t
theorem stop_opt {c:Prop} [Decidable c] {w u:Tx} (hu:Stop isOfWord u):Stop isOfWord ((if c then 32::w else [])++u):=by
  split
  · exact stop_sp _
  · exact hu
theorem Lx.flags {fl:Int} {t:Tx} (ht:Stop isOfWord t):Lx (flagsT fl) (flagsQ fl) t :=
  Lx.app (Lx.app (Lx.opt (isW_B (by decide)) (stop_opt (stop_opt ht))) (Lx.opt (isW_B (by decide)) (stop_opt ht))) (Lx.opt (isW_B (by decide)) ht)
theorem stop_flags {fl:Int} {u:Tx} (hu:Stop isOfWord u):Stop isOfWord (flagsT fl++u):=by
  unfold flagsT
  rw [List.append_assoc,List.append_assoc]
  exact stop_opt (stop_opt (stop_opt hu))
def pairP (gs:List PVar) (p:Int×Arg):List (Nat×Tx):=(1,blockT p.1)::argP gs p.2
def behindQ (m:PMod) (x:PIns):List (Nat×Tx) :=
  if 20≤x.op∧x.op≤22 then (1,typeT x.n)::(sepP (x.args.map (argP m.vs))++[(1,[116,111]),(1,typeT x.ty)])
  else if x.op=25 then (1,typeT x.ty)::(if x.args=[] then [] else sepP ((x.tg.zip x.args).map (pairP m.vs)))
  else if x.op=26 then [(2,decI x.n)]
  else if x.op=30 then (1,calT m.xs m.fs x.n)::(5,[40])::(sepP (x.args.map (argP m.vs))++[(5,[41])])
  else if x.op=29∨x.op=31∨x.op=32 then sepP (x.args.map (argP m.vs)++x.tg.map fun b=>[(1,blockT b)])
  else if x.op=34∨x.op=33∧x.args=[] then []
  else (1,typeT x.ty)::sepP (x.args.map (argP m.vs))
theorem stop_behind {m:PMod} {x:PIns} {u:Tx} (hu:Stop isOfWord u):Stop isOfWord (behindT m x++u):=by
  unfold behindT
  by_cases c:20≤x.op∧x.op≤22
  · rw [if_pos c];exact stop_sp _
  rw [if_neg c]
  by_cases c:x.op=25
  · rw [if_pos c];exact stop_sp _
  rw [if_neg c]
  by_cases c:x.op=26
  · rw [if_pos c];exact stop_sp _
  rw [if_neg c]
  by_cases c:x.op=30
  · rw [if_pos c];exact stop_sp _
  rw [if_neg c]
  by_cases c:x.op=29∨x.op=31∨x.op=32
  · rw [if_pos c];exact stop_sp _
  rw [if_neg c]
  by_cases c:x.op=34∨x.op=33∧x.args=[]
  · rw [if_pos c];exact hu
  rw [if_neg c]
  exact stop_sp _
structure Nms (m:PMod):Prop where
  vs:∀ v∈m.vs,IsW (byt v.nm)
  xs:∀ x∈m.xs,IsW (byt x.nm)
  fs:∀ f∈m.fs,IsW (byt f.nm)
theorem isW_cal {m:PMod} (hN:Nms m) {n t:Int} (h:calR m.xs m.fs n=some t):IsW (calT m.xs m.fs n):=by
  unfold calR at h
  unfold calT
  by_cases c:0≤n
  · rw [if_pos c] at h ⊢
    cases e:m.fs[n.toNat]? with
    | none=>rw [e] at h;cases h
    | some f=>exact hN.fs f (List.mem_of_getElem? e)
  · rw [if_neg c] at h ⊢
    cases e:m.xs[(-1 - n).toNat]? with
    | none=>rw [e] at h;cases h
    | some f=>exact hN.xs f (List.mem_of_getElem? e)
theorem Lx.behind {m:PMod} {x:PIns} {t:Tx} (h:insB m x=true) (hN:Nms m) (hx:insW x) (ht:Stop isOfWord t):Lx (behindT m x) (behindQ m x) t:=by
  unfold insB at h
  simp only [Bool.and_eq_true,decide_eq_true_eq] at h
  obtain ⟨⟨⟨⟨⟨⟨⟨hop,hcnt⟩,hty⟩,hnum⟩,hfl⟩,hreg⟩,htg⟩,hargs⟩:=h
  have hA:∀ a∈x.args,∀ t,Stop isOfWord t→Lx (argT m.vs a) (argP m.vs a) t:=fun a ha t ht=>Lx.arg (List.all_eq_true.1 hargs a ha) hN.vs (hx.2 a ha) ht
  unfold behindT behindQ
  unfold hasTyB at hty
  unfold numB at hnum
  by_cases c:20≤x.op∧x.op≤22
  · rw [if_pos c,if_pos c]
    rw [if_pos c] at hnum
    rw [if_neg (by omega),if_neg (by omega),if_neg (by omega),if_neg (by omega)] at hty
    refine Lx.sp (Lx.app (P:=[(1,typeT x.n)]) (Lx.type hnum (stop_sp _)) (Lx.sp ?_))
    have h4:Lx (32::[116,111]++32::typeT x.ty) [(1,[116,111]),(1,typeT x.ty)] t:=Lx.app (P:=[(1,[116,111])]) (Lx.sp (Lx.word (isW_B (by decide)) (stop_sp _))) (Lx.sp (Lx.type hty ht))
    have h5:=Lx.app (Lx.list hA (stop_sp _)) h4
    simpa [List.append_assoc] using h5
  rw [if_neg c,if_neg c]
  rw [if_neg c] at hnum
  by_cases c5:x.op=25
  · rw [if_pos c5,if_pos c5]
    rw [if_neg (by omega),if_neg (by omega),if_neg (by omega),if_neg (by omega)] at hty
    refine Lx.sp ?_
    by_cases ca:x.args=[]
    · rw [if_pos ca,if_pos ca,List.append_nil]
      exact Lx.type hty ht
    · rw [if_neg ca,if_neg ca]
      refine Lx.app (P:=[(1,typeT x.ty)]) (Lx.type hty (stop_sp _)) (Lx.sp (Lx.list (fun p hp t ht=>?_) ht))
      exact Lx.app (P:=[(1,blockT p.1)]) (Lx.word (isW_block _) (stop_sp _)) (Lx.sp (hA p.2 (List.of_mem_zip hp).2 t ht))
  rw [if_neg c5,if_neg c5]
  by_cases c6:x.op=26
  · rw [if_pos c6,if_pos c6]
    rw [if_pos c6] at hnum
    have hn:=of_decide_eq_true hnum
    exact Lx.sp (Lx.num (by have:=hx.1;omega) ht.digit)
  rw [if_neg c6,if_neg c6]
  by_cases c7:x.op=30
  · rw [if_pos c7,if_pos c7]
    rw [if_neg (by omega),if_pos c7] at hty
    have hcal:=isW_cal hN (of_decide_eq_true hty)
    refine Lx.sp (Lx.app (P:=[(1,calT m.xs m.fs x.n)]) (Lx.word hcal (Stop.cons (by decide))) (Lx.ms (by decide) ?_))
    exact Lx.app (Lx.list hA (Stop.cons (by decide))) (Lx.mark (by decide) t)
  rw [if_neg c7,if_neg c7]
  by_cases c8:x.op=29∨x.op=31∨x.op=32
  · rw [if_pos c8,if_pos c8]
    refine Lx.sp ?_
    have:=Lx.sep (x.args.map (fun a=>(argT m.vs a,argP m.vs a))++x.tg.map fun b=>(blockT b,[(1,blockT b)])) (t:=t) (fun y hy t ht=>by
      rcases List.mem_append.1 hy with hy | hy
      · obtain ⟨a,ha,rfl⟩:=List.mem_map.1 hy
        exact hA a ha t ht
      · obtain ⟨b,hb,rfl⟩:=List.mem_map.1 hy
        exact Lx.word (isW_block _) ht) ht
    rw [List.map_append,List.map_append,List.map_map,List.map_map,List.map_map,List.map_map] at this
    exact this
  rw [if_neg c8,if_neg c8]
  by_cases c9:x.op=34∨x.op=33∧x.args=[]
  · rw [if_pos c9,if_pos c9]
    exact Lx.nil t
  rw [if_neg c9,if_neg c9]
  have hty2:tyB x.ty=true:=by
    rw [if_neg (by omega),if_neg (by omega),if_neg (by omega)] at hty
    by_cases c3:x.op=33
    · rw [if_pos c3] at hty
      rw [Bool.and_eq_true] at hty
      exact hty.1
    · rw [if_neg c3] at hty
      exact hty
  by_cases ca:x.args=[]
  · rw [ca]
    refine Lx.sp (Lx.app (P:=[(1,typeT x.ty)]) (Lx.type hty2 (stop_sp _)) ?_)
    exact Lx.blank t
  · exact Lx.sp (Lx.app (P:=[(1,typeT x.ty)]) (Lx.type hty2 (stop_sp _)) (Lx.sp (Lx.list hA ht)))
def lineQ (m:PMod) (x:PIns):List (Nat×Tx):=(if 0≤x.reg then [(3,decI x.reg),(5,[61])] else [])++((1,opT x.op)::(flagsQ x.fl++(behindQ m x++[(6,[])])))
theorem Lx.lineT {m:PMod} {x:PIns} (h:insB m x=true) (hN:Nms m) (hx:insW x) (t:Tx):Lx (lineT m x) (lineQ m x) t:=by
  have hB:=fun {t:Tx}=>Lx.behind (t:=t) h hN hx
  unfold insB at h
  simp only [Bool.and_eq_true,decide_eq_true_eq] at h
  obtain ⟨⟨⟨⟨⟨⟨⟨hop,hcnt⟩,hty⟩,hnum⟩,hfl⟩,hreg⟩,htg⟩,hargs⟩:=h
  have h1:Lx (behindT m x++[10]) (behindQ m x++[(6,[])]) t:=Lx.app (hB (stop_nl _)) (Lx.line t)
  have h2:Lx (flagsT x.fl++(behindT m x++[10])) (flagsQ x.fl++(behindQ m x++[(6,[])])) t:=Lx.app (Lx.flags (by rw [List.append_assoc];exact stop_behind (stop_nl _))) h1
  have h3:Lx (opT x.op++(flagsT x.fl++(behindT m x++[10]))) ((1,opT x.op)::(flagsQ x.fl++(behindQ m x++[(6,[])]))) t :=
    Lx.app (P:=[(1,opT x.op)]) (Lx.word (isW_op hop) (by rw [List.append_assoc,List.append_assoc];exact stop_flags (stop_behind (stop_nl _)))) h2
  have h4:Lx ((if 0≤x.reg then regT x.reg++[32,61,32] else [])++(opT x.op++(flagsT x.fl++(behindT m x++[10])))) (lineQ m x) t:=by
    unfold lineQ
    by_cases c:0≤x.reg
    · rw [if_pos c,if_pos c]
      have hr:x.reg.toNat≤4095:=by
        unfold hasRegB at hreg
        rw [if_neg (by omega),Bool.and_eq_true] at hreg
        have:=of_decide_eq_true hreg.1
        omega
      have h5:Lx [32,61,32] [(5,[61])] (opT x.op++(flagsT x.fl++(behindT m x++[10]))++t):=Lx.sp (Lx.ms (by decide) (Lx.blank _))
      exact Lx.app (Lx.app (P:=[(3,decI x.reg)]) (Q:=[(5,[61])]) (Lx.reg hr (Stop.digit (stop_sp _))) h5) h3
    · rw [if_neg c,if_neg c]
      exact h3
  unfold Go.Proofs.YtmmlfmplggbmiaaGreatDoor.lineT insT
  have h6:=Lx.sp (Lx.sp h4)
  simpa [List.append_assoc] using h6
theorem Lx.flat {α:Type} {f:α→Tx} {g:α→List (Nat×Tx)}:∀ (l:List α),(∀ x∈l,∀ t,Lx (f x) (g x) t)→∀ t,Lx ((l.map f).flatten) ((l.map g).flatten) t
  | [],h,t=>Lx.nil t
  | x::l,h,t=>by
    rw [List.map_cons,List.map_cons,List.flatten_cons,List.flatten_cons]
    exact Lx.app (h x (by simp) _) (Lx.flat l (fun y hy=>h y (List.mem_cons_of_mem _ hy)) t)
def blkQ (m:PMod) (i:Nat) (c:List PIns):List (Nat×Tx):=(1,blockT i)::(5,[58])::(6,[])::(c.map (lineQ m)).flatten
theorem Lx.blk {m:PMod} {i:Nat} {c:List PIns} (hN:Nms m) (h:∀ x∈c,insB m x=true) (hx:∀ x∈c,insW x) (t:Tx):Lx (blkT m i c) (blkQ m i c) t:=by
  have h1:=Lx.flat c (f:=Go.Proofs.YtmmlfmplggbmiaaGreatDoor.lineT m) (g:=lineQ m) (fun x hxc t=>Lx.lineT (h x hxc) hN (hx x hxc) t) t
  have h2:=Lx.ms (c:=58) (by decide) (Lx.app (s:=[10]) (P:=[(6,[])]) (Lx.line _) h1)
  have h3:=Lx.app (s:=blockT i) (P:=[(1,blockT i)]) (Lx.word (isW_block _) (Stop.cons (by decide))) h2
  unfold blkT
  rw [List.append_assoc]
  exact h3
theorem Lx.flat':∀ (l:List (Tx×List (Nat×Tx))),(∀ x∈l,∀ t,Lx x.1 x.2 t)→∀ t,Lx ((l.map Prod.fst).flatten) ((l.map Prod.snd).flatten) t:=fun l h t=>Lx.flat l h t
def fnQ (m:PMod) (f:PFn):List (Nat×Tx):=(1,[102,117,110,99])::(headP f.nm f.ps f.rt++((f.bs.mapIdx (blkQ m)).flatten++[(1,[101,110,100]),(6,[])]))
theorem Lx.fn {m:PMod} {f:PFn} (hN:Nms m) (hf:f∈m.fs) (hp:∀ t∈f.ps,tyB t=true) (hr:tyB f.rt=true) (h:∀ c∈f.bs,∀ x∈c,insB m x=true) (hx:∀ c∈f.bs,∀ x∈c,insW x) (t:Tx):Lx (fnT m f) (fnQ m f) t:=by
  have h1:Lx [101,110,100,10] [(1,[101,110,100]),(6,[])] t:=Lx.app (s:=[101,110,100]) (u:=[10]) (P:=[(1,[101,110,100])]) (Lx.word (isW_B (by decide)) (stop_nl _)) (Lx.line t)
  have h2:∀ t,Lx ((f.bs.mapIdx (blkT m)).flatten) ((f.bs.mapIdx (blkQ m)).flatten) t:=by
    intro t
    have:=Lx.flat' (f.bs.mapIdx fun i c=>(blkT m i c,blkQ m i c)) (fun y hy t=>by
      obtain ⟨i,hi,rfl⟩:=List.mem_mapIdx.1 hy
      exact Lx.blk hN (h _ (List.getElem_mem hi)) (hx _ (List.getElem_mem hi)) t) t
    rw [show (f.bs.mapIdx fun i c=>(blkT m i c,blkQ m i c)).map Prod.fst=f.bs.mapIdx (blkT m) from List.ext_getElem (by simp) (by simp),show (f.bs.mapIdx fun i c=>(blkT m i c,blkQ m i c)).map Prod.snd=f.bs.mapIdx (blkQ m) from List.ext_getElem (by simp) (by simp)] at this
    exact this
  have h3:=Lx.app (Lx.head (hN.fs f hf) hp hr _) (Lx.app (h2 _) h1)
  have h4:=Lx.app (s:=[102,117,110,99]) (P:=[(1,[102,117,110,99])]) (Lx.word (isW_B (by decide)) (stop_sp _)) (Lx.sp h3)
  unfold fnT fnQ
  simpa [List.append_assoc] using h4
def modQ (m:PMod):List (Nat×Tx):=(m.vs.map varP).flatten++(m.xs.map extP).flatten++(m.fs.map (fnQ m)).flatten
theorem Lx.mod {wd:Tx→Bool} {m:PMod} (hwd:∀ w,wd w=true→IsW w) (h:sayB wd m=true) (hv:∀ v∈m.vs,v.size<18446744073709551616) (hx:∀ f∈m.fs,∀ c∈f.bs,∀ x∈c,insW x) (t:Tx):Lx (modT m) (modQ m) t:=by
  unfold sayB at h
  rw [Bool.and_eq_true,Bool.and_eq_true] at h
  obtain ⟨⟨h1,h2⟩,h3⟩:=h
  have a1:∀ v∈m.vs,IsW (byt v.nm)∧0≤v.size:=fun v hm=>by
    have:=List.all_eq_true.1 h1 v hm
    rw [Bool.and_eq_true] at this
    exact ⟨hwd _ this.1,of_decide_eq_true this.2⟩
  have hd:∀ {nm:ByteArray} {ps:List Int} {rt:Int},headB wd nm ps rt=true→IsW (byt nm)∧(∀ t∈ps,tyB t=true)∧tyB rt=true:=fun {nm ps rt} hh=>by
    unfold headB at hh
    rw [Bool.and_eq_true,Bool.and_eq_true] at hh
    exact ⟨hwd _ hh.1.1,List.all_eq_true.1 hh.1.2,hh.2⟩
  have a2:=fun x (hm:x∈m.xs)=>hd (List.all_eq_true.1 h2 x hm)
  have a3:∀ f∈m.fs,(IsW (byt f.nm)∧(∀ t∈f.ps,tyB t=true)∧tyB f.rt=true)∧∀ c∈f.bs,∀ x∈c,insB m x=true:=fun f hm=>by
    have:=List.all_eq_true.1 h3 f hm
    unfold fnB at this
    rw [Bool.and_eq_true] at this
    exact ⟨hd this.1,fun c hc=>List.all_eq_true.1 (List.all_eq_true.1 this.2 c hc)⟩
  have hN:Nms m:=⟨fun v hm=>(a1 v hm).1,fun x hm=>(a2 x hm).1,fun f hm=>(a3 f hm).1.1⟩
  unfold modT modQ
  refine Lx.app (Lx.app (Lx.flat _ (fun v hm t=>Lx.var (a1 v hm).1 ⟨(a1 v hm).2,hv v hm⟩ t) _) (Lx.flat _ (fun x hm t=>Lx.ext (a2 x hm).1 (a2 x hm).2.1 (a2 x hm).2.2 t) _)) (Lx.flat _ (fun f hm t=>?_) _)
  exact Lx.fn hN hm (a3 f hm).1.2.1 (a3 f hm).1.2.2 (a3 f hm).2 (hx f hm) t
theorem lexed_mod {wd:Tx→Bool} {m:PMod} (hwd:∀ w,wd w=true→IsW w) (h:sayB wd m=true) (hv:∀ v∈m.vs,v.size<18446744073709551616) (hx:∀ f∈m.fs,∀ c∈f.bs,∀ x∈c,insW x) :
    ∃ ts,Lexed (modT m) 1 1 ts none∧ts.map KB=modQ m:=by
  obtain ⟨l,c,pre,e,k⟩:=Lx.mod hwd h hv hx [] 1 1
  have:=k [] none (.done rfl)
  rw [List.append_nil,List.append_nil] at this
  exact ⟨pre,this,e⟩
theorem dec_inj {a b:Nat} (ha:a≤18446744073709551615) (hb:b≤18446744073709551615) (h:Lib.decDigits a=Lib.decDigits b):a=b:=by
  have h1:=parse_dec (Nat.le_refl _) a ha
  have h2:=parse_dec (Nat.le_refl _) b hb
  rw [h,h2] at h1
  injection h1 with h1
  exact h1.symm
theorem numBehind_dec {c:UInt8} {n most:Nat} (hn:n≤most) (hm:most≤18446744073709551614):numBehind c (c::Lib.decDigits n) most=some n:=by
  unfold numBehind
  dsimp only
  rw [if_pos rfl]
  rw [List.find?_eq_some_iff_getElem]
  refine ⟨by simp,n,by simp;omega,by simp,fun j hj=>?_⟩
  simp only [List.getElem_range,Bool.not_eq_true',beq_eq_false_iff_ne]
  intro e
  have:=dec_inj (by omega) (by omega) e
  omega
theorem typeOf_type {t:Int} (h:tyB t=true):typeOfP (typeT t)=some t.toNat:=by
  have:∀ k:Fin 66,typeOfP (typeT (k.val:Int))=some k.val∨0<k.val∧k.val<65:=by
    intro k
    by_cases h0:k.val=0
    · left;rw [h0];rfl
    · by_cases h1:k.val=65
      · left;rw [h1];rfl
      · right;have:=k.isLt;omega
  have ht:=of_decide_eq_true h
  obtain ⟨k,rfl⟩:∃ k:Nat,t=(k:Int):=⟨t.toNat,by omega⟩
  rcases this ⟨k,by omega⟩ with h1 | h1
  · exact h1
  · simp only at h1
    have e:typeT (k:Int)=105::Lib.decDigits k:=by
      unfold typeT
      rw [if_neg (by omega),if_neg (by omega),if_pos (by omega)]
      rfl
    rw [e]
    unfold typeOfP
    rw [if_neg (by simp),if_neg (by simp),numBehind_dec (by omega) (by decide)]
    simp
    exact h1.1
theorem blockOf_block {n:Int} (h:0≤n∧n≤999) (line col:Nat):blockOfP ⟨1,blockT n,line,col⟩=some n.toNat:=by
  unfold blockOfP
  rw [if_pos (show ((1:Nat)==1)=true from rfl)]
  exact numBehind_dec (by omega) (by decide)
theorem opOf_op {op:Int} (h:1≤op∧op≤34) (line col:Nat):opOfP ⟨1,opT op,line,col⟩=op.toNat:=by
  have:∀ k:Fin 35,0<k.val→(((List.range 35).find? (fun j:Nat=>decide (0<j)&&opT (j:Int)==opT (k.val:Int))).getD 0)=k.val:=by decide
  obtain ⟨k,rfl⟩:∃ k:Nat,op=(k:Int):=⟨op.toNat,by omega⟩
  unfold opOfP
  rw [if_pos (by simp)]
  exact this ⟨k,by omega⟩ (by show 0<k;omega)
theorem numOf_dec {k n:Nat} (hn:n<18446744073709551616) (line col:Nat):numOf ⟨k,Lib.decDigits n,line,col⟩=n:=by
  unfold numOf Lib.parseUintB
  dsimp only
  rw [if_neg (dec_ne n),parse_dec (by decide) n (by omega)]
end Go.Proofs.YtmmlfmplggbmiaaGreatDoor
namespace Go.Proofs.YtmmlfmplggbmiaaGreatDoor
open Go.RowKit Go.Maps
set_option linter.unusedVariables false
set_option linter.unusedSimpArgs false
def TabK (W:World):Prop:=Lib.TabIs Tryz.prog W "internal/strconv.uint64pow10" .u64 Lib.pow10Tab
theorem TabK.later {W w:World} (h:TabK W) (hb:Below W.heap.size W w):TabK w:=by
  unfold TabK Lib.TabIs World.var? at *
  cases hg:Tryz.prog.globalNamed "internal/strconv.uint64pow10" with
  | none=>simp [hg] at h
  | some g =>
    simp only [hg,Option.bind_some] at h ⊢
    have hlt:g<W.heap.size:=by
      rcases Nat.lt_or_ge g W.heap.size with h' | h'
      · exact h'
      · rw [Array.getElem?_eq_none h'] at h;simp at h
    rw [hb.block g hlt]
    exact h
def OpsK (W:World):Prop:=∀ k,k<35→W.cell? ⟨0,k,none⟩=some (.string ⟨(opT k).toArray⟩)
theorem OpsK.later {W w:World} (h:OpsK W) (hb:Below W.heap.size W w):OpsK w:=fun k hk=>(hb.cell (p:=⟨0,k,none⟩) (World.block_lt_of_cell? W _ (h k hk))).trans (h k hk)
def Stc (W:World):Prop:=Errs W∧TabK W∧OpsK W
theorem Stc.later {W w:World} (h:Stc W) (hb:Below W.heap.size W w):Stc w:=⟨h.1.below hb (Nat.le_refl _),h.2.1.later hb,h.2.2.later hb⟩
theorem str_size (b:Tx):(str b).size=b.length:=by show b.toArray.size=_;simp
theorem str_list (b:Tx):(str b).data.toList=b:=by simp [str]
def nuB (b:Tx):Nat:=match Go.Lib.parseUintB 64 b with | .ok u=>u | _=>0
theorem parseUint_any (b:Tx) (hb:b.length≤65536) (hr:Go.Lib.parseUintB 64 b≠.range) (W:World) (hE:Errs W) :
    Calls Tryz.prog 141 #[.string (str b),.int .i64 10,.int .i64 64] W fun e w' => ∃ v,e=.returned (.tuple #[.int .u64 (nuB b),v])∧Below W.heap.size W w':=by
  unfold nuB
  cases h:Go.Lib.parseUintB 64 b
  · rename_i u
    refine (Tryz.strconv_ParseUint_10_at64_ok (str b) (by rw [str_size];omega) u (by rw [str_list];exact h) W).mono ?_
    rintro e w' ⟨rfl,rfl | rfl⟩
    · exact ⟨_,rfl,Below.refl _ _⟩
    · exact ⟨_,rfl,Lib.bytesWorld_below _ _ _⟩
  · obtain ⟨h0,h1,t,p,t',p',h2,h3⟩:=hE
    refine (Tryz.strconv_ParseUint_10_at64_syntax (str b) (by rw [str_size];omega) (fun u=>by rw [str_list,h];intro e;cases e) (by rw [str_list,h];intro e;cases e) _ W h2 (.inr ⟨_,_,rfl⟩)).mono ?_
    rintro e w' ⟨N,rfl,_,_,hb⟩
    exact ⟨_,rfl,hb⟩
  · exact absurd h hr
theorem atoi_any (b:Tx) (hb:b.length≤65536) (W:World) (hE:Errs W) :
    Calls Tryz.prog 193 #[.string (str b)] W fun e w' => Below W.heap.size W w'∧((∃ n,Go.Lib.atoiAll b=.ok n∧e=.returned (.tuple #[.int .i64 n,.nilIface]))∨((∀ n,Go.Lib.atoiAll b≠.ok n)∧∃ n t p,e=.returned (.tuple #[.int .i64 n,.iface t p]))):=by
  cases h:Go.Lib.atoiAll b
  · rename_i u
    refine (Tryz.strconv_Atoi_ok (str b) (by rw [str_size];omega) u (by rw [str_list];exact h) W).mono ?_
    rintro e w' ⟨rfl,rfl | ⟨t,rfl⟩⟩
    · exact ⟨Below.refl _ _,.inl ⟨_,rfl,rfl⟩⟩
    · exact ⟨Lib.bytesWorld_below _ _ _,.inl ⟨_,rfl,rfl⟩⟩
  · obtain ⟨h0,h1,t,p,t',p',h2,h3⟩:=hE
    refine (Tryz.strconv_Atoi_syntax (str b) (by rw [str_size];omega) (fun u=>by rw [str_list,h];intro e;cases e) (by rw [str_list,h];intro e;cases e) _ W h2 (.inr ⟨_,_,rfl⟩)).mono ?_
    rintro e w' ⟨N,rfl,_,_,hb⟩
    exact ⟨hb,.inr ⟨fun n x=>(by cases x),_,_,_,rfl⟩⟩
  · obtain ⟨h0,h1,t,p,t',p',h2,h3⟩:=hE
    refine (Tryz.strconv_Atoi_range (str b) (by rw [str_size];omega) (by rw [str_list];exact h) _ W h3 (.inr ⟨_,_,rfl⟩)).mono ?_
    rintro e w' ⟨N,rfl,_,_,hb⟩
    exact ⟨hb,.inr ⟨fun n x=>(by cases x),_,_,_,rfl⟩⟩
theorem itoaK (k:Nat) (hk:k≤9223372036854775807) (W:World) (hT:TabK W):Calls Tryz.prog 13 #[.int .i64 (k:Int)] W fun e w' => e=.returned (.string (str (Lib.decDigits k)))∧Below W.heap.size W w':=by
  refine (Tryz.strconv_Itoa (k:Int) (by omega) (by omega) W hT).mono ?_
  rintro e w' ⟨rfl,n,os,rfl⟩
  refine ⟨?_,Lib.below_grow _ _ (Nat.le_refl _) _ _⟩
  rw [Lib.itoa_nonneg]
  rfl
/-! Plain facts of numerals. -/
theorem atoi_dec {k:Nat} (hk:k≤9223372036854775807):Go.Lib.atoiAll (Lib.decDigits k)=.ok (k:Int):=by
  have hd:=dec_digit k
  have hp:Go.Lib.parseUintB 64 (Lib.decDigits k)=.ok k:=by
    unfold Go.Lib.parseUintB
    rw [if_neg (dec_ne k),parse_dec (by decide) k (by omega)]
  rw [← Lib.parseIntB_64]
  cases e:Lib.decDigits k with
  | nil=>exact absurd e (dec_ne k)
  | cons c r =>
    rw [e] at hp hd
    have hc:=digit_nat (hd c (by simp))
    unfold Go.Lib.parseIntB
    simp only
    rw [if_neg (by omega),hp]
    simp only
    rw [if_neg (by rintro ⟨_,h⟩;have:(2:Nat) ^ (64 - 1)=9223372036854775808:=by decide
                   omega),if_neg (by rintro ⟨h,_⟩;omega),if_neg (by omega)]
theorem atoi_nonneg {l:Tx} {n:Int} (h45:∀ d∈l,d.toNat≠45) (h:Go.Lib.atoiAll l=.ok n):0≤n∧n≤9223372036854775807:=by
  refine ⟨?_,(Lib.atoiAll_bounds h).2⟩
  unfold Go.Lib.atoiAll at h
  cases l with
  | nil=>cases h
  | cons c r =>
    simp only at h
    split at h
    · cases h
    · cases h
    · split at h
      · cases h
      · split at h
        · cases h
        · injection h with h
          rw [if_neg (h45 c (by simp))] at h
          omega
theorem behind_spec {r:Tx} (c:UInt8) {most:Nat} (hm:most≤999) :
    (∀ n:Nat,Go.Lib.atoiAll r=.ok (n:Int)→n≤most→Lib.decDigits n=r→numBehind c (c::r) most=some n) ∧
    ((∀ n:Nat,Go.Lib.atoiAll r=.ok (n:Int)→n≤most→Lib.decDigits n≠r)→numBehind c (c::r) most=none):=by
  refine ⟨fun n _ hn h=>?_,fun h=>?_⟩
  · rw [← h];exact numBehind_dec hn (by omega)
  · unfold numBehind
    simp only [if_pos]
    rw [List.find?_eq_none]
    intro n hn hd
    have hd:Lib.decDigits n=r:=by simpa using hd
    have hn2:n<most+1:=List.mem_range.1 hn
    exact h n (by rw [← hd];exact atoi_dec (by omega)) (by omega) hd
set_option maxRecDepth 100000 in
set_option maxHeartbeats 1000000 in
theorem numberOf_any (t:Tok) (ht:Gt t) (W:World) (hE:Errs W):Calls Tryz.prog 145 #[tkV t] W fun e w' => e=.returned (.int .u64 (numOf t))∧Below W.heap.size W w':=by
  have C:=fun w hb=>parseUint_any t.body ht.2.1 ht.2.2.1 w (hE.below hb (Nat.le_refl _))
  have e:numOf t=nuB t.body:=rfl
  rw [e]
  unfold tkV
  have hb1:=(Below.refl W.heap.size W).alloc (Nat.le_refl _) (.cells #[.int .i64 t.kind,.string (str t.body),.int .i64 t.line,.int .i64 t.col] 81)
  have HB:=Lib.hid hb1
  have C1:=C _ hb1
  clear C hb1 ht hE e
  go_enter Tryz.func145,Tryz.ntmps145
  go_wp2_with ((with_reducible refine C1.mono ?_);rintro e w1 ⟨v,rfl,h1⟩)
  go_ret
  exact ⟨rfl,HB.out.trans (h1.mono HB.out.size)⟩
def Nm (x:Tx):Prop:=x.length≤65536∧∀ d∈x,d.toNat≠45
set_option maxRecDepth 100000 in
set_option maxHeartbeats 2000000 in
theorem numberBehind_any (c:UInt8) (x:Tx) (most:Nat) (hm:most≤999) (hx:Nm x) (W:World) (hS:Stc W) :
    Calls Tryz.prog 174 #[.string (str [c]),.string (str x),.int .i64 most] W fun e w' => e=.returned (.tuple #[.int .i64 ((numBehind c x most).getD 0:Nat),.bool (numBehind c x most).isSome])∧Below W.heap.size W w':=by
  have CP:=fun w=>Tryz.strings_CutPrefix (str x) (str [c]) w
  rw [str_list,str_list] at CP
  have C2:∀ (y:Tx),y.length≤65536→∀ w,Below W.heap.size W w→_:=fun y hy w hb=>atoi_any y hy w (hS.1.below hb (Nat.le_refl _))
  have C3:∀ (k:Nat),k≤9223372036854775807→∀ w,Below W.heap.size W w→_:=fun k hk w hb=>itoaK k hk w (hS.2.1.later hb)
  have HS:=Lib.hid hS
  clear hS
  by_cases hp:Lib.hasPrefix x [c]=true
  · obtain ⟨r,rfl⟩:∃ r,x=c::r:=by
      cases x with
      | nil=>simp [Lib.hasPrefix] at hp
      | cons d r=>simp [Lib.hasPrefix] at hp;exact ⟨r,by rw [hp]⟩
    have etr:Lib.trimPrefix (c::r) [c]=r:=by unfold Lib.trimPrefix;rw [if_pos hp];rfl
    rw [etr,hp] at CP
    obtain ⟨b1,b2⟩:=behind_spec (r:=r) c hm
    have D2:=C2 r (by have:=hx.1;simp at this;omega)
    have h45:∀ d∈r,d.toNat≠45:=fun d hd=>hx.2 d (by simp [hd])
    have eb:(⟨r.toArray⟩:ByteArray)=str r:=rfl
    simp only [eb] at CP
    clear C2 hx hp etr
    by_cases hok:∃ n:Nat,Go.Lib.atoiAll r=.ok (n:Int)∧n≤most∧Lib.decDigits n=r
    · obtain ⟨n,h1,h2,h3⟩:=hok
      rw [b1 n h1 h2 h3]
      have e1:decide (most<n)=false:=by simp;omega
      have D3:=C3 n (by omega)
      rw [h3] at D3
      clear b1 b2 C3
      go_enter Tryz.func174,Tryz.ntmps174
      go_wp2_with (first | ((with_reducible refine (CP _).mono ?_);rintro e w1 ⟨rfl,rfl⟩) | ((with_reducible refine (D2 _ (Below.refl _ _)).mono ?_);rintro e w2 ⟨hb,⟨n',hn',rfl⟩ | ⟨hn',_⟩⟩;rotate_left;exact absurd h1 (hn' _);cases hn'.symm.trans h1) | ((with_reducible refine (D3 _ hb).mono ?_);rintro e w3 ⟨rfl,hb3⟩))
      go_ret2
      exact ⟨rfl,hb.trans (hb3.mono hb.size)⟩
    · rw [b2 (fun n k1 k2 k3=>hok ⟨n,k1,k2,k3⟩)]
      clear b1 b2
      cases hat:Go.Lib.atoiAll r with
      | ok n0 =>
        obtain ⟨n,rfl⟩:∃ n:Nat,n0=(n:Int):=⟨n0.toNat,by have:=(atoi_nonneg h45 hat).1;omega⟩
        have hnb:=(atoi_nonneg h45 hat).2
        by_cases hm2:most<n
        · have e1:decide (most<n)=true:=by simpa using hm2
          clear C3
          go_enter Tryz.func174,Tryz.ntmps174
          go_wp2_with (first | ((with_reducible refine (CP _).mono ?_);rintro e w1 ⟨rfl,rfl⟩) | ((with_reducible refine (D2 _ (Below.refl _ _)).mono ?_);rintro e w2 ⟨hb,⟨n',hn',rfl⟩ | ⟨hn',_⟩⟩;rotate_left;exact absurd hat (hn' _);cases hn'.symm.trans hat))
          go_ret2
          exact ⟨rfl,hb⟩
        · have e1:decide (most<n)=false:=by simpa using hm2
          have hne:((str (Lib.decDigits n)).toList==(str r).toList)=false:=by
            rw [ByteArray.toList_eq,ByteArray.toList_eq,str_list,str_list]
            exact beq_false_of_ne (fun x=>hok ⟨n,hat,by omega,x⟩)
          have D3:=C3 n (by omega)
          clear C3
          go_enter Tryz.func174,Tryz.ntmps174
          go_wp2_with (first | ((with_reducible refine (CP _).mono ?_);rintro e w1 ⟨rfl,rfl⟩) | ((with_reducible refine (D2 _ (Below.refl _ _)).mono ?_);rintro e w2 ⟨hb,⟨n',hn',rfl⟩ | ⟨hn',_⟩⟩;rotate_left;exact absurd hat (hn' _);cases hn'.symm.trans hat) | ((with_reducible refine (D3 _ hb).mono ?_);rintro e w3 ⟨rfl,hb3⟩))
          go_ret2
          exact ⟨rfl,hb.trans (hb3.mono hb.size)⟩
      | _ =>
        clear C3
        go_enter Tryz.func174,Tryz.ntmps174
        go_wp2_with (first | ((with_reducible refine (CP _).mono ?_);rintro e w1 ⟨rfl,rfl⟩) | ((with_reducible refine (D2 _ (Below.refl _ _)).mono ?_);rintro e w2 ⟨hb,⟨n',hn',rfl⟩ | ⟨hn',n',t',p',rfl⟩⟩;(cases hn'.symm.trans hat)))
        go_ret2
        exact ⟨rfl,hb⟩
  · have hp':Lib.hasPrefix x [c]=false:=by simpa using hp
    have etr:Lib.trimPrefix x [c]=x:=by unfold Lib.trimPrefix;rw [if_neg hp]
    rw [etr,hp'] at CP
    have en:numBehind c x most=none:=by
      unfold numBehind
      cases x with
      | nil=>rfl
      | cons d r =>
        simp [Lib.hasPrefix] at hp
        simp only
        rw [if_neg (fun e=>hp e.symm)]
    rw [en]
    have D2:=C2 x hx.1
    have eb:(⟨x.toArray⟩:ByteArray)=str x:=rfl
    simp only [eb] at CP
    clear C2 C3 hp hp' etr en
    go_enter Tryz.func174,Tryz.ntmps174
    go_wp2_with (first | ((with_reducible refine (CP _).mono ?_);rintro e w1 ⟨rfl,rfl⟩) | ((with_reducible refine (D2 _ (Below.refl _ _)).mono ?_);rintro e w2 ⟨hb,hq⟩;obtain ⟨n',v',rfl⟩:∃ n' v',e=.returned (.tuple #[.int .i64 n',v']):=(by rcases hq with ⟨n',_,h⟩ | ⟨_,n',t',p',h⟩ <;> exact ⟨_,_,h⟩)))
    go_ret2
    exact ⟨rfl,hb⟩
theorem gt_nm {t:Tok} (h:Gt t):Nm t.body:=⟨h.2.1,h.2.2.2⟩
set_option maxRecDepth 100000 in
set_option maxHeartbeats 1000000 in
theorem blockOf_any (t:Tok) (ht:Gt t) (W:World) (hS:Stc W) :
    Calls Tryz.prog 151 #[tkV t] W fun e w' => e=.returned (.tuple #[.int .i64 ((blockOfP t).getD 0:Nat),.bool (blockOfP t).isSome])∧Below W.heap.size W w':=by
  unfold blockOfP
  by_cases hk:t.kind=1
  · rw [if_pos (by simp [hk])]
    have hb1:=(Below.refl W.heap.size W).alloc (Nat.le_refl _) (.cells #[.int .i64 t.kind,.string (str t.body),.int .i64 t.line,.int .i64 t.col] 81)
    have C:Calls Tryz.prog 174 #[.string ⟨#[98]⟩,.string (str t.body),.int .i64 999] _ _:=numberBehind_any 98 t.body 999 (Nat.le_refl _) (gt_nm ht) _ (hS.later hb1)
    have HB:=Lib.hid hb1
    have e2:((t.kind:Int)==1)=true:=by rw [hk];rfl
    clear hb1 ht hS hk
    unfold tkV
    go_enter Tryz.func151,Tryz.ntmps151
    go_wp2_with ((with_reducible refine C.mono ?_);rintro e w1 ⟨rfl,h1⟩)
    go_ret2
    exact ⟨rfl,HB.out.trans (h1.mono HB.out.size)⟩
  · rw [if_neg (by simpa using hk)]
    have e2:((t.kind:Int)==1)=false:=beq_false_of_ne (by omega)
    unfold tkV
    go_enter Tryz.func151,Tryz.ntmps151
    go_wp2_with fail
    go_ret2
    exact ⟨rfl,(Below.refl W.heap.size W).alloc (Nat.le_refl _) _⟩
set_option maxRecDepth 100000 in
set_option maxHeartbeats 1000000 in
theorem typeOf_any (x:Tx) (hx:Nm x) (W:World) (hS:Stc W) :
    Calls Tryz.prog 173 #[.string (str x)] W fun e w' => e=.returned (.tuple #[.int .i64 ((typeOfP x).getD 0:Nat),.bool (typeOfP x).isSome])∧Below W.heap.size W w':=by
  unfold typeOfP
  have fs:∀ y:Tx,((str x).toList==(str y).toList)=decide (x=y):=fun y=>by
    rw [ByteArray.toList_eq,ByteArray.toList_eq,str_list,str_list]
    by_cases h:x=y <;> simp [h]
  have s0:(⟨#[118,111,105,100]⟩:ByteArray)=str [118,111,105,100]:=rfl
  have s1:(⟨#[112,116,114]⟩:ByteArray)=str [112,116,114]:=rfl
  have C:Calls Tryz.prog 174 #[.string ⟨#[105]⟩,.string (str x),.int .i64 64] _ _:=numberBehind_any 105 x 64 (by decide) hx W hS
  clear hS hx
  by_cases h0:x=[118,111,105,100]
  · have f0:=fs [118,111,105,100]
    rw [decide_eq_true h0] at f0
    rw [if_pos h0]
    clear fs C h0
    go_enter Tryz.func173,Tryz.ntmps173
    rw [s0]
    go_wp2_with fail
    go_ret2
    exact ⟨rfl,Below.refl _ _⟩
  · have f0:=fs [118,111,105,100]
    rw [decide_eq_false h0] at f0
    rw [if_neg h0]
    by_cases h1:x=[112,116,114]
    · have f1:=fs [112,116,114]
      rw [decide_eq_true h1] at f1
      rw [if_pos h1]
      clear fs C h0 h1
      go_enter Tryz.func173,Tryz.ntmps173
      rw [s0,s1]
      go_wp2_with fail
      go_ret2
      exact ⟨rfl,Below.refl _ _⟩
    · have f1:=fs [112,116,114]
      rw [decide_eq_false h1] at f1
      rw [if_neg h1]
      clear fs h0 h1
      cases hb:numBehind 105 x 64 with
      | none =>
        rw [hb] at C
        go_enter Tryz.func173,Tryz.ntmps173
        rw [s0,s1]
        go_wp2_with ((with_reducible refine C.mono ?_);rintro e w1 ⟨rfl,h1⟩)
        go_ret2
        exact ⟨rfl,h1⟩
      | some n =>
        rw [hb] at C
        by_cases hn:0<n
        · have e1:decide (0<n)=true:=decide_eq_true hn
          have e3:(some n).filter (fun n=>decide (0<n))=some n:=by simp [hn]
          rw [e3]
          go_enter Tryz.func173,Tryz.ntmps173
          rw [s0,s1]
          go_wp2_with ((with_reducible refine C.mono ?_);rintro e w1 ⟨rfl,h1⟩)
          go_ret2
          exact ⟨by simp,h1⟩
        · obtain rfl:n=0:=by omega
          go_enter Tryz.func173,Tryz.ntmps173
          rw [s0,s1]
          go_wp2_with ((with_reducible refine C.mono ?_);rintro e w1 ⟨rfl,h1⟩)
          go_ret2
          exact ⟨rfl,h1⟩
end Go.Proofs.YtmmlfmplggbmiaaGreatDoor
namespace Go.Proofs.YtmmlfmplggbmiaaGreatDoor
open Go.ChangeShapes Go.WideShapes Go.ChangeAt Go.RowKit
set_option linter.unusedVariables false
set_option linter.unusedSimpArgs false
def txtsData {H:Type} (ss:List (List UInt8)):DataW H:=.agg (ss.map fun s=>.lit (.string s))
theorem cells_of_txts {H:Type} {enc:TypeId×Value→H} {P:Program} {w:World} {base:Nat} {sp:Nat→Bool} {held:Bool} {fuel:Nat} {t e:TypeId} {n:Nat} {cs:List Value} {ss:List (List UInt8)} {p:List MemPlace}
    (ht:P.underlying t=some (.array n e)) (he:P.underlying e=some .string) (hce:P.cellsOf e=1) (hct:P.cellsOf t=n)
    (h:DataW.trod enc P w base sp held fuel t cs=some (txtsData ss,p)):cs=ss.map fun s=>Value.string ⟨s.toArray⟩:=by
  cases fuel with
  | zero=>simp [DataW.trod] at h
  | succ fuel =>
    simp only [DataW.trod,ht,hce,hct,Nat.mul_one] at h
    split at h
    · rename_i hl
      obtain ⟨xs,hm,hx⟩:=Option.map_eq_some_iff.1 h
      have hxs:xs.map (·.1)=ss.map fun s=>(DataW.lit (.string s):DataW H):=by
        have:=congrArg Prod.fst hx
        simpa [txtsData] using this
      have hxl:xs.length=n:=by simpa using Lib.mapM_length hm
      have hzl:ss.length=n:=by
        have:=congrArg List.length hxs
        simp at this
        omega
      apply List.ext_getElem?
      intro i
      by_cases hi:i<n
      · obtain ⟨b,hb,hf⟩:=Lib.mapM_at hm i i (by simp [hi])
        obtain ⟨s,hc,rfl,_⟩:=DataW.trod_string he hf
        have h1:cs[i]? = some (.string s):=by
          have:=congrArg (·[0]?) hc
          simpa [List.getElem?_take,List.getElem?_drop] using this
        have h2:(xs.map (·.1))[i]? = some (DataW.lit (.string s.data.toList):DataW H):=by simp [hb]
        rw [hxs] at h2
        simp only [List.getElem?_map,Option.map_eq_some_iff,DataW.lit.injEq,Lit.string.injEq] at h2
        obtain ⟨s',hs',rfl⟩:=h2
        simp [h1,hs']
      · rw [List.getElem?_eq_none (by omega),List.getElem?_eq_none (by simp;omega)]
    · cases h
theorem own:ownKnob Tryz.prog.godebug=none:=by kernel_rfl
theorem gOps:Tryz.prog.globalNamed "lathe/words.ops"=some 0:=by kernel_rfl
theorem tOps:(Tryz.prog.globals[0]?).map (·.type)=some 131:=by kernel_rfl
theorem cellsOps:Tryz.prog.cellsOf 131=35:=by kernel_rfl
theorem cellsStr1:Tryz.prog.cellsOf 9=1:=by kernel_rfl
theorem gPow:Tryz.prog.globalNamed "internal/strconv.uint64pow10"=some 2:=by kernel_rfl
theorem tPow:(Tryz.prog.globals[2]?).map (·.type)=some 177:=by kernel_rfl
theorem cellsPow:Tryz.prog.cellsOf 177=20:=by kernel_rfl
theorem cellsU1:Tryz.prog.cellsOf 105=1:=by kernel_rfl
theorem gES:Tryz.prog.globalNamed "strconv.ErrSyntax"=some 5:=by kernel_rfl
theorem gER:Tryz.prog.globalNamed "strconv.ErrRange"=some 6:=by kernel_rfl
theorem tES:(Tryz.prog.globals[5]?).map (·.type)=some 95:=by kernel_rfl
theorem tER:(Tryz.prog.globals[6]?).map (·.type)=some 95:=by kernel_rfl
theorem cellsE:Tryz.prog.cellsOf 213=1:=by kernel_rfl
theorem cellsS:Tryz.prog.cellsOf 9=1:=by kernel_rfl
theorem star : "*" ++ "errors.errorString" = "*errors.errorString":=by decide
theorem rowE (u:TypeId) (h:Tryz.prog.typeName? 3 u=some "*errors.errorString"):u=211 :=
  typeName_ptr_named (nm := "errors.errorString") (by rw [star];kernel_rfl) (by kernel_rfl) (by decide) u (by rw [star];exact h)
def laid6:List (String×DataW Unit):=[("lathe/words.ops", Rows.laid_lathe_words_ops),("math/bits.deBruijn32tab", Rows.laid_math_bits_deBruijn32tab),("math/bits.deBruijn64tab", Rows.laid_math_bits_deBruijn64tab),("internal/strconv.uint64pow10", Rows.laid_internal_strconv_uint64pow10),("strconv.ErrRange", Rows.laid_strconv_ErrRange),("strconv.ErrSyntax", Rows.laid_strconv_ErrSyntax)]
theorem door_met (os:Os) (args:Array Value):laidMetH Tryz.prog laid6 ((World.doorLaid Tryz.prog 62 os).forCall (fun _ _=>0) ⟨#[],args,[]⟩).memory :=
  laidMetH_of_parts3 (fuel:=8) (laidMet_of_run' 8 (by kernel_rfl) (by kernel_rfl)) (by kernel_rfl) (by kernel_rfl)
theorem opsData:(Rows.laid_lathe_words_ops:DataW Unit)=txtsData ((List.range 35).map fun (k:Nat)=>opT k):=rfl
theorem powData:(Rows.laid_internal_strconv_uint64pow10:DataW Unit)=Lib.tabData .u64 Lib.pow10Tab:=rfl
theorem stc_of_laid {W:World} (h:laidMetH Tryz.prog laid6 W):Stc W:=by
  rw [MakeChecks.laidMetH_plain _ _ _ (by kernel_rfl)] at h
  refine ⟨?_,?_,?_⟩
  · have h1:=h.tail.tail.tail.tail
    obtain ⟨a0,s0,hv0,-,-,-⟩:=laid_sentinel h1 gER tER Tryz.underlying95 rowE Tryz.underlying211 Tryz.underlying213 rfl rfl Tryz.underlying9 cellsE cellsS
    obtain ⟨a1,s1,hv1,-,-,-⟩:=laid_sentinel h1.tail gES tES Tryz.underlying95 rowE Tryz.underlying211 Tryz.underlying213 rfl rfl Tryz.underlying9 cellsE cellsS
    have c0:=World.var?_cell gER hv0 0
    have c1:=World.var?_cell gES hv1 0
    simp at c0 c1
    exact ⟨World.block_lt_of_cell? W _ c1,World.block_lt_of_cell? W _ c0,_,_,_,_,c1,c0⟩
  · have h1:=h.tail.tail.tail
    rw [powData] at h1
    exact Lib.tabIs_of_head gPow tPow Tryz.underlying177 Tryz.underlying105 cellsU1 cellsPow h1
  · obtain ⟨ps,⟨g',t',cs,fuel,p,q,hg',ht',hvar,hd,_,_⟩,_⟩:=h
    obtain rfl:=Option.some.inj (gOps.symm.trans hg')
    obtain rfl:=Option.some.inj (tOps.symm.trans ht')
    rw [opsData] at hd
    have hc:=cells_of_txts Tryz.underlying131 Tryz.underlying9 cellsStr1 cellsOps hd
    have hcs:cs=(((List.range 35).map fun (k:Nat)=>opT k).map fun s=>Value.string ⟨s.toArray⟩).toArray:=by rw [← hc]
    rw [hcs] at hvar
    intro k hk
    have:=World.var?_cell gOps hvar k
    rw [this]
    simp [hk]
theorem ends_below {H:Type} {enc:TypeId×Value→H} {P:Program} {f:Func} {s:ChangeSpec} {apart fresh handsOn again:Bool} {W W':World} {args:Array Value} {v:Value} {ds gs:List (DataW H)} {pa pv:List MemPlace}
    (hW:DataW.Whole enc P f.params.toList s.vars apart W args.toList ds gs (pa++pv)) (hb:Below W.heap.size W W')
    (hres:∀ (b:Nat) (sp:Nat→Bool) (hd:Bool),DataW.TrodAll enc P W' b sp hd f.resultTypes.toList (v.resultList f.resultTypes.size) (s.fn H (ds++gs)).results [])
    (hargs:∀ sp:Nat→Bool,(∀ p∈pa,sp p.block=true)→DataW.TrodAll enc P W' 0 sp true f.params.toList args.toList (s.fn H (ds++gs)).args pa)
    (hvars:∀ sp:Nat→Bool,(∀ p∈pv,sp p.block=true)→DataW.TrodVars enc P W' sp s.vars (s.fn H (ds++gs)).vars pv)
    (hok:∀ (j:Nat) (t:TypeId) (r:Value),f.resultTypes[j]? = some t→(v.resultList f.resultTypes.size)[j]? = some r→Value.okWide P W' .any 0 t r) :
    s.post enc P f apart fresh handsOn again W args v W':=by
  have low:∀ x∈pa++pv,x.block<W.heap.size:=fun x hx=>hW.lt x hx
  have lowa:∀ x∈pa,decide (x.block<W.heap.size)=true:=fun x hx=>decide_eq_true (low x (List.mem_append_left _ hx))
  have lowv:∀ x∈pv,decide (x.block<W.heap.size)=true:=fun x hx=>decide_eq_true (low x (List.mem_append_right _ hx))
  refine ⟨ds,gs,pa++pv,[],pa,pv,hW,hres _ _ _,hargs (fun b=>decide (b<W.heap.size)) lowa,hvars (fun b=>decide (b<W.heap.size)) lowv,
    World.keptBut_mono (fun x hx=>⟨hx,Or.inr (List.mem_append.1 hx)⟩) (hb.frame (·∈pa++pv)),fun _=>?_⟩
  obtain ⟨_,_,_,_,_,hz,hn⟩:=hW
  refine ⟨hok,_,_,([]++pa)++pv,⟨[]++pa,pv,trodAll_append (hargs _ (fun _ _=>rfl)) (hres _ _ _),hvars _ (fun _ _=>rfl),rfl,fun b off hx=>?_,fun ha=>?_⟩,fun x hx _=>?_⟩
  · have hin:MemPlace.cell b off∈pa++pv:=by simpa using hx
    exact (hb.frozen (low _ hin)).trans (hz b off hin)
  · simpa using hn ha
  · simpa using hx
end Go.Proofs.YtmmlfmplggbmiaaGreatDoor
