import Derived.Test.YtmccnmgaoppogabGreatuMeA
namespace Go.Proofs.YtmccnmgaoppogabGreat
open Pu
set_option linter.all false
variable {s:Y_} {i j k n x y:Nat} {a b:List Nat} {c v w:Int}
namespace Pu
def dN(s:Y_)(i:Nat):Int:=if i<s.size then bt s i else -1
theorem fK(h:dN s i≠-1):i<s.size:=by
 unfold dN at h;split at h
 .assumption
 .exact absurd rfl h
theorem mM(h:i<s.size):dN s i=bt s i:=by unfold dN;rw[if_pos h]
theorem aeW(h:s.size<=i):dN s i=-1:=by unfold dN;rw[if_neg o_]
theorem TD(s:Y_)(i:Nat):-1<=dN s i/\dN s i<=255:=by have:=iM s i;unfold dN;split <;> omega
def fV(b:Int):Prop:=¬(b=41\/b=93\/b=42\/b=43\/b=63\/b=124\/b=32\/b=10\/b=-1)
def Q5(b v:Int):Prop:=((b=40\/b=41\/b=91\/b=93\/b=42\/b=43\/b=63\/b=124\/b=46\/b=92\/b=45\/b=94)/\v=b)\/(b=110/\v=10)\/(b=115/\v=32)
def gZ(b:Int):Prop:=(b=40\/b=41\/b=91\/b=93\/b=42\/b=43\/b=63\/b=124\/b=46\/b=92\/b=45\/b=94)\/b=110\/b=115
theorem Q5.ok{b:Int}(h:Q5 b v):gZ b:=by unfold Q5 at h;unfold gZ;omega
inductive Sg(s:Y_):Nat->Nat->Int->Prop where
 | plain {i:Nat}:¬(dN s i=93\/dN s i=45\/dN s i=32\/dN s i=10\/dN s i=-1)->dN s i≠92->Sg s i (i+1) (dN s i)
 | xC {i:Nat} {v:Int}:dN s i=92->Q5 (dN s (i+1)) v->Sg s i (i+2) v
inductive SgF(s:Y_):Nat->Nat->Prop where
 | plain {i:Nat}:dN s i=93\/dN s i=45\/dN s i=32\/dN s i=10\/dN s i=-1->SgF s i i
 | xC {i:Nat}:dN s i=92->¬gZ (dN s (i+1))->SgF s i (i+1)
inductive ay(s:Y_):Nat->Nat->Int->Int->Bool->Prop where
 | one {i j:Nat} {v:Int}:Sg s i j v->dN s j≠45->ay s i j v v false
 | range {i j k:Nat} {v u:Int}:Sg s i j v->dN s j=45->Sg s (j+1) k u->ay s i k v u true
inductive Zo(s:Y_):Nat->Nat->Prop where
 | one {i j:Nat}:SgF s i j->Zo s i j
 | range {i j k:Nat} {v:Int}:Sg s i j v->dN s j=45->SgF s (j+1) k->Zo s i k
def wid(T:Nat->Bool)(lo d:Int):Nat->Bool:=fun n=>T n || (decide (lo<=(n:Int)) && decide ((n:Int)<=d))
inductive aj(s:Y_):Nat->(Nat->Bool)->Bool->Nat->(Nat->Bool)->Bool->Prop where
 | done {i j:Nat} {lo hi:Int} {r:Bool} {T:Nat->Bool} {D:Bool}:ay s i j lo hi r->dN s j=93->aj s i T D (j+1) (wid T lo hi) (D || decide (hi<lo))
 | more {i j k:Nat} {lo hi:Int} {r:Bool} {T T':Nat->Bool} {D D':Bool}:ay s i j lo hi r->dN s j≠93->aj s j (wid T lo hi) (D || decide (hi<lo)) k T' D'->aj s i T D k T' D'
inductive UD(s:Y_):Nat->Nat->Prop where
 | here {i j:Nat}:Zo s i j->UD s i j
 | more {i j k:Nat} {lo hi:Int} {r:Bool}:ay s i j lo hi r->dN s j≠93->UD s j k->UD s i k
inductive aM where
 | pl:(Nat->Bool)->aM
 | cat:aM->aM->aM
 | alt:aM->aM->aM
 | star:aM->aM
 | plus:aM->aM
 | opt:aM->aM
def jH(b:Int):Nat->Bool:=fun n=>decide ((n:Int)=b)
def nL(T:Nat->Bool):Nat->Bool:=fun n=>!T n
def dW:Nat->Bool:=fun _=>false
inductive aH where
 | atom:aH
 | QU:aM->Bool->aH
 | pc:aH
 | Aq:aM->Bool->aH
 | br:aH
 | zS:aM->Bool->aH
 | pa:aH
inductive P(s:Y_):aH->Nat->Nat->aM->Bool->Prop where
 | any {i:Nat}:dN s i=46->P s .atom i (i+1) (.pl (nL (jH 10))) false
 | U6 {i:Nat}:fV (dN s i)->dN s i≠92->dN s i≠40->dN s i≠91->dN s i≠46->P s .atom i (i+1) (.pl (jH (dN s i))) false
 | xC {i:Nat} {v:Int}:dN s i=92->Q5 (dN s (i+1)) v->P s .atom i (i+2) (.pl (jH v)) false
 | cls {i k:Nat} {T:Nat->Bool} {D:Bool}:dN s i=91->dN s (i+1)≠94->aj s (i+1) dW false k T D->P s .atom i k (.pl T) D
 | yj {i k:Nat} {T:Nat->Bool} {D:Bool}:dN s i=91->dN s (i+1)=94->aj s (i+2) dW false k T D->P s .atom i k (.pl (nL T)) D
 | Oz {i j:Nat} {a:aM} {D:Bool}:dN s i=40->P s .pa (i+1) j a D->dN s j=41->P s .atom i (j+1) a D
 | GQ {i:Nat} {a:aM} {D:Bool}:dN s i≠42->dN s i≠43->dN s i≠63->P s (.QU a D) i i a D
 | star {i k:Nat} {a b:aM} {D D':Bool}:dN s i=42->P s (.QU (.star a) D) (i+1) k b D'->P s (.QU a D) i k b D'
 | plus {i k:Nat} {a b:aM} {D D':Bool}:dN s i=43->P s (.QU (.plus a) D) (i+1) k b D'->P s (.QU a D) i k b D'
 | opt {i k:Nat} {a b:aM} {D D':Bool}:dN s i=63->P s (.QU (.opt a) D) (i+1) k b D'->P s (.QU a D) i k b D'
 | pc {i j k:Nat} {a b:aM} {D D':Bool}:P s .atom i j a D->P s (.QU a D) j k b D'->P s .pc i k b D'
 | Lb {i:Nat} {a:aM} {D:Bool}:¬fV (dN s i)->P s (.Aq a D) i i a D
 | Aq {i j k:Nat} {a b c:aM} {D D1 D':Bool}:fV (dN s i)->P s .pc i j b D1->P s (.Aq (.cat a b) (D || D1)) j k c D'->P s (.Aq a D) i k c D'
 | br {i j k:Nat} {a b:aM} {D D':Bool}:P s .pc i j a D->P s (.Aq a D) j k b D'->P s .br i k b D'
 | IK {i:Nat} {a:aM} {D:Bool}:dN s i≠124->P s (.zS a D) i i a D
 | zS {i j k:Nat} {a b c:aM} {D D1 D':Bool}:dN s i=124->P s .br (i+1) j b D1->P s (.zS (.alt a b) (D || D1)) j k c D'->P s (.zS a D) i k c D'
 | pa {i j k:Nat} {a b:aM} {D D':Bool}:P s .br i j a D->P s (.zS a D) j k b D'->P s .pa i k b D'
inductive aG where
 | atom:aG
 | pc:aG
 | Aq:aG
 | br:aG
 | zS:aG
 | pa:aG
inductive aI(s:Y_):aG->Nat->Nat->Prop where
 | none {i:Nat}:¬fV (dN s i)->aI s .atom i i
 | xC {i:Nat}:dN s i=92->¬gZ (dN s (i+1))->aI s .atom i (i+1)
 | cls {i k:Nat}:dN s i=91->dN s (i+1)≠94->UD s (i+1) k->aI s .atom i k
 | yj {i k:Nat}:dN s i=91->dN s (i+1)=94->UD s (i+2) k->aI s .atom i k
 | Oz {i k:Nat}:dN s i=40->aI s .pa (i+1) k->aI s .atom i k
 | ajq {i j:Nat} {a:aM} {D:Bool}:dN s i=40->P s .pa (i+1) j a D->dN s j≠41->aI s .atom i j
 | pc {i k:Nat}:aI s .atom i k->aI s .pc i k
 | ai3 {i k:Nat}:fV (dN s i)->aI s .pc i k->aI s .Aq i k
 | ai4 {i j k:Nat} {a:aM} {D:Bool}:fV (dN s i)->P s .pc i j a D->aI s .Aq j k->aI s .Aq i k
 | br1 {i k:Nat}:aI s .pc i k->aI s .br i k
 | br2 {i j k:Nat} {a:aM} {D:Bool}:P s .pc i j a D->aI s .Aq j k->aI s .br i k
 | akd {i k:Nat}:dN s i=124->aI s .br (i+1) k->aI s .zS i k
 | ake {i j k:Nat} {a:aM} {D:Bool}:dN s i=124->P s .br (i+1) j a D->aI s .zS j k->aI s .zS i k
 | pa1 {i k:Nat}:aI s .br i k->aI s .pa i k
 | pa2 {i j k:Nat} {a:aM} {D:Bool}:P s .br i j a D->aI s .zS j k->aI s .pa i k
structure Mq where
 w:Int
 d:Int
 l:Int
def eP(c:Prop) [Decidable c] (a:Int):Int:=if c then a else 16
def Plain(c:Int):Prop:=¬(c=40\/c=41\/c=91\/c=93\/c=42\/c=43\/c=63\/c=124\/c=46\/c=92\/c=32\/c=10)
def mP(c:Int):Prop:=¬(c=93\/c=92\/c=45\/c=32\/c=10)
instance (c:Int):Decidable (Plain c):=by unfold Plain;infer_instance
instance (c:Int):Decidable (mP c):=by unfold mP;infer_instance
instance (c:Int):Decidable (gZ c):=by unfold gZ;infer_instance
instance (c:Int):Decidable (fV c):=by unfold fV;infer_instance
def nQ(c d:Int):Int × Int:=
 if c=40 then (2,d+1) else if c=91 then (5,d) else if c=92 then (4,d) else if c=46 then (3,d) else (eP (Plain c) 3,d)
def nK(c d:Int):Int × Int:=
 if c=42\/c=43\/c=63 then (3,d) else if c=124 then (2,d) else if c=41 then (eP (0<d) 3,d-1) else if c=32 then (eP (d=0) 12,d) else nQ c d
def ji(w c:Int):Int:=
 if w=5/\c=94 then 6 else if w=9/\c=92 then 10 else if w=9 then eP (mP c) 11
 else if c=93/\(w=7\/w=11) then 3 else if c=45/\w=7 then 9 else if c=92 then 8 else eP (mP c) 7
def iZ(w c l:Int):Int:=
 if w=0 then eP (97<=c/\c<=100) 1 else if w=1 then eP (c=32) 2 else if w=12 then eP (c=101\/c=115) 13
 else if w=14 then eP (97<=c/\c<=100) 15
 else if w=13/\(c=62\/c=43) then 14 else if w=13/\c=60 then 15 else eP (c=10/\l<16) 0
def Kg(q:Mq)(c:Int):Int × Int:=
 if q.w=2 then nQ c q.d else if q.w=3 then nK c q.d
 else if q.w=4 then (eP (gZ c) 3,q.d) else if q.w=8 then (eP (gZ c) 7,q.d) else if q.w=10 then (eP (gZ c) 11,q.d)
 else if q.w=5\/q.w=6\/q.w=7\/q.w=9\/q.w=11 then (ji q.w c,q.d) else (iZ q.w c q.l,q.d)
def nxt(q:Mq)(c:Int):Mq:=⟨(Kg q c).1,(Kg q c).2,if (Kg q c).1=0/\q.w≠0 then q.l+1 else q.l⟩
inductive fA(s:Y_):Nat->Mq->Nat->Mq->Prop where
 | refl (i:Nat) (q:Mq):fA s i q i q
 | step {i j:Nat} {q r:Mq}:i<s.size->(Kg q (bt s i)).1≠16->fA s (i+1) (nxt q (bt s i)) j r->fA s i q j r
def aag(s:Y_)(i:Nat)(q:Mq):Prop:=(i=s.size/\q.w≠13/\q.w≠15)\/(i<s.size/\(Kg q (bt s i)).1=16)
def oV(s:Y_)(i:Nat)(q:Mq)(j:Nat):Prop:=∃r,fA s i q j r/\aag s j r
theorem fA.trans{p q r:Mq}(h:fA s i p j q)(d:fA s j q k r):fA s i p k r:=by
 induction h with
 | refl=>exact d
 | step a b _ e=>exact .step a b (e d)
theorem fA.one{s:Y_}{i:Nat}{q r:Mq}(h:dN s i≠-1)(d:(Kg q (dN s i)).1≠16)(e:nxt q (dN s i)=r):fA s i q (i+1) r:=by have f:=fK h;rw[mM f]at d e;subst e;exact .step f d (.refl _ _)
theorem fA.jF{p q:Mq}(h:fA s i p j q)(d:oV s j q k):oV s i p k:=by obtain⟨r,a,b⟩:=d;exact⟨r,h.trans a,b⟩
theorem oV.here{d l:Int}(p:i<=s.size)(f:w≠13/\w≠15)(h:dN s i≠-1->(Kg ⟨w,d,l⟩ (dN s i)).1=16):oV s i ⟨w,d,l⟩ i:=by
 refine⟨⟨w,d,l⟩,.refl _ _,?_⟩;by_cases e:i<s.size
 .right;have g:=iM s i;rw[mM e]at h;exact⟨e,h o_⟩
 .left;exact⟨o_,f⟩
end Pu
namespace Pu
theorem fA.le{q r:Mq}(h:fA s i q j r):i<=j/\(i<=s.size->j<=s.size):=by
 induction h with
 | refl=>exact⟨dF,id⟩
 | step a _ _ d=>exact⟨o_,fun _=>d.2 o_⟩
theorem fA.meets{p q r:Mq}(h:fA s i p j q)(d:fA s i p k r):fA s j q k r\/fA s k r j q:=by
 induction h with
 | refl=>exact .inl d
 | step a b c f=>
  cases d with
  | refl=>exact .inr (.step a b c)
  | step _ _ e=>exact f e
theorem aag.ends{q r:Mq}(h:aag s j q)(g:fA s j q k r):j=k/\q=r:=by
 cases g with
 | refl=>exact⟨rfl,rfl⟩
 | step a b _=>
  rcases h with h | h
  .omega
  .exact absurd h.2 b
theorem oV.same{q:Mq}(h:oV s i q j)(f:oV s i q k):j=k:=by
 obtain⟨r,a,b⟩:=h;obtain⟨l,d,e⟩:=f;rcases a.meets d with g | g
 .exact (b.ends g).1
 .exact (e.ends g).1.symm
theorem oV.not{q r:Mq}(h:oV s i q j)(g:fA s i q s.size r)(d:r.w=13\/r.w=15):False:=by
 obtain⟨p,a,b⟩:=h;rcases a.meets g with c | c
 .obtain⟨rfl,rfl⟩:=b.ends c;rcases b with b | b
  .rcases d with e | e
   .exact b.2.1 e
   .exact b.2.2 e
  .omega
 .have:=c.le;have f:j<=s.size:=this.2 dF;have e:j=s.size:=o_;subst e;cases c with
  | refl=>
   rcases b with b | b
   .rcases d with e | e
    .exact b.2.1 e
    .exact b.2.2 e
   .omega
  | step a _ _=>omega
theorem aho{q:Mq}{d:Int}(h:Kg q c=(w,d))(e:w≠0):nxt q c=⟨w,d,q.l⟩:=by unfold nxt;rw[h];simp[e]
theorem fA.by{s:Y_}{i:Nat}{w d l w' d':Int}(h:dN s i≠-1)(e:Kg ⟨w,d,l⟩ (dN s i)=(w',d'))(f:w'≠0)(g:w'≠16):fA s i ⟨w,d,l⟩ (i+1) ⟨w',d',l⟩:=
 .one h (by rw[e];exact g) (aho e f)
def Ist(s:Y_)(i:Nat)(w:Int):Prop:=(w=5/\dN s i≠94)\/w=6\/(w=7/\dN s i≠93/\dN s i≠45)\/(w=11/\dN s i≠93)
theorem qI{d l:Int}(h:w=5\/w=6\/w=7\/w=9\/w=11):Kg ⟨w,d,l⟩ c=(ji w c,d):=by unfold Kg;rcases h with rfl | rfl | rfl | rfl | rfl <;> rfl
theorem Sg.goes(h:Sg s i j v)(d l:Int)(p:Ist s i w):fA s i ⟨w,d,l⟩ j ⟨7,d,l⟩:=by
 unfold Ist at p;cases h with
 | plain f g=>
  refine .by (fun e=>f (.inr (.inr (.inr (.inr e))))) ?_ d_ d_;rw[qI o_];unfold ji eP;rw[if_neg o_,if_neg o_,if_neg o_,if_neg o_,if_neg o_,if_neg o_,if_pos (by unfold mP;omega)]
 | xC f g=>
  have k:=g.ok;refine (fA.by (w':=8) (d':=d) o_ ?_ d_ d_).trans (fA.by ?_ ?_ d_ d_)
  .rw [qI o_];unfold ji;rw[if_neg o_,if_neg o_,if_neg o_,if_neg o_,if_neg o_,if_pos o_]
  .unfold gZ at k;omega
  .show (eP (gZ _) 7,d)=_;unfold eP;rw[if_pos k]
theorem Sg.agL(h:Sg s i j v)(d l:Int):fA s i ⟨9,d,l⟩ j ⟨11,d,l⟩:=by
 cases h with
 | plain f g=>
  refine .by (fun e=>f (.inr (.inr (.inr (.inr e))))) ?_ d_ d_;rw[qI o_];unfold ji eP;rw[if_neg o_,if_neg o_,if_pos o_,if_pos (by unfold mP;omega)]
 | xC f g=>
  have k:=g.ok;refine (fA.by (w':=10) (d':=d) o_ ?_ d_ d_).trans (fA.by ?_ ?_ d_ d_)
  .rw [qI o_];unfold ji;rw[if_neg o_,if_pos o_]
  .unfold gZ at k;omega
  .show (eP (gZ _) 11,d)=_;unfold eP;rw[if_pos k]
theorem SgF.jF{s:Y_}{i j:Nat}(h:SgF s i j)(t:i<=s.size){w:Int}(d l:Int)(q:Ist s i w\/w=9):oV s i ⟨w,d,l⟩ j:=by
 have e:w=5\/w=6\/w=7\/w=9\/w=11:=by unfold Ist at q;omega
 cases h with
 | plain r=>
  refine .here t (by show w≠13/\w≠15;omega) fun z=>?_;rw[qI e];show ji w _=16;unfold ji eP;unfold Ist at q;by_cases f:w=9
  .rw [if_neg o_,if_neg o_,if_pos f,if_neg (by unfold mP;omega)]
  .rw [if_neg o_,if_neg o_,if_neg o_,if_neg o_,if_neg o_,if_neg o_,if_neg (by unfold mP;omega)]
 | xC r p=>
  have g:dN s i≠-1:=o_;have u:=fK g;by_cases f:w=9
  .subst f;refine (fA.by (w':=10) (d':=d) g ?_ d_ d_).jF (.here o_ d_ fun _=>?_)
   .rw [qI o_];unfold ji;rw[if_neg o_,if_pos o_]
   .show eP (gZ _) 11=16;unfold eP;rw[if_neg p]
  .refine (fA.by (w':=8) (d':=d) g ?_ d_ d_).jF (.here o_ d_ fun _=>?_)
   .rw [qI e];unfold ji;rw[if_neg o_,if_neg o_,if_neg o_,if_neg o_,if_neg o_,if_pos o_]
   .show eP (gZ _) 7=16;unfold eP;rw[if_neg p]
theorem fA.dash(h:dN s j=45)(d l:Int):fA s j ⟨7,d,l⟩ (j+1) ⟨9,d,l⟩:=by
 refine .by o_ ?_ d_ d_;rw[qI o_,h];rfl
theorem ay.goes{s:Y_}{i j:Nat}{v u:Int}{r:Bool}(h:ay s i j v u r){w:Int}(d l:Int)(g:Ist s i w):fA s i ⟨w,d,l⟩ j ⟨if r then 11 else 7,d,l⟩:=by
 cases h with
 | one e f=>exact e.goes d l g
 | range e f p=>exact (e.goes d l g).trans ((fA.dash f d l).trans (p.agL d l))
theorem Zo.jF{s:Y_}{i j:Nat}(h:Zo s i j)(f:i<=s.size){w:Int}(d l:Int)(p:Ist s i w):oV s i ⟨w,d,l⟩ j:=by
 cases h with
 | one e=>exact e.jF f d l (.inl p)
 | range e q r=>have g:=(e.goes d l p).trans (fA.dash q d l);exact g.jF (r.jF (g.le.2 f) d l (.inr rfl))
theorem ay.next{u:Int}{r:Bool}(h:ay s i j v u r)(e:dN s j≠93):Ist s j (if r then 11 else 7):=by
 cases h with
 | one f d=>exact .inr (.inr (.inl ⟨rfl,e,d⟩))
 | range f d g=>exact .inr (.inr (.inr ⟨rfl,e⟩))
theorem aj.goes{s:Y_}{i k:Nat}{T p:Nat->Bool}{D g:Bool}(h:aj s i T D k p g):∀{w:Int} (d l:Int),Ist s i w->fA s i ⟨w,d,l⟩ k ⟨3,d,l⟩:=by
 induction h with
 | @done i j lo t r T D e h2=>intro w d l f;refine (e.goes d l f).trans (.by o_ ?_ d_ d_);rw[qI (by cases r <;> decide),h2];cases r <;> rfl
 | more e h2 _ q=>intro w d l f;exact (e.goes d l f).trans (q d l (e.next h2))
theorem UD.jF{s:Y_}{i k:Nat}(h:UD s i k):i<=s.size->∀{w:Int} (d l:Int),Ist s i w->oV s i ⟨w,d,l⟩ k:=by
 induction h with
 | here e=>intro f w d l p;exact e.jF f d l p
 | more e h2 _ q=>intro f w d l p;have g:=e.goes d l p;exact g.jF (q (g.le.2 f) d l (e.next h2))
def uK(b:Int):Prop:=b≠42/\b≠43/\b≠63
def Aft(s:Y_):aH->Nat->Nat->Prop
 | .atom,_,_=>True
 | .QU _ _,_,j=>uK (dN s j)
 | .pc,_,j=>uK (dN s j)
 | .Aq _ _,i,j=>uK (dN s i)->uK (dN s j)/\¬fV (dN s j)
 | .br,_,j=>uK (dN s j)/\¬fV (dN s j)
 | .zS _ _,i,j=>uK (dN s i)/\¬fV (dN s i)->uK (dN s j)/\¬fV (dN s j)/\dN s j≠124
 | .pa,_,j=>uK (dN s j)/\¬fV (dN s j)/\dN s j≠124
theorem P.aft{t:aH}{a:aM}{D:Bool}(h:P s t i j a D):Aft s t i j:=by
 induction h with
 | any=>trivial
 | U6=>trivial
 | xC=>trivial
 | cls=>trivial
 | yj=>trivial
 | Oz=>trivial
 | GQ g l p=>exact⟨g,l,p⟩
 | star _ _ f=>exact f
 | plus _ _ f=>exact f
 | opt _ _ f=>exact f
 | pc _ _ _ f=>exact f
 | Lb h=>exact fun k=>⟨k,h⟩
 | Aq _ _ _ d e=>exact fun _=>e d
 | br _ _ d e=>exact e d
 | IK h=>exact fun k=>⟨k.1,k.2,h⟩
 | zS _ _ _ d e=>exact fun _=>e d
 | pa _ _ d e=>exact e d
def Pst(s:Y_)(i:Nat)(w:Int):Prop:=w=2\/(w=3/\fV (dN s i))
theorem sI(f:Pst s i w)(e:w=2\/fV (dN s i))(d l:Int):Kg ⟨w,d,l⟩ (dN s i)=nQ (dN s i) d:=by
 rcases f with rfl | ⟨rfl,h⟩
 .rfl
 .unfold fV at h;show nK _ _=_;unfold nK;rw[if_neg o_,if_neg o_,if_neg o_,if_neg o_]
def aH.begins:aH->Prop
 | .atom=>True
 | .pc=>True
 | .br=>True
 | .pa=>True
 | _=>False
def Nst(s:Y_)(t:aH)(i:Nat)(w:Int):Prop:=(t.begins/\Pst s i w)\/(¬t.begins/\w=3)
theorem vD{t:aH}(h:Nst s t i w)(d:t.begins):Pst s i w:=by
 rcases h with h | h
 .exact h.2
 .exact absurd d h.1
theorem uE{t:aH}(h:Nst s t i w)(d:¬t.begins):w=3:=by
 rcases h with h | h
 .exact absurd h.1 d
 .exact h.2
theorem fA.more{s:Y_}{i:Nat}{d l w':Int}(h:dN s i≠-1)(f:nK (dN s i) d=(w',d))(e:w'≠0)(g:w'≠16):fA s i ⟨3,d,l⟩ (i+1) ⟨w',d,l⟩:=.by h f e g
theorem KY(h:dN s i=c)(d:fV c):fV (dN s i):=by rw[h];exact d
theorem fA.bar(e:dN s i=124)(d l:Int):fA s i ⟨3,d,l⟩ (i+1) ⟨2,d,l⟩:=.more o_ (by rw[e];rfl) d_ d_
theorem fA.aay(e:dN s i=91)(f:Pst s i w)(d l:Int):fA s i ⟨w,d,l⟩ (i+1) ⟨5,d,l⟩:=
 .by o_ (by rw[sI f (.inr (KY e d_)),e];rfl) d_ d_
theorem fA.open(e:dN s i=40)(f:Pst s i w)(d l:Int):fA s i ⟨w,d,l⟩ (i+1) ⟨2,d+1,l⟩:=
 .by o_ (by rw[sI f (.inr (KY e d_)),e];rfl) d_ d_
theorem fA.not(e:dN s i=94)(d l:Int):fA s i ⟨5,d,l⟩ (i+1) ⟨6,d,l⟩:=.by o_ (by rw[e];rfl) d_ d_
theorem P.goes{s:Y_}{t:aH}{i j:Nat}{a:aM}{D:Bool}(h:P s t i j a D):∀(w d l:Int),0<=d->Nst s t i w->fA s i ⟨w,d,l⟩ j ⟨3,d,l⟩:=by
 induction h with
 | any g=>?_
 | U6 r g A B E=>
  intro w d l e f;have u:=vD f trivial;have C:=r;unfold fV at C;refine .by o_ ?_ d_ d_;rw[sI u (.inr r)];unfold nQ eP;rw[if_neg o_,if_neg o_,if_neg o_,if_neg o_,if_pos (by unfold Plain;omega)]
 | xC g A=>?_
 | cls g A B=>?_
 | yj g A B=>?_
 | Oz g _ B z=>?_
 | GQ=>intro w d l e f;rw[uE f id];exact .refl _ _
 | star g _ z=>intro w d l e f;rw[uE f id];exact (fA.more o_ (by rw[g];rfl) d_ d_).trans (z 3 d l e (.inr ⟨id,rfl⟩))
 | plus g _ z=>intro w d l e f;rw[uE f id];exact (fA.more o_ (by rw[g];rfl) d_ d_).trans (z 3 d l e (.inr ⟨id,rfl⟩))
 | opt g _ z=>intro w d l e f;rw[uE f id];exact (fA.more o_ (by rw[g];rfl) d_ d_).trans (z 3 d l e (.inr ⟨id,rfl⟩))
 | pc _ _ p q=>intro w d l e f;exact (p w d l e (.inl ⟨trivial,vD f trivial⟩)).trans (q 3 d l e (.inr ⟨id,rfl⟩))
 | Lb=>intro w d l e f;rw[uE f id];exact .refl _ _
 | Aq g _ _ p q=>intro w d l e f;rw[uE f id];exact (p 3 d l e (.inl ⟨trivial,.inr ⟨rfl,g⟩⟩)).trans (q 3 d l e (.inr ⟨id,rfl⟩))
 | br _ _ p q=>intro w d l e f;exact (p w d l e (.inl ⟨trivial,vD f trivial⟩)).trans (q 3 d l e (.inr ⟨id,rfl⟩))
 | IK=>intro w d l e f;rw[uE f id];exact .refl _ _
 | zS g _ _ p q=>intro w d l e f;rw[uE f id];exact (fA.more o_ (by rw[g];rfl) d_ d_).trans ((p 2 d l e (.inl ⟨trivial,.inl rfl⟩)).trans (q 3 d l e (.inr ⟨id,rfl⟩)))
 | pa _ _ p q=>intro w d l e f;exact (p w d l e (.inl ⟨trivial,vD f trivial⟩)).trans (q 3 d l e (.inr ⟨id,rfl⟩))
 all_goals
  intro w d l e f;have u:=vD f trivial;have r:=KY g d_
 .refine .by o_ ?_ d_ d_;rw[sI u (.inr r),g];rfl
 .have k:=A.ok;refine (fA.by (w':=4) (d':=d) o_ ?_ d_ d_).trans (.by ?_ ?_ d_ d_)
  .rw [sI u (.inr r),g];rfl
  .unfold gZ at k;omega
  .show (eP (gZ _) 3,d)=_;unfold eP;rw[if_pos k]
 .refine (fA.by (w':=5) (d':=d) o_ ?_ d_ d_).trans (B.goes d l (.inl ⟨rfl,A⟩));rw[sI u (.inr r),g];rfl
 .refine (fA.by (w':=5) (d':=d) o_ ?_ d_ d_).trans ((fA.by (w':=6) (d':=d) o_ ?_ d_ d_).trans (B.goes d l (.inr (.inl rfl))))
  .rw [sI u (.inr r),g];rfl
  .rw [A];rfl
 .refine (fA.by (w':=2) (d':=d+1) o_ ?_ d_ d_).trans ((z 2 (d+1) l o_ (.inl ⟨trivial,.inl rfl⟩)).trans (.by o_ ?_ d_ d_))
  .rw [sI u (.inr r),g];rfl
  .show nK _ (d+1)=_;unfold nK eP;rw[B,if_neg o_,if_neg o_,if_pos rfl,if_pos o_,(o_:d+1-1=d)]
def Fst(s:Y_):aG->Nat->Int->Prop
 | .Aq,_,w=>w=3
 | .zS,_,w=>w=3
 | _,i,w=>Pst s i w
theorem aI.jF{s:Y_}{t:aG}{i k:Nat}(h:aI s t i k):i<=s.size->∀(w d l:Int),0<=d->Fst s t i w->oV s i ⟨w,d,l⟩ k:=by
 induction h with
 | none e=>
  intro p w d l q f;have C:w=2:=by
   rcases f with h | h
   .exact h
   .exact absurd h.2 e
  subst C;refine .here p d_ fun H=>?_;show (nQ _ _).1=16;unfold fV at e;unfold nQ eP;rw[if_neg o_,if_neg o_,if_neg o_,if_neg o_,if_neg (by unfold Plain;omega)]
 | xC e u=>
  intro p w d l q f;have F:=KY e d_;have G:_<s.size:=fK (s:=s) (by rw[e];decide);refine (fA.by (w':=4) (d':=d) o_ ?_ d_ d_).jF (.here o_ d_ fun _=>?_)
  .rw [sI f (.inr F),e];rfl
  .show eP (gZ _) 3=16;unfold eP;rw[if_neg u]
 | cls e u B=>intro p w d l q f;have g:=fA.aay e f d l;exact g.jF (B.jF (g.le.2 p) d l (.inl ⟨rfl,u⟩))
 | yj e u B=>intro p w d l q f;have g:=fA.aay e f d l;have z:=g.trans (fA.not u d l);exact z.jF (B.jF (z.le.2 p) d l (.inr (.inl rfl)))
 | Oz e _ r=>intro p w d l q f;have g:=fA.open e f d l;exact g.jF (r (g.le.2 p) 2 (d+1) l o_ (.inl rfl))
 | @ajq i j a D e u B=>
  intro p w d l q f;have g:=fA.open e f d l;have z:=g.trans (u.goes 2 (d+1) l o_ (.inl ⟨trivial,.inl rfl⟩));have a:=u.aft;simp only[Aft,uK,fV]at a;refine z.jF (.here (z.le.2 p) d_ fun H=>?_);show (nK _ (d+1)).1=16;unfold nK nQ eP;by_cases E:dN s j=32
  .rw [if_neg o_,if_neg o_,if_neg o_,if_pos E,if_neg o_]
  .rw [if_neg o_,if_neg o_,if_neg o_,if_neg E,if_neg o_,if_neg o_,if_neg o_,if_neg o_,if_neg (by unfold Plain;omega)]
 | pc _ r=>exact r
 | ai3 e _ r=>intro p w d l q f;exact r p w d l q (.inr ⟨f,e⟩)
 | ai4 e u _ r=>intro p w d l q f;have g:=u.goes w d l q (.inl ⟨trivial,.inr ⟨f,e⟩⟩);exact g.jF (r (g.le.2 p) 3 d l q rfl)
 | br1 _ r=>exact r
 | br2 u _ r=>?_
 | akd e _ r=>intro p w d l q f;have A:w=3:=f;subst A;have g:=fA.bar e d l;exact g.jF (r (g.le.2 p) 2 d l q (.inl rfl))
 | ake e u _ r=>intro p w d l q f;have A:w=3:=f;subst A;have g:=fA.bar e d l;have z:=g.trans (u.goes 2 d l q (.inl ⟨trivial,.inl rfl⟩));exact z.jF (r (z.le.2 p) 3 d l q rfl)
 | pa1 _ r=>exact r
 | pa2 u _ r=>?_
 all_goals
  intro p w d l q f;have g:=u.goes w d l q (.inl ⟨trivial,f⟩);exact g.jF (r (g.le.2 p) 3 d l q rfl)
end Pu
namespace Pu
structure aC where
 mode:Int
 emit:Int
 act:Int
 md:Int
 re:aM
 down:Bool
def fP(b:Int):Prop:=97<=b/\b<=100
def oF(b e:Int):Prop:=(b=101/\e=1)\/(b=115/\e=0)
inductive Act(s:Y_):Nat->Nat->Int->Int->Int->Prop where
 | plain {i:Nat} {e:Int}:oF (dN s i) e->dN s (i+1)≠60->dN s (i+1)≠62->dN s (i+1)≠43->Act s i (i+1) e 0 0
 | pop {i:Nat} {e:Int}:oF (dN s i) e->dN s (i+1)=60->Act s i (i+2) e 3 0
 | bH {i:Nat} {e:Int}:oF (dN s i) e->dN s (i+1)=62->fP (dN s (i+2))->Act s i (i+3) e 1 (dN s (i+2)-97)
 | push {i:Nat} {e:Int}:oF (dN s i) e->dN s (i+1)=43->fP (dN s (i+2))->Act s i (i+3) e 2 (dN s (i+2)-97)
inductive QX(s:Y_):Nat->Nat->Prop where
 | none {i:Nat}:dN s i≠101->dN s i≠115->QX s i i
 | mode {i:Nat} {e:Int}:oF (dN s i) e->dN s (i+1)=62\/dN s (i+1)=43->¬fP (dN s (i+2))->QX s i (i+2)
inductive I6(s:Y_):Nat->Nat->aC->Prop where
 | mk {i j k:Nat} {a:aM} {D:Bool} {e c m:Int}:fP (dN s i)->dN s (i+1)=32->P s .pa (i+2) j a D->dN s j=32->Act s (j+1) k e c m->I6 s i k ⟨dN s i-97,e,c,m,a,D⟩
inductive V7(s:Y_):Nat->Nat->Prop where
 | mode {i:Nat}:¬fP (dN s i)->V7 s i i
 | blank {i:Nat}:fP (dN s i)->dN s (i+1)≠32->V7 s i (i+1)
 | pat {i k:Nat}:fP (dN s i)->dN s (i+1)=32->aI s .pa (i+2) k->V7 s i k
 | blank' {i j:Nat} {a:aM} {D:Bool}:fP (dN s i)->dN s (i+1)=32->P s .pa (i+2) j a D->dN s j≠32->V7 s i j
 | act {i j k:Nat} {a:aM} {D:Bool}:fP (dN s i)->dN s (i+1)=32->P s .pa (i+2) j a D->dN s j=32->QX s (j+1) k->V7 s i k
inductive uk(s:Y_):Nat->List aC->List aC->Prop where
 | done {i:Nat} {x:aC} {ls:List aC}:I6 s i s.size x->uk s i ls (ls++[x])
 | more {i j:Nat} {x:aC} {ls all:List aC}:I6 s i j x->dN s j=10->ls.length+1<16->uk s (j+1) (ls++[x]) all->uk s i ls all
inductive xF(s:Y_):Nat->Nat->Nat->Prop where
 | here {i k n:Nat}:V7 s i k->xF s i n k
 | full {i j n:Nat} {x:aC}:I6 s i j x->j≠s.size->n+1=16\/dN s j≠10->xF s i n j
 | more {i j k n:Nat} {x:aC}:I6 s i j x->dN s j=10->n+1<16->xF s (j+1) (n+1) k->xF s i n k
def Bv(s:Y_)(k:Nat)(w:Int):Prop:=(w=13/\dN s k≠60/\dN s k≠62/\dN s k≠43)\/w=15
theorem Act.goes{e m:Int}(h:Act s i k e c m)(l:Int):∃w,Bv s k w/\fA s i ⟨12,0,l⟩ k ⟨w,0,l⟩:=by
 have one:∀{i:Nat} {e:Int},oF (dN s i) e->fA s i ⟨12,0,l⟩ (i+1) ⟨13,0,l⟩:=by
  intro i e f;unfold oF at f;refine .by o_ ?_ d_ d_;show (iZ 12 _ _,(0:Int))=_;unfold iZ eP;rw[if_neg d_,if_neg d_,if_pos rfl,if_pos o_]
 have two:∀{i:Nat},dN s i=62\/dN s i=43->fA s i ⟨13,0,l⟩ (i+1) ⟨14,0,l⟩:=by
  intro i f;refine .by o_ ?_ d_ d_;show (iZ 13 _ _,(0:Int))=_;unfold iZ;rw[if_neg d_,if_neg d_,if_neg d_,if_neg d_,if_pos ⟨rfl,f⟩]
 have d:∀{i:Nat},fP (dN s i)->fA s i ⟨14,0,l⟩ (i+1) ⟨15,0,l⟩:=by
  intro i f;unfold fP at f;refine .by o_ ?_ d_ d_;show (iZ 14 _ _,(0:Int))=_;unfold iZ eP;rw[if_neg d_,if_neg d_,if_neg d_,if_pos rfl,if_pos f]
 cases h with
 | plain f g p q=>exact⟨13,.inl ⟨rfl,g,p,q⟩,one f⟩
 | pop f g=>refine⟨15,.inr rfl,(one f).trans (.by o_ ?_ d_ d_)⟩;rw[g];rfl
 | bH f g p=>exact⟨15,.inr rfl,(one f).trans ((two (.inl g)).trans (d p))⟩
 | push f g p=>exact⟨15,.inr rfl,(one f).trans ((two (.inr g)).trans (d p))⟩
theorem QX.jF{s:Y_}{i k:Nat}(h:QX s i k)(q:i<=s.size)(l:Int):oV s i ⟨12,0,l⟩ k:=by
 cases h with
 | none e f=>
  refine .here q d_ fun _=>?_;show iZ 12 _ l=16;unfold iZ eP;rw[if_neg d_,if_neg d_,if_pos rfl,if_neg o_]
 | mode e f p=>
  have g:fA s i ⟨12,0,l⟩ (i+1) ⟨13,0,l⟩:=by
   unfold oF at e;refine .by o_ ?_ d_ d_;show (iZ 12 _ _,(0:Int))=_;unfold iZ eP;rw[if_neg d_,if_neg d_,if_pos rfl,if_pos o_]
  have r:fA s (i+1) ⟨13,0,l⟩ (i+1+1) ⟨14,0,l⟩:=by
   refine .by o_ ?_ d_ d_;show (iZ 13 _ _,(0:Int))=_;unfold iZ;rw[if_neg d_,if_neg d_,if_neg d_,if_neg d_,if_pos ⟨rfl,f⟩]
  have d:=g.trans r;refine d.jF (.here (d.le.2 q) d_ fun _=>?_);show iZ 14 _ l=16;unfold iZ eP;unfold fP at p;rw[if_neg d_,if_neg d_,if_neg d_,if_pos rfl,if_neg p]
theorem fA.mode(h:fP (dN s i))(l:Int):fA s i ⟨0,0,l⟩ (i+1) ⟨1,0,l⟩:=by
 unfold fP at h;refine .by o_ ?_ d_ d_;show (iZ 0 _ _,(0:Int))=_;unfold iZ eP;rw[if_pos rfl,if_pos h]
theorem fA.blank(h:dN s i=32)(l:Int):fA s i ⟨1,0,l⟩ (i+1) ⟨2,0,l⟩:=by
 refine .by o_ ?_ d_ d_;rw[h];rfl
theorem fA.head(h:fP (dN s i))(d:dN s (i+1)=32)(l:Int):fA s i ⟨0,0,l⟩ (i+2) ⟨2,0,l⟩:=(fA.mode h l).trans (fA.blank d l)
theorem fA.pat{a:aM}{D:Bool}(h:fP (dN s i))(d:dN s (i+1)=32)(e:P s .pa (i+2) j a D)(l:Int):fA s i ⟨0,0,l⟩ j ⟨3,0,l⟩:=
 (fA.head h d l).trans (e.goes 2 0 l d_ (.inl ⟨trivial,.inl rfl⟩))
theorem fA.agb{a:aM}{D:Bool}(h:fP (dN s i))(d:dN s (i+1)=32)(e:P s .pa (i+2) j a D)(f:dN s j=32)(l:Int):fA s i ⟨0,0,l⟩ (j+1) ⟨12,0,l⟩:=by refine (fA.pat h d e l).trans (.by o_ ?_ d_ d_);rw[f];rfl
theorem I6.goes{s:Y_}{i k:Nat}{x:aC}(h:I6 s i k x)(l:Int):∃w,Bv s k w/\fA s i ⟨0,0,l⟩ k ⟨w,0,l⟩:=by
 cases h with
 | mk d e f p q=>obtain⟨w,r,g⟩:=q.goes l;exact⟨w,r,(fA.agb d e f p l).trans g⟩
theorem V7.jF{s:Y_}{i k:Nat}(h:V7 s i k)(p:i<=s.size)(l:Int):oV s i ⟨0,0,l⟩ k:=by
 cases h with
 | mode d=>
  refine .here p d_ fun _=>?_;show iZ 0 _ l=16;unfold fP at d;unfold iZ eP;rw[if_pos rfl,if_neg d]
 | blank d e=>have g:=fA.mode d l;refine g.jF (.here (g.le.2 p) d_ fun _=>?_);show iZ 1 _ l=16;unfold iZ eP;rw[if_neg d_,if_pos rfl,if_neg e]
 | pat d e f=>have g:=fA.head d e l;exact g.jF (f.jF (g.le.2 p) 2 0 l d_ (.inl rfl))
 | blank' d e f q=>
  have g:=fA.pat d e f l;have a:=f.aft;simp only[Aft,uK,fV]at a;refine g.jF (.here (g.le.2 p) d_ fun u=>?_);show (nK _ 0).1=16;unfold nK nQ eP;by_cases t:dN s k=41
  .rw [if_neg o_,if_neg o_,if_pos t,if_neg o_]
  .rw [if_neg o_,if_neg o_,if_neg o_,if_neg q,if_neg o_,if_neg o_,if_neg o_,if_neg o_,if_neg (by unfold Plain;omega)]
 | act d e f q r=>have g:=fA.agb d e f q l;exact g.jF (r.jF (g.le.2 p) l)
theorem Fh(h:Bv s k w)(l:Int):Kg ⟨w,0,l⟩ (dN s k)=(eP (dN s k=10/\l<16) 0,0):=by
 have e:Kg ⟨w,0,l⟩ (dN s k)=(iZ w (dN s k) l,0):=by
  rcases h with h | h
  .rw [h.1];rfl
  .rw [h];rfl
 rw[e];unfold Bv at h;unfold iZ;rw[if_neg o_,if_neg o_,if_neg o_,if_neg o_,if_neg o_,if_neg o_]
theorem fA.line{x:aC}(h:I6 s i j x)(f:dN s j=10){l:Int}(p:l<16):fA s i ⟨0,0,l⟩ (j+1) ⟨0,0,l+1⟩:=by
 obtain⟨w,d,g⟩:=h.goes l;have e:=Fh d l;have q:w≠0:=by unfold Bv at d;omega
 unfold eP at e;rw[if_pos ⟨f,p⟩]at e;refine g.trans (.one o_ (by rw[e];decide) ?_);unfold nxt;rw[e];simp[q]
theorem uk.goes{s:Y_}{i:Nat}{ls d:List aC}(h:uk s i ls d):∃q:Mq,fA s i ⟨0,0,(ls.length:Int)+1⟩ s.size q/\(q.w=13\/q.w=15):=by
 induction h with
 | done e=>obtain⟨w,l,g⟩:=e.goes _;exact⟨_,g,by unfold Bv at l;show w=13\/w=15;omega⟩
 | more e f t _ r=>obtain⟨q,g,p⟩:=r;refine⟨q,(fA.line e f o_).trans ?_,p⟩;simpa using g
theorem xF.jF{s:Y_}{i n k:Nat}(h:xF s i n k):i<=s.size->oV s i ⟨0,0,(n:Int)+1⟩ k:=by
 induction h with
 | here d=>exact fun f=>d.jF f _
 | @full i j n x d q r=>
  intro f;obtain⟨w,t,g⟩:=d.goes ((n:Int)+1);have z:=g.le.2 f;have e:=Fh t ((n:Int)+1);unfold eP at e;rw[if_neg o_]at e;have p:j<s.size:=o_;rw[mM p]at e;exact⟨_,g,.inr ⟨p,by rw[e]⟩⟩
 | @more i j k n x d q r _ u=>
  intro f;have g:=fA.line d q (l:=(n:Int)+1) o_;have:=u (g.le.2 f);refine g.jF ?_;simpa using this
def aW:Mq:=⟨0,0,1⟩
theorem uk.UU{d:List aC}(h:uk s 0 [] d):∃q:Mq,fA s 0 aW s.size q/\(q.w=13\/q.w=15):=h.goes
theorem xF.at(h:xF s 0 0 k):oV s 0 aW k:=h.jF (zl_ _)
end Pu
namespace Pu
def QE(x:Nat)(f:List Nat->List Nat)(a:List Nat):List Nat->List Nat
 | []=>x::a
 | y::b=>if x<y then x::f (y::b) else if y<x then y::QE x f a b else x::f b
def un:List Nat->List Nat->List Nat
 | [],b=>b
 | x::a,b=>QE x (un a) a b
theorem acT(b:List Nat):un [] b=b:=rfl
theorem MI(a:List Nat):un a []=a:=by cases a <;> rfl
theorem acS(h:x<y):un (x::a) (y::b)=x::un a (y::b):=by show QE _ _ _ _=_;unfold QE;rw[if_pos h]
theorem acR(h:y<x):un (x::a) (y::b)=y::un (x::a) b:=by show QE _ _ _ _=_;unfold QE;rw[if_neg o_,if_pos h];rfl
theorem acQ:un (x::a) (x::b)=x::un a b:=by show QE _ _ _ _=_;unfold QE;rw[if_neg o_,if_neg o_]
def Ni(l:List Nat):Prop:=l.Pairwise (· < ·)
theorem Uu{Q:List Nat->List Nat->Prop}(f:∀b,Q [] b)(g:∀a,Q a [])(l:∀x y a b,x<y->Q a (y::b)->Q (x::a) (y::b))(p:∀x y a b,y<x->Q (x::a) b->Q (x::a) (y::b))(q:∀x a b,Q a b->Q (x::a) (x::b)):∀a b,Q a b:=by
 intro a;induction a with
 | nil=>exact f
 | cons x a e=>
  intro b;induction b with
  | nil=>exact g _
  | cons y b d=>
   rcases Nat.lt_trichotomy x y with h | h | h
   .exact l _ _ _ _ h (e _)
   .subst h;exact q _ _ _ (e _)
   .exact p _ _ _ _ h d
theorem pU(z:Nat):∀a b,z∈un a b↔z∈a\/z∈b:=by
 refine Uu ?_ ?_ ?_ ?_ ?_
 .intro b;simp[acT]
 .intro a;simp[MI]
 .intro x y a b h d;rw[acS h];simp only[mm_,d];exact⟨by rintro (h | h | h | h) <;> simp[h],by rintro ((h | h) | (h | h)) <;> simp[h]⟩
 .intro x y a b h d;rw[acR h];simp only[mm_,d];exact⟨by rintro (h | (h | h) | h) <;> simp[h],by rintro ((h | h) | (h | h)) <;> simp[h]⟩
 .intro x a b d;rw[acQ];simp only[mm_,d];exact⟨by rintro (h | h | h) <;> simp[h],by rintro ((h | h) | (h | h)) <;> simp[h]⟩
theorem ahG:∀a b,Ni a->Ni b->Ni (un a b):=by
 unfold Ni;refine Uu ?_ ?_ ?_ ?_ ?_
 .intro b _ h;exact h
 .intro a h _;rw[MI];exact h
 .intro x y a b h g d e;rw[acS h];rw[List.pairwise_cons]at d |-;refine⟨fun z f=>?_,g d.2 e⟩;rcases (pU z _ _).1 f with k | k
  .exact d.1 z k
  .rw [List.pairwise_cons]at e;rcases mm_.1 k with rfl | k
   .exact h
   .exact Nat.lt_trans h (e.1 z k)
 .intro x y a b h g d e;rw[acR h];rw[List.pairwise_cons]at e |-;refine⟨fun z f=>?_,g d e.2⟩;rcases (pU z _ _).1 f with k | k
  .rw [List.pairwise_cons]at d;rcases mm_.1 k with rfl | k
   .exact h
   .exact Nat.lt_trans h (d.1 z k)
  .exact e.1 z k
 .intro x a b g d e;rw[acQ];rw[List.pairwise_cons]at d e |-;refine⟨fun z f=>?_,g d.2 e.2⟩;rcases (pU z _ _).1 f with k | k
  .exact d.1 z k
  .exact e.1 z k
theorem Ri{l:List Nat}(h:Ni l)(q:∀x∈l,x<n):l.length<=n:=by
 have e:∀(l:List Nat) (m:Nat),Ni l->(∀x∈l,m<=x/\x<n)->l.length+m<=n\/l=[]:=by
  intro l;induction l with
  | nil=>intro m _ _;exact .inr rfl
  | cons x l r=>
   intro m d f;left;unfold Ni at d;rw[List.pairwise_cons]at d;have g:=f x (ms_ ..);rcases r (x+1) d.2 (fun z p=>⟨d.1 z p,(f z (mc_ _ p)).2⟩) with k | k
   .simp;omega
   .subst k;simp;omega
 rcases e l 0 h (fun x g=>⟨zl_ _,q x g⟩) with k | k
 .omega
 .subst k;exact zl_ _
structure aJ where
 takes:Nat->Bool
 next:List Nat
structure aK where
 empty:Bool
 first:List Nat
 last:List Nat
def xf(bH:List Nat)(ps:List aJ)(p:Nat):List aJ:=ps.modify p (fun x=>{ x with next:=un x.next bH })
def leads(fr bH:List Nat)(ps:List aJ):List aJ:=fr.foldl (xf bH) ps
def xB(T:Nat->Bool)(ps:List aJ):aK × List aJ:=(⟨false,[ps.length],[ps.length]⟩,ps++[⟨T,[]⟩])
def xZ(a b:aK)(ps:List aJ):aK × List aJ:=(⟨a.empty && b.empty,if a.empty then un a.first b.first else a.first,if b.empty then un a.last b.last else b.last⟩,leads a.last b.first ps)
def repeated(a:aK)(d:Int)(ps:List aJ):aK × List aJ:=(⟨a.empty || decide (d≠43),a.first,a.last⟩,if d=63 then ps else leads a.last a.first ps)
def either(a b:aK):aK:=⟨a.empty || b.empty,un a.first b.first,un a.last b.last⟩
def part:aM->List aJ->aK × List aJ
 | .pl T,ps=>xB T ps
 | .cat a b,ps=>xZ (part a ps).1 (part b (part a ps).2).1 (part b (part a ps).2).2
 | .alt a b,ps=>(either (part a ps).1 (part b (part a ps).2).1,(part b (part a ps).2).2)
 | .star a,ps=>repeated (part a ps).1 42 (part a ps).2
 | .plus a,ps=>repeated (part a ps).1 43 (part a ps).2
 | .opt a,ps=>repeated (part a ps).1 63 (part a ps).2
def sJ(n:Nat)(l:List Nat):Prop:=Ni l/\∀x∈l,x<n
def nO(n:Nat)(a:aK):Prop:=sJ n a.first/\sJ n a.last
def jh(ps:List aJ):Prop:=∀p∈ps,sJ ps.length p.next
theorem sJ.len{l:List Nat}(h:sJ n l):l.length<=n:=Ri h.1 h.2
theorem sJ.mono{m:Nat}{l:List Nat}(h:sJ n l)(d:n<=m):sJ m l:=⟨h.1,fun x e=>Nat.lt_of_lt_of_le (h.2 x e) d⟩
theorem nO.mono{n m:Nat}{a:aK}(h:nO n a)(d:n<=m):nO m a:=⟨h.1.mono d,h.2.mono d⟩
theorem sJ.un{n:Nat}{a b:List Nat}(d:sJ n a)(e:sJ n b):sJ n (un a b):=
 ⟨ahG a b d.1 e.1,fun x f=>((pU x a b).1 f).elim (d.2 x) (e.2 x)⟩
theorem sJ.nil(n:Nat):sJ n []:=⟨List.Pairwise.nil,fun x d=>by simp at d⟩
theorem sJ.one{n x:Nat}(h:x<n):sJ n [x]:=⟨List.pairwise_singleton _ _,fun y d=>by simp at d;omega⟩
theorem su(bH:List Nat)(ps:List aJ)(p:Nat):(xf bH ps p).length=ps.length:=by simp[xf]
theorem ou(fr bH:List Nat)(ps:List aJ):(leads fr bH ps).length=ps.length:=by
 unfold leads;induction fr generalizing ps with
 | nil=>rfl
 | cons x fr d=>rw[List.foldl_cons,d,su]
theorem Ci(bH:List Nat)(ps:List aJ)(p i:Nat):(xf bH ps p)[i]?=(ps[i]?).map (fun x=>if p=i then { x with next:=un x.next bH } else x):=by
 unfold xf;rw[List.getElem?_modify];by_cases h:p=i
 .simp [h]
 .simp [h]
theorem O4{bH:List Nat}{ps:List aJ}{p:Nat}(h:jh ps)(g:sJ ps.length bH):jh (xf bH ps p):=by
 intro q f;obtain⟨i,d⟩:=gf_ f;rw[Ci]at d;rw[su];cases hx:ps[i]? with
 | none=>rw[hx]at d;cases d
 | some x=>
  rw[hx]at d;have e:=h x (mg_ hx);simp only[Option.map_some,Option.some.injEq]at d;subst d;split
  .exact e.un g
  .exact e
theorem Pe{bH:List Nat}(fr:List Nat){ps:List aJ}(h:jh ps)(d:sJ ps.length bH):jh (leads fr bH ps):=by
 unfold leads;induction fr generalizing ps with
 | nil=>exact h
 | cons x fr e=>exact e (O4 h d) (by rw[su];exact d)
def aM.leaves:aM->Nat
 | .pl _=>1
 | .cat a b=>a.leaves+b.leaves
 | .alt a b=>a.leaves+b.leaves
 | .star a=>a.leaves
 | .plus a=>a.leaves
 | .opt a=>a.leaves
theorem jS(a:aK)(d:Int)(ps:List aJ):(repeated a d ps).2.length=ps.length:=by
 unfold repeated;simp only;split
 .rfl
 .rw [ou]
theorem iC(g:aM):∀ps,(part g ps).2.length=ps.length+g.leaves:=by
 induction g with
 | pl T=>intro ps;simp[part,xB,aM.leaves]
 | cat a b d e=>intro ps;show (leads _ _ _).length=_;rw[ou,e,d];simp[aM.leaves];omega
 | alt a b d e=>intro ps;show (part b _).2.length=_;rw[e,d];simp[aM.leaves];omega
 | star a f=>intro ps;show (repeated _ _ _).2.length=_;rw[jS,f];rfl
 | plus a f=>intro ps;show (repeated _ _ _).2.length=_;rw[jS,f];rfl
 | opt a f=>intro ps;show (repeated _ _ _).2.length=_;rw[jS,f];rfl
theorem Ce{a b:aK}{ps:List aJ}(e:nO ps.length a)(d:nO ps.length b)(h:jh ps):nO ps.length (xZ a b ps).1/\jh (xZ a b ps).2:=by
 refine⟨⟨?_,?_⟩,Pe _ h d.1⟩
 .show sJ _ (if _ then _ else _);split
  .exact e.1.un d.1
  .exact e.1
 .show sJ _ (if _ then _ else _);split
  .exact e.2.un d.2
  .exact d.2
theorem uD{a:aK}{ps:List aJ}(d:Int)(e:nO ps.length a)(h:jh ps):nO ps.length (repeated a d ps).1/\jh (repeated a d ps).2:=by
 refine⟨e,?_⟩;show jh (if _ then _ else _);split
 .exact h
 .exact Pe _ h e.1
theorem BR{a b:aK}(d:nO n a)(e:nO n b):nO n (either a b):=⟨d.1.un e.1,d.2.un e.2⟩
theorem aeQ{T:Nat->Bool}{ps:List aJ}(h:jh ps):nO (xB T ps).2.length (xB T ps).1/\jh (xB T ps).2:=by
 refine⟨⟨.one (by simp[xB]),.one (by simp[xB])⟩,fun p d=>?_⟩;rcases ma_.1 d with k | k
 .exact (h p k).mono (by simp[xB])
 .simp at k;subst k;exact .nil _
theorem AX(p:aM):∀ps,jh ps->nO (part p ps).2.length (part p ps).1/\jh (part p ps).2:=by
 induction p with
 | pl T=>intro ps h;exact aeQ h
 | cat a b d e=>intro ps h;have g:=d ps h;have l:=e _ g.2;have:=Ce (g.1.mono (by rw[iC b];omega)) l.1 l.2;show nO (leads _ _ _).length _/\_;rw[ou];exact this
 | alt a b d e=>intro ps h;have g:=d ps h;have l:=e _ g.2;exact⟨BR (g.1.mono (by rw[iC,iC];simp only[aM.leaves];omega)) l.1,l.2⟩
 | star a f=>intro ps h;have k:=f ps h;have:=uD 42 k.1 k.2;exact⟨by show nO (repeated _ _ _).2.length _;rw[jS];exact this.1,this.2⟩
 | plus a f=>intro ps h;have k:=f ps h;have:=uD 43 k.1 k.2;exact⟨by show nO (repeated _ _ _).2.length _;rw[jS];exact this.1,this.2⟩
 | opt a f=>intro ps h;have k:=f ps h;have:=uD 63 k.1 k.2;exact⟨by show nO (repeated _ _ _).2.length _;rw[jS];exact this.1,this.2⟩
theorem Sg.lt(h:Sg s i j v):i<j:=by cases h <;> omega
theorem ay.lt{s:Y_}{i j:Nat}{v u:Int}{r:Bool}(h:ay s i j v u r):i<j:=by
 cases h with
 | one d=>exact d.lt
 | range d _ e=>have:=d.lt;have:=e.lt;omega
theorem aj.lt{s:Y_}{i k:Nat}{T f:Nat->Bool}{D e:Bool}(h:aj s i T D k f e):i<k:=by
 induction h with
 | done d _=>have:=d.lt;omega
 | more d _ _ g=>have:=d.lt;omega
def aH.lv:aH->Nat
 | .QU a _=>a.leaves
 | .Aq a _=>a.leaves
 | .zS a _=>a.leaves
 | _=>0
theorem P.leaves{s:Y_}{t:aH}{i j:Nat}{a:aM}{D:Bool}(h:P s t i j a D):a.leaves+i<=t.lv+j/\i<=j:=by
 induction h with
 | any=>simp[aM.leaves,aH.lv];omega
 | U6=>simp[aM.leaves,aH.lv];omega
 | xC=>simp[aM.leaves,aH.lv];omega
 | cls _ _ h=>have:=h.lt;simp[aM.leaves,aH.lv];omega
 | yj _ _ h=>have:=h.lt;simp[aM.leaves,aH.lv];omega
 | Oz _ _ _ f=>simp only[aH.lv]at f |-;omega
 | GQ=>simp[aH.lv]
 | star _ _ f=>simp only[aH.lv,aM.leaves]at f |-;omega
 | plus _ _ f=>simp only[aH.lv,aM.leaves]at f |-;omega
 | opt _ _ f=>simp only[aH.lv,aM.leaves]at f |-;omega
 | pc _ _ d e=>simp only[aH.lv]at d e |-;omega
 | Lb=>simp[aH.lv]
 | Aq _ _ _ d e=>simp only[aH.lv,aM.leaves]at d e |-;omega
 | br _ _ d e=>simp only[aH.lv]at d e |-;omega
 | IK=>simp[aH.lv]
 | zS _ _ _ d e=>simp only[aH.lv,aM.leaves]at d e |-;omega
 | pa _ _ d e=>simp only[aH.lv]at d e |-;omega
def yg(x:Nat)(f:List Nat->Bool):List Nat->Bool
 | []=>false
 | y::b=>if x<y then f (y::b) else if y<x then yg x f b else true
def meet:List Nat->List Nat->Bool
 | [],_=>false
 | x::a,b=>yg x (meet a) b
theorem Pw(b:List Nat):meet [] b=false:=rfl
theorem Co(a:List Nat):meet a []=false:=by cases a <;> rfl
theorem Vu(h:x<y):meet (x::a) (y::b)=meet a (y::b):=by show yg _ _ _=_;unfold yg;rw[if_pos h]
theorem Vt(h:y<x):meet (x::a) (y::b)=meet (x::a) b:=by show yg _ _ _=_;unfold yg;rw[if_neg o_,if_pos h];rfl
theorem Vs:meet (x::a) (x::b)=true:=by show yg _ _ _=_;unfold yg;rw[if_neg o_,if_neg o_]
theorem abV:∀a b,Ni a->Ni b->(meet a b=true↔∃x,x∈a/\x∈b):=by
 unfold Ni;refine Uu ?_ ?_ ?_ ?_ ?_
 .intro b _ _;simp[Pw]
 .intro a _ _;simp[Co]
 .intro x y a b h l f g;rw[Vu h,l (List.pairwise_cons.1 f).2 g];refine⟨fun ⟨z,d,e⟩=>⟨z,mc_ _ d,e⟩,fun ⟨z,d,e⟩=>?_⟩;rcases mm_.1 d with rfl | k
  .rcases mm_.1 e with rfl | k
   .omega
   .have:=(List.pairwise_cons.1 g).1 z k;omega
  .exact⟨z,k,e⟩
 .intro x y a b h l f g;rw[Vt h,l f (List.pairwise_cons.1 g).2];refine⟨fun ⟨z,d,e⟩=>⟨z,d,mc_ _ e⟩,fun ⟨z,d,e⟩=>?_⟩;rcases mm_.1 e with rfl | k
  .rcases mm_.1 d with rfl | k
   .omega
   .have:=(List.pairwise_cons.1 f).1 z k;omega
  .exact⟨z,d,k⟩
 .intro x a b _ _ _;rw[Vs];exact⟨fun _=>⟨x,ms_ ..,ms_ ..⟩,fun _=>rfl⟩
end Pu
namespace Pu
structure aD where
 mode:Int
 emit:Int
 act:Int
 md:Int
 pt:aK
 down:Bool
def aC.lp(x:aC)(d:aK):aD:=⟨x.mode,x.emit,x.act,x.md,d,x.down⟩
def C9(q:List aD × List aJ)(x:aC):List aD × List aJ:=(q.1++[x.lp (part x.re q.2).1],(part x.re q.2).2)
def dx(ls:List aC):List aD × List aJ:=ls.foldl C9 ([],[])
structure aN where
 places:List Nat
 longer:List Nat
def aZ(ps:List aJ)(p b:Nat):Bool:=match ps[p]? with
 | some x=>x.takes b
 | none=>false
def nx(ps:List aJ)(p:Nat):List Nat:=match ps[p]? with
 | some x=>x.next
 | none=>[]
def kL:List Nat:=List.replicate 256 0
def taking(ps:List aJ)(d:List Nat)(b:Nat):List Nat:=d.filter (fun p=>aZ ps p b)
def iV(t:List Nat):List aN->Nat
 | []=>0
 | s::r=>if s.places=t then 0 else iV t r+1
def iB(ss:List aN)(t:List Nat):List aN:=if iV t ss<ss.length then ss else ss++[⟨t,kL⟩]
def jG(ss:List aN)(fr b n:Nat):List aN:=ss.modify fr (fun s=>{ s with longer:=s.longer.set b n })
def oN(ps:List aJ)(d:List Nat)(fr:Nat)(ss:List aN)(b:Nat):List aN:=jG (iB ss (taking ps d b)) fr b (iV (taking ps d b) ss)
def nJ(ps:List aJ)(d:List Nat)(fr:Nat)(ss:List aN)(k:Nat):List aN:=(List.range k).foldl (oN ps d fr) ss
def jQ(ls:List aD)(mode:Int):List Nat:=ls.foldl (fun acc x=>if x.mode=mode then un acc x.pt.first else acc) []
def jq(ps:List aJ)(set:List Nat):List Nat:=set.foldl (fun acc p=>un acc (nx ps p)) []
def qM(ss:List aN)(k:Nat):List Nat:=match ss[k]? with
 | some x=>x.places
 | none=>[]
def qy(ps:List aJ):Nat->Nat->List aN->List aN
 | 0,_,ss=>ss
 | f+1,k,ss=>if k<ss.length/\ss.length<=42 then qy ps f (k+1) (nJ ps (jq ps (qM ss k)) k ss 256) else ss
def Qw:List aN:=[⟨[],kL⟩,⟨[],kL⟩]
def qz(ls:List aD)(ps:List aJ)(mode:Int):List aN:=qy ps 43 2 (nJ ps (jQ ls mode) 1 Qw 256)
structure aA where
 rule:Int
 longer:List Nat
def lq(t:List Nat):List aD->Nat->Int
 | [],_=>-1
 | x::r,k=>if meet x.pt.last t then k else lq t r (k+1)
def gX(ls:List aD)(t:List Nat):Int:=lq t ls 0
def qW(ss:List aN)(k b:Nat):Nat:=match ss[k]? with
 | some x=>x.longer.getD b 0
 | none=>0
def pI(ss:List aN)(d:List Nat)(a b n:Nat):Bool:=(List.range n).all (fun c=>decide (d.getD (qW ss a c) 0=d.getD (qW ss b c) 0))
def iL(ss:List aN)(rs:List Int)(d:List Nat)(set:Nat):List Nat->Nat
 | []=>0
 | o::r=>if rs.getD set 0=rs.getD o 0/\pI ss d set o 256=true then 0 else iL ss rs d set r+1
structure iw where
 kinds:List Nat
 firsts:List Nat
def FQ(ss:List aN)(rs:List Int)(d:List Nat)(q:iw)(set:Nat):iw:=
 ⟨q.kinds++[iL ss rs d set q.firsts],if iL ss rs d set q.firsts=q.firsts.length then q.firsts++[set] else q.firsts⟩
def fZ(ss:List aN)(rs:List Int)(d:List Nat)(n:Nat):iw:=(List.range n).foldl (FQ ss rs d) ⟨[],[]⟩
def oh(ss:List aN)(rs:List Int):Nat->iw->iw
 | 0,q=>q
 | f+1,q=>if (fZ ss rs q.kinds ss.length).firsts.length<=q.firsts.length then fZ ss rs q.kinds ss.length else oh ss rs f (fZ ss rs q.kinds ss.length)
def oK(ss:List aN)(rs:List Int):iw:=oh ss rs (ss.length+1) ⟨List.replicate ss.length 0,[]⟩
def dJ(ls:List aD)(ss:List aN):List Int:=ss.map (fun s=>gX ls s.places)
def qV(rs:List Int)(ss:List aN)(q:iw)(set:Nat):aA:=⟨rs.getD set 0,(List.range 256).map (fun b=>q.kinds.getD (qW ss set b) 0)⟩
def jW(ls:List aD)(ss:List aN):List aA:=(oK ss (dJ ls ss)).firsts.map (qV (dJ ls ss) ss (oK ss (dJ ls ss)))
def jD(l:List Nat)(d:Nat):Nat->Nat
 | 0=>d
 | f+1=>if d+1<256/\l.getD (d+1) 0=l.getD d 0 then jD l (d+1) f else d
def pV(l:List Nat):Nat->Nat->List ed->List ed
 | 0,_,acc=>acc
 | f+1,low,acc=>if low<256 then pV l f (jD l low 256+1) (if l.getD low 0=0 then acc else acc++[⟨3,low,(jD l low 256:Nat),(l.getD low 0:Nat)⟩]) else acc
def iT(l:List Nat):List ed:=pV l 257 0 []
def dR(k:aA):List ed:=(if k.rule=-1 then [] else [⟨1,k.rule,0,0⟩])++(if (iT k.longer).length=0 then [] else [⟨2,0,0,0⟩])++iT k.longer++[⟨5,0,0,0⟩]
def JF(q:List ed × List Nat)(k:aA):List ed × List Nat:=(q.1++dR k,q.2++[q.1.length])
def lY(d:List Nat)(x:ed):ed:=if x.op=3 then { x with bH:=(d.getD x.bH.toNat 0:Nat) } else x
def oq(code:List ed)(d:List aA):List ed:=
 if d.length<=1 then code++[⟨5,0,0,0⟩]
 else code++(((d.drop 1).foldl JF (code,[0])).1.drop code.length).map (lY ((d.drop 1).foldl JF (code,[0])).2)
def uP(d:List (List aA)):List Int × List ed:=d.foldl (fun q m=>(q.1++[(q.2.length:Int)],oq q.2 m)) ([],[])
end Pu
end Go.Proofs.YtmccnmgaoppogabGreat
