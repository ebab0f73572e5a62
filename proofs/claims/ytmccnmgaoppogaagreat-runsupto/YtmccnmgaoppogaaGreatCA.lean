import Derived.Test.YtmccnmgaoppogaaGreatMeA
namespace Go.Proofs.YtmccnmgaoppogaaGreat
open Pu
set_option linter.all false
variable {s:Y_} {i j k:Nat} {c v w:Int}
namespace Pu
def dG (s:Y_) (i:Nat):Int:=if i<s.size then bt s i else -1
theorem fB (h:dG s i≠-1):i<s.size:=by
 unfold dG at h;split at h
 .assumption
 .exact absurd rfl h
theorem lK (h:i<s.size):dG s i=bt s i:=by unfold dG;rw [if_pos h]
theorem acC (h:s.size<=i):dG s i=-1:=by unfold dG;rw [if_neg (by omega)]
theorem Qt (s:Y_) (i:Nat):-1<=dG s i/\dG s i<=255:=by have:=iC s i;unfold dG;split <;> omega
def fJ (b:Int):Prop:=¬(b=41\/b=93\/b=42\/b=43\/b=63\/b=124\/b=32\/b=10\/b=-1)
def OL (b v:Int):Prop:=((b=40\/b=41\/b=91\/b=93\/b=42\/b=43\/b=63\/b=124\/b=46\/b=92\/b=45\/b=94)/\v=b)\/(b=110/\v=10)\/(b=115/\v=32)
def gu (b:Int):Prop:=(b=40\/b=41\/b=91\/b=93\/b=42\/b=43\/b=63\/b=124\/b=46\/b=92\/b=45\/b=94)\/b=110\/b=115
theorem OL.ok {b:Int} (h:OL b v):gu b:=by unfold OL at h;unfold gu;omega
inductive Sg (s:Y_):Nat->Nat->Int->Prop where
 | plain {i:Nat}:¬(dG s i=93\/dG s i=45\/dG s i=32\/dG s i=10\/dG s i=-1)->dG s i≠92->Sg s i (i+1) (dG s i)
 | wP {i:Nat} {v:Int}:dG s i=92->OL (dG s (i+1)) v->Sg s i (i+2) v
inductive SgF (s:Y_):Nat->Nat->Prop where
 | plain {i:Nat}:dG s i=93\/dG s i=45\/dG s i=32\/dG s i=10\/dG s i=-1->SgF s i i
 | wP {i:Nat}:dG s i=92->¬gu (dG s (i+1))->SgF s i (i+1)
inductive ay (s:Y_):Nat->Nat->Int->Int->Bool->Prop where
 | one {i j:Nat} {v:Int}:Sg s i j v->dG s j≠45->ay s i j v v false
 | range {i j k:Nat} {v u:Int}:Sg s i j v->dG s j=45->Sg s (j+1) k u->ay s i k v u true
inductive ItF (s:Y_):Nat->Nat->Prop where
 | one {i j:Nat}:SgF s i j->ItF s i j
 | range {i j k:Nat} {v:Int}:Sg s i j v->dG s j=45->SgF s (j+1) k->ItF s i k
def wid (T:Nat->Bool) (lo hi:Int):Nat->Bool:=fun n=>T n || (decide (lo<=(n:Int)) && decide ((n:Int)<=hi))
inductive aj (s:Y_):Nat->(Nat->Bool)->Bool->Nat->(Nat->Bool)->Bool->Prop where
 | done {i j:Nat} {lo hi:Int} {r:Bool} {T:Nat->Bool} {D:Bool}:ay s i j lo hi r->dG s j=93->aj s i T D (j+1) (wid T lo hi) (D || decide (hi<lo))
 | more {i j k:Nat} {lo hi:Int} {r:Bool} {T T':Nat->Bool} {D D':Bool}:ay s i j lo hi r->dG s j≠93->aj s j (wid T lo hi) (D || decide (hi<lo)) k T' D'->aj s i T D k T' D'
inductive Rt (s:Y_):Nat->Nat->Prop where
 | here {i j:Nat}:ItF s i j->Rt s i j
 | more {i j k:Nat} {lo hi:Int} {r:Bool}:ay s i j lo hi r->dG s j≠93->Rt s j k->Rt s i k
inductive aM where
 | pl:(Nat->Bool)->aM
 | cat:aM->aM->aM
 | alt:aM->aM->aM
 | star:aM->aM
 | plus:aM->aM
 | opt:aM->aM
def jf (b:Int):Nat->Bool:=fun n=>decide ((n:Int)=b)
def mF (T:Nat->Bool):Nat->Bool:=fun n=>!T n
def dP:Nat->Bool:=fun _=>false
inductive aH where
 | atom:aH
 | OE:aM->Bool->aH
 | pc:aH
 | zn:aM->Bool->aH
 | br:aH
 | yJ:aM->Bool->aH
 | pa:aH
inductive P (s:Y_):aH->Nat->Nat->aM->Bool->Prop where
 | any {i:Nat}:dG s i=46->P s .atom i (i+1) (.pl (mF (jf 10))) false
 | Si {i:Nat}:fJ (dG s i)->dG s i≠92->dG s i≠40->dG s i≠91->dG s i≠46->P s .atom i (i+1) (.pl (jf (dG s i))) false
 | wP {i:Nat} {v:Int}:dG s i=92->OL (dG s (i+1)) v->P s .atom i (i+2) (.pl (jf v)) false
 | cls {i k:Nat} {T:Nat->Bool} {D:Bool}:dG s i=91->dG s (i+1)≠94->aj s (i+1) dP false k T D->P s .atom i k (.pl T) D
 | wZ {i k:Nat} {T:Nat->Bool} {D:Bool}:dG s i=91->dG s (i+1)=94->aj s (i+2) dP false k T D->P s .atom i k (.pl (mF T)) D
 | Me {i j:Nat} {a:aM} {D:Bool}:dG s i=40->P s .pa (i+1) j a D->dG s j=41->P s .atom i (j+1) a D
 | EZ {i:Nat} {a:aM} {D:Bool}:dG s i≠42->dG s i≠43->dG s i≠63->P s (.OE a D) i i a D
 | star {i k:Nat} {a b:aM} {D D':Bool}:dG s i=42->P s (.OE (.star a) D) (i+1) k b D'->P s (.OE a D) i k b D'
 | plus {i k:Nat} {a b:aM} {D D':Bool}:dG s i=43->P s (.OE (.plus a) D) (i+1) k b D'->P s (.OE a D) i k b D'
 | opt {i k:Nat} {a b:aM} {D D':Bool}:dG s i=63->P s (.OE (.opt a) D) (i+1) k b D'->P s (.OE a D) i k b D'
 | pc {i j k:Nat} {a b:aM} {D D':Bool}:P s .atom i j a D->P s (.OE a D) j k b D'->P s .pc i k b D'
 | Jf {i:Nat} {a:aM} {D:Bool}:¬fJ (dG s i)->P s (.zn a D) i i a D
 | zn {i j k:Nat} {a b c:aM} {D D1 D':Bool}:fJ (dG s i)->P s .pc i j b D1->P s (.zn (.cat a b) (D || D1)) j k c D'->P s (.zn a D) i k c D'
 | br {i j k:Nat} {a b:aM} {D D':Bool}:P s .pc i j a D->P s (.zn a D) j k b D'->P s .br i k b D'
 | GJ {i:Nat} {a:aM} {D:Bool}:dG s i≠124->P s (.yJ a D) i i a D
 | yJ {i j k:Nat} {a b c:aM} {D D1 D':Bool}:dG s i=124->P s .br (i+1) j b D1->P s (.yJ (.alt a b) (D || D1)) j k c D'->P s (.yJ a D) i k c D'
 | pa {i j k:Nat} {a b:aM} {D D':Bool}:P s .br i j a D->P s (.yJ a D) j k b D'->P s .pa i k b D'
inductive aG where
 | atom:aG
 | pc:aG
 | zn:aG
 | br:aG
 | yJ:aG
 | pa:aG
inductive aI (s:Y_):aG->Nat->Nat->Prop where
 | none {i:Nat}:¬fJ (dG s i)->aI s .atom i i
 | wP {i:Nat}:dG s i=92->¬gu (dG s (i+1))->aI s .atom i (i+1)
 | cls {i k:Nat}:dG s i=91->dG s (i+1)≠94->Rt s (i+1) k->aI s .atom i k
 | wZ {i k:Nat}:dG s i=91->dG s (i+1)=94->Rt s (i+2) k->aI s .atom i k
 | Me {i k:Nat}:dG s i=40->aI s .pa (i+1) k->aI s .atom i k
 | agL {i j:Nat} {a:aM} {D:Bool}:dG s i=40->P s .pa (i+1) j a D->dG s j≠41->aI s .atom i j
 | pc {i k:Nat}:aI s .atom i k->aI s .pc i k
 | ags {i k:Nat}:fJ (dG s i)->aI s .pc i k->aI s .zn i k
 | agt {i j k:Nat} {a:aM} {D:Bool}:fJ (dG s i)->P s .pc i j a D->aI s .zn j k->aI s .zn i k
 | br1 {i k:Nat}:aI s .pc i k->aI s .br i k
 | br2 {i j k:Nat} {a:aM} {D:Bool}:P s .pc i j a D->aI s .zn j k->aI s .br i k
 | ahv {i k:Nat}:dG s i=124->aI s .br (i+1) k->aI s .yJ i k
 | ahw {i j k:Nat} {a:aM} {D:Bool}:dG s i=124->P s .br (i+1) j a D->aI s .yJ j k->aI s .yJ i k
 | pa1 {i k:Nat}:aI s .br i k->aI s .pa i k
 | pa2 {i j k:Nat} {a:aM} {D:Bool}:P s .br i j a D->aI s .yJ j k->aI s .pa i k
structure Mq where
 w:Int
 d:Int
 l:Int
def dX (c:Prop) [Decidable c] (a:Int):Int:=if c then a else 16
def Plain (c:Int):Prop:=¬(c=40\/c=41\/c=91\/c=93\/c=42\/c=43\/c=63\/c=124\/c=46\/c=92\/c=32\/c=10)
def lQ (c:Int):Prop:=¬(c=93\/c=92\/c=45\/c=32\/c=10)
instance (c:Int):Decidable (Plain c):=by unfold Plain;infer_instance
instance (c:Int):Decidable (lQ c):=by unfold lQ;infer_instance
instance (c:Int):Decidable (gu c):=by unfold gu;infer_instance
instance (c:Int):Decidable (fJ c):=by unfold fJ;infer_instance
def mO (c d:Int):Int × Int:=
 if c=40 then (2,d+1) else if c=91 then (5,d) else if c=92 then (4,d) else if c=46 then (3,d) else (dX (Plain c) 3,d)
def mE (c d:Int):Int × Int:=
 if c=42\/c=43\/c=63 then (3,d) else if c=124 then (2,d) else if c=41 then (dX (0<d) 3,d-1) else if c=32 then (dX (d=0) 12,d) else mO c d
def iQ (w c:Int):Int:=
 if w=5/\c=94 then 6 else if w=9/\c=92 then 10 else if w=9 then dX (lQ c) 11
 else if c=93/\(w=7\/w=11) then 3 else if c=45/\w=7 then 9 else if c=92 then 8 else dX (lQ c) 7
def iK (w c l:Int):Int:=
 if w=0 then dX (97<=c/\c<=100) 1 else if w=1 then dX (c=32) 2 else if w=12 then dX (c=101\/c=115) 13
 else if w=14 then dX (97<=c/\c<=100) 15
 else if w=13/\(c=62\/c=43) then 14 else if w=13/\c=60 then 15 else dX (c=10/\l<16) 0
def IK (q:Mq) (c:Int):Int × Int:=
 if q.w=2 then mO c q.d else if q.w=3 then mE c q.d
 else if q.w=4 then (dX (gu c) 3,q.d) else if q.w=8 then (dX (gu c) 7,q.d) else if q.w=10 then (dX (gu c) 11,q.d)
 else if q.w=5\/q.w=6\/q.w=7\/q.w=9\/q.w=11 then (iQ q.w c,q.d) else (iK q.w c q.l,q.d)
def nxt (q:Mq) (c:Int):Mq:=⟨(IK q c).1,(IK q c).2,if (IK q c).1=0/\q.w≠0 then q.l+1 else q.l⟩
inductive eF (s:Y_):Nat->Mq->Nat->Mq->Prop where
 | refl (i:Nat) (q:Mq):eF s i q i q
 | step {i j:Nat} {q r:Mq}:i<s.size->(IK q (bt s i)).1≠16->eF s (i+1) (nxt q (bt s i)) j r->eF s i q j r
def XO (s:Y_) (i:Nat) (q:Mq):Prop:=(i=s.size/\q.w≠13/\q.w≠15)\/(i<s.size/\(IK q (bt s i)).1=16)
def nW (s:Y_) (i:Nat) (q:Mq) (j:Nat):Prop:=∃r,eF s i q j r/\XO s j r
theorem eF.trans {p q r:Mq} (h:eF s i p j q) (h':eF s j q k r):eF s i p k r:=by
 induction h with
 | refl=>exact h'
 | step a b _ ih=>exact .step a b (ih h')
theorem eF.one {s:Y_} {i:Nat} {q r:Mq} (h:dG s i≠-1) (h1:(IK q (dG s i)).1≠16) (h2:nxt q (dG s i)=r):eF s i q (i+1) r:=by have hl:=fB h;rw [lK hl] at h1 h2;subst h2;exact .step hl h1 (.refl _ _)
theorem eF.jc {p q:Mq} (h:eF s i p j q) (h':nW s j q k):nW s i p k:=by obtain⟨r,a,b⟩:=h';exact⟨r,h.trans a,b⟩
theorem nW.here {d l:Int} (hi:i<=s.size) (hw:w≠13/\w≠15) (h:dG s i≠-1->(IK ⟨w,d,l⟩ (dG s i)).1=16):nW s i ⟨w,d,l⟩ i:=by
 refine⟨⟨w,d,l⟩,.refl _ _,?_⟩;by_cases hl:i<s.size
 .right;have hb:=iC s i;rw [lK hl] at h;exact⟨hl,h (by omega)⟩
 .left;exact⟨by omega,hw⟩
end Pu
namespace Pu
theorem eF.le {q r:Mq} (h:eF s i q j r):i<=j/\(i<=s.size->j<=s.size):=by
 induction h with
 | refl=>exact⟨di,id⟩
 | step a _ _ ih=>exact⟨by omega,fun _=>ih.2 (by omega)⟩
theorem eF.meets {p q r:Mq} (h:eF s i p j q) (h':eF s i p k r):eF s j q k r\/eF s k r j q:=by
 induction h with
 | refl=>exact .inl h'
 | step a b c ih=>
  cases h' with
  | refl=>exact .inr (.step a b c)
  | step _ _ c'=>exact ih c'
theorem XO.ends {q r:Mq} (h:XO s j q) (g:eF s j q k r):j=k/\q=r:=by
 cases g with
 | refl=>exact⟨rfl,rfl⟩
 | step a b _=>
  rcases h with h | h
  .omega
  .exact absurd h.2 b
theorem nW.same {q:Mq} (h:nW s i q j) (h':nW s i q k):j=k:=by
 obtain⟨r,a,b⟩:=h;obtain⟨r',a',b'⟩:=h';rcases a.meets a' with g | g
 .exact (b.ends g).1
 .exact (b'.ends g).1.symm
theorem nW.not {q r:Mq} (h:nW s i q j) (g:eF s i q s.size r) (hr:r.w=13\/r.w=15):False:=by
 obtain⟨p,a,b⟩:=h;rcases a.meets g with c | c
 .obtain⟨rfl,rfl⟩:=b.ends c;rcases b with b | b
  .rcases hr with e | e
   .exact b.2.1 e
   .exact b.2.2 e
  .omega
 .have:=c.le;have hj:j<=s.size:=this.2 di;have e:j=s.size:=by omega
  subst e
  cases c with
  | refl=>
   rcases b with b | b
   .rcases hr with e | e
    .exact b.2.1 e
    .exact b.2.2 e
   .omega
  | step a _ _=>omega
theorem aeP {q:Mq} {d:Int} (h:IK q c=(w,d)) (hw:w≠0):nxt q c=⟨w,d,q.l⟩:=by unfold nxt;rw [h];simp [hw]
theorem eF.by {s:Y_} {i:Nat} {w d l w' d':Int} (h:dG s i≠-1) (h1:IK ⟨w,d,l⟩ (dG s i)=(w',d')) (h0:w'≠0) (h2:w'≠16):eF s i ⟨w,d,l⟩ (i+1) ⟨w',d',l⟩:=
 .one h (by rw [h1];exact h2) (aeP h1 h0)
def Ist (s:Y_) (i:Nat) (w:Int):Prop:=(w=5/\dG s i≠94)\/w=6\/(w=7/\dG s i≠93/\dG s i≠45)\/(w=11/\dG s i≠93)
theorem pX {d l:Int} (h:w=5\/w=6\/w=7\/w=9\/w=11):IK ⟨w,d,l⟩ c=(iQ w c,d):=by unfold IK;rcases h with rfl | rfl | rfl | rfl | rfl <;> rfl
theorem Sg.goes (h:Sg s i j v) (d l:Int) (hw:Ist s i w):eF s i ⟨w,d,l⟩ j ⟨7,d,l⟩:=by
 unfold Ist at hw
 cases h with
 | plain h1 h2=>
  refine .by (fun e=>h1 (.inr (.inr (.inr (.inr e))))) ?_ (by decide) (by decide)
  rw [pX (by omega)];unfold iQ dX;rw [if_neg (by omega),if_neg (by omega),if_neg (by omega),if_neg (by omega),if_neg (by omega),if_neg (by omega),if_pos (by unfold lQ;omega)]
 | wP h1 h2=>
  have k:=h2.ok;refine (eF.by (w':=8) (d':=d) (by omega) ?_ (by decide) (by decide)).trans (eF.by ?_ ?_ (by decide) (by decide))
  .rw [pX (by omega)];unfold iQ;rw [if_neg (by omega),if_neg (by omega),if_neg (by omega),if_neg (by omega),if_neg (by omega),if_pos (by omega)]
  .unfold gu at k;omega
  .show (dX (gu _) 7,d)=_;unfold dX;rw [if_pos k]
theorem Sg.aei (h:Sg s i j v) (d l:Int):eF s i ⟨9,d,l⟩ j ⟨11,d,l⟩:=by
 cases h with
 | plain h1 h2=>
  refine .by (fun e=>h1 (.inr (.inr (.inr (.inr e))))) ?_ (by decide) (by decide)
  rw [pX (by omega)];unfold iQ dX;rw [if_neg (by omega),if_neg (by omega),if_pos (by omega),if_pos (by unfold lQ;omega)]
 | wP h1 h2=>
  have k:=h2.ok;refine (eF.by (w':=10) (d':=d) (by omega) ?_ (by decide) (by decide)).trans (eF.by ?_ ?_ (by decide) (by decide))
  .rw [pX (by omega)];unfold iQ;rw [if_neg (by omega),if_pos (by omega)]
  .unfold gu at k;omega
  .show (dX (gu _) 11,d)=_;unfold dX;rw [if_pos k]
theorem SgF.jc {s:Y_} {i j:Nat} (h:SgF s i j) (hi:i<=s.size) {w:Int} (d l:Int) (hw:Ist s i w\/w=9):nW s i ⟨w,d,l⟩ j:=by
 have hw5:w=5\/w=6\/w=7\/w=9\/w=11:=by unfold Ist at hw;omega
 cases h with
 | plain h1=>
  refine .here hi (by show w≠13/\w≠15;omega) fun hn=>?_
  rw [pX hw5];show iQ w _=16;unfold iQ dX;unfold Ist at hw;by_cases h9:w=9
  .rw [if_neg (by omega),if_neg (by omega),if_pos h9,if_neg (by unfold lQ;omega)]
  .rw [if_neg (by omega),if_neg (by omega),if_neg (by omega),if_neg (by omega),if_neg (by omega),if_neg (by omega),if_neg (by unfold lQ;omega)]
 | wP h1 h2=>
  have hp:dG s i≠-1:=by omega
  have hlt:=fB hp;by_cases h9:w=9
  .subst h9;refine (eF.by (w':=10) (d':=d) hp ?_ (by decide) (by decide)).jc (.here (by omega) (by decide) fun _=>?_)
   .rw [pX (by omega)];unfold iQ;rw [if_neg (by omega),if_pos (by omega)]
   .show dX (gu _) 11=16;unfold dX;rw [if_neg h2]
  .refine (eF.by (w':=8) (d':=d) hp ?_ (by decide) (by decide)).jc (.here (by omega) (by decide) fun _=>?_)
   .rw [pX hw5];unfold iQ;rw [if_neg (by omega),if_neg (by omega),if_neg (by omega),if_neg (by omega),if_neg (by omega),if_pos (by omega)]
   .show dX (gu _) 7=16;unfold dX;rw [if_neg h2]
theorem eF.dash (h:dG s j=45) (d l:Int):eF s j ⟨7,d,l⟩ (j+1) ⟨9,d,l⟩:=by
 refine .by (by omega) ?_ (by decide) (by decide)
 rw [pX (by omega),h];rfl
theorem ay.goes {s:Y_} {i j:Nat} {v u:Int} {r:Bool} (h:ay s i j v u r) {w:Int} (d l:Int) (hw:Ist s i w):eF s i ⟨w,d,l⟩ j ⟨if r then 11 else 7,d,l⟩:=by
 cases h with
 | one h1 h2=>exact h1.goes d l hw
 | range h1 h2 h3=>exact (h1.goes d l hw).trans ((eF.dash h2 d l).trans (h3.aei d l))
theorem ItF.jc {s:Y_} {i j:Nat} (h:ItF s i j) (hi:i<=s.size) {w:Int} (d l:Int) (hw:Ist s i w):nW s i ⟨w,d,l⟩ j:=by
 cases h with
 | one h1=>exact h1.jc hi d l (.inl hw)
 | range h1 h2 h3=>have g:=(h1.goes d l hw).trans (eF.dash h2 d l);exact g.jc (h3.jc (g.le.2 hi) d l (.inr rfl))
theorem ay.next {u:Int} {r:Bool} (h:ay s i j v u r) (hn:dG s j≠93):Ist s j (if r then 11 else 7):=by
 cases h with
 | one h1 h2=>exact .inr (.inr (.inl ⟨rfl,hn,h2⟩))
 | range h1 h2 h3=>exact .inr (.inr (.inr ⟨rfl,hn⟩))
theorem aj.goes {s:Y_} {i k:Nat} {T T':Nat->Bool} {D D':Bool} (h:aj s i T D k T' D'):∀{w:Int} (d l:Int),Ist s i w->eF s i ⟨w,d,l⟩ k ⟨3,d,l⟩:=by
 induction h with
 | @done i j lo hi r T D h1 h2=>intro w d l hw;refine (h1.goes d l hw).trans (.by (by omega) ?_ (by decide) (by decide));rw [pX (by cases r <;> decide),h2];cases r <;> rfl
 | more h1 h2 _ ih=>intro w d l hw;exact (h1.goes d l hw).trans (ih d l (h1.next h2))
theorem Rt.jc {s:Y_} {i k:Nat} (h:Rt s i k):i<=s.size->∀{w:Int} (d l:Int),Ist s i w->nW s i ⟨w,d,l⟩ k:=by
 induction h with
 | here h1=>intro hi w d l hw;exact h1.jc hi d l hw
 | more h1 h2 _ ih=>intro hi w d l hw;have g:=h1.goes d l hw;exact g.jc (ih (g.le.2 hi) d l (h1.next h2))
def tH (b:Int):Prop:=b≠42/\b≠43/\b≠63
def Aft (s:Y_):aH->Nat->Nat->Prop
 | .atom,_,_=>True
 | .OE _ _,_,j=>tH (dG s j)
 | .pc,_,j=>tH (dG s j)
 | .zn _ _,i,j=>tH (dG s i)->tH (dG s j)/\¬fJ (dG s j)
 | .br,_,j=>tH (dG s j)/\¬fJ (dG s j)
 | .yJ _ _,i,j=>tH (dG s i)/\¬fJ (dG s i)->tH (dG s j)/\¬fJ (dG s j)/\dG s j≠124
 | .pa,_,j=>tH (dG s j)/\¬fJ (dG s j)/\dG s j≠124
theorem P.aft {t:aH} {a:aM} {D:Bool} (h:P s t i j a D):Aft s t i j:=by
 induction h with
 | any=>trivial
 | Si=>trivial
 | wP=>trivial
 | cls=>trivial
 | wZ=>trivial
 | Me=>trivial
 | EZ h1 h2 h3=>exact⟨h1,h2,h3⟩
 | star _ _ ih=>exact ih
 | plus _ _ ih=>exact ih
 | opt _ _ ih=>exact ih
 | pc _ _ _ ih=>exact ih
 | Jf h=>exact fun k=>⟨k,h⟩
 | zn _ _ _ ih1 ih2=>exact fun _=>ih2 ih1
 | br _ _ ih1 ih2=>exact ih2 ih1
 | GJ h=>exact fun k=>⟨k.1,k.2,h⟩
 | yJ _ _ _ ih1 ih2=>exact fun _=>ih2 ih1
 | pa _ _ ih1 ih2=>exact ih2 ih1
def Pst (s:Y_) (i:Nat) (w:Int):Prop:=w=2\/(w=3/\fJ (dG s i))
theorem qX (hw:Pst s i w) (_hb:w=2\/fJ (dG s i)) (d l:Int):IK ⟨w,d,l⟩ (dG s i)=mO (dG s i) d:=by
 rcases hw with rfl | ⟨rfl,h⟩
 .rfl
 .unfold fJ at h;show mE _ _=_;unfold mE;rw [if_neg (by omega),if_neg (by omega),if_neg (by omega),if_neg (by omega)]
def aH.begins:aH->Prop
 | .atom=>True
 | .pc=>True
 | .br=>True
 | .pa=>True
 | _=>False
def Nst (s:Y_) (t:aH) (i:Nat) (w:Int):Prop:=(t.begins/\Pst s i w)\/(¬t.begins/\w=3)
theorem um {t:aH} (h:Nst s t i w) (ht:t.begins):Pst s i w:=by
 rcases h with h | h
 .exact h.2
 .exact absurd ht h.1
theorem tq {t:aH} (h:Nst s t i w) (ht:¬t.begins):w=3:=by
 rcases h with h | h
 .exact absurd h.1 ht
 .exact h.2
theorem eF.more {s:Y_} {i:Nat} {d l w':Int} (h:dG s i≠-1) (h1:mE (dG s i) d=(w',d)) (h0:w'≠0) (h2:w'≠16):eF s i ⟨3,d,l⟩ (i+1) ⟨w',d,l⟩:=.by h h1 h0 h2
theorem Jd (h:dG s i=c) (hc:fJ c):fJ (dG s i):=by rw [h];exact hc
theorem eF.bar (h1:dG s i=124) (d l:Int):eF s i ⟨3,d,l⟩ (i+1) ⟨2,d,l⟩:=.more (by omega) (by rw [h1];rfl) (by decide) (by decide)
theorem eF.Yi (h1:dG s i=91) (hw:Pst s i w) (d l:Int):eF s i ⟨w,d,l⟩ (i+1) ⟨5,d,l⟩:=
 .by (by omega) (by rw [qX hw (.inr (Jd h1 (by decide))),h1];rfl) (by decide) (by decide)
theorem eF.open (h1:dG s i=40) (hw:Pst s i w) (d l:Int):eF s i ⟨w,d,l⟩ (i+1) ⟨2,d+1,l⟩:=
 .by (by omega) (by rw [qX hw (.inr (Jd h1 (by decide))),h1];rfl) (by decide) (by decide)
theorem eF.not (h1:dG s i=94) (d l:Int):eF s i ⟨5,d,l⟩ (i+1) ⟨6,d,l⟩:=.by (by omega) (by rw [h1];rfl) (by decide) (by decide)
theorem P.goes {s:Y_} {t:aH} {i j:Nat} {a:aM} {D:Bool} (h:P s t i j a D):∀(w d l:Int),0<=d->Nst s t i w->eF s i ⟨w,d,l⟩ j ⟨3,d,l⟩:=by
 induction h with
 | any h1=>?_
 | Si hb h1 h2 h3 h4=>
  intro w d l hd hw;have hp:=um hw trivial;have hb':=hb;unfold fJ at hb';refine .by (by omega) ?_ (by decide) (by decide)
  rw [qX hp (.inr hb)];unfold mO dX;rw [if_neg (by omega),if_neg (by omega),if_neg (by omega),if_neg (by omega),if_pos (by unfold Plain;omega)]
 | wP h1 h2=>?_
 | cls h1 h2 h3=>?_
 | wZ h1 h2 h3=>?_
 | Me h1 _ h3 ih=>?_
 | EZ=>intro w d l hd hw;rw [tq hw id];exact .refl _ _
 | star h1 _ ih=>intro w d l hd hw;rw [tq hw id];exact (eF.more (by omega) (by rw [h1];rfl) (by decide) (by decide)).trans (ih 3 d l hd (.inr ⟨id,rfl⟩))
 | plus h1 _ ih=>intro w d l hd hw;rw [tq hw id];exact (eF.more (by omega) (by rw [h1];rfl) (by decide) (by decide)).trans (ih 3 d l hd (.inr ⟨id,rfl⟩))
 | opt h1 _ ih=>intro w d l hd hw;rw [tq hw id];exact (eF.more (by omega) (by rw [h1];rfl) (by decide) (by decide)).trans (ih 3 d l hd (.inr ⟨id,rfl⟩))
 | pc _ _ ih1 ih2=>intro w d l hd hw;exact (ih1 w d l hd (.inl ⟨trivial,um hw trivial⟩)).trans (ih2 3 d l hd (.inr ⟨id,rfl⟩))
 | Jf=>intro w d l hd hw;rw [tq hw id];exact .refl _ _
 | zn h1 _ _ ih1 ih2=>intro w d l hd hw;rw [tq hw id];exact (ih1 3 d l hd (.inl ⟨trivial,.inr ⟨rfl,h1⟩⟩)).trans (ih2 3 d l hd (.inr ⟨id,rfl⟩))
 | br _ _ ih1 ih2=>intro w d l hd hw;exact (ih1 w d l hd (.inl ⟨trivial,um hw trivial⟩)).trans (ih2 3 d l hd (.inr ⟨id,rfl⟩))
 | GJ=>intro w d l hd hw;rw [tq hw id];exact .refl _ _
 | yJ h1 _ _ ih1 ih2=>intro w d l hd hw;rw [tq hw id];exact (eF.more (by omega) (by rw [h1];rfl) (by decide) (by decide)).trans ((ih1 2 d l hd (.inl ⟨trivial,.inl rfl⟩)).trans (ih2 3 d l hd (.inr ⟨id,rfl⟩)))
 | pa _ _ ih1 ih2=>intro w d l hd hw;exact (ih1 w d l hd (.inl ⟨trivial,um hw trivial⟩)).trans (ih2 3 d l hd (.inr ⟨id,rfl⟩))
 all_goals
  intro w d l hd hw;have hp:=um hw trivial;have hb:=Jd h1 (by decide)
 .refine .by (by omega) ?_ (by decide) (by decide)
  rw [qX hp (.inr hb),h1];rfl
 .have k:=h2.ok;refine (eF.by (w':=4) (d':=d) (by omega) ?_ (by decide) (by decide)).trans (.by ?_ ?_ (by decide) (by decide))
  .rw [qX hp (.inr hb),h1];rfl
  .unfold gu at k;omega
  .show (dX (gu _) 3,d)=_;unfold dX;rw [if_pos k]
 .refine (eF.by (w':=5) (d':=d) (by omega) ?_ (by decide) (by decide)).trans (h3.goes d l (.inl ⟨rfl,h2⟩));rw [qX hp (.inr hb),h1];rfl
 .refine (eF.by (w':=5) (d':=d) (by omega) ?_ (by decide) (by decide)).trans ((eF.by (w':=6) (d':=d) (by omega) ?_ (by decide) (by decide)).trans (h3.goes d l (.inr (.inl rfl))))
  .rw [qX hp (.inr hb),h1];rfl
  .rw [h2];rfl
 .refine (eF.by (w':=2) (d':=d+1) (by omega) ?_ (by decide) (by decide)).trans ((ih 2 (d+1) l (by omega) (.inl ⟨trivial,.inl rfl⟩)).trans (.by (by omega) ?_ (by decide) (by decide)))
  .rw [qX hp (.inr hb),h1];rfl
  .show mE _ (d+1)=_;unfold mE dX;rw [h3,if_neg (by omega),if_neg (by omega),if_pos rfl,if_pos (by omega),show d+1-1=d by omega]
def Fst (s:Y_):aG->Nat->Int->Prop
 | .zn,_,w=>w=3
 | .yJ,_,w=>w=3
 | _,i,w=>Pst s i w
theorem aI.jc {s:Y_} {t:aG} {i k:Nat} (h:aI s t i k):i<=s.size->∀(w d l:Int),0<=d->Fst s t i w->nW s i ⟨w,d,l⟩ k:=by
 induction h with
 | none h1=>
  intro hi w d l hd hw
  have hw2:w=2:=by
   rcases hw with h | h
   .exact h
   .exact absurd h.2 h1
  subst hw2;refine .here hi (by decide) fun hn=>?_
  show (mO _ _).1=16;unfold fJ at h1;unfold mO dX;rw [if_neg (by omega),if_neg (by omega),if_neg (by omega),if_neg (by omega),if_neg (by unfold Plain;omega)]
 | wP h1 h2=>
  intro hi w d l hd hw;have hb:=Jd h1 (by decide);have hlt:_<s.size:=fB (s:=s) (by rw [h1];decide);refine (eF.by (w':=4) (d':=d) (by omega) ?_ (by decide) (by decide)).jc (.here (by omega) (by decide) fun _=>?_)
  .rw [qX hw (.inr hb),h1];rfl
  .show dX (gu _) 3=16;unfold dX;rw [if_neg h2]
 | cls h1 h2 h3=>intro hi w d l hd hw;have g:=eF.Yi h1 hw d l;exact g.jc (h3.jc (g.le.2 hi) d l (.inl ⟨rfl,h2⟩))
 | wZ h1 h2 h3=>intro hi w d l hd hw;have g:=eF.Yi h1 hw d l;have g2:=g.trans (eF.not h2 d l);exact g2.jc (h3.jc (g2.le.2 hi) d l (.inr (.inl rfl)))
 | Me h1 _ ih=>intro hi w d l hd hw;have g:=eF.open h1 hw d l;exact g.jc (ih (g.le.2 hi) 2 (d+1) l (by omega) (.inl rfl))
 | @agL i j a D h1 h2 h3=>
  intro hi w d l hd hw;have g:=eF.open h1 hw d l;have g2:=g.trans (h2.goes 2 (d+1) l (by omega) (.inl ⟨trivial,.inl rfl⟩));have a:=h2.aft;simp only [Aft,tH,fJ] at a;refine g2.jc (.here (g2.le.2 hi) (by decide) fun hn=>?_);show (mE _ (d+1)).1=16;unfold mE mO dX;by_cases hs:dG s j=32
  .rw [if_neg (by omega),if_neg (by omega),if_neg (by omega),if_pos hs,if_neg (by omega)]
  .rw [if_neg (by omega),if_neg (by omega),if_neg (by omega),if_neg hs,if_neg (by omega),if_neg (by omega),if_neg (by omega),if_neg (by omega),if_neg (by unfold Plain;omega)]
 | pc _ ih=>exact ih
 | ags h1 _ ih=>intro hi w d l hd hw;exact ih hi w d l hd (.inr ⟨hw,h1⟩)
 | agt h1 h2 _ ih=>intro hi w d l hd hw;have g:=h2.goes w d l hd (.inl ⟨trivial,.inr ⟨hw,h1⟩⟩);exact g.jc (ih (g.le.2 hi) 3 d l hd rfl)
 | br1 _ ih=>exact ih
 | br2 h2 _ ih=>?_
 | ahv h1 _ ih=>intro hi w d l hd hw;have hw':w=3:=hw;subst hw';have g:=eF.bar h1 d l;exact g.jc (ih (g.le.2 hi) 2 d l hd (.inl rfl))
 | ahw h1 h2 _ ih=>intro hi w d l hd hw;have hw':w=3:=hw;subst hw';have g:=eF.bar h1 d l;have g2:=g.trans (h2.goes 2 d l hd (.inl ⟨trivial,.inl rfl⟩));exact g2.jc (ih (g2.le.2 hi) 3 d l hd rfl)
 | pa1 _ ih=>exact ih
 | pa2 h2 _ ih=>?_
 all_goals
  intro hi w d l hd hw;have g:=h2.goes w d l hd (.inl ⟨trivial,hw⟩);exact g.jc (ih (g.le.2 hi) 3 d l hd rfl)
end Pu
namespace Pu
structure aC where
 mode:Int
 emit:Int
 act:Int
 md:Int
 re:aM
 down:Bool
def fF (b:Int):Prop:=97<=b/\b<=100
def nH (b e:Int):Prop:=(b=101/\e=1)\/(b=115/\e=0)
inductive Act (s:Y_):Nat->Nat->Int->Int->Int->Prop where
 | plain {i:Nat} {e:Int}:nH (dG s i) e->dG s (i+1)≠60->dG s (i+1)≠62->dG s (i+1)≠43->Act s i (i+1) e 0 0
 | pop {i:Nat} {e:Int}:nH (dG s i) e->dG s (i+1)=60->Act s i (i+2) e 3 0
 | bG {i:Nat} {e:Int}:nH (dG s i) e->dG s (i+1)=62->fF (dG s (i+2))->Act s i (i+3) e 1 (dG s (i+2)-97)
 | push {i:Nat} {e:Int}:nH (dG s i) e->dG s (i+1)=43->fF (dG s (i+2))->Act s i (i+3) e 2 (dG s (i+2)-97)
inductive OH (s:Y_):Nat->Nat->Prop where
 | none {i:Nat}:dG s i≠101->dG s i≠115->OH s i i
 | mode {i:Nat} {e:Int}:nH (dG s i) e->dG s (i+1)=62\/dG s (i+1)=43->¬fF (dG s (i+2))->OH s i (i+2)
inductive Hd (s:Y_):Nat->Nat->aC->Prop where
 | mk {i j k:Nat} {a:aM} {D:Bool} {e c m:Int}:fF (dG s i)->dG s (i+1)=32->P s .pa (i+2) j a D->dG s j=32->Act s (j+1) k e c m->Hd s i k ⟨dG s i-97,e,c,m,a,D⟩
inductive Ug (s:Y_):Nat->Nat->Prop where
 | mode {i:Nat}:¬fF (dG s i)->Ug s i i
 | blank {i:Nat}:fF (dG s i)->dG s (i+1)≠32->Ug s i (i+1)
 | pat {i k:Nat}:fF (dG s i)->dG s (i+1)=32->aI s .pa (i+2) k->Ug s i k
 | blank' {i j:Nat} {a:aM} {D:Bool}:fF (dG s i)->dG s (i+1)=32->P s .pa (i+2) j a D->dG s j≠32->Ug s i j
 | act {i j k:Nat} {a:aM} {D:Bool}:fF (dG s i)->dG s (i+1)=32->P s .pa (i+2) j a D->dG s j=32->OH s (j+1) k->Ug s i k
inductive sM (s:Y_):Nat->List aC->List aC->Prop where
 | done {i:Nat} {x:aC} {ls:List aC}:Hd s i s.size x->sM s i ls (ls++[x])
 | more {i j:Nat} {x:aC} {ls all:List aC}:Hd s i j x->dG s j=10->ls.length+1<16->sM s (j+1) (ls++[x]) all->sM s i ls all
inductive vZ (s:Y_):Nat->Nat->Nat->Prop where
 | here {i k n:Nat}:Ug s i k->vZ s i n k
 | full {i j n:Nat} {x:aC}:Hd s i j x->j≠s.size->n+1=16\/dG s j≠10->vZ s i n j
 | more {i j k n:Nat} {x:aC}:Hd s i j x->dG s j=10->n+1<16->vZ s (j+1) (n+1) k->vZ s i n k
def Af (s:Y_) (k:Nat) (w:Int):Prop:=(w=13/\dG s k≠60/\dG s k≠62/\dG s k≠43)\/w=15
theorem Act.goes {e m:Int} (h:Act s i k e c m) (l:Int):∃w,Af s k w/\eF s i ⟨12,0,l⟩ k ⟨w,0,l⟩:=by
 have one:∀{i:Nat} {e:Int},nH (dG s i) e->eF s i ⟨12,0,l⟩ (i+1) ⟨13,0,l⟩:=by
  intro i e he;unfold nH at he;refine .by (by omega) ?_ (by decide) (by decide)
  show (iK 12 _ _,(0:Int))=_;unfold iK dX;rw [if_neg (by decide),if_neg (by decide),if_pos rfl,if_pos (by omega)]
 have two:∀{i:Nat},dG s i=62\/dG s i=43->eF s i ⟨13,0,l⟩ (i+1) ⟨14,0,l⟩:=by
  intro i he;refine .by (by omega) ?_ (by decide) (by decide)
  show (iK 13 _ _,(0:Int))=_;unfold iK;rw [if_neg (by decide),if_neg (by decide),if_neg (by decide),if_neg (by decide),if_pos ⟨rfl,he⟩]
 have three:∀{i:Nat},fF (dG s i)->eF s i ⟨14,0,l⟩ (i+1) ⟨15,0,l⟩:=by
  intro i he;unfold fF at he;refine .by (by omega) ?_ (by decide) (by decide)
  show (iK 14 _ _,(0:Int))=_;unfold iK dX;rw [if_neg (by decide),if_neg (by decide),if_neg (by decide),if_pos rfl,if_pos he]
 cases h with
 | plain h1 h2 h3 h4=>exact⟨13,.inl ⟨rfl,h2,h3,h4⟩,one h1⟩
 | pop h1 h2=>refine⟨15,.inr rfl,(one h1).trans (.by (by omega) ?_ (by decide) (by decide))⟩;rw [h2];rfl
 | bG h1 h2 h3=>exact⟨15,.inr rfl,(one h1).trans ((two (.inl h2)).trans (three h3))⟩
 | push h1 h2 h3=>exact⟨15,.inr rfl,(one h1).trans ((two (.inr h2)).trans (three h3))⟩
theorem OH.jc {s:Y_} {i k:Nat} (h:OH s i k) (hi:i<=s.size) (l:Int):nW s i ⟨12,0,l⟩ k:=by
 cases h with
 | none h1 h2=>
  refine .here hi (by decide) fun _=>?_
  show iK 12 _ l=16;unfold iK dX;rw [if_neg (by decide),if_neg (by decide),if_pos rfl,if_neg (by omega)]
 | mode h1 h2 h3=>
  have g:eF s i ⟨12,0,l⟩ (i+1) ⟨13,0,l⟩:=by
   unfold nH at h1;refine .by (by omega) ?_ (by decide) (by decide)
   show (iK 12 _ _,(0:Int))=_;unfold iK dX;rw [if_neg (by decide),if_neg (by decide),if_pos rfl,if_pos (by omega)]
  have g2:eF s (i+1) ⟨13,0,l⟩ (i+1+1) ⟨14,0,l⟩:=by
   refine .by (by omega) ?_ (by decide) (by decide)
   show (iK 13 _ _,(0:Int))=_;unfold iK;rw [if_neg (by decide),if_neg (by decide),if_neg (by decide),if_neg (by decide),if_pos ⟨rfl,h2⟩]
  have g3:=g.trans g2;refine g3.jc (.here (g3.le.2 hi) (by decide) fun _=>?_);show iK 14 _ l=16;unfold iK dX;unfold fF at h3;rw [if_neg (by decide),if_neg (by decide),if_neg (by decide),if_pos rfl,if_neg h3]
theorem eF.mode (h:fF (dG s i)) (l:Int):eF s i ⟨0,0,l⟩ (i+1) ⟨1,0,l⟩:=by
 unfold fF at h;refine .by (by omega) ?_ (by decide) (by decide)
 show (iK 0 _ _,(0:Int))=_;unfold iK dX;rw [if_pos rfl,if_pos h]
theorem eF.blank (h:dG s i=32) (l:Int):eF s i ⟨1,0,l⟩ (i+1) ⟨2,0,l⟩:=by
 refine .by (by omega) ?_ (by decide) (by decide)
 rw [h];rfl
theorem eF.head (h:fF (dG s i)) (h1:dG s (i+1)=32) (l:Int):eF s i ⟨0,0,l⟩ (i+2) ⟨2,0,l⟩:=(eF.mode h l).trans (eF.blank h1 l)
theorem eF.pat {a:aM} {D:Bool} (h:fF (dG s i)) (h1:dG s (i+1)=32) (h2:P s .pa (i+2) j a D) (l:Int):eF s i ⟨0,0,l⟩ j ⟨3,0,l⟩:=
 (eF.head h h1 l).trans (h2.goes 2 0 l (by decide) (.inl ⟨trivial,.inl rfl⟩))
theorem eF.adJ {a:aM} {D:Bool} (h:fF (dG s i)) (h1:dG s (i+1)=32) (h2:P s .pa (i+2) j a D) (h3:dG s j=32) (l:Int):eF s i ⟨0,0,l⟩ (j+1) ⟨12,0,l⟩:=by refine (eF.pat h h1 h2 l).trans (.by (by omega) ?_ (by decide) (by decide));rw [h3];rfl
theorem Hd.goes {s:Y_} {i k:Nat} {x:aC} (h:Hd s i k x) (l:Int):∃w,Af s k w/\eF s i ⟨0,0,l⟩ k ⟨w,0,l⟩:=by
 cases h with
 | mk h1 h2 h3 h4 h5=>obtain⟨w,hb,g⟩:=h5.goes l;exact⟨w,hb,(eF.adJ h1 h2 h3 h4 l).trans g⟩
theorem Ug.jc {s:Y_} {i k:Nat} (h:Ug s i k) (hi:i<=s.size) (l:Int):nW s i ⟨0,0,l⟩ k:=by
 cases h with
 | mode h1=>
  refine .here hi (by decide) fun _=>?_
  show iK 0 _ l=16;unfold fF at h1;unfold iK dX;rw [if_pos rfl,if_neg h1]
 | blank h1 h2=>have g:=eF.mode h1 l;refine g.jc (.here (g.le.2 hi) (by decide) fun _=>?_);show iK 1 _ l=16;unfold iK dX;rw [if_neg (by decide),if_pos rfl,if_neg h2]
 | pat h1 h2 h3=>have g:=eF.head h1 h2 l;exact g.jc (h3.jc (g.le.2 hi) 2 0 l (by decide) (.inl rfl))
 | blank' h1 h2 h3 h4=>
  have g:=eF.pat h1 h2 h3 l;have a:=h3.aft;simp only [Aft,tH,fJ] at a;refine g.jc (.here (g.le.2 hi) (by decide) fun hn=>?_);show (mE _ 0).1=16;unfold mE mO dX;by_cases hs:dG s k=41
  .rw [if_neg (by omega),if_neg (by omega),if_pos hs,if_neg (by omega)]
  .rw [if_neg (by omega),if_neg (by omega),if_neg (by omega),if_neg h4,if_neg (by omega),if_neg (by omega),if_neg (by omega),if_neg (by omega),if_neg (by unfold Plain;omega)]
 | act h1 h2 h3 h4 h5=>have g:=eF.adJ h1 h2 h3 h4 l;exact g.jc (h5.jc (g.le.2 hi) l)
theorem DJ (h:Af s k w) (l:Int):IK ⟨w,0,l⟩ (dG s k)=(dX (dG s k=10/\l<16) 0,0):=by
 have e:IK ⟨w,0,l⟩ (dG s k)=(iK w (dG s k) l,0):=by
  rcases h with h | h
  .rw [h.1];rfl
  .rw [h];rfl
 rw [e];unfold Af at h;unfold iK;rw [if_neg (by omega),if_neg (by omega),if_neg (by omega),if_neg (by omega),if_neg (by omega),if_neg (by omega)]
theorem eF.line {x:aC} (h:Hd s i j x) (h1:dG s j=10) {l:Int} (hl:l<16):eF s i ⟨0,0,l⟩ (j+1) ⟨0,0,l+1⟩:=by
 obtain⟨w,hb,g⟩:=h.goes l;have e:=DJ hb l;have hw:w≠0:=by unfold Af at hb;omega
 unfold dX at e;rw [if_pos ⟨h1,hl⟩] at e;refine g.trans (.one (by omega) (by rw [e];decide) ?_);unfold nxt;rw [e];simp [hw]
theorem sM.goes {s:Y_} {i:Nat} {ls all:List aC} (h:sM s i ls all):∃q:Mq,eF s i ⟨0,0,(ls.length:Int)+1⟩ s.size q/\(q.w=13\/q.w=15):=by
 induction h with
 | done h1=>obtain⟨w,hb,g⟩:=h1.goes _;exact⟨_,g,by unfold Af at hb;show w=13\/w=15;omega⟩
 | more h1 h2 h3 _ ih=>obtain⟨q,g,hq⟩:=ih;refine⟨q,(eF.line h1 h2 (by omega)).trans ?_,hq⟩;simpa using g
theorem vZ.jc {s:Y_} {i n k:Nat} (h:vZ s i n k):i<=s.size->nW s i ⟨0,0,(n:Int)+1⟩ k:=by
 induction h with
 | here h1=>exact fun hi=>h1.jc hi _
 | @full i j n x h1 h2 h3=>
  intro hi;obtain⟨w,hb,g⟩:=h1.goes ((n:Int)+1);have hj:=g.le.2 hi;have e:=DJ hb ((n:Int)+1);unfold dX at e;rw [if_neg (by omega)] at e;have hlt:j<s.size:=by omega
  rw [lK hlt] at e;exact⟨_,g,.inr ⟨hlt,by rw [e]⟩⟩
 | @more i j k n x h1 h2 h3 _ ih=>
  intro hi;have g:=eF.line h1 h2 (l:=(n:Int)+1) (by omega);have:=ih (g.le.2 hi);refine g.jc ?_
  simpa using this
def aW:Mq:=⟨0,0,1⟩
theorem sM.abo {all:List aC} (h:sM s 0 [] all):∃q:Mq,eF s 0 aW s.size q/\(q.w=13\/q.w=15):=h.goes
theorem vZ.at (h:vZ s 0 0 k):nW s 0 aW k:=h.jc (zl_ _)
end Pu
end Go.Proofs.YtmccnmgaoppogaaGreat
