import Derived.Test.YtmccnmgaoppogaaGreatKao
import Derived.Test.YtmccnmgaoppogaaGreatKaq
namespace Go.Proofs.YtmccnmgaoppogaaGreat
open Pu
set_option linter.all false
variable {i k p:Nat} {x:aC} {t:List Nat} {L:List (List Nat)}
namespace Pu
def dK (ls:List aC):Nat:=(ls.map (fun x=>x.re.size)).sum
theorem uZ (a b:List aC):dK (a++b)=dK a+dK b:=by simp [dK]
theorem Qh (x:aC) (a:List aC):dK (x::a)=x.re.size+dK a:=by simp [dK]
theorem Uq (x:aC) (a:List aC):base (x::a)=x.re.leaves+base a:=by simp [base]
theorem tT (ls:List aC) (k:Nat):dK (ls.take k)<=dK ls:=by have:=uZ (ls.take k) (ls.drop k);rw [List.take_append_drop] at this;omega
theorem iR {ls:List aC} (h:ls[k]?=some x):dK (ls.take (k+1))=dK (ls.take k)+x.re.size:=by rw [List.take_add_one,h,uZ];simp [dK]
theorem vG (ls:List aC) {j:Nat} (h:j<=k):dK (ls.take j)<=dK (ls.take k):=by have:=tT (ls.take k) j;rwa [List.take_take,Nat.min_eq_left h] at this
def nuG:List aC->Nat->Nat->Nat->Nat
 | [],_,_,_=>0
 | x::r,n,m,p=>if p<n+x.re.leaves then nu x.re n m p else nuG r (n+x.re.leaves) (m+x.re.size) p
theorem aeL:∀(ls:List aC) (n m i:Nat) (x:aC) (p:Nat),ls[i]?=some x->Rg x.re (n+base (ls.take i)) p->nuG ls n m p=nu x.re (n+base (ls.take i)) (m+dK (ls.take i)) p:=by
 intro ls
 induction ls with
 | nil=>intro n m i x p h;simp at h
 | cons y r ih=>
  intro n m i x p h hr
  cases i with
  | zero=>simp at h;subst h;simp only [List.take_zero,show base []=0 from rfl,show dK []=0 from rfl,Nat.add_zero] at *;unfold nuG;rw [if_pos hr.2]
  | succ i=>
   have h':r[i]?=some x:=by simpa using h
   rw [List.take_succ_cons,Uq,Qh] at *;unfold nuG;rw [if_neg (by have:=hr.1;omega),ih (n+y.re.leaves) (m+y.re.size) i x p h' (by rw [Nat.add_assoc];exact hr)];rw [Nat.add_assoc,Nat.add_assoc]
def OnM (ls:List aC) (mode:Int) (p:Nat):Prop:=∃i x,ls[i]?=some x/\x.mode=mode/\Rg x.re (base (ls.take i)) p
abbrev Tn (ls:List aC) (p:Nat):Nat:=nuG ls 0 0 p
section
variable {ls:List aC} {q:List aD × List aJ} {ns:List aF} {mode:Int}
theorem tV (h:ls[i]?=some x) (hr:Rg x.re (base (ls.take i)) p):Tn ls p=nu x.re (base (ls.take i)) (dK (ls.take i)) p:=by have:=aeL ls 0 0 i x p h (by rw [Nat.zero_add];exact hr);rwa [Nat.zero_add,Nat.zero_add] at this
theorem ZL (h:ls[i]?=some x) (hr:Rg x.re (base (ls.take i)) p):Tn ls p<dK ls:=by rw [tV h hr];have h1:=(BU x.re (m:=dK (ls.take i)) hr).2;have h2:=iR h;have h3:=tT ls (i+1);omega
theorem Tq {j p':Nat} {y:aC} (h:ls[i]?=some x) (hr:Rg x.re (base (ls.take i)) p) (h':ls[j]?=some y) (hr':Rg y.re (base (ls.take j)) p') (e:Tn ls p=Tn ls p'):p=p':=by
 rw [tV h hr,tV h' hr'] at e;have r1:=BU x.re (m:=dK (ls.take i)) hr;have r2:=BU y.re (m:=dK (ls.take j)) hr'
 have ij:i=j:=by
  rcases Nat.lt_trichotomy i j with k | k | k
  .have:=vG ls (show i+1<=j from k);rw [iR h] at this;omega
  .exact k
  .have:=vG ls (show j+1<=i from k);rw [iR h'] at this;omega
 subst ij;rw [h] at h';cases h'
 exact aeM x.re hr hr' e
theorem OnM.lt (h:OnM ls mode p):Tn ls p<dK ls:=by obtain⟨i,x,h1,_,h2⟩:=h;exact ZL h1 h2
theorem OnM.inj {p':Nat} (h:OnM ls mode p) (h':OnM ls mode p') (e:Tn ls p=Tn ls p'):p=p':=by obtain⟨i,x,h1,_,h2⟩:=h;obtain⟨j,y,h3,_,h4⟩:=h';exact Tq h1 h2 h3 h4 e
structure xU (ls:List aC) (ns:List aF):Prop where
 at':∀i x,ls[i]?=some x->ag ns x.re (dK (ls.take i))
 len:ns.length=dK ls
def tkN (ns:List aF) (k c:Nat):Bool:=match ns[k]? with
 | some x=>decide (x.kind=1) && x.inn c
 | none=>false
theorem IL (h:Br ls q) (hi:ls[i]?=some x) (hr:Rg x.re (base (ls.take i)) p) (c:Nat):Pu.aZ q.2 p c=true↔Tk x.re (base (ls.take i)) p c:=by
 rw [h.aZ];constructor
 .rintro ⟨j,y,hj,ht⟩;have e:=tu hj hi ht.rg hr;subst e;rw [hi] at hj;cases hj;exact ht
 .intro ht;exact⟨i,x,hi,ht⟩
theorem Iw (h:xU ls ns) (hi:ls[i]?=some x) (hr:Rg x.re (base (ls.take i)) p) (c:Nat):tkN ns (Tn ls p) c=true↔Tk x.re (base (ls.take i)) p c:=by obtain⟨T,h1,h2⟩:=ZI x.re (base (ls.take i)) (dK (ls.take i)) c p hr;have:=h.at' i x hi _ _ h1;have r:=BU x.re (m:=dK (ls.take i)) hr;rw [show dK (ls.take i)+(nu x.re (base (ls.take i)) (dK (ls.take i)) p-dK (ls.take i))=nu x.re (base (ls.take i)) (dK (ls.take i)) p by omega,<-tV hi hr] at this;rw [h2];unfold tkN;rw [this];simp
def fiL (ls:List aC) (mode:Int) (i k:Nat):Bool:=match ls[i]? with
 | some x=>decide (x.mode=mode) && Gy x.re (dK (ls.take i)) k
 | none=>false
def Cn (ls:List aC) (mode:Int):Nat->Nat->Bool
 | 0,_=>false
 | i+1,k=>Cn ls mode i k || fiL ls mode i k
def foL (ls:List aC) (mode:Int) (i a b:Nat):Bool:=match ls[i]? with
 | some x=>decide (x.mode=mode) && CU x.re (dK (ls.take i)) a b
 | none=>false
def Eh (ls:List aC) (mode:Int):Nat->Nat->Nat->Bool
 | 0,_,_=>false
 | i+1,a,b=>Eh ls mode i a b || foL ls mode i a b
theorem Sn:fiL ls mode i k=true↔∃x,ls[i]?=some x/\x.mode=mode/\∃p,Fi x.re (base (ls.take i)) p/\Tn ls p=k:=by
 unfold fiL
 cases hi:ls[i]? with
 | none=>simp
 | some x=>
  simp only [Bool.and_eq_true,decide_eq_true_eq,Option.some.injEq];rw [Su x.re (base (ls.take i))];constructor
  .rintro ⟨h1,p,h2,h3⟩;exact⟨x,rfl,h1,p,h2,by rw [tV hi h2.rg];exact h3⟩
  .rintro ⟨y,rfl,h1,p,h2,h3⟩;exact⟨h1,p,h2,by rw [<-tV hi h2.rg];exact h3⟩
theorem Sw {a b:Nat}:foL ls mode i a b=true↔∃x,ls[i]?=some x/\x.mode=mode/\∃p p',Fo x.re (base (ls.take i)) p p'/\Tn ls p=a/\Tn ls p'=b:=by
 unfold foL
 cases hi:ls[i]? with
 | none=>simp
 | some x=>
  simp only [Bool.and_eq_true,decide_eq_true_eq,Option.some.injEq];rw [abJ x.re (base (ls.take i))];constructor
  .rintro ⟨h1,p,p',h2,h3,h4⟩;exact⟨x,rfl,h1,p,p',h2,by rw [tV hi h2.rg.1];exact h3,by rw [tV hi h2.rg.2];exact h4⟩
  .rintro ⟨y,rfl,h1,p,p',h2,h3,h4⟩;exact⟨h1,p,p',h2,by rw [<-tV hi h2.rg.1];exact h3,by rw [<-tV hi h2.rg.2];exact h4⟩
theorem abH {n:Nat}:Cn ls mode n k=true↔∃i,i<n/\fiL ls mode i k=true:=by
 induction n with
 | zero=>simp [Cn]
 | succ n ih=>
  unfold Cn;rw [Bool.or_eq_true,ih];constructor
  .rintro (⟨i,h1,h2⟩ | h)
   .exact⟨i,by omega,h2⟩
   .exact⟨n,by omega,h⟩
  .rintro ⟨i,h1,h2⟩;rcases Nat.lt_or_ge i n with h | h
   .exact .inl ⟨i,h,h2⟩
   .have:i=n:=by omega
    subst this;exact .inr h2
theorem Sv {n a b:Nat}:Eh ls mode n a b=true↔∃i,i<n/\foL ls mode i a b=true:=by
 induction n with
 | zero=>simp [Eh]
 | succ n ih=>
  unfold Eh;rw [Bool.or_eq_true,ih];constructor
  .rintro (⟨i,h1,h2⟩ | h)
   .exact⟨i,by omega,h2⟩
   .exact⟨n,by omega,h⟩
  .rintro ⟨i,h1,h2⟩;rcases Nat.lt_or_ge i n with h | h
   .exact .inl ⟨i,h,h2⟩
   .have:i=n:=by omega
    subst this;exact .inr h2
theorem mY {α:Type} {l:List α} {x:α} (h:l[i]?=some x):i<l.length:=(ge_.1 h).1
def mP (ns:List aF) (F:Nat->Bool) (FO:Nat->Nat->Bool) (set:Nat->Bool) (begin:Bool) (c k:Nat):Bool:=
 tkN ns k c && (if begin then F k else (List.range ns.length).any (fun i=>set i && FO i k))
def GI (ls:List aC) (t:List Nat) (k:Nat):Bool:=t.any (fun p=>decide (Tn ls p=k))
theorem sW:GI ls t k=true↔∃p,p∈t/\Tn ls p=k:=by simp [GI]
theorem yH (h:Br ls q):p∈jG q.1 mode↔∃i x,ls[i]?=some x/\x.mode=mode/\Fi x.re (base (ls.take i)) p:=by
 rw [AV];constructor
 .rintro ⟨y,hy,hm,hf⟩;obtain⟨i,hi⟩:=gf_ hy;have hil:i<ls.length:=by rw [<-h.n];exact (ge_.1 hi).1
  obtain⟨pt,g1,g2,-⟩:=h.get i _ (gg_ hil);rw [hi] at g1;cases g1;exact⟨i,_,gg_ hil,hm,(g2 p).1 hf⟩
 .rintro ⟨i,x,hi,hm,hf⟩;obtain⟨pt,g1,g2,-⟩:=h.get i x hi;exact⟨x.lp pt,mg_ g1,hm,(g2 p).2 hf⟩
theorem QY (h:Br ls q) (hn:xU ls ns) (set:Nat->Bool) (FO:Nat->Nat->Bool) (c:Nat):mP ns (Cn ls mode ls.length) FO set true c=GI ls (taking q.2 (jG q.1 mode) c):=by
 funext k;rw [Bool.eq_iff_iff,sW];unfold mP;rw [Bool.and_eq_true,if_pos rfl,abH];constructor
 .rintro ⟨h1,i,_,h2⟩;rw [Sn] at h2;obtain⟨x,hi,hm,p,hf,rfl⟩:=h2;refine⟨p,(kP ..).2 ⟨(yH h).2 ⟨i,x,hi,hm,hf⟩,(IL h hi hf.rg c).2 ((Iw hn hi hf.rg c).1 h1)⟩,rfl⟩
 .rintro ⟨p,hp,rfl⟩;rw [kP,yH h] at hp;obtain⟨⟨i,x,hi,hm,hf⟩,ht⟩:=hp;exact⟨(Iw hn hi hf.rg c).2 ((IL h hi hf.rg c).1 ht),i,mY hi,Sn.2 ⟨x,hi,hm,p,hf,rfl⟩⟩
theorem acP (h:Br ls q) (hn:xU ls ns) (ht:∀p∈t,OnM ls mode p) (F:Nat->Bool) (c:Nat):mP ns F (Eh ls mode ls.length) (GI ls t) false c=GI ls (taking q.2 (ji q.2 t) c):=by
 funext k;rw [Bool.eq_iff_iff,sW];unfold mP;rw [Bool.and_eq_true,if_neg (by simp),List.any_eq_true];constructor
 .rintro ⟨h1,a,_,h2⟩;rw [Bool.and_eq_true,sW,Sv] at h2;obtain⟨⟨p,hp,rfl⟩,i,_,hf⟩:=h2;rw [Sw] at hf;obtain⟨x,hi,hm,p1,p2,hf,e,rfl⟩:=hf;obtain⟨j,y,hj,hm',hr⟩:=ht p hp;have ep:=Tq hi hf.rg.1 hj hr e;subst ep;exact⟨p2,(kP ..).2 ⟨(rU ..).2 ⟨p1,hp,(h.fo _ _).2 ⟨i,x,hi,hf⟩⟩,(IL h hi hf.rg.2 c).2 ((Iw hn hi hf.rg.2 c).1 h1)⟩,rfl⟩
 .rintro ⟨p2,hp,rfl⟩;rw [kP,rU] at hp;obtain⟨⟨p,hp,hf⟩,hk⟩:=hp;rw [h.fo] at hf;obtain⟨i,x,hi,hf⟩:=hf;obtain⟨j,y,hj,hm',hr⟩:=ht p hp;have e:=tu hj hi hr hf.rg.1;subst e;rw [hi] at hj;cases hj;refine⟨(Iw hn hi hf.rg.2 c).2 ((IL h hi hf.rg.2 c).1 hk),Tn ls p,by rw [List.mem_range,hn.len];exact ZL hi hf.rg.1,?_⟩;rw [Bool.and_eq_true,sW,Sv];exact⟨⟨p,hp,rfl⟩,j,mY hi,Sw.2 ⟨x,hi,hm',p,p2,hf,rfl,rfl⟩⟩
def Gg (ls:List aC) (mode:Int) (t:List Nat):Prop:=Kv t/\∀p∈t,OnM ls mode p
theorem Gg.nil:Gg ls mode []:=⟨List.Pairwise.nil,fun p hp=>by simp at hp⟩
theorem Gg.taking {t:List Nat} (h:Gg ls mode t) (ps:List aJ) (c:Nat):Gg ls mode (taking ps t c):=⟨Ef _ h.1,fun p hp=>h.2 p (List.mem_filter.1 hp).1⟩
theorem YI (h:Br ls q):Gg ls mode (jG q.1 mode):=by refine⟨(xG mode h.pts).1,fun p hp=>?_⟩;obtain⟨i,x,hi,hm,hf⟩:=(yH h).1 hp;exact⟨i,x,hi,hm,hf.rg⟩
theorem UY (h:Br ls q) (ht:Gg ls mode t):Gg ls mode (ji q.2 t):=by
 refine⟨(uN h.ok t).1,fun p hp=>?_⟩;rw [rU] at hp;obtain⟨p0,hp,hf⟩:=hp;rw [h.fo] at hf;obtain⟨i,x,hi,hf⟩:=hf;obtain⟨j,y,hj,hm',hr⟩:=ht.2 p0 hp;have e:=tu hj hi hr hf.rg.1;subst e;rw [hi] at hj;cases hj
 exact⟨j,_,hi,hm',hf.rg.2⟩
theorem abt:∀{a b:List Nat},Kv a->Kv b->(∀x,x∈a↔x∈b)->a=b:=by
 intro a
 induction a with
 | nil=>
  intro b _ _ h
  cases b with
  | nil=>rfl
  | cons y b=>exact absurd ((h y).2 (ms_ ..)) (by simp)
 | cons x a ih=>
  intro b ha hb h
  cases b with
  | nil=>exact absurd ((h x).1 (ms_ ..)) (by simp)
  | cons y b=>
   unfold Kv at ha hb;rw [List.pairwise_cons] at ha hb
   have xy:x=y:=by
    rcases mm_.1 ((h x).1 (ms_ ..)) with e | e
    .exact e
    .rcases mm_.1 ((h y).2 (ms_ ..)) with e' | e'
     .exact e'.symm
     .have:=hb.1 x e;have:=ha.1 y e';omega
   subst xy;rw [ih ha.2 hb.2 (fun z=>?_)];constructor
   .intro hz;rcases mm_.1 ((h z).1 (mc_ _ hz)) with e | e
    .have:=ha.1 z hz;omega
    .exact e
   .intro hz;rcases mm_.1 ((h z).2 (mc_ _ hz)) with e | e
    .have:=hb.1 z hz;omega
    .exact e
theorem Tj {t':List Nat} (h:Gg ls mode t) (h':Gg ls mode t') (e:∀k,k<dK ls->GI ls t k=GI ls t' k):t=t':=by
 refine abt h.1 h'.1 (fun p=>⟨fun hp=>?_,fun hp=>?_⟩)
 .have:=e _ (h.2 p hp).lt;rw [sW.2 ⟨p,hp,rfl⟩] at this;obtain⟨p',hp',e'⟩:=sW.1 this.symm;rw [<-(h'.2 p' hp').inj (h.2 p hp) e'];exact hp'
 .have:=e _ (h'.2 p hp).lt;rw [sW.2 ⟨p,hp,rfl⟩] at this;obtain⟨p',hp',e'⟩:=sW.1 this;rw [<-(h.2 p' hp').inj (h'.2 p hp) e'];exact hp'
theorem RY {t':List Nat} (h:Gg ls mode t) (h':Gg ls mode t'):Un (dK ls) (GI ls t) (GI ls t')=true↔t=t':=by unfold Un;rw [decide_eq_true_eq];exact⟨Tj h h',fun e=>by subst e;exact fun _ _=>rfl⟩
theorem Sl (h:Gg ls mode t):rG (GI ls t) (dK ls)=0↔t=[]:=by
 rw [Hz];constructor
 .intro e;exact Tj h Gg.nil (fun k hk=>by rw [e k hk];rfl)
 .rintro rfl;exact fun _ _=>rfl
theorem acE (h:Gg ls mode t):∀(T:List (List Nat)) (k:Nat),(∀u∈T,Gg ls mode u)->(GK (dK ls) (GI ls t) (T.map (GI ls)) k<0↔t∉T):=by
 intro T
 induction T with
 | nil=>intro k _;simp [GK]
 | cons u T ih=>
  intro k hT;rw [List.map_cons];unfold GK;by_cases e:u=t
  .rw [if_pos ((RY (hT u (ms_ ..)) h).2 e)];subst e;simp
  .rw [if_neg (fun a=>e ((RY (hT u (ms_ ..)) h).1 a)),ih _ (fun v hv=>hT v (mc_ _ hv))];rw [mm_,not_or];exact⟨fun h=>⟨fun a=>e a.symm,h⟩,fun h=>h.2⟩
def qc (ns:List aF) (c d:Nat):Bool:=ns.all (fun x=>decide (x.kind≠1) || decide (x.inn c=x.inn d))
def zK (ns:List aF) (out:List Nat) (c:Nat):Bool:=out.any (fun d=>qc ns c d)
def ni (ns:List aF):Nat->List Nat
 | 0=>[]
 | c+1=>if zK ns (ni ns c) c=true then ni ns c else ni ns c++[c]
theorem rZ (c:Nat):ni ns (c+1)=if zK ns (ni ns c) c=true then ni ns c else ni ns c++[c]:=rfl
theorem Z8 {c d:Nat} (h:qc ns c d=true) (k:Nat):tkN ns k c=tkN ns k d:=by
 unfold tkN
 cases hk:ns[k]? with
 | none=>rfl
 | some x=>
  unfold qc at h;rw [List.all_eq_true] at h;have:=h x (mg_ hk);simp only [Bool.or_eq_true,decide_eq_true_eq] at this;rcases this with e | e
  .simp [e]
  .simp [e]
theorem NQ (h:Br ls q) (hn:xU ls ns) (ht:Gg ls mode t) {c d:Nat} (e:qc ns c d=true):taking q.2 t c=taking q.2 t d:=by refine List.filter_congr (fun p hp=>?_);obtain⟨i,x,hi,_,hr⟩:=ht.2 p hp;rw [Bool.eq_iff_iff,IL h hi hr,IL h hi hr,<-Iw hn hi hr,<-Iw hn hi hr,Z8 e]
def pY (L:List (List Nat)) (t:List Nat):List (List Nat):=if t∈L then L else L++[t]
theorem Bb (h:t∈L):pY L t=L:=by unfold pY;rw [if_pos h]
theorem VH {u:List Nat} (h:u∈L):u∈pY L t:=by
 unfold pY;split
 .exact h
 .exact List.mem_append_left _ h
theorem Qm (L:List (List Nat)) (t:List Nat):t∈pY L t:=by
 unfold pY;split
 .assumption
 .simp
theorem YC (g:Nat->List Nat) (l:List Nat):∀(L:List (List Nat)) (u:List Nat),u∈L->u∈l.foldl (fun L b=>pY L (g b)) L:=by
 induction l with
 | nil=>intro L u h;exact h
 | cons b l ih=>intro L u h;exact ih _ _ (VH h)
theorem YA (g:Nat->List Nat) (l:List Nat):∀(L:List (List Nat)) (b:Nat),b∈l->g b∈l.foldl (fun L b=>pY L (g b)) L:=by
 induction l with
 | nil=>intro L b h;simp at h
 | cons a l ih=>
  intro L b h;rw [List.foldl_cons];rcases mm_.1 h with rfl | h
  .exact YC g l _ _ (Qm _ _)
  .exact ih _ _ h
theorem UR (g:Nat->List Nat) (hg:∀c d,qc ns c d=true->g c=g d) (L:List (List Nat)):∀n,(List.range n).foldl (fun L b=>pY L (g b)) L=(ni ns n).foldl (fun L b=>pY L (g b)) L:=by
 intro n
 induction n with
 | zero=>rfl
 | succ n ih=>
  rw [List.range_succ,List.foldl_append,ih,rZ];split
  .rename_i h
   unfold zK at h;rw [List.any_eq_true] at h;obtain⟨d,hd,e⟩:=h;show pY _ (g n)=_;rw [hg _ _ e];exact Bb (YA g _ _ _ hd)
  .rw [List.foldl_append]
def pV (ss:List aN):List (List Nat):=ss.map (fun s=>s.places)
theorem xh (ss:List aN):(pV ss).length=ss.length:=by simp [pV]
theorem Mo (t:List Nat) (ss:List aN):iI t ss<ss.length↔t∈pV ss:=by
 induction ss with
 | nil=>simp [iI,pV]
 | cons s r ih=>
  unfold iI;by_cases e:s.places=t
  .rw [if_pos e];simp [pV,e]
  .rw [if_neg e];simp only [lc_,Nat.add_lt_add_iff_right,ih];show _↔t∈s.places::pV r;rw [mm_];exact⟨.inr,fun h=>h.elim (fun a=>absurd a.symm e) id⟩
theorem V4 (ss:List aN) (t:List Nat):pV (gJ ss t)=pY (pV ss) t:=by
 unfold gJ pY;by_cases h:iI t ss<ss.length
 .rw [if_pos h,if_pos ((Mo t ss).1 h)]
 .rw [if_neg h,if_neg (fun k=>h ((Mo t ss).2 k))];simp [pV]
theorem VZ (ss:List aN) (a b n:Nat):pV (je ss a b n)=pV ss:=by
 unfold pV je;apply List.ext_getElem?;intro i;rw [gm_,gm_,List.getElem?_modify]
 cases ss[i]? with
 | none=>rfl
 | some x=>simp only [Option.map_some];split <;> rfl
theorem VX (ps:List aJ) (ready:List Nat) (fr:Nat) (l:List Nat):∀ss:List aN,pV (l.foldl (nP ps ready fr) ss)=l.foldl (fun L b=>pY L (taking ps ready b)) (pV ss):=by
 induction l with
 | nil=>intro ss;rfl
 | cons b l ih=>intro ss;rw [List.foldl_cons,ih,List.foldl_cons];unfold nP;rw [VZ,V4]
theorem VY (ps:List aJ) (ready:List Nat) (fr:Nat) (ss:List aN) (k:Nat):pV (mD ps ready fr ss k)=(List.range k).foldl (fun L b=>pY L (taking ps ready b)) (pV ss):=VX ps ready fr _ ss
def qE (n:Nat) (S:List (Nat->Bool)) (s:Nat->Bool):List (Nat->Bool):=if rG s n=0 then S else if GK n s S.tail 1<0 then S++[s] else S
def Cu (S:List (Nat->Bool)) (k:Nat):Nat->Bool:=S.getD k (fun _=>false)
def Zl (ns:List aF) (F:Nat->Bool) (FO:Nat->Nat->Bool) (S:List (Nat->Bool)) (k:Nat) (kinds:List Nat):List (Nat->Bool):=kinds.foldl (fun R c=>qE ns.length R (mP ns F FO (Cu S k) (decide (k=0)) c)) S
def tO (ns:List aF) (F:Nat->Bool) (FO:Nat->Nat->Bool):Nat->Nat->List (Nat->Bool)->List (Nat->Bool)
 | 0,_,S=>S
 | f+1,k,S=>if k<S.length/\S.length<=41 then tO ns F FO f (k+1) (Zl ns F FO S k (ni ns 256)) else S
structure Lc (ls:List aC) (mode:Int) (L:List (List Nat)) (S:List (Nat->Bool)):Prop where
 hd:∃T,L=[]::[]::T
 gd:∀t∈L,Gg ls mode t
 eq:S=(L.drop 1).map (GI ls)
theorem Lc.akA {S:List (Nat->Bool)} (h:Lc ls mode L S) (ht:Gg ls mode t):Lc ls mode (pY L t) (qE (dK ls) S (GI ls t)):=by
 obtain⟨⟨T,rfl⟩,gd,rfl⟩:=h;simp only [List.drop_succ_cons,List.drop_zero,List.map_cons] at *;have gT:∀u∈T,Gg ls mode u:=fun u hu=>gd u (by simp [hu])
 unfold qE;by_cases e:t=[]
 .rw [if_pos ((Sl ht).2 e),Bb (by simp [e])];exact⟨⟨T,rfl⟩,gd,rfl⟩
 .rw [if_neg (fun a=>e ((Sl ht).1 a))];have key:(GK (dK ls) (GI ls t) (GI ls []::List.map (GI ls) T).tail 1<0)↔t∉T:=acE ht T 1 gT;by_cases m:t∈T
  .rw [if_neg (fun a=>key.1 a m),Bb (by simp [m])];exact⟨⟨T,rfl⟩,gd,rfl⟩
  .rw [if_pos (key.2 m)];unfold pY;rw [if_neg (by simp [e,m])];refine⟨⟨T++[t],rfl⟩,fun u hu=>?_,by simp⟩;rcases ma_.1 hu with k | k
   .exact gd u k
   .simp at k;subst k;exact ht
theorem Lc.fold (g:Nat->List Nat) (hg:∀c,Gg ls mode (g c)) (l:List Nat):∀{L:List (List Nat)} {S:List (Nat->Bool)},Lc ls mode L S->Lc ls mode (l.foldl (fun L b=>pY L (g b)) L) (l.foldl (fun R c=>qE (dK ls) R (GI ls (g c))) S):=by
 induction l with
 | nil=>intro L S h;exact h
 | cons c l ih=>intro L S h;exact ih (h.akA (hg c))
theorem Lc.row {S:List (Nat->Bool)} (h:Lc ls mode L S) (ht:L[k+1]?=some t):Cu S k=GI ls t:=by unfold Cu;rw [h.eq,gd_,gm_,List.getElem?_drop,Nat.add_comm,ht];rfl
theorem Lc.lead (h:Br ls q) (hn:xU ls ns) {ss:List aN} {S:List (Nat->Bool)} (hs:Lc ls mode (pV ss) S) (k:Nat) (hk:k+1<ss.length) (ready:List Nat) (hr:Gg ls mode ready) (he:∀t,(pV ss)[k+1]?=some t->∀c,mP ns (Cn ls mode ls.length) (Eh ls mode ls.length) (GI ls t) (decide (k=0)) c=GI ls (taking q.2 ready c)) :
  Lc ls mode (pV (mD q.2 ready (k+1) ss 256)) (Zl ns (Cn ls mode ls.length) (Eh ls mode ls.length) S k (ni ns 256)):=by
 obtain⟨t,ht⟩:∃t,(pV ss)[k+1]?=some t:=⟨_,gg_ (by rw [xh];exact hk)⟩
 rw [VY,UR (ns:=ns) (fun b=>taking q.2 ready b) (fun c d e=>NQ h hn hr e)];unfold Zl;rw [hs.row ht,hn.len];simp only [he t ht];exact hs.fold (fun c=>taking q.2 ready c) (fun c=>hr.taking _ c) _
theorem UM (h:Br ls q) (hn:xU ls ns):∀(f k:Nat) (ss:List aN) (S:List (Nat->Bool)),Lc ls mode (pV ss) S->Lc ls mode (pV (pI q.2 f (k+2) ss)) (tO ns (Cn ls mode ls.length) (Eh ls mode ls.length) f (k+1) S):=by
 intro f
 induction f with
 | zero=>intro k ss S hs;exact hs
 | succ f ih=>
  intro k ss S hs;have hl:ss.length=S.length+1:=by obtain⟨T,hT⟩:=hs.hd;rw [<-xh,hs.eq,hT];simp
  unfold pI tO;by_cases c:k+2<ss.length/\ss.length<=42
  .rw [if_pos c,if_pos (by omega)]
   have hp:qK ss (k+2)∈pV ss/\(pV ss)[k+2]?=some (qK ss (k+2)):=by
    have:ss[k+2]?=some (ss[k+2]'c.1):=gg_ c.1;have e:(pV ss)[k+2]?=some (qK ss (k+2)):=by unfold pV qK;rw [gm_,this];rfl
    exact⟨mg_ e,e⟩
   have gd:=hs.gd _ hp.1;refine ih (k+1) _ _ (Lc.lead h hn hs (k+1) c.1 _ (UY h gd) (fun t ht c=>?_));rw [hp.2] at ht;cases ht;rw [show decide (k+1=0)=false by simp];exact acP h hn gd.2 _ c
  .rw [if_neg c,if_neg (by omega)];exact hs
def vE (ls:List aC) (ns:List aF) (mode:Int):List (Nat->Bool):=tO ns (Cn ls mode ls.length) (Eh ls mode ls.length) 44 0 [fun _=>false]
theorem aam:Lc ls mode (pV Oc) [fun _=>false]:=by
 refine⟨⟨[],rfl⟩,fun t ht=>?_,rfl⟩;have:t=[]:=by simpa [pV,Oc] using ht
 subst this;exact .nil
theorem Ig (h:Br ls q) (hn:xU ls ns):Lc ls mode (pV (pJ q.1 q.2 mode)) (vE ls ns mode):=by unfold pJ vE tO;rw [if_pos (by simp)];refine UM h hn 43 0 _ _ (Lc.lead h hn aam 0 (by simp [Oc]) _ (YI h) (fun t ht c=>?_));exact QY h hn _ _ c
theorem Yz (h:Br ls q) (hn:xU ls ns):(pJ q.1 q.2 mode).length=(vE ls ns mode).length+1:=by have hs:=Ig (mode:=mode) h hn;obtain⟨T,hT⟩:=hs.hd;rw [<-xh,hs.eq,hT];simp
end
end Pu
namespace Pu
structure AD (ls:List aC) (D:DR):Prop where
 net:xU ls D.ns
 n:D.ls.length=ls.length
 get:∀(k:Nat) (x:aC),ls[k]?=some x->D.ls[k]?=some (⟨x.mode,x.emit,x.act,x.md,((dK (ls.take k)+x.re.size-1:Nat):Int)⟩:IU)
 modes:(ls=[]/\D.modes=0)\/D.modes=lD (cB ls).1
 down:(D.down=-1/\Aj Gx ls)\/∃i:Nat,D.down=i/\mU Gx ls i
theorem rC (ls:List aC) (x:aC):cB (ls++[x])=Bw (cB ls) x:=by simp [cB]
theorem AD.add {ls:List aC} {D:DR} (h:AD ls D) (x:aC) (hx:KE x):AD (ls++[x]) (I8 D x):=by
 have tk1:∀{k:Nat},k<=ls.length->(ls++[x]).take k=ls.take k:=fun hk=>List.take_append_of_le_length hk
 have bk:dK ((ls++[x]).take ls.length)=dK ls:=by rw [tk1 di,List.take_length]
 refine⟨⟨fun i y hi=>?_,?_⟩,by simp [I8,h.n],fun k y hk=>?_,?_,?_⟩
 .rcases sw hi with ⟨hl,hi'⟩ | ⟨rfl,rfl⟩
  .rw [tk1 (by omega)];intro j z hz;have:=h.net.at' i y hi' j z hz;show (D.ns++_)[_]?=_;rw [al_ (mY this)];exact this
  .rw [bk];intro j z hz;show (D.ns++nodes y.re D.ns.length)[_]?=_;rw [h.net.len,ar_ (by rw [h.net.len];omega),h.net.len,show dK ls+j-dK ls=j by omega];exact hz
 .show (D.ns++nodes x.re D.ns.length).length=_;rw [la_,bR,h.net.len,uZ];simp [dK]
 .rcases sw hk with ⟨hl,hk'⟩ | ⟨rfl,rfl⟩
  .rw [tk1 (by omega)];have:=h.get k y hk';show (D.ls++_)[_]?=_;rw [al_ (mY this)];exact this
  .rw [bk];show (D.ls++_)[_]?=_;rw [ar_ (by rw [h.n];exact di),h.n,Nat.sub_self,<-h.net.len];rfl
 .refine .inr ?_
  rw [rC];show Gw D.modes x=_;have e:lD (Bw (cB ls) x).1=xL ((cB ls).1.foldl xL 0) (x.lp (part x.re (cB ls).2).1)+1:=by unfold lD Bw;rw [List.foldl_append];rfl
  rw [e]
  have key:∀m:Int,∀y:aD,y.mode=x.mode->y.md=x.md->D.modes=0/\m=0\/D.modes=m+1->Gw D.modes x=xL m y+1:=by
   intro m y e1 e2 hm;unfold KE at hx;unfold Gw Pq xL;rw [e1,e2];rcases hm with ⟨h1,h2⟩ | h1
   .rw [h1,h2];split <;> split <;> split <;> (try split) <;> (try split) <;> omega
   .rw [h1];split <;> split <;> split <;> (try split) <;> (try split) <;> omega
  refine key _ _ rfl rfl ?_
  rcases h.modes with ⟨h1,h2⟩ | h2
  .subst h1;exact .inl ⟨h2,rfl⟩
  .exact .inr h2
 .show (oF _ _ _=_/\_)\/∃i,oF _ _ _=_/\_;rw [h.n];rcases h.down with ⟨h1,h2⟩ | ⟨i,h1,h2⟩
  .cases e:x.down with
   | false=>
    refine .inl ⟨by rw [xS];exact h1,fun y hy=>?_⟩;rcases ma_.1 hy with k | k
    .exact h2 y k
    .simp at k;subst k;exact e
   | true=>refine .inr ⟨ls.length,by unfold oF;rw [if_pos ⟨rfl,by rw [h1];decide⟩],⟨x,by simp,e⟩,fun j y hj hy=>?_⟩;rw [al_ hj] at hy;exact h2 y (mg_ hy)
  .obtain⟨⟨y,hy,hd⟩,hf⟩:=h2;have il:=mY hy;refine .inr ⟨i,by unfold oF;rw [if_neg (by rw [h1];omega)];exact h1,⟨y,by rw [al_ il];exact hy,hd⟩,fun j z hj hz=>?_⟩;rw [al_ (by omega)] at hz;exact hf j z hj hz
theorem ad8:AD [] (⟨[],[],0,-1⟩:DR):=⟨⟨fun i x h=>by simp at h,rfl⟩,rfl,fun k x h=>by simp at h,.inl ⟨rfl,rfl⟩,.inl ⟨rfl,fun x h=>by simp at h⟩⟩
theorem abq (r:List aC):∀(ls:List aC) (D:DR),(∀x∈r,KE x)->AD ls D->AD (ls++r) (r.foldl I8 D):=by
 induction r with
 | nil=>intro ls D _ h;simpa using h
 | cons x r ih=>intro ls D hr h;have:=ih _ _ (fun y hy=>hr y (mc_ _ hy)) (h.add x (hr x (ms_ ..)));simpa using this
theorem zi (ls:List aC) (h:∀x∈ls,KE x):AD ls (fG ls):=by simpa [fG] using abq ls [] _ h ad8
end Pu
end Go.Proofs.YtmccnmgaoppogaaGreat
