/-
 Plain mathematics: the document's sets of a mode go in step with the program's.
 Plain mathematics: what the document keeps of rules, line by line.
-/
import Derived.Test.YtmccnmgaoppogaaGreatHD
import Derived.Test.YtmccnmgaoppogaaGreatHF
import Derived.Test.YtmccnmgaoppogaaGreatF8
namespace Go.Proofs.YtmccnmgaoppogaaGreat
namespace Pure
def nbase (ls:List Ln):Nat:=(ls.map (fun x=>x.re.size)).sum
theorem nbase_append (a b:List Ln):nbase (a++b)=nbase a+nbase b:=by simp [nbase]
theorem nbase_cons (x:Ln) (a:List Ln):nbase (x::a)=x.re.size+nbase a:=by simp [nbase]
theorem base_cons (x:Ln) (a:List Ln):base (x::a)=x.re.leaves+base a:=by simp [base]
theorem nbase_take_le (ls:List Ln) (k:Nat):nbase (ls.take k)≤nbase ls:=by
 have:=nbase_append (ls.take k) (ls.drop k)
 rw [List.take_append_drop] at this
 omega
theorem nbase_take_succ {ls:List Ln} {k:Nat} {x:Ln} (h:ls[k]?=some x):nbase (ls.take (k+1))=nbase (ls.take k)+x.re.size:=by
 rw [List.take_add_one,h,nbase_append]
 simp [nbase]
theorem nbase_take_mono (ls:List Ln) {j k:Nat} (h:j≤k):nbase (ls.take j)≤nbase (ls.take k):=by
 have:=nbase_take_le (ls.take k) j
 rwa [List.take_take,Nat.min_eq_left h] at this
def nuG:List Ln→Nat→Nat→Nat→Nat
 | [],_,_,_=>0
 | x::r,n,m,p=>if p<n+x.re.leaves then nu x.re n m p else nuG r (n+x.re.leaves) (m+x.re.size) p
theorem nuG_at:∀(ls:List Ln) (n m i:Nat) (x:Ln) (p:Nat),ls[i]?=some x→Rg x.re (n+base (ls.take i)) p→nuG ls n m p=nu x.re (n+base (ls.take i)) (m+nbase (ls.take i)) p:=by
 intro ls
 induction ls with
 | nil=>intro n m i x p h;simp at h
 | cons y r ih=>
  intro n m i x p h hr
  cases i with
  | zero=>
   simp at h;subst h;simp only [List.take_zero,show base []=0 from rfl,show nbase []=0 from rfl,Nat.add_zero] at *;unfold nuG;rw [if_pos hr.2]
  | succ i=>
   have h':r[i]?=some x:=by simpa using h
   rw [List.take_succ_cons,base_cons,nbase_cons] at *;unfold nuG;rw [if_neg (by have:=hr.1;omega),ih (n+y.re.leaves) (m+y.re.size) i x p h' (by rw [Nat.add_assoc];exact hr)];rw [Nat.add_assoc,Nat.add_assoc]
def OnM (ls:List Ln) (mode:Int) (p:Nat):Prop:=∃i x,ls[i]?=some x∧x.mode=mode∧Rg x.re (base (ls.take i)) p
abbrev nuA (ls:List Ln) (p:Nat):Nat:=nuG ls 0 0 p
section
variable {ls:List Ln} {q:List Lp × List Pl} {ns:List Nd} {mode:Int}
theorem nuA_at {i p:Nat} {x:Ln} (h:ls[i]?=some x) (hr:Rg x.re (base (ls.take i)) p):nuA ls p=nu x.re (base (ls.take i)) (nbase (ls.take i)) p:=by
 have:=nuG_at ls 0 0 i x p h (by rw [Nat.zero_add];exact hr)
 rwa [Nat.zero_add,Nat.zero_add] at this
theorem nuA_lt {i p:Nat} {x:Ln} (h:ls[i]?=some x) (hr:Rg x.re (base (ls.take i)) p):nuA ls p<nbase ls:=by
 rw [nuA_at h hr]
 have h1:=(nu_rg x.re (m:=nbase (ls.take i)) hr).2
 have h2:=nbase_take_succ h
 have h3:=nbase_take_le ls (i+1)
 omega
theorem nuA_inj {i j p p':Nat} {x y:Ln} (h:ls[i]?=some x) (hr:Rg x.re (base (ls.take i)) p) (h':ls[j]?=some y) (hr':Rg y.re (base (ls.take j)) p') (e:nuA ls p=nuA ls p'):p=p':=by
 rw [nuA_at h hr,nuA_at h' hr'] at e
 have r1:=nu_rg x.re (m:=nbase (ls.take i)) hr
 have r2:=nu_rg y.re (m:=nbase (ls.take j)) hr'
 have ij:i=j:=by
  rcases Nat.lt_trichotomy i j with k | k | k
  ·have:=nbase_take_mono ls (show i+1≤j from k)
   rw [nbase_take_succ h] at this;omega
  ·exact k
  ·have:=nbase_take_mono ls (show j+1≤i from k)
   rw [nbase_take_succ h'] at this;omega
 subst ij
 rw [h] at h'
 cases h'
 exact nu_inj x.re hr hr' e
theorem OnM.lt {p:Nat} (h:OnM ls mode p):nuA ls p<nbase ls:=by
 obtain⟨i,x,h1,_,h2⟩:=h
 exact nuA_lt h1 h2
theorem OnM.inj {p p':Nat} (h:OnM ls mode p) (h':OnM ls mode p') (e:nuA ls p=nuA ls p'):p=p':=by
 obtain⟨i,x,h1,_,h2⟩:=h
 obtain⟨j,y,h3,_,h4⟩:=h'
 exact nuA_inj h1 h2 h3 h4 e
structure NetL (ls:List Ln) (ns:List Nd):Prop where
 at':∀i x,ls[i]?=some x→At ns x.re (nbase (ls.take i))
 len:ns.length=nbase ls
def tkN (ns:List Nd) (k c:Nat):Bool:=match ns[k]? with
 | some x=>decide (x.kind=1) && x.inn c
 | none=>false
theorem tk_at (h:Lin ls q) {i p:Nat} {x:Ln} (hi:ls[i]?=some x) (hr:Rg x.re (base (ls.take i)) p) (c:Nat):Pure.tk q.2 p c=true↔Tk x.re (base (ls.take i)) p c:=by
 rw [h.tk]
 constructor
 ·rintro ⟨j,y,hj,ht⟩
  have e:=rg_same hj hi ht.rg hr;subst e;rw [hi] at hj;cases hj;exact ht
 ·intro ht
  exact⟨i,x,hi,ht⟩
theorem nd_at (h:NetL ls ns) {i p:Nat} {x:Ln} (hi:ls[i]?=some x) (hr:Rg x.re (base (ls.take i)) p) (c:Nat):tkN ns (nuA ls p) c=true↔Tk x.re (base (ls.take i)) p c:=by
 obtain⟨T,h1,h2⟩:=nodes_tk x.re (base (ls.take i)) (nbase (ls.take i)) c p hr
 have:=h.at' i x hi _ _ h1
 have r:=nu_rg x.re (m:=nbase (ls.take i)) hr
 rw [show nbase (ls.take i)+(nu x.re (base (ls.take i)) (nbase (ls.take i)) p-nbase (ls.take i))=nu x.re (base (ls.take i)) (nbase (ls.take i)) p by omega,←nuA_at hi hr] at this
 rw [h2]
 unfold tkN
 rw [this]
 simp
def fiL (ls:List Ln) (mode:Int) (i k:Nat):Bool:=match ls[i]? with
 | some x=>decide (x.mode=mode) && fiN x.re (nbase (ls.take i)) k
 | none=>false
def fiG (ls:List Ln) (mode:Int):Nat→Nat→Bool
 | 0,_=>false
 | i+1,k=>fiG ls mode i k || fiL ls mode i k
def foL (ls:List Ln) (mode:Int) (i a b:Nat):Bool:=match ls[i]? with
 | some x=>decide (x.mode=mode) && foN x.re (nbase (ls.take i)) a b
 | none=>false
def foG (ls:List Ln) (mode:Int):Nat→Nat→Nat→Bool
 | 0,_,_=>false
 | i+1,a,b=>foG ls mode i a b || foL ls mode i a b
theorem fiL_iff {i k:Nat}:fiL ls mode i k=true↔∃x,ls[i]?=some x∧x.mode=mode∧∃p,Fi x.re (base (ls.take i)) p∧nuA ls p=k:=by
 unfold fiL
 cases hi:ls[i]? with
 | none=>simp
 | some x=>
  simp only [Bool.and_eq_true,decide_eq_true_eq,Option.some.injEq];rw [fiN_iff x.re (base (ls.take i))];constructor
  ·rintro ⟨h1,p,h2,h3⟩
   exact⟨x,rfl,h1,p,h2,by rw [nuA_at hi h2.rg];exact h3⟩
  ·rintro ⟨y,rfl,h1,p,h2,h3⟩
   exact⟨h1,p,h2,by rw [←nuA_at hi h2.rg];exact h3⟩
theorem foL_iff {i a b:Nat}:foL ls mode i a b=true↔∃x,ls[i]?=some x∧x.mode=mode∧∃p p',Fo x.re (base (ls.take i)) p p'∧nuA ls p=a∧nuA ls p'=b:=by
 unfold foL
 cases hi:ls[i]? with
 | none=>simp
 | some x=>
  simp only [Bool.and_eq_true,decide_eq_true_eq,Option.some.injEq];rw [foN_iff x.re (base (ls.take i))];constructor
  ·rintro ⟨h1,p,p',h2,h3,h4⟩
   exact⟨x,rfl,h1,p,p',h2,by rw [nuA_at hi h2.rg.1];exact h3,by rw [nuA_at hi h2.rg.2];exact h4⟩
  ·rintro ⟨y,rfl,h1,p,p',h2,h3,h4⟩
   exact⟨h1,p,p',h2,by rw [←nuA_at hi h2.rg.1];exact h3,by rw [←nuA_at hi h2.rg.2];exact h4⟩
theorem fiG_iff {n k:Nat}:fiG ls mode n k=true↔∃i,i<n∧fiL ls mode i k=true:=by
 induction n with
 | zero=>simp [fiG]
 | succ n ih=>
  unfold fiG;rw [Bool.or_eq_true,ih];constructor
  ·rintro (⟨i,h1,h2⟩ | h)
   ·exact⟨i,by omega,h2⟩
   ·exact⟨n,by omega,h⟩
  ·rintro ⟨i,h1,h2⟩
   rcases Nat.lt_or_ge i n with h | h
   ·exact .inl ⟨i,h,h2⟩
   ·have:i=n:=by omega
    subst this;exact .inr h2
theorem foG_iff {n a b:Nat}:foG ls mode n a b=true↔∃i,i<n∧foL ls mode i a b=true:=by
 induction n with
 | zero=>simp [foG]
 | succ n ih=>
  unfold foG;rw [Bool.or_eq_true,ih];constructor
  ·rintro (⟨i,h1,h2⟩ | h)
   ·exact⟨i,by omega,h2⟩
   ·exact⟨n,by omega,h⟩
  ·rintro ⟨i,h1,h2⟩
   rcases Nat.lt_or_ge i n with h | h
   ·exact .inl ⟨i,h,h2⟩
   ·have:i=n:=by omega
    subst this;exact .inr h2
theorem get_lt {α:Type} {l:List α} {i:Nat} {x:α} (h:l[i]?=some x):i<l.length:=(List.getElem?_eq_some_iff.1 h).1
def stepN (ns:List Nd) (F:Nat→Bool) (FO:Nat→Nat→Bool) (set:Nat→Bool) (begin:Bool) (c k:Nat):Bool:=
 tkN ns k c && (if begin then F k else (List.range ns.length).any (fun i=>set i && FO i k))
def ndS (ls:List Ln) (t:List Nat) (k:Nat):Bool:=t.any (fun p=>decide (nuA ls p=k))
theorem ndS_iff {t:List Nat} {k:Nat}:ndS ls t k=true↔∃p,p∈t∧nuA ls p=k:=by simp [ndS]
theorem ndS_nil:ndS ls []=fun _=>false:=rfl
theorem mem_beginL (h:Lin ls q) {p:Nat}:p∈beginR q.1 mode↔∃i x,ls[i]?=some x∧x.mode=mode∧Fi x.re (base (ls.take i)) p:=by
 rw [mem_begin]
 constructor
 ·rintro ⟨y,hy,hm,hf⟩
  obtain⟨i,hi⟩:=List.getElem?_of_mem hy;have hil:i<ls.length:=by rw [←h.n];exact (List.getElem?_eq_some_iff.1 hi).1
  obtain⟨pt,g1,g2,-⟩:=h.get i _ (List.getElem?_eq_getElem hil);rw [hi] at g1;cases g1;exact⟨i,_,List.getElem?_eq_getElem hil,hm,(g2 p).1 hf⟩
 ·rintro ⟨i,x,hi,hm,hf⟩
  obtain⟨pt,g1,g2,-⟩:=h.get i x hi;exact⟨x.lp pt,List.mem_of_getElem? g1,hm,(g2 p).2 hf⟩
theorem step_begin (h:Lin ls q) (hn:NetL ls ns) (set:Nat→Bool) (FO:Nat→Nat→Bool) (c:Nat):stepN ns (fiG ls mode ls.length) FO set true c=ndS ls (taking q.2 (beginR q.1 mode) c):=by
 funext k
 rw [Bool.eq_iff_iff,ndS_iff]
 unfold stepN
 rw [Bool.and_eq_true,if_pos rfl,fiG_iff]
 constructor
 ·rintro ⟨h1,i,_,h2⟩
  rw [fiL_iff] at h2;obtain⟨x,hi,hm,p,hf,rfl⟩:=h2;refine⟨p,(mem_taking ..).2 ⟨(mem_beginL h).2 ⟨i,x,hi,hm,hf⟩,(tk_at h hi hf.rg c).2 ((nd_at hn hi hf.rg c).1 h1)⟩,rfl⟩
 ·rintro ⟨p,hp,rfl⟩
  rw [mem_taking,mem_beginL h] at hp;obtain⟨⟨i,x,hi,hm,hf⟩,ht⟩:=hp;exact⟨(nd_at hn hi hf.rg c).2 ((tk_at h hi hf.rg c).1 ht),i,get_lt hi,fiL_iff.2 ⟨x,hi,hm,p,hf,rfl⟩⟩
theorem step_on (h:Lin ls q) (hn:NetL ls ns) {t:List Nat} (ht:∀p∈t,OnM ls mode p) (F:Nat→Bool) (c:Nat):stepN ns F (foG ls mode ls.length) (ndS ls t) false c=ndS ls (taking q.2 (behindR q.2 t) c):=by
 funext k
 rw [Bool.eq_iff_iff,ndS_iff]
 unfold stepN
 rw [Bool.and_eq_true,if_neg (by simp),List.any_eq_true]
 constructor
 ·rintro ⟨h1,a,_,h2⟩
  rw [Bool.and_eq_true,ndS_iff,foG_iff] at h2;obtain⟨⟨p,hp,rfl⟩,i,_,hf⟩:=h2;rw [foL_iff] at hf;obtain⟨x,hi,hm,p1,p2,hf,e,rfl⟩:=hf;obtain⟨j,y,hj,hm',hr⟩:=ht p hp;have ep:=nuA_inj hi hf.rg.1 hj hr e;subst ep;exact⟨p2,(mem_taking ..).2 ⟨(mem_behind ..).2 ⟨p1,hp,(h.fo _ _).2 ⟨i,x,hi,hf⟩⟩,(tk_at h hi hf.rg.2 c).2 ((nd_at hn hi hf.rg.2 c).1 h1)⟩,rfl⟩
 ·rintro ⟨p2,hp,rfl⟩
  rw [mem_taking,mem_behind] at hp;obtain⟨⟨p,hp,hf⟩,hk⟩:=hp;rw [h.fo] at hf;obtain⟨i,x,hi,hf⟩:=hf;obtain⟨j,y,hj,hm',hr⟩:=ht p hp;have e:=rg_same hj hi hr hf.rg.1;subst e;rw [hi] at hj;cases hj;refine⟨(nd_at hn hi hf.rg.2 c).2 ((tk_at h hi hf.rg.2 c).1 hk),nuA ls p,by rw [List.mem_range,hn.len];exact nuA_lt hi hf.rg.1,?_⟩;rw [Bool.and_eq_true,ndS_iff,foG_iff];exact⟨⟨p,hp,rfl⟩,j,get_lt hi,foL_iff.2 ⟨x,hi,hm',p,p2,hf,rfl,rfl⟩⟩
def GdS (ls:List Ln) (mode:Int) (t:List Nat):Prop:=Asc t∧∀p∈t,OnM ls mode p
theorem GdS.nil:GdS ls mode []:=⟨List.Pairwise.nil,fun p hp=>by simp at hp⟩
theorem GdS.taking {t:List Nat} (h:GdS ls mode t) (ps:List Pl) (c:Nat):GdS ls mode (taking ps t c):=⟨filter_asc _ h.1,fun p hp=>h.2 p (List.mem_filter.1 hp).1⟩
theorem gd_begin (h:Lin ls q):GdS ls mode (beginR q.1 mode):=by
 refine⟨(begin_inl mode h.pts).1,fun p hp=>?_⟩
 obtain⟨i,x,hi,hm,hf⟩:=(mem_beginL h).1 hp
 exact⟨i,x,hi,hm,hf.rg⟩
theorem gd_behind (h:Lin ls q) {t:List Nat} (ht:GdS ls mode t):GdS ls mode (behindR q.2 t):=by
 refine⟨(behind_inl h.ok t).1,fun p hp=>?_⟩
 rw [mem_behind] at hp
 obtain⟨p0,hp,hf⟩:=hp
 rw [h.fo] at hf
 obtain⟨i,x,hi,hf⟩:=hf
 obtain⟨j,y,hj,hm',hr⟩:=ht.2 p0 hp
 have e:=rg_same hj hi hr hf.rg.1
 subst e
 rw [hi] at hj
 cases hj
 exact⟨j,_,hi,hm',hf.rg.2⟩
theorem asc_ext:∀{a b:List Nat},Asc a→Asc b→(∀x,x∈a↔x∈b)→a=b:=by
 intro a
 induction a with
 | nil=>
  intro b _ _ h
  cases b with
  | nil=>rfl
  | cons y b=>exact absurd ((h y).2 (List.mem_cons_self ..)) (by simp)
 | cons x a ih=>
  intro b ha hb h
  cases b with
  | nil=>exact absurd ((h x).1 (List.mem_cons_self ..)) (by simp)
  | cons y b=>
   unfold Asc at ha hb;rw [List.pairwise_cons] at ha hb
   have xy:x=y:=by
    rcases List.mem_cons.1 ((h x).1 (List.mem_cons_self ..)) with e | e
    ·exact e
    ·rcases List.mem_cons.1 ((h y).2 (List.mem_cons_self ..)) with e' | e'
     ·exact e'.symm
     ·have:=hb.1 x e
      have:=ha.1 y e';omega
   subst xy;rw [ih ha.2 hb.2 (fun z=>?_)];constructor
   ·intro hz
    rcases List.mem_cons.1 ((h z).1 (List.mem_cons_of_mem _ hz)) with e | e
    ·have:=ha.1 z hz
     omega
    ·exact e
   ·intro hz
    rcases List.mem_cons.1 ((h z).2 (List.mem_cons_of_mem _ hz)) with e | e
    ·have:=hb.1 z hz
     omega
    ·exact e
theorem ndS_lt {t:List Nat} (h:GdS ls mode t) {k:Nat} (hk:ndS ls t k=true):k<nbase ls:=by
 obtain⟨p,hp,rfl⟩:=ndS_iff.1 hk
 exact (h.2 p hp).lt
theorem ndS_inj {t t':List Nat} (h:GdS ls mode t) (h':GdS ls mode t') (e:∀k,k<nbase ls→ndS ls t k=ndS ls t' k):t=t':=by
 refine asc_ext h.1 h'.1 (fun p=>⟨fun hp=>?_,fun hp=>?_⟩)
 ·have:=e _ (h.2 p hp).lt
  rw [ndS_iff.2 ⟨p,hp,rfl⟩] at this;obtain⟨p',hp',e'⟩:=ndS_iff.1 this.symm;rw [←(h'.2 p' hp').inj (h.2 p hp) e'];exact hp'
 ·have:=e _ (h'.2 p hp).lt
  rw [ndS_iff.2 ⟨p,hp,rfl⟩] at this;obtain⟨p',hp',e'⟩:=ndS_iff.1 this;rw [←(h.2 p' hp').inj (h'.2 p hp) e'];exact hp'
theorem alk_ndS {t t':List Nat} (h:GdS ls mode t) (h':GdS ls mode t'):alk (nbase ls) (ndS ls t) (ndS ls t')=true↔t=t':=by
 unfold alk
 rw [decide_eq_true_eq]
 exact⟨ndS_inj h h',fun e=>by subst e;exact fun _ _=>rfl⟩
theorem cnt_ndS {t:List Nat} (h:GdS ls mode t):cntB (ndS ls t) (nbase ls)=0↔t=[]:=by
 rw [cntB_zero]
 constructor
 ·intro e
  exact ndS_inj h GdS.nil (fun k hk=>by rw [e k hk];rfl)
 ·rintro rfl
  exact fun _ _=>rfl
theorem plc_neg {t:List Nat} (h:GdS ls mode t):∀(T:List (List Nat)) (k:Nat),(∀u∈T,GdS ls mode u)→(plc (nbase ls) (ndS ls t) (T.map (ndS ls)) k<0↔t∉T):=by
 intro T
 induction T with
 | nil=>intro k _;simp [plc]
 | cons u T ih=>
  intro k hT;rw [List.map_cons];unfold plc;by_cases e:u=t
  ·rw [if_pos ((alk_ndS (hT u (List.mem_cons_self ..)) h).2 e)]
   subst e;simp
  ·rw [if_neg (fun a=>e ((alk_ndS (hT u (List.mem_cons_self ..)) h).1 a)),ih _ (fun v hv=>hT v (List.mem_cons_of_mem _ hv))]
   rw [List.mem_cons,not_or];exact⟨fun h=>⟨fun a=>e a.symm,h⟩,fun h=>h.2⟩
def sameN (ns:List Nd) (c d:Nat):Bool:=ns.all (fun x=>decide (x.kind≠1) || decide (x.inn c=x.inn d))
def oldN (ns:List Nd) (out:List Nat) (c:Nat):Bool:=out.any (fun d=>sameN ns c d)
def repsN (ns:List Nd):Nat→List Nat
 | 0=>[]
 | c+1=>if oldN ns (repsN ns c) c=true then repsN ns c else repsN ns c++[c]
theorem repsN_succ (c:Nat):repsN ns (c+1)=if oldN ns (repsN ns c) c=true then repsN ns c else repsN ns c++[c]:=rfl
theorem same_tkN {c d:Nat} (h:sameN ns c d=true) (k:Nat):tkN ns k c=tkN ns k d:=by
 unfold tkN
 cases hk:ns[k]? with
 | none=>rfl
 | some x=>
  unfold sameN at h;rw [List.all_eq_true] at h;have:=h x (List.mem_of_getElem? hk);simp only [Bool.or_eq_true,decide_eq_true_eq] at this;rcases this with e | e
  ·simp [e]
  ·simp [e]
theorem same_taking (h:Lin ls q) (hn:NetL ls ns) {t:List Nat} (ht:GdS ls mode t) {c d:Nat} (e:sameN ns c d=true):taking q.2 t c=taking q.2 t d:=by
 refine List.filter_congr (fun p hp=>?_)
 obtain⟨i,x,hi,_,hr⟩:=ht.2 p hp
 rw [Bool.eq_iff_iff,tk_at h hi hr,tk_at h hi hr,←nd_at hn hi hr,←nd_at hn hi hr,same_tkN e]
def numbP (L:List (List Nat)) (t:List Nat):List (List Nat):=if t∈L then L else L++[t]
theorem numbP_old {L:List (List Nat)} {t:List Nat} (h:t∈L):numbP L t=L:=by unfold numbP;rw [if_pos h]
theorem numbP_sub {L:List (List Nat)} {t u:List Nat} (h:u∈L):u∈numbP L t:=by
 unfold numbP
 split
 ·exact h
 ·exact List.mem_append_left _ h
theorem numbP_self (L:List (List Nat)) (t:List Nat):t∈numbP L t:=by
 unfold numbP
 split
 ·assumption
 ·simp
theorem fold_sub (g:Nat→List Nat) (l:List Nat):∀(L:List (List Nat)) (u:List Nat),u∈L→u∈l.foldl (fun L b=>numbP L (g b)) L:=by
 induction l with
 | nil=>intro L u h;exact h
 | cons b l ih=>intro L u h;exact ih _ _ (numbP_sub h)
theorem fold_mem (g:Nat→List Nat) (l:List Nat):∀(L:List (List Nat)) (b:Nat),b∈l→g b∈l.foldl (fun L b=>numbP L (g b)) L:=by
 induction l with
 | nil=>intro L b h;simp at h
 | cons a l ih=>
  intro L b h;rw [List.foldl_cons];rcases List.mem_cons.1 h with rfl | h
  ·exact fold_sub g l _ _ (numbP_self _ _)
  ·exact ih _ _ h
theorem fold_reps (g:Nat→List Nat) (hg:∀c d,sameN ns c d=true→g c=g d) (L:List (List Nat)):∀n,(List.range n).foldl (fun L b=>numbP L (g b)) L=(repsN ns n).foldl (fun L b=>numbP L (g b)) L:=by
 intro n
 induction n with
 | zero=>rfl
 | succ n ih=>
  rw [List.range_succ,List.foldl_append,ih,repsN_succ];split
  ·rename_i h
   unfold oldN at h;rw [List.any_eq_true] at h;obtain⟨d,hd,e⟩:=h;show numbP _ (g n)=_;rw [hg _ _ e];exact numbP_old (fold_mem g _ _ _ hd)
  ·rw [List.foldl_append]
def plsS (ss:List St):List (List Nat):=ss.map (fun s=>s.places)
theorem plsS_length (ss:List St):(plsS ss).length=ss.length:=by simp [plsS]
theorem idxSt_lt (t:List Nat) (ss:List St):idxSt t ss<ss.length↔t∈plsS ss:=by
 induction ss with
 | nil=>simp [idxSt,plsS]
 | cons s r ih=>
  unfold idxSt;by_cases e:s.places=t
  ·rw [if_pos e]
   simp [plsS,e]
  ·rw [if_neg e]
   simp only [List.length_cons,Nat.add_lt_add_iff_right,ih];show _↔t∈s.places::plsS r;rw [List.mem_cons];exact⟨.inr,fun h=>h.elim (fun a=>absurd a.symm e) id⟩
theorem plsS_numb (ss:List St) (t:List Nat):plsS (numbSt ss t)=numbP (plsS ss) t:=by
 unfold numbSt numbP
 by_cases h:idxSt t ss<ss.length
 ·rw [if_pos h,if_pos ((idxSt_lt t ss).1 h)]
 ·rw [if_neg h,if_neg (fun k=>h ((idxSt_lt t ss).2 k))]
  simp [plsS]
theorem plsS_long (ss:List St) (a b n:Nat):plsS (setLong ss a b n)=plsS ss:=by
 unfold plsS setLong
 apply List.ext_getElem?
 intro i
 rw [List.getElem?_map,List.getElem?_map,List.getElem?_modify]
 cases ss[i]? with
 | none=>rfl
 | some x=>
  simp only [Option.map_some];split <;> rfl
theorem plsS_fold (ps:List Pl) (ready:List Nat) (fr:Nat) (l:List Nat):∀ss:List St,plsS (l.foldl (lead1S ps ready fr) ss)=l.foldl (fun L b=>numbP L (taking ps ready b)) (plsS ss):=by
 induction l with
 | nil=>intro ss;rfl
 | cons b l ih=>
  intro ss;rw [List.foldl_cons,ih,List.foldl_cons];unfold lead1S;rw [plsS_long,plsS_numb]
theorem plsS_lead (ps:List Pl) (ready:List Nat) (fr:Nat) (ss:List St) (k:Nat):plsS (leadS ps ready fr ss k)=(List.range k).foldl (fun L b=>numbP L (taking ps ready b)) (plsS ss):=plsS_fold ps ready fr _ ss
def numbD (n:Nat) (S:List (Nat→Bool)) (s:Nat→Bool):List (Nat→Bool):=if cntB s n=0 then S else if plc n s S.tail 1<0 then S++[s] else S
def rowD (S:List (Nat→Bool)) (k:Nat):Nat→Bool:=S.getD k (fun _=>false)
def leadD (ns:List Nd) (F:Nat→Bool) (FO:Nat→Nat→Bool) (S:List (Nat→Bool)) (k:Nat) (kinds:List Nat):List (Nat→Bool):=kinds.foldl (fun R c=>numbD ns.length R (stepN ns F FO (rowD S k) (decide (k=0)) c)) S
def machGo (ns:List Nd) (F:Nat→Bool) (FO:Nat→Nat→Bool):Nat→Nat→List (Nat→Bool)→List (Nat→Bool)
 | 0,_,S=>S
 | f+1,k,S=>if k<S.length∧S.length≤41 then machGo ns F FO f (k+1) (leadD ns F FO S k (repsN ns 256)) else S
structure Stp (ls:List Ln) (mode:Int) (L:List (List Nat)) (S:List (Nat→Bool)):Prop where
 hd:∃T,L=[]::[]::T
 gd:∀t∈L,GdS ls mode t
 eq:S=(L.drop 1).map (ndS ls)
theorem Stp.numb {L:List (List Nat)} {S:List (Nat→Bool)} (h:Stp ls mode L S) {t:List Nat} (ht:GdS ls mode t):Stp ls mode (numbP L t) (numbD (nbase ls) S (ndS ls t)):=by
 obtain⟨⟨T,rfl⟩,gd,rfl⟩:=h
 simp only [List.drop_succ_cons,List.drop_zero,List.map_cons] at *
 have gT:∀u∈T,GdS ls mode u:=fun u hu=>gd u (by simp [hu])
 unfold numbD
 by_cases e:t=[]
 ·rw [if_pos ((cnt_ndS ht).2 e),numbP_old (by simp [e])]
  exact⟨⟨T,rfl⟩,gd,rfl⟩
 ·rw [if_neg (fun a=>e ((cnt_ndS ht).1 a))]
  have key:(plc (nbase ls) (ndS ls t) (ndS ls []::List.map (ndS ls) T).tail 1<0)↔t∉T:=plc_neg ht T 1 gT;by_cases m:t∈T
  ·rw [if_neg (fun a=>key.1 a m),numbP_old (by simp [m])]
   exact⟨⟨T,rfl⟩,gd,rfl⟩
  ·rw [if_pos (key.2 m)]
   unfold numbP;rw [if_neg (by simp [e,m])];refine⟨⟨T++[t],rfl⟩,fun u hu=>?_,by simp⟩;rcases List.mem_append.1 hu with k | k
   ·exact gd u k
   ·simp at k
    subst k;exact ht
theorem Stp.fold (g:Nat→List Nat) (hg:∀c,GdS ls mode (g c)) (l:List Nat):∀{L:List (List Nat)} {S:List (Nat→Bool)},Stp ls mode L S→Stp ls mode (l.foldl (fun L b=>numbP L (g b)) L) (l.foldl (fun R c=>numbD (nbase ls) R (ndS ls (g c))) S):=by
 induction l with
 | nil=>intro L S h;exact h
 | cons c l ih=>intro L S h;exact ih (h.numb (hg c))
theorem Stp.row {L:List (List Nat)} {S:List (Nat→Bool)} (h:Stp ls mode L S) {k:Nat} {t:List Nat} (ht:L[k+1]?=some t):rowD S k=ndS ls t:=by
 unfold rowD
 rw [h.eq,List.getD_eq_getElem?_getD,List.getElem?_map,List.getElem?_drop,Nat.add_comm,ht]
 rfl
theorem Stp.lead (h:Lin ls q) (hn:NetL ls ns) {ss:List St} {S:List (Nat→Bool)} (hs:Stp ls mode (plsS ss) S) (k:Nat) (hk:k+1<ss.length) (ready:List Nat) (hr:GdS ls mode ready) (he:∀t,(plsS ss)[k+1]?=some t→∀c,stepN ns (fiG ls mode ls.length) (foG ls mode ls.length) (ndS ls t) (decide (k=0)) c=ndS ls (taking q.2 ready c)) :
  Stp ls mode (plsS (leadS q.2 ready (k+1) ss 256)) (leadD ns (fiG ls mode ls.length) (foG ls mode ls.length) S k (repsN ns 256)):=by
 obtain⟨t,ht⟩:∃t,(plsS ss)[k+1]?=some t:=⟨_,List.getElem?_eq_getElem (by rw [plsS_length];exact hk)⟩
 rw [plsS_lead,fold_reps (ns:=ns) (fun b=>taking q.2 ready b) (fun c d e=>same_taking h hn hr e)]
 unfold leadD
 rw [hs.row ht,hn.len]
 simp only [he t ht]
 exact hs.fold (fun c=>taking q.2 ready c) (fun c=>hr.taking _ c) _
theorem find_step (h:Lin ls q) (hn:NetL ls ns):∀(f k:Nat) (ss:List St) (S:List (Nat→Bool)),Stp ls mode (plsS ss) S→Stp ls mode (plsS (findGo q.2 f (k+2) ss)) (machGo ns (fiG ls mode ls.length) (foG ls mode ls.length) f (k+1) S):=by
 intro f
 induction f with
 | zero=>intro k ss S hs;exact hs
 | succ f ih=>
  intro k ss S hs
  have hl:ss.length=S.length+1:=by
   obtain⟨T,hT⟩:=hs.hd;rw [←plsS_length,hs.eq,hT];simp
  unfold findGo machGo;by_cases c:k+2<ss.length∧ss.length≤42
  ·rw [if_pos c,if_pos (by omega)]
   have hp:plS ss (k+2)∈plsS ss∧(plsS ss)[k+2]?=some (plS ss (k+2)):=by
    have:ss[k+2]?=some (ss[k+2]'c.1):=List.getElem?_eq_getElem c.1
    have e:(plsS ss)[k+2]?=some (plS ss (k+2)):=by
     unfold plsS plS;rw [List.getElem?_map,this];rfl
    exact⟨List.mem_of_getElem? e,e⟩
   have gd:=hs.gd _ hp.1;refine ih (k+1) _ _ (Stp.lead h hn hs (k+1) c.1 _ (gd_behind h gd) (fun t ht c=>?_));rw [hp.2] at ht;cases ht;rw [show decide (k+1=0)=false by simp];exact step_on h hn gd.2 _ c
  ·rw [if_neg c,if_neg (by omega)]
   exact hs
def machS (ls:List Ln) (ns:List Nd) (mode:Int):List (Nat→Bool):=machGo ns (fiG ls mode ls.length) (foG ls mode ls.length) 44 0 [fun _=>false]
theorem stp_zero:Stp ls mode (plsS st0) [fun _=>false]:=by
 refine⟨⟨[],rfl⟩,fun t ht=>?_,rfl⟩
 have:t=[]:=by simpa [plsS,st0] using ht
 subst this
 exact .nil
theorem find_mach (h:Lin ls q) (hn:NetL ls ns):Stp ls mode (plsS (findS q.1 q.2 mode)) (machS ls ns mode):=by
 unfold findS machS machGo
 rw [if_pos (by simp)]
 refine find_step h hn 43 0 _ _ (Stp.lead h hn stp_zero 0 (by simp [st0]) _ (gd_begin h) (fun t ht c=>?_))
 exact step_begin h hn _ _ c
theorem find_len (h:Lin ls q) (hn:NetL ls ns):(findS q.1 q.2 mode).length=(machS ls ns mode).length+1:=by
 have hs:=find_mach (mode:=mode) h hn
 obtain⟨T,hT⟩:=hs.hd
 rw [←plsS_length,hs.eq,hT]
 simp
end
end Pure
namespace Pure
structure AD (ls:List Ln) (D:DR):Prop where
 net:NetL ls D.ns
 n:D.ls.length=ls.length
 get:∀(k:Nat) (x:Ln),ls[k]?=some x→D.ls[k]?=some (⟨x.mode,x.emit,x.act,x.md,((nbase (ls.take k)+x.re.size-1:Nat):Int)⟩:DLn)
 modes:(ls=[]∧D.modes=0)∨D.modes=nModes (allLn ls).1
 down:(D.down=-1∧NoL dnL ls)∨∃i:Nat,D.down=i∧FirstL dnL ls i
theorem allLn_snoc (ls:List Ln) (x:Ln):allLn (ls++[x])=addLn (allLn ls) x:=by simp [allLn]
theorem AD.add {ls:List Ln} {D:DR} (h:AD ls D) (x:Ln) (hx:LnB x):AD (ls++[x]) (addD D x):=by
 have tk1:∀{k:Nat},k≤ls.length→(ls++[x]).take k=ls.take k:=fun hk=>List.take_append_of_le_length hk
 have bk:nbase ((ls++[x]).take ls.length)=nbase ls:=by rw [tk1 lr_,List.take_length]
 refine⟨⟨fun i y hi=>?_,?_⟩,by simp [addD,h.n],fun k y hk=>?_,?_,?_⟩
 ·rcases snoc_get hi with ⟨hl,hi'⟩ | ⟨rfl,rfl⟩
  ·rw [tk1 (by omega)]
   intro j z hz;have:=h.net.at' i y hi' j z hz;show (D.ns++_)[_]?=_;rw [List.getElem?_append_left (get_lt this)];exact this
  ·rw [bk]
   intro j z hz;show (D.ns++nodes y.re D.ns.length)[_]?=_;rw [h.net.len,List.getElem?_append_right (by rw [h.net.len];omega),h.net.len,show nbase ls+j-nbase ls=j by omega];exact hz
 ·show (D.ns++nodes x.re D.ns.length).length=_
  rw [List.length_append,nodes_length,h.net.len,nbase_append];simp [nbase]
 ·rcases snoc_get hk with ⟨hl,hk'⟩ | ⟨rfl,rfl⟩
  ·rw [tk1 (by omega)]
   have:=h.get k y hk';show (D.ls++_)[_]?=_;rw [List.getElem?_append_left (get_lt this)];exact this
  ·rw [bk]
   show (D.ls++_)[_]?=_;rw [List.getElem?_append_right (by rw [h.n];exact lr_),h.n,Nat.sub_self,←h.net.len];rfl
 ·refine .inr ?_
  rw [allLn_snoc];show dmod D.modes x=_
  have e:nModes (addLn (allLn ls) x).1=hi1 ((allLn ls).1.foldl hi1 0) (x.lp (part x.re (allLn ls).2).1)+1:=by
   unfold nModes addLn;rw [List.foldl_append];rfl
  rw [e]
  have key:∀m:Int,∀y:Lp,y.mode=x.mode→y.md=x.md→D.modes=0∧m=0∨D.modes=m+1→dmod D.modes x=hi1 m y+1:=by
   intro m y e1 e2 hm;unfold LnB at hx;unfold dmod dm1 hi1;rw [e1,e2];rcases hm with ⟨h1,h2⟩ | h1
   ·rw [h1,h2]
    split <;> split <;> split <;> (try split) <;> (try split) <;> omega
   ·rw [h1]
    split <;> split <;> split <;> (try split) <;> (try split) <;> omega
  refine key _ _ rfl rfl ?_
  rcases h.modes with ⟨h1,h2⟩ | h2
  ·subst h1
   exact .inl ⟨h2,rfl⟩
  ·exact .inr h2
 ·show (upd _ _ _=_∧_)∨∃i,upd _ _ _=_∧_
  rw [h.n];rcases h.down with ⟨h1,h2⟩ | ⟨i,h1,h2⟩
  ·cases e:x.down with
   | false=>
    refine .inl ⟨by rw [upd_false];exact h1,fun y hy=>?_⟩;rcases List.mem_append.1 hy with k | k
    ·exact h2 y k
    ·simp at k
     subst k;exact e
   | true=>
    refine .inr ⟨ls.length,by unfold upd;rw [if_pos ⟨rfl,by rw [h1];decide⟩],⟨x,by simp,e⟩,fun j y hj hy=>?_⟩;rw [List.getElem?_append_left hj] at hy;exact h2 y (List.mem_of_getElem? hy)
  ·obtain⟨⟨y,hy,hd⟩,hf⟩:=h2
   have il:=get_lt hy;refine .inr ⟨i,by unfold upd;rw [if_neg (by rw [h1];omega)];exact h1,⟨y,by rw [List.getElem?_append_left il];exact hy,hd⟩,fun j z hj hz=>?_⟩;rw [List.getElem?_append_left (by omega)] at hz;exact hf j z hj hz
theorem ad_nil:AD [] (⟨[],[],0,-1⟩:DR):=⟨⟨fun i x h=>by simp at h,rfl⟩,rfl,fun k x h=>by simp at h,.inl ⟨rfl,rfl⟩,.inl ⟨rfl,fun x h=>by simp at h⟩⟩
theorem ad_fold (r:List Ln):∀(ls:List Ln) (D:DR),(∀x∈r,LnB x)→AD ls D→AD (ls++r) (r.foldl addD D):=by
 induction r with
 | nil=>intro ls D _ h;simpa using h
 | cons x r ih=>
  intro ls D hr h;have:=ih _ _ (fun y hy=>hr y (List.mem_cons_of_mem _ hy)) (h.add x (hr x (List.mem_cons_self ..)));simpa using this
theorem allD_ad (ls:List Ln) (h:∀x∈ls,LnB x):AD ls (allD ls):=by simpa [allD] using ad_fold ls [] _ h ad_nil
end Pure
end Go.Proofs.YtmccnmgaoppogaaGreat
