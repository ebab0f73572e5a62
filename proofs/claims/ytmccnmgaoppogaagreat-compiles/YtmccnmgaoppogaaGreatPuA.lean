/-
 Plain mathematics: programs as lists of numbers; when there is no way round without a Next; what two ways of finding that come to. Nothing of the program's translation is imported.
 Plain mathematics: the followers of an instruction, as the program tells them.
 Plain mathematics: how often each instruction follows one, counted step by step.
 Plain mathematics: taking away what nothing leads to, step by step.
 Plain mathematics: what ends is told, step by step.
 Plain mathematics: the bytes of an image.
-/
namespace Go.Proofs.YtmccnmgaoppogaaGreat
theorem lr_ {n:Nat}:n≤n:=Nat.le_refl n
theorem dl_ (a b:Int) (h:a<b):decide (a<b)=true:=decide_eq_true h
theorem df_ (a b:Int) (h:¬a<b):decide (a<b)=false:=decide_eq_false h
theorem nz_ (k:Nat):(0:Int)≤(k:Int):=by omega
theorem gx_ {α:Type} (l:List α) (i:Nat) (h:i<l.length):∃x,l[i]?=some x:=⟨_,List.getElem?_eq_getElem h⟩
theorem tk_:(∀{α:Type} (l:List α) (i:Nat) (h:i<l.toArray.size),l.toArray[i]=l[i]'(by simpa using h))∧(∀{α:Type} (a:α) (as:List α) (i:Nat) (h:i+1<(a::as).length),(a::as)[i+1]=as[i]'(Nat.lt_of_succ_lt_succ h))∧(∀{α:Type} (a:α) (as:List α) (h:0<(a::as).length),(a::as)[0]=a)∧(∀{α:Type} (l:List α) (i:Nat) (a:α),l.toArray.setIfInBounds i a=(l.set i a).toArray)∧(∀{α:Type} (b:α) (as:List α) (a:α),(b::as).set 0 a=a::as)∧(∀{α:Type} (b:α) (as:List α) (n:Nat) (a:α),(b::as).set (n+1) a=b::as.set n a):=⟨fun _ _ _=>List.getElem_toArray _,fun _ _ _ _=>rfl,fun _ _ _=>rfl,fun _ _ _=>List.setIfInBounds_toArray ..,fun _ _ _=>rfl,fun _ _ _ _=>rfl⟩
namespace Pure
structure Ins where
 op:Int
 a:Int
 b:Int
 to:Int
structure Rule where
 emit:Int
 act:Int
 mode:Int
structure Prg where
 ents:List Int
 rules:List Rule
 code:List Ins
def i0:Ins:=⟨0,0,0,0⟩
def r0:Rule:=⟨0,0,0⟩
def fst (x:Ins) (i:Nat):List Nat:=if x.op=1∨x.op=3 then [i+1] else []
def snd (x:Ins):List Nat:=if x.op=3∨x.op=4 then [x.to.toNat] else []
def succ (l:List Ins) (i:Nat):List Nat:=fst (l.getD i i0) i++snd (l.getD i i0)
def NoWay (l:List Ins):Prop:=∃rank:Nat→Nat,∀i,i<l.length→∀j,j∈succ l i→rank j<rank i
def Tight (l:List Ins):Prop:=∀i,i<l.length→
 (((l.getD i i0).op=1∨(l.getD i i0).op=3)→i+1<l.length)∧
 (((l.getD i i0).op=3∨(l.getD i i0).op=4)→0≤(l.getD i i0).to∧(l.getD i i0).to<l.length)
theorem Tight.lt {l:List Ins} (h:Tight l) {i j:Nat} (hi:i<l.length) (hj:j∈succ l i):j<l.length:=by
 have:=h i hi
 unfold succ fst snd at hj
 rw [List.mem_append] at hj
 rcases hj with hj | hj
 ·split at hj
  ·rename_i h1;simp at hj;have:=this.1 h1;omega
  ·simp at hj
 ·split at hj
  ·rename_i h1;rw [List.mem_singleton] at hj;have:=this.2 h1;omega
  ·simp at hj
def endsB (l:List Ins) (e:List Bool) (i:Nat):Bool:=(succ l i).all (fun j=>e.getD j false)
def Sound (l:List Ins) (e:List Bool):Prop:=∃rank:Nat→Nat,∀i,i<l.length→e.getD i false=true→
 ∀j,j∈succ l i→e.getD j false=true∧rank j<rank i
theorem getD_set {α:Type} (l:List α) (i k:Nat) (v d:α) (hi:i<l.length):(l.set i v).getD k d=if k=i then v else l.getD k d:=by
 simp only [List.getD_eq_getElem?_getD,List.getElem?_set]
 by_cases h:i=k
 ·subst h;simp [hi]
 ·rw [if_neg h,if_neg (fun e=>h e.symm)]
theorem sound_none (l:List Ins) (n:Nat):Sound l (List.replicate n false):=by
 refine⟨fun _=>0,fun i _ h=>?_⟩
 exfalso
 simp only [List.getD_eq_getElem?_getD,List.getElem?_replicate] at h
 split at h <;> simp at h
def sumR (rank:Nat→Nat):List Nat→Nat
 | []=>0
 | j::r=>rank j+sumR rank r
theorem le_sumR (rank:Nat→Nat):∀(s:List Nat) (j:Nat),j∈s→rank j≤sumR rank s
 | x::r,j,h=>by
  rcases List.mem_cons.1 h with h | h
  ·subst h;simp [sumR]
  ·have:=le_sumR rank r j h;simp [sumR];omega
theorem sound_set {l:List Ins} {e:List Bool} (h:Sound l e) {i:Nat} (hi:i<e.length) (hf:e.getD i false=false) (hb:endsB l e i=true):Sound l (e.set i true):=by
 obtain⟨rank,hr⟩:=h
 refine⟨fun x=>if x=i then 1+sumR rank (succ l i) else rank x,fun k hk hek j hj=>?_⟩
 rw [getD_set _ _ _ _ _ hi] at hek
 rw [getD_set _ _ _ _ _ hi]
 by_cases hki:k=i
 ·subst hki
  have hj':e.getD j false=true:=by
   unfold endsB at hb;exact (List.all_eq_true.1 hb) j hj
  have hji:j≠k:=by intro x;subst x;rw [hf] at hj';cases hj'
  have:=le_sumR rank _ j hj;simp only [if_neg hji,if_pos];exact⟨hj',by omega⟩
 ·rw [if_neg hki] at hek
  have:=hr k hk hek j hj;have hji:j≠i:=by intro x;subst x;rw [hf] at this;cases this.1
  simp only [if_neg hji,if_neg hki];exact this
theorem count_set {e:List Bool}:∀{i:Nat},i<e.length→e.getD i false=false→(e.set i true).count false+1=e.count false:=by
 induction e with
 | nil=>intro i hi _;simp at hi
 | cons x r ih=>
  intro i hi hf
  cases i with
  | zero=>simp at hf;subst hf;simp
  | succ i=>
   simp only [List.length_cons] at hi;have:=ih (i:=i) (by omega) (by simpa using hf);simp only [List.set_cons_succ,List.count_cons];omega
theorem count_zero {e:List Bool} (h:e.count false=0) {i:Nat} (hi:i<e.length):e.getD i false=true:=by
 cases hb:e.getD i false with
 | true=>rfl
 | false=>
  have:=count_set hi hb;omega
theorem sound_done {l:List Ins} {e:List Bool} (hl:e.length=l.length) (h:Sound l e) (hc:e.count false=0):NoWay l:=by
 obtain⟨rank,hr⟩:=h
 exact⟨rank,fun i hi j hj=>(hr i hi (count_zero hc (by omega)) j hj).2⟩
theorem count_pos {e:List Bool}:e.count false≠0→∃i,i<e.length∧e.getD i false=false:=by
 induction e with
 | nil=>intro h;simp at h
 | cons x r ih=>
  intro h
  cases x with
  | false=>exact⟨0,by simp,by simp⟩
  | true=>
   simp at h;have:r.count false≠0:=by simpa using h
   obtain⟨i,hi,hb⟩:=ih this;exact⟨i+1,by simp;omega,by simpa using hb⟩
theorem stuck {l:List Ins} {e:List Bool} (ht:Tight l) (hl:e.length=l.length) (h:∀i,i<l.length→e.getD i false=true∨endsB l e i=false) (hn:NoWay l):e.count false=0:=by
 obtain⟨rank,hr⟩:=hn
 have key:∀m i,i<l.length→rank i≤m→e.getD i false=true:=by
  intro m
  induction m with
  | zero=>
   intro i hi hm;rcases h i hi with h1 | h1
   ·exact h1
   ·unfold endsB at h1
    obtain⟨j,hj,_⟩:=List.all_eq_false.1 h1;have:=hr i hi j hj;omega
  | succ m ih=>
   intro i hi hm;rcases h i hi with h1 | h1
   ·exact h1
   ·unfold endsB at h1
    obtain⟨j,hj,hjf⟩:=List.all_eq_false.1 h1;have h2:=hr i hi j hj;have h3:=ih j (ht.lt hi hj) (by omega);exact absurd h3 hjf
 apply Classical.byContradiction
 intro hc
 obtain⟨i,hi,hb⟩:=count_pos hc
 have:=key (rank i) i (by omega) lr_
 rw [hb] at this
 cases this
theorem nodup_len:∀(n:Nat) (q:List Nat),q.Nodup→(∀v,v∈q→v<n)→q.length≤n
 | 0,q,_,h=>by
  cases q with
  | nil=>simp
  | cons x r=>have:=h x (by simp);omega
 | n+1,q,hd,h=>by
  by_cases hm:n∈q
  ·have:=nodup_len n (q.erase n) (hd.erase n) (fun v hv=>by
    have h1:=h v (List.mem_of_mem_erase hv)
    have h2:v≠n:=by
     intro e;subst e;exact (List.Nodup.not_mem_erase hd) hv
    omega)
   rw [List.length_erase_of_mem hm] at this;omega
  ·have:=nodup_len n q hd (fun v hv=>by
    have h1:=h v hv;have h2:v≠n:=by intro e;subst e;exact hm hv
    omega)
   omega
theorem all_len:∀(n:Nat) (q:List Nat),(∀v,v<n→v∈q)→n≤q.length
 | 0,_,_=>Nat.zero_le _
 | n+1,q,h=>by
  have hm:=h n (by omega);have:=all_len n (q.erase n) (fun v hv=>(List.mem_erase_of_ne (by omega)).2 (h v (by omega)));rw [List.length_erase_of_mem hm] at this;have:0<q.length:=List.length_pos_of_mem hm;omega
def tg (l:List Ins) (us:List Nat):List Nat:=us.flatMap (succ l)
def nt (n:Nat) (T:List Nat):List Nat:=(List.range n).filter (fun u=>!T.contains u)
theorem mem_nt {n:Nat} {T:List Nat} {u:Nat}:u∈nt n T↔u<n∧u∉T:=by
 unfold nt;simp [List.mem_filter]
theorem nodup_range (n:Nat):(List.range n).Nodup:=List.nodup_range
theorem nt_nil (n:Nat):nt n []=List.range n:=by
 unfold nt;simp
theorem count_tg_cons (l:List Ins) (u:Nat) (us:List Nat) (v:Nat):(tg l (u::us)).count v=(succ l u).count v+(tg l us).count v:=by
 unfold tg;rw [List.flatMap_cons,List.count_append]
theorem count_tg_append (l:List Ins) (us vs:List Nat) (v:Nat):(tg l (us++vs)).count v=(tg l us).count v+(tg l vs).count v:=by
 unfold tg;rw [List.flatMap_append,List.count_append]
theorem count_tg_erase (l:List Ins) (v:Nat) (a:Nat):∀(us:List Nat),us.Nodup→a∈us→(tg l us).count v=(succ l a).count v+(tg l (us.filter (fun u=>u != a))).count v
 | u::r,hd,hm=>by
  have hd':=List.nodup_cons.1 hd;by_cases h:u=a
  ·subst h
   have:(u::r).filter (fun x=>x != u)=r:=by
    rw [List.filter_cons];simp;intro x hx hxu;subst hxu;exact hd'.1 hx
   rw [this,count_tg_cons]
  ·have hm':a∈r:=by
    rcases List.mem_cons.1 hm with e | e
    ·exact absurd e.symm h
    ·exact e
   have ih:=count_tg_erase l v a r hd'.2 hm'
   have:(u::r).filter (fun x=>x != a)=u::r.filter (fun x=>x != a):=by
    rw [List.filter_cons];simp [h]
   rw [this,count_tg_cons,count_tg_cons,ih];omega
theorem nt_snoc (n:Nat) (T:List Nat) (a:Nat):nt n (T++[a])=(nt n T).filter (fun u=>u != a):=by
 unfold nt
 rw [List.filter_filter]
 apply List.filter_congr
 intro u _
 simp only [List.contains_eq_mem,List.mem_append,List.mem_singleton]
 by_cases h1:u∈T <;> by_cases h2:u=a <;> simp [h1,h2]
theorem nt_nodup (n:Nat) (T:List Nat):(nt n T).Nodup:=(nodup_range n).filter _
structure Inv (l:List Ins) (L:List Int) (q T rest:List Nat):Prop where
 len:L.length=l.length
 nd:q.Nodup
 lt:∀v,v∈q→v<l.length
 pre:∃s,q=T++s
 cnt:∀v,v<l.length→L.getD v 0=((rest++tg l (nt l.length T)).count v:Nat)
 mem:∀v,v<l.length→(v∈q↔(rest++tg l (nt l.length T)).count v=0)
 ord:∀a v b,q=a++v::b→∀i,i<l.length→v∈succ l i→i∈a
theorem Inv.take {l:List Ins} {L:List Int} {T s:List Nat} {a:Nat} (h:Inv l L (T++a::s) T []):Inv l L (T++a::s) (T++[a]) (succ l a):=by
 have ha:a<l.length:=h.lt a (by simp)
 have hT:a∉T:=by
  have:=h.nd;rw [List.nodup_append] at this;intro hm;exact this.2.2 a hm a (by simp) rfl
 have key:∀v,(succ l a++tg l (nt l.length (T++[a]))).count v=(([]:List Nat)++tg l (nt l.length T)).count v:=by
  intro v;rw [List.nil_append,List.count_append,nt_snoc,count_tg_erase l v a (nt l.length T) (nt_nodup _ _) (mem_nt.2 ⟨ha,hT⟩)]
 refine⟨h.len,h.nd,h.lt,⟨s,by simp⟩,fun v hv=>?_,fun v hv=>?_,h.ord⟩
 ·rw [key];exact h.cnt v hv
 ·rw [key];exact h.mem v hv
theorem Inv.step {l:List Ins} {L:List Int} {q T rest:List Nat} {v:Nat} (h:Inv l L q T (v::rest)) (hv:v<l.length) (L':List Int) (hL:L'=L.set v (L.getD v 0-1)) :
  (L'.getD v 0=0→Inv l L' (q++[v]) T rest)∧(L'.getD v 0≠0→Inv l L' q T rest)∧L.getD v 0=((rest++tg l (nt l.length T)).count v:Nat)+1:=by
 subst hL
 have hl:v<L.length:=by rw [h.len];exact hv
 have c0:∀x,((v::rest)++tg l (nt l.length T)).count x=(rest++tg l (nt l.length T)).count x+if v=x then 1 else 0:=by
  intro x;rw [List.cons_append,List.count_cons];simp
 have cv:=h.cnt v hv
 rw [c0 v,if_pos rfl] at cv
 have hc:∀x,x<l.length→(L.set v (L.getD v 0-1)).getD x 0=((rest++tg l (nt l.length T)).count x:Nat):=by
  intro x hx;rw [getD_set _ _ _ _ _ hl];by_cases e:x=v
  ·subst e;rw [if_pos rfl,cv];omega
  ·rw [if_neg e,h.cnt x hx,c0 x,if_neg (fun y=>e y.symm)];simp
 have hvq:v∉q:=by
  intro hm;have:=(h.mem v hv).1 hm;rw [c0 v,if_pos rfl] at this;omega
 have hlen:(L.set v (L.getD v 0-1)).length=l.length:=by rw [List.length_set];exact h.len
 refine⟨fun hz=>?_,fun hz=>?_,by rw [cv];omega⟩
 ·rw [hc v hv] at hz
  have hz':(rest++tg l (nt l.length T)).count v=0:=by omega
  obtain⟨s,hs⟩:=h.pre;refine⟨hlen,?_,?_,⟨s++[v],by rw [hs];simp⟩,hc,?_,?_⟩
  ·rw [List.nodup_append]
   refine⟨h.nd,by simp,?_⟩;intro a ha b hb;simp at hb;subst hb;intro e;subst e;exact hvq ha
  ·intro x hx
   rcases List.mem_append.1 hx with hx | hx
   ·exact h.lt x hx
   ·simp at hx;omega
  ·intro x hx
   by_cases e:x=v
   ·subst e;simp [hz']
   ·have:=h.mem x hx
    rw [c0 x,if_neg (fun y=>e y.symm)] at this;rw [←Nat.add_zero ((rest++tg l (nt l.length T)).count x),←this];simp [e]
  ·intro a x b hq i hi hxi
   rcases List.eq_nil_or_concat b with hb | ⟨b',y,hb⟩
   ·subst hb
    have h1:q=a∧v=x:=by
     have:=List.append_inj' hq (by simp);exact⟨this.1,by simpa using this.2⟩
    obtain⟨rfl,rfl⟩:=h1;rw [hs];apply Classical.byContradiction;intro hni;have hiT:i∉T:=fun hm=>hni (List.mem_append_left _ hm)
    have:v∈rest++tg l (nt l.length T):=by
     apply List.mem_append_right;unfold tg;exact List.mem_flatMap.2 ⟨i,mem_nt.2 ⟨hi,hiT⟩,hxi⟩
    exact absurd hz' (Nat.ne_of_gt (List.count_pos_iff.2 this))
   ·subst hb
    have h1:q=a++x::b':=by
     rw [List.concat_eq_append,←List.cons_append,←List.append_assoc] at hq;exact (List.append_inj' hq (by simp)).1
    exact h.ord a x b' h1 i hi hxi
 ·refine⟨hlen,h.nd,h.lt,h.pre,hc,?_,h.ord⟩
  intro x hx;by_cases e:x=v
  ·subst e
   constructor
   ·intro hm;exact absurd hm hvq
   ·intro h0;exact absurd (by rw [hc x hx,h0];rfl) hz
  ·have:=h.mem x hx
   rw [c0 x,if_neg (fun y=>e y.symm)] at this;rw [this];omega
theorem Inv.len_le {l:List Ins} {L:List Int} {q T rest:List Nat} (h:Inv l L q T rest):q.length≤l.length:=nodup_len _ q h.nd h.lt
theorem idx_lt (q a b:List Nat) (v i:Nat) (hq:q=a++v::b) (hn:q.Nodup) (hi:i∈a):q.idxOf i<q.idxOf v:=by
 subst hq
 rw [List.nodup_append] at hn
 have hva:v∉a:=fun hm=>hn.2.2 v hm v (by simp) rfl
 rw [List.idxOf_append,if_pos hi,List.idxOf_append,if_neg hva]
 have:=List.idxOf_lt_length_of_mem hi
 omega
theorem Inv.done {l:List Ins} {L:List Int} {q:List Nat} (ht:Tight l) (h:Inv l L q q []):(q.length<l.length↔¬NoWay l):=by
 constructor
 ·intro hlt hn
  obtain⟨rank,hr⟩:=hn
  obtain⟨u,hu,huq⟩:∃u,u<l.length∧u∉q:=by
   apply Classical.byContradiction;intro hno
   have:=all_len l.length q (fun v hv=>by
    apply Classical.byContradiction;intro hv'
    exact hno ⟨v,hv,hv'⟩)
   omega
  have bound:∀x,x<l.length→rank x≤sumR rank (List.range l.length):=fun x hx=>le_sumR rank _ x (List.mem_range.2 hx)
  have key:∀m x,x<l.length→x∉q→rank x+m=sumR rank (List.range l.length)→False:=by
   intro m
   induction m using Nat.strongRecOn with
   | ind m ih=>
    intro x hx hxq hm
    have hc:(tg l (nt l.length q)).count x≠0:=by
     intro h0;exact hxq ((h.mem x hx).2 (by simpa using h0))
    have hmem:x∈tg l (nt l.length q):=List.count_pos_iff.1 (by omega);unfold tg at hmem;obtain⟨y,hy,hxy⟩:=List.mem_flatMap.1 hmem;have hy':=mem_nt.1 hy;have h1:=hr y hy'.1 x hxy;have h2:=bound y hy'.1;exact ih (sumR rank (List.range l.length)-rank y) (by omega) y hy'.1 hy'.2 (by omega)
  exact key (sumR rank (List.range l.length)-rank u) u hu huq (by have:=bound u hu;omega)
 ·intro hn
  apply Classical.byContradiction;intro hge;apply hn
  have hall:∀v,v<l.length→v∈q:=by
   intro v hv;apply Classical.byContradiction;intro hm
   have:=nodup_len l.length (v::q) (List.nodup_cons.2 ⟨hm,h.nd⟩) (fun x hx=>by
    rcases List.mem_cons.1 hx with e | e
    ·omega
    ·exact h.lt x e)
   simp at this;omega
  refine⟨fun x=>l.length-q.idxOf x,fun i hi j hj=>?_⟩;have hj':j<l.length:=ht.lt hi hj;obtain⟨a,b,hq⟩:=List.append_of_mem (hall j hj');have hia:=h.ord a j b hq i hi hj;have h1:=idx_lt q a b j i hq h.nd hia;have h2:=List.idxOf_lt_length_of_mem (hall j hj');have h3:=h.len_le;show l.length-q.idxOf j<l.length-q.idxOf i;omega
theorem Inv.start {l:List Ins} {L:List Int} {q:List Nat} (hl:L.length=l.length) (hc:∀v,v<l.length→L.getD v 0=((tg l (List.range l.length)).count v:Nat))
  (hq:q=(List.range l.length).filter (fun v=>L.getD v 0 == 0)):Inv l L q [] []:=by
 subst hq
 refine⟨hl,(nodup_range _).filter _,fun v hv=>?_,⟨_,rfl⟩,fun v hv=>?_,fun v hv=>?_,?_⟩
 ·exact List.mem_range.1 (List.mem_filter.1 hv).1
 ·rw [List.nil_append,nt_nil];exact hc v hv
 ·rw [List.nil_append,nt_nil,List.mem_filter,List.mem_range,beq_iff_eq,hc v hv]
  constructor
  ·intro h;omega
  ·intro h;exact⟨hv,by omega⟩
 ·intro a v b hab i hi hvi
  exfalso;have hv:v∈(List.range l.length).filter (fun v=>L.getD v 0 == 0):=by rw [hab];simp
  obtain⟨h1,h2⟩:=List.mem_filter.1 hv;rw [beq_iff_eq,hc v (List.mem_range.1 h1)] at h2;have:v∈tg l (List.range l.length):=List.mem_flatMap.2 ⟨i,List.mem_range.2 hi,hvi⟩;have:=List.count_pos_iff.2 this;omega
def RuleOK (m:Nat) (r:Rule):Prop:=(r.emit=0∨r.emit=1)∧(0≤r.act∧r.act≤3)∧(0≤r.mode∧r.mode<m)∧(r.act=1∨r.act=2∨r.mode=0)
def InsOK (k n:Nat) (x:Ins):Prop:=
 (x.op=1∧0≤x.a∧x.a<k∧x.b=0∧x.to=0)∨((x.op=2∨x.op=5)∧x.a=0∧x.b=0∧x.to=0)∨
 (x.op=3∧0≤x.a∧x.a≤x.b∧x.b≤255∧0≤x.to∧x.to<n)∨(x.op=4∧x.a=0∧x.b=0∧0≤x.to∧x.to<n)
def LastOK (l:List Ins):Prop:=(l.getD (l.length-1) i0).op=4∨(l.getD (l.length-1) i0).op=5
theorem tight_of {l:List Ins} {k:Nat} (h:∀i,i<l.length→InsOK k l.length (l.getD i i0)) (hl:LastOK l):Tight l:=by
 intro i hi
 have hx:=h i hi
 unfold LastOK at hl
 refine⟨fun ho=>?_,fun ho=>?_⟩
 ·by_cases e:i=l.length-1
  ·rw [←e] at hl;omega
  ·omega
 ·unfold InsOK at hx
  rcases hx with ⟨h1,_⟩ | ⟨h1,_⟩ | ⟨h1,_,_,_,h2⟩ | ⟨h1,_,_,h2⟩ <;> omega
end Pure
namespace Pure
def fa (x:Ins) (i:Int):Int:=if x.op=1∨x.op=3 then i+1 else -1
def fb (x:Ins):Int:=if x.op=3∨x.op=4 then x.to else -1
def bel (a b:Int):Bool:=decide (0≤a∧a<b)
theorem bel_true {a b:Int} (h:0≤a∧a<b):bel a b=true:=decide_eq_true h
theorem bel_false {a b:Int} (h:¬(0≤a∧a<b)):bel a b=false:=decide_eq_false h
theorem of_bel {a b:Int} (h:bel a b=true):0≤a∧a<b:=of_decide_eq_true h
theorem of_not_bel {a b:Int} (h:bel a b=false):¬(0≤a∧a<b):=of_decide_eq_false h
def ig (l:List Int) (i:Nat):Int:=l.getD i 0
def rg (l:List Rule) (i:Nat):Rule:=l.getD i r0
def cg (l:List Ins) (i:Nat):Ins:=l.getD i i0
def EntsOK (l:List Int) (n:Nat):Prop:=(1≤l.length∧l.length≤4)∧∀i,i<l.length→0≤ig l i∧ig l i<n
def RulesOK (l:List Rule) (m:Nat):Prop:=(1≤l.length∧l.length≤16)∧∀i,i<l.length→RuleOK m (rg l i)
def CodeOK (l:List Ins) (k:Nat):Prop:=(1≤l.length∧l.length≤50000)∧(∀i,i<l.length→InsOK k l.length (cg l i))∧((cg l (l.length-1)).op=4∨(cg l (l.length-1)).op=5)
def RightP (p:Prg):Prop:=EntsOK p.ents p.code.length∧RulesOK p.rules p.ents.length∧CodeOK p.code p.rules.length∧NoWay p.code
theorem CodeOK.tight {l:List Ins} {k:Nat} (h:CodeOK l k):Tight l:=tight_of (k:=k) h.2.1 h.2.2
theorem false_iff_of {P:Prop} (h:¬P):(false=true↔P):=⟨fun h'=>Bool.noConfusion h',fun h'=>absurd h' h⟩
theorem true_iff_of {P:Prop} (h:P):(true=true↔P):=⟨fun _=>h,fun _=>rfl⟩
theorem ents_short {l:List Int} {n:Nat} (h:¬(1≤l.length∧l.length≤4)):¬EntsOK l n:=fun h'=>h h'.1
theorem ents_bad {l:List Int} {n k:Nat} (hk:k<l.length) (h:¬(0≤ig l k∧ig l k<n)):¬EntsOK l n:=fun h'=>h (h'.2 k hk)
theorem rules_short {l:List Rule} {m:Nat} (h:¬(1≤l.length∧l.length≤16)):¬RulesOK l m:=fun h'=>h h'.1
theorem rules_bad {l:List Rule} {m k:Nat} (hk:k<l.length) (h:¬RuleOK m (rg l k)):¬RulesOK l m:=fun h'=>h (h'.2 k hk)
theorem code_short {l:List Ins} {k:Nat} (h:¬(1≤l.length∧l.length≤50000)):¬CodeOK l k:=fun h'=>h h'.1
theorem code_bad {l:List Ins} {k i:Nat} (hi:i<l.length) (h:¬InsOK k l.length (cg l i)):¬CodeOK l k:=fun h'=>h (h'.2.1 i hi)
theorem code_last {l:List Ins} {k:Nat} (h:¬((cg l (l.length-1)).op=4∨(cg l (l.length-1)).op=5)):¬CodeOK l k:=fun h'=>h h'.2.2
theorem upto_succ {P:Nat→Prop} {k:Nat} (h:∀j,j<k→P j) (hk:P k):∀j,j<k+1→P j:=fun j hj=>by
 by_cases e:j=k
 ·subst e;exact hk
 ·exact h j (by omega)
end Pure
namespace Pure
def Cnt (l:List Ins) (L:List Int) (us:List Nat):Prop:=L.length=l.length∧∀v,v<l.length→ig L v=((us.count v:Nat):Int)
theorem cnt_start (l:List Ins):Cnt l (List.replicate l.length 0) []:=by
 refine⟨by simp,fun v hv=>?_⟩
 unfold ig
 simp [List.getD_eq_getElem?_getD,hv]
theorem ig_set (L:List Int) (v:Nat) (y:Int) (k:Nat) (hv:v<L.length):ig (L.set v y) k=if k=v then y else ig L k:=getD_set L v k y 0 hv
theorem Cnt.step {l:List Ins} {L:List Int} {us:List Nat} (h:Cnt l L us) {v:Nat} (hv:v<l.length):Cnt l (L.set v (ig L v+1)) (us++[v]):=by
 refine⟨by simp [h.1],fun x hx=>?_⟩
 rw [ig_set _ _ _ _ (by rw [h.1];exact hv),List.count_append]
 by_cases e:x=v
 ·subst e;rw [if_pos rfl,h.2 x hx];simp
 ·rw [if_neg e,h.2 x hx]
  have:[v].count x=0:=by simp [List.count_cons];omega
  omega
theorem fst_len (x:Ins) (i:Nat):(fst x i).length≤1:=by unfold fst;split <;> simp
theorem snd_len (x:Ins):(snd x).length≤1:=by unfold snd;split <;> simp
theorem succ_len (l:List Ins) (i:Nat):(succ l i).length≤2:=by
 unfold succ;rw [List.length_append];have:=fst_len (l.getD i i0) i;have:=snd_len (l.getD i i0);omega
theorem tg_len (l:List Ins):∀us:List Nat,(tg l us).length≤2*us.length
 | []=>by simp [tg]
 | u::r=>by
  have:=tg_len l r;have h2:=succ_len l u;unfold tg at this ⊢;rw [List.flatMap_cons,List.length_append,List.length_cons];omega
theorem nt_len (n:Nat) (T:List Nat):(nt n T).length≤n:=by
 unfold nt;have:=List.length_filter_le (fun u=>!T.contains u) (List.range n);simp at this;simpa using this
theorem Cnt.bd {l:List Ins} {L:List Int} {us:List Nat} (h:Cnt l L us) {v:Nat} (hv:v<l.length):0≤ig L v∧ig L v≤us.length:=by
 rw [h.2 v hv]
 have:=List.count_le_length (a:=v) (l:=us)
 omega
theorem fst_yes {l:List Ins} (_ht:Tight l) {k:Nat} (_hk:k<l.length) (h:bel (fa (cg l k) k) l.length=true):fst (cg l k) k=[(fa (cg l k) k).toNat]:=by
 have:=of_bel h
 unfold fa at this h ⊢
 unfold fst
 split
 ·simp only [List.cons.injEq,and_true];omega
 ·rename_i h1;rw [if_neg h1] at this;omega
theorem fst_no {l:List Ins} (ht:Tight l) {k:Nat} (hk:k<l.length) (h:bel (fa (cg l k) k) l.length=false):fst (cg l k) k=[]:=by
 have h1:=of_not_bel h
 have h2:=(ht k hk).1
 unfold fst
 split
 ·rename_i h3
  have:=h2 h3;unfold fa at h1;rw [if_pos h3] at h1;omega
 ·rfl
theorem snd_yes {l:List Ins} {k:Nat} (h:bel (fb (cg l k)) l.length=true):snd (cg l k)=[(fb (cg l k)).toNat]:=by
 have:=of_bel h
 unfold fb at this h ⊢
 unfold snd
 split
 ·rfl
 ·rename_i h1;rw [if_neg h1] at this;omega
theorem snd_no {l:List Ins} (ht:Tight l) {k:Nat} (hk:k<l.length) (h:bel (fb (cg l k)) l.length=false):snd (cg l k)=[]:=by
 have h1:=of_not_bel h
 have h2:=(ht k hk).2
 unfold snd
 split
 ·rename_i h3
  have:=h2 h3;unfold fb at h1;rw [if_pos h3] at h1;exact absurd this h1
 ·rfl
theorem tg_range_succ (l:List Ins) (k:Nat):tg l (List.range (k+1))=(tg l (List.range k)++fst (cg l k) k)++snd (cg l k):=by
 unfold tg
 rw [List.range_succ,List.flatMap_append,List.append_assoc]
 simp [succ,cg]
theorem bel_nat {a:Int} {n:Nat} (h:bel a n=true):a.toNat<n∧0≤a:=by have:=of_bel h;omega
def partI (l:List Ins) (k:Nat):Nat→List Nat
 | 0=>tg l (List.range k)
 | 1=>tg l (List.range k)++fst (cg l k) k
 | _=>(tg l (List.range k)++fst (cg l k) k)++snd (cg l k)
theorem partI_len (l:List Ins) (k j:Nat):(partI l k j).length≤2*k+2:=by
 have h:=tg_len l (List.range k)
 have h1:=fst_len (cg l k) k
 have h2:=snd_len (cg l k)
 rw [List.length_range] at h
 match j with
 | 0=>show (tg l (List.range k)).length≤_;omega
 | 1=>show (tg l (List.range k)++fst (cg l k) k).length≤_;rw [List.length_append];omega
 | _+2=>show ((tg l (List.range k)++fst (cg l k) k)++snd (cg l k)).length≤_;rw [List.length_append,List.length_append];omega
theorem cnt_no0 {l:List Ins} {L:List Int} (ht:Tight l) {k:Nat} (hk:k<l.length) {a:Int} (ha:fa (cg l k) k=a) (h:Cnt l L (partI l k 0)) (hb:bel a l.length=false):Cnt l L (partI l k 1):=by
 subst ha
 show Cnt l L (tg l (List.range k)++fst (cg l k) k)
 rw [fst_no ht hk hb,List.append_nil];exact h
theorem cnt_yes0 {l:List Ins} {L:List Int} (ht:Tight l) {k:Nat} (hk:k<l.length) {a:Int} (ha:fa (cg l k) k=a) (h:Cnt l L (partI l k 0)) (hb:bel a l.length=true):Cnt l (L.set a.toNat (ig L a.toNat+1)) (partI l k 1):=by
 subst ha
 show Cnt l _ (tg l (List.range k)++fst (cg l k) k)
 rw [fst_yes ht hk hb];exact h.step (bel_nat hb).1
theorem cnt_no1 {l:List Ins} {L:List Int} (ht:Tight l) {k:Nat} (hk:k<l.length) {a:Int} (ha:fb (cg l k)=a) (h:Cnt l L (partI l k 1)) (hb:bel a l.length=false):Cnt l L (partI l k 2):=by
 subst ha
 show Cnt l L ((tg l (List.range k)++fst (cg l k) k)++snd (cg l k))
 rw [snd_no ht hk hb,List.append_nil];exact h
theorem cnt_yes1 {l:List Ins} {L:List Int} {k:Nat} {a:Int} (ha:fb (cg l k)=a) (h:Cnt l L (partI l k 1)) (hb:bel a l.length=true):Cnt l (L.set a.toNat (ig L a.toNat+1)) (partI l k 2):=by
 subst ha
 show Cnt l _ ((tg l (List.range k)++fst (cg l k) k)++snd (cg l k))
 rw [snd_yes hb];exact h.step (bel_nat hb).1
theorem partI_two (l:List Ins) (k:Nat):partI l k 2=tg l (List.range (k+1)):=(tg_range_succ l k).symm
end Pure
namespace Pure
def nats (q:List Nat):List Int:=q.map (fun v:Nat=>(v:Int))
theorem nats_len (q:List Nat):(nats q).length=q.length:=by simp [nats]
theorem nats_get (q:List Nat) (t:Nat):ig (nats q) t=((q.getD t 0:Nat):Int):=by
 unfold ig nats
 simp only [List.getD_eq_getElem?_getD,List.getElem?_map]
 cases q[t]? <;> simp
theorem nats_snoc (q:List Nat) (a:Int) (h:0≤a):nats (q++[a.toNat])=nats q++[a]:=by
 simp [nats];omega
def qg (q:List Nat) (t:Nat):Nat:=q.getD t 0
def rest (l:List Ins) (a:Nat):Nat→List Nat
 | 0=>fst (cg l a) a++snd (cg l a)
 | 1=>snd (cg l a)
 | _=>[]
theorem inv_begin {l:List Ins} {L:List Int} {q:List Nat} {t:Nat} (h:Inv l L q (q.take t) []) (ht:t<q.length):Inv l L q (q.take (t+1)) (rest l (qg q t) 0)∧qg q t<l.length:=by
 have e:q=q.take t++qg q t::q.drop (t+1):=by
  have h1:qg q t=q[t]:=by unfold qg;simp [List.getD_eq_getElem?_getD,ht]
  rw [h1,List.getElem_cons_drop,List.take_append_drop]
 have e2:q.take (t+1)=q.take t++[qg q t]:=by
  have h1:qg q t=q[t]:=by unfold qg;simp [List.getD_eq_getElem?_getD,ht]
  rw [h1,List.take_succ_eq_append_getElem ht]
 refine⟨?_,h.lt _ (by unfold qg;simp [List.getD_eq_getElem?_getD,ht])⟩
 have h':Inv l L (q.take t++qg q t::q.drop (t+1)) (q.take t) []:=by rw [←e];exact h
 have:=h'.take
 rw [←e,←e2] at this
 exact this
theorem inv_no0 {l:List Ins} {L:List Int} {q T:List Nat} (ht:Tight l) {k:Nat} (hk:k<l.length) {a:Int} (ha:fa (cg l k) k=a) (h:Inv l L q T (rest l k 0)) (hb:bel a l.length=false):Inv l L q T (rest l k 1):=by
 subst ha
 have:rest l k 0=rest l k 1:=by
  show fst (cg l k) k++snd (cg l k)=snd (cg l k);rw [fst_no ht hk hb,List.nil_append]
 rw [←this];exact h
theorem inv_no1 {l:List Ins} {L:List Int} {q T:List Nat} (ht:Tight l) {k:Nat} (hk:k<l.length) {a:Int} (ha:fb (cg l k)=a) (h:Inv l L q T (rest l k 1)) (hb:bel a l.length=false):Inv l L q T (rest l k 2):=by
 subst ha
 have:rest l k 1=rest l k 2:=by
  show snd (cg l k)=[];exact snd_no ht hk hb
 rw [←this];exact h
theorem inv_bd {l:List Ins} {L:List Int} {q T:List Nat} {k j:Nat} (h:Inv l L q T (rest l k j)) {v:Nat} (hv:v<l.length):0≤ig L v∧ig L v≤2*l.length+2:=by
 have h1:=h.cnt v hv
 have h2:=List.count_le_length (a:=v) (l:=rest l k j++tg l (nt l.length T))
 have h3:=tg_len l (nt l.length T)
 have h4:=nt_len l.length T
 have h5:(rest l k j).length≤2:=by
  have a1:=fst_len (cg l k) k;have a2:=snd_len (cg l k)
  match j with
  | 0=>show (fst (cg l k) k++snd (cg l k)).length≤2;rw [List.length_append];omega
  | 1=>show (snd (cg l k)).length≤2;omega
  | _+2=>show ([]:List Nat).length≤2;simp
 rw [List.length_append] at h2
 unfold ig
 omega
theorem ig_set_same (L:List Int) (v:Nat) (y:Int) (h:v<L.length):ig (L.set v y) v=y:=by rw [ig_set _ _ _ _ h,if_pos rfl]
theorem inv_yes0 {l:List Ins} {L:List Int} {q T:List Nat} (ht:Tight l) {k:Nat} (hk:k<l.length) {a:Int} (ha:fa (cg l k) k=a) (h:Inv l L q T (rest l k 0)) (hb:bel a l.length=true) :
  ((ig L a.toNat-1 == 0)=true→Inv l (L.set a.toNat (ig L a.toNat-1)) (q++[a.toNat]) T (rest l k 1))∧((ig L a.toNat-1 == 0)=false→Inv l (L.set a.toNat (ig L a.toNat-1)) q T (rest l k 1)):=by
 subst ha
 have e:rest l k 0=(fa (cg l k) k).toNat::rest l k 1:=by
  show fst (cg l k) k++snd (cg l k)=_;rw [fst_yes ht hk hb];rfl
 rw [e] at h
 have hv:=(bel_nat hb).1
 have:=h.step hv _ rfl
 have g:((L.set (fa (cg l k) k).toNat (L.getD (fa (cg l k) k).toNat 0-1)).getD (fa (cg l k) k).toNat 0)=ig L (fa (cg l k) k).toNat-1:=ig_set_same L _ _ (by rw [h.len];exact hv)
 rw [g] at this
 exact⟨fun hz=>this.1 (by simpa using hz),fun hz=>this.2.1 (by simpa using hz)⟩
theorem inv_yes1 {l:List Ins} {L:List Int} {q T:List Nat} {k:Nat} {a:Int} (ha:fb (cg l k)=a) (h:Inv l L q T (rest l k 1)) (hb:bel a l.length=true) :
  ((ig L a.toNat-1 == 0)=true→Inv l (L.set a.toNat (ig L a.toNat-1)) (q++[a.toNat]) T (rest l k 2))∧((ig L a.toNat-1 == 0)=false→Inv l (L.set a.toNat (ig L a.toNat-1)) q T (rest l k 2)):=by
 subst ha
 have e:rest l k 1=(fb (cg l k)).toNat::rest l k 2:=by
  show snd (cg l k)=_;rw [snd_yes hb];rfl
 rw [e] at h
 have hv:=(bel_nat hb).1
 have:=h.step hv _ rfl
 have g:((L.set (fb (cg l k)).toNat (L.getD (fb (cg l k)).toNat 0-1)).getD (fb (cg l k)).toNat 0)=ig L (fb (cg l k)).toNat-1:=ig_set_same L _ _ (by rw [h.len];exact hv)
 rw [g] at this
 exact⟨fun hz=>this.1 (by simpa using hz),fun hz=>this.2.1 (by simpa using hz)⟩
theorem inv_end {l:List Ins} {L:List Int} {q T:List Nat} {k t:Nat} (h:Inv l L q T (rest l k 2)) (hT:T.length=t):Inv l L q (q.take t) []∧t≤q.length:=by
 obtain⟨s,hs⟩:=h.pre
 have:q.take t=T:=by rw [hs,←hT];simp
 rw [this]
 exact⟨h,by rw [hs];simp;omega⟩
theorem inv_out {l:List Ins} {L:List Int} {q:List Nat} {t:Nat} (ht:Tight l) (h:Inv l L q (q.take t) []) (hl:t≤q.length) (he:¬t<q.length):(t<l.length↔¬NoWay l)∧t≤l.length:=by
 have e:t=q.length:=by omega
 subst e
 rw [List.take_length] at h
 exact⟨h.done ht,h.len_le⟩
theorem inv_first {l:List Ins} {L:List Int} (hc:Cnt l L (tg l (List.range l.length))):Inv l L ((List.range l.length).filter (fun v=>ig L v == 0)) [] []:=Inv.start hc.1 hc.2 rfl
def fr (L:List Int) (k:Nat):List Nat:=(List.range k).filter (fun v=>ig L v == 0)
theorem fr_len (L:List Int) (k:Nat):(fr L k).length≤k:=by
 unfold fr;have:=List.length_filter_le (fun v=>ig L v == 0) (List.range k);simpa using this
theorem fr_yes (L:List Int) (k:Nat) (h:(ig L k == 0)=true):fr L (k+1)=fr L k++[k]:=by
 unfold fr;rw [List.range_succ,List.filter_append];simp [h]
theorem fr_no (L:List Int) (k:Nat) (h:(ig L k == 0)=false):fr L (k+1)=fr L k:=by
 unfold fr;rw [List.range_succ,List.filter_append];simp [h]
end Pure
namespace Pure
def bg (e:List Bool) (i:Nat):Bool:=e.getD i false
theorem ends1 {l:List Ins} {e:List Bool} {i:Nat} (h:(cg l i).op=1):endsB l e i=bg e (i+1):=by
 unfold endsB succ fst snd
 have h':(l.getD i i0).op=1:=h
 rw [if_pos (.inl h'),if_neg (by omega)]
 simp [bg]
theorem ends3 {l:List Ins} {e:List Bool} {i:Nat} (h:(cg l i).op=3):endsB l e i=(bg e (i+1) && bg e (cg l i).to.toNat):=by
 unfold endsB succ fst snd
 have h':(l.getD i i0).op=3:=h
 rw [if_pos (.inr h'),if_pos (.inl h')]
 simp [bg,cg]
theorem ends4 {l:List Ins} {e:List Bool} {i:Nat} (h:(cg l i).op=4):endsB l e i=bg e (cg l i).to.toNat:=by
 unfold endsB succ fst snd
 have h':(l.getD i i0).op=4:=h
 rw [if_neg (by omega),if_pos (.inr h')]
 simp [bg,cg]
theorem ends0 {l:List Ins} {e:List Bool} {i:Nat} (h1:(cg l i).op≠1) (h3:(cg l i).op≠3) (h4:(cg l i).op≠4):endsB l e i=true:=by
 unfold endsB succ fst snd
 have h1':(l.getD i i0).op≠1:=h1
 have h3':(l.getD i i0).op≠3:=h3
 have h4':(l.getD i i0).op≠4:=h4
 rw [if_neg (by simp only [not_or];exact⟨h1',h3'⟩),if_neg (by simp only [not_or];exact⟨h3',h4'⟩)]
 rfl
def Quiet (l:List Ins) (e:List Bool) (k:Nat):Prop:=∀i,i<l.length→i<k→bg e i=true∨endsB l e i=false
theorem quiet_zero (l:List Ins) (e:List Bool):Quiet l e 0:=fun i _ h=>by omega
theorem quiet_on {l:List Ins} {e:List Bool} {k:Nat} (h:Quiet l e k) (hk:bg e k=true∨endsB l e k=false):Quiet l e (k+1):=fun i hi hk'=>by
 by_cases e':i=k
 ·subst e';exact hk
 ·exact h i hi (by omega)
theorem quiet_past {l:List Ins} {e:List Bool} {k:Nat} (h:Quiet l e k) (hk:l.length≤k):Quiet l e (k+1):=fun i hi _=>h i hi (by omega)
structure Pass (l:List Ins) (e:List Bool) (more:Bool) (k L0:Nat):Prop where
 len:e.length=l.length
 sound:Sound l e
 le:e.count false≤L0
 lt:more=true→e.count false<L0
 quiet:more=false→Quiet l e k
theorem pass_start {l:List Ins} {e:List Bool} (hl:e.length=l.length) (hs:Sound l e):Pass l e false 0 (e.count false):=
 ⟨hl,hs,lr_,fun h=>Bool.noConfusion h,fun _=>quiet_zero l e⟩
theorem pass_skip {l:List Ins} {e:List Bool} {more:Bool} {k L0:Nat} (h:Pass l e more k L0) (hk:k<l.length→bg e k=true∨endsB l e k=false):Pass l e more (k+1) L0:=
 ⟨h.len,h.sound,h.le,h.lt,fun hm=>by
  by_cases hkl:k<l.length
  ·exact quiet_on (h.quiet hm) (hk hkl)
  ·exact quiet_past (h.quiet hm) (by omega)⟩
theorem pass_set {l:List Ins} {e:List Bool} {more:Bool} {k i L0:Nat} (h:Pass l e more k L0) (hi:i<l.length) (hf:bg e i=false) (hb:endsB l e i=true):Pass l (e.set i true) true (k+1) L0∧(e.set i true).count false+1=e.count false:=by
 have hi':i<e.length:=by rw [h.len];exact hi
 have hc:=count_set hi' hf
 have hle:=h.le
 exact⟨⟨by rw [List.length_set];exact h.len,sound_set h.sound hi' hf hb,by omega,fun _=>by omega,fun hm=>Bool.noConfusion hm⟩,hc⟩
theorem pass_end {l:List Ins} {e:List Bool} {k L0:Nat} (ht:Tight l) (h:Pass l e false k L0) (hk:2*l.length≤k):(((e.count false:Nat):Int) == 0)=true↔NoWay l:=by
 rw [beq_iff_eq]
 constructor
 ·intro h0
  exact sound_done h.len h.sound (by omega)
 ·intro hn
  have:=stuck ht h.len (fun i hi=>h.quiet rfl i hi (by omega)) hn;omega
theorem count_le (e:List Bool):e.count false≤e.length:=List.count_le_length
end Pure
namespace Pure
def eb (e:Int):List Int:=[e % 256,e / 256]
def ruleB (r:Rule):List Int:=[r.emit,r.act,r.mode]
def insB (x:Ins):List Int:=[x.op,x.a,x.b,x.to % 256,x.to / 256]
def hdr4 (p:Prg):List Int:=[87,82,(p.ents.length:Int),(p.rules.length:Int)]
def wA (p:Prg) (k:Nat):List Int:=(hdr4 p++eb p.code.length)++(p.ents.take k).flatMap eb
def wB (p:Prg) (k:Nat):List Int:=wA p p.ents.length++(p.rules.take k).flatMap ruleB
def wC (p:Prg) (k:Nat):List Int:=wB p p.rules.length++(p.code.take k).flatMap insB
def img (p:Prg):List Int:=wC p p.code.length
theorem flat_step {α:Type} (f:α→List Int) (l:List α) (d:α) (k:Nat) (hk:k<l.length):(l.take (k+1)).flatMap f=(l.take k).flatMap f++f (l.getD k d):=by
 rw [List.take_succ_eq_append_getElem hk,List.flatMap_append]
 simp [List.getD_eq_getElem?_getD,hk]
theorem flat_len {α:Type} (f:α→List Int) (c:Nat) (hf:∀x,(f x).length=c):∀(l:List α),(l.flatMap f).length=c*l.length
 | []=>by simp
 | x::r=>by
  rw [List.flatMap_cons,List.length_append,hf,flat_len f c hf r,List.length_cons,Nat.mul_succ];omega
theorem wA_zero (p:Prg):wA p 0=hdr4 p++eb p.code.length:=by simp [wA]
theorem wB_zero (p:Prg):wB p 0=wA p p.ents.length:=by simp [wB]
theorem wC_zero (p:Prg):wC p 0=wB p p.rules.length:=by simp [wC]
theorem wA_step (p:Prg) (k:Nat) (hk:k<p.ents.length):wA p (k+1)=wA p k++[ig p.ents k % 256,ig p.ents k / 256]:=by
 unfold wA;rw [flat_step eb p.ents 0 k hk,←List.append_assoc];rfl
theorem wB_step (p:Prg) (k:Nat) (hk:k<p.rules.length):wB p (k+1)=wB p k++[(rg p.rules k).emit,(rg p.rules k).act,(rg p.rules k).mode]:=by
 unfold wB;rw [flat_step ruleB p.rules r0 k hk,←List.append_assoc];rfl
theorem wC_step (p:Prg) (k:Nat) (hk:k<p.code.length):wC p (k+1)=wC p k++[(cg p.code k).op,(cg p.code k).a,(cg p.code k).b,(cg p.code k).to % 256,(cg p.code k).to / 256]:=by
 unfold wC;rw [flat_step insB p.code i0 k hk,←List.append_assoc];rfl
theorem wA_len (p:Prg) (k:Nat) (hk:k≤p.ents.length):(wA p k).length=6+2*k:=by
 unfold wA
 rw [List.length_append,flat_len eb 2 (fun _=>rfl),List.length_take]
 simp [hdr4,eb];omega
theorem wB_len (p:Prg) (k:Nat) (hk:k≤p.rules.length):(wB p k).length=6+2*p.ents.length+3*k:=by
 unfold wB
 rw [List.length_append,flat_len ruleB 3 (fun _=>rfl),List.length_take,wA_len p _ lr_]
 omega
theorem wC_len (p:Prg) (k:Nat) (hk:k≤p.code.length):(wC p k).length=6+2*p.ents.length+3*p.rules.length+5*k:=by
 unfold wC
 rw [List.length_append,flat_len insB 5 (fun _=>rfl),List.length_take,wB_len p _ lr_]
 omega
theorem right_ent {p:Prg} (h:RightP p) {k:Nat} (hk:k<p.ents.length):0≤ig p.ents k∧ig p.ents k≤65535:=by
 have h1:=h.1.2 k hk
 have h2:=h.2.2.1.1
 omega
theorem right_rule {p:Prg} (h:RightP p) {k:Nat} (hk:k<p.rules.length):(0≤(rg p.rules k).emit∧(rg p.rules k).emit≤255)∧(0≤(rg p.rules k).act∧(rg p.rules k).act≤255)∧(0≤(rg p.rules k).mode∧(rg p.rules k).mode≤255):=by
 have h1:=h.2.1.2 k hk
 have h2:=h.1.1
 unfold RuleOK at h1
 omega
theorem right_ins {p:Prg} (h:RightP p) {k:Nat} (hk:k<p.code.length):(0≤(cg p.code k).op∧(cg p.code k).op≤255)∧(0≤(cg p.code k).a∧(cg p.code k).a≤255)∧(0≤(cg p.code k).b∧(cg p.code k).b≤255)∧(0≤(cg p.code k).to∧(cg p.code k).to≤65535):=by
 have h1:=h.2.2.1.2.1 k hk
 have h2:=h.2.1.1
 have h3:=h.2.2.1.1
 unfold InsOK at h1
 omega
end Pure
end Go.Proofs.YtmccnmgaoppogaaGreat
