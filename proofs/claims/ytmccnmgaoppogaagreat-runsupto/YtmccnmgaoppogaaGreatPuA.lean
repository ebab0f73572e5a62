namespace Go.Proofs.YtmccnmgaoppogaaGreat
abbrev gg_:=@List.getElem?_eq_getElem
abbrev ge_:=@List.getElem?_eq_some_iff
abbrev gd_:=@List.getD_eq_getElem?_getD
abbrev la_:=@List.length_append
abbrev oi_:=@Option.some.inj
abbrev ar_:=@List.getElem?_append_right
abbrev al_:=@List.getElem?_append_left
abbrev mg_:=@List.mem_of_getElem?
abbrev sb_:=@List.setIfInBounds_toArray
abbrev zl_:=@Nat.zero_le
abbrev dt_:=@decide_eq_true
abbrev dn_:=@decide_eq_false
abbrev mc_:=@List.mem_cons_of_mem
abbrev cs_:=@List.getElem?_cons_succ
abbrev gm_:=@List.getElem?_map
abbrev lt_:=@Nat.le_trans
abbrev ma_:=@List.mem_append
abbrev tn_:=@Int.toNat_natCast
abbrev lc_:=@List.length_cons
abbrev ss_:=@List.set_cons_succ
abbrev sz_:=@List.set_cons_zero
abbrev aa_:=@List.append_assoc
abbrev lm_:=@List.length_map
abbrev ms_:=@List.mem_cons_self
abbrev gf_:=@List.getElem?_of_mem
abbrev ls_:=@Nat.lt_succ_self
abbrev mm_:=@List.mem_cons
abbrev ll_:=@Nat.le_of_lt
abbrev gn_:=@List.getElem?_eq_none
abbrev gt_:=@List.getElem_toArray
abbrev cz_:=@List.getElem_cons_zero
abbrev ln_:=@List.length_nil
abbrev lp_:=@List.length_replicate
abbrev le_:=@List.length_set
variable {L0 i k n:Nat} {e:List Bool} {T q:List Nat} {L:List Int} {a b:Int}
namespace Pu
end Pu
open Pu
set_option linter.all false
theorem di:n<=n:=Nat.le_refl n
theorem nV (a b:Int) (h:a<b:=by omega):decide (a<b)=true:=dt_ h
theorem mM (a b:Int) (h:¬a<b:=by omega):decide (a<b)=false:=dn_ h
theorem jg (k:Nat):(0:Int)<=(k:Int):=by omega
theorem qG {α:Type} (l:List α) (i:Nat) (h:i<l.length:=by omega):∃x,l[i]?=some x:=⟨_,gg_ h⟩
theorem nU:(∀{α:Type} (l:List α) (i:Nat) (h:i<l.toArray.size),l.toArray[i]=l[i]'(by simpa using h))/\(∀{α:Type} (a:α) (as:List α) (i:Nat) (h:i+1<(a::as).length),(a::as)[i+1]=as[i]'(Nat.lt_of_succ_lt_succ h))/\(∀{α:Type} (a:α) (as:List α) (h:0<(a::as).length),(a::as)[0]=a)/\(∀{α:Type} (l:List α) (i:Nat) (a:α),l.toArray.setIfInBounds i a=(l.set i a).toArray)/\(∀{α:Type} (b:α) (as:List α) (a:α),(b::as).set 0 a=a::as)/\(∀{α:Type} (b:α) (as:List α) (n:Nat) (a:α),(b::as).set (n+1) a=b::as.set n a):=⟨fun _ _ _=>gt_ _,fun _ _ _ _=>rfl,fun _ _ _=>rfl,fun _ _ _=>sb_ ..,fun _ _ _=>rfl,fun _ _ _ _=>rfl⟩
namespace Pu
structure dY where
 op:Int
 a:Int
 b:Int
 bG:Int
structure mJ where
 emit:Int
 act:Int
 mode:Int
structure oC where
 ents:List Int
 rules:List mJ
 code:List dY
def aS:dY:=⟨0,0,0,0⟩
def aY:mJ:=⟨0,0,0⟩
def fst (x:dY) (i:Nat):List Nat:=if x.op=1\/x.op=3 then [i+1] else []
def snd (x:dY):List Nat:=if x.op=3\/x.op=4 then [x.bG.toNat] else []
def succ (l:List dY) (i:Nat):List Nat:=fst (l.getD i aS) i++snd (l.getD i aS)
def wo (l:List dY):Prop:=∃jL:Nat->Nat,∀i,i<l.length->∀j,j∈succ l i->jL j<jL i
def nJ (l:List dY):Prop:=∀i,i<l.length->
 (((l.getD i aS).op=1\/(l.getD i aS).op=3)->i+1<l.length)/\
 (((l.getD i aS).op=3\/(l.getD i aS).op=4)->0<=(l.getD i aS).bG/\(l.getD i aS).bG<l.length)
theorem nJ.lt {l:List dY} (h:nJ l) {j:Nat} (hi:i<l.length) (hj:j∈succ l i):j<l.length:=by
 have:=h i hi;unfold succ fst snd at hj;rw [ma_] at hj;rcases hj with hj | hj
 .split at hj
  .rename_i h1;simp at hj;have:=this.1 h1;omega
  .simp at hj
 .split at hj
  .rename_i h1;rw [List.mem_singleton] at hj;have:=this.2 h1;omega
  .simp at hj
def oW (l:List dY) (e:List Bool) (i:Nat):Bool:=(succ l i).all (fun j=>e.getD j false)
def Dv (l:List dY) (e:List Bool):Prop:=∃jL:Nat->Nat,∀i,i<l.length->e.getD i false=true->
 ∀j,j∈succ l i->e.getD j false=true/\jL j<jL i
theorem uD {α:Type} (l:List α) (i k:Nat) (v d:α) (hi:i<l.length):(l.set i v).getD k d=if k=i then v else l.getD k d:=by
 simp only [gd_,List.getElem?_set];by_cases h:i=k
 .subst h;simp [hi]
 .rw [if_neg h,if_neg (fun e=>h e.symm)]
theorem QU (l:List dY) (n:Nat):Dv l (List.replicate n false):=by refine⟨fun _=>0,fun i _ h=>?_⟩;exfalso;simp only [gd_,List.getElem?_replicate] at h;split at h <;> simp at h
def JZ (jL:Nat->Nat):List Nat->Nat
 | []=>0
 | j::r=>jL j+JZ jL r
theorem Jw (jL:Nat->Nat):∀(s:List Nat) (j:Nat),j∈s->jL j<=JZ jL s
 | x::r,j,h=>by
  rcases mm_.1 h with h | h
  .subst h;simp [JZ]
  .have:=Jw jL r j h;simp [JZ];omega
theorem Wp {l:List dY} (h:Dv l e) (hi:i<e.length) (hf:e.getD i false=false) (hb:oW l e i=true):Dv l (e.set i true):=by
 obtain⟨jL,hr⟩:=h;refine⟨fun x=>if x=i then 1+JZ jL (succ l i) else jL x,fun k hk hek j hj=>?_⟩;rw [uD _ _ _ _ _ hi] at hek;rw [uD _ _ _ _ _ hi];by_cases hki:k=i
 .subst hki;have hj':e.getD j false=true:=by unfold oW at hb;exact (List.all_eq_true.1 hb) j hj
  have hji:j≠k:=by intro x;subst x;rw [hf] at hj';cases hj'
  have:=Jw jL _ j hj;simp only [if_neg hji,if_pos];exact⟨hj',by omega⟩
 .rw [if_neg hki] at hek;have:=hr k hk hek j hj;have hji:j≠i:=by intro x;subst x;rw [hf] at this;cases this.1
  simp only [if_neg hji,if_neg hki];exact this
theorem count_set:∀{i:Nat},i<e.length->e.getD i false=false->(e.set i true).count false+1=e.count false:=by
 induction e with
 | nil=>intro i hi _;simp at hi
 | cons x r ih=>
  intro i hi hf
  cases i with
  | zero=>simp at hf;subst hf;simp
  | succ i=>simp only [lc_] at hi;have:=ih (i:=i) (by omega) (by simpa using hf);simp only [ss_,List.count_cons];omega
theorem Pk (h:e.count false=0) (hi:i<e.length):e.getD i false=true:=by
 cases hb:e.getD i false with
 | true=>rfl
 | false=>have:=count_set hi hb;omega
theorem QS {l:List dY} (hl:e.length=l.length) (h:Dv l e) (hc:e.count false=0):wo l:=by obtain⟨jL,hr⟩:=h;exact⟨jL,fun i hi j hj=>(hr i hi (Pk hc (by omega)) j hj).2⟩
theorem Uz:e.count false≠0->∃i,i<e.length/\e.getD i false=false:=by
 induction e with
 | nil=>intro h;simp at h
 | cons x r ih=>
  intro h
  cases x with
  | false=>exact⟨0,by simp,by simp⟩
  | true=>
   simp at h;have:r.count false≠0:=by simpa using h
   obtain⟨i,hi,hb⟩:=ih this;exact⟨i+1,by simp;omega,by simpa using hb⟩
theorem stuck {l:List dY} (ht:nJ l) (hl:e.length=l.length) (h:∀i,i<l.length->e.getD i false=true\/oW l e i=false) (hn:wo l):e.count false=0:=by
 obtain⟨jL,hr⟩:=hn
 have key:∀m i,i<l.length->jL i<=m->e.getD i false=true:=by
  intro m
  induction m with
  | zero=>
   intro i hi hm;rcases h i hi with h1 | h1
   .exact h1
   .unfold oW at h1;obtain⟨j,hj,_⟩:=List.all_eq_false.1 h1;have:=hr i hi j hj;omega
  | succ m ih=>
   intro i hi hm;rcases h i hi with h1 | h1
   .exact h1
   .unfold oW at h1;obtain⟨j,hj,hjf⟩:=List.all_eq_false.1 h1;have h2:=hr i hi j hj;have h3:=ih j (ht.lt hi hj) (by omega);exact absurd h3 hjf
 apply Classical.byContradiction;intro hc;obtain⟨i,hi,hb⟩:=Uz hc;have:=key (jL i) i (by omega) di;rw [hb] at this;cases this
theorem rq:∀(n:Nat) (q:List Nat),q.Nodup->(∀v,v∈q->v<n)->q.length<=n
 | 0,q,_,h=>by
  cases q with
  | nil=>simp
  | cons x r=>have:=h x (by simp);omega
 | n+1,q,hd,h=>by
  by_cases hm:n∈q
  .have:=rq n (q.erase n) (hd.erase n) (fun v hv=>by
    have h1:=h v (List.mem_of_mem_erase hv);have h2:v≠n:=by intro e;subst e;exact (List.Nodup.not_mem_erase hd) hv
    omega)
   rw [List.length_erase_of_mem hm] at this;omega
  .have:=rq n q hd (fun v hv=>by
    have h1:=h v hv;have h2:v≠n:=by intro e;subst e;exact hm hv
    omega)
   omega
theorem RZ:∀(n:Nat) (q:List Nat),(∀v,v<n->v∈q)->n<=q.length
 | 0,_,_=>zl_ _
 | n+1,q,h=>by have hm:=h n (by omega);have:=RZ n (q.erase n) (fun v hv=>(List.mem_erase_of_ne (by omega)).2 (h v (by omega)));rw [List.length_erase_of_mem hm] at this;have:0<q.length:=List.length_pos_of_mem hm;omega
def tg (l:List dY) (us:List Nat):List Nat:=us.flatMap (succ l)
def nt (n:Nat) (T:List Nat):List Nat:=(List.range n).filter (fun u=>!T.contains u)
theorem Qe {u:Nat}:u∈nt n T↔u<n/\u∉T:=by unfold nt;simp [List.mem_filter]
theorem nodup_range (n:Nat):(List.range n).Nodup:=List.nodup_range
theorem ZJ (n:Nat):nt n []=List.range n:=by unfold nt;simp
theorem tK (l:List dY) (u:Nat) (us:List Nat) (v:Nat):(tg l (u::us)).count v=(succ l u).count v+(tg l us).count v:=by unfold tg;rw [List.flatMap_cons,List.count_append]
theorem wN (l:List dY) (v:Nat) (a:Nat):∀(us:List Nat),us.Nodup->a∈us->(tg l us).count v=(succ l a).count v+(tg l (us.filter (fun u=>u != a))).count v
 | u::r,hd,hm=>by
  have hd':=List.nodup_cons.1 hd;by_cases h:u=a
  .subst h;have:(u::r).filter (fun x=>x != u)=r:=by rw [List.filter_cons];simp;intro x hx hxu;subst hxu;exact hd'.1 hx
   rw [this,tK]
  .have hm':a∈r:=by
    rcases mm_.1 hm with e | e
    .exact absurd e.symm h
    .exact e
   have ih:=wN l v a r hd'.2 hm';have:(u::r).filter (fun x=>x != a)=u::r.filter (fun x=>x != a):=by rw [List.filter_cons];simp [h]
   rw [this,tK,tK,ih];omega
theorem acp (n:Nat) (T:List Nat) (a:Nat):nt n (T++[a])=(nt n T).filter (fun u=>u != a):=by unfold nt;rw [List.filter_filter];apply List.filter_congr;intro u _;simp only [List.contains_eq_mem,ma_,List.mem_singleton];by_cases h1:u∈T <;> by_cases h2:u=a <;> simp [h1,h2]
theorem ZK (n:Nat) (T:List Nat):(nt n T).Nodup:=(nodup_range n).filter _
structure Inv (l:List dY) (L:List Int) (q T rest:List Nat):Prop where
 len:L.length=l.length
 nd:q.Nodup
 lt:∀v,v∈q->v<l.length
 pre:∃s,q=T++s
 cnt:∀v,v<l.length->L.getD v 0=((rest++tg l (nt l.length T)).count v:Nat)
 mem:∀v,v<l.length->(v∈q↔(rest++tg l (nt l.length T)).count v=0)
 ord:∀a v b,q=a++v::b->∀i,i<l.length->v∈succ l i->i∈a
theorem Inv.take {l:List dY} {s:List Nat} {a:Nat} (h:Inv l L (T++a::s) T []):Inv l L (T++a::s) (T++[a]) (succ l a):=by
 have ha:a<l.length:=h.lt a (by simp);have hT:a∉T:=by have:=h.nd;rw [List.nodup_append] at this;intro hm;exact this.2.2 a hm a (by simp) rfl
 have key:∀v,(succ l a++tg l (nt l.length (T++[a]))).count v=(([]:List Nat)++tg l (nt l.length T)).count v:=by intro v;rw [List.nil_append,List.count_append,acp,wN l v a (nt l.length T) (ZK _ _) (Qe.2 ⟨ha,hT⟩)]
 refine⟨h.len,h.nd,h.lt,⟨s,by simp⟩,fun v hv=>?_,fun v hv=>?_,h.ord⟩
 .rw [key];exact h.cnt v hv
 .rw [key];exact h.mem v hv
theorem Inv.step {l:List dY} {L:List Int} {q T rest:List Nat} {v:Nat} (h:Inv l L q T (v::rest)) (hv:v<l.length) (L':List Int) (hL:L'=L.set v (L.getD v 0-1)) :
  (L'.getD v 0=0->Inv l L' (q++[v]) T rest)/\(L'.getD v 0≠0->Inv l L' q T rest)/\L.getD v 0=((rest++tg l (nt l.length T)).count v:Nat)+1:=by
 subst hL;have hl:v<L.length:=by rw [h.len];exact hv
 have c0:∀x,((v::rest)++tg l (nt l.length T)).count x=(rest++tg l (nt l.length T)).count x+if v=x then 1 else 0:=by intro x;rw [List.cons_append,List.count_cons];simp
 have cv:=h.cnt v hv;rw [c0 v,if_pos rfl] at cv
 have hc:∀x,x<l.length->(L.set v (L.getD v 0-1)).getD x 0=((rest++tg l (nt l.length T)).count x:Nat):=by
  intro x hx;rw [uD _ _ _ _ _ hl];by_cases e:x=v
  .subst e;rw [if_pos rfl,cv];omega
  .rw [if_neg e,h.cnt x hx,c0 x,if_neg (fun y=>e y.symm)];simp
 have hvq:v∉q:=by intro hm;have:=(h.mem v hv).1 hm;rw [c0 v,if_pos rfl] at this;omega
 have kU:(L.set v (L.getD v 0-1)).length=l.length:=by rw [le_];exact h.len
 refine⟨fun hz=>?_,fun hz=>?_,by rw [cv];omega⟩
 .rw [hc v hv] at hz;have hz':(rest++tg l (nt l.length T)).count v=0:=by omega
  obtain⟨s,hs⟩:=h.pre;refine⟨kU,?_,?_,⟨s++[v],by rw [hs];simp⟩,hc,?_,?_⟩
  .rw [List.nodup_append];refine⟨h.nd,by simp,?_⟩;intro a ha b hb;simp at hb;subst hb;intro e;subst e;exact hvq ha
  .intro x hx;rcases ma_.1 hx with hx | hx
   .exact h.lt x hx
   .simp at hx;omega
  .intro x hx;by_cases e:x=v
   .subst e;simp [hz']
   .have:=h.mem x hx;rw [c0 x,if_neg (fun y=>e y.symm)] at this;rw [<-Nat.add_zero ((rest++tg l (nt l.length T)).count x),<-this];simp [e]
  .intro a x b hq i hi hxi;rcases List.eq_nil_or_concat b with hb | ⟨b',y,hb⟩
   .subst hb;have h1:q=a/\v=x:=by have:=List.append_inj' hq (by simp);exact⟨this.1,by simpa using this.2⟩
    obtain⟨rfl,rfl⟩:=h1;rw [hs];apply Classical.byContradiction;intro hni;have hiT:i∉T:=fun hm=>hni (List.mem_append_left _ hm)
    have:v∈rest++tg l (nt l.length T):=by apply List.mem_append_right;unfold tg;exact List.mem_flatMap.2 ⟨i,Qe.2 ⟨hi,hiT⟩,hxi⟩
    exact absurd hz' (Nat.ne_of_gt (List.count_pos_iff.2 this))
   .subst hb;have h1:q=a++x::b':=by rw [List.concat_eq_append,<-List.cons_append,<-aa_] at hq;exact (List.append_inj' hq (by simp)).1
    exact h.ord a x b' h1 i hi hxi
 .refine⟨kU,h.nd,h.lt,h.pre,hc,?_,h.ord⟩;intro x hx;by_cases e:x=v
  .subst e;constructor
   .intro hm;exact absurd hm hvq
   .intro h0;exact absurd (by rw [hc x hx,h0];rfl) hz
  .have:=h.mem x hx;rw [c0 x,if_neg (fun y=>e y.symm)] at this;rw [this];omega
theorem Inv.AP {l:List dY} {rest:List Nat} (h:Inv l L q T rest):q.length<=l.length:=rq _ q h.nd h.lt
theorem aeA (q a b:List Nat) (v i:Nat) (hq:q=a++v::b) (hn:q.Nodup) (hi:i∈a):q.idxOf i<q.idxOf v:=by
 subst hq;rw [List.nodup_append] at hn;have hva:v∉a:=fun hm=>hn.2.2 v hm v (by simp) rfl
 rw [List.idxOf_append,if_pos hi,List.idxOf_append,if_neg hva];have:=List.idxOf_lt_length_of_mem hi;omega
theorem Inv.done {l:List dY} {L:List Int} {q:List Nat} (ht:nJ l) (h:Inv l L q q []):(q.length<l.length↔¬wo l):=by
 constructor
 .intro hlt hn;obtain⟨jL,hr⟩:=hn
  obtain⟨u,hu,huq⟩:∃u,u<l.length/\u∉q:=by
   apply Classical.byContradiction;intro hno
   have:=RZ l.length q (fun v hv=>by
    apply Classical.byContradiction;intro hv'
    exact hno ⟨v,hv,hv'⟩)
   omega
  have bound:∀x,x<l.length->jL x<=JZ jL (List.range l.length):=fun x hx=>Jw jL _ x (List.mem_range.2 hx)
  have key:∀m x,x<l.length->x∉q->jL x+m=JZ jL (List.range l.length)->False:=by
   intro m
   induction m using Nat.strongRecOn with
   | ind m ih=>
    intro x hx hxq hm;have hc:(tg l (nt l.length q)).count x≠0:=by intro h0;exact hxq ((h.mem x hx).2 (by simpa using h0))
    have hmem:x∈tg l (nt l.length q):=List.count_pos_iff.1 (by omega);unfold tg at hmem;obtain⟨y,hy,hxy⟩:=List.mem_flatMap.1 hmem;have hy':=Qe.1 hy;have h1:=hr y hy'.1 x hxy;have h2:=bound y hy'.1;exact ih (JZ jL (List.range l.length)-jL y) (by omega) y hy'.1 hy'.2 (by omega)
  exact key (JZ jL (List.range l.length)-jL u) u hu huq (by have:=bound u hu;omega)
 .intro hn;apply Classical.byContradiction;intro hge;apply hn
  have hall:∀v,v<l.length->v∈q:=by
   intro v hv;apply Classical.byContradiction;intro hm
   have:=rq l.length (v::q) (List.nodup_cons.2 ⟨hm,h.nd⟩) (fun x hx=>by
    rcases mm_.1 hx with e | e
    .omega
    .exact h.lt x e)
   simp at this;omega
  refine⟨fun x=>l.length-q.idxOf x,fun i hi j hj=>?_⟩;have hj':j<l.length:=ht.lt hi hj;obtain⟨a,b,hq⟩:=List.append_of_mem (hall j hj');have hia:=h.ord a j b hq i hi hj;have h1:=aeA q a b j i hq h.nd hia;have h2:=List.idxOf_lt_length_of_mem (hall j hj');have h3:=h.AP;show l.length-q.idxOf j<l.length-q.idxOf i;omega
theorem Inv.start {l:List dY} (hl:L.length=l.length) (hc:∀v,v<l.length->L.getD v 0=((tg l (List.range l.length)).count v:Nat))
  (hq:q=(List.range l.length).filter (fun v=>L.getD v 0 == 0)):Inv l L q [] []:=by
 subst hq;refine⟨hl,(nodup_range _).filter _,fun v hv=>?_,⟨_,rfl⟩,fun v hv=>?_,fun v hv=>?_,?_⟩
 .exact List.mem_range.1 (List.mem_filter.1 hv).1
 .rw [List.nil_append,ZJ];exact hc v hv
 .rw [List.nil_append,ZJ,List.mem_filter,List.mem_range,beq_iff_eq,hc v hv];constructor
  .intro h;omega
  .intro h;exact⟨hv,by omega⟩
 .intro a v b hab i hi hvi;exfalso;have hv:v∈(List.range l.length).filter (fun v=>L.getD v 0 == 0):=by rw [hab];simp
  obtain⟨h1,h2⟩:=List.mem_filter.1 hv;rw [beq_iff_eq,hc v (List.mem_range.1 h1)] at h2;have:v∈tg l (List.range l.length):=List.mem_flatMap.2 ⟨i,List.mem_range.2 hi,hvi⟩;have:=List.count_pos_iff.2 this;omega
def tJ (m:Nat) (r:mJ):Prop:=(r.emit=0\/r.emit=1)/\(0<=r.act/\r.act<=3)/\(0<=r.mode/\r.mode<m)/\(r.act=1\/r.act=2\/r.mode=0)
def rz (k n:Nat) (x:dY):Prop:=
 (x.op=1/\0<=x.a/\x.a<k/\x.b=0/\x.bG=0)\/((x.op=2\/x.op=5)/\x.a=0/\x.b=0/\x.bG=0)\/
 (x.op=3/\0<=x.a/\x.a<=x.b/\x.b<=255/\0<=x.bG/\x.bG<n)\/(x.op=4/\x.a=0/\x.b=0/\0<=x.bG/\x.bG<n)
def Xq (l:List dY):Prop:=(l.getD (l.length-1) aS).op=4\/(l.getD (l.length-1) aS).op=5
theorem aar {l:List dY} (h:∀i,i<l.length->rz k l.length (l.getD i aS)) (hl:Xq l):nJ l:=by
 intro i hi;have hx:=h i hi;unfold Xq at hl;refine⟨fun ho=>?_,fun ho=>?_⟩
 .by_cases e:i=l.length-1
  .rw [<-e] at hl;omega
  .omega
 .unfold rz at hx;rcases hx with ⟨h1,_⟩ | ⟨h1,_⟩ | ⟨h1,_,_,_,h2⟩ | ⟨h1,_,_,h2⟩ <;> omega
end Pu
namespace Pu
def aP (x:dY) (i:Int):Int:=if x.op=1\/x.op=3 then i+1 else -1
def aQ (x:dY):Int:=if x.op=3\/x.op=4 then x.bG else -1
def uo (a b:Int):Bool:=decide (0<=a/\a<b)
theorem Ye (h:0<=a/\a<b):uo a b=true:=dt_ h
theorem Hr (h:¬(0<=a/\a<b)):uo a b=false:=dn_ h
theorem xf (h:uo a b=true):0<=a/\a<b:=of_decide_eq_true h
theorem yI (h:uo a b=false):¬(0<=a/\a<b):=of_decide_eq_false h
def aU (l:List Int) (i:Nat):Int:=l.getD i 0
def rg (l:List mJ) (i:Nat):mJ:=l.getD i aY
def aO (l:List dY) (i:Nat):dY:=l.getD i aS
def Dg (l:List Int) (n:Nat):Prop:=(1<=l.length/\l.length<=4)/\∀i,i<l.length->0<=aU l i/\aU l i<n
def sO (l:List mJ) (m:Nat):Prop:=(1<=l.length/\l.length<=16)/\∀i,i<l.length->tJ m (rg l i)
def vU (l:List dY) (k:Nat):Prop:=(1<=l.length/\l.length<=50000)/\(∀i,i<l.length->rz k l.length (aO l i))/\((aO l (l.length-1)).op=4\/(aO l (l.length-1)).op=5)
def iy (p:oC):Prop:=Dg p.ents p.code.length/\sO p.rules p.ents.length/\vU p.code p.rules.length/\wo p.code
theorem vU.tight {l:List dY} (h:vU l k):nJ l:=aar (k:=k) h.2.1 h.2.2
theorem dW {P:Prop} (h:¬P):(false=true↔P):=⟨fun h'=>Bool.noConfusion h',fun h'=>absurd h' h⟩
theorem tF {P:Prop} (h:P):(true=true↔P):=⟨fun _=>h,fun _=>rfl⟩
theorem Ed {l:List Int} (h:¬(1<=l.length/\l.length<=4)):¬Dg l n:=fun h'=>h h'.1
theorem Yr {l:List Int} (hk:k<l.length) (h:¬(0<=aU l k/\aU l k<n)):¬Dg l n:=fun h'=>h (h'.2 k hk)
theorem Cb {l:List mJ} {m:Nat} (h:¬(1<=l.length/\l.length<=16)):¬sO l m:=fun h'=>h h'.1
theorem Wd {l:List mJ} {m:Nat} (hk:k<l.length) (h:¬tJ m (rg l k)):¬sO l m:=fun h'=>h (h'.2 k hk)
theorem DW {l:List dY} (h:¬(1<=l.length/\l.length<=50000)):¬vU l k:=fun h'=>h h'.1
theorem Yo {l:List dY} (hi:i<l.length) (h:¬rz k l.length (aO l i)):¬vU l k:=fun h'=>h (h'.2.1 i hi)
theorem Ux {l:List dY} (h:¬((aO l (l.length-1)).op=4\/(aO l (l.length-1)).op=5)):¬vU l k:=fun h'=>h h'.2.2
theorem ry {P:Nat->Prop} (h:∀j,j<k->P j) (hk:P k):∀j,j<k+1->P j:=fun j hj=>by
 by_cases e:j=k
 .subst e;exact hk
 .exact h j (by omega)
end Pu
namespace Pu
def Gd (l:List dY) (L:List Int) (us:List Nat):Prop:=L.length=l.length/\∀v,v<l.length->aU L v=((us.count v:Nat):Int)
theorem Uw (l:List dY):Gd l (List.replicate l.length 0) []:=by refine⟨by simp,fun v hv=>?_⟩;unfold aU;simp [gd_,hv]
theorem YZ (L:List Int) (v:Nat) (y:Int) (k:Nat) (hv:v<L.length):aU (L.set v y) k=if k=v then y else aU L k:=uD L v k y 0 hv
theorem Gd.step {l:List dY} {L:List Int} {us:List Nat} (h:Gd l L us) {v:Nat} (hv:v<l.length):Gd l (L.set v (aU L v+1)) (us++[v]):=by
 refine⟨by simp [h.1],fun x hx=>?_⟩;rw [YZ _ _ _ _ (by rw [h.1];exact hv),List.count_append];by_cases e:x=v
 .subst e;rw [if_pos rfl,h.2 x hx];simp
 .rw [if_neg e,h.2 x hx];have:[v].count x=0:=by simp [List.count_cons];omega
  omega
theorem Jn (x:dY) (i:Nat):(fst x i).length<=1:=by unfold fst;split <;> simp
theorem JW (x:dY):(snd x).length<=1:=by unfold snd;split <;> simp
theorem aan (l:List dY) (i:Nat):(succ l i).length<=2:=by unfold succ;rw [la_];have:=Jn (l.getD i aS) i;have:=JW (l.getD i aS);omega
theorem Q7 (l:List dY):∀us:List Nat,(tg l us).length<=2*us.length
 | []=>by simp [tg]
 | u::r=>by have:=Q7 l r;have h2:=aan l u;unfold tg at this |-;rw [List.flatMap_cons,la_,lc_];omega
theorem aeK (n:Nat) (T:List Nat):(nt n T).length<=n:=by unfold nt;have:=List.length_filter_le (fun u=>!T.contains u) (List.range n);simp at this;simpa using this
theorem Gd.bd {l:List dY} {us:List Nat} (h:Gd l L us) {v:Nat} (hv:v<l.length):0<=aU L v/\aU L v<=us.length:=by rw [h.2 v hv];have:=List.count_le_length (a:=v) (l:=us);omega
theorem SE {l:List dY} (_ht:nJ l) (_hk:k<l.length) (h:uo (aP (aO l k) k) l.length=true):fst (aO l k) k=[(aP (aO l k) k).toNat]:=by
 have:=xf h;unfold aP at this h |-
 unfold fst;split
 .simp only [List.cons.injEq,and_true];omega
 .rename_i h1;rw [if_neg h1] at this;omega
theorem YG {l:List dY} (ht:nJ l) (hk:k<l.length) (h:uo (aP (aO l k) k) l.length=false):fst (aO l k) k=[]:=by
 have h1:=yI h;have h2:=(ht k hk).1;unfold fst;split
 .rename_i h3
  have:=h2 h3;unfold aP at h1;rw [if_pos h3] at h1;omega
 .rfl
theorem TP {l:List dY} (h:uo (aQ (aO l k)) l.length=true):snd (aO l k)=[(aQ (aO l k)).toNat]:=by
 have:=xf h;unfold aQ at this h |-
 unfold snd;split
 .rfl
 .rename_i h1;rw [if_neg h1] at this;omega
theorem aae {l:List dY} (ht:nJ l) (hk:k<l.length) (h:uo (aQ (aO l k)) l.length=false):snd (aO l k)=[]:=by
 have h1:=yI h;have h2:=(ht k hk).2;unfold snd;split
 .rename_i h3
  have:=h2 h3;unfold aQ at h1;rw [if_pos h3] at h1;exact absurd this h1
 .rfl
theorem G9 (l:List dY) (k:Nat):tg l (List.range (k+1))=(tg l (List.range k)++fst (aO l k) k)++snd (aO l k):=by unfold tg;rw [List.range_succ,List.flatMap_append,aa_];simp [succ,aO]
theorem CR (h:uo a n=true):a.toNat<n/\0<=a:=by have:=xf h;omega
def xg (l:List dY) (k:Nat):Nat->List Nat
 | 0=>tg l (List.range k)
 | 1=>tg l (List.range k)++fst (aO l k) k
 | _=>(tg l (List.range k)++fst (aO l k) k)++snd (aO l k)
theorem IB (l:List dY) (k j:Nat):(xg l k j).length<=2*k+2:=by
 have h:=Q7 l (List.range k);have h1:=Jn (aO l k) k;have h2:=JW (aO l k);rw [List.length_range] at h
 match j with
 | 0=>show (tg l (List.range k)).length<=_;omega
 | 1=>show (tg l (List.range k)++fst (aO l k) k).length<=_;rw [la_];omega
 | _+2=>show ((tg l (List.range k)++fst (aO l k) k)++snd (aO l k)).length<=_;rw [la_,la_];omega
theorem abz {l:List dY} (ht:nJ l) (hk:k<l.length) (ha:aP (aO l k) k=a) (h:Gd l L (xg l k 0)) (hb:uo a l.length=false):Gd l L (xg l k 1):=by subst ha;show Gd l L (tg l (List.range k)++fst (aO l k) k);rw [YG ht hk hb,List.append_nil];exact h
theorem Yl {l:List dY} (ht:nJ l) (hk:k<l.length) (ha:aP (aO l k) k=a) (h:Gd l L (xg l k 0)) (hb:uo a l.length=true):Gd l (L.set a.toNat (aU L a.toNat+1)) (xg l k 1):=by subst ha;show Gd l _ (tg l (List.range k)++fst (aO l k) k);rw [SE ht hk hb];exact h.step (CR hb).1
theorem abA {l:List dY} (ht:nJ l) (hk:k<l.length) (ha:aQ (aO l k)=a) (h:Gd l L (xg l k 1)) (hb:uo a l.length=false):Gd l L (xg l k 2):=by subst ha;show Gd l L ((tg l (List.range k)++fst (aO l k) k)++snd (aO l k));rw [aae ht hk hb,List.append_nil];exact h
theorem Ym {l:List dY} (ha:aQ (aO l k)=a) (h:Gd l L (xg l k 1)) (hb:uo a l.length=true):Gd l (L.set a.toNat (aU L a.toNat+1)) (xg l k 2):=by subst ha;show Gd l _ ((tg l (List.range k)++fst (aO l k) k)++snd (aO l k));rw [TP hb];exact h.step (CR hb).1
theorem VP (l:List dY) (k:Nat):xg l k 2=tg l (List.range (k+1)):=(G9 l k).symm
end Pu
namespace Pu
def jF (q:List Nat):List Int:=q.map (fun v:Nat=>(v:Int))
theorem ZC (q:List Nat):(jF q).length=q.length:=by simp [jF]
theorem ZB (q:List Nat) (t:Nat):aU (jF q) t=((q.getD t 0:Nat):Int):=by unfold aU jF;simp only [gd_,gm_];cases q[t]? <;> simp
theorem VC (q:List Nat) (a:Int) (h:0<=a):jF (q++[a.toNat])=jF q++[a]:=by simp [jF];omega
def qg (q:List Nat) (t:Nat):Nat:=q.getD t 0
def rest (l:List dY) (a:Nat):Nat->List Nat
 | 0=>fst (aO l a) a++snd (aO l a)
 | 1=>snd (aO l a)
 | _=>[]
theorem Vf {l:List dY} {t:Nat} (h:Inv l L q (q.take t) []) (ht:t<q.length):Inv l L q (q.take (t+1)) (rest l (qg q t) 0)/\qg q t<l.length:=by
 have e:q=q.take t++qg q t::q.drop (t+1):=by
  have h1:qg q t=q[t]:=by unfold qg;simp [gd_,ht]
  rw [h1,List.getElem_cons_drop,List.take_append_drop]
 have e2:q.take (t+1)=q.take t++[qg q t]:=by
  have h1:qg q t=q[t]:=by unfold qg;simp [gd_,ht]
  rw [h1,List.take_succ_eq_append_getElem ht]
 refine⟨?_,h.lt _ (by unfold qg;simp [gd_,ht])⟩;have h':Inv l L (q.take t++qg q t::q.drop (t+1)) (q.take t) []:=by rw [<-e];exact h
 have:=h'.take;rw [<-e,<-e2] at this;exact this
theorem ab0 {l:List dY} (ht:nJ l) (hk:k<l.length) (ha:aP (aO l k) k=a) (h:Inv l L q T (rest l k 0)) (hb:uo a l.length=false):Inv l L q T (rest l k 1):=by
 subst ha;have:rest l k 0=rest l k 1:=by show fst (aO l k) k++snd (aO l k)=snd (aO l k);rw [YG ht hk hb,List.nil_append]
 rw [<-this];exact h
theorem ab1 {l:List dY} (ht:nJ l) (hk:k<l.length) (ha:aQ (aO l k)=a) (h:Inv l L q T (rest l k 1)) (hb:uo a l.length=false):Inv l L q T (rest l k 2):=by
 subst ha;have:rest l k 1=rest l k 2:=by show snd (aO l k)=[];exact aae ht hk hb
 rw [<-this];exact h
theorem Y6 {l:List dY} {j:Nat} (h:Inv l L q T (rest l k j)) {v:Nat} (hv:v<l.length):0<=aU L v/\aU L v<=2*l.length+2:=by
 have h1:=h.cnt v hv;have h2:=List.count_le_length (a:=v) (l:=rest l k j++tg l (nt l.length T));have h3:=Q7 l (nt l.length T);have h4:=aeK l.length T
 have h5:(rest l k j).length<=2:=by
  have a1:=Jn (aO l k) k;have a2:=JW (aO l k)
  match j with
  | 0=>show (fst (aO l k) k++snd (aO l k)).length<=2;rw [la_];omega
  | 1=>show (snd (aO l k)).length<=2;omega
  | _+2=>show ([]:List Nat).length<=2;simp
 rw [la_] at h2;unfold aU;omega
theorem BP (L:List Int) (v:Nat) (y:Int) (h:v<L.length):aU (L.set v y) v=y:=by rw [YZ _ _ _ _ h,if_pos rfl]
theorem Y7 {l:List dY} (ht:nJ l) (hk:k<l.length) (ha:aP (aO l k) k=a) (h:Inv l L q T (rest l k 0)) (hb:uo a l.length=true) :
  ((aU L a.toNat-1 == 0)=true->Inv l (L.set a.toNat (aU L a.toNat-1)) (q++[a.toNat]) T (rest l k 1))/\((aU L a.toNat-1 == 0)=false->Inv l (L.set a.toNat (aU L a.toNat-1)) q T (rest l k 1)):=by
 subst ha;have e:rest l k 0=(aP (aO l k) k).toNat::rest l k 1:=by show fst (aO l k) k++snd (aO l k)=_;rw [SE ht hk hb];rfl
 rw [e] at h;have hv:=(CR hb).1;have:=h.step hv _ rfl;have g:((L.set (aP (aO l k) k).toNat (L.getD (aP (aO l k) k).toNat 0-1)).getD (aP (aO l k) k).toNat 0)=aU L (aP (aO l k) k).toNat-1:=BP L _ _ (by rw [h.len];exact hv);rw [g] at this;exact⟨fun hz=>this.1 (by simpa using hz),fun hz=>this.2.1 (by simpa using hz)⟩
theorem Y8 {l:List dY} (ha:aQ (aO l k)=a) (h:Inv l L q T (rest l k 1)) (hb:uo a l.length=true) :
  ((aU L a.toNat-1 == 0)=true->Inv l (L.set a.toNat (aU L a.toNat-1)) (q++[a.toNat]) T (rest l k 2))/\((aU L a.toNat-1 == 0)=false->Inv l (L.set a.toNat (aU L a.toNat-1)) q T (rest l k 2)):=by
 subst ha;have e:rest l k 1=(aQ (aO l k)).toNat::rest l k 2:=by show snd (aO l k)=_;rw [TP hb];rfl
 rw [e] at h;have hv:=(CR hb).1;have:=h.step hv _ rfl;have g:((L.set (aQ (aO l k)).toNat (L.getD (aQ (aO l k)).toNat 0-1)).getD (aQ (aO l k)).toNat 0)=aU L (aQ (aO l k)).toNat-1:=BP L _ _ (by rw [h.len];exact hv);rw [g] at this;exact⟨fun hz=>this.1 (by simpa using hz),fun hz=>this.2.1 (by simpa using hz)⟩
theorem SY {l:List dY} {t:Nat} (h:Inv l L q T (rest l k 2)) (hT:T.length=t):Inv l L q (q.take t) []/\t<=q.length:=by
 obtain⟨s,hs⟩:=h.pre;have:q.take t=T:=by rw [hs,<-hT];simp
 rw [this];exact⟨h,by rw [hs];simp;omega⟩
theorem ab2 {l:List dY} {t:Nat} (ht:nJ l) (h:Inv l L q (q.take t) []) (hl:t<=q.length) (he:¬t<q.length):(t<l.length↔¬wo l)/\t<=l.length:=by
 have e:t=q.length:=by omega
 subst e;rw [List.take_length] at h;exact⟨h.done ht,h.AP⟩
theorem Vg {l:List dY} (hc:Gd l L (tg l (List.range l.length))):Inv l L ((List.range l.length).filter (fun v=>aU L v == 0)) [] []:=Inv.start hc.1 hc.2 rfl
def fr (L:List Int) (k:Nat):List Nat:=(List.range k).filter (fun v=>aU L v == 0)
theorem aeh (L:List Int) (k:Nat):(fr L k).length<=k:=by unfold fr;have:=List.length_filter_le (fun v=>aU L v == 0) (List.range k);simpa using this
theorem YE (L:List Int) (k:Nat) (h:(aU L k == 0)=true):fr L (k+1)=fr L k++[k]:=by unfold fr;rw [List.range_succ,List.filter_append];simp [h]
theorem adl (L:List Int) (k:Nat) (h:(aU L k == 0)=false):fr L (k+1)=fr L k:=by unfold fr;rw [List.range_succ,List.filter_append];simp [h]
end Pu
namespace Pu
def bg (e:List Bool) (i:Nat):Bool:=e.getD i false
theorem agE {l:List dY} (h:(aO l i).op=1):oW l e i=bg e (i+1):=by unfold oW succ fst snd;have h':(l.getD i aS).op=1:=h;rw [if_pos (.inl h'),if_neg (by omega)];simp [bg]
theorem agF {l:List dY} (h:(aO l i).op=3):oW l e i=(bg e (i+1) && bg e (aO l i).bG.toNat):=by unfold oW succ fst snd;have h':(l.getD i aS).op=3:=h;rw [if_pos (.inr h'),if_pos (.inl h')];simp [bg,aO]
theorem agG {l:List dY} (h:(aO l i).op=4):oW l e i=bg e (aO l i).bG.toNat:=by unfold oW succ fst snd;have h':(l.getD i aS).op=4:=h;rw [if_neg (by omega),if_pos (.inr h')];simp [bg,aO]
theorem agD {l:List dY} (h1:(aO l i).op≠1) (h3:(aO l i).op≠3) (h4:(aO l i).op≠4):oW l e i=true:=by unfold oW succ fst snd;have h1':(l.getD i aS).op≠1:=h1;have h3':(l.getD i aS).op≠3:=h3;have h4':(l.getD i aS).op≠4:=h4;rw [if_neg (by simp only [not_or];exact⟨h1',h3'⟩),if_neg (by simp only [not_or];exact⟨h3',h4'⟩)];rfl
def Dn (l:List dY) (e:List Bool) (k:Nat):Prop:=∀i,i<l.length->i<k->bg e i=true\/oW l e i=false
theorem QC (l:List dY) (e:List Bool):Dn l e 0:=fun i _ h=>by omega
theorem xq {l:List dY} (h:Dn l e k) (hk:bg e k=true\/oW l e k=false):Dn l e (k+1):=fun i hi hk'=>by
 by_cases e':i=k
 .subst e';exact hk
 .exact h i hi (by omega)
theorem Qy {l:List dY} (h:Dn l e k) (hk:l.length<=k):Dn l e (k+1):=fun i hi _=>h i hi (by omega)
structure Pass (l:List dY) (e:List Bool) (more:Bool) (k L0:Nat):Prop where
 len:e.length=l.length
 sound:Dv l e
 le:e.count false<=L0
 lt:more=true->e.count false<L0
 quiet:more=false->Dn l e k
theorem Qq {l:List dY} (hl:e.length=l.length) (hs:Dv l e):Pass l e false 0 (e.count false):=
 ⟨hl,hs,di,fun h=>Bool.noConfusion h,fun _=>QC l e⟩
theorem xQ {l:List dY} {more:Bool} (h:Pass l e more k L0) (hk:k<l.length->bg e k=true\/oW l e k=false):Pass l e more (k+1) L0:=
 ⟨h.len,h.sound,h.le,h.lt,fun hm=>by
  by_cases hkl:k<l.length
  .exact xq (h.quiet hm) (hk hkl)
  .exact Qy (h.quiet hm) (by omega)⟩
theorem Nr {l:List dY} {more:Bool} (h:Pass l e more k L0) (hi:i<l.length) (hf:bg e i=false) (hb:oW l e i=true):Pass l (e.set i true) true (k+1) L0/\(e.set i true).count false+1=e.count false:=by
 have hi':i<e.length:=by rw [h.len];exact hi
 have hc:=count_set hi' hf;have hle:=h.le;exact⟨⟨by rw [le_];exact h.len,Wp h.sound hi' hf hb,by omega,fun _=>by omega,fun hm=>Bool.noConfusion hm⟩,hc⟩
theorem ZR {l:List dY} (ht:nJ l) (h:Pass l e false k L0) (hk:2*l.length<=k):(((e.count false:Nat):Int) == 0)=true↔wo l:=by
 rw [beq_iff_eq];constructor
 .intro h0;exact QS h.len h.sound (by omega)
 .intro hn;have:=stuck ht h.len (fun i hi=>h.quiet rfl i hi (by omega)) hn;omega
theorem count_le (e:List Bool):e.count false<=e.length:=List.count_le_length
end Pu
namespace Pu
def eb (e:Int):List Int:=[e % 256,e / 256]
def zU (r:mJ):List Int:=[r.emit,r.act,r.mode]
def Mt (x:dY):List Int:=[x.op,x.a,x.b,x.bG % 256,x.bG / 256]
def Ei (p:oC):List Int:=[87,82,(p.ents.length:Int),(p.rules.length:Int)]
def bq (p:oC) (k:Nat):List Int:=(Ei p++eb p.code.length)++(p.ents.take k).flatMap eb
def bC (p:oC) (k:Nat):List Int:=bq p p.ents.length++(p.rules.take k).flatMap zU
def bD (p:oC) (k:Nat):List Int:=bC p p.rules.length++(p.code.take k).flatMap Mt
def vN (p:oC):List Int:=bD p p.code.length
theorem Av {α:Type} (f:α->List Int) (l:List α) (d:α) (k:Nat) (hk:k<l.length):(l.take (k+1)).flatMap f=(l.take k).flatMap f++f (l.getD k d):=by rw [List.take_succ_eq_append_getElem hk,List.flatMap_append];simp [gd_,hk]
theorem uB {α:Type} (f:α->List Int) (c:Nat) (hf:∀x,(f x).length=c):∀(l:List α),(l.flatMap f).length=c*l.length
 | []=>by simp
 | x::r=>by rw [List.flatMap_cons,la_,hf,uB f c hf r,lc_,Nat.mul_succ];omega
theorem TZ (p:oC):bq p 0=Ei p++eb p.code.length:=by simp [bq]
theorem Ua (p:oC):bC p 0=bq p p.ents.length:=by simp [bC]
theorem Uc (p:oC):bD p 0=bC p p.rules.length:=by simp [bD]
theorem TY (p:oC) (k:Nat) (hk:k<p.ents.length):bq p (k+1)=bq p k++[aU p.ents k % 256,aU p.ents k / 256]:=by unfold bq;rw [Av eb p.ents 0 k hk,<-aa_];rfl
theorem T9 (p:oC) (k:Nat) (hk:k<p.rules.length):bC p (k+1)=bC p k++[(rg p.rules k).emit,(rg p.rules k).act,(rg p.rules k).mode]:=by unfold bC;rw [Av zU p.rules aY k hk,<-aa_];rfl
theorem Ub (p:oC) (k:Nat) (hk:k<p.code.length):bD p (k+1)=bD p k++[(aO p.code k).op,(aO p.code k).a,(aO p.code k).b,(aO p.code k).bG % 256,(aO p.code k).bG / 256]:=by unfold bD;rw [Av Mt p.code aS k hk,<-aa_];rfl
theorem Rn (p:oC) (k:Nat) (hk:k<=p.ents.length):(bq p k).length=6+2*k:=by unfold bq;rw [la_,uB eb 2 (fun _=>rfl),List.length_take];simp [Ei,eb];omega
theorem Ro (p:oC) (k:Nat) (hk:k<=p.rules.length):(bC p k).length=6+2*p.ents.length+3*k:=by unfold bC;rw [la_,uB zU 3 (fun _=>rfl),List.length_take,Rn p _ di];omega
theorem FY (p:oC) (k:Nat) (hk:k<=p.code.length):(bD p k).length=6+2*p.ents.length+3*p.rules.length+5*k:=by unfold bD;rw [la_,uB Mt 5 (fun _=>rfl),List.length_take,Ro p _ di];omega
theorem Bf {p:oC} (h:iy p) (hk:k<p.ents.length):0<=aU p.ents k/\aU p.ents k<=65535:=by have h1:=h.1.2 k hk;have h2:=h.2.2.1.1;omega
theorem yM {p:oC} (h:iy p) (hk:k<p.rules.length):(0<=(rg p.rules k).emit/\(rg p.rules k).emit<=255)/\(0<=(rg p.rules k).act/\(rg p.rules k).act<=255)/\(0<=(rg p.rules k).mode/\(rg p.rules k).mode<=255):=by have h1:=h.2.1.2 k hk;have h2:=h.1.1;unfold tJ at h1;omega
theorem Bg {p:oC} (h:iy p) (hk:k<p.code.length):(0<=(aO p.code k).op/\(aO p.code k).op<=255)/\(0<=(aO p.code k).a/\(aO p.code k).a<=255)/\(0<=(aO p.code k).b/\(aO p.code k).b<=255)/\(0<=(aO p.code k).bG/\(aO p.code k).bG<=65535):=by have h1:=h.2.2.1.2.1 k hk;have h2:=h.2.1.1;have h3:=h.2.2.1.1;unfold rz at h1;omega
end Pu
end Go.Proofs.YtmccnmgaoppogaaGreat
