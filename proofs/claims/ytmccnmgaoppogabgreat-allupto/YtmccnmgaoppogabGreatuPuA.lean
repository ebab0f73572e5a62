namespace Go.Proofs.YtmccnmgaoppogabGreat
theorem o_{p:Prop}(h:p:=by omega):p:=h
theorem d_{p:Prop}(h:p:=by decide):p:=h
theorem i_{p:Prop}(h:p:=by simp):p:=h
theorem r_{p:Prop}(h:p:=by rfl):p:=h
theorem y_{p:Prop}(h:p:=by assumption):p:=h
abbrev gg_:=@List.getElem?_eq_getElem
abbrev ge_:=@List.getElem?_eq_some_iff
abbrev gd_:=@List.getD_eq_getElem?_getD
abbrev la_:=@List.length_append
abbrev oi_:=@Option.some.inj
abbrev ar_:=@List.getElem?_append_right
abbrev al_:=@List.getElem?_append_left
abbrev mg_:=@List.mem_of_getElem?
abbrev sb_:=@List.setIfInBounds_toArray
abbrev zl_:=@Nat.zero_le
abbrev dt_:=@decide_eq_true
abbrev dn_:=@decide_eq_false
abbrev mc_:=@List.mem_cons_of_mem
abbrev cs_:=@List.getElem?_cons_succ
abbrev gm_:=@List.getElem?_map
abbrev lt_:=@Nat.le_trans
abbrev ma_:=@List.mem_append
abbrev tn_:=@Int.toNat_natCast
abbrev lc_:=@List.length_cons
abbrev ss_:=@List.set_cons_succ
abbrev sz_:=@List.set_cons_zero
abbrev aa_:=@List.append_assoc
abbrev lm_:=@List.length_map
abbrev ms_:=@List.mem_cons_self
abbrev gf_:=@List.getElem?_of_mem
abbrev ls_:=@Nat.lt_succ_self
abbrev mm_:=@List.mem_cons
abbrev ll_:=@Nat.le_of_lt
abbrev gn_:=@List.getElem?_eq_none
abbrev gt_:=@List.getElem_toArray
abbrev cz_:=@List.getElem_cons_zero
abbrev ln_:=@List.length_nil
abbrev lp_:=@List.length_replicate
abbrev le_:=@List.length_set
variable {L0 i k n:Nat} {e:List Bool} {T q:List Nat} {L:List Int} {a b:Int}
namespace Pu
end Pu
open Pu
set_option linter.all false
theorem dF:n<=n:=Nat.le_refl n
theorem oL(a b:Int)(h:a<b:=by omega):decide (a<b)=true:=dt_ h
theorem nI(a b:Int)(h:¬a<b:=by omega):decide (a<b)=false:=dn_ h
theorem jJ(k:Nat):(0:Int)<=(k:Int):=o_
theorem rG{α:Type}(l:List α)(i:Nat)(h:i<l.length:=by omega):∃x,l[i]?=some x:=⟨_,gg_ h⟩
theorem oQ:(∀{α:Type} (l:List α) (i:Nat) (h:i<l.toArray.size),l.toArray[i]=l[i]'(by simpa using h))/\(∀{α:Type} (a:α) (as:List α) (i:Nat) (h:i+1<(a::as).length),(a::as)[i+1]=as[i]'(Nat.lt_of_succ_lt_succ h))/\(∀{α:Type} (a:α) (as:List α) (h:0<(a::as).length),(a::as)[0]=a)/\(∀{α:Type} (l:List α) (i:Nat) (a:α),l.toArray.setIfInBounds i a=(l.set i a).toArray)/\(∀{α:Type} (b:α) (as:List α) (a:α),(b::as).set 0 a=a::as)/\(∀{α:Type} (b:α) (as:List α) (n:Nat) (a:α),(b::as).set (n+1) a=b::as.set n a):=⟨fun _ _ _=>gt_ _,fun _ _ _ _=>rfl,fun _ _ _=>rfl,fun _ _ _=>sb_ ..,fun _ _ _=>rfl,fun _ _ _ _=>rfl⟩
namespace Pu
structure ed where
 op:Int
 a:Int
 b:Int
 bH:Int
structure mg where
 emit:Int
 act:Int
 mode:Int
structure lZ where
 ents:List Int
 rules:List mg
 code:List ed
def aS:ed:=⟨0,0,0,0⟩
def aY:mg:=⟨0,0,0⟩
def fst(x:ed)(i:Nat):List Nat:=if x.op=1\/x.op=3 then [i+1] else []
def snd(x:ed):List Nat:=if x.op=3\/x.op=4 then [x.bH.toNat] else []
def succ(l:List ed)(i:Nat):List Nat:=fst (l.getD i aS) i++snd (l.getD i aS)
def wW(l:List ed):Prop:=∃c:Nat->Nat,∀i,i<l.length->∀j,j∈succ l i->c j<c i
def oH(l:List ed):Prop:=∀i,i<l.length->
 (((l.getD i aS).op=1\/(l.getD i aS).op=3)->i+1<l.length)/\
 (((l.getD i aS).op=3\/(l.getD i aS).op=4)->0<=(l.getD i aS).bH/\(l.getD i aS).bH<l.length)
theorem oH.lt{l:List ed}(h:oH l){j:Nat}(f:i<l.length)(c:j∈succ l i):j<l.length:=by
 have:=h i f;unfold succ fst snd at c;rw[ma_]at c;rcases c with c | c
 .split at c
  .rename_i d;simp at c;have:=this.1 d;omega
  .simp at c
 .split at c
  .rename_i d;rw[List.mem_singleton]at c;have:=this.2 d;omega
  .simp at c
def qc(l:List ed)(e:List Bool)(i:Nat):Bool:=(succ l i).all (fun j=>e.getD j false)
def E8(l:List ed)(e:List Bool):Prop:=∃c:Nat->Nat,∀i,i<l.length->e.getD i false=true->
 ∀j,j∈succ l i->e.getD j false=true/\c j<c i
theorem tF{α:Type}(l:List α)(i k:Nat)(v d:α)(c:i<l.length):(l.set i v).getD k d=if k=i then v else l.getD k d:=by
 simp only[gd_,List.getElem?_set];by_cases h:i=k
 .subst h;simp[c]
 .rw [if_neg h,if_neg (fun e=>h e.symm)]
theorem Uh(l:List ed)(n:Nat):E8 l (List.replicate n false):=by refine⟨fun _=>0,fun i _ h=>?_⟩;exfalso;simp only[gd_,List.getElem?_replicate]at h;split at h <;> simp at h
def ME(c:Nat->Nat):List Nat->Nat
 | []=>0
 | j::r=>c j+ME c r
theorem LJ(c:Nat->Nat):∀(s:List Nat) (j:Nat),j∈s->c j<=ME c s
 | x::r,j,h=>by
  rcases mm_.1 h with h | h
  .subst h;simp[ME]
  .have:=LJ c r j h;simp[ME];omega
theorem YY{l:List ed}(h:E8 l e)(u:i<e.length)(t:e.getD i false=false)(s:qc l e i=true):E8 l (e.set i true):=by
 obtain⟨r,w⟩:=h;refine⟨fun x=>if x=i then 1+ME r (succ l i) else r x,fun k v c j p=>?_⟩;rw[tF _ _ _ _ _ u]at c;rw[tF _ _ _ _ _ u];by_cases g:k=i
 .subst g;have d:e.getD j false=true:=by unfold qc at s;exact (List.all_eq_true.1 s) j p
  have f:j≠k:=by intro x;subst x;rw[t]at d;cases d
  have:=LJ r _ j p;simp only[if_neg f,if_pos];exact⟨d,o_⟩
 .rw [if_neg g]at c;have:=w k v c j p;have f:j≠i:=by intro x;subst x;rw[t]at this;cases this.1
  simp only[if_neg f,if_neg g];exact this
theorem count_set:∀{i:Nat},i<e.length->e.getD i false=false->(e.set i true).count false+1=e.count false:=by
 induction e with
 | nil=>intro i d _;simp at d
 | cons x r f=>
  intro i d c;cases i with
  | zero=>simp at c;subst c;simp
  | succ i=>simp only[lc_]at d;have:=f (i:=i) o_ (by simpa using c);simp only[ss_,List.count_cons];omega
theorem Ry(h:e.count false=0)(c:i<e.length):e.getD i false=true:=by
 cases hb:e.getD i false with
 | true=>rfl
 | false=>have:=count_set c hb;omega
theorem Ug{l:List ed}(r:e.length=l.length)(h:E8 l e)(c:e.count false=0):wW l:=by obtain⟨p,g⟩:=h;exact⟨p,fun i d j f=>(g i d (Ry c o_) j f).2⟩
theorem Wx:e.count false≠0->∃i,i<e.length/\e.getD i false=false:=by
 induction e with
 | nil=>intro h;simp at h
 | cons x r d=>
  intro h;cases x with
  | false=>exact⟨0,i_,i_⟩
  | true=>
   simp at h;have:r.count false≠0:=by simpa using h
   obtain⟨i,f,c⟩:=d this;exact⟨i+1,by simp;omega,by simpa using c⟩
theorem stuck{l:List ed}(v:oH l)(y:e.length=l.length)(h:∀i,i<l.length->e.getD i false=true\/qc l e i=false)(u:wW l):e.count false=0:=by
 obtain⟨r,p⟩:=u;have g:∀m i,i<l.length->r i<=m->e.getD i false=true:=by
  intro m;induction m with
  | zero=>
   intro i c t;rcases h i c with h1 | h1
   .exact h1
   .unfold qc at h1;obtain⟨j,d,_⟩:=List.all_eq_false.1 h1;have:=p i c j d;omega
  | succ m w=>
   intro i c t;rcases h i c with h1 | h1
   .exact h1
   .unfold qc at h1;obtain⟨j,d,f⟩:=List.all_eq_false.1 h1;have x:=p i c j d;have s:=w j (v.lt c d) o_;exact absurd s f
 apply Classical.byContradiction;intro f;obtain⟨i,c,d⟩:=Wx f;have:=g (r i) i o_ dF;rw[d]at this;cases this
theorem qY:∀(n:Nat) (q:List Nat),q.Nodup->(∀v,v∈q->v<n)->q.length<=n
 | 0,q,_,h=>by
  cases q with
  | nil=>simp
  | cons x r=>have:=h x i_;omega
 | n+1,q,hd,h=>by
  by_cases d:n∈q
  .have:=qY n (q.erase n) (hd.erase n) (fun v c=>by
    have f:=h v (List.mem_of_mem_erase c);have g:v≠n:=by intro e;subst e;exact (List.Nodup.not_mem_erase hd) c
    omega)
   rw[List.length_erase_of_mem d]at this;omega
  .have:=qY n q hd (fun v c=>by
    have f:=h v c;have g:v≠n:=by intro e;subst e;exact d c
    omega)
   omega
theorem UY:∀(n:Nat) (q:List Nat),(∀v,v<n->v∈q)->n<=q.length
 | 0,_,_=>zl_ _
 | n+1,q,h=>by have c:=h n o_;have:=UY n (q.erase n) (fun v d=>(List.mem_erase_of_ne o_).2 (h v o_));rw[List.length_erase_of_mem c]at this;have:0<q.length:=List.length_pos_of_mem c;omega
def tg(l:List ed)(c:List Nat):List Nat:=c.flatMap (succ l)
def nt(n:Nat)(T:List Nat):List Nat:=(List.range n).filter (fun u=>!T.contains u)
theorem Tf{u:Nat}:u∈nt n T↔u<n/\u∉T:=by unfold nt;simp[List.mem_filter]
theorem nodup_range(n:Nat):(List.range n).Nodup:=List.nodup_range
theorem ab5(n:Nat):nt n []=List.range n:=by unfold nt;simp
theorem uN(l:List ed)(u:Nat)(c:List Nat)(v:Nat):(tg l (u::c)).count v=(succ l u).count v+(tg l c).count v:=by unfold tg;rw[List.flatMap_cons,List.count_append]
theorem xQ(l:List ed)(v:Nat)(a:Nat):∀(d:List Nat),d.Nodup->a∈d->(tg l d).count v=(succ l a).count v+(tg l (d.filter (fun u=>u != a))).count v
 | u::r,hd,hm=>by
  have c:=List.nodup_cons.1 hd;by_cases h:u=a
  .subst h;have:(u::r).filter (fun x=>x != u)=r:=by rw[List.filter_cons];simp;intro x g f;subst f;exact c.1 g
   rw[this,uN]
  .have f:a∈r:=by
    rcases mm_.1 hm with e | e
    .exact absurd e.symm h
    .exact e
   have g:=xQ l v a r c.2 f;have:(u::r).filter (fun x=>x != a)=u::r.filter (fun x=>x != a):=by rw[List.filter_cons];simp[h]
   rw[this,uN,uN,g];omega
theorem aeM(n:Nat)(T:List Nat)(a:Nat):nt n (T++[a])=(nt n T).filter (fun u=>u != a):=by unfold nt;rw[List.filter_filter];apply List.filter_congr;intro u _;simp only[List.contains_eq_mem,ma_,List.mem_singleton];by_cases c:u∈T <;> by_cases d:u=a <;> simp[c,d]
theorem ab6(n:Nat)(T:List Nat):(nt n T).Nodup:=(nodup_range n).filter _
structure Inv(l:List ed)(L:List Int)(q T rest:List Nat):Prop where
 len:L.length=l.length
 nd:q.Nodup
 lt:∀v,v∈q->v<l.length
 pre:∃s,q=T++s
 cnt:∀v,v<l.length->L.getD v 0=((rest++tg l (nt l.length T)).count v:Nat)
 mem:∀v,v<l.length->(v∈q↔(rest++tg l (nt l.length T)).count v=0)
 ord:∀a v b,q=a++v::b->∀i,i<l.length->v∈succ l i->i∈a
theorem Inv.take{l:List ed}{s:List Nat}{a:Nat}(h:Inv l L (T++a::s) T []):Inv l L (T++a::s) (T++[a]) (succ l a):=by
 have g:a<l.length:=h.lt a i_;have f:a∉T:=by have:=h.nd;rw[List.nodup_append]at this;intro c;exact this.2.2 a c a i_ rfl
 have c:∀v,(succ l a++tg l (nt l.length (T++[a]))).count v=(([]:List Nat)++tg l (nt l.length T)).count v:=by intro v;rw[List.nil_append,List.count_append,aeM,xQ l v a (nt l.length T) (ab6 _ _) (Tf.2 ⟨g,f⟩)]
 refine⟨h.len,h.nd,h.lt,⟨s,i_⟩,fun v d=>?_,fun v d=>?_,h.ord⟩
 .rw [c];exact h.cnt v d
 .rw [c];exact h.mem v d
theorem Inv.step{l:List ed}{L:List Int}{q T rest:List Nat}{v:Nat}(h:Inv l L q T (v::rest))(u:v<l.length)(d:List Int)(H:d=L.set v (L.getD v 0-1)) :
  (d.getD v 0=0->Inv l d (q++[v]) T rest)/\(d.getD v 0≠0->Inv l d q T rest)/\L.getD v 0=((rest++tg l (nt l.length T)).count v:Nat)+1:=by
 subst H;have I:v<L.length:=by rw[h.len];exact u
 have f:∀x,((v::rest)++tg l (nt l.length T)).count x=(rest++tg l (nt l.length T)).count x+if v=x then 1 else 0:=by intro x;rw[List.cons_append,List.count_cons];simp
 have w:=h.cnt v u;rw[f v,if_pos rfl]at w;have t:∀x,x<l.length->(L.set v (L.getD v 0-1)).getD x 0=((rest++tg l (nt l.length T)).count x:Nat):=by
  intro x c;rw[tF _ _ _ _ _ I];by_cases e:x=v
  .subst e;rw[if_pos rfl,w];omega
  .rw [if_neg e,h.cnt x c,f x,if_neg (fun y=>e y.symm)];simp
 have j:v∉q:=by intro g;have:=(h.mem v u).1 g;rw[f v,if_pos rfl]at this;omega
 have G:(L.set v (L.getD v 0-1)).length=l.length:=by rw[le_];exact h.len
 refine⟨fun D=>?_,fun D=>?_,by rw[w];omega⟩
 .rw [t v u]at D;have r:(rest++tg l (nt l.length T)).count v=0:=o_;obtain⟨s,F⟩:=h.pre;refine⟨G,?_,?_,⟨s++[v],by rw[F];simp⟩,t,?_,?_⟩
  .rw [List.nodup_append];refine⟨h.nd,i_,?_⟩;intro a g b c;simp at c;subst c;intro e;subst e;exact j g
  .intro x c;rcases ma_.1 c with c | c
   .exact h.lt x c
   .simp at c;omega
  .intro x c;by_cases e:x=v
   .subst e;simp[r]
   .have:=h.mem x c;rw[f x,if_neg (fun y=>e y.symm)]at this;rw[<-Nat.add_zero ((rest++tg l (nt l.length T)).count x),<-this];simp[e]
  .intro a x b C i E p;rcases List.eq_nil_or_concat b with c | ⟨b',y,c⟩
   .subst c;have z:q=a/\v=x:=by have:=List.append_inj' C i_;exact⟨this.1,by simpa using this.2⟩
    obtain⟨rfl,rfl⟩:=z;rw[F];apply Classical.byContradiction;intro B;have A:i∉T:=fun g=>B (List.mem_append_left _ g);have:v∈rest++tg l (nt l.length T):=by apply List.mem_append_right;unfold tg;exact List.mem_flatMap.2 ⟨i,Tf.2 ⟨E,A⟩,p⟩
    exact absurd r (Nat.ne_of_gt (List.count_pos_iff.2 this))
   .subst c;have z:q=a++x::b':=by rw[List.concat_eq_append,<-List.cons_append,<-aa_]at C;exact (List.append_inj' C i_).1
    exact h.ord a x b' z i E p
 .refine⟨G,h.nd,h.lt,h.pre,t,?_,h.ord⟩;intro x c;by_cases e:x=v
  .subst e;constructor
   .intro g;exact absurd g j
   .intro g;exact absurd (by rw[t x c,g];rfl) D
  .have:=h.mem x c;rw[f x,if_neg (fun y=>e y.symm)]at this;rw[this];omega
theorem Inv.Ck{l:List ed}{rest:List Nat}(h:Inv l L q T rest):q.length<=l.length:=qY _ q h.nd h.lt
theorem ag7(q a b:List Nat)(v i:Nat)(h:q=a++v::b)(f:q.Nodup)(d:i∈a):q.idxOf i<q.idxOf v:=by
 subst h;rw[List.nodup_append]at f;have c:v∉a:=fun g=>f.2.2 v g v i_ rfl;rw[List.idxOf_append,if_pos d,List.idxOf_append,if_neg c];have:=List.idxOf_lt_length_of_mem d;omega
theorem Inv.done{l:List ed}{L:List Int}{q:List Nat}(D:oH l)(h:Inv l L q q []):(q.length<l.length↔¬wW l):=by
 constructor
 .intro B p;obtain⟨d,C⟩:=p;obtain⟨u,z,j⟩:∃u,u<l.length/\u∉q:=by
   apply Classical.byContradiction;intro c;have:=UY l.length q (fun v r=>by
    apply Classical.byContradiction;intro f;exact c ⟨v,r,f⟩)
   omega
  have bound:∀x,x<l.length->d x<=ME d (List.range l.length):=fun x g=>LJ d _ x (List.mem_range.2 g);have t:∀m x,x<l.length->x∉q->d x+m=ME d (List.range l.length)->False:=by
   intro m;induction m using Nat.strongRecOn with
   | ind m F=>
    intro x g r w;have G:(tg l (nt l.length q)).count x≠0:=by intro c;exact r ((h.mem x g).2 (by simpa using c))
    have f:x∈tg l (nt l.length q):=List.count_pos_iff.1 o_;unfold tg at f;obtain⟨y,E,s⟩:=List.mem_flatMap.1 f;have c:=Tf.1 E;have v:=C y c.1 x s;have A:=bound y c.1;exact F (ME d (List.range l.length)-d y) o_ y c.1 c.2 o_
  exact t (ME d (List.range l.length)-d u) u z j (by have:=bound u z;omega)
 .intro p;apply Classical.byContradiction;intro t;apply p;have c:∀v,v<l.length->v∈q:=by
   intro v r;apply Classical.byContradiction;intro w;have:=qY l.length (v::q) (List.nodup_cons.2 ⟨w,h.nd⟩) (fun x g=>by
    rcases mm_.1 g with e | e
    .omega
    .exact h.lt x e)
   simp at this;omega
  refine⟨fun x=>l.length-q.idxOf x,fun i g j r=>?_⟩;have d:j<l.length:=D.lt g r;obtain⟨a,b,s⟩:=List.append_of_mem (c j d);have f:=h.ord a j b s i g r;have v:=ag7 q a b j i s h.nd f;have A:=List.idxOf_lt_length_of_mem (c j d);have u:=h.Ck;show l.length-q.idxOf j<l.length-q.idxOf i;omega
theorem Inv.start{l:List ed}(r:L.length=l.length)(f:∀v,v<l.length->L.getD v 0=((tg l (List.range l.length)).count v:Nat))
  (s:q=(List.range l.length).filter (fun v=>L.getD v 0 == 0)):Inv l L q [] []:=by
 subst s;refine⟨r,(nodup_range _).filter _,fun v c=>?_,⟨_,rfl⟩,fun v c=>?_,fun v c=>?_,?_⟩
 .exact List.mem_range.1 (List.mem_filter.1 c).1
 .rw [List.nil_append,ab5];exact f v c
 .rw [List.nil_append,ab5,List.mem_filter,List.mem_range,beq_iff_eq,f v c];constructor
  .intro h;omega
  .intro h;exact⟨c,o_⟩
 .intro a v b d i p g;exfalso;have c:v∈(List.range l.length).filter (fun v=>L.getD v 0 == 0):=by rw[d];simp
  obtain⟨h,j⟩:=List.mem_filter.1 c;rw[beq_iff_eq,f v (List.mem_range.1 h)]at j;have:v∈tg l (List.range l.length):=List.mem_flatMap.2 ⟨i,List.mem_range.2 p,g⟩;have:=List.count_pos_iff.2 this;omega
def uM(m:Nat)(r:mg):Prop:=(r.emit=0\/r.emit=1)/\(0<=r.act/\r.act<=3)/\(0<=r.mode/\r.mode<m)/\(r.act=1\/r.act=2\/r.mode=0)
def qm(k n:Nat)(x:ed):Prop:=
 (x.op=1/\0<=x.a/\x.a<k/\x.b=0/\x.bH=0)\/((x.op=2\/x.op=5)/\x.a=0/\x.b=0/\x.bH=0)\/
 (x.op=3/\0<=x.a/\x.a<=x.b/\x.b<=255/\0<=x.bH/\x.bH<n)\/(x.op=4/\x.a=0/\x.b=0/\0<=x.bH/\x.bH<n)
def ZQ(l:List ed):Prop:=(l.getD (l.length-1) aS).op=4\/(l.getD (l.length-1) aS).op=5
theorem acM{l:List ed}(h:∀i,i<l.length->qm k l.length (l.getD i aS))(d:ZQ l):oH l:=by
 intro i j;have f:=h i j;unfold ZQ at d;refine⟨fun p=>?_,fun p=>?_⟩
 .by_cases e:i=l.length-1
  .rw [<-e]at d;omega
  .omega
 .unfold qm at f;rcases f with ⟨c,_⟩ | ⟨c,_⟩ | ⟨c,_,_,_,g⟩ | ⟨c,_,_,g⟩ <;> omega
end Pu
namespace Pu
def aP(x:ed)(i:Int):Int:=if x.op=1\/x.op=3 then i+1 else -1
def aQ(x:ed):Int:=if x.op=3\/x.op=4 then x.bH else -1
def qK(a b:Int):Bool:=decide (0<=a/\a<b)
theorem aar(h:0<=a/\a<b):qK a b=true:=dt_ h
theorem Jh(h:¬(0<=a/\a<b)):qK a b=false:=dn_ h
theorem yn(h:qK a b=true):0<=a/\a<b:=of_decide_eq_true h
theorem zR(h:qK a b=false):¬(0<=a/\a<b):=of_decide_eq_false h
def aU(l:List Int)(i:Nat):Int:=l.getD i 0
def rg(l:List mg)(i:Nat):mg:=l.getD i aY
def aO(l:List ed)(i:Nat):ed:=l.getD i aS
def EN(l:List Int)(n:Nat):Prop:=(1<=l.length/\l.length<=4)/\∀i,i<l.length->0<=aU l i/\aU l i<n
def uo(l:List mg)(m:Nat):Prop:=(1<=l.length/\l.length<=16)/\∀i,i<l.length->uM m (rg l i)
def uI(l:List ed)(k:Nat):Prop:=(1<=l.length/\l.length<=50000)/\(∀i,i<l.length->qm k l.length (aO l i))/\((aO l (l.length-1)).op=4\/(aO l (l.length-1)).op=5)
def gu(p:lZ):Prop:=EN p.ents p.code.length/\uo p.rules p.ents.length/\uI p.code p.rules.length/\wW p.code
theorem uI.tight{l:List ed}(h:uI l k):oH l:=acM (k:=k) h.2.1 h.2.2
theorem eF{P:Prop}(h:¬P):(false=true↔P):=⟨fun c=>Bool.noConfusion c,fun c=>absurd c h⟩
theorem uH{P:Prop}(h:P):(true=true↔P):=⟨fun _=>h,fun _=>rfl⟩
theorem FH{l:List Int}(h:¬(1<=l.length/\l.length<=4)):¬EN l n:=fun c=>h c.1
theorem aaI{l:List Int}(d:k<l.length)(h:¬(0<=aU l k/\aU l k<n)):¬EN l n:=fun c=>h (c.2 k d)
theorem Dx{l:List mg}{m:Nat}(h:¬(1<=l.length/\l.length<=16)):¬uo l m:=fun c=>h c.1
theorem Yx{l:List mg}{m:Nat}(d:k<l.length)(h:¬uM m (rg l k)):¬uo l m:=fun c=>h (c.2 k d)
theorem Fs{l:List ed}(h:¬(1<=l.length/\l.length<=50000)):¬uI l k:=fun c=>h c.1
theorem aaE{l:List ed}(d:i<l.length)(h:¬qm k l.length (aO l i)):¬uI l k:=fun c=>h (c.2.1 i d)
theorem Wv{l:List ed}(h:¬((aO l (l.length-1)).op=4\/(aO l (l.length-1)).op=5)):¬uI l k:=fun c=>h c.2.2
theorem sQ{P:Nat->Prop}(h:∀j,j<k->P j)(c:P k):∀j,j<k+1->P j:=fun j d=>by
 by_cases e:j=k
 .subst e;exact c
 .exact h j o_
end Pu
namespace Pu
def Ic(l:List ed)(L:List Int)(c:List Nat):Prop:=L.length=l.length/\∀v,v<l.length->aU L v=((c.count v:Nat):Int)
theorem Wu(l:List ed):Ic l (List.replicate l.length 0) []:=by refine⟨i_,fun v c=>?_⟩;unfold aU;simp[gd_,c]
theorem abm(L:List Int)(v:Nat)(y:Int)(k:Nat)(c:v<L.length):aU (L.set v y) k=if k=v then y else aU L k:=tF L v k y 0 c
theorem Ic.step{l:List ed}{L:List Int}{d:List Nat}(h:Ic l L d){v:Nat}(f:v<l.length):Ic l (L.set v (aU L v+1)) (d++[v]):=by
 refine⟨by simp[h.1],fun x c=>?_⟩;rw[abm _ _ _ _ (by rw[h.1];exact f),List.count_append];by_cases e:x=v
 .subst e;rw[if_pos rfl,h.2 x c];simp
 .rw [if_neg e,h.2 x c];have:[v].count x=0:=by simp[List.count_cons];omega
  omega
theorem Lr(x:ed)(i:Nat):(fst x i).length<=1:=by unfold fst;split <;> simp
theorem MB(x:ed):(snd x).length<=1:=by unfold snd;split <;> simp
theorem acI(l:List ed)(i:Nat):(succ l i).length<=2:=by unfold succ;rw[la_];have:=Lr (l.getD i aS) i;have:=MB (l.getD i aS);omega
theorem Uq(l:List ed):∀c:List Nat,(tg l c).length<=2*c.length
 | []=>by simp[tg]
 | u::r=>by have:=Uq l r;have d:=acI l u;unfold tg at this |-;rw[List.flatMap_cons,la_,lc_];omega
theorem ahi(n:Nat)(T:List Nat):(nt n T).length<=n:=by unfold nt;have:=List.length_filter_le (fun u=>!T.contains u) (List.range n);simp at this;simpa using this
theorem Ic.bd{l:List ed}{c:List Nat}(h:Ic l L c){v:Nat}(d:v<l.length):0<=aU L v/\aU L v<=c.length:=by rw[h.2 v d];have:=List.count_le_length (a:=v) (l:=c);omega
theorem Vj{l:List ed}(d:oH l)(c:k<l.length)(h:qK (aP (aO l k) k) l.length=true):fst (aO l k) k=[(aP (aO l k) k).toNat]:=by
 have:=yn h;unfold aP at this h |-
 unfold fst;split
 .simp only[List.cons.injEq,and_true];omega
 .rename_i f;rw[if_neg f]at this;omega
theorem aaV{l:List ed}(j:oH l)(g:k<l.length)(h:qK (aP (aO l k) k) l.length=false):fst (aO l k) k=[]:=by
 have c:=zR h;have f:=(j k g).1;unfold fst;split
 .rename_i d;have:=f d;unfold aP at c;rw[if_pos d]at c;omega
 .rfl
theorem VN{l:List ed}(h:qK (aQ (aO l k)) l.length=true):snd (aO l k)=[(aQ (aO l k)).toNat]:=by
 have:=yn h;unfold aQ at this h |-
 unfold snd;split
 .rfl
 .rename_i c;rw[if_neg c]at this;omega
theorem acz{l:List ed}(j:oH l)(g:k<l.length)(h:qK (aQ (aO l k)) l.length=false):snd (aO l k)=[]:=by
 have c:=zR h;have f:=(j k g).2;unfold snd;split
 .rename_i d;have:=f d;unfold aQ at c;rw[if_pos d]at c;exact absurd this c
 .rfl
theorem IZ(l:List ed)(k:Nat):tg l (List.range (k+1))=(tg l (List.range k)++fst (aO l k) k)++snd (aO l k):=by unfold tg;rw[List.range_succ,List.flatMap_append,aa_];simp[succ,aO]
theorem Et(h:qK a n=true):a.toNat<n/\0<=a:=by have:=yn h;omega
def yt(l:List ed)(k:Nat):Nat->List Nat
 | 0=>tg l (List.range k)
 | 1=>tg l (List.range k)++fst (aO l k) k
 | _=>(tg l (List.range k)++fst (aO l k) k)++snd (aO l k)
theorem JQ(l:List ed)(k j:Nat):(yt l k j).length<=2*k+2:=by
 have h:=Uq l (List.range k);have c:=Lr (aO l k) k;have d:=MB (aO l k);rw[List.length_range]at h
 match j with
 | 0=>show (tg l (List.range k)).length<=_;omega
 | 1=>show (tg l (List.range k)++fst (aO l k) k).length<=_;rw[la_];omega
 | _+2=>show ((tg l (List.range k)++fst (aO l k) k)++snd (aO l k)).length<=_;rw[la_,la_];omega
theorem adY{l:List ed}(g:oH l)(f:k<l.length)(c:aP (aO l k) k=a)(h:Ic l L (yt l k 0))(d:qK a l.length=false):Ic l L (yt l k 1):=by subst c;show Ic l L (tg l (List.range k)++fst (aO l k) k);rw[aaV g f d,List.append_nil];exact h
theorem aaB{l:List ed}(g:oH l)(f:k<l.length)(d:aP (aO l k) k=a)(h:Ic l L (yt l k 0))(c:qK a l.length=true):Ic l (L.set a.toNat (aU L a.toNat+1)) (yt l k 1):=by subst d;show Ic l _ (tg l (List.range k)++fst (aO l k) k);rw[Vj g f c];exact h.step (Et c).1
theorem adZ{l:List ed}(g:oH l)(f:k<l.length)(c:aQ (aO l k)=a)(h:Ic l L (yt l k 1))(d:qK a l.length=false):Ic l L (yt l k 2):=by subst c;show Ic l L ((tg l (List.range k)++fst (aO l k) k)++snd (aO l k));rw[acz g f d,List.append_nil];exact h
theorem aaC{l:List ed}(d:aQ (aO l k)=a)(h:Ic l L (yt l k 1))(c:qK a l.length=true):Ic l (L.set a.toNat (aU L a.toNat+1)) (yt l k 2):=by subst d;show Ic l _ ((tg l (List.range k)++fst (aO l k) k)++snd (aO l k));rw[VN c];exact h.step (Et c).1
theorem Yh(l:List ed)(k:Nat):yt l k 2=tg l (List.range (k+1)):=(IZ l k).symm
end Pu
namespace Pu
def jK(q:List Nat):List Int:=q.map (fun v:Nat=>(v:Int))
theorem ab1(q:List Nat):(jK q).length=q.length:=by simp[jK]
theorem ab0(q:List Nat)(t:Nat):aU (jK q) t=((q.getD t 0:Nat):Int):=by unfold aU jK;simp only[gd_,gm_];cases q[t]? <;> simp
theorem XT(q:List Nat)(a:Int)(h:0<=a):jK (q++[a.toNat])=jK q++[a]:=by simp[jK];omega
def qg(q:List Nat)(t:Nat):Nat:=q.getD t 0
def rest(l:List ed)(a:Nat):Nat->List Nat
 | 0=>fst (aO l a) a++snd (aO l a)
 | 1=>snd (aO l a)
 | _=>[]
theorem Xp{l:List ed}{t:Nat}(h:Inv l L q (q.take t) [])(c:t<q.length):Inv l L q (q.take (t+1)) (rest l (qg q t) 0)/\qg q t<l.length:=by
 have e:q=q.take t++qg q t::q.drop (t+1):=by
  have d:qg q t=q[t]:=by unfold qg;simp[gd_,c]
  rw[d,List.getElem_cons_drop,List.take_append_drop]
 have f:q.take (t+1)=q.take t++[qg q t]:=by
  have d:qg q t=q[t]:=by unfold qg;simp[gd_,c]
  rw[d,List.take_succ_eq_append_getElem c]
 refine⟨?_,h.lt _ (by unfold qg;simp[gd_,c])⟩;have d:Inv l L (q.take t++qg q t::q.drop (t+1)) (q.take t) []:=by rw[<-e];exact h
 have:=d.take;rw[<-e,<-f]at this;exact this
theorem aeq{l:List ed}(g:oH l)(f:k<l.length)(c:aP (aO l k) k=a)(h:Inv l L q T (rest l k 0))(d:qK a l.length=false):Inv l L q T (rest l k 1):=by
 subst c;have:rest l k 0=rest l k 1:=by show fst (aO l k) k++snd (aO l k)=snd (aO l k);rw[aaV g f d,List.nil_append]
 rw[<-this];exact h
theorem aer{l:List ed}(g:oH l)(f:k<l.length)(c:aQ (aO l k)=a)(h:Inv l L q T (rest l k 1))(d:qK a l.length=false):Inv l L q T (rest l k 2):=by
 subst c;have:rest l k 1=rest l k 2:=by show snd (aO l k)=[];exact acz g f d
 rw[<-this];exact h
theorem abu{l:List ed}{j:Nat}(h:Inv l L q T (rest l k j)){v:Nat}(d:v<l.length):0<=aU L v/\aU L v<=2*l.length+2:=by
 have p:=h.cnt v d;have c:=List.count_le_length (a:=v) (l:=rest l k j++tg l (nt l.length T));have r:=Uq l (nt l.length T);have s:=ahi l.length T;have t:(rest l k j).length<=2:=by
  have f:=Lr (aO l k) k;have g:=MB (aO l k)
  match j with
  | 0=>show (fst (aO l k) k++snd (aO l k)).length<=2;rw[la_];omega
  | 1=>show (snd (aO l k)).length<=2;omega
  | _+2=>show ([]:List Nat).length<=2;simp
 rw[la_]at c;unfold aU;omega
theorem Dm(L:List Int)(v:Nat)(y:Int)(h:v<L.length):aU (L.set v y) v=y:=by rw[abm _ _ _ _ h,if_pos rfl]
theorem abv{l:List ed}(r:oH l)(p:k<l.length)(j:aP (aO l k) k=a)(h:Inv l L q T (rest l k 0))(d:qK a l.length=true) :
  ((aU L a.toNat-1 == 0)=true->Inv l (L.set a.toNat (aU L a.toNat-1)) (q++[a.toNat]) T (rest l k 1))/\((aU L a.toNat-1 == 0)=false->Inv l (L.set a.toNat (aU L a.toNat-1)) q T (rest l k 1)):=by
 subst j;have e:rest l k 0=(aP (aO l k) k).toNat::rest l k 1:=by show fst (aO l k) k++snd (aO l k)=_;rw[Vj r p d];rfl
 rw[e]at h;have f:=(Et d).1;have:=h.step f _ rfl;have g:((L.set (aP (aO l k) k).toNat (L.getD (aP (aO l k) k).toNat 0-1)).getD (aP (aO l k) k).toNat 0)=aU L (aP (aO l k) k).toNat-1:=Dm L _ _ (by rw[h.len];exact f);rw[g]at this;exact⟨fun c=>this.1 (by simpa using c),fun c=>this.2.1 (by simpa using c)⟩
theorem abw{l:List ed}(j:aQ (aO l k)=a)(h:Inv l L q T (rest l k 1))(d:qK a l.length=true) :
  ((aU L a.toNat-1 == 0)=true->Inv l (L.set a.toNat (aU L a.toNat-1)) (q++[a.toNat]) T (rest l k 2))/\((aU L a.toNat-1 == 0)=false->Inv l (L.set a.toNat (aU L a.toNat-1)) q T (rest l k 2)):=by
 subst j;have e:rest l k 1=(aQ (aO l k)).toNat::rest l k 2:=by show snd (aO l k)=_;rw[VN d];rfl
 rw[e]at h;have f:=(Et d).1;have:=h.step f _ rfl;have g:((L.set (aQ (aO l k)).toNat (L.getD (aQ (aO l k)).toNat 0-1)).getD (aQ (aO l k)).toNat 0)=aU L (aQ (aO l k)).toNat-1:=Dm L _ _ (by rw[h.len];exact f);rw[g]at this;exact⟨fun c=>this.1 (by simpa using c),fun c=>this.2.1 (by simpa using c)⟩
theorem Vn{l:List ed}{t:Nat}(h:Inv l L q T (rest l k 2))(d:T.length=t):Inv l L q (q.take t) []/\t<=q.length:=by
 obtain⟨s,c⟩:=h.pre;have:q.take t=T:=by rw[c,<-d];simp
 rw[this];exact⟨h,by rw[c];simp;omega⟩
theorem aes{l:List ed}{t:Nat}(c:oH l)(h:Inv l L q (q.take t) [])(f:t<=q.length)(d:¬t<q.length):(t<l.length↔¬wW l)/\t<=l.length:=by
 have e:t=q.length:=o_;subst e;rw[List.take_length]at h;exact⟨h.done c,h.Ck⟩
theorem Xq{l:List ed}(c:Ic l L (tg l (List.range l.length))):Inv l L ((List.range l.length).filter (fun v=>aU L v == 0)) [] []:=Inv.start c.1 c.2 rfl
def fr(L:List Int)(k:Nat):List Nat:=(List.range k).filter (fun v=>aU L v == 0)
theorem agJ(L:List Int)(k:Nat):(fr L k).length<=k:=by unfold fr;have:=List.length_filter_le (fun v=>aU L v == 0) (List.range k);simpa using this
theorem aaT(L:List Int)(k:Nat)(h:(aU L k == 0)=true):fr L (k+1)=fr L k++[k]:=by unfold fr;rw[List.range_succ,List.filter_append];simp[h]
theorem afL(L:List Int)(k:Nat)(h:(aU L k == 0)=false):fr L (k+1)=fr L k:=by unfold fr;rw[List.range_succ,List.filter_append];simp[h]
end Pu
namespace Pu
def bg(e:List Bool)(i:Nat):Bool:=e.getD i false
theorem ajk{l:List ed}(h:(aO l i).op=1):qc l e i=bg e (i+1):=by unfold qc succ fst snd;have c:(l.getD i aS).op=1:=h;rw[if_pos (.inl c),if_neg o_];simp[bg]
theorem ajl{l:List ed}(h:(aO l i).op=3):qc l e i=(bg e (i+1) && bg e (aO l i).bH.toNat):=by unfold qc succ fst snd;have c:(l.getD i aS).op=3:=h;rw[if_pos (.inr c),if_pos (.inl c)];simp[bg,aO]
theorem ajm{l:List ed}(h:(aO l i).op=4):qc l e i=bg e (aO l i).bH.toNat:=by unfold qc succ fst snd;have c:(l.getD i aS).op=4:=h;rw[if_neg o_,if_pos (.inr c)];simp[bg,aO]
theorem ajj{l:List ed}(g:(aO l i).op≠1)(h:(aO l i).op≠3)(j:(aO l i).op≠4):qc l e i=true:=by unfold qc succ fst snd;have d:(l.getD i aS).op≠1:=g;have c:(l.getD i aS).op≠3:=h;have f:(l.getD i aS).op≠4:=j;rw[if_neg (by simp only[not_or];exact⟨d,c⟩),if_neg (by simp only[not_or];exact⟨c,f⟩)];rfl
def EU(l:List ed)(e:List Bool)(k:Nat):Prop:=∀i,i<l.length->i<k->bg e i=true\/qc l e i=false
theorem TP(l:List ed)(e:List Bool):EU l e 0:=fun i _ h=>by omega
theorem yx{l:List ed}(h:EU l e k)(f:bg e k=true\/qc l e k=false):EU l e (k+1):=fun i d c=>by
 by_cases c:i=k
 .subst c;exact f
 .exact h i d o_
theorem TN{l:List ed}(h:EU l e k)(d:l.length<=k):EU l e (k+1):=fun i c _=>h i c o_
structure Pass(l:List ed)(e:List Bool)(more:Bool)(k L0:Nat):Prop where
 len:e.length=l.length
 sound:E8 l e
 le:e.count false<=L0
 lt:more=true->e.count false<L0
 quiet:more=false->EU l e k
theorem TC{l:List ed}(c:e.length=l.length)(d:E8 l e):Pass l e false 0 (e.count false):=
 ⟨c,d,dF,fun h=>Bool.noConfusion h,fun _=>TP l e⟩
theorem zf{l:List ed}{more:Bool}(h:Pass l e more k L0)(f:k<l.length->bg e k=true\/qc l e k=false):Pass l e more (k+1) L0:=
 ⟨h.len,h.sound,h.le,h.lt,fun d=>by
  by_cases c:k<l.length
  .exact yx (h.quiet d) (f c)
  .exact TN (h.quiet d) o_⟩
theorem PX{l:List ed}{more:Bool}(h:Pass l e more k L0)(j:i<l.length)(d:bg e i=false)(f:qc l e i=true):Pass l (e.set i true) true (k+1) L0/\(e.set i true).count false+1=e.count false:=by
 have c:i<e.length:=by rw[h.len];exact j
 have g:=count_set c d;have p:=h.le;exact⟨⟨by rw[le_];exact h.len,YY h.sound c d f,o_,fun _=>o_,fun r=>Bool.noConfusion r⟩,g⟩
theorem acg{l:List ed}(f:oH l)(h:Pass l e false k L0)(g:2*l.length<=k):(((e.count false:Nat):Int) == 0)=true↔wW l:=by
 rw[beq_iff_eq];constructor
 .intro c;exact Ug h.len h.sound o_
 .intro d;have:=stuck f h.len (fun i c=>h.quiet rfl i c o_) d;omega
theorem count_le(e:List Bool):e.count false<=e.length:=List.count_le_length
end Pu
namespace Pu
def eb(e:Int):List Int:=[e % 256,e / 256]
def Bc(r:mg):List Int:=[r.emit,r.act,r.mode]
def OO(x:ed):List Int:=[x.op,x.a,x.b,x.bH % 256,x.bH / 256]
def FU(p:lZ):List Int:=[87,82,(p.ents.length:Int),(p.rules.length:Int)]
def bC(p:lZ)(k:Nat):List Int:=(FU p++eb p.code.length)++(p.ents.take k).flatMap eb
def bD(p:lZ)(k:Nat):List Int:=bC p p.ents.length++(p.rules.take k).flatMap Bc
def bG(p:lZ)(k:Nat):List Int:=bD p p.rules.length++(p.code.take k).flatMap OO
def rT(p:lZ):List Int:=bG p p.code.length
theorem BZ{α:Type}(f:α->List Int)(l:List α)(d:α)(k:Nat)(c:k<l.length):(l.take (k+1)).flatMap f=(l.take k).flatMap f++f (l.getD k d):=by rw[List.take_succ_eq_append_getElem c,List.flatMap_append];simp[gd_,c]
theorem vK{α:Type}(f:α->List Int)(c:Nat)(d:∀x,(f x).length=c):∀(l:List α),(l.flatMap f).length=c*l.length
 | []=>by simp
 | x::r=>by rw[List.flatMap_cons,la_,d,vK f c d r,lc_,Nat.mul_succ];omega
theorem VT(p:lZ):bC p 0=FU p++eb p.code.length:=by simp[bC]
theorem VW(p:lZ):bD p 0=bC p p.ents.length:=by simp[bD]
theorem VY(p:lZ):bG p 0=bD p p.rules.length:=by simp[bG]
theorem VS(p:lZ)(k:Nat)(c:k<p.ents.length):bC p (k+1)=bC p k++[aU p.ents k % 256,aU p.ents k / 256]:=by unfold bC;rw[BZ eb p.ents 0 k c,<-aa_];rfl
theorem VU(p:lZ)(k:Nat)(c:k<p.rules.length):bD p (k+1)=bD p k++[(rg p.rules k).emit,(rg p.rules k).act,(rg p.rules k).mode]:=by unfold bD;rw[BZ Bc p.rules aY k c,<-aa_];rfl
theorem VX(p:lZ)(k:Nat)(c:k<p.code.length):bG p (k+1)=bG p k++[(aO p.code k).op,(aO p.code k).a,(aO p.code k).b,(aO p.code k).bH % 256,(aO p.code k).bH / 256]:=by unfold bG;rw[BZ OO p.code aS k c,<-aa_];rfl
theorem Uy(p:lZ)(k:Nat)(c:k<=p.ents.length):(bC p k).length=6+2*k:=by unfold bC;rw[la_,vK eb 2 (fun _=>rfl),List.length_take];simp[FU,eb];omega
theorem Uz(p:lZ)(k:Nat)(c:k<=p.rules.length):(bD p k).length=6+2*p.ents.length+3*k:=by unfold bD;rw[la_,vK Bc 3 (fun _=>rfl),List.length_take,Uy p _ dF];omega
theorem Hy(p:lZ)(k:Nat)(c:k<=p.code.length):(bG p k).length=6+2*p.ents.length+3*p.rules.length+5*k:=by unfold bG;rw[la_,vK OO 5 (fun _=>rfl),List.length_take,Uz p _ dF];omega
theorem Cy{p:lZ}(h:gu p)(c:k<p.ents.length):0<=aU p.ents k/\aU p.ents k<=65535:=by have d:=h.1.2 k c;have f:=h.2.2.1.1;omega
theorem zV{p:lZ}(h:gu p)(d:k<p.rules.length):(0<=(rg p.rules k).emit/\(rg p.rules k).emit<=255)/\(0<=(rg p.rules k).act/\(rg p.rules k).act<=255)/\(0<=(rg p.rules k).mode/\(rg p.rules k).mode<=255):=by have c:=h.2.1.2 k d;have f:=h.1.1;unfold uM at c;omega
theorem Cz{p:lZ}(h:gu p)(d:k<p.code.length):(0<=(aO p.code k).op/\(aO p.code k).op<=255)/\(0<=(aO p.code k).a/\(aO p.code k).a<=255)/\(0<=(aO p.code k).b/\(aO p.code k).b<=255)/\(0<=(aO p.code k).bH/\(aO p.code k).bH<=65535):=by have c:=h.2.2.1.2.1 k d;have f:=h.2.1.1;have g:=h.2.2.1.1;unfold qm at c;omega
end Pu
end Go.Proofs.YtmccnmgaoppogabGreat
