/-
 Plain mathematics: how many Next there are in what is compiled.
 Plain mathematics: things that are told apart two by two are no more than the classes.
 Plain mathematics: what is told apart by words; what can be gone on with.
 Plain mathematics: the kinds that can be gone on with: their first sets are told apart two by two.
 Plain mathematics: where the program's sets lead and where the document's do.
 Plain mathematics: the first rule of the program's sets and of the document's.
 Plain mathematics: a byte goes as the byte of its kind.
 Plain mathematics: words in the document's machine and in the program's sets.
 Plain mathematics: in a mode there are no more Next than the document lets there be.
 Plain mathematics: passes over a table until nothing changes.
-/
import Derived.Test.YtmccnmgaoppogaaLA
import Derived.Test.YtmccnmgaoppogaaH29
import Derived.Test.YtmccnmgaoppogaaHI
namespace Go.Proofs.Ytmccnmgaoppogaa
namespace Pu
def nexts (c:List Ins):Nat:=c.countP (fun x=>decide (x.op=2))
def onKd (k:Kd):Bool:=decide ((waysOn k.longer).length≠0)
theorem nexts_app (a b:List Ins):nexts (a++b)=nexts a+nexts b:=by unfold nexts;rw [List.countP_append]
theorem ways_op (l:List Nat):∀(f low:Nat) (acc:List Ins),(∀x∈acc,x.op=3)→∀x∈waysGo l f low acc,x.op=3:=by
 intro f
 induction f with
 | zero=>intro low acc h;exact h
 | succ f ih=>
  intro low acc h;unfold waysGo;split
  ·refine ih _ _ (fun x hx=>?_)
   split at hx
   ·exact h x hx
   ·rcases List.mem_append.1 hx with hx | hx
    ·exact h x hx
    ·rw [List.mem_singleton.1 hx]
  ·exact h
theorem nexts_ways (l:List Nat):nexts (waysOn l)=0:=by
 unfold nexts
 rw [List.countP_eq_zero]
 intro x hx
 have:x.op=3:=ways_op l _ _ _ (fun x hx=>by simp at hx) x hx
 rw [this]
 decide
theorem nexts_kind (k:Kd):nexts (kindIns k)=if onKd k=true then 1 else 0:=by
 unfold kindIns onKd
 rw [nexts_app,nexts_app,nexts_app,nexts_ways]
 have h1:nexts (if k.rule=-1 then [] else [(⟨1,k.rule,0,0⟩:Ins)])=0:=by split <;> rfl
 have h2:nexts [(⟨5,0,0,0⟩:Ins)]=0:=rfl
 rw [h1,h2]
 by_cases c:(waysOn k.longer).length=0
 ·rw [if_pos c,if_neg (by simp [c])]
  rfl
 ·rw [if_neg c,if_pos (by simp [c])]
  rfl
theorem nexts_lay:∀(ks:List Kd) (q:List Ins × List Nat),nexts (ks.foldl layKd q).1=nexts q.1+ks.countP onKd∧∃more,(ks.foldl layKd q).1=q.1++more:=by
 intro ks
 induction ks with
 | nil=>intro q;exact⟨rfl,[],by simp⟩
 | cons k ks ih=>
  intro q;obtain⟨h1,more,h2⟩:=ih (layKd q k);rw [List.foldl_cons];refine⟨?_,kindIns k++more,?_⟩
  ·rw [h1]
   show nexts (q.1++kindIns k)+_=_;rw [nexts_app,nexts_kind,List.countP_cons];split <;> omega
  ·rw [h2]
   show (q.1++kindIns k)++more=_;rw [List.append_assoc]
theorem nexts_link (st:List Nat) (c:List Ins):nexts (c.map (linkI st))=nexts c:=by
 unfold nexts
 rw [List.countP_map]
 congr 1
 funext x
 show decide ((linkI st x).op=2)=decide (x.op=2)
 unfold linkI
 split
 ·rfl
 ·rfl
theorem nexts_mode (code:List Ins) (all:List Kd):nexts (layMode code all)=nexts code+(all.drop 1).countP onKd:=by
 unfold layMode
 by_cases c:all.length≤1
 ·rw [if_pos c,nexts_app,List.drop_of_length_le c]
  rfl
 ·rw [if_neg c,nexts_app,nexts_link]
  obtain⟨h1,more,h2⟩:=nexts_lay (all.drop 1) (code,[0]);have h2':((all.drop 1).foldl layKd (code,[0])).1=code++more:=h2;have h1':nexts ((all.drop 1).foldl layKd (code,[0])).1=nexts code+(all.drop 1).countP onKd:=h1;rw [h2',nexts_app] at h1';rw [h2',List.drop_left];exact h1'
theorem nexts_all:∀(ms:List (List Kd)) (q:List Int × List Ins),nexts (ms.foldl (fun q m=>(q.1++[(q.2.length:Int)],layMode q.2 m)) q).2=nexts q.2+(ms.map (fun m=>(m.drop 1).countP onKd)).sum:=by
 intro ms
 induction ms with
 | nil=>intro q;rfl
 | cons m ms ih=>
  intro q;rw [List.foldl_cons,ih,List.map_cons,List.sum_cons];show nexts (layMode q.2 m)+_=_;rw [nexts_mode];omega
theorem nexts_comp (all:List Ln):nexts (compP all).code=((kksOf all).map (fun m=>(m.drop 1).countP onKd)).sum:=by
 have:=nexts_all (kksOf all) ([],[])
 have e:nexts ([]:List Ins)=0:=rfl
 rw [e,Nat.zero_add] at this
 exact this
end Pu
namespace Pu
theorem nodup_count (p:Nat→Bool):∀(N:Nat) (l:List Nat),l.Nodup→(∀x∈l,x<N∧p x=true)→l.length≤(List.range N).countP p:=by
 intro N
 induction N with
 | zero=>
  intro l _ h
  cases l with
  | nil=>exact lr_
  | cons x l=>have:=(h x (List.mem_cons_self ..)).1;omega
 | succ N ih=>
  intro l hl h;rw [List.range_succ,List.countP_append];by_cases c:N∈l
  ·have h1:=ih (l.erase N) (hl.erase N) (fun x hx=>by
    have hx':=(hl.mem_erase_iff).1 hx;have:=h x hx'.2
    exact⟨by omega,this.2⟩)
   have h2:=List.length_erase_of_mem c;have h3:0<l.length:=List.length_pos_of_mem c
   have h4:[N].countP p=1:=by
    rw [List.countP_cons_of_pos (h N c).2];rfl
   omega
  ·have h1:=ih l hl (fun x hx=>by
    have:=h x hx;have hne:x≠N:=fun e=>c (e ▸ hx)
    exact⟨by omega,this.2⟩)
   omega
structure Tld2 (N:Nat) (on:Nat→Bool) (d:Nat→Nat→Bool):Prop where
 refl:∀i,i<N→d i i=false
 symm:∀i k,i<N→k<N→d i k=false→d k i=false
 trans:∀i j k,i<N→j<N→k<N→d i j=false→d j k=false→d i k=false
 on:∀i k,i<N→k<N→d i k=false→on i=on k
def fresh (on:Nat→Bool) (d:Nat→Nat→Bool) (i:Nat):Bool:=on i && (List.range i).all (fun k=>d i k)
theorem fresh_iff {on:Nat→Bool} {d:Nat→Nat→Bool} {i:Nat}:fresh on d i=true↔on i=true∧∀k,k<i→d i k=true:=by
 unfold fresh
 rw [Bool.and_eq_true,List.all_eq_true]
 constructor
 ·rintro ⟨h1,h2⟩;exact⟨h1,fun k hk=>h2 k (List.mem_range.2 hk)⟩
 ·rintro ⟨h1,h2⟩;exact⟨h1,fun k hk=>h2 k (List.mem_range.1 hk)⟩
section
variable {N:Nat} {on:Nat→Bool} {d:Nat→Nat→Bool}
theorem Tld2.rep (h:Tld2 N on d):∀(f i:Nat),i≤f→i<N→on i=true→∃j,j≤i∧d i j=false∧fresh on d j=true:=by
 intro f
 induction f with
 | zero=>
  intro i h1 h2 h3;have:i=0:=by omega
  subst this;exact⟨0,lr_,h.refl 0 h2,fresh_iff.2 ⟨h3,fun k hk=>by omega⟩⟩
 | succ f ih=>
  intro i h1 h2 h3;by_cases c:∃k,k<i∧d i k=false
  ·obtain⟨k,hk,hd⟩:=c
   obtain⟨j,j1,j2,j3⟩:=ih k (by omega) (by omega) (by rw [←h.on i k h2 (by omega) hd];exact h3);exact⟨j,by omega,h.trans i k j h2 (by omega) (by omega) hd j2,j3⟩
  ·refine⟨i,lr_,h.refl i h2,fresh_iff.2 ⟨h3,fun k hk=>?_⟩⟩
   cases hd:d i k with
   | true=>rfl
   | false=>exact absurd ⟨k,hk,hd⟩ c
theorem Tld2.count (h:Tld2 N on d) (fs:List Nat) (hf:∀i∈fs,i<N∧on i=true) (hp:fs.Pairwise (fun i k=>d i k=true)):fs.length≤(List.range N).countP (fresh on d):=by
 have key:∀fs:List Nat,(∀i∈fs,i<N∧on i=true)→fs.Pairwise (fun i k=>d i k=true)→∃gs:List Nat,gs.length=fs.length∧gs.Nodup∧∀g∈gs,g<N∧fresh on d g=true∧∃f∈fs,d f g=false:=by
  intro fs
  induction fs with
  | nil=>intro _ _;exact⟨[],rfl,List.nodup_nil,fun g hg=>by simp at hg⟩
  | cons f fs ih=>
   intro h1 h2;rw [List.pairwise_cons] at h2;obtain⟨gs,e1,e2,e3⟩:=ih (fun i hi=>h1 i (List.mem_cons_of_mem _ hi)) h2.2;have hf:=h1 f (List.mem_cons_self ..);obtain⟨g,g1,g2,g3⟩:=h.rep f f lr_ hf.1 hf.2;have hg:g<N:=by omega
   refine⟨g::gs,by rw [List.length_cons,List.length_cons,e1],List.nodup_cons.2 ⟨fun hm=>?_,e2⟩,fun x hx=>?_⟩
   ·obtain⟨_,_,f',hf',hd⟩:=e3 g hm
    have hf'N:=(h1 f' (List.mem_cons_of_mem _ hf')).1;have:=h.trans f g f' hf.1 hg hf'N g2 (h.symm f' g hf'N hg hd);rw [h2.1 f' hf'] at this;cases this
   ·rcases List.mem_cons.1 hx with rfl | hx
    ·exact⟨hg,g3,f,List.mem_cons_self ..,g2⟩
    ·obtain⟨a,b,f',hf',hd⟩:=e3 x hx
     exact⟨a,b,f',List.mem_cons_of_mem _ hf',hd⟩
 obtain⟨gs,e1,e2,e3⟩:=key fs hf hp
 rw [←e1]
 exact nodup_count _ N gs e2 (fun x hx=>⟨(e3 x hx).1,(e3 x hx).2.1⟩)
end
end Pu
namespace Pu
def runA (nx:Nat→Nat→Nat):Nat→List Nat→Nat
 | i,[]=>i
 | i,c::w=>runA nx (nx i c) w
section
variable {nx:Nat→Nat→Nat} {lab:Nat→Int} {J N:Nat} {on:Nat→Bool} {d:Nat→Nat→Bool}
structure DOK (nx:Nat→Nat→Nat) (lab:Nat→Int) (J N:Nat) (d:Nat→Nat→Bool):Prop where
 inn:∀i c,i<N→c<J→nx i c<N
 far:∀i k,i<N→k<N→lab i≠lab k→d i k=true
 back:∀i k c,i<N→k<N→c<J→d (nx i c) (nx k c)=true→d i k=true
 just:∀i k,i<N→k<N→d i k=true→∃w:List Nat,(∀c∈w,c<J)∧lab (runA nx i w)≠lab (runA nx k w)
theorem DOK.word (h:DOK nx lab J N d):∀(w:List Nat) (i k:Nat),i<N→k<N→(∀c∈w,c<J)→lab (runA nx i w)≠lab (runA nx k w)→d i k=true:=by
 intro w
 induction w with
 | nil=>intro i k hi hk _ hl;exact h.far i k hi hk hl
 | cons c w ih=>
  intro i k hi hk hw hl;have hc:=hw c (List.mem_cons_self ..);exact h.back i k c hi hk hc (ih _ _ (h.inn i c hi hc) (h.inn k c hk hc) (fun x hx=>hw x (List.mem_cons_of_mem _ hx)) hl)
theorem DOK.same (h:DOK nx lab J N d) {i k:Nat} (hi:i<N) (hk:k<N):d i k=false↔∀w:List Nat,(∀c∈w,c<J)→lab (runA nx i w)=lab (runA nx k w):=by
 constructor
 ·intro hd w hw
  apply Classical.byContradiction;intro hne;rw [h.word w i k hi hk hw hne] at hd;cases hd
 ·intro hw
  cases hd:d i k with
  | false=>rfl
  | true=>
   obtain⟨w,h1,h2⟩:=h.just i k hi hk hd;exact absurd (hw w h1) h2
structure OOK (nx:Nat→Nat→Nat) (lab:Nat→Int) (J N:Nat) (on:Nat→Bool):Prop where
 inn:∀i c,i<N→c<J→nx i c<N
 back:∀i c,i<N→c<J→(0≤lab (nx i c)∨on (nx i c)=true)→on i=true
 just:∀i,i<N→on i=true→∃w:List Nat,w≠[]∧(∀c∈w,c<J)∧0≤lab (runA nx i w)
theorem OOK.word (h:OOK nx lab J N on):∀(w:List Nat) (i:Nat),i<N→w≠[]→(∀c∈w,c<J)→0≤lab (runA nx i w)→on i=true:=by
 intro w
 induction w with
 | nil=>intro i _ h0;exact absurd rfl h0
 | cons c w ih=>
  intro i hi _ hw hl;have hc:=hw c (List.mem_cons_self ..);by_cases e:w=[]
  ·subst e
   exact h.back i c hi hc (.inl hl)
  ·exact h.back i c hi hc (.inr (ih _ (h.inn i c hi hc) e (fun x hx=>hw x (List.mem_cons_of_mem _ hx)) hl))
theorem tld2_of (hD:DOK nx lab J N d) (hO:OOK nx lab J N on):Tld2 N on d:=by
 have onE:∀i k,i<N→k<N→d i k=false→on i=true→on k=true:=fun i k hi hk hd ho=>by
  obtain⟨w,h1,h2,h3⟩:=hO.just i hi ho;refine hO.word w k hk h1 h2 ?_
  rw [←(hD.same hi hk).1 hd w h2];exact h3
 have sym:∀i k,i<N→k<N→d i k=false→d k i=false:=fun i k hi hk h=>(hD.same hk hi).2 (fun w hw=>((hD.same hi hk).1 h w hw).symm)
 refine⟨fun i hi=>(hD.same hi hi).2 (fun _ _=>rfl),sym,fun i j k hi hj hk h1 h2=>(hD.same hi hk).2 (fun w hw=>((hD.same hi hj).1 h1 w hw).trans ((hD.same hj hk).1 h2 w hw)),fun i k hi hk hd=>?_⟩
 rw [Bool.eq_iff_iff]
 exact⟨onE i k hi hk hd,onE k i hk hi (sym i k hi hk hd)⟩
end
end Pu
namespace Pu
def firstsOn (rs:List Int) (ss:List St) (z:Sorting):List Nat:=(z.firsts.drop 1).filter (fun o=>onKd (kindOf rs ss z o))
section
variable {rs:List Int} {ss:List St} {z:Sorting}
theorem firstsOn_len:(firstsOn rs ss z).length=((z.firsts.map (kindOf rs ss z)).drop 1).countP onKd:=by
 unfold firstsOn
 rw [←List.map_drop,List.countP_map,List.countP_eq_length_filter]
 rfl
theorem firsts_pair (h:Done ss rs z) (hlt:∀x∈ss,∀n∈x.longer,n<ss.length):z.firsts.Pairwise (fun o o'=>¬Eqv ss rs o o'):=by
 obtain⟨kinds,hf,_⟩:=h.fin
 rw [List.pairwise_iff_getElem]
 intro i j hi hj hij he
 have a:=hf.self i _ (List.getElem?_eq_getElem hi)
 have b:=hf.self j _ (List.getElem?_eq_getElem hj)
 have:=(h.eqv hlt a.1 b.1).2 he
 omega
theorem firstsOn_pair (h:Done ss rs z) (hlt:∀x∈ss,∀n∈x.longer,n<ss.length):(firstsOn rs ss z).Pairwise (fun o o'=>¬Eqv ss rs o o'):=
 ((firsts_pair h hlt).sublist (List.drop_sublist 1 _)).sublist List.filter_sublist
theorem firstsOn_on (h:Done ss rs z) (hlt:∀x∈ss,∀n∈x.longer,n<ss.length) (h0:0<ss.length) (k0:z.kinds.getD 0 0=0) {o:Nat} (ho:o∈firstsOn rs ss z) :
  o<ss.length∧∃(c:Nat) (w:List Nat),c<256∧(∀x∈w,x<256)∧rs.getD (goS ss o (c::w)) 0≠rs.getD (goS ss 0 w) 0:=by
 obtain⟨h1,h2⟩:=List.mem_filter.1 ho
 obtain⟨kinds,hf,_⟩:=h.fin
 obtain⟨i,hi,e⟩:=List.mem_iff_getElem.1 (List.mem_of_mem_drop h1)
 have a:=hf.self i o (by rw [List.getElem?_eq_getElem hi,e])
 refine⟨a.1,?_⟩
 have hw:¬(waysOn (kindOf rs ss z o).longer).length=0:=by simpa [onKd] using h2
 rw [ways_iff] at hw
 obtain⟨c,hc⟩:=Classical.not_forall.1 hw
 obtain⟨hc1,hc2⟩:=Classical.not_imp.1 hc
 have e1:(kindOf rs ss z o).longer.getD c 0=z.kinds.getD (lgS ss o c) 0:=by
  show ((List.range 256).map (fun b=>z.kinds.getD (lgS ss o b) 0)).getD c 0=_;rw [List.getD_eq_getElem?_getD,List.getElem?_map,List.getElem?_range hc1];rfl
 rw [e1] at hc2
 have hne:¬Eqv ss rs (lgS ss o c) 0:=fun he=>hc2 (by rw [(h.eqv hlt (lgS_lt hlt a.1 c) h0).2 he];exact k0)
 obtain⟨w,hw2⟩:=Classical.not_forall.1 hne
 obtain⟨hw3,hw4⟩:=Classical.not_imp.1 hw2
 exact⟨c,w,hc1,hw3,hw4⟩
end
end Pu
namespace Pu
section
variable {ls:List Ln} {q:List Lp × List Pl} {ns:List Nd} {mode:Int}
theorem set_at (hL:Lin ls q) (hn:NetL ls ns) {i:Nat} (hi:i+1<(findS q.1 q.2 mode).length):rowD (machS ls ns mode) i=ndS ls (plS (findS q.1 q.2 mode) (i+1))∧GdS ls mode (plS (findS q.1 q.2 mode) (i+1)):=by
 have hs:=find_mach (mode:=mode) hL hn
 have e:(plsS (findS q.1 q.2 mode))[i+1]?=some (plS (findS q.1 q.2 mode) (i+1)):=by
  unfold plsS plS;rw [List.getElem?_map,List.getElem?_eq_getElem hi];rfl
 exact⟨hs.row e,hs.gd _ (List.mem_of_getElem? e)⟩
theorem step_at (hL:Lin ls q) (hn:NetL ls ns) (h42:(findS q.1 q.2 mode).length≤42) {i:Nat} (hi:i+1<(findS q.1 q.2 mode).length) {c:Nat} (hc:c<256) :
  stepN ns (fiG ls mode ls.length) (foG ls mode ls.length) (rowD (machS ls ns mode) i) (decide (i=0)) c=ndS ls (plS (findS q.1 q.2 mode) (lgS (findS q.1 q.2 mode) (i+1) c)):=by
 have hled:=find_led q.1 q.2 mode h42
 have h1:=set_at hL hn hi
 have e:plS (findS q.1 q.2 mode) (lgS (findS q.1 q.2 mode) (i+1) c)=taking q.2 (rdy q.2 (beginR q.1 mode) (findS q.1 q.2 mode) (i+1)) c:=(hled.led (i+1) c (by omega) hi hc (.inl hi)).1
 rw [e]
 by_cases h0:i=0
 ·subst h0
  rw [show decide ((0:Nat)=0)=true from rfl,step_begin hL hn];unfold rdy;rw [if_pos rfl]
 ·rw [show decide (i=0)=false by simp [h0],h1.1,step_on hL hn h1.2.2]
  unfold rdy;rw [if_neg (by omega)]
theorem lead_lg (hL:Lin ls q) (hn:NetL ls ns) (h42:(findS q.1 q.2 mode).length≤42) {i:Nat} (hi:i+1<(findS q.1 q.2 mode).length) {c:Nat} (hc:c<256) {y:Int}
  (h:Lead ns.length (machS ls ns mode) (stepN ns (fiG ls mode ls.length) (foG ls mode ls.length) (rowD (machS ls ns mode) i) (decide (i=0)) c) y) :
  (y=-1∧lgS (findS q.1 q.2 mode) (i+1) c=0)∨(y+1=(lgS (findS q.1 q.2 mode) (i+1) c:Int)∧2≤lgS (findS q.1 q.2 mode) (i+1) c):=by
 have hled:=find_led q.1 q.2 mode h42
 have hlen:=find_len (mode:=mode) hL hn
 rw [step_at hL hn h42 hi hc] at h
 have hlt:lgS (findS q.1 q.2 mode) (i+1) c<(findS q.1 q.2 mode).length:=lgS_lt hled.lt hi c
 have n1:=(hled.led (i+1) c (by omega) hi hc (.inl hi)).2
 have p0:plS (findS q.1 q.2 mode) 0=[]:=by unfold plS;rw [hled.z0]
 have hgd:GdS ls mode (plS (findS q.1 q.2 mode) (lgS (findS q.1 q.2 mode) (i+1) c)):=by
  by_cases h0:lgS (findS q.1 q.2 mode) (i+1) c=0
  ·rw [h0,p0]
   exact .nil
  ·have:=(set_at (mode:=mode) hL hn (i:=lgS (findS q.1 q.2 mode) (i+1) c-1) (by omega)).2
   rw [show lgS (findS q.1 q.2 mode) (i+1) c-1+1=lgS (findS q.1 q.2 mode) (i+1) c by omega] at this;exact this
 generalize hg:lgS (findS q.1 q.2 mode) (i+1) c=t at *
 rw [hn.len] at h
 rcases h with ⟨h1,h2⟩ | ⟨h1,k,h2,h3,h4,h5⟩
 ·have he:=(cnt_ndS hgd).1 h1
  refine .inl ⟨h2,?_⟩;apply Classical.byContradiction;intro hne;exact hled.dis 0 t (by omega) hlt (by omega) (by rw [p0,he])
 ·have hk:k+1<(findS q.1 q.2 mode).length:=by omega
  have hs:=set_at (mode:=mode) hL hn hk;rw [hs.1] at h5;have he:=(alk_ndS hs.2 hgd).1 h5;have hne:plS (findS q.1 q.2 mode) t≠[]:=fun e=>h1 ((cnt_ndS hgd).2 e)
  have ht:2≤t:=by
   rcases Nat.lt_or_ge t 2 with h | h
   ·have:t=0:=by omega
    subst this;exact absurd p0 hne
   ·exact h
  have ek:k+1=t:=by
   rcases Nat.lt_trichotomy (k+1) t with h | h | h
   ·exact absurd he (hled.dis (k+1) t h hlt ht)
   ·exact h
   ·exact absurd he.symm (hled.dis t (k+1) h hk (by omega))
  exact .inr ⟨by omega,ht⟩
end
end Pu
namespace Pu
section
variable {ls:List Ln} {q:List Lp × List Pl} {ns:List Nd} {mode:Int}
theorem hit_iff (hn:NetL ls ns) {t:List Nat} (ht:GdS ls mode t) {k:Nat} {x:Ln} (hk:ls[k]?=some x):Hit ls mode ns.length (ndS ls t) k↔∃p,p∈t∧La x.re (base (ls.take k)) p:=by
 constructor
 ·rintro ⟨y,hy,hm,m,_,h1,h2⟩
  rw [hk] at hy;cases hy;obtain⟨p,hp,ep⟩:=(laN_iff x.re (base (ls.take k)) (nbase (ls.take k)) m).1 h1;obtain⟨p',hp',ep'⟩:=ndS_iff.1 h2;have e:nuA ls p=m:=by rw [nuA_at hk hp.rg];exact ep
  have:=OnM.inj (ls:=ls) (mode:=mode) ⟨k,x,hk,hm,hp.rg⟩ (ht.2 p' hp') (e.trans ep'.symm);exact⟨p',hp',this ▸ hp⟩
 ·rintro ⟨p,hp,hla⟩
  obtain⟨j,y,hj,hm,hr⟩:=ht.2 p hp;have ej:=rg_same hj hk hr hla.rg;subst ej;rw [hk] at hj;cases hj;refine⟨x,hk,hm,nuA ls p,?_,?_,ndS_iff.2 ⟨p,hp,rfl⟩⟩
  ·rw [hn.len]
   exact nuA_lt hk hla.rg
  ·exact (laN_iff x.re (base (ls.take j)) (nbase (ls.take j)) _).2 ⟨p,hla,(nuA_at hk hla.rg).symm⟩
theorem rule_eq (hL:Lin ls q) (hn:NetL ls ns) {t:List Nat} (ht:GdS ls mode t) {r:Int} (h:RuleR ls mode ns.length (ndS ls t) 0 r):r=firstRule q.1 t:=by
 have key:∀(k:Nat) (x:Ln) (y:Lp),ls[k]?=some x→q.1[k]?=some y→(meet y.pt.last t=true↔Hit ls mode ns.length (ndS ls t) k):=by
  intro k x y hk hy;obtain⟨pt,g1,_,g3,g4,_⟩:=hL.get k x hk;rw [hy] at g1;cases g1;rw [hit_iff hn ht hk];show meet pt.last _=true↔_;rw [meet_iff _ _ g4.2.1 ht.1];exact⟨fun ⟨p,a,b⟩=>⟨p,b,(g3 p).1 a⟩,fun ⟨p,a,b⟩=>⟨p,(g3 p).2 b,a⟩⟩
 have get1:∀{k:Nat} {y:Lp},q.1[k]?=some y→∃x,ls[k]?=some x:=fun {k y} hy=>by
  have:k<ls.length:=by rw [←hL.n];exact (List.getElem?_eq_some_iff.1 hy).1
  exact⟨_,List.getElem?_eq_getElem this⟩
 have get2:∀{k:Nat},k<ls.length→∃y,q.1[k]?=some y:=fun {k} hk=>⟨_,List.getElem?_eq_getElem (by rw [hL.n];exact hk)⟩
 unfold firstRule
 rcases firstRule_go t q.1 0 with ⟨h1,h2⟩ | ⟨i,y,h1,h2,h3,h4⟩
 ·rw [h1]
  rcases h with ⟨e,_⟩ | ⟨i,_,_,hi,_⟩
  ·exact e
  ·exfalso
   obtain⟨y,hy⟩:=get2 hi.lt;obtain⟨x,hx⟩:=get1 hy;have:=(key i x y hx hy).2 hi;rw [h2 i y hy] at this;cases this
 ·rw [h2,Nat.zero_add]
  obtain⟨x,hx⟩:=get1 h1;have hit:=(key i x y hx h1).1 h3;rcases h with ⟨_,hno⟩ | ⟨j,e,_,hj,hmin⟩
  ·exact absurd hit (hno i (Nat.zero_le _))
  ·rw [e]
   rcases Nat.lt_trichotomy i j with c | c | c
   ·exact absurd hit (hmin i (Nat.zero_le _) c)
   ·rw [c]
   ·exfalso
    obtain⟨y',hy'⟩:=get2 hj.lt;obtain⟨x',hx'⟩:=get1 hy';have:=(key j x' y' hx' hy').2 hj;rw [h4 j y' c hy'] at this;cases this
end
end Pu
namespace Pu
section
variable {ls:List Ln} {q:List Lp × List Pl} {ns:List Nd} {mode:Int}
theorem sameN_refl (c:Nat):sameN ns c c=true:=by
 unfold sameN
 rw [List.all_eq_true]
 intro x _
 simp
theorem reps_of:∀(n c:Nat),c<n→∃d,d∈repsN ns n∧sameN ns c d=true:=by
 intro n
 induction n with
 | zero=>intro c h;omega
 | succ n ih=>
  intro c hc;rw [repsN_succ];by_cases e:c=n
  ·subst e
   by_cases o:oldN ns (repsN ns c) c=true
   ·rw [if_pos o]
    unfold oldN at o;obtain⟨d,h1,h2⟩:=List.any_eq_true.1 o;exact⟨d,h1,h2⟩
   ·rw [if_neg o]
    exact⟨c,by simp,sameN_refl c⟩
  ·obtain⟨d,h1,h2⟩:=ih c (by omega)
   split
   ·exact⟨d,h1,h2⟩
   ·exact⟨d,List.mem_append_left _ h1,h2⟩
theorem lg_same (hL:Lin ls q) (hn:NetL ls ns) (h42:(findS q.1 q.2 mode).length≤42) {s c d:Nat} (h1:1≤s) (hs:s<(findS q.1 q.2 mode).length) (hc:c<256) (hd:d<256) (e:sameN ns c d=true):lgS (findS q.1 q.2 mode) s c=lgS (findS q.1 q.2 mode) s d:=by
 have hled:=find_led q.1 q.2 mode h42
 have hgd:GdS ls mode (rdy q.2 (beginR q.1 mode) (findS q.1 q.2 mode) s):=by
  unfold rdy;split
  ·exact gd_begin hL
  ·have:=(set_at (mode:=mode) hL hn (i:=s-1) (by omega)).2
   rw [show s-1+1=s by omega] at this;exact gd_behind hL this
 have a:=hled.led s c h1 hs hc (.inl hs)
 have b:=hled.led s d h1 hs hd (.inl hs)
 rw [same_taking hL hn hgd e,←b.1] at a
 have la:=lgS_lt hled.lt hs c
 have lb:=lgS_lt hled.lt hs d
 rcases Nat.lt_trichotomy (lgS (findS q.1 q.2 mode) s c) (lgS (findS q.1 q.2 mode) s d) with h | h | h
 ·exact absurd a.1 (hled.dis _ _ h lb (by have:=b.2;omega))
 ·exact h
 ·exact absurd a.1.symm (hled.dis _ _ h la (by have:=a.2;omega))
end
end Pu
namespace Pu
theorem runA_cons (nx:Nat→Nat→Nat) (i c:Nat) (w:List Nat):runA nx i (c::w)=runA nx (nx i c) w:=rfl
theorem goS_cons (ss:List St) (s c:Nat) (w:List Nat):goS ss s (c::w)=goS ss (lgS ss s c) w:=rfl
def nxD (N:Nat) (To:Nat→Nat→Int) (i j:Nat):Nat:=if i=N∨To i j<0 then N else (To i j).toNat
def labD (N:Nat) (Ru:Nat→Int) (i:Nat):Int:=if i=N then -1 else Ru i
def dn (N s:Nat):Nat:=if s=0 then N else s-1
structure DM (ls:List Ln) (ns:List Nd) (mode:Int) (N:Nat) (To:Nat→Nat→Int) (Ru:Nat→Int):Prop where
 len:(machS ls ns mode).length=N
 lead:∀(i j d:Nat),i<N→(repsN ns 256)[j]?=some d→Lead ns.length (machS ls ns mode) (stepN ns (fiG ls mode ls.length) (foG ls mode ls.length) (rowD (machS ls ns mode) i) (decide (i=0)) d) (To i j)
 ru:∀i,i<N→RuleR ls mode ns.length (rowD (machS ls ns mode) i) 0 (Ru i)
section
variable {ls:List Ln} {q:List Lp × List Pl} {ns:List Nd} {mode:Int} {N:Nat} {To:Nat→Nat→Int} {Ru:Nat→Int}
theorem lg_zero {ss:List St} (h:ss[0]?=some ⟨[],z256⟩) {c:Nat} (hc:c<256):lgS ss 0 c=0:=by
 unfold lgS
 rw [h]
 show z256.getD c 0=0
 unfold z256
 rw [List.getD_eq_getElem?_getD,List.getElem?_replicate,if_pos hc]
 rfl
theorem nx_dn (hD:DM ls ns mode N To Ru) (hL:Lin ls q) (hn:NetL ls ns) (h42:(findS q.1 q.2 mode).length≤42) {s j d:Nat} (hs:s<(findS q.1 q.2 mode).length) (hj:(repsN ns 256)[j]?=some d):nxD N To (dn N s) j=dn N (lgS (findS q.1 q.2 mode) s d):=by
 have hled:=find_led q.1 q.2 mode h42
 have hlen:=find_len (mode:=mode) hL hn
 rw [hD.len] at hlen
 have hd:d<256:=repsN_lt ns 256 d (List.mem_of_getElem? hj)
 by_cases h0:s=0
 ·subst h0
  rw [lg_zero hled.z0 hd];unfold nxD dn;rw [if_pos rfl,if_pos (.inl rfl)]
 ·have hi:s-1+1<(findS q.1 q.2 mode).length:=by omega
  have h:=lead_lg hL hn h42 hi hd (hD.lead (s-1) j d (by omega) hj);rw [show s-1+1=s by omega] at h;have e:dn N s=s-1:=by unfold dn;rw [if_neg h0]
  rw [e];unfold nxD dn;rcases h with ⟨h1,h2⟩ | ⟨h1,h2⟩
  ·rw [if_pos (.inr (by omega)),h2,if_pos rfl]
  ·rw [if_neg (by omega),if_neg (by omega)]
   omega
theorem lab_dn (hD:DM ls ns mode N To Ru) (hL:Lin ls q) (hn:NetL ls ns) (h42:(findS q.1 q.2 mode).length≤42) {s:Nat} (hs:s<(findS q.1 q.2 mode).length):labD N Ru (dn N s)=firstRule q.1 (plS (findS q.1 q.2 mode) s):=by
 have hled:=find_led q.1 q.2 mode h42
 have hlen:=find_len (mode:=mode) hL hn
 rw [hD.len] at hlen
 by_cases h0:s=0
 ·subst h0
  have p0:plS (findS q.1 q.2 mode) 0=[]:=by unfold plS;rw [hled.z0]
  have e:labD N Ru (dn N 0)=-1:=by unfold labD dn;rw [if_pos rfl,if_pos rfl]
  rw [e,p0]
  exact rule_eq (mode:=mode) hL hn .nil (.inl ⟨rfl,fun i _ h=>by
   obtain⟨x,_,_,m,_,_,h2⟩:=h
   cases h2⟩)
 ·have hs2:=set_at (mode:=mode) hL hn (i:=s-1) (by omega)
  rw [show s-1+1=s by omega] at hs2;have e:labD N Ru (dn N s)=Ru (s-1):=by unfold labD dn;rw [if_neg h0,if_neg (by omega)]
  rw [e];have h:=hD.ru (s-1) (by omega);rw [hs2.1] at h;exact rule_eq hL hn hs2.2 h
theorem run_dn (hD:DM ls ns mode N To Ru) (hL:Lin ls q) (hn:NetL ls ns) (h42:(findS q.1 q.2 mode).length≤42):∀(w:List Nat),(∀c∈w,c<256)→∃v:List Nat,v.length=w.length∧(∀j∈v,j<(repsN ns 256).length)∧∀s,s<(findS q.1 q.2 mode).length→runA (nxD N To) (dn N s) v=dn N (goS (findS q.1 q.2 mode) s w):=by
 have hled:=find_led q.1 q.2 mode h42
 intro w
 induction w with
 | nil=>intro _;exact⟨[],rfl,fun j hj=>by simp at hj,fun s _=>rfl⟩
 | cons c w ih=>
  intro hw;have hc:=hw c (List.mem_cons_self ..);obtain⟨v,e0,e1,e2⟩:=ih (fun x hx=>hw x (List.mem_cons_of_mem _ hx));obtain⟨d,hd,hsame⟩:=reps_of (ns:=ns) 256 c hc;obtain⟨j,hj,ej⟩:=List.mem_iff_getElem.1 hd;have hjd:(repsN ns 256)[j]?=some d:=by rw [List.getElem?_eq_getElem hj,ej]
  have hd2:d<256:=repsN_lt ns 256 d hd;refine⟨j::v,by rw [List.length_cons,List.length_cons,e0],fun x hx=>?_,fun s hs=>?_⟩
  ·rcases List.mem_cons.1 hx with rfl | hx
   ·exact hj
   ·exact e1 x hx
  ·rw [runA_cons,goS_cons,nx_dn hD hL hn h42 hs hjd]
   have es:lgS (findS q.1 q.2 mode) s d=lgS (findS q.1 q.2 mode) s c:=by
    by_cases h0:s=0
    ·subst h0
     rw [lg_zero hled.z0 hd2,lg_zero hled.z0 hc]
    ·exact (lg_same hL hn h42 (by omega) hs hc hd2 hsame).symm
   rw [es];exact e2 _ (lgS_lt hled.lt hs c)
end
end Pu
namespace Pu
section
variable {ls:List Ln} {q:List Lp × List Pl} {ns:List Nd} {mode:Int} {N J:Nat} {To:Nat→Nat→Int} {Ru:Nat→Int} {on:Nat→Bool} {d:Nat→Nat→Bool}
theorem go_zero {ss:List St} (h:ss[0]?=some ⟨[],z256⟩):∀w:List Nat,(∀c∈w,c<256)→goS ss 0 w=0:=by
 intro w
 induction w with
 | nil=>intro _;rfl
 | cons c w ih=>
  intro hw;rw [goS_cons,lg_zero h (hw c (List.mem_cons_self ..))];exact ih (fun x hx=>hw x (List.mem_cons_of_mem _ hx))
theorem go_lt {ss:List St} (h:∀x∈ss,∀n∈x.longer,n<ss.length):∀(w:List Nat) (s:Nat),s<ss.length→goS ss s w<ss.length:=by
 intro w
 induction w with
 | nil=>intro s hs;exact hs
 | cons c w ih=>intro s hs;rw [goS_cons];exact ih _ (lgS_lt h hs c)
theorem few_mode (hD:DM ls ns mode N To Ru) (hL:Lin ls q) (hn:NetL ls ns) (h42:(findS q.1 q.2 mode).length≤42) (hJ:(repsN ns 256).length=J) (hd:DOK (nxD N To) (labD N Ru) J (N+1) d) (ho:OOK (nxD N To) (labD N Ru) J (N+1) on) :
  ((kindsS q.1 (findS q.1 q.2 mode)).drop 1).countP onKd≤(List.range (N+1)).countP (fresh on d):=by
 have hled:=find_led q.1 q.2 mode h42
 have hlen:=find_len (mode:=mode) hL hn
 have hrun:=run_dn hD hL hn h42
 have hlab:∀s,s<(findS q.1 q.2 mode).length→labD N Ru (dn N s)=(rulesOf q.1 (findS q.1 q.2 mode)).getD s 0:=fun s hs=>by
  rw [lab_dn hD hL hn h42 hs,rules_get q.1 hs]
 have hbd:∀s,s<(findS q.1 q.2 mode).length→(rulesOf q.1 (findS q.1 q.2 mode)).getD s 0=-1∨0≤(rulesOf q.1 (findS q.1 q.2 mode)).getD s 0:=fun s hs=>by
  rw [rules_get q.1 hs];rcases firstRule_bd q.1 (plS (findS q.1 q.2 mode) s) with h | h
  ·exact .inl h
  ·exact .inr h.1
 have two:=hled.two
 have r0:(rulesOf q.1 (findS q.1 q.2 mode)).getD 0 0=-1:=by
  rw [←hlab 0 (by omega)];unfold labD dn;rw [if_pos rfl,if_pos rfl]
 rw [hD.len] at hlen
 have hlt:=hled.lt
 have hdone:=sortS_done (rs:=rulesOf q.1 (findS q.1 q.2 mode)) hlt (by omega)
 have k0:(sortS (findS q.1 q.2 mode) (rulesOf q.1 (findS q.1 q.2 mode))).kinds.getD 0 0=0:=by
  have:=sortGo_le (findS q.1 q.2 mode) (rulesOf q.1 (findS q.1 q.2 mode)) ((findS q.1 q.2 mode).length+1) ⟨List.replicate (findS q.1 q.2 mode).length 0,[]⟩ (fun e=>by omega) 0 (by omega);exact Nat.le_zero.1 this
 unfold kindsS
 rw [←firstsOn_len]
 generalize findS q.1 q.2 mode=ss at *
 generalize rulesOf q.1 ss=rs at *
 generalize sortS ss rs=z at *
 have hdn:∀s,s<ss.length→dn N s<N+1:=fun s hs=>by unfold dn;split <;> omega
 have h:=(tld2_of hd ho).count ((firstsOn rs ss z).map (dn N)) (fun i hi=>?_) ?_
 ·rwa [List.length_map] at h
 ·obtain⟨o,ho1,rfl⟩:=List.mem_map.1 hi
  obtain⟨h1,c,w,hc,hw,hne⟩:=firstsOn_on hdone hlt (by omega) k0 ho1;refine⟨hdn o h1,?_⟩
  have hcw:∀x∈c::w,x<256:=fun x hx=>by
   rcases List.mem_cons.1 hx with h | h
   ·rw [h];exact hc
   ·exact hw x h
  obtain⟨v,e0,e1,e2⟩:=hrun (c::w) hcw;refine ho.word v _ (hdn o h1) (fun e=>by rw [e] at e0;simp at e0) (fun x hx=>by rw [←hJ];exact e1 x hx) ?_
  have hg:=go_lt hlt (c::w) o h1;rw [e2 o h1,hlab _ hg];rw [go_zero hled.z0 w hw,r0] at hne;rcases hbd _ hg with h | h
  ·exact absurd h hne
  ·exact h
 ·rw [List.pairwise_map]
  have hall:∀o∈firstsOn rs ss z,o<ss.length:=fun o ho1=>(firstsOn_on hdone hlt (by omega) k0 ho1).1
  refine List.Pairwise.imp_of_mem (fun {a b} ha hb hne=>?_) (firstsOn_pair hdone hlt);obtain⟨w,hw⟩:=Classical.not_forall.1 hne;obtain⟨hw1,hw2⟩:=Classical.not_imp.1 hw;obtain⟨v,_,e1,e2⟩:=hrun w hw1;refine hd.word v _ _ (hdn a (hall a ha)) (hdn b (hall b hb)) (fun x hx=>by rw [←hJ];exact e1 x hx) ?_
  rw [e2 a (hall a ha),e2 b (hall b hb),hlab _ (go_lt hlt w a (hall a ha)),hlab _ (go_lt hlt w b (hall b hb))];exact hw2
end
end Pu
namespace Pu
theorem cnt_le {p q:Nat→Bool}:∀l:List Nat,(∀x∈l,q x=true→p x=true)→l.countP q≤l.countP p:=by
 intro l
 induction l with
 | nil=>intro _;exact lr_
 | cons x l ih=>
  intro h;have:=ih (fun y hy=>h y (List.mem_cons_of_mem _ hy));have hx:=h x (List.mem_cons_self ..);rw [List.countP_cons,List.countP_cons]
  cases hq:q x with
  | false=>simp;omega
  | true=>rw [hx hq];simp;omega
theorem cnt_lt {p q:Nat→Bool}:∀l:List Nat,(∀x∈l,q x=true→p x=true)→(∃x∈l,p x=true∧q x=false)→l.countP q<l.countP p:=by
 intro l
 induction l with
 | nil=>intro _ ⟨x,hx,_⟩;simp at hx
 | cons x l ih=>
  intro h ⟨y,hy,h1,h2⟩;have hr:=fun y hy=>h y (List.mem_cons_of_mem _ hy)
  have hx:=h x (List.mem_cons_self ..);rw [List.countP_cons,List.countP_cons];rcases List.mem_cons.1 hy with rfl | hy
  ·have:=cnt_le l hr
   rw [h1,h2];simp;omega
  ·have:=ih hr ⟨y,hy,h1,h2⟩
   cases hq:q x with
   | false=>simp;omega
   | true=>rw [hx hq];simp;omega
def setD (d:Nat→Nat→Bool) (i k:Nat) (b:Bool):Nat→Nat→Bool:=fun a c=>if a=i∧c=k then b else d a c
def apD (nx:Nat→Nat→Nat) (J:Nat) (d:Nat→Nat→Bool) (i k:Nat):Bool:=(List.range J).any (fun c=>d (nx i c) (nx k c))
def fcD (n:Nat) (d:Nat→Nat→Bool):Nat:=(List.range (n*n)).countP (fun x=>!d (x / n) (x % n))
theorem fidx_lt {n i k:Nat} (hi:i<n) (hk:k<n):i*n+k<n*n:=by
 have:(i+1)*n≤n*n:=Nat.mul_le_mul_right n hi
 rw [Nat.succ_mul] at this
 omega
theorem fidx_div {n i k:Nat} (hk:k<n):(i*n+k) / n=i:=by
 rw [Nat.add_comm,Nat.add_mul_div_right _ _ (by omega),Nat.div_eq_of_lt hk,Nat.zero_add]
theorem fidx_mod {n i k:Nat} (hk:k<n):(i*n+k) % n=k:=by
 rw [Nat.add_comm,Nat.add_mul_mod_self_right,Nat.mod_eq_of_lt hk]
theorem fcD_set {n i k:Nat} {d:Nat→Nat→Bool} (hi:i<n) (hk:k<n) (hd:d i k=false):fcD n (setD d i k true)<fcD n d:=by
 unfold fcD
 refine cnt_lt _ (fun x _ hx=>?_) ⟨i*n+k,List.mem_range.2 (fidx_lt hi hk),?_,?_⟩
 ·unfold setD at hx
  split at hx
  ·simp at hx
  ·exact hx
 ·rw [fidx_div hk,fidx_mod hk,hd];rfl
 ·rw [fidx_div hk,fidx_mod hk]
  unfold setD;rw [if_pos ⟨rfl,rfl⟩];rfl
section
variable {nx:Nat→Nat→Nat} {lab:Nat→Int} {J n:Nat} {d d0:Nat→Nat→Bool} {more:Bool} {i k:Nat}
structure PS (nx:Nat→Nat→Nat) (lab:Nat→Int) (J n:Nat) (d0 d:Nat→Nat→Bool) (more:Bool) (i k:Nat):Prop where
 far:∀i k,i<n→k<n→lab i≠lab k→d i k=true
 just:∀i k,i<n→k<n→d i k=true→∃w:List Nat,(∀c∈w,c<J)∧lab (runA nx i w)≠lab (runA nx k w)
 cnt:fcD n d+(if more=true then 1 else 0)≤fcD n d0
 same:more=false→d=d0∧∀a b,a<n→b<n→(a<i∨a=i∧b<k)→d0 a b=true∨apD nx J d0 a b=false
theorem PS.start (h:PS nx lab J n d0 d more i k):PS nx lab J n d d false 0 0:=
 ⟨h.far,h.just,by simp,fun _=>⟨rfl,fun a b _ _ h=>by omega⟩⟩
theorem PS.begin (hd:∀a b,a<n→b<n→d a b=decide (lab a≠lab b)):PS nx lab J n d d false 0 0:=
 ⟨fun a b ha hb hne=>by rw [hd a b ha hb];exact decide_eq_true hne,fun a b ha hb h=>⟨[],fun c hc=>by simp at hc,by rw [hd a b ha hb] at h;exact of_decide_eq_true h⟩,by simp,fun _=>⟨rfl,fun a b _ _ h=>by omega⟩⟩
theorem PS.skip (h:PS nx lab J n d0 d more i k) (hs:d i k=true∨apD nx J d i k=false):PS nx lab J n d0 d more i (k+1):=
 ⟨h.far,h.just,h.cnt,fun e=>by
  obtain⟨h1,h2⟩:=h.same e;refine⟨h1,fun a b ha hb hab=>?_⟩;by_cases c:a=i∧b=k
  ·obtain⟨rfl,rfl⟩:=c
   rw [h1] at hs;exact hs
  ·exact h2 a b ha hb (by omega)⟩
theorem PS.yes (h:PS nx lab J n d0 d more i k) (hi:i<n) (hk:k<n) (inn:∀i c,i<n→c<J→nx i c<n) (hd:d i k=false) (ha:apD nx J d i k=true):PS nx lab J n d0 (setD d i k true) true i (k+1):=by
 refine⟨fun a b h1 h2 h3=>?_,fun a b h1 h2 h3=>?_,?_,fun e=>by cases e⟩
 ·unfold setD
  split
  ·rfl
  ·exact h.far a b h1 h2 h3
 ·unfold setD at h3
  by_cases c:a=i∧b=k
  ·obtain⟨rfl,rfl⟩:=c
   unfold apD at ha;rw [List.any_eq_true] at ha;obtain⟨c,hc,hx⟩:=ha;have hc:=List.mem_range.1 hc;obtain⟨w,w1,w2⟩:=h.just _ _ (inn a c h1 hc) (inn b c h2 hc) hx
   exact⟨c::w,fun y hy=>by
    rcases List.mem_cons.1 hy with rfl | hy
    ·exact hc
    ·exact w1 y hy,w2⟩
  ·rw [if_neg c] at h3
   exact h.just a b h1 h2 h3
 ·have:=h.cnt
  have:=fcD_set hi hk hd;simp only [if_true];omega
theorem PS.row (h:PS nx lab J n d0 d more i n):PS nx lab J n d0 d more (i+1) 0:=
 ⟨h.far,h.just,h.cnt,fun e=>by
  obtain⟨h1,h2⟩:=h.same e
  exact⟨h1,fun a b ha hb hab=>h2 a b ha hb (by omega)⟩⟩
theorem PS.ok (h:PS nx lab J n d0 d false n 0) (inn:∀i c,i<n→c<J→nx i c<n):DOK nx lab J n d:=by
 obtain⟨h1,h2⟩:=h.same rfl
 subst h1
 refine⟨inn,h.far,fun a b c ha hb hc hx=>?_,h.just⟩
 rcases h2 a b ha hb (.inl ha) with h3 | h3
 ·exact h3
 ·exfalso
  unfold apD at h3;rw [List.any_eq_false] at h3;exact h3 c (List.mem_range.2 hc) hx
end
def setO (f:Nat→Bool) (k:Nat) (b:Bool):Nat→Bool:=fun i=>if i=k then b else f i
section
variable {N J:Nat} {To:Nat→Nat→Int} {Ru:Nat→Int} {f f0:Nat→Bool} {more:Bool} {k j:Nat}
def hitO (To:Nat→Nat→Int) (Ru:Nat→Int) (f:Nat→Bool) (a b:Nat):Prop:=0≤To a b∧(0≤Ru (To a b).toNat∨f (To a b).toNat=true)
def fcO (N:Nat) (f:Nat→Bool):Nat:=(List.range N).countP (fun x=>!f x)
structure OS (N J:Nat) (To:Nat→Nat→Int) (Ru:Nat→Int) (f0 f:Nat→Bool) (more:Bool) (k j:Nat):Prop where
 just:∀i,i<N→f i=true→∃w:List Nat,w≠[]∧(∀c∈w,c<J)∧0≤labD N Ru (runA (nxD N To) i w)
 cnt:fcO N f+(if more=true then 1 else 0)≤fcO N f0
 same:more=false→f=f0∧∀a b,a<N→b<J→(a<k∨a=k∧b<j)→hitO To Ru f0 a b→f0 a=true
theorem OS.start (h:OS N J To Ru f0 f more k j):OS N J To Ru f f false 0 0:=
 ⟨h.just,by simp,fun _=>⟨rfl,fun a b _ _ h=>by omega⟩⟩
theorem OS.begin (hf:∀i,i<N→f i=false):OS N J To Ru f f false 0 0:=
 ⟨fun i hi h=>(by rw [hf i hi] at h;cases h),by simp,fun _=>⟨rfl,fun a b _ _ h=>by omega⟩⟩
theorem OS.skip (h:OS N J To Ru f0 f more k j) (hs:hitO To Ru f k j→f k=true):OS N J To Ru f0 f more k (j+1):=
 ⟨h.just,h.cnt,fun e=>by
  obtain⟨h1,h2⟩:=h.same e;refine⟨h1,fun a b ha hb hab=>?_⟩;by_cases c:a=k∧b=j
  ·obtain⟨rfl,rfl⟩:=c
   rw [h1] at hs;exact hs
  ·exact h2 a b ha hb (by omega)⟩
theorem OS.yes (h:OS N J To Ru f0 f more k j) (hk:k<N) (hj:j<J) (inn:∀i c,i<N→c<J→To i c<(N:Int)) (hf:f k=false) (ht:hitO To Ru f k j):OS N J To Ru f0 (setO f k true) true k (j+1):=by
 have hN:=inn k j hk hj
 have h0:=ht.1
 have en:nxD N To k j=(To k j).toNat:=by unfold nxD;rw [if_neg (by omega)]
 refine⟨fun a h1 h2=>?_,?_,fun e=>by cases e⟩
 ·unfold setO at h2
  by_cases c:a=k
  ·subst c
   rcases ht.2 with h3 | h3
   ·refine⟨[j],by simp,fun c hc=>by simp at hc;omega,?_⟩
    show 0≤labD N Ru (nxD N To a j);rw [en];unfold labD;rw [if_neg (by omega)];exact h3
   ·obtain⟨w,w0,w1,w2⟩:=h.just _ (by omega) h3
    refine⟨j::w,by simp,fun y hy=>?_,?_⟩
    ·rcases List.mem_cons.1 hy with rfl | hy
     ·exact hj
     ·exact w1 y hy
    ·rw [runA_cons,en]
     exact w2
  ·rw [if_neg c] at h2
   exact h.just a h1 h2
 ·have:=h.cnt
  have:fcO N (setO f k true)<fcO N f:=by
   unfold fcO;refine cnt_lt _ (fun x _ hx=>?_) ⟨k,List.mem_range.2 hk,by rw [hf];rfl,by unfold setO;rw [if_pos rfl];rfl⟩;unfold setO at hx;split at hx
   ·simp at hx
   ·exact hx
  simp only [if_true];omega
theorem OS.row (h:OS N J To Ru f0 f more k J):OS N J To Ru f0 f more (k+1) 0:=
 ⟨h.just,h.cnt,fun e=>by
  obtain⟨h1,h2⟩:=h.same e
  exact⟨h1,fun a b ha hb hab=>h2 a b ha hb (by omega)⟩⟩
theorem nxD_lt (inn:∀i c,i<N→c<J→To i c<(N:Int)):∀i c,i<N+1→c<J→nxD N To i c<N+1:=fun i c hi hc=>by
 unfold nxD
 split
 ·omega
 ·have:=inn i c (by omega) hc
  omega
theorem OS.ok (h:OS N J To Ru f0 f false N 0) (inn:∀i c,i<N→c<J→To i c<(N:Int)):OOK (nxD N To) (labD N Ru) J (N+1) (fun i=>decide (i<N) && f i):=by
 obtain⟨h1,h2⟩:=h.same rfl
 subst h1
 refine⟨nxD_lt inn,fun a c ha hc hx=>?_,fun a ha hx=>?_⟩
 ·by_cases e:nxD N To a c=N
  ·rw [e] at hx
   unfold labD at hx;rw [if_pos rfl] at hx;simp at hx
  ·have hne:¬(a=N∨To a c<0):=fun e'=>e (by unfold nxD;rw [if_pos e'])
   have en:nxD N To a c=(To a c).toNat:=by unfold nxD;rw [if_neg hne]
   have haN:a<N:=by omega
   have hin:=inn a c haN hc;rw [en] at hx
   have h3:=h2 a c haN hc (.inl haN) ⟨by omega,by
    unfold labD at hx;rw [if_neg (by omega)] at hx;rcases hx with hx | hx
    ·exact .inl hx
    ·rw [Bool.and_eq_true] at hx;exact .inr hx.2⟩
   show (decide (a<N) && f a)=true;rw [h3,decide_eq_true haN];rfl
 ·rw [Bool.and_eq_true] at hx
  exact h.just a (of_decide_eq_true hx.1) hx.2
theorem fresh_dead {d:Nat→Nat→Bool}:(List.range (N+1)).countP (fresh (fun i=>decide (i<N) && f i) d)=(List.range N).countP (fresh f d):=by
 rw [List.range_succ,List.countP_append]
 have h1:[N].countP (fresh (fun i=>decide (i<N) && f i) d)=0:=by
  rw [List.countP_eq_zero];intro x hx;rw [List.mem_singleton.1 hx];unfold fresh;simp
 rw [h1,Nat.add_zero]
 refine List.countP_congr (fun x hx=>?_)
 have h2:decide (x<N)=true:=decide_eq_true (List.mem_range.1 hx)
 unfold fresh
 simp only [h2,Bool.true_and]
end
end Pu
end Go.Proofs.Ytmccnmgaoppogaa
