/-
 The walks: a text and the sets of its modes; Check. (weir)
-/
import Derived.Test.YtmccnmgaoppogaaGreatFB
namespace Go.Proofs.YtmccnmgaoppogaaGreat
open Go.RowKit
structure Kt (t0:Nat) (w w':World):Prop where
 keep:∀(k:Nat) (cs:Array Value) (t:TypeId) (fr:Nat × Nat),w.heap[k]?=some (.cells cs t fr)→t≠t0→w'.heap[k]?=some (.cells cs t fr)
section
variable {t0:Nat} {w w' w'':World}
theorem Kt.below (h:Below w.heap.size w w'):Kt t0 w w':=⟨fun k cs t fr hk _=>by
 have hl:=(Array.getElem?_eq_some_iff.1 hk).1
 rw [h.block k hl]
 exact hk⟩
theorem Kt.trans (h:Kt t0 w w') (h':Kt t0 w' w''):Kt t0 w w'':=⟨fun k cs t fr hk a=>h'.keep k cs t fr (h.keep k cs t fr hk a) a⟩
theorem Kt.row {B size n:Nat} {v:Value} {xs:List Value} (ho:w.ownsRow B t0 size v n xs) (h:w.grownBy w' v.ownBlock):Kt t0 w w':=⟨fun k cs t fr hk h1=>by
 have hl:=(Array.getElem?_eq_some_iff.1 hk).1
 rw [h.block k hl (fun e=>by
  rcases ho.2 with ⟨rfl,_⟩ | ⟨g,cap,cur,rfl,_,h4,_⟩
  ·cases e
  ·cases e
   rw [h4] at hk;cases hk
   exact h1 rfl)]
 exact hk⟩
theorem Kt.blk {g:Nat} {xs:List Value} (hb:Blk w g t0 xs) (h:w.grownBy w' (some g)):Kt t0 w w':=⟨fun k cs t fr hk h1=>by
 have hl:=(Array.getElem?_eq_some_iff.1 hk).1
 rw [h.block k hl (fun e=>by
  cases e
  unfold Blk at hb;rw [hb] at hk;cases hk
  exact h1 rfl)]
 exact hk⟩
theorem Kt.block {g t:Nat} {xs:List Value} (h:Kt t0 w w') (hb:Blk w g t xs) (h1:t≠t0):Blk w' g t xs:=h.keep g _ t _ hb h1
theorem Kt.rows {B' t size n:Nat} {v:Value} {xs:List Value} (h:Kt t0 w w') (hn:w.ownsRow B' t size v n xs) (h1:t≠t0):w'.ownsRow B' t size v n xs:=by
 refine⟨hn.1,?_⟩
 rcases hn.2 with h0 | ⟨g,cap,cur,h3,h4,h5,h6⟩
 ·exact .inl h0
 ·exact .inr ⟨g,cap,cur,h3,h4,h.keep g _ _ _ h5 h1,h6⟩
theorem Kt.nats {v:Value} {l:List Nat} (h:Kt t0 w w') (hn:Nats w v l) (h1:3≠t0):Nats w' v l:=h.rows hn h1
theorem Kt.plm {B':Nat} {v:Value} {ps:List Pure.Pl} (h:Kt t0 w w') (hn:Plm B' w v ps) (h1:3≠t0) (h2:235≠t0):Plm B' w' v ps:=by
 obtain⟨qs,k1,k2,k3⟩:=hn
 exact⟨qs,h.rows k1 h2,k2,fun q hq=>h.nats (k3 q hq) h1⟩
theorem Kt.lm {B':Nat} {v:Value} {ls:List Pure.Lp} (h:Kt t0 w w') (hn:Lm B' w v ls) (h1:3≠t0) (h2:85≠t0):Lm B' w' v ls:=by
 obtain⟨qs,k1,k2,k3⟩:=hn
 exact⟨qs,h.rows k1 h2,k2,fun q hq=>⟨(k3 q hq).1,(k3 q hq).2.1,h.nats (k3 q hq).2.2.1 h1,h.nats (k3 q hq).2.2.2 h1⟩⟩
theorem Kt.setm {B':Nat} {v:Value} {ss:List Pure.St} (h:Kt t0 w w') (hn:Setm B' w v ss) (h1:3≠t0) (h2:142≠t0):Setm B' w' v ss:=by
 obtain⟨ts,k1,k2,k3,k4⟩:=hn
 exact⟨ts,h.rows k1 h2,k2,fun t ht=>h.nats (k3 t ht) h1,k4⟩
end
namespace Pure
def nM (all:List Ln):Nat:=(nModes (allLn all).1).toNat
def setsOf (all:List Ln) (m:Nat):List St:=findS (allLn all).1 (allLn all).2 (m:Int)
def foundOf (all:List Ln) (m:Nat):List (List St):=(List.range m).map (setsOf all)
def PCheck (s:ByteArray) (en no:Int):Prop:=
 (300<s.size∧en=9∧no=0)∨(s.size≤300∧∃k:Nat,LnsF s 0 0 k∧en=10∧no=k)∨
 (s.size≤300∧∃all,Lns s 0 [] all∧
  ((∃i:Nat,FirstL dnL all i∧en=11∧no=i)∨(NoL dnL all∧∃i:Nat,FirstL emL all i∧en=12∧no=i)∨
   (NoL dnL all∧NoL emL all∧((∃m:Nat,m<nM all∧42<(setsOf all m).length∧(∀j,j<m→(setsOf all j).length≤42)∧en=13∧no=m)∨((∀j,j<nM all→(setsOf all j).length≤42)∧en=0∧no=0)))))
theorem hi1_bd {ls:List Lp} (hm:∀x∈ls,0≤x.mode∧x.mode≤3∧0≤x.md∧x.md≤3):∀h:Int,0≤h→h≤3→0≤ls.foldl hi1 h∧ls.foldl hi1 h≤3:=by
 induction ls with
 | nil=>intro h h0 h1;exact⟨h0,h1⟩
 | cons x ls ih=>
  intro h h0 h1;have hx:=hm x (List.mem_cons_self ..);refine ih (fun y hy=>hm y (List.mem_cons_of_mem _ hy)) _ ?_ ?_
  ·unfold hi1;split <;> (try split) <;> omega
  ·unfold hi1;split <;> (try split) <;> omega
theorem nM_bd {all:List Ln} (h:∀x∈all,LnB x):nModes (allLn all).1=(nM all:Int)∧1≤nM all∧nM all≤4:=by
 have:=hi1_bd (ls:=(allLn all).1) (by
  intro y hy;obtain⟨k,hk⟩:=List.getElem?_of_mem hy;have kl:k<all.length:=by rw [←(allLn_lin all).n];exact (List.getElem?_eq_some_iff.1 hk).1
  have hx:=List.getElem?_eq_getElem kl;obtain⟨pt,h1,_⟩:=allLn_get all hx;rw [hk] at h1;cases h1;have:=h _ (List.getElem_mem kl);unfold LnB at this;simp only [Ln.lp]
  omega) 0 (by omega) (by omega)
 unfold nM nModes
 omega
end Pure
def Fnd (B:Nat) (W:World) (v:Value) (sss:List (List Pure.St)):Prop:=∃vs:List Value,W.ownsRow B 87 1 v vs.length vs∧vs.length=sss.length∧∀(j:Nat) (u:Value) (ss:List Pure.St),vs[j]?=some u→sss[j]?=some ss→Setm B W u ss∧∃a n c,u=.slice a n c
theorem Fnd.below {B:Nat} {W W':World} {v:Value} {sss:List (List Pure.St)} (h:Fnd B W v sss) (hb:Below W.heap.size W W'):Fnd B W' v sss:=by
 obtain⟨vs,h1,h2,h3⟩:=h
 exact⟨vs,own_below h1 hb lr_,h2,fun j u ss a b=>⟨(h3 j u ss a b).1.below hb,(h3 j u ss a b).2⟩⟩
theorem Setm.form {B:Nat} {W:World} {v:Value} {ss:List Pure.St} (h:Setm B W v ss):∃a c,v=.slice a ss.length c:=by
 obtain⟨ts,h1,h2,_⟩:=h
 obtain⟨a,c,e,_⟩:=own_fm h1
 exact⟨a,c,by rw [e,←h2,List.length_map]⟩
theorem Setm.mono {B B':Nat} {W:World} {v:Value} {ss:List Pure.St} (h:Setm B W v ss) (hb:B'≤B):Setm B' W v ss:=by
 obtain⟨ts,h1,h2⟩:=h
 exact⟨ts,own_mono h1 hb,h2⟩
theorem sl_info:(Tryz.prog.info? 87).map (fun i=>(i.zero,i.size,i.bytes))=some (some (.slice none 0 0),1,24):=by kernel_rfl
theorem wpList_append_sl {w:World} {ops:Array Oper} {rest:List Oper} {o:Oper} {a:Act} {Q:Exit→Act→World→Prop} (hgd:o.guard=none) (s x:Operand)
  (ho:o.op=.call { callee:=.builtin .append,args:=#[s,x],argTypes:=#[79,79] }) (base:Nat) (v:Value) (vs:List Value) (hs:a.eval s=v) (hown:w.ownsRow base 87 1 v vs.length vs)
  (gx:Nat) (q:Value) (hx:a.eval x=.slice (some ⟨gx,0,none⟩) 1 1) (hb:Blk w gx 87 [q]) (hq:q.oneCell'=true) (hlen:vs.length≤1000) (hbase:base≤w.heap.size)
  (h:∀v' w',w'.ownsRow base 87 1 v' (vs++[q]).length (vs++[q])→w.grownBy w' v.ownBlock→wpList Tryz.prog ops Q rest (a.put o.dst v') w'):wpList Tryz.prog ops Q (o::rest) a w:=by
 obtain⟨il,hil,hl0,hl1,hl2⟩:=info_parts sl_info
 refine wpList_append_own _ hgd s x 79 ho base 87 il _ 1 24 Tryz.underlying79 hil hl0 hl1 hl2 rfl (by decide) v vs.length vs hs hown ⟨gx,0,none⟩ 1 1 [q] hx rfl ?_ (fun u hu=>by simp at hu;rw [hu];exact hq) (by unfold maxLen;omega) (by omega) hbase ?_
 ·intro j y hy
  have:=blk_cell hb hy;simpa [add_eq] using this
 ·intro v' w' h1 h2 _
  refine h v' w' ?_ h2;rw [List.length_append];exact h1
def RetRd (s:ByteArray) (w:World) (e:Ending) (w':World):Prop:=∃a b c fv en no,e=.returned (.tuple #[.agg #[a,b,c],fv,.int .i64 en,.int .i64 no])∧Below w.heap.size w w'∧Pure.PCheck s en no∧(en≠0→Value.agg #[a,b,c]=textZ∧fv=.slice none 0 0)∧
 (en=0→∃all al nl cl ap np cp,Pure.Lns s 0 [] all∧Pure.NoL Pure.dnL all∧Pure.NoL Pure.emL all∧(∀j,j<Pure.nM all→(Pure.setsOf all j).length≤42)∧a=.int .i64 (Pure.nM all:Nat)∧b=.slice al nl cl∧c=.slice ap np cp∧Lm w.heap.size w' b (Pure.allLn all).1∧Plm w.heap.size w' c (Pure.allLn all).2∧Fnd w.heap.size w' fv (Pure.foundOf all (Pure.nM all)))
structure RI (w:World) (gR gB:Nat) (all:List Pure.Ln) (al:Option Addr) (nl cl:Nat) (ap:Option Addr) (np cp:Nat) (m:Nat) (fv:Value) (W:World):Prop where
 be:Below w.heap.size w W
 r:Blk W gR 78 [.int .i64 0,.slice none 0 0,.slice none 0 0]
 b:Blk W gB 78 [.int .i64 (Pure.nM all:Nat),.slice al nl cl,.slice ap np cp]
 lm:Lm w.heap.size W (.slice al nl cl) (Pure.allLn all).1
 pl:Plm w.heap.size W (.slice ap np cp) (Pure.allLn all).2
 fd:Fnd w.heap.size W fv (Pure.foundOf all m)
 ok:∀j,j<m→(Pure.setsOf all j).length≤42
 ap:w.heap.size≤gR
theorem RI.below {w:World} {gR gB:Nat} {all:List Pure.Ln} {al:Option Addr} {nl cl:Nat} {ap:Option Addr} {np cp m:Nat} {fv:Value} {W W':World} (h:RI w gR gB all al nl cl ap np cp m fv W) (hb:Below W.heap.size W W'):RI w gR gB all al nl cl ap np cp m fv W':=
 ⟨bel0 h.be hb,blk_below h.r hb (blk_lt h.r),blk_below h.b hb (blk_lt h.b),h.lm.below hb,h.pl.below hb,h.fd.below hb,h.ok,h.ap⟩
end Go.Proofs.YtmccnmgaoppogaaGreat
