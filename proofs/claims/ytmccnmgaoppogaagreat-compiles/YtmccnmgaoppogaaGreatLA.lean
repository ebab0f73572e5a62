/-
 Plain mathematics: the code that is laid: what stands where; it is right.
 Plain mathematics: the kinds of a mode's words can be laid.
 Plain mathematics: sets that are sorted to the end are of one kind just if no word behind theirs makes a difference.
 Plain mathematics: where the bytes lead from the sets that are found.
 Plain mathematics: the kinds of words: which rule matches them first, and whether they can be gone on with.
 Plain mathematics: how the code of kinds runs over bytes.
 Plain mathematics: the program that rules are compiled into.
-/
import Derived.Test.YtmccnmgaoppogaaGreatJB
import Derived.Test.YtmccnmgaoppogaaGreatGaA
import Derived.Test.YtmccnmgaoppogaaGreatSA
namespace Go.Proofs.YtmccnmgaoppogaaGreat
namespace Pure
theorem rowEnd_same (l:List Nat):∀(f low c:Nat),low≤c→c≤rowEnd l low f→l.getD c 0=l.getD low 0:=by
 intro f
 induction f with
 | zero=>
  intro low c h1 h2;have:c=low:=by unfold rowEnd at h2;omega
  rw [this]
 | succ f ih=>
  intro low c h1 h2;unfold rowEnd at h2;split at h2
  ·rename_i h
   by_cases e:c=low
   ·rw [e]
   ·rw [ih (low+1) c (by omega) h2,h.2]
  ·have:c=low:=by omega
   rw [this]
def Way (l:List Nat) (x:Ins):Prop:=∃a b:Nat,a≤b∧b<256∧x=⟨3,a,b,(l.getD a 0:Nat)⟩∧l.getD a 0≠0∧∀c,a≤c→c≤b→l.getD c 0=l.getD a 0
theorem waysGo_shape (l:List Nat):∀(f low:Nat) (acc:List Ins),(∀x∈acc,Way l x)→∀x∈waysGo l f low acc,Way l x:=by
 intro f
 induction f with
 | zero=>intro low acc h;exact h
 | succ f ih=>
  intro low acc h;unfold waysGo;split
  ·rename_i hl
   have bd:=rowEnd_bd l 256 low hl;refine ih _ _ ?_
   split
   ·exact h
   ·rename_i h0
    intro x hx;rcases List.mem_append.1 hx with k | k
    ·exact h x k
    ·refine⟨low,rowEnd l low 256,bd.1,bd.2,List.mem_singleton.1 k,h0,fun c h1 h2=>rowEnd_same l 256 low c h1 h2⟩
  ·exact h
theorem ways_shape (l:List Nat):∀x∈waysOn l,Way l x:=waysGo_shape l 257 0 [] (fun x hx=>by simp at hx)
theorem waysGo_sub (l:List Nat):∀(f low:Nat) (acc:List Ins) (x:Ins),x∈acc→x∈waysGo l f low acc:=by
 intro f
 induction f with
 | zero=>intro low acc x h;exact h
 | succ f ih=>
  intro low acc x h;unfold waysGo;split
  ·refine ih _ _ _ ?_
   split
   ·exact h
   ·exact List.mem_append_left _ h
  ·exact h
theorem waysGo_cover (l:List Nat) (c:Nat) (hc:c<256) (h0:l.getD c 0≠0):∀(f low:Nat) (acc:List Ins),257≤f+low→low≤c→∃x∈waysGo l f low acc,x.a≤c∧(c:Int)≤x.b:=by
 intro f
 induction f with
 | zero=>intro low acc h1 h2;omega
 | succ f ih=>
  intro low acc h1 h2;have hl:low<256:=by omega
  have bd:=rowEnd_bd l 256 low hl;unfold waysGo;rw [if_pos hl];by_cases h:c≤rowEnd l low 256
  ·have hv:=rowEnd_same l 256 low c h2 h
   rw [if_neg (by rw [←hv];exact h0)];refine⟨⟨3,low,(rowEnd l low 256:Nat),(l.getD low 0:Nat)⟩,waysGo_sub l _ _ _ _ (List.mem_append_right _ (List.mem_singleton.2 rfl)),?_,?_⟩
   ·show (low:Int)≤c;omega
   ·show (c:Int)≤(rowEnd l low 256:Nat);omega
  ·exact ih _ _ (by omega) (by omega)
theorem ways_cover (l:List Nat) (c:Nat) (hc:c<256) (h0:l.getD c 0≠0):∃x∈waysOn l,x.a≤c∧(c:Int)≤x.b:=waysGo_cover l c hc h0 257 0 [] (by omega) (Nat.zero_le _)
theorem kind_shape (k:Kd) (i:Nat) (x:Ins) (h:(kindIns k)[i]?=some x) :
  (x=⟨1,k.rule,0,0⟩∧k.rule≠-1∧∃y,(kindIns k)[i+1]?=some y∧(y.op=2∨y.op=5))∨x=⟨2,0,0,0⟩∨x=⟨5,0,0,0⟩∨(Way k.longer x∧i+1<(kindIns k).length):=by
 have hw:=ways_shape k.longer
 have hl:=(List.getElem?_eq_some_iff.1 h).1
 unfold kindIns at h hl ⊢
 generalize waysOn k.longer=ws at *
 by_cases c1:k.rule=-1
 ·rw [if_pos c1] at h hl ⊢
  by_cases c2:ws.length=0
  ·have:ws=[]:=List.length_eq_zero_iff.1 c2
   subst this
   match i,h with
   | 0,h=>exact .inr (.inr (.inl (by simpa using h.symm)))
   | i+1,h=>simp at h
  ·rw [if_neg c2] at h hl ⊢
   match i,h with
   | 0,h=>exact .inr (.inl (by simpa using h.symm))
   | i+1,h=>
    have h:(ws++[(⟨5,0,0,0⟩:Ins)])[i]?=some x:=by simpa using h
    by_cases hi:i<ws.length
    ·rw [List.getElem?_append_left hi] at h
     exact .inr (.inr (.inr ⟨hw x (List.mem_of_getElem? h),by simp;omega⟩))
    ·rw [List.getElem?_append_right (by omega)] at h
     have:i-ws.length=0:=by
      have:=(List.getElem?_eq_some_iff.1 h).1;simpa using this
     rw [this] at h;exact .inr (.inr (.inl (by simpa using h.symm)))
 ·rw [if_neg c1] at h hl ⊢
  by_cases c2:ws.length=0
  ·have:ws=[]:=List.length_eq_zero_iff.1 c2
   subst this
   match i,h with
   | 0,h=>exact .inl ⟨by simpa using h.symm,c1,⟨5,0,0,0⟩,by simp,.inr rfl⟩
   | 1,h=>exact .inr (.inr (.inl (by simpa using h.symm)))
   | i+2,h=>simp at h
  ·rw [if_neg c2] at h hl ⊢
   match i,h with
   | 0,h=>exact .inl ⟨by simpa using h.symm,c1,⟨2,0,0,0⟩,by simp,.inl rfl⟩
   | 1,h=>exact .inr (.inl (by simpa using h.symm))
   | i+2,h=>
    have h:(ws++[(⟨5,0,0,0⟩:Ins)])[i]?=some x:=by simpa using h
    by_cases hi:i<ws.length
    ·rw [List.getElem?_append_left hi] at h
     exact .inr (.inr (.inr ⟨hw x (List.mem_of_getElem? h),by simp;omega⟩))
    ·rw [List.getElem?_append_right (by omega)] at h
     have:i-ws.length=0:=by
      have:=(List.getElem?_eq_some_iff.1 h).1;simpa using this
     rw [this] at h;exact .inr (.inr (.inl (by simpa using h.symm)))
theorem kind_len (k:Kd):1≤(kindIns k).length∧(kindIns k).length≤259:=by
 have:=waysOn_len k.longer
 unfold kindIns
 by_cases c1:k.rule=-1 <;> by_cases c2:(waysOn k.longer).length=0 <;> simp [c1,c2] <;> omega
theorem kind_head (k:Kd):∃y,(kindIns k)[0]?=some y∧(y.op=1∨y.op=2∨y.op=5):=by
 unfold kindIns
 by_cases c1:k.rule=-1 <;> by_cases c2:(waysOn k.longer).length=0
 ·rw [List.length_eq_zero_iff.1 c2];simp [c1]
 ·simp [c1,c2]
 ·simp [c1]
 ·simp [c1]
def startsOf:Nat→List Kd→List Nat
 | _,[]=>[]
 | n,k::l=>n::startsOf (n+(kindIns k).length) l
theorem startsOf_len:∀(l:List Kd) (n:Nat),(startsOf n l).length=l.length:=by
 intro l
 induction l with
 | nil=>intro n;rfl
 | cons k l ih=>intro n;rw [startsOf,List.length_cons,ih,List.length_cons]
theorem layKd_all (l:List Kd):∀(c:List Ins) (st:List Nat),l.foldl layKd (c,st)=(c++l.flatMap kindIns,st++startsOf c.length l):=by
 induction l with
 | nil=>intro c st;simp [startsOf]
 | cons k l ih=>
  intro c st;rw [List.foldl_cons];show l.foldl layKd (c++kindIns k,st++[c.length])=_;rw [ih,List.flatMap_cons,startsOf];simp [List.append_assoc]
theorem starts_block:∀(l:List Kd) (n j:Nat) (k:Kd),l[j]?=some k→∃o,(startsOf n l)[j]?=some (n+o)∧∀i x,(kindIns k)[i]?=some x→(l.flatMap kindIns)[o+i]?=some x:=by
 intro l
 induction l with
 | nil=>intro n j k h;simp at h
 | cons k0 l ih=>
  intro n j k h
  match j,h with
  | 0,h=>
   have:k0=k:=by simpa using h
   subst this;refine⟨0,by simp [startsOf],fun i x hx=>?_⟩;rw [Nat.zero_add,List.flatMap_cons,List.getElem?_append_left (List.getElem?_eq_some_iff.1 hx).1];exact hx
  | j+1,h=>
   obtain⟨o,h1,h2⟩:=ih (n+(kindIns k0).length) j k (by simpa using h);refine⟨(kindIns k0).length+o,?_,fun i x hx=>?_⟩
   ·rw [startsOf,List.getElem?_cons_succ,h1,Nat.add_assoc]
   ·rw [List.flatMap_cons,List.getElem?_append_right (by omega),show (kindIns k0).length+o+i-(kindIns k0).length=o+i by omega]
    exact h2 i x hx
theorem block_of:∀(l:List Kd) (n i:Nat) (x:Ins),(l.flatMap kindIns)[i]?=some x→∃(j:Nat) (k:Kd) (o i':Nat),l[j]?=some k∧(startsOf n l)[j]?=some (n+o)∧i=o+i'∧(kindIns k)[i']?=some x:=by
 intro l
 induction l with
 | nil=>intro n i x h;simp at h
 | cons k0 l ih=>
  intro n i x h;rw [List.flatMap_cons] at h;by_cases c:i<(kindIns k0).length
  ·rw [List.getElem?_append_left c] at h
   exact⟨0,k0,0,i,rfl,by simp [startsOf],by omega,h⟩
  ·rw [List.getElem?_append_right (by omega)] at h
   obtain⟨j,k,o,i',h1,h2,h3,h4⟩:=ih (n+(kindIns k0).length) _ x h;refine⟨j+1,k,(kindIns k0).length+o,i',by simpa using h1,?_,by omega,h4⟩;rw [startsOf,List.getElem?_cons_succ,h2,Nat.add_assoc]
def stS (n:Nat) (all:List Kd):List Nat:=0::startsOf n (all.drop 1)
def modeC (n:Nat) (all:List Kd):List Ins:=if all.length≤1 then [⟨5,0,0,0⟩] else ((all.drop 1).flatMap kindIns).map (linkI (stS n all))
theorem layMode_eq (code:List Ins) (all:List Kd):layMode code all=code++modeC code.length all:=by
 unfold layMode modeC
 split
 ·rfl
 ·rw [layKd_all]
  simp [stS]
theorem flat_kinds_len (l:List Kd):l.length≤(l.flatMap kindIns).length∧(l.flatMap kindIns).length≤259*l.length:=by
 induction l with
 | nil=>simp
 | cons k l ih=>
  have:=kind_len k;rw [List.flatMap_cons,List.length_append,List.length_cons];omega
theorem modeC_len (n:Nat) (all:List Kd) (h:all.length≤42):1≤(modeC n all).length∧(modeC n all).length≤10619:=by
 unfold modeC
 split
 ·simp
 ·have:=flat_kinds_len (all.drop 1)
  rw [List.length_drop] at this;rw [List.length_map];omega
def Blo (code:List Ins) (st:List Nat) (s:Nat) (k:Kd):Prop:=∀i x,(kindIns k)[i]?=some x→code[s+i]?=some (linkI st x)
def Lays (code:List Ins) (e:Nat) (all:List Kd):Prop:=(all.length≤1∧code[e]?=some ⟨5,0,0,0⟩)∨
 (2≤all.length∧∃st:List Nat,st.length=all.length∧st[1]?=some e∧∀j k,all[j]?=some k→1≤j→∃s,st[j]?=some s∧Blo code st s k)
theorem get_more {α:Type} {l:List α} {i:Nat} {x:α} (h:l[i]?=some x) (r:List α):(l++r)[i]?=some x:=by
 rw [List.getElem?_append_left (List.getElem?_eq_some_iff.1 h).1]
 exact h
theorem Blo.more {code:List Ins} {st:List Nat} {s:Nat} {k:Kd} (h:Blo code st s k) (r:List Ins):Blo (code++r) st s k:=fun i x hx=>get_more (h i x hx) r
theorem Lays.more {code:List Ins} {e:Nat} {all:List Kd} (h:Lays code e all) (r:List Ins):Lays (code++r) e all:=by
 rcases h with ⟨h1,h2⟩ | ⟨h1,st,h2,h3,h4⟩
 ·exact .inl ⟨h1,get_more h2 r⟩
 ·refine .inr ⟨h1,st,h2,h3,fun j k hj h=>?_⟩
  obtain⟨s,h5,h6⟩:=h4 j k hj h;exact⟨s,h5,h6.more r⟩
theorem laysS (code:List Ins) (all:List Kd) (c:¬all.length≤1) (j:Nat) (k:Kd) (hj:all[j]?=some k) (h:1≤j):∃s,(stS code.length all)[j]?=some s∧Blo (code++modeC code.length all) (stS code.length all) s k:=by
 unfold modeC
 rw [if_neg c]
 obtain⟨j,rfl⟩:∃j',j=j'+1:=⟨j-1,by omega⟩
 obtain⟨o,h1,h2⟩:=starts_block (all.drop 1) code.length j k (by rw [List.getElem?_drop,Nat.add_comm];exact hj)
 refine⟨code.length+o,by rw [stS,List.getElem?_cons_succ];exact h1,fun i x hx=>?_⟩
 have:=h2 i x hx
 rw [List.getElem?_append_right (by omega),show code.length+o+i-code.length=o+i by omega,List.getElem?_map,this]
 rfl
theorem lays_mode (code:List Ins) (all:List Kd):Lays (code++modeC code.length all) code.length all:=by
 by_cases c:all.length≤1
 ·unfold modeC
  rw [if_pos c];exact .inl ⟨c,by simp⟩
 ·refine .inr ⟨by omega,stS code.length all,?_,?_,laysS code all c⟩
  ·simp only [stS,List.length_cons,startsOf_len,List.length_drop]
   omega
  ·match all,c with
   | [],c=>simp at c
   | [_],c=>simp at c
   | k0::k1::l,_=>simp [stS,startsOf]
def Gi (code:List Ins) (R i:Nat) (x:Ins):Prop:=
 (x.op=1∧0≤x.a∧x.a<R∧x.b=0∧x.to=0∧∃y,code[i+1]?=some y∧(y.op=2∨y.op=5))∨x=⟨2,0,0,0⟩∨x=⟨5,0,0,0⟩∨
 (x.op=3∧0≤x.a∧x.a≤x.b∧x.b≤255∧i+1<code.length∧∃(t:Nat) (y:Ins),x.to=t∧code[t]?=some y∧(y.op=1∨y.op=2∨y.op=5))
theorem Gi.more {code:List Ins} {R i:Nat} {x:Ins} (h:Gi code R i x) (r:List Ins):Gi (code++r) R i x:=by
 rcases h with ⟨h1,h2,h3,h4,h5,y,h6,h7⟩ | h | h | ⟨h1,h2,h3,h4,h5,t,y,h6,h7,h8⟩
 ·exact .inl ⟨h1,h2,h3,h4,h5,y,get_more h6 r,h7⟩
 ·exact .inr (.inl h)
 ·exact .inr (.inr (.inl h))
 ·exact .inr (.inr (.inr ⟨h1,h2,h3,h4,by rw [List.length_append];omega,t,y,h6,get_more h7 r,h8⟩))
def KdsOK (R:Nat) (all:List Kd):Prop:=all.length≤42∧∀k∈all,(k.rule=-1∨(0≤k.rule∧k.rule<R))∧k.longer.length=256∧∀b,k.longer.getD b 0<all.length
theorem linkI_op (st:List Nat) (x:Ins):(linkI st x).op=x.op:=by
 unfold linkI
 split <;> rfl
theorem mode_gi (R:Nat) (code:List Ins) (all:List Kd) (h:KdsOK R all) (i:Nat) (x:Ins) (hx:(modeC code.length all)[i]?=some x):Gi (code++modeC code.length all) R (code.length+i) x:=by
 by_cases c:all.length≤1
 ·unfold modeC at hx
  rw [if_pos c] at hx
  match i,hx with
  | 0,hx=>exact .inr (.inr (.inl (by simpa using hx.symm)))
  | i+1,hx=>simp at hx
 ·have hL:=laysS code all c
  have hM:modeC code.length all=((all.drop 1).flatMap kindIns).map (linkI (stS code.length all)):=by unfold modeC;rw [if_neg c]
  rw [hM,List.getElem?_map] at hx;have hMl:(modeC code.length all).length=((all.drop 1).flatMap kindIns).length:=by rw [hM,List.length_map]
  cases hf:((all.drop 1).flatMap kindIns)[i]? with
  | none=>rw [hf] at hx;cases hx
  | some x0=>
   rw [hf] at hx;have hx:linkI (stS code.length all) x0=x:=by simpa using hx
   obtain⟨j,k,o,i',h1,h2,h3,h4⟩:=block_of (all.drop 1) code.length i x0 hf;rw [List.getElem?_drop,Nat.add_comm] at h1;obtain⟨s,hs,hb⟩:=hL (j+1) k h1 (by omega)
   have hs2:s=code.length+o:=by
    rw [stS,List.getElem?_cons_succ,h2] at hs;exact (Option.some.inj hs).symm
   have hk:=h.2 k (List.mem_of_getElem? h1);subst hx;rcases kind_shape k i' x0 h4 with ⟨e,hr,y,hy,hyo⟩ | e | e | ⟨⟨a,b,w1,w2,rfl,w4,_⟩,w6⟩
   ·subst e
    have:=hb (i'+1) y hy;refine .inl ⟨rfl,?_,?_,rfl,rfl,linkI (stS code.length all) y,?_,by rw [linkI_op];exact hyo⟩
    ·show 0≤k.rule
     rcases hk.1 with e | e
     ·exact absurd e hr
     ·exact e.1
    ·show k.rule<R
     rcases hk.1 with e | e
     ·exact absurd e hr
     ·exact e.2
    ·rw [hs2] at this
     rw [show code.length+i+1=code.length+o+(i'+1) by omega];exact this
   ·subst e;exact .inr (.inl rfl)
   ·subst e;exact .inr (.inr (.inl rfl))
   ·have hlt:=hk.2.2 a
    obtain⟨kv,hkv⟩:∃kv,all[k.longer.getD a 0]?=some kv:=⟨_,List.getElem?_eq_getElem hlt⟩;obtain⟨sv,g1,g2⟩:=hL _ kv hkv (by omega);obtain⟨y,y1,y2⟩:=kind_head kv;have y3:=g2 0 y y1
    have hlast:code.length+i+1<(code++modeC code.length all).length:=by
     have hlen:=(List.getElem?_eq_some_iff.1 (hb (i'+1) _ (List.getElem?_eq_getElem w6))).1;omega
    refine .inr (.inr (.inr ⟨rfl,?_,?_,?_,hlast,sv,linkI (stS code.length all) y,?_,y3,by rw [linkI_op];exact y2⟩))
    ·show (0:Int)≤(a:Int);omega
    ·show (a:Int)≤(b:Int);omega
    ·show (b:Int)≤255;omega
    ·show (((stS code.length all).getD (((k.longer.getD a 0:Nat):Int)).toNat 0:Nat):Int)=(sv:Int)
     rw [Int.toNat_natCast,List.getD_eq_getElem?_getD (l:=stS code.length all),g1];rfl
structure Lain (R:Nat) (code:List Ins):Prop where
 gi:∀i x,code[i]?=some x→Gi code R i x
 last:code=[]∨∃x,code[code.length-1]?=some x∧x.op=5
theorem kind_last (k:Kd):(kindIns k)[(kindIns k).length-1]?=some ⟨5,0,0,0⟩:=by
 have hc:∃r,kindIns k=r++[⟨5,0,0,0⟩]:=⟨_,rfl⟩
 obtain⟨r,hr⟩:=hc
 rw [hr]
 simp
theorem modeC_last (n:Nat) (all:List Kd):∃x,(modeC n all)[(modeC n all).length-1]?=some x∧x.op=5:=by
 unfold modeC
 by_cases c:all.length≤1
 ·rw [if_pos c]
  exact⟨_,rfl,rfl⟩
 ·rw [if_neg c]
  have hne:(all.drop 1)≠[]:=fun e=>by
   have:=congrArg List.length e;rw [List.length_drop] at this;simp at this;omega
  obtain⟨l,k,hlk⟩:∃l k,all.drop 1=l++[k]:=⟨_,_,(List.dropLast_concat_getLast hne).symm⟩;obtain⟨r,hr⟩:∃r,kindIns k=r++[⟨5,0,0,0⟩]:=⟨_,rfl⟩
  have:(all.drop 1).flatMap kindIns=(l.flatMap kindIns++r)++[⟨5,0,0,0⟩]:=by
   rw [hlk,List.flatMap_append,List.flatMap_cons,List.flatMap_nil,List.append_nil,hr,List.append_assoc]
  rw [this];refine⟨⟨5,0,0,0⟩,?_,rfl⟩;simp [linkI]
theorem Lain.mode {R:Nat} {code:List Ins} (h:Lain R code) {all:List Kd} (ha:KdsOK R all):Lain R (code++modeC code.length all):=by
 refine⟨fun i x hx=>?_,?_⟩
 ·by_cases c:i<code.length
  ·rw [List.getElem?_append_left c] at hx
   exact (h.gi i x hx).more _
  ·rw [List.getElem?_append_right (by omega)] at hx
   have:=mode_gi R code all ha _ x hx;rwa [show code.length+(i-code.length)=i by omega] at this
 ·right
  obtain⟨x,h1,h2⟩:=modeC_last code.length all;have hl:=(modeC_len code.length all ha.1).1;refine⟨x,?_,h2⟩;rw [List.length_append,List.getElem?_append_right (by omega),show code.length+(modeC code.length all).length-1-code.length=(modeC code.length all).length-1 by omega];exact h1
structure Laid (R:Nat) (modes:List (List Kd)) (q:List Int × List Ins):Prop where
 lain:Lain R q.2
 len:modes.length≤q.2.length∧q.2.length≤10619*modes.length
 ents:q.1.length=modes.length
 at_:∀(j:Nat) (all:List Kd),modes[j]?=some all→∃e:Nat,q.1[j]?=some (e:Int)∧e<q.2.length∧Lays q.2 e all
theorem layAll_laid (R:Nat) (modes:List (List Kd)) (h:∀m∈modes,KdsOK R m):Laid R modes (layAll modes):=by
 have key:∀(todo done:List (List Kd)) (q:List Int × List Ins),(∀m∈todo,KdsOK R m)→Laid R done q→Laid R (done++todo) (todo.foldl (fun q m=>(q.1++[(q.2.length:Int)],layMode q.2 m)) q):=by
  intro todo
  induction todo with
  | nil=>intro done q _ hq;simpa using hq
  | cons m todo ih=>
   intro done q hm hq;rw [List.foldl_cons,show done++m::todo=(done++[m])++todo by simp];refine ih _ _ (fun m' h'=>hm m' (List.mem_cons_of_mem _ h')) ?_
   have hk:=hm m (List.mem_cons_self ..);rw [layMode_eq];have hl:=modeC_len q.2.length m hk.1;have e1:=hq.len;refine⟨hq.lain.mode hk,?_,by simp [hq.ents],fun j all hj=>?_⟩
   ·simp only [List.length_append,List.length_cons,List.length_nil]
    omega
   ·by_cases c:j<done.length
    ·rw [List.getElem?_append_left c] at hj
     obtain⟨e,h1,h2,h3⟩:=hq.at_ j all hj;exact⟨e,get_more h1 _,by simp only [List.length_append];omega,h3.more _⟩
    ·rw [List.getElem?_append_right (by omega)] at hj
     have e0:j-done.length=0:=by
      have:=(List.getElem?_eq_some_iff.1 hj).1;simpa using this
     rw [e0] at hj;have:m=all:=by simpa using hj
     subst this;refine⟨q.2.length,?_,by simp only [List.length_append];omega,lays_mode _ _⟩;rw [List.getElem?_append_right (by have:=hq.ents;omega),show j-q.1.length=0 by have:=hq.ents;omega];rfl
 have:=key modes [] ([],[]) h ⟨⟨fun i x hx=>by simp at hx,.inl rfl⟩,by simp,rfl,fun j all hj=>by simp at hj⟩
 simpa [layAll] using this
theorem Lain.noWay {R:Nat} {code:List Ins} (h:Lain R code):NoWay code:=by
 refine⟨fun i=>if (code.getD i i0).op=3 then 2+(code.length-i) else if (code.getD i i0).op=1 then 1 else 0,fun i hi j hj=>?_⟩
 have hx:code[i]?=some (code.getD i i0):=by rw [List.getD_eq_getElem?_getD,List.getElem?_eq_getElem hi];rfl
 have g:=h.gi i _ hx
 have gd:∀{t:Nat} {y:Ins},code[t]?=some y→code.getD t i0=y:=fun e=>by rw [List.getD_eq_getElem?_getD,e];rfl
 unfold succ fst snd at hj
 show (if (code.getD j i0).op=3 then 2+(code.length-j) else if (code.getD j i0).op=1 then 1 else 0)<(if (code.getD i i0).op=3 then 2+(code.length-i) else if (code.getD i i0).op=1 then 1 else 0)
 generalize code.getD i i0=x at *
 rcases g with ⟨h1,_,_,_,_,y,h6,h7⟩ | rfl | rfl | ⟨h1,_,_,_,h5,t,y,h6,h7,h8⟩
 ·rw [if_pos (.inl h1),if_neg (by omega)] at hj
  have:j=i+1:=by simpa using hj
  subst this;rw [gd h6,if_neg (by omega),if_neg (by omega),if_neg (by omega),if_pos h1];omega
 ·simp at hj
 ·simp at hj
 ·rw [if_pos (.inr h1),if_pos (.inl h1)] at hj
  have:j=i+1∨j=x.to.toNat:=by simpa using hj
  rcases this with rfl | rfl
  ·rw [if_pos h1]
   split
   ·omega
   ·split <;> omega
  ·rw [if_pos h1,h6,Int.toNat_natCast,gd h7,if_neg (by omega)]
   split <;> omega
theorem Laid.right {R:Nat} {modes:List (List Kd)} {q:List Int × List Ins} {rules:List Rule} (h:Laid R modes q) (hm:1≤modes.length∧modes.length≤4) (hr:RulesOK rules modes.length) (hR:rules.length=R):RightP ⟨q.1,rules,q.2⟩:=by
 have hl:=h.len
 refine⟨⟨by have:=h.ents;show 1≤q.1.length∧q.1.length≤4;omega,fun i hi=>?_⟩,?_,⟨⟨?_,?_⟩,fun i hi=>?_,?_⟩,h.lain.noWay⟩
 ·have hi:i<q.1.length:=hi
  obtain⟨e,h1,h2,_⟩:=h.at_ i _ (List.getElem?_eq_getElem (by have:=h.ents;omega));show 0≤q.1.getD i 0∧q.1.getD i 0<q.2.length;rw [List.getD_eq_getElem?_getD,h1];simp only [Option.getD_some];omega
 ·show RulesOK rules q.1.length
  rw [h.ents];exact hr
 ·show 1≤q.2.length;omega
 ·show q.2.length≤50000;omega
 ·have hi:i<q.2.length:=hi
  have hx:q.2[i]?=some (cg q.2 i):=by unfold cg;rw [List.getD_eq_getElem?_getD,List.getElem?_eq_getElem hi];rfl
  show InsOK rules.length q.2.length (cg q.2 i);rcases h.lain.gi i _ hx with ⟨h1,h2,h3,h4,h5,_⟩ | e | e | ⟨h1,h2,h3,h4,_,t,y,h6,h7,_⟩
  ·exact .inl ⟨h1,h2,by rw [hR];exact h3,h4,h5⟩
  ·rw [e];exact .inr (.inl ⟨.inl rfl,rfl,rfl,rfl⟩)
  ·rw [e];exact .inr (.inl ⟨.inr rfl,rfl,rfl,rfl⟩)
  ·have:=(List.getElem?_eq_some_iff.1 h7).1
   exact .inr (.inr (.inl ⟨h1,h2,h3,h4,by omega,by omega⟩))
 ·rcases h.lain.last with e | ⟨x,h1,h2⟩
  ·have:q.2.length=0:=by rw [e];rfl
   omega
  ·right
   show (cg q.2 (q.2.length-1)).op=5;unfold cg;rw [List.getD_eq_getElem?_getD,h1];exact h2
end Pure
namespace Pure
structure Srt (n:Nat) (q:Sorting):Prop where
 kinds:q.kinds.length=n
 firsts:q.firsts.length≤n
 set:∀o∈q.firsts,o<n
 kind:∀k∈q.kinds,k<q.firsts.length
theorem finer_srt (ss:List St) (rs:List Int) (kinds:List Nat) (n:Nat):Srt n (finer ss rs kinds n):=by
 have h:=finer_ok ss rs kinds n
 refine⟨h.1,h.2.1,h.2.2,?_⟩
 clear h
 induction n with
 | zero=>intro k hk;simp [finer] at hk
 | succ n ih=>
  rw [finer_succ];intro k hk;have hk:k∈(finer ss rs kinds n).kinds++[kindGo ss rs kinds n (finer ss rs kinds n).firsts]:=hk;show k<(if kindGo ss rs kinds n (finer ss rs kinds n).firsts=(finer ss rs kinds n).firsts.length then (finer ss rs kinds n).firsts++[n] else (finer ss rs kinds n).firsts).length;have hle:=kindGo_le ss rs kinds n (finer ss rs kinds n).firsts
  have hm:(finer ss rs kinds n).firsts.length≤(if kindGo ss rs kinds n (finer ss rs kinds n).firsts=(finer ss rs kinds n).firsts.length then (finer ss rs kinds n).firsts++[n] else (finer ss rs kinds n).firsts).length:=by
   split <;> simp
  rcases List.mem_append.1 hk with h | h
  ·have:=ih k h;omega
  ·rw [List.mem_singleton.1 h]
   split
   ·rename_i e;simp;omega
   ·omega
theorem sortGo_srt (ss:List St) (rs:List Int):∀(f:Nat) (q:Sorting),(f=0→Srt ss.length q)→Srt ss.length (sortGo ss rs f q):=by
 intro f
 induction f with
 | zero=>intro q h;exact h rfl
 | succ f ih=>
  intro q _;unfold sortGo;split
  ·exact finer_srt ..
  ·exact ih _ (fun _=>finer_srt ..)
theorem sortS_srt (ss:List St) (rs:List Int):Srt ss.length (sortS ss rs):=sortGo_srt ss rs _ _ (fun h=>by omega)
theorem firstRule_bd (ls:List Lp) (t:List Nat):firstRule ls t=-1∨(0≤firstRule ls t∧firstRule ls t<ls.length):=by
 rcases firstRule_go t ls 0 with ⟨h,_⟩ | ⟨i,x,h1,h2,_⟩
 ·exact .inl h
 ·have:=(List.getElem?_eq_some_iff.1 h1).1
  unfold firstRule;omega
theorem kinds_ok (ls:List Lp) (ss:List St) (h1:1≤ss.length) (h2:ss.length≤42):KdsOK ls.length (kindsS ls ss):=by
 have hs:=sortS_srt ss (rulesOf ls ss)
 unfold kindsS
 generalize sortS ss (rulesOf ls ss)=q at *
 refine⟨by rw [List.length_map];have:=hs.firsts;omega,fun k hk=>?_⟩
 obtain⟨o,ho,rfl⟩:=List.mem_map.1 hk
 have hpos:0<q.firsts.length:=by
  have hk0:0<q.kinds.length:=by rw [hs.kinds];omega
  have:=hs.kind _ (List.getElem_mem hk0);omega
 refine⟨?_,by simp [kindOf],fun b=>?_⟩
 ·show (rulesOf ls ss).getD o 0=-1∨_
  have hlt:=hs.set o ho
  have:(rulesOf ls ss).getD o 0=firstRule ls (ss[o]).places:=by
   unfold rulesOf;rw [List.getD_eq_getElem?_getD,List.getElem?_map,List.getElem?_eq_getElem hlt];rfl
  show (rulesOf ls ss).getD o 0=-1∨(0≤(rulesOf ls ss).getD o 0∧(rulesOf ls ss).getD o 0<ls.length);rw [this];exact firstRule_bd ls _
 ·rw [List.length_map]
  have hz:∀n,q.kinds.getD n 0<q.firsts.length:=fun n=>by
   rw [List.getD_eq_getElem?_getD];by_cases c:n<q.kinds.length
   ·rw [List.getElem?_eq_getElem c]
    exact hs.kind _ (List.getElem_mem c)
   ·rw [List.getElem?_eq_none (by omega)]
    exact hpos
  unfold kindOf;rw [List.getD_eq_getElem?_getD,List.getElem?_map];by_cases c:b<256
  ·rw [List.getElem?_range c]
   exact hz _
  ·rw [List.getElem?_eq_none (by simp;omega)]
   exact hpos
end Pure
namespace Pure
section
variable {ss:List St} {rs:List Int}
def Alk (ss:List St) (rs:List Int) (kinds:List Nat) (s t:Nat):Prop:=rs.getD s 0=rs.getD t 0∧∀c,c<256→kinds.getD (lgS ss s c) 0=kinds.getD (lgS ss t c) 0
theorem Alk.refl (kinds:List Nat) (s:Nat):Alk ss rs kinds s s:=⟨rfl,fun _ _=>rfl⟩
theorem Alk.symm {kinds:List Nat} {s t:Nat} (h:Alk ss rs kinds s t):Alk ss rs kinds t s:=⟨h.1.symm,fun c hc=>(h.2 c hc).symm⟩
theorem Alk.trans {kinds:List Nat} {s t u:Nat} (h:Alk ss rs kinds s t) (h':Alk ss rs kinds t u):Alk ss rs kinds s u:=⟨h.1.trans h'.1,fun c hc=>(h.2 c hc).trans (h'.2 c hc)⟩
theorem alk_iff (kinds:List Nat) (s t:Nat):(rs.getD s 0=rs.getD t 0∧alikeTo ss kinds s t 256=true)↔Alk ss rs kinds s t:=by
 unfold Alk alikeTo
 simp
theorem kindGo_get (kinds:List Nat) (s:Nat):∀l:List Nat,(kindGo ss rs kinds s l=l.length∧∀o∈l,¬Alk ss rs kinds s o)∨(∃o,l[kindGo ss rs kinds s l]?=some o∧Alk ss rs kinds s o):=by
 intro l
 induction l with
 | nil=>exact .inl ⟨rfl,fun o ho=>by simp at ho⟩
 | cons o l ih=>
  unfold kindGo;by_cases c:rs.getD s 0=rs.getD o 0∧alikeTo ss kinds s o 256=true
  ·rw [if_pos c]
   exact .inr ⟨o,rfl,(alk_iff ..).1 c⟩
  ·rw [if_neg c]
   rcases ih with ⟨h1,h2⟩ | ⟨o',h1,h2⟩
   ·refine .inl ⟨by rw [h1,List.length_cons],fun o' ho=>?_⟩
    rcases List.mem_cons.1 ho with e | h
    ·rw [e];exact fun h=>c ((alk_iff ..).2 h)
    ·exact h2 o' h
   ·exact .inr ⟨o',by rw [List.getElem?_cons_succ];exact h1,h2⟩
structure Fnr (ss:List St) (rs:List Int) (kinds:List Nat) (n:Nat) (q:Sorting):Prop where
 len:q.kinds.length=n
 own:∀s,s<n→∃o,q.firsts[q.kinds.getD s 0]?=some o∧Alk ss rs kinds s o
 two:∀i j oi oj:Nat,q.firsts[i]?=some oi→q.firsts[j]?=some oj→Alk ss rs kinds oi oj→i=j
 self:∀i o:Nat,q.firsts[i]?=some o→o<n∧q.kinds.getD o 0=i
theorem getD_snoc_lt {α:Type} (l:List α) (x d:α) {i:Nat} (h:i<l.length):(l++[x]).getD i d=l.getD i d:=by
 rw [List.getD_eq_getElem?_getD,List.getD_eq_getElem?_getD,List.getElem?_append_left h]
theorem getD_snoc_eq {α:Type} (l:List α) (x d:α):(l++[x]).getD l.length d=x:=by
 rw [List.getD_eq_getElem?_getD,List.getElem?_append_right lr_]
 simp
theorem finer_fin (kinds:List Nat):∀n,Fnr ss rs kinds n (finer ss rs kinds n):=by
 intro n
 induction n with
 | zero=>exact⟨rfl,fun s h=>by omega,fun i j oi oj h=>by simp [finer] at h,fun i o h=>by simp [finer] at h⟩
 | succ n ih=>
  rw [finer_succ];unfold finer1;generalize finer ss rs kinds n=q at *;have hl:(q.kinds++[kindGo ss rs kinds n q.firsts]).length=n+1:=by rw [List.length_append,ih.len];rfl
  have g1:∀s,s<n→(q.kinds++[kindGo ss rs kinds n q.firsts]).getD s 0=q.kinds.getD s 0:=fun s hs=>getD_snoc_lt _ _ _ (by rw [ih.len];exact hs)
  have g2:(q.kinds++[kindGo ss rs kinds n q.firsts]).getD n 0=kindGo ss rs kinds n q.firsts:=by
   have:=getD_snoc_eq q.kinds (kindGo ss rs kinds n q.firsts) 0;rwa [ih.len] at this
  rcases kindGo_get (ss:=ss) (rs:=rs) kinds n q.firsts with ⟨h1,h2⟩ | ⟨o,h1,h2⟩
  ·rw [if_pos h1]
   have hnew:∀(i o:Nat),(q.firsts++[n])[i]?=some o→(i<q.firsts.length∧q.firsts[i]?=some o)∨(i=q.firsts.length∧o=n):=fun i o h=>by
    by_cases c:i<q.firsts.length
    ·rw [List.getElem?_append_left c] at h;exact .inl ⟨c,h⟩
    ·rw [List.getElem?_append_right (by omega)] at h
     have e:i-q.firsts.length=0:=by
      have:=(List.getElem?_eq_some_iff.1 h).1;simpa using this
     rw [e] at h;have:n=o:=by simpa using h
     exact .inr ⟨by omega,this.symm⟩
   refine⟨hl,fun s hs=>?_,fun i j oi oj hi hj ha=>?_,fun i o hi=>?_⟩
   ·show ∃o,(q.firsts++[n])[_]?=some o∧_
    by_cases c:s<n
    ·obtain⟨o,h3,h4⟩:=ih.own s c
     rw [g1 s c];refine⟨o,?_,h4⟩;rw [List.getElem?_append_left (List.getElem?_eq_some_iff.1 h3).1];exact h3
    ·have:s=n:=by omega
     subst this;rw [g2,h1];exact⟨s,by simp,Alk.refl ..⟩
   ·rcases hnew i oi hi with ⟨_,a⟩ | ⟨ei,a⟩ <;> rcases hnew j oj hj with ⟨_,b⟩ | ⟨ej,b⟩
    ·exact ih.two i j oi oj a b ha
    ·subst b;exact absurd ha.symm (h2 oi (List.mem_of_getElem? a))
    ·subst a;exact absurd ha (h2 oj (List.mem_of_getElem? b))
    ·omega
   ·rcases hnew i o hi with ⟨_,a⟩ | ⟨ei,a⟩
    ·have:=ih.self i o a
     exact⟨by omega,by rw [g1 o this.1];exact this.2⟩
    ·subst a
     exact⟨by omega,by rw [g2,h1,ei]⟩
  ·have hlt:=(List.getElem?_eq_some_iff.1 h1).1
   rw [if_neg (by omega)];refine⟨hl,fun s hs=>?_,ih.two,fun i o' hi=>?_⟩
   ·by_cases c:s<n
    ·rw [g1 s c];exact ih.own s c
    ·have:s=n:=by omega
     subst this;rw [g2];exact⟨o,h1,h2⟩
   ·have:=ih.self i o' hi
    exact⟨by omega,by rw [g1 o' this.1];exact this.2⟩
theorem Fnr.iff {kinds:List Nat} {n:Nat} {q:Sorting} (h:Fnr ss rs kinds n q) {s t:Nat} (hs:s<n) (ht:t<n):q.kinds.getD s 0=q.kinds.getD t 0↔Alk ss rs kinds s t:=by
 obtain⟨o,h1,h2⟩:=h.own s hs
 obtain⟨o',h3,h4⟩:=h.own t ht
 constructor
 ·intro e
  rw [e,h3] at h1;have:o'=o:=Option.some.inj h1;subst this;exact h2.trans h4.symm
 ·intro e
  exact h.two _ _ o o' h1 h3 (h2.symm.trans (e.trans h4))
def goS (ss:List St):Nat→List Nat→Nat
 | s,[]=>s
 | s,c::w=>goS ss (lgS ss s c) w
def Eqv (ss:List St) (rs:List Int) (s t:Nat):Prop:=∀w:List Nat,(∀c∈w,c<256)→rs.getD (goS ss s w) 0=rs.getD (goS ss t w) 0
def Coarse (ss:List St) (rs:List Int) (q:List Nat):Prop:=∀s t,s<ss.length→t<ss.length→Eqv ss rs s t→q.getD s 0=q.getD t 0
theorem Eqv.lead {s t c:Nat} (h:Eqv ss rs s t) (hc:c<256):Eqv ss rs (lgS ss s c) (lgS ss t c):=fun w hw=>h (c::w) (fun x hx=>by
 rcases List.mem_cons.1 hx with e | e
 ·rw [e];exact hc
 ·exact hw x e)
theorem lgS_lt (hlt:∀z∈ss,∀n∈z.longer,n<ss.length) {s:Nat} (hs:s<ss.length) (c:Nat):lgS ss s c<ss.length:=by
 unfold lgS
 rw [List.getElem?_eq_getElem hs]
 show (ss[s]).longer.getD c 0<_
 rw [List.getD_eq_getElem?_getD]
 cases h:(ss[s]).longer[c]? with
 | none=>exact Nat.lt_of_le_of_lt (Nat.zero_le _) hs
 | some n=>exact hlt _ (List.getElem_mem hs) n (List.mem_of_getElem? h)
theorem coarse_finer (hlt:∀z∈ss,∀n∈z.longer,n<ss.length) {kinds:List Nat} (h:Coarse ss rs kinds):Coarse ss rs (finer ss rs kinds ss.length).kinds:=fun s t hs ht e=>
 ((finer_fin kinds ss.length).iff hs ht).2 ⟨e [] (fun c hc=>by simp at hc),fun c hc=>h _ _ (lgS_lt hlt hs c) (lgS_lt hlt ht c) (e.lead hc)⟩
def Ref (n:Nat) (k k':List Nat):Prop:=∀s t,s<n→t<n→k'.getD s 0=k'.getD t 0→k.getD s 0=k.getD t 0
theorem ref_finer (hlt:∀z∈ss,∀n∈z.longer,n<ss.length) {k k':List Nat} (h:Ref ss.length k k'):Ref ss.length (finer ss rs k ss.length).kinds (finer ss rs k' ss.length).kinds:=fun s t hs ht e=>by
 have:=((finer_fin k' ss.length).iff hs ht).1 e
 exact ((finer_fin k ss.length).iff hs ht).2 ⟨this.1,fun c hc=>h _ _ (lgS_lt hlt hs c) (lgS_lt hlt ht c) (this.2 c hc)⟩
theorem nodup_full (n:Nat) (l:List Nat) (hd:l.Nodup) (hl:∀v∈l,v<n) (hn:n≤l.length) (v:Nat) (hv:v<n):v∈l:=by
 apply Classical.byContradiction
 intro h
 have:=nodup_len n (v::l) (List.nodup_cons.2 ⟨h,hd⟩) (fun u hu=>by
  rcases List.mem_cons.1 hu with e | e
  ·rw [e];exact hv
  ·exact hl u e)
 rw [List.length_cons] at this
 omega
theorem nodup_of_inj {l:List Nat} (h:∀i j x:Nat,l[i]?=some x→l[j]?=some x→i=j):l.Nodup:=by
 rw [List.nodup_iff_pairwise_ne,List.pairwise_iff_getElem]
 intro i j hi hj hij e
 have:=h i j l[i] (List.getElem?_eq_getElem hi) (by rw [e];exact List.getElem?_eq_getElem hj)
 omega
theorem same_again {ka kb:List Nat} {n:Nat} {qa qb:Sorting} (ha:Fnr ss rs ka n qa) (hb:Fnr ss rs kb n qb) (hr:Ref n qa.kinds qb.kinds) (hl:qb.firsts.length≤qa.firsts.length):Ref n qb.kinds qa.kinds:=by
 have hnd:(qa.firsts.map (fun o=>qb.kinds.getD o 0)).Nodup:=by
  refine nodup_of_inj (fun i j x hi hj=>?_);rw [List.getElem?_map] at hi hj
  cases gi:qa.firsts[i]? with
  | none=>rw [gi] at hi;cases hi
  | some oi=>
   cases gj:qa.firsts[j]? with
   | none=>rw [gj] at hj;cases hj
   | some oj=>
    rw [gi] at hi;rw [gj] at hj;have e:qb.kinds.getD oi 0=qb.kinds.getD oj 0:=(Option.some.inj hi).trans (Option.some.inj hj).symm;have si:=ha.self i oi gi;have sj:=ha.self j oj gj;have:=hr oi oj si.1 sj.1 e;omega
 have hlt:∀v∈qa.firsts.map (fun o=>qb.kinds.getD o 0),v<qb.firsts.length:=fun v hv=>by
  obtain⟨o,ho,rfl⟩:=List.mem_map.1 hv;obtain⟨i,hi⟩:=List.getElem?_of_mem ho;obtain⟨o',h1,_⟩:=hb.own o (ha.self i o hi).1;exact (List.getElem?_eq_some_iff.1 h1).1
 have full:=nodup_full qb.firsts.length _ hnd hlt (by rw [List.length_map];exact hl)
 have pick:∀s,s<n→∃o,o<n∧qa.firsts[qa.kinds.getD s 0]?=some o∧qb.kinds.getD o 0=qb.kinds.getD s 0:=fun s hs=>by
  obtain⟨o',h1,_⟩:=hb.own s hs;obtain⟨o,ho,e⟩:=List.mem_map.1 (full _ (List.getElem?_eq_some_iff.1 h1).1);obtain⟨i,hi⟩:=List.getElem?_of_mem ho;have hs':=ha.self i o hi;have:=hr o s hs'.1 hs e;exact⟨o,hs'.1,by rw [←this,hs'.2];exact hi,e⟩
 intro s t hs ht e
 obtain⟨o,_,h1,h2⟩:=pick s hs
 obtain⟨o',_,h3,h4⟩:=pick t ht
 rw [e,h3] at h1
 have:o'=o:=Option.some.inj h1
 subst this
 exact h2.symm.trans h4
structure Done (ss:List St) (rs:List Int) (q:Sorting):Prop where
 fin:∃kinds,Fnr ss rs kinds ss.length q∧Ref ss.length q.kinds kinds
 coarse:Coarse ss rs q.kinds
theorem finer_first (kinds:List Nat) (h:0<ss.length):0<(finer ss rs kinds ss.length).firsts.length:=by
 obtain⟨o,h1,_⟩:=(finer_fin (ss:=ss) (rs:=rs) kinds ss.length).own 0 h
 have:=(List.getElem?_eq_some_iff.1 h1).1
 omega
theorem sortGo_done (hlt:∀z∈ss,∀n∈z.longer,n<ss.length):∀(f:Nat) (q:Sorting) (kinds:List Nat),Fnr ss rs kinds ss.length q→Ref ss.length kinds q.kinds→Coarse ss rs q.kinds→ss.length<f+q.firsts.length→Done ss rs (sortGo ss rs f q):=by
 intro f
 induction f with
 | zero=>
  intro q kinds h1 h2 h3 h4;exfalso
  have hnd:q.firsts.Nodup:=nodup_of_inj (fun i j x hi hj=>by
   have a:=(h1.self i x hi).2;have b:=(h1.self j x hj).2
   omega)
  have:=nodup_len ss.length q.firsts hnd (fun v hv=>by
   obtain⟨i,hi⟩:=List.getElem?_of_mem hv
   exact (h1.self i v hi).1)
  omega
 | succ f ih=>
  intro q kinds h1 h2 h3 h4;unfold sortGo;have hf:=finer_fin (ss:=ss) (rs:=rs) q.kinds ss.length
  have hr:Ref ss.length q.kinds (finer ss rs q.kinds ss.length).kinds:=fun s t hs ht e=>by
   have:=(hf.iff hs ht).1 e;exact (h1.iff hs ht).2 ⟨this.1,fun c hc=>h2 _ _ (lgS_lt hlt hs c) (lgS_lt hlt ht c) (this.2 c hc)⟩
  split
  ·rename_i hl
   exact⟨⟨q.kinds,hf,same_again h1 hf hr hl⟩,coarse_finer hlt h3⟩
  ·exact ih _ q.kinds hf hr (coarse_finer hlt h3) (by omega)
theorem sortS_done (hlt:∀z∈ss,∀n∈z.longer,n<ss.length) (h0:0<ss.length):Done ss rs (sortS ss rs):=by
 unfold sortS sortGo
 have hp:=finer_first (ss:=ss) (rs:=rs) (List.replicate ss.length 0) h0
 have hn0:¬(finer ss rs (List.replicate ss.length 0) ss.length).firsts.length≤0:=by omega
 show Done ss rs (if (finer ss rs (List.replicate ss.length 0) ss.length).firsts.length≤0 then finer ss rs (List.replicate ss.length 0) ss.length else sortGo ss rs ss.length (finer ss rs (List.replicate ss.length 0) ss.length))
 rw [if_neg hn0]
 have h0':∀s,(List.replicate ss.length 0).getD s 0=0:=fun s=>by
  rw [List.getD_eq_getElem?_getD,List.getElem?_replicate];split <;> rfl
 refine sortGo_done hlt _ _ (List.replicate ss.length 0) (finer_fin _ _) (fun s t _ _ _=>by rw [h0',h0']) (coarse_finer hlt (fun s t _ _ _=>by show (List.replicate ss.length 0).getD s 0=(List.replicate ss.length 0).getD t 0;rw [h0',h0'])) ?_
 show ss.length<ss.length+(finer ss rs (List.replicate ss.length 0) ss.length).firsts.length
 omega
theorem Done.alk {q:Sorting} (h:Done ss rs q) (hlt:∀z∈ss,∀n∈z.longer,n<ss.length) {s t:Nat} (hs:s<ss.length) (ht:t<ss.length) (e:q.kinds.getD s 0=q.kinds.getD t 0):Alk ss rs q.kinds s t:=by
 obtain⟨kinds,hf,hr⟩:=h.fin
 have:=(hf.iff hs ht).1 e
 exact⟨this.1,fun c hc=>hr _ _ (lgS_lt hlt hs c) (lgS_lt hlt ht c) (this.2 c hc)⟩
theorem Done.eqv {q:Sorting} (h:Done ss rs q) (hlt:∀z∈ss,∀n∈z.longer,n<ss.length) {s t:Nat} (hs:s<ss.length) (ht:t<ss.length):q.kinds.getD s 0=q.kinds.getD t 0↔Eqv ss rs s t:=by
 constructor
 ·intro e w
  induction w generalizing s t with
  | nil=>intro _;exact (h.alk hlt hs ht e).1
  | cons c w ih=>
   intro hw;exact ih (lgS_lt hlt hs c) (lgS_lt hlt ht c) ((h.alk hlt hs ht e).2 c (hw c (List.mem_cons_self ..))) (fun x hx=>hw x (List.mem_cons_of_mem _ hx))
 ·exact h.coarse s t hs ht
end
end Pure
namespace Pure
def rdy (ps:List Pl) (bg:List Nat) (ss:List St) (i:Nat):List Nat:=if i=1 then bg else behindR ps (plS ss i)
structure Wk (ps:List Pl) (bg:List Nat) (k b:Nat) (ss:List St):Prop where
 two:2≤ss.length
 z0:ss[0]?=some ⟨[],z256⟩
 p1:plS ss 1=[]
 all:∀(i:Nat) (s:St),ss[i]?=some s→s.longer.length=256∧∀n∈s.longer,n<ss.length
 led:∀i c,1≤i→i<ss.length→c<256→(i<k∨(i=k∧c<b))→plS ss (lgS ss i c)=taking ps (rdy ps bg ss i) c∧lgS ss i c≠1
 zero:∀i c,(k<i∨(i=k∧b≤c))→lgS ss i c=0
 fr:∀i,2≤i→i<ss.length→∃j c,1≤j∧j<i∧c<256∧lgS ss j c=i
 dis:∀i j,i<j→j<ss.length→2≤j→plS ss i≠plS ss j
theorem idxSt_get (t:List Nat):∀ss:List St,idxSt t ss<ss.length→∃s,ss[idxSt t ss]?=some s∧s.places=t:=by
 intro ss
 induction ss with
 | nil=>intro h;simp at h
 | cons s r ih=>
  intro h;unfold idxSt at h ⊢;split
  ·rename_i e;exact⟨s,rfl,e⟩
  ·rename_i e
   rw [if_neg e,List.length_cons] at h;obtain⟨s',h1,h2⟩:=ih (by omega);exact⟨s',by rw [List.getElem?_cons_succ];exact h1,h2⟩
theorem idxSt_new (t:List Nat):∀ss:List St,¬idxSt t ss<ss.length→∀i,i<ss.length→plS ss i≠t:=by
 intro ss
 induction ss with
 | nil=>intro _ i hi;simp at hi
 | cons s r ih=>
  intro h i hi;unfold idxSt at h;by_cases e:s.places=t
  ·rw [if_pos e] at h
   simp at h
  ·rw [if_neg e] at h
   cases i with
   | zero=>exact e
   | succ i=>
    have:=ih (by rw [List.length_cons] at h;omega) i (by rw [List.length_cons] at hi;omega);exact this
theorem idxSt_one (t:List Nat) {ss:List St} (h0:plS ss 0=[]) (h1:plS ss 1=[]) (hl:2≤ss.length):idxSt t ss≠1:=by
 match ss,hl with
 | a::b::r,_=>
  have a0:a.places=[]:=h0;have b0:b.places=[]:=h1;unfold idxSt;split
  ·omega
  ·rename_i e
   unfold idxSt;rw [if_neg (by rw [b0];rw [a0] at e;exact e)];omega
section
variable {ps:List Pl} {bg:List Nat}
theorem numb_get (ss:List St) (t:List Nat) {i:Nat} (h:i<ss.length):(numbSt ss t)[i]?=ss[i]?:=by
 unfold numbSt
 split
 ·rfl
 ·rw [List.getElem?_append_left h]
theorem long_get (ss:List St) (f b n i:Nat):(setLong ss f b n)[i]?=(ss[i]?).map (fun s=>if f=i then { s with longer:=s.longer.set b n } else s):=by
 unfold setLong
 rw [List.getElem?_modify]
 by_cases h:f=i <;> simp [h]
theorem long_len (ss:List St) (f b n:Nat):(setLong ss f b n).length=ss.length:=by simp [setLong]
theorem plS_long (ss:List St) (f b n i:Nat):plS (setLong ss f b n) i=plS ss i:=by
 unfold plS
 rw [long_get]
 cases ss[i]? with
 | none=>rfl
 | some s=>
  simp only [Option.map_some];split <;> rfl
theorem lgS_long (ss:List St) (f b n i c:Nat) (hl:∀s,ss[f]?=some s→s.longer.length=256) (hb:b<256) (hf:f<ss.length):lgS (setLong ss f b n) i c=if i=f∧c=b then n else lgS ss i c:=by
 unfold lgS
 rw [long_get]
 by_cases e:f=i
 ·subst e
  obtain⟨s,hs⟩:=gx_ ss f hf;rw [hs];simp only [Option.map_some,if_pos];rw [List.getD_eq_getElem?_getD,List.getElem?_set,List.getD_eq_getElem?_getD];by_cases d:b=c
  ·subst d
   simp [hl s hs,hb]
  ·rw [if_neg d,if_neg (fun h=>d h.2.symm)]
 ·rw [if_neg (fun h=>e h.1.symm)]
  cases ss[i]? with
  | none=>rfl
  | some s=>simp [e]
theorem numb_pl (ss:List St) (t:List Nat) {i:Nat} (h:i<ss.length):plS (numbSt ss t) i=plS ss i:=by
 unfold plS
 rw [numb_get ss t h]
theorem numb_lg (ss:List St) (t:List Nat) (i c:Nat):lgS (numbSt ss t) i c=lgS ss i c:=by
 unfold numbSt
 split
 ·rfl
 ·unfold lgS
  by_cases h:i<ss.length
  ·rw [List.getElem?_append_left h]
  ·rw [List.getElem?_eq_none (l:=ss) (by omega),List.getElem?_append_right (by omega)]
   by_cases e:i-ss.length=0
   ·rw [e]
    show z256.getD c 0=0;unfold z256;rw [List.getD_eq_getElem?_getD,List.getElem?_replicate];split <;> rfl
   ·rw [List.getElem?_eq_none (by simp;omega)]
theorem numb_idx (ss:List St) (t:List Nat):idxSt t ss<(numbSt ss t).length∧plS (numbSt ss t) (idxSt t ss)=t:=by
 unfold numbSt
 by_cases h:idxSt t ss<ss.length
 ·rw [if_pos h]
  obtain⟨s,h1,h2⟩:=idxSt_get t ss h;refine⟨h,?_⟩;unfold plS;rw [h1];exact h2
 ·rw [if_neg h]
  have e:idxSt t ss=ss.length:=by have:=idxSt_le t ss;omega
  rw [e];refine⟨by simp,?_⟩;unfold plS;rw [List.getElem?_append_right lr_];simp
theorem numb_len (ss:List St) (t:List Nat):(numbSt ss t).length=ss.length∨((numbSt ss t).length=ss.length+1∧idxSt t ss=ss.length):=by
 unfold numbSt
 split
 ·exact .inl rfl
 ·have:=idxSt_le t ss
  exact .inr ⟨by simp,by omega⟩
theorem Wk.step {k b:Nat} {ss:List St} (h:Wk ps bg k b ss) (hk:k<ss.length) (hk1:1≤k) (hb:b<256):Wk ps bg k (b+1) (lead1S ps (rdy ps bg ss k) k ss b):=by
 unfold lead1S
 generalize ht:taking ps (rdy ps bg ss k) b=t
 have hn:=numb_idx ss t
 have hlen:=numb_len ss t
 have p0:plS ss 0=[]:=by unfold plS;rw [h.z0]
 have n1:=idxSt_one t p0 h.p1 h.two
 have hge:ss.length≤(numbSt ss t).length:=by omega
 have hl256:∀s,(numbSt ss t)[k]?=some s→s.longer.length=256:=fun s hs=>by
  rw [numb_get ss t hk] at hs;exact (h.all k s hs).1
 have lg:∀i c,lgS (setLong (numbSt ss t) k b (idxSt t ss)) i c=if i=k∧c=b then idxSt t ss else lgS ss i c:=fun i c=>by
  rw [lgS_long _ _ _ _ _ _ hl256 hb (by omega),numb_lg]
 have pl:∀i,i<ss.length→plS (setLong (numbSt ss t) k b (idxSt t ss)) i=plS ss i:=fun i hi=>by rw [plS_long,numb_pl ss t hi]
 have lt:∀i c,i<ss.length→lgS ss i c<ss.length:=fun i c hi=>lgS_lt (fun z hz n hz'=>by
  obtain⟨j,hj⟩:=List.getElem?_of_mem hz
  exact (h.all j z hj).2 n hz') hi c
 have hrd:∀i,i<ss.length→rdy ps bg (setLong (numbSt ss t) k b (idxSt t ss)) i=rdy ps bg ss i:=fun i hi=>by
  unfold rdy;rw [pl i hi]
 refine⟨by rw [long_len];have:=h.two;omega,?_,by rw [pl 1 (by have:=h.two;omega)];exact h.p1,fun i s hs=>?_,fun i c h1 hi hc hic=>?_,fun i c hic=>?_,fun i h2 hi=>?_,fun i j hij hj h2=>?_⟩
 ·rw [long_get,numb_get ss t (by omega),h.z0]
  simp only [Option.map_some];rw [if_neg (by omega)]
 ·rw [long_get] at hs
  rw [long_len]
  cases hx:(numbSt ss t)[i]? with
  | none=>rw [hx] at hs;cases hs
  | some s0=>
   rw [hx] at hs
   have s0ok:s0.longer.length=256∧∀n∈s0.longer,n<(numbSt ss t).length:=by
    by_cases hi:i<ss.length
    ·rw [numb_get ss t hi] at hx
     have:=h.all i s0 hx;exact⟨this.1,fun n hn'=>Nat.lt_of_lt_of_le (this.2 n hn') hge⟩
    ·have hi':=(List.getElem?_eq_some_iff.1 hx).1
     have:s0=⟨t,z256⟩:=by
      unfold numbSt at hx;split at hx
      ·rw [List.getElem?_eq_none (by omega)] at hx;cases hx
      ·rename_i hnn
       have e:i=ss.length:=by omega
       subst e;rw [List.getElem?_append_right lr_] at hx;simpa using hx.symm
     subst this;refine⟨List.length_replicate,fun n hn'=>?_⟩
     have:n=0:=by
      have hn':n∈z256:=hn';unfold z256 at hn';exact List.eq_of_mem_replicate hn'
     omega
   have hs:(if k=i then { s0 with longer:=s0.longer.set b (idxSt t ss) } else s0)=s:=by simpa using hs
   subst hs;split
   ·refine⟨by simp [s0ok.1],fun n hn'=>?_⟩
    rcases List.mem_or_eq_of_mem_set hn' with g | g
    ·exact s0ok.2 n g
    ·rw [g];exact hn.1
   ·exact s0ok
 ·rw [long_len] at hi
  have hik:i≤k:=by omega
  rw [lg];rw [hrd i (by omega)];by_cases e:i=k∧c=b
  ·rw [if_pos e,plS_long]
   obtain⟨e1,e2⟩:=e;subst e1 e2;exact⟨by rw [ht];exact hn.2,n1⟩
  ·rw [if_neg e]
   have:=h.led i c h1 (by omega) hc (by omega);rw [pl _ (lt i c (by omega))];exact this
 ·rw [lg,if_neg (by omega)]
  exact h.zero i c (by omega)
 ·rw [long_len] at hi
  by_cases c:i<ss.length
  ·obtain⟨j,c',h3,h4,h5,h6⟩:=h.fr i h2 c
   refine⟨j,c',h3,h4,h5,?_⟩;rw [lg,if_neg (fun e=>?_)]
   ·exact h6
   ·have:=h.zero j c' (.inr ⟨e.1,by omega⟩)
    omega
  ·refine⟨k,b,hk1,by omega,hb,?_⟩
   rw [lg,if_pos ⟨rfl,rfl⟩];omega
 ·rw [long_len] at hj
  by_cases c:j<ss.length
  ·rw [pl i (by omega),pl j c]
   exact h.dis i j hij c h2
  ·have hidx:¬idxSt t ss<ss.length:=by omega
   have ej:j=idxSt t ss:=by omega
   rw [pl i (by omega),ej,plS_long,hn.2];exact idxSt_new t ss hidx i (by omega)
theorem lead1_len (ps:List Pl) (ready:List Nat) (k:Nat) (ss:List St) (b:Nat):ss.length≤(lead1S ps ready k ss b).length:=by
 unfold lead1S
 rw [long_len]
 have:=numb_len ss (taking ps ready b)
 omega
theorem lead1_pl (ps:List Pl) (ready:List Nat) (k:Nat) (ss:List St) (b i:Nat) (hi:i<ss.length):plS (lead1S ps ready k ss b) i=plS ss i:=by
 unfold lead1S
 rw [Pure.plS_long,numb_pl ss _ hi]
theorem Wk.lead {k:Nat} {ss:List St} (h:Wk ps bg k 0 ss) (hk:k<ss.length) (hk1:1≤k):∀b,b≤256→Wk ps bg k b (leadS ps (rdy ps bg ss k) k ss b)∧k<(leadS ps (rdy ps bg ss k) k ss b).length∧plS (leadS ps (rdy ps bg ss k) k ss b) k=plS ss k:=by
 intro b
 induction b with
 | zero=>intro _;exact⟨h,hk,rfl⟩
 | succ b ih=>
  intro hb;obtain⟨h1,h2,h3⟩:=ih (by omega)
  have e:leadS ps (rdy ps bg ss k) k ss (b+1)=lead1S ps (rdy ps bg ss k) k (leadS ps (rdy ps bg ss k) k ss b) b:=by
   unfold leadS;rw [List.range_succ,List.foldl_append];rfl
  have er:rdy ps bg (leadS ps (rdy ps bg ss k) k ss b) k=rdy ps bg ss k:=by
   unfold rdy at h3 ⊢;rw [h3]
  rw [e];have st:=h1.step h2 hk1 (by omega);rw [er] at st;exact⟨st,Nat.lt_of_lt_of_le h2 (lead1_len ..),(lead1_pl _ _ _ _ _ _ h2).trans h3⟩
theorem Wk.next {k:Nat} {ss:List St} (h:Wk ps bg k 256 ss):Wk ps bg (k+1) 0 ss:=
 ⟨h.two,h.z0,h.p1,h.all,fun i c h1 hi hc hic=>h.led i c h1 hi hc (by omega),fun i c hic=>h.zero i c (by omega),h.fr,h.dis⟩
theorem find_wk:∀(f k:Nat) (ss:List St),2≤k→45≤f+k→Wk ps bg k 0 ss→∃k',Wk ps bg k' 0 (findGo ps f k ss)∧((findGo ps f k ss).length≤42→(findGo ps f k ss).length≤k'):=by
 intro f
 induction f with
 | zero=>intro k ss _ hf h;exact⟨k,h,fun h'=>by unfold findGo at h' ⊢;omega⟩
 | succ f ih=>
  intro k ss hk hf h;unfold findGo;by_cases c:k<ss.length∧ss.length≤42
  ·rw [if_pos c]
   have hl:=(h.lead c.1 (by omega) 256 lr_).1.next;have er:rdy ps bg ss k=behindR ps (plS ss k):=by unfold rdy;rw [if_neg (by omega)]
   rw [er] at hl;exact ih (k+1) _ (by omega) (by omega) hl
  ·rw [if_neg c]
   exact⟨k,h,fun h'=>by omega⟩
theorem wk_st0:Wk ps bg 1 0 st0:=by
 have z:∀c,z256.getD c 0=0:=fun c=>by
  unfold z256;rw [List.getD_eq_getElem?_getD,List.getElem?_replicate];split <;> rfl
 have lz:∀i c,lgS st0 i c=0:=fun i c=>by
  unfold lgS st0
  match i with
  | 0=>exact z c
  | 1=>exact z c
  | i+2=>rfl
 refine⟨lr_,rfl,rfl,fun i s hs=>?_,fun i c h1 hi hc hic=>?_,fun i c _=>lz i c,fun i h2 hi=>?_,fun i j _ hj h2=>?_⟩
 ·have:s=⟨[],z256⟩:=by
   unfold st0 at hs
   match i,hs with
   | 0,hs=>simpa using hs.symm
   | 1,hs=>simpa using hs.symm
   | i+2,hs=>simp at hs
  subst this;refine⟨List.length_replicate,fun n hn=>?_⟩;have:n∈List.replicate 256 0:=hn;rw [List.eq_of_mem_replicate this];decide
 ·omega
 ·have:i<2:=hi
  omega
 ·have:j<2:=hj
  omega
end
theorem find_any_wk (ls:List Lp) (ps:List Pl) (mode:Int):∃k,Wk ps (beginR ls mode) k 0 (findS ls ps mode):=by
 have h1:=((wk_st0 (ps:=ps) (bg:=beginR ls mode)).lead (by decide) lr_ 256 lr_).1.next
 have er:rdy ps (beginR ls mode) st0 1=beginR ls mode:=by unfold rdy;rw [if_pos rfl]
 rw [er] at h1
 obtain⟨k,hk,_⟩:=find_wk 43 2 _ lr_ lr_ h1
 exact⟨k,hk⟩
def Led (ps:List Pl) (bg:List Nat) (ss:List St):Prop:=Wk ps bg ss.length 0 ss
theorem find_led (ls:List Lp) (ps:List Pl) (mode:Int) (h:(findS ls ps mode).length≤42):Led ps (beginR ls mode) (findS ls ps mode):=by
 have h1:=((wk_st0 (ps:=ps) (bg:=beginR ls mode)).lead (by decide) lr_ 256 lr_).1.next
 have er:rdy ps (beginR ls mode) st0 1=beginR ls mode:=by unfold rdy;rw [if_pos rfl]
 rw [er] at h1
 obtain⟨k,hk,hl⟩:=find_wk 43 2 _ lr_ lr_ h1
 unfold findS at h ⊢
 have hl:=hl h
 refine⟨hk.two,hk.z0,hk.p1,hk.all,fun i c g1 hi hc _=>hk.led i c g1 hi hc (by omega),fun i c hic=>?_,hk.fr,hk.dis⟩
 unfold lgS
 rw [List.getElem?_eq_none (by omega)]
theorem Led.lt {ps:List Pl} {bg:List Nat} {ss:List St} (h:Led ps bg ss):∀z∈ss,∀n∈z.longer,n<ss.length:=fun z hz n hn=>by
 obtain⟨j,hj⟩:=List.getElem?_of_mem hz
 exact (h.all j z hj).2 n hn
theorem Led.go {q:List Lp × List Pl} {mode:Int} {ss:List St} (h:Led q.2 (beginR q.1 mode) ss):∀(w:List Nat),(∀c∈w,c<256)→goS ss 1 w<ss.length∧plS ss (goS ss 1 w)=setW q mode w:=by
 have key:∀(w:List Nat) (i:Nat),i<ss.length→i≠1→(∀c∈w,c<256)→goS ss i w<ss.length∧plS ss (goS ss i w)=goW q.2 (plS ss i) w:=by
  intro w
  induction w with
  | nil=>intro i hi _ _;exact⟨hi,rfl⟩
  | cons c w ih=>
   intro i hi h1 hw;have hc:=hw c (List.mem_cons_self ..);have hw':∀c∈w,c<256:=fun x hx=>hw x (List.mem_cons_of_mem _ hx)
   have hlt:=lgS_lt h.lt hi c;unfold goS goW;by_cases e:i=0
   ·subst e
    have p0:plS ss 0=[]:=by unfold plS;rw [h.z0]
    have l0:lgS ss 0 c=0:=by
     unfold lgS;rw [h.z0];show z256.getD c 0=0;unfold z256;rw [List.getD_eq_getElem?_getD,List.getElem?_replicate];split <;> rfl
    have:=ih 0 hi (by omega) hw';rw [l0,p0];rw [p0] at this;exact this
   ·have:=h.led i c (by omega) hi hc (.inl hi)
    have ih':=ih (lgS ss i c) hlt this.2 hw';rw [this.1] at ih';unfold rdy at ih';rw [if_neg h1] at ih';exact ih'
 intro w hw
 cases w with
 | nil=>exact⟨by have:=h.two;show 1<_;omega,h.p1⟩
 | cons c w=>
  have h1:1<ss.length:=by have:=h.two;omega
  have:=h.led 1 c lr_ h1 (hw c (List.mem_cons_self ..)) (.inl h1);have ih':=key w (lgS ss 1 c) (lgS_lt h.lt h1 c) this.2 (fun x hx=>hw x (List.mem_cons_of_mem _ hx));rw [this.1] at ih';unfold rdy at ih';rw [if_pos rfl] at ih';exact ih'
theorem Led.word {ps:List Pl} {bg:List Nat} {ss:List St} (h:Led ps bg ss):∀(n i:Nat),i≤n→1≤i→i<ss.length→∃w,(∀c∈w,c<256)∧goS ss 1 w=i:=by
 have app:∀(w:List Nat) (i c:Nat),goS ss i (w++[c])=lgS ss (goS ss i w) c:=by
  intro w
  induction w with
  | nil=>intro i c;rfl
  | cons a w ih=>intro i c;exact ih _ _
 intro n
 induction n with
 | zero=>intro i h1 h2;omega
 | succ n ih=>
  intro i h1 h2 hi;by_cases e:i=1
  ·exact⟨[],fun c hc=>by simp at hc,e.symm⟩
  ·obtain⟨j,c,h3,h4,h5,h6⟩:=h.fr i (by omega) hi
   obtain⟨w,h7,h8⟩:=ih j (by omega) h3 (by omega);refine⟨w++[c],fun x hx=>?_,by rw [app,h8,h6]⟩;rcases List.mem_append.1 hx with g | g
   ·exact h7 x g
   ·rw [List.mem_singleton.1 g];exact h5
end Pure
namespace Pure
def lgK (K:List Kd) (k c:Nat):Nat:=match K[k]? with
 | some x=>x.longer.getD c 0
 | none=>0
def ruleK (K:List Kd) (k:Nat):Int:=match K[k]? with
 | some x=>x.rule
 | none=>-1
def goK (K:List Kd):Nat→List Nat→Nat
 | k,[]=>k
 | k,c::w=>goK K (lgK K k c) w
theorem goK_snoc (K:List Kd):∀(w:List Nat) (k c:Nat),goK K k (w++[c])=lgK K (goK K k w) c:=by
 intro w
 induction w with
 | nil=>intro k c;rfl
 | cons a w ih=>intro k c;exact ih _ _
theorem goS_append (ss:List St):∀(w v:List Nat) (i:Nat),goS ss i (w++v)=goS ss (goS ss i w) v:=by
 intro w
 induction w with
 | nil=>intro v i;rfl
 | cons a w ih=>intro v i;exact ih _ _
def Byt (w:List Nat):Prop:=∀c∈w,c<256
theorem Byt.append {w v:List Nat} (h:Byt w) (h':Byt v):Byt (w++v):=fun c hc=>by
 rcases List.mem_append.1 hc with g | g
 ·exact h c g
 ·exact h' c g
theorem kinds_le (ss:List St) (rs:List Int) (kinds:List Nat) (n s:Nat) (hs:s<n):(finer ss rs kinds n).kinds.getD s 0≤s:=by
 induction n with
 | zero=>omega
 | succ n ih=>
  rw [finer_succ];unfold finer1;have hok:=finer_ok ss rs kinds n;have hle:=kindGo_le ss rs kinds n (finer ss rs kinds n).firsts;by_cases c:s<n
  ·rw [getD_snoc_lt _ _ _ (by rw [hok.1];exact c)]
   exact ih c
  ·have e:s=n:=by omega
   subst e;have:=getD_snoc_eq (finer ss rs kinds s).kinds (kindGo ss rs kinds s (finer ss rs kinds s).firsts) 0;rw [hok.1] at this;rw [this];omega
theorem sortGo_le (ss:List St) (rs:List Int):∀(f:Nat) (q:Sorting),(f=0→∀s,s<ss.length→q.kinds.getD s 0≤s)→∀s,s<ss.length→(sortGo ss rs f q).kinds.getD s 0≤s:=by
 intro f
 induction f with
 | zero=>intro q h;exact h rfl
 | succ f ih=>
  intro q _ s hs;unfold sortGo;split
  ·exact kinds_le ss rs _ _ s hs
  ·exact ih _ (fun _ s hs=>kinds_le ss rs _ _ s hs) s hs
def OnW (ls:List Ln) (mode:Int) (w:List Nat):Prop:=∃v:List Nat,v≠[]∧Byt v∧∃(i:Nat) (x:Ln),ls[i]?=some x∧x.mode=mode∧M x.re (w++v)
structure Tells (ls:List Ln) (mode:Int) (K:List Kd):Prop where
 ok:KdsOK ls.length K
 lost:K.length≤1→∀w,Byt w→w≠[]→∀(i:Nat) (x:Ln),ls[i]?=some x→x.mode=mode→¬M x.re w
 lt:∀w,Byt w→2≤K.length→goK K 1 w<K.length
 none:2≤K.length→ruleK K 1=-1
 rule:∀w,Byt w→2≤K.length→w≠[]→FirstM ls mode w (ruleK K (goK K 1 w))
 on:∀w,Byt w→2≤K.length→((∃c,c<256∧lgK K (goK K 1 w) c≠0)↔OnW ls mode w)
 zero:∀c,lgK K 0 c=0
 rule0:ruleK K 0=-1
section
variable {ls:List Ln} {q:List Lp × List Pl} {mode:Int} {ss:List St}
theorem rules_get (lp:List Lp) {s:Nat} (hs:s<ss.length):(rulesOf lp ss).getD s 0=firstRule lp (plS ss s):=by
 unfold rulesOf plS
 rw [List.getD_eq_getElem?_getD,List.getElem?_map,List.getElem?_eq_getElem hs]
 rfl
theorem firstRule_nil (lp:List Lp):firstRule lp []=-1:=by
 rcases firstRule_go [] lp 0 with ⟨h,_⟩ | ⟨i,x,_,_,h3,_⟩
 ·exact h
 ·rw [meet_nil'] at h3;cases h3
theorem FirstM.none {w:List Nat} {r:Int} (h:FirstM ls mode w r) (hr:r=-1) (i:Nat) (x:Ln) (hi:ls[i]?=some x) (hm:x.mode=mode):¬M x.re w:=by
 rcases h with ⟨_,h⟩ | ⟨j,y,h1,_⟩
 ·exact h i x hi hm
 ·omega
theorem FirstM.some {w:List Nat} {r:Int} (h:FirstM ls mode w r) (hr:r≠-1):∃(i:Nat) (x:Ln),ls[i]?=some x∧x.mode=mode∧M x.re w:=by
 rcases h with ⟨h,_⟩ | ⟨j,y,_,h2,h3,h4,_⟩
 ·exact absurd h hr
 ·exact⟨j,y,h2,h3,h4⟩
theorem kinds_tell (hL:Lin ls q) (h:Led q.2 (beginR q.1 mode) ss) (hl:ss.length≤42):Tells ls mode (kindsS q.1 ss):=by
 have hok:=kinds_ok q.1 ss (by have:=h.two;omega) hl
 rw [hL.n] at hok
 have hdone:=sortS_done (rs:=rulesOf q.1 ss) h.lt (by have:=h.two;omega)
 have hsrt:=sortS_srt ss (rulesOf q.1 ss)
 have hle:=sortGo_le ss (rulesOf q.1 ss) (ss.length+1) ⟨List.replicate ss.length 0,[]⟩ (fun e=>by omega)
 unfold kindsS at hok ⊢
 have hle:∀s,s<ss.length→(sortS ss (rulesOf q.1 ss)).kinds.getD s 0≤s:=hle
 generalize sortS ss (rulesOf q.1 ss)=z at *
 generalize hK:z.firsts.map (kindOf (rulesOf q.1 ss) ss z)=K at *
 have two:=h.two
 have kd0:z.kinds.getD 0 0=0:=by have:=hle 0 (by omega);omega
 have p0:plS ss 0=[]:=by unfold plS;rw [h.z0]
 have kdlt:∀s,s<ss.length→z.kinds.getD s 0<K.length:=fun s hs=>by
  rw [←hK,List.length_map];rw [List.getD_eq_getElem?_getD,List.getElem?_eq_getElem (by rw [hsrt.kinds];exact hs)];exact hsrt.kind _ (List.getElem_mem _)
 have first:∀s,s<ss.length→∃o,o<ss.length∧K[z.kinds.getD s 0]?=some (kindOf (rulesOf q.1 ss) ss z o)∧z.kinds.getD o 0=z.kinds.getD s 0:=fun s hs=>by
  obtain⟨kinds,hf,_⟩:=hdone.fin;obtain⟨o,h1,_⟩:=hf.own s hs;have:=hf.self _ o h1;refine⟨o,this.1,?_,this.2⟩;rw [←hK,List.getElem?_map,h1];rfl
 have krule:∀s,s<ss.length→ruleK K (z.kinds.getD s 0)=firstRule q.1 (plS ss s):=fun s hs=>by
  obtain⟨o,h1,h2,h3⟩:=first s hs
  unfold ruleK;rw [h2];show (rulesOf q.1 ss).getD o 0=_;rw [(hdone.alk h.lt h1 hs h3).1,rules_get q.1 hs]
 have klg:∀s c,s<ss.length→c<256→lgK K (z.kinds.getD s 0) c=z.kinds.getD (lgS ss s c) 0:=fun s c hs hc=>by
  obtain⟨o,h1,h2,h3⟩:=first s hs
  unfold lgK;rw [h2];show ((List.range 256).map (fun b=>z.kinds.getD (lgS ss o b) 0)).getD c 0=_;rw [List.getD_eq_getElem?_getD,List.getElem?_map,List.getElem?_range hc];exact (hdone.alk h.lt h1 hs h3).2 c hc
 have go0:∀v,goS ss 0 v=0:=fun v=>by
  induction v with
  | nil=>rfl
  | cons c v ih=>
   unfold goS
   have l0:lgS ss 0 c=0:=by
    unfold lgS;rw [h.z0];show z256.getD c 0=0;unfold z256;rw [List.getD_eq_getElem?_getD,List.getElem?_replicate];split <;> rfl
   rw [l0];exact ih
 have r0:(rulesOf q.1 ss).getD 0 0=-1:=by rw [rules_get q.1 (by omega),p0,firstRule_nil]
 have gort:∀w,Byt w→goS ss 1 w<ss.length∧plS ss (goS ss 1 w)=setW q mode w:=h.go
 have lostI:∀w,Byt w→(z.kinds.getD (goS ss 1 w) 0=0↔∀v,Byt v→firstRule q.1 (setW q mode (w++v))=-1):=fun w hw=>by
  have e:=hdone.eqv h.lt (s:=goS ss 1 w) (t:=0) (gort w hw).1 (by omega);rw [kd0] at e;rw [e]
  have hv:∀v,Byt v→((rulesOf q.1 ss).getD (goS ss (goS ss 1 w) v) 0=(rulesOf q.1 ss).getD (goS ss 0 v) 0↔firstRule q.1 (setW q mode (w++v))=-1):=fun v hv=>by
   have g:=gort (w++v) (hw.append hv);rw [go0,r0,←goS_append,rules_get q.1 g.1,g.2]
  exact⟨fun h1 v hv'=>(hv v hv').1 (h1 v hv'),fun h1 v hv'=>(hv v hv').2 (h1 v hv')⟩
 have lost1:z.kinds.getD 1 0=0→K.length≤1:=fun e=>by
  have all0:∀s,s<ss.length→z.kinds.getD s 0=0:=fun s hs=>by
   by_cases c:s=0
   ·rw [c];exact kd0
   ·obtain⟨w,hw,g⟩:=h.word s s lr_ (by omega) hs
    rw [←g];refine (lostI w hw).2 (fun v hv=>?_);have:=(lostI [] (fun c hc=>by simp at hc)).1 e (w++v) (Byt.append hw hv);exact this
  rw [←hK,List.length_map];apply Classical.byContradiction;intro hc;obtain⟨kinds,hf,_⟩:=hdone.fin;have h1:z.firsts[1]?=some (z.firsts[1]'(by omega)):=List.getElem?_eq_getElem (by omega);have:=hf.self 1 _ h1;have:=all0 _ this.1;omega
 have one:2≤K.length→z.kinds.getD 1 0=1:=fun hk=>by
  have:=hle 1 (by omega);have:z.kinds.getD 1 0≠0:=fun e=>by have:=lost1 e;omega
  omega
 have go:2≤K.length→∀w,Byt w→goK K 1 w=z.kinds.getD (goS ss 1 w) 0:=fun hk=>by
  have key:∀(w:List Nat) (s:Nat),s<ss.length→Byt w→goK K (z.kinds.getD s 0) w=z.kinds.getD (goS ss s w) 0:=by
   intro w
   induction w with
   | nil=>intro s _ _;rfl
   | cons c w ih=>
    intro s hs hw;unfold goK goS;rw [klg s c hs (hw c (List.mem_cons_self ..))];exact ih _ (lgS_lt h.lt hs c) (fun x hx=>hw x (List.mem_cons_of_mem _ hx))
  intro w hw;have:=key w 1 (by omega) hw;rw [one hk] at this;exact this
 refine⟨hok,fun hk w hw hne i x hi hm=>?_,fun w hw hk=>?_,fun hk=>?_,fun w hw hk hne=>?_,fun w hw hk=>?_,fun c=>?_,?_⟩
 ·have e:z.kinds.getD 1 0=0:=by have:=kdlt 1 (by omega);omega
  have:=(lostI [] (fun c hc=>by simp at hc)).1 e w hw;exact (firstRule_spec hL mode w hne).none this i x hi hm
 ·rw [go hk w hw];exact kdlt _ (gort w hw).1
 ·have:=krule 1 (by omega)
  rw [one hk,h.p1,firstRule_nil] at this;exact this
 ·rw [go hk w hw,krule _ (gort w hw).1,(gort w hw).2]
  exact firstRule_spec hL mode w hne
 ·have hg:=gort w hw
  constructor
  ·rintro ⟨c,hc,hz⟩
   rw [go hk w hw,klg _ c hg.1 hc] at hz;have hw1:Byt (w++[c]):=Byt.append hw (fun x hx=>by rw [List.mem_singleton.1 hx];exact hc);have e:goS ss 1 (w++[c])=lgS ss (goS ss 1 w) c:=by rw [goS_append];rfl
   rw [←e] at hz
   have hex:∃v,Byt v∧firstRule q.1 (setW q mode (w++[c]++v))≠-1:=by
    apply Classical.byContradiction;intro hno;refine hz ((lostI _ hw1).2 (fun v hv=>?_));apply Classical.byContradiction;intro hne;exact hno ⟨v,hv,hne⟩
   obtain⟨v,hv,hne⟩:=hex;obtain⟨i,x,g1,g2,g3⟩:=(firstRule_spec hL mode (w++[c]++v) (by simp)).some hne;refine⟨c::v,by simp,fun x hx=>?_,i,x,g1,g2,by simpa using g3⟩;rcases List.mem_cons.1 hx with g | g
   ·rw [g];exact hc
   ·exact hv x g
  ·rintro ⟨v,hne,hv,i,x,g1,g2,g3⟩
   cases v with
   | nil=>exact absurd rfl hne
   | cons c v=>
    have hc:=hv c (List.mem_cons_self ..);have hv':Byt v:=fun x hx=>hv x (List.mem_cons_of_mem _ hx)
    refine⟨c,hc,?_⟩;rw [go hk w hw,klg _ c hg.1 hc];have hw1:Byt (w++[c]):=Byt.append hw (fun x hx=>by rw [List.mem_singleton.1 hx];exact hc);have e:goS ss 1 (w++[c])=lgS ss (goS ss 1 w) c:=by rw [goS_append];rfl
    rw [←e];intro hz;have:=(lostI _ hw1).1 hz v hv';have hsp:=firstRule_spec hL mode (w++[c]++v) (by simp);exact hsp.none this i x g1 g2 (by simpa using g3)
 ·by_cases hc:c<256
  ·have:=klg 0 c (by omega) hc
   rw [kd0] at this;have l0:lgS ss 0 c=0:=go0 [c];rw [this,l0,kd0]
  ·unfold lgK
   cases hk:K[0]? with
   | none=>rfl
   | some k=>
    have hl:=(hok.2 k (List.mem_of_getElem? hk)).2.1;show k.longer.getD c 0=0;rw [List.getD_eq_getElem?_getD,List.getElem?_eq_none (by omega)];rfl
 ·have:=krule 0 (by omega)
  rw [kd0,p0,firstRule_nil] at this;exact this
end
end Pure
namespace Pure
def RK (K:List Kd) (w:List Nat):Int:=if K.length≤1 then -1 else ruleK K (goK K 1 w)
def OnK (K:List Kd) (w:List Nat):Prop:=¬K.length≤1∧∃c,c<256∧lgK K (goK K 1 w) c≠0
def wd (s:ByteArray) (p n:Nat):List Nat:=(List.range n).map (fun i=>(bt s (p+i)).toNat)
theorem wd_succ (s:ByteArray) (p n:Nat):wd s p (n+1)=wd s p n++[(bt s (p+n)).toNat]:=by
 unfold wd
 rw [List.range_succ,List.map_append]
 rfl
theorem wd_len (s:ByteArray) (p n:Nat):(wd s p n).length=n:=by simp [wd]
theorem wd_byt (s:ByteArray) (p n:Nat):Byt (wd s p n):=fun c hc=>by
 obtain⟨i,_,rfl⟩:=List.mem_map.1 hc
 have:=bt_bd s (p+i)
 omega
def mk (K:List Kd) (s:ByteArray) (p:Nat):Nat→Int × Int
 | 0=>(0,0)
 | n+1=>if 0<n∧RK K (wd s p n)≠-1 then (RK K (wd s p n),(n:Int)) else mk K s p n
theorem mk_succ (K:List Kd) (s:ByteArray) (p n:Nat):mk K s p (n+1)=if 0<n∧RK K (wd s p n)≠-1 then (RK K (wd s p n),(n:Int)) else mk K s p n:=rfl
def Sk (_E:Env) (C:Cfg) (_K:List Kd) (n:Nat) (m:Int × Int) (steps ins c:Int):Cfg:={ C with steps:=steps,ins:=ins,c:=c,looked:=(n:Int),rule:=m.1,marked:=m.2 }
def AtK (E:Env) (C:Cfg) (K:List Kd) (st:List Nat) (n:Nat) (D:Cfg):Prop:=∃(steps c:Int) (i:Nat),D=Sk E C K n (mk K E.s C.pos.toNat n) steps (i:Int) c∧
 ((∃k,¬K.length≤1∧K[goK K 1 (wd E.s C.pos.toNat n)]?=some k∧goK K 1 (wd E.s C.pos.toNat n)≠0∧Blo E.p.code st i k)∨
  ((K.length≤1∨goK K 1 (wd E.s C.pos.toNat n)=0)∧E.p.code[i]?=some ⟨5,0,0,0⟩))
structure Fresh (E:Env) (C:Cfg):Prop where
 err:C.err=0
 pos:0≤C.pos∧C.pos<E.s.size
 looked:C.looked=0
 rule:C.rule=0
 marked:C.marked=0
structure KOK (K:List Kd):Prop where
 len:∀k∈K,k.longer.length=256∧∀b,k.longer.getD b 0<K.length
 zero:∀c,lgK K 0 c=0
 none:2≤K.length→ruleK K 1=-1∧ruleK K 0=-1
theorem cg_of {l:List Ins} {i:Nat} {x:Ins} (h:l[i]?=some x):cg l i=x:=by
 unfold cg
 rw [List.getD_eq_getElem?_getD,h]
 rfl
section
variable {E:Env} {C:Cfg} {K:List Kd} {st:List Nat}
theorem look1 {D:Cfg} {i:Nat} {r:Int} (hi:D.ins=(i:Int)) (hx:E.p.code[i]?=some ⟨1,r,0,0⟩):look E D=.go (if 0<D.looked then { D with steps:=D.steps+1,ins:=D.ins+1,rule:=r,marked:=D.looked } else { D with steps:=D.steps+1,ins:=D.ins+1 }):=by
 unfold look
 rw [hi,Int.toNat_natCast,cg_of hx]
 simp only [if_pos]
theorem look5 {D:Cfg} {i:Nat} (hi:D.ins=(i:Int)) (hx:E.p.code[i]?=some ⟨5,0,0,0⟩):look E D=.stop { D with steps:=D.steps+1,ins:=D.ins+1 } 0:=by
 unfold look
 rw [hi,Int.toNat_natCast,cg_of hx]
 rfl
theorem look2 {D:Cfg} {i:Nat} (hi:D.ins=(i:Int)) (hx:E.p.code[i]?=some ⟨2,0,0,0⟩):look E D=if (E.s.size:Int)≤D.pos+D.looked then (if E.ended then .stop { D with steps:=D.steps+1,ins:=D.ins+1 } 0 else .wait)
  else if E.most≤D.looked then .stop { D with steps:=D.steps+1,ins:=D.ins+1 } 5
  else .go { D with steps:=D.steps+1,ins:=D.ins+1,c:=bt E.s (D.pos+D.looked).toNat,looked:=D.looked+1 }:=by
 unfold look
 rw [hi,Int.toNat_natCast,cg_of hx]
 rfl
theorem look3 {D:Cfg} {i:Nat} {a b t:Int} (hi:D.ins=(i:Int)) (hx:E.p.code[i]?=some ⟨3,a,b,t⟩):look E D=.go (if a≤D.c∧D.c≤b then { D with steps:=D.steps+1,ins:=t } else { D with steps:=D.steps+1,ins:=D.ins+1 }):=by
 unfold look
 rw [hi,Int.toNat_natCast,cg_of hx]
 rfl
theorem mic_go {D F:Cfg} (he:D.err=0) (hp:D.pos<E.s.size) (h:look E D=.go F):mic E D=some F:=by
 unfold mic
 rw [if_neg (by omega),h]
theorem mic_stop {D F:Cfg} {e:Int} (he:D.err=0) (hp:D.pos<E.s.size) (h:look E D=.stop F e):mic E D=some (take E F e):=by
 unfold mic
 rw [if_neg (by omega),h]
theorem mic_wait {D:Cfg} (h:look E D=.wait):mic E D=none:=by
 unfold mic
 rw [h]
 split <;> rfl
theorem ins_run (hF:Fresh E C) {l:List Nat} (c:Nat) {n:Nat} {m:Int × Int}:∀(ws:List Ins) (i:Nat) (steps:Int),(∀x∈ws,Way l x)→(∀(j:Nat) (x:Ins),ws[j]?=some x→E.p.code[i+j]?=some (linkI st x))→
  (∃x∈ws,x.a≤(c:Int)∧(c:Int)≤x.b)→∃steps',Rch E (Sk E C K n m steps (i:Int) (c:Int)) (Sk E C K n m steps' ((st.getD (l.getD c 0) 0:Nat):Int) (c:Int)):=by
 intro ws
 induction ws with
 | nil=>intro i steps _ _ h;obtain⟨x,hx,_⟩:=h;simp at hx
 | cons x ws ih=>
  intro i steps hw hc hex;obtain⟨a,b,h1,h2,rfl,h4,h5⟩:=hw x (List.mem_cons_self ..);have hx:=hc 0 _ rfl;rw [Nat.add_zero] at hx
  have hlk:linkI st ⟨3,(a:Int),(b:Int),((l.getD a 0:Nat):Int)⟩=⟨3,(a:Int),(b:Int),((st.getD (l.getD a 0) 0:Nat):Int)⟩:=by
   unfold linkI;rw [if_pos rfl];simp
  rw [hlk] at hx;by_cases hin:a≤c∧c≤b
  ·refine⟨steps+1,.step (.refl _) (mic_go hF.err hF.pos.2 ?_)⟩
   rw [look3 (D:=Sk E C K n m steps (i:Int) (c:Int)) rfl hx];have:(a:Int)≤(Sk E C K n m steps (i:Int) (c:Int)).c∧(Sk E C K n m steps (i:Int) (c:Int)).c≤(b:Int):=⟨by show (a:Int)≤(c:Int);omega,by show (c:Int)≤(b:Int);omega⟩;rw [if_pos this,h5 c hin.1 hin.2];rfl
  ·obtain⟨s',hr⟩:=ih (i+1) (steps+1) (fun y hy=>hw y (List.mem_cons_of_mem _ hy)) (fun j y hj=>by
    have:=hc (j+1) y (by rw [List.getElem?_cons_succ];exact hj);rw [show i+1+j=i+(j+1) by omega]
    exact this) (by
    obtain⟨y,hy,hy2⟩:=hex;rcases List.mem_cons.1 hy with e | e
    ·exfalso
     rw [e] at hy2;have h6:(a:Int)≤(c:Int):=hy2.1;have h7:(c:Int)≤(b:Int):=hy2.2;omega
    ·exact⟨y,e,hy2⟩)
   refine⟨s',Rch.trans (.step (.refl _) (mic_go hF.err hF.pos.2 (F:=Sk E C K n m (steps+1) ((i+1:Nat):Int) (c:Int)) ?_)) hr⟩;rw [look3 (D:=Sk E C K n m steps (i:Int) (c:Int)) rfl hx]
   have:¬((a:Int)≤(Sk E C K n m steps (i:Int) (c:Int)).c∧(Sk E C K n m steps (i:Int) (c:Int)).c≤(b:Int)):=fun h=>by
    have h6:(a:Int)≤(c:Int):=h.1;have h7:(c:Int)≤(b:Int):=h.2;omega
   rw [if_neg this];rfl
theorem ins_none (hF:Fresh E C) {l:List Nat} (c:Nat) (h0:l.getD c 0=0) {n:Nat} {m:Int × Int}:∀(ws:List Ins) (i:Nat) (steps:Int),(∀x∈ws,Way l x)→(∀(j:Nat) (x:Ins),ws[j]?=some x→E.p.code[i+j]?=some (linkI st x))→
  ∃steps',Rch E (Sk E C K n m steps (i:Int) (c:Int)) (Sk E C K n m steps' ((i+ws.length:Nat):Int) (c:Int)):=by
 intro ws
 induction ws with
 | nil=>intro i steps _ _;exact⟨steps,.refl _⟩
 | cons x ws ih=>
  intro i steps hw hc;obtain⟨a,b,h1,h2,rfl,h4,h5⟩:=hw x (List.mem_cons_self ..);have hx:=hc 0 _ rfl;rw [Nat.add_zero] at hx
  have hlk:linkI st ⟨3,(a:Int),(b:Int),((l.getD a 0:Nat):Int)⟩=⟨3,(a:Int),(b:Int),((st.getD (l.getD a 0) 0:Nat):Int)⟩:=by
   unfold linkI;rw [if_pos rfl];simp
  rw [hlk] at hx
  obtain⟨s',hr⟩:=ih (i+1) (steps+1) (fun y hy=>hw y (List.mem_cons_of_mem _ hy)) (fun j y hj=>by
   have:=hc (j+1) y (by rw [List.getElem?_cons_succ];exact hj);rw [show i+1+j=i+(j+1) by omega]
   exact this)
  refine⟨s',Rch.trans (.step (.refl _) (mic_go hF.err hF.pos.2 (F:=Sk E C K n m (steps+1) ((i+1:Nat):Int) (c:Int)) ?_)) ?_⟩
  ·rw [look3 (D:=Sk E C K n m steps (i:Int) (c:Int)) rfl hx]
   have:¬((a:Int)≤(Sk E C K n m steps (i:Int) (c:Int)).c∧(Sk E C K n m steps (i:Int) (c:Int)).c≤(b:Int)):=fun h=>by
    have h6:(a:Int)≤(c:Int):=h.1;have h7:(c:Int)≤(b:Int):=h.2;have:=h5 c (by omega) (by omega);omega
   rw [if_neg this];rfl
  ·rw [show i+(⟨3,(a:Int),(b:Int),((l.getD a 0:Nat):Int)⟩::ws:List Ins).length=i+1+ws.length by rw [List.length_cons];omega]
   exact hr
theorem mark_run (hF:Fresh E C) (hK:KOK K) {n:Nat} {k:Kd} {i:Nat} {steps c:Int} (h1:¬K.length≤1) (hk:K[goK K 1 (wd E.s C.pos.toNat n)]?=some k) (hb:Blo E.p.code st i k) :
  ∃steps',Rch E (Sk E C K n (mk K E.s C.pos.toNat n) steps (i:Int) c) (Sk E C K n (mk K E.s C.pos.toNat (n+1)) steps' ((i+(if k.rule=-1 then 0 else 1):Nat):Int) c):=by
 have hr:RK K (wd E.s C.pos.toNat n)=k.rule:=by
  unfold RK ruleK;rw [if_neg h1,hk]
 rw [mk_succ,hr]
 by_cases c1:k.rule=-1
 ·rw [if_neg (fun h=>h.2 c1),if_pos c1]
  exact⟨steps,.refl _⟩
 ·rw [if_neg c1]
  have h0:(kindIns k)[0]?=some ⟨1,k.rule,0,0⟩:=by
   unfold kindIns;rw [if_neg c1];rfl
  have hx:=hb 0 _ h0;rw [Nat.add_zero] at hx;refine⟨steps+1,.step (.refl _) (mic_go hF.err hF.pos.2 ?_)⟩;rw [look1 (D:=Sk E C K n (mk K E.s C.pos.toNat n) steps (i:Int) c) (r:=k.rule) rfl hx];by_cases hn:0<n
  ·have:0<(Sk E C K n (mk K E.s C.pos.toNat n) steps (i:Int) c).looked:=by show (0:Int)<(n:Int);omega
   rw [if_pos this,if_pos ⟨hn,c1⟩];rfl
  ·exfalso
   have:n=0:=by omega
   subst this;have:=(hK.none (by omega)).1;unfold ruleK at this;have hk':K[1]?=some k:=hk;rw [hk'] at this;exact c1 this
theorem ways_iff (l:List Nat):(waysOn l).length=0↔∀c,c<256→l.getD c 0=0:=by
 constructor
 ·intro h c hc
  apply Classical.byContradiction;intro h0;obtain⟨x,hx,_⟩:=ways_cover l c hc h0;have:=List.length_pos_of_mem hx;omega
 ·intro h
  cases hw:waysOn l with
  | nil=>rfl
  | cons x r=>
   exfalso;obtain⟨a,b,h1,h2,_,h4,_⟩:=ways_shape l x (by rw [hw];exact List.mem_cons_self ..);exact h4 (h a (by omega))
theorem kind_parts (k:Kd):((waysOn k.longer).length=0→(kindIns k)[if k.rule=-1 then 0 else 1]?=some ⟨5,0,0,0⟩)∧
  ((waysOn k.longer).length≠0→(kindIns k)[if k.rule=-1 then 0 else 1]?=some ⟨2,0,0,0⟩∧(∀(j:Nat) (x:Ins),(waysOn k.longer)[j]?=some x→(kindIns k)[(if k.rule=-1 then 0 else 1)+1+j]?=some x)∧(kindIns k)[(if k.rule=-1 then 0 else 1)+1+(waysOn k.longer).length]?=some ⟨5,0,0,0⟩):=by
 unfold kindIns
 generalize waysOn k.longer=ws
 refine⟨fun h=>?_,fun h=>?_⟩
 ·rw [List.length_eq_zero_iff.1 h]
  by_cases c1:k.rule=-1 <;> simp [c1]
 ·rw [if_neg h]
  by_cases c1:k.rule=-1
  ·simp only [if_pos c1]
   refine⟨by simp,fun j x hj=>?_,?_⟩
   ·have:=(List.getElem?_eq_some_iff.1 hj).1
    simp only [List.nil_append,List.cons_append,Nat.zero_add];rw [Nat.add_comm 1 j,List.getElem?_cons_succ,List.getElem?_append_left this];exact hj
   ·simp only [List.nil_append,List.cons_append,Nat.zero_add]
    rw [Nat.add_comm 1 _,List.getElem?_cons_succ,List.getElem?_append_right lr_];simp
  ·simp only [if_neg c1]
   refine⟨by simp,fun j x hj=>?_,?_⟩
   ·have:=(List.getElem?_eq_some_iff.1 hj).1
    simp only [List.nil_append,List.cons_append];rw [show 1+1+j=j+1+1 by omega,List.getElem?_cons_succ,List.getElem?_cons_succ,List.getElem?_append_left this];exact hj
   ·simp only [List.nil_append,List.cons_append]
    rw [show 1+1+ws.length=ws.length+1+1 by omega,List.getElem?_cons_succ,List.getElem?_cons_succ,List.getElem?_append_right lr_];simp
theorem goK_lt (hK:KOK K):∀(w:List Nat) (k:Nat),k<K.length→goK K k w<K.length:=by
 intro w
 induction w with
 | nil=>intro k h;exact h
 | cons c w ih=>
  intro k h;refine ih _ ?_
  unfold lgK;rw [List.getElem?_eq_getElem h];exact (hK.len _ (List.getElem_mem h)).2 c
theorem at_stop (hF:Fresh E C) (hK:KOK K) {n:Nat} {D:Cfg} (h:AtK E C K st n D) (hon:¬OnK K (wd E.s C.pos.toNat n)) :
  ∃steps ins c,Rch E D (take E (Sk E C K n (mk K E.s C.pos.toNat (n+1)) steps ins c) 0):=by
 obtain⟨steps,c,i,rfl,⟨k,h1,h2,h3,h4⟩ | ⟨h1,h2⟩⟩:=h
 ·have hz:(waysOn k.longer).length=0:=(ways_iff _).2 (fun c hc=>by
   apply Classical.byContradiction;intro h0;refine hon ⟨h1,c,hc,?_⟩;unfold lgK;rw [h2]
   exact h0)
  obtain⟨s',hr⟩:=mark_run (st:=st) (steps:=steps) (c:=c) hF hK h1 h2 h4;have hx:=h4 _ _ ((kind_parts k).1 hz);exact⟨_,_,_,.step hr (mic_stop hF.err hF.pos.2 (look5 rfl hx))⟩
 ·have hm:mk K E.s C.pos.toNat (n+1)=mk K E.s C.pos.toNat n:=by
   show (if _ then _ else _)=_;rw [if_neg];intro hh;refine hh.2 ?_
   unfold RK;rcases h1 with h1 | h1
   ·rw [if_pos h1]
   ·split
    ·rfl
    ·rename_i hl
     rw [h1];exact (hK.none (by omega)).2
  rw [hm];exact⟨_,_,_,.step (.refl _) (mic_stop hF.err hF.pos.2 (look5 rfl h2))⟩
theorem at_next (hF:Fresh E C) (hK:KOK K) {n:Nat} {D:Cfg} (h:AtK E C K st n D) (hon:OnK K (wd E.s C.pos.toNat n)) :
  ∃(steps c:Int) (i:Nat) (k:Kd),Rch E D (Sk E C K n (mk K E.s C.pos.toNat (n+1)) steps (i:Int) c)∧E.p.code[i]?=some ⟨2,0,0,0⟩∧K[goK K 1 (wd E.s C.pos.toNat n)]?=some k∧
   (∀(j:Nat) (x:Ins),(waysOn k.longer)[j]?=some x→E.p.code[i+1+j]?=some (linkI st x))∧E.p.code[i+1+(waysOn k.longer).length]?=some ⟨5,0,0,0⟩:=by
 obtain⟨steps,c,i,rfl,⟨k,h1,h2,h3,h4⟩ | ⟨h1,h2⟩⟩:=h
 ·have hz:(waysOn k.longer).length≠0:=fun hz=>by
   obtain⟨_,c,hc,h0⟩:=hon;unfold lgK at h0;rw [h2] at h0;exact h0 ((ways_iff _).1 hz c hc)
  obtain⟨s',hr⟩:=mark_run (st:=st) (steps:=steps) (c:=c) hF hK h1 h2 h4;obtain⟨p1,p2,p3⟩:=(kind_parts k).2 hz;refine⟨s',c,_,k,hr,h4 _ _ p1,h2,fun j x hj=>?_,?_⟩
  ·have:=h4 _ _ (p2 j x hj)
   rw [←Nat.add_assoc,←Nat.add_assoc] at this;exact this
  ·have:=h4 _ _ p3
   rw [←Nat.add_assoc,←Nat.add_assoc] at this;exact this
 ·exfalso
  obtain⟨g1,c,hc,h0⟩:=hon;rcases h1 with h1 | h1
  ·exact g1 h1
  ·rw [h1,hK.zero] at h0
   exact h0 rfl
theorem at_wait (hF:Fresh E C) (hK:KOK K) {n:Nat} {D:Cfg} (h:AtK E C K st n D) (hon:OnK K (wd E.s C.pos.toNat n)) (hs:(E.s.size:Int)≤C.pos+n) (he:E.ended=false) :
  ∃steps ins c,Rch E D (Sk E C K n (mk K E.s C.pos.toNat (n+1)) steps ins c)∧mic E (Sk E C K n (mk K E.s C.pos.toNat (n+1)) steps ins c)=none:=by
 obtain⟨s',c,i,k,hr,hx,_⟩:=at_next hF hK h hon
 refine⟨s',_,c,hr,mic_wait ?_⟩
 rw [look2 (D:=Sk E C K n (mk K E.s C.pos.toNat (n+1)) s' (i:Int) c) rfl hx]
 have:(E.s.size:Int)≤(Sk E C K n (mk K E.s C.pos.toNat (n+1)) s' (i:Int) c).pos+(Sk E C K n (mk K E.s C.pos.toNat (n+1)) s' (i:Int) c).looked:=hs
 rw [if_pos this,he]
 rfl
theorem at_end (hF:Fresh E C) (hK:KOK K) {n:Nat} {D:Cfg} (h:AtK E C K st n D) (hon:OnK K (wd E.s C.pos.toNat n)) (hs:(E.s.size:Int)≤C.pos+n) (he:E.ended=true) :
  ∃steps ins c,Rch E D (take E (Sk E C K n (mk K E.s C.pos.toNat (n+1)) steps ins c) 0):=by
 obtain⟨s',c,i,k,hr,hx,_⟩:=at_next hF hK h hon
 refine⟨_,_,_,.step hr (mic_stop hF.err hF.pos.2 (F:=Sk E C K n (mk K E.s C.pos.toNat (n+1)) (s'+1) ((i:Int)+1) c) ?_)⟩
 rw [look2 (D:=Sk E C K n (mk K E.s C.pos.toNat (n+1)) s' (i:Int) c) rfl hx]
 have:(E.s.size:Int)≤(Sk E C K n (mk K E.s C.pos.toNat (n+1)) s' (i:Int) c).pos+(Sk E C K n (mk K E.s C.pos.toNat (n+1)) s' (i:Int) c).looked:=hs
 rw [if_pos this,he]
 rfl
theorem at_most (hF:Fresh E C) (hK:KOK K) {n:Nat} {D:Cfg} (h:AtK E C K st n D) (hon:OnK K (wd E.s C.pos.toNat n)) (hs:C.pos+n<E.s.size) (hm:E.most≤n) :
  ∃steps ins c,Rch E D (take E (Sk E C K n (mk K E.s C.pos.toNat (n+1)) steps ins c) 5):=by
 obtain⟨s',c,i,k,hr,hx,_⟩:=at_next hF hK h hon
 refine⟨_,_,_,.step hr (mic_stop hF.err hF.pos.2 (F:=Sk E C K n (mk K E.s C.pos.toNat (n+1)) (s'+1) ((i:Int)+1) c) ?_)⟩
 rw [look2 (D:=Sk E C K n (mk K E.s C.pos.toNat (n+1)) s' (i:Int) c) rfl hx]
 have h1:¬(E.s.size:Int)≤(Sk E C K n (mk K E.s C.pos.toNat (n+1)) s' (i:Int) c).pos+(Sk E C K n (mk K E.s C.pos.toNat (n+1)) s' (i:Int) c).looked:=by show ¬(E.s.size:Int)≤C.pos+n;omega
 have h2:E.most≤(Sk E C K n (mk K E.s C.pos.toNat (n+1)) s' (i:Int) c).looked:=hm
 rw [if_neg h1,if_pos h2]
 rfl
structure Starts (E:Env) (K:List Kd) (st:List Nat):Prop where
 at_:∀(j:Nat) (k:Kd),K[j]?=some k→1≤j→∃s,st[j]?=some s∧Blo E.p.code st s k
theorem at_go (hF:Fresh E C) (hK:KOK K) (hS:Starts E K st) {n:Nat} {D:Cfg} (h:AtK E C K st n D) (hon:OnK K (wd E.s C.pos.toNat n)) (hs:C.pos+n<E.s.size) (hm:(n:Int)<E.most) :
  ∃D',Rch E D D'∧AtK E C K st (n+1) D':=by
 obtain⟨s',c0,i,k,hr,hx,hk,hw,hst⟩:=at_next hF hK h hon
 have bd:=bt_bd E.s (C.pos.toNat+n)
 have epos:(C.pos+(n:Int)).toNat=C.pos.toNat+n:=by have:=hF.pos;omega
 have hkl:goK K 1 (wd E.s C.pos.toNat (n+1))=k.longer.getD (bt E.s (C.pos.toNat+n)).toNat 0:=by
  rw [wd_succ,goK_snoc];unfold lgK;rw [hk]
 have step1:Rch E D (Sk E C K (n+1) (mk K E.s C.pos.toNat (n+1)) (s'+1) ((i+1:Nat):Int) (((bt E.s (C.pos.toNat+n)).toNat:Nat):Int)):=by
  refine .step hr (mic_go hF.err hF.pos.2 ?_);rw [look2 (D:=Sk E C K n (mk K E.s C.pos.toNat (n+1)) s' (i:Int) c0) rfl hx];have h1:¬(E.s.size:Int)≤(Sk E C K n (mk K E.s C.pos.toNat (n+1)) s' (i:Int) c0).pos+(Sk E C K n (mk K E.s C.pos.toNat (n+1)) s' (i:Int) c0).looked:=by show ¬(E.s.size:Int)≤C.pos+n;omega
  have h2:¬E.most≤(Sk E C K n (mk K E.s C.pos.toNat (n+1)) s' (i:Int) c0).looked:=by show ¬E.most≤(n:Int);omega
  rw [if_neg h1,if_neg h2]
  have h3:bt E.s ((Sk E C K n (mk K E.s C.pos.toNat (n+1)) s' (i:Int) c0).pos+(Sk E C K n (mk K E.s C.pos.toNat (n+1)) s' (i:Int) c0).looked).toNat=(((bt E.s (C.pos.toNat+n)).toNat:Nat):Int):=by
   show bt E.s (C.pos+(n:Int)).toNat=_;rw [epos];omega
  rw [h3];rfl
 generalize hcn:(bt E.s (C.pos.toNat+n)).toNat=cn at *
 have cl:cn<256:=by omega
 have hws:=ways_shape k.longer
 by_cases h0:k.longer.getD cn 0=0
 ·obtain⟨s2,hr2⟩:=ins_none (K:=K) (st:=st) (n:=n+1) (m:=mk K E.s C.pos.toNat (n+1)) hF cn h0 (waysOn k.longer) (i+1) (s'+1) hws hw
  refine⟨_,step1.trans hr2,s2,_,_,rfl,.inr ⟨.inr (by rw [hkl];exact h0),hst⟩⟩
 ·obtain⟨s2,hr2⟩:=ins_run (K:=K) (st:=st) (n:=n+1) (m:=mk K E.s C.pos.toNat (n+1)) hF cn (waysOn k.longer) (i+1) (s'+1) hws hw (ways_cover _ cn cl h0)
  have hlt:k.longer.getD cn 0<K.length:=(hK.len k (List.mem_of_getElem? hk)).2 cn;obtain⟨s,hs1,hs2⟩:=hS.at_ _ _ (List.getElem?_eq_getElem hlt) (by omega);have est:st.getD (k.longer.getD cn 0) 0=s:=by rw [List.getD_eq_getElem?_getD (l:=st),hs1];rfl
  rw [est] at hr2;refine⟨_,step1.trans hr2,s2,_,s,rfl,.inl ⟨_,hon.1,by rw [hkl];exact List.getElem?_eq_getElem hlt,by rw [hkl];exact h0,hs2⟩⟩
theorem at_begin (hF:Fresh E C) {e:Nat} (hL:Lays E.p.code e K) (hi:C.ins=(e:Int)):∃st,Starts E K st∧AtK E C K st 0 C:=by
 have hC:C=Sk E C K 0 (mk K E.s C.pos.toNat 0) C.steps (e:Int) C.c:=by
  unfold Sk mk;cases C;have:=hF.looked;have:=hF.rule;have:=hF.marked
  simp_all
 rcases hL with ⟨h1,h2⟩ | ⟨h1,st,h2,h3,h4⟩
 ·refine⟨[],⟨fun j k hj h=>?_⟩,C.steps,C.c,e,hC,.inr ⟨.inl h1,h2⟩⟩
  have:=(List.getElem?_eq_some_iff.1 hj).1;omega
 ·have hk:K[1]?=some (K[1]'(by omega)):=List.getElem?_eq_getElem (by omega)
  obtain⟨s,hs1,hs2⟩:=h4 1 _ hk lr_;rw [h3] at hs1;have:e=s:=Option.some.inj hs1;subst this;exact⟨st,⟨h4⟩,C.steps,C.c,e,hC,.inl ⟨_,by omega,hk,by show (1:Nat)≠0;omega,hs2⟩⟩
end
end Pure
namespace Pure
def kksOf (all:List Ln):List (List Kd):=(List.range (nM all)).map (fun j=>kindsS (allLn all).1 (setsOf all j))
def rulesP (ls:List Lp):List Rule:=ls.map (fun x=>⟨x.emit,x.act,x.md⟩)
def compP (all:List Ln):Prg:=⟨(layAll (kksOf all)).1,rulesP (allLn all).1,(layAll (kksOf all)).2⟩
theorem hi1_ge (h:Int) (x:Lp):h≤hi1 h x∧x.mode≤hi1 h x∧x.md≤hi1 h x:=by
 unfold hi1
 split <;> split <;> (first | (split <;> omega) | omega)
theorem hi1_fold:∀(ls:List Lp) (h:Int),h≤ls.foldl hi1 h∧∀x∈ls,x.mode≤ls.foldl hi1 h∧x.md≤ls.foldl hi1 h:=by
 intro ls
 induction ls with
 | nil=>intro h;exact⟨Int.le_refl _,fun x hx=>by simp at hx⟩
 | cons y ls ih=>
  intro h;have h1:=hi1_ge h y;have h2:=ih (hi1 h y);refine⟨?_,fun x hx=>?_⟩
  ·show h≤ls.foldl hi1 (hi1 h y)
   omega
  ·show x.mode≤ls.foldl hi1 (hi1 h y)∧x.md≤ls.foldl hi1 (hi1 h y)
   rcases List.mem_cons.1 hx with e | e
   ·subst e;omega
   ·exact h2.2 x e
section
variable {s:ByteArray} {all:List Ln}
theorem lp_of {y:Lp} (hy:y∈(allLn all).1):∃x pt,x∈all∧y=x.lp pt:=by
 obtain⟨k,hk⟩:=List.getElem?_of_mem hy
 have kl:k<all.length:=by rw [←(allLn_lin all).n];exact (List.getElem?_eq_some_iff.1 hk).1
 obtain⟨pt,h1,_⟩:=allLn_get all (List.getElem?_eq_getElem kl)
 rw [hk] at h1
 exact⟨_,pt,List.getElem_mem kl,Option.some.inj h1⟩
theorem rules_ok (hL:Lns s 0 [] all):RulesOK (rulesP (allLn all).1) (nM all)∧(rulesP (allLn all).1).length=all.length:=by
 have bds:=hL.bds
 have nm:=nM_bd bds.1
 have hlen:(rulesP (allLn all).1).length=all.length:=by unfold rulesP;rw [List.length_map,(allLn_lin all).n]
 refine⟨⟨by omega,fun i hi=>?_⟩,hlen⟩
 have hi':i<(allLn all).1.length:=by rw [(allLn_lin all).n];omega
 have e:rg (rulesP (allLn all).1) i=⟨((allLn all).1[i]).emit,((allLn all).1[i]).act,((allLn all).1[i]).md⟩:=by
  unfold rg rulesP;rw [List.getD_eq_getElem?_getD,List.getElem?_map,List.getElem?_eq_getElem hi'];rfl
 rw [e]
 have hm:=(hi1_fold (allLn all).1 0).2 _ (List.getElem_mem hi')
 obtain⟨x,pt,hx,ey⟩:=lp_of (List.getElem_mem hi')
 have hb:=bds.1 x hx
 have hn:(nM all:Int)=(allLn all).1.foldl hi1 0+1:=nm.1.symm
 unfold LnB at hb
 rw [ey] at hm ⊢
 simp only [Ln.lp] at hm
 unfold RuleOK
 simp only [Ln.lp]
 omega
theorem sets_led (h42:∀j,j<nM all→(setsOf all j).length≤42) {j:Nat} (hj:j<nM all):Led (allLn all).2 (beginR (allLn all).1 (j:Int)) (setsOf all j):=find_led _ _ _ (h42 j hj)
theorem kks_get {j:Nat} {K:List Kd} (h:(kksOf all)[j]?=some K):j<nM all∧K=kindsS (allLn all).1 (setsOf all j):=by
 unfold kksOf at h
 rw [List.getElem?_map] at h
 by_cases c:j<nM all
 ·rw [List.getElem?_range c] at h
  exact⟨c,(Option.some.inj h).symm⟩
 ·rw [List.getElem?_eq_none (by rw [List.length_range];omega)] at h
  cases h
theorem kks_len:(kksOf all).length=nM all:=by simp [kksOf]
theorem kks_tell (h42:∀j,j<nM all→(setsOf all j).length≤42) {j:Nat} {K:List Kd} (h:(kksOf all)[j]?=some K):Tells all (j:Int) K:=by
 have hk:=kks_get h
 rw [hk.2]
 have hj:=hk.1
 exact kinds_tell (ls:=all) (q:=allLn all) (mode:=(j:Int)) (ss:=setsOf all j) (allLn_lin all) (sets_led h42 hj) (h42 j hj)
theorem comp_laid (h42:∀j,j<nM all→(setsOf all j).length≤42):Laid all.length (kksOf all) (layAll (kksOf all)):=
 layAll_laid _ _ (fun m hm=>by
  obtain⟨j,hj⟩:=List.getElem?_of_mem hm
  exact (kks_tell h42 hj).ok)
theorem comp_right (hL:Lns s 0 [] all) (h42:∀j,j<nM all→(setsOf all j).length≤42):RightP (compP all):=by
 have nm:=nM_bd hL.bds.1
 have hr:=rules_ok hL
 exact (comp_laid h42).right (by rw [kks_len];omega) (by rw [kks_len];exact hr.1) hr.2
theorem Led.places {ps:List Pl} {bg:List Nat} {ss:List St} (h:Led ps bg ss) (hp:PlsOK ps) (hb:Inl ps.length bg):∀x∈ss,x.places.length≤ps.length:=by
 intro x hx
 obtain⟨i,hi⟩:=List.getElem?_of_mem hx
 have il:=(List.getElem?_eq_some_iff.1 hi).1
 have ep:plS ss i=x.places:=by unfold plS;rw [hi]
 rw [←ep]
 by_cases c:2≤i
 ·obtain⟨j,b,h1,h2,h3,h4⟩:=h.fr i c il
  have:=(h.led j b h1 (by omega) h3 (.inl (by omega))).1;rw [h4] at this;rw [this];refine (taking_inl ps b ?_).len;unfold rdy;split
  ·exact hb
  ·exact behind_inl hp _
 ·have:plS ss i=[]:=by
   by_cases e:i=0
   ·rw [e];unfold plS;rw [h.z0]
   ·have:i=1:=by omega
    rw [this];exact h.p1
  rw [this];exact Nat.zero_le _
theorem sets_places (hL:Lns s 0 [] all) (h42:∀j,j<nM all→(setsOf all j).length≤42) {j:Nat} (hj:j<nM all):∀x∈setsOf all j,x.places.length≤s.size:=by
 have lin:=allLn_lin all
 have hb:Inl (allLn all).2.length (beginR (allLn all).1 (j:Int)):=by
  rw [lin.len];exact begin_inl _ lin.pts
 intro x hx
 have:=(sets_led h42 hj).places lin.ok hb x hx
 rw [lin.len] at this
 exact Nat.le_trans this hL.base_le
end
end Pure
end Go.Proofs.YtmccnmgaoppogaaGreat
