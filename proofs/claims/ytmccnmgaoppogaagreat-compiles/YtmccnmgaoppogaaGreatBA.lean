/-
 Plain mathematics: programs that go onwards or to a Next are right; programs with one thing wrong are not.
 Plain mathematics of images: what a program's bytes tell is the program; the bytes of what an image tells are the image.
-/
import Derived.Test.YtmccnmgaoppogaaGreatPuA
import Derived.Test.YtmccnmgaoppogaaGreatRA
import Derived.Laws.BytesArg
namespace Go.Proofs.YtmccnmgaoppogaaGreat
namespace Pure
def pk (c n:Int):Int:=(if c<0 then -(c+1) else c) % n
theorem pk_bd (c:Int) {n:Int} (hn:0<n):0≤pk c n∧pk c n<n:=by
 unfold pk
 exact⟨Int.emod_nonneg _ (by omega),Int.emod_lt_of_pos _ hn⟩
structure Made (k:Nat) (l:List Ins) (i:Nat):Prop where
 len1:1≤l.length
 len2:l.length≤50000
 at_:i+1≤l.length
 last:cg l (l.length-1)=⟨5,0,0,0⟩
 done:∀j,j<i→InsOK k l.length (cg l j)∧((cg l j).op=3∨(cg l j).op=4→j<(cg l j).to∨(cg l (cg l j).to.toNat).op=2)
 raw:∀j,i≤j→j<l.length→(1≤(cg l j).op∧(cg l j).op≤5)∧(cg l j).a=0∧(cg l j).b=0∧(cg l j).to=0
theorem cg_set (l:List Ins) (v:Nat) (y:Ins) (k:Nat) (hv:v<l.length):cg (l.set v y) k=if k=v then y else cg l k:=getD_set l v k y i0 hv
theorem Made.step {k:Nat} {l:List Ins} {i:Nat} (h:Made k l i) (hi:i+1<l.length) (y:Ins) (hop:y.op=(cg l i).op) (hok:InsOK k l.length y) (ht:y.op=3∨y.op=4→(i:Int)<y.to∨(cg l y.to.toNat).op=2):Made k (l.set i y) (i+1):=by
 have hi':i<l.length:=by omega
 have ops:∀j,(cg (l.set i y) j).op=(cg l j).op:=by
  intro j;rw [cg_set _ _ _ _ hi'];by_cases e:j=i
  ·subst e;rw [if_pos rfl,hop]
  ·rw [if_neg e]
 refine⟨by simpa using h.len1,by simpa using h.len2,by rw [List.length_set];omega,?_,?_,?_⟩
 ·rw [List.length_set,cg_set _ _ _ _ hi',if_neg (by omega)];exact h.last
 ·intro j hj
  rw [ops];rw [ops,List.length_set,cg_set _ _ _ _ hi'];by_cases e:j=i
  ·subst e
   rw [if_pos rfl];exact⟨hok,fun h'=>ht (by rw [hop];exact h')⟩
  ·rw [if_neg e]
   exact h.done j (by omega)
 ·intro j hj hj2
  rw [List.length_set] at hj2;rw [cg_set _ _ _ _ hi',if_neg (by omega)];exact h.raw j (by omega) hj2
theorem Made.skip {k:Nat} {l:List Ins} {i:Nat} (h:Made k l i) (hi:i+1<l.length) (hop:(cg l i).op=2∨(cg l i).op=5):Made k l (i+1):=by
 have hr:=h.raw i lr_ (by omega)
 refine⟨h.len1,h.len2,hi,h.last,?_,fun j hj hj2=>h.raw j (by omega) hj2⟩
 intro j hj
 by_cases e:j=i
 ·subst e
  exact⟨.inr (.inl ⟨hop,hr.2⟩),fun h'=>by omega⟩
 ·exact h.done j (by omega)
theorem Made.code {k:Nat} {l:List Ins} {i:Nat} (h:Made k l i) (hi:¬i+1<l.length):CodeOK l k∧NoWay l:=by
 have e:i=l.length-1:=by have:=h.at_;omega
 have hall:∀j,j<l.length→InsOK k l.length (cg l j)∧((cg l j).op=3∨(cg l j).op=4→j<(cg l j).to∨(cg l (cg l j).to.toNat).op=2):=by
  intro j hj;by_cases hji:j=i
  ·subst hji
   have:=h.last;rw [←e] at this;rw [this];exact⟨.inr (.inl ⟨.inr rfl,rfl,rfl,rfl⟩),fun h'=>by simp at h'⟩
  ·exact h.done j (by omega)
 have hc:CodeOK l k:=⟨⟨h.len1,h.len2⟩,fun j hj=>(hall j hj).1,by rw [h.last];exact .inr rfl⟩
 refine⟨hc,fun x=>if (cg l x).op=2 then 0 else l.length-x,fun j hj v hv=>?_⟩
 have hv':v<l.length:=hc.tight.lt hj hv
 have hop:(cg l j).op≠2:=by
  intro h2;unfold succ fst snd at hv;have h2':(l.getD j i0).op=2:=h2;rw [if_neg (by omega),if_neg (by omega)] at hv;simp at hv
 simp only [if_neg hop]
 by_cases h2:(cg l v).op=2
 ·rw [if_pos h2];omega
 ·rw [if_neg h2]
  have hjv:j<v:=by
   unfold succ fst snd at hv;rw [List.mem_append] at hv;rcases hv with hv | hv
   ·split at hv
    ·simp at hv;omega
    ·simp at hv
   ·split at hv
    ·rename_i ho
     rw [List.mem_singleton] at hv;rcases (hall j hj).2 ho with h1 | h1
     ·have h1':(j:Int)<(l.getD j i0).to:=h1
      omega
     ·exfalso;apply h2;rw [hv];exact h1
    ·simp at hv
  omega
theorem bad_ent {p:Prg} (h:p.ents.length≠0) (x:Int) (hx:x=p.code.length):¬RightP { p with ents:=p.ents.set 0 x }:=by
 intro h'
 have:=h'.1.2 0 (by simp;omega)
 rw [ig_set_same _ _ _ (by omega)] at this
 simp only at this
 omega
theorem bad_nil {p:Prg}:¬RightP { p with ents:=[] }:=by
 intro h'
 have:=h'.1.1
 simp at this
theorem bad_rule {p:Prg} (h:p.rules.length≠0) (y:Rule) (hy:¬RuleOK p.ents.length y):¬RightP { p with rules:=p.rules.set 0 y }:=by
 intro h'
 have:=h'.2.1.2 0 (by simp;omega)
 have e:rg (p.rules.set 0 y) 0=y:=by
  unfold rg;rw [getD_set _ _ _ _ _ (by omega),if_pos rfl]
 simp only [e] at this
 exact hy this
theorem bad_ins {p:Prg} (i:Nat) (h:i<p.code.length) (y:Ins) (hy:¬InsOK p.rules.length p.code.length y):¬RightP { p with code:=p.code.set i y }:=by
 intro h'
 have:=h'.2.2.1.2.1 i (by simp;omega)
 simp only [List.length_set,cg_set _ _ _ _ h,if_pos] at this
 exact hy this
theorem bad_last {p:Prg} (h:p.code.length≠0) (y:Ins) (hy:y.op≠4∧y.op≠5):¬RightP { p with code:=p.code.set (p.code.length-1) y }:=by
 intro h'
 have:=h'.2.2.1.2.2
 simp only [List.length_set,cg_set _ _ _ _ (show p.code.length-1<p.code.length by omega),if_pos] at this
 omega
theorem bad_loop {p:Prg} (h:p.code.length≠0) (x:Int) (hx:x=p.code.length-1):¬RightP { p with code:=p.code.set (p.code.length-1) ⟨4,0,0,x⟩ }:=by
 intro h'
 obtain⟨rank,hr⟩:=h'.2.2.2
 have:=hr (p.code.length-1) (by simp;omega) (p.code.length-1) (by
  unfold succ fst snd
  have e:(p.code.set (p.code.length-1) ⟨4,0,0,x⟩).getD (p.code.length-1) i0=⟨4,0,0,x⟩:=by
   rw [getD_set _ _ _ _ _ (by omega),if_pos rfl]
  simp only [e];simp
  omega)
 omega
end Pure
open Go.RowKit
namespace Pure
theorem gd_left (xs ys:List Int) {n:Nat} (h:n<xs.length):(xs++ys).getD n 0=xs.getD n 0:=by
 simp only [List.getD_eq_getElem?_getD]
 rw [List.getElem?_append_left h]
theorem gd_right (xs ys:List Int) (a n:Nat) (ha:xs.length=a):(xs++ys).getD (a+n) 0=ys.getD n 0:=by
 subst ha
 simp only [List.getD_eq_getElem?_getD]
 rw [List.getElem?_append_right (by omega),Nat.add_sub_cancel_left]
theorem flat_get {α:Type} (f:α→List Int) (c:Nat) (hf:∀x,(f x).length=c) (d:α):∀(l:List α) (i j:Nat),i<l.length→j<c→(l.flatMap f).getD (c*i+j) 0=(f (l.getD i d)).getD j 0
 | x::r,0,j,_,hj=>by
  rw [List.flatMap_cons,Nat.mul_zero,Nat.zero_add,gd_left _ _ (by rw [hf];exact hj)];rfl
 | x::r,i+1,j,hi,hj=>by
  have ih:=flat_get f c hf d r i j (by simpa using hi) hj;rw [List.flatMap_cons,show c*(i+1)+j=c+(c*i+j) by rw [Nat.mul_succ];omega,gd_right _ _ _ _ (hf x),ih];rfl
theorem img_eq (p:Prg):img p=(((hdr4 p++eb p.code.length)++p.ents.flatMap eb)++p.rules.flatMap ruleB)++p.code.flatMap insB:=by
 unfold img wC wB wA
 simp only [List.take_length]
theorem img_len (p:Prg):(img p).length=6+2*p.ents.length+3*p.rules.length+5*p.code.length:=wC_len p _ lr_
theorem img_head (p:Prg):(img p).getD 0 0=87∧(img p).getD 1 0=82∧(img p).getD 2 0=p.ents.length∧(img p).getD 3 0=p.rules.length∧(img p).getD 4 0=(p.code.length:Int) % 256∧(img p).getD 5 0=(p.code.length:Int) / 256:=by
 rw [img_eq]
 simp only [hdr4,eb,List.cons_append,List.nil_append]
 exact⟨rfl,rfl,rfl,rfl,rfl,rfl⟩
theorem lenA (p:Prg):((hdr4 p++eb p.code.length)++p.ents.flatMap eb).length=6+2*p.ents.length:=by
 rw [List.length_append,flat_len eb 2 (fun _=>rfl)];rfl
theorem lenB (p:Prg):(((hdr4 p++eb p.code.length)++p.ents.flatMap eb)++p.rules.flatMap ruleB).length=6+2*p.ents.length+3*p.rules.length:=by
 rw [List.length_append,lenA,flat_len ruleB 3 (fun _=>rfl)]
theorem img_ent (p:Prg) {i:Nat} (hi:i<p.ents.length) (j:Nat) (hj:j<2):(img p).getD (6+2*i+j) 0=(eb (ig p.ents i)).getD j 0:=by
 rw [img_eq,gd_left _ _ (by rw [lenB];omega),gd_left _ _ (by rw [lenA];omega),Nat.add_assoc,gd_right _ _ 6 _ rfl,flat_get eb 2 (fun _=>rfl) 0 _ _ _ hi hj]
 rfl
theorem img_rule (p:Prg) {i:Nat} (hi:i<p.rules.length) (j:Nat) (hj:j<3):(img p).getD (6+2*p.ents.length+3*i+j) 0=(ruleB (rg p.rules i)).getD j 0:=by
 rw [img_eq,gd_left _ _ (by rw [lenB];omega),Nat.add_assoc,gd_right _ _ (6+2*p.ents.length) _ (lenA p),flat_get ruleB 3 (fun _=>rfl) r0 _ _ _ hi hj]
 rfl
theorem img_ins (p:Prg) {i:Nat} (hi:i<p.code.length) (j:Nat) (hj:j<5):(img p).getD (6+2*p.ents.length+3*p.rules.length+5*i+j) 0=(insB (cg p.code i)).getD j 0:=by
 rw [img_eq,Nat.add_assoc,gd_right _ _ (6+2*p.ents.length+3*p.rules.length) _ (lenB p),flat_get insB 5 (fun _=>rfl) i0 _ _ _ hi hj]
 rfl
def Bytes (xs:List Int):Prop:=∀x,x∈xs→0≤x∧x≤255
theorem bytes_append {xs ys:List Int} (h:Bytes xs) (k:Bytes ys):Bytes (xs++ys):=fun x hx=>by
 rcases List.mem_append.1 hx with h' | h'
 ·exact h x h'
 ·exact k x h'
theorem bytes_flat {α:Type} {f:α→List Int} {l:List α} (h:∀x,x∈l→Bytes (f x)):Bytes (l.flatMap f):=fun x hx=>by
 obtain⟨y,hy,hxy⟩:=List.mem_flatMap.1 hx
 exact h y hy x hxy
theorem mem_get {α:Type} {l:List α} (d:α) {x:α} (hx:x∈l):∃i,i<l.length∧l.getD i d=x:=by
 obtain⟨i,hi,e⟩:=List.getElem_of_mem hx
 exact⟨i,hi,by rw [List.getD_eq_getElem?_getD,List.getElem?_eq_getElem hi];exact e⟩
theorem img_bytes {p:Prg} (h:RightP p):Bytes (img p):=by
 have hn:=h.2.2.1.1
 have hm:=h.1.1
 have hk:=h.2.1.1
 rw [img_eq]
 refine bytes_append (bytes_append (bytes_append (bytes_append ?_ ?_) ?_) ?_) ?_
 ·intro x hx
  simp only [hdr4,List.mem_cons,List.not_mem_nil,or_false] at hx;rcases hx with rfl | rfl | rfl | rfl <;> omega
 ·intro x hx
  simp only [eb,List.mem_cons,List.not_mem_nil,or_false] at hx;rcases hx with rfl | rfl <;> omega
 ·refine bytes_flat fun y hy x hx=>?_
  obtain⟨i,hi,rfl⟩:=mem_get 0 hy;have:=right_ent h hi;unfold ig at this;simp only [eb,List.mem_cons,List.not_mem_nil,or_false] at hx;rcases hx with rfl | rfl <;> omega
 ·refine bytes_flat fun y hy x hx=>?_
  obtain⟨i,hi,rfl⟩:=mem_get r0 hy;have:=right_rule h hi;unfold rg at this;simp only [ruleB,List.mem_cons,List.not_mem_nil,or_false] at hx;rcases hx with rfl | rfl | rfl <;> omega
 ·refine bytes_flat fun y hy x hx=>?_
  obtain⟨i,hi,rfl⟩:=mem_get i0 hy;have:=right_ins h hi;unfold cg at this;simp only [insB,List.mem_cons,List.not_mem_nil,or_false] at hx;rcases hx with rfl | rfl | rfl | rfl | rfl <;> omega
end Pure
theorem bt_str {xs:List Int} (h:Pure.Bytes xs) (n:Nat):bt (strOfNums xs) n=xs.getD n 0:=by
 unfold bt
 rw [strOfNums_data]
 simp only [List.getD_eq_getElem?_getD,List.getElem?_map]
 cases e:xs[n]? with
 | none=>simp
 | some x=>
  have hx:=h x (List.mem_of_getElem? e);simp;omega
theorem img_form {p:Pure.Prg} (h:Pure.RightP p):Form (strOfNums (Pure.img p))∧prgOf (strOfNums (Pure.img p))=p:=by
 have hb:=bt_str (Pure.img_bytes h)
 have hn:=h.2.2.1.1
 obtain⟨h0,h1,h2,h3,h4,h5⟩:=Pure.img_head p
 have e2:nE (strOfNums (Pure.img p))=p.ents.length:=by unfold nE;rw [hb,h2];omega
 have e3:nR (strOfNums (Pure.img p))=p.rules.length:=by unfold nR;rw [hb,h3];omega
 have e4:nC (strOfNums (Pure.img p))=p.code.length:=by unfold nC pr;rw [hb,hb,h4,h5];omega
 have hs:(strOfNums (Pure.img p)).size=6+2*p.ents.length+3*p.rules.length+5*p.code.length:=by rw [strOfNums_size,Pure.img_len]
 refine⟨⟨by omega,by rw [hb,h0],by rw [hb,h1],by rw [e2,e3,e4,hs]⟩,?_⟩
 unfold prgOf
 rw [e2,e3,e4]
 have a1:entsOf (strOfNums (Pure.img p)) 6 p.ents.length=p.ents:=by
  apply List.ext_getElem
  ·simp [entsOf]
  ·intro i hi hi'
   simp only [entsOf,List.getElem_map,List.getElem_range];unfold pr;rw [hb,hb];have q0:=Pure.img_ent p hi' 0 (by omega);have q1:=Pure.img_ent p hi' 1 (by omega);rw [Nat.add_zero] at q0;have g:Pure.ig p.ents i=p.ents[i]:=by simp [Pure.ig,List.getD_eq_getElem?_getD,hi']
   rw [g] at q0 q1;rw [q0,q1];simp only [Pure.eb,List.getD_cons_zero,List.getD_cons_succ];omega
 have a2:rulesOf (strOfNums (Pure.img p)) (6+2*p.ents.length) p.rules.length=p.rules:=by
  apply List.ext_getElem
  ·simp [rulesOf]
  ·intro i hi hi'
   simp only [rulesOf,List.getElem_map,List.getElem_range];rw [hb,hb,hb];have q0:=Pure.img_rule p hi' 0 (by omega);have q1:=Pure.img_rule p hi' 1 (by omega);have q2:=Pure.img_rule p hi' 2 (by omega);rw [Nat.add_zero] at q0;have g:Pure.rg p.rules i=p.rules[i]:=by simp [Pure.rg,List.getD_eq_getElem?_getD,hi']
   rw [g] at q0 q1 q2;rw [q0,q1,q2];rfl
 have a3:codeOf (strOfNums (Pure.img p)) (6+2*p.ents.length+3*p.rules.length) p.code.length=p.code:=by
  apply List.ext_getElem
  ·simp [codeOf]
  ·intro i hi hi'
   simp only [codeOf,List.getElem_map,List.getElem_range];unfold pr;rw [hb,hb,hb,hb,hb];have q0:=Pure.img_ins p hi' 0 (by omega);have q1:=Pure.img_ins p hi' 1 (by omega);have q2:=Pure.img_ins p hi' 2 (by omega);have q3:=Pure.img_ins p hi' 3 (by omega);have q4:=Pure.img_ins p hi' 4 (by omega);rw [Nat.add_zero] at q0;have g:Pure.cg p.code i=p.code[i]:=by simp [Pure.cg,List.getD_eq_getElem?_getD,hi']
   rw [g] at q0 q1 q2 q3 q4;rw [q0,q1,q2,q3,Nat.add_assoc _ 3 1,q4];generalize p.code[i]=x;obtain⟨o,a,b,t⟩:=x;simp only [Pure.insB,List.getD_cons_zero,List.getD_cons_succ,Pure.Ins.mk.injEq,true_and];omega
 rw [a1,a2,a3]
theorem range_two (f:Nat→Int) (a b:Nat):(List.range a).map f++(List.range b).map (fun n=>f (a+n))=(List.range (a+b)).map f:=by
 rw [List.range_add,List.map_append,List.map_map]
 rfl
theorem range_flat (f:Nat→Int) (c a:Nat):∀k,(List.range k).flatMap (fun i=>(List.range c).map (fun j=>f (a+c*i+j)))=(List.range (c*k)).map (fun n=>f (a+n))
 | 0=>by simp
 | k+1=>by
  rw [List.range_succ,List.flatMap_append,range_flat f c a k,Nat.mul_succ,List.range_add,List.map_append,List.map_map];simp [Function.comp_def,Nat.add_assoc]
theorem flatMap_map {α β γ:Type} (l:List α) (g:α→β) (f:β→List γ):(l.map g).flatMap f=l.flatMap (fun x=>f (g x)):=by
 induction l with
 | nil=>rfl
 | cons x r ih=>rw [List.map_cons,List.flatMap_cons,List.flatMap_cons,ih]
theorem form_img {s:ByteArray} (h:Form s):strOfNums (Pure.img (prgOf s))=s:=by
 obtain⟨h6,h0,h1,hs⟩:=h
 have key:Pure.img (prgOf s)=(List.range s.size).map (bt s):=by
  rw [Pure.img_eq,hs];have l1:(prgOf s).ents.length=nE s:=entsOf_len _ _ _;have l2:(prgOf s).rules.length=nR s:=rulesOf_len _ _ _;have l3:(prgOf s).code.length=nC s:=codeOf_len _ _ _
  have hd:Pure.hdr4 (prgOf s)++Pure.eb (prgOf s).code.length=(List.range 6).map (bt s):=by
   have b2:=bt_bd s 2;have b3:=bt_bd s 3;have b4:=bt_bd s 4;have b5:=bt_bd s 5;have c4:pr s 4=bt s 4+bt s 5*256:=rfl;unfold Pure.hdr4 Pure.eb;rw [l1,l2,l3];have e2:((nE s:Nat):Int)=bt s 2:=by unfold nE;omega
   have e3:((nR s:Nat):Int)=bt s 3:=by unfold nR;omega
   have e4:((nC s:Nat):Int)=bt s 4+bt s 5*256:=by unfold nC;omega
   rw [e2,e3,e4];show [87,82,bt s 2,bt s 3,_,_]=[bt s 0,bt s 1,bt s 2,bt s 3,bt s 4,bt s 5];rw [h0,h1];simp only [List.cons.injEq,true_and,and_true];constructor <;> omega
  have f1:(prgOf s).ents.flatMap Pure.eb=(List.range (2*nE s)).map (fun n=>bt s (6+n)):=by
   rw [←range_flat (bt s) 2 6];show (entsOf s 6 (nE s)).flatMap Pure.eb=_;unfold entsOf;rw [flatMap_map];congr 1;funext i;have b0:=bt_bd s (6+2*i);have b1:=bt_bd s (6+2*i+1);show [(bt s (6+2*i)+bt s (6+2*i+1)*256) % 256,(bt s (6+2*i)+bt s (6+2*i+1)*256) / 256]=[bt s (6+2*i),bt s (6+2*i+1)];simp only [List.cons.injEq,and_true];constructor <;> omega
  have f2:(prgOf s).rules.flatMap Pure.ruleB=(List.range (3*nR s)).map (fun n=>bt s (6+2*nE s+n)):=by
   rw [←range_flat (bt s) 3 (6+2*nE s)];show (rulesOf s (6+2*nE s) (nR s)).flatMap Pure.ruleB=_;unfold rulesOf;rw [flatMap_map];rfl
  have f3:(prgOf s).code.flatMap Pure.insB=(List.range (5*nC s)).map (fun n=>bt s (6+2*nE s+3*nR s+n)):=by
   rw [←range_flat (bt s) 5 (6+2*nE s+3*nR s)];show (codeOf s (6+2*nE s+3*nR s) (nC s)).flatMap Pure.insB=_;unfold codeOf;rw [flatMap_map];congr 1;funext i;generalize 6+2*nE s+3*nR s+5*i=a;have b3:=bt_bd s (a+3);have b4:=bt_bd s (a+3+1);show [bt s a,bt s (a+1),bt s (a+2),(bt s (a+3)+bt s (a+3+1)*256) % 256,(bt s (a+3)+bt s (a+3+1)*256) / 256]=[bt s a,bt s (a+1),bt s (a+2),bt s (a+3),bt s (a+4)];simp only [List.cons.injEq,and_true,true_and];constructor
   ·omega
   ·show _=bt s (a+3+1)
    omega
  rw [hd,f1,f2,f3,range_two,range_two,range_two]
 have e:s.data.toList=(List.range s.size).map (fun n=>s.data.toList.getD n 0):=by
  apply List.ext_getElem
  ·simp
  ·intro i hi hi'
   have hi2:i<s.data.size:=by simpa using hi
   have e3:s.data[i]?=some s.data[i]:=Array.getElem?_eq_getElem hi2;simp [List.getD_eq_getElem?_getD,e3]
 rw [key]
 unfold strOfNums
 have e2:((List.range s.size).map (bt s)).map (fun n=>UInt8.ofNat n.toNat)=s.data.toList:=by
  rw [List.map_map]
  conv=>rhs;rw [e]
  apply List.map_congr_left;intro i _;simp [bt]
 rw [e2]
theorem form_size {s:ByteArray} (h:Form s) (h':Pure.RightP (prgOf s)):16≤s.size:=by
 have l1:(prgOf s).ents.length=nE s:=entsOf_len _ _ _
 have l2:(prgOf s).rules.length=nR s:=rulesOf_len _ _ _
 have l3:(prgOf s).code.length=nC s:=codeOf_len _ _ _
 have a1:=h'.1.1
 have a2:=h'.2.1.1
 have a3:=h'.2.2.1.1
 have:=h.2.2.2
 omega
theorem not_form {s t:ByteArray} (h:Form s) (hb:∀n,n<6→bt t n=bt s n) (hs:t.size≠s.size):¬Form t:=by
 intro h'
 have e2:nE t=nE s:=by unfold nE;rw [hb 2 (by omega)]
 have e3:nR t=nR s:=by unfold nR;rw [hb 3 (by omega)]
 have e4:nC t=nC s:=by unfold nC pr;rw [hb 4 (by omega),hb 5 (by omega)]
 have a:=h.2.2.2
 have b:=h'.2.2.2
 rw [e2,e3,e4] at b
 omega
end Go.Proofs.YtmccnmgaoppogaaGreat
