/-
 Plain mathematics: programs as lists of numbers; when there is no way round without a Next; what two ways of finding that come to. Nothing of the program's translation is imported.
 Plain mathematics: the followers of an instruction, as the program tells them.
 Plain mathematics: how often each instruction follows one, counted step by step.
 Plain mathematics: taking away what nothing leads to, step by step.
 Plain mathematics: what ends is told, step by step.
 Plain mathematics: the bytes of an image.
-/
namespace Go.Proofs.Ytmccnmgaoppogaa
theorem lr_ {n:Nat}:n≤n:=Nat.le_refl n
theorem dl_ (a b:Int) (h:a<b):decide (a<b)=true:=decide_eq_true h
theorem df_ (a b:Int) (h:¬a<b):decide (a<b)=false:=decide_eq_false h
theorem nz_ (k:Nat):(0:Int)≤(k:Int):=by omega
theorem gx_ {α:Type} (l:List α) (i:Nat) (h:i<l.length):∃x,l[i]?=some x:=⟨_,List.getElem?_eq_getElem h⟩
theorem tk_:(∀{α:Type} (l:List α) (i:Nat) (h:i<l.toArray.size),l.toArray[i]=l[i]'(by simpa using h))∧(∀{α:Type} (a:α) (as:List α) (i:Nat) (h:i+1<(a::as).length),(a::as)[i+1]=as[i]'(Nat.lt_of_succ_lt_succ h))∧(∀{α:Type} (a:α) (as:List α) (h:0<(a::as).length),(a::as)[0]=a)∧(∀{α:Type} (l:List α) (i:Nat) (a:α),l.toArray.setIfInBounds i a=(l.set i a).toArray)∧(∀{α:Type} (b:α) (as:List α) (a:α),(b::as).set 0 a=a::as)∧(∀{α:Type} (b:α) (as:List α) (n:Nat) (a:α),(b::as).set (n+1) a=b::as.set n a):=⟨fun _ _ _=>List.getElem_toArray _,fun _ _ _ _=>rfl,fun _ _ _=>rfl,fun _ _ _=>List.setIfInBounds_toArray ..,fun _ _ _=>rfl,fun _ _ _ _=>rfl⟩
namespace Pu
structure Ins where
 op:Int
 a:Int
 b:Int
 to:Int
structure Rule where
 emit:Int
 act:Int
 mode:Int
structure Prg where
 ents:List Int
 rules:List Rule
 code:List Ins
def i0:Ins:=⟨0,0,0,0⟩
def r0:Rule:=⟨0,0,0⟩
def fst (x:Ins) (i:Nat):List Nat:=if x.op=1∨x.op=3 then [i+1] else []
def snd (x:Ins):List Nat:=if x.op=3∨x.op=4 then [x.to.toNat] else []
def succ (l:List Ins) (i:Nat):List Nat:=fst (l.getD i i0) i++snd (l.getD i i0)
def NoWay (l:List Ins):Prop:=∃rank:Nat→Nat,∀i,i<l.length→∀j,j∈succ l i→rank j<rank i
def Tight (l:List Ins):Prop:=∀i,i<l.length→
 (((l.getD i i0).op=1∨(l.getD i i0).op=3)→i+1<l.length)∧
 (((l.getD i i0).op=3∨(l.getD i i0).op=4)→0≤(l.getD i i0).to∧(l.getD i i0).to<l.length)
theorem Tight.lt {l:List Ins} (h:Tight l) {i j:Nat} (hi:i<l.length) (hj:j∈succ l i):j<l.length:=by
 have:=h i hi
 unfold succ fst snd at hj
 rw [List.mem_append] at hj
 rcases hj with hj | hj
 ·split at hj
  ·rename_i h1;simp at hj;have:=this.1 h1;omega
  ·simp at hj
 ·split at hj
  ·rename_i h1;rw [List.mem_singleton] at hj;have:=this.2 h1;omega
  ·simp at hj
def endsB (l:List Ins) (e:List Bool) (i:Nat):Bool:=(succ l i).all (fun j=>e.getD j false)
def Sound (l:List Ins) (e:List Bool):Prop:=∃rank:Nat→Nat,∀i,i<l.length→e.getD i false=true→
 ∀j,j∈succ l i→e.getD j false=true∧rank j<rank i
theorem getD_set {α:Type} (l:List α) (i k:Nat) (v d:α) (hi:i<l.length):(l.set i v).getD k d=if k=i then v else l.getD k d:=by
 simp only [List.getD_eq_getElem?_getD,List.getElem?_set]
 by_cases h:i=k
 ·subst h;simp [hi]
 ·rw [if_neg h,if_neg (fun e=>h e.symm)]
theorem sound_none (l:List Ins) (n:Nat):Sound l (List.replicate n false):=by
 refine⟨fun _=>0,fun i _ h=>?_⟩
 exfalso
 simp only [List.getD_eq_getElem?_getD,List.getElem?_replicate] at h
 split at h <;> simp at h
def sumR (rank:Nat→Nat):List Nat→Nat
 | []=>0
 | j::r=>rank j+sumR rank r
theorem le_sumR (rank:Nat→Nat):∀(s:List Nat) (j:Nat),j∈s→rank j≤sumR rank s
 | x::r,j,h=>by
  rcases List.mem_cons.1 h with h | h
  ·subst h;simp [sumR]
  ·have:=le_sumR rank r j h;simp [sumR];omega
theorem sound_set {l:List Ins} {e:List Bool} (h:Sound l e) {i:Nat} (hi:i<e.length) (hf:e.getD i false=false) (hb:endsB l e i=true):Sound l (e.set i true):=by
 obtain⟨rank,hr⟩:=h
 refine⟨fun x=>if x=i then 1+sumR rank (succ l i) else rank x,fun k hk hek j hj=>?_⟩
 rw [getD_set _ _ _ _ _ hi] at hek
 rw [getD_set _ _ _ _ _ hi]
 by_cases hki:k=i
 ·subst hki
  have hj':e.getD j false=true:=by
   unfold endsB at hb;exact (List.all_eq_true.1 hb) j hj
  have hji:j≠k:=by intro x;subst x;rw [hf] at hj';cases hj'
  have:=le_sumR rank _ j hj;simp only [if_neg hji,if_pos];exact⟨hj',by omega⟩
 ·rw [if_neg hki] at hek
  have:=hr k hk hek j hj;have hji:j≠i:=by intro x;subst x;rw [hf] at this;cases this.1
  simp only [if_neg hji,if_neg hki];exact this
theorem count_set {e:List Bool}:∀{i:Nat},i<e.length→e.getD i false=false→(e.set i true).count false+1=e.count false:=by
 induction e with
 | nil=>intro i hi _;simp at hi
 | cons x r ih=>
  intro i hi hf
  cases i with
  | zero=>simp at hf;subst hf;simp
  | succ i=>
   simp only [List.length_cons] at hi;have:=ih (i:=i) (by omega) (by simpa using hf);simp only [List.set_cons_succ,List.count_cons];omega
theorem count_zero {e:List Bool} (h:e.count false=0) {i:Nat} (hi:i<e.length):e.getD i false=true:=by
 cases hb:e.getD i false with
 | true=>rfl
 | false=>
  have:=count_set hi hb;omega
theorem sound_done {l:List Ins} {e:List Bool} (hl:e.length=l.length) (h:Sound l e) (hc:e.count false=0):NoWay l:=by
 obtain⟨rank,hr⟩:=h
 exact⟨rank,fun i hi j hj=>(hr i hi (count_zero hc (by omega)) j hj).2⟩
theorem count_pos {e:List Bool}:e.count false≠0→∃i,i<e.length∧e.getD i false=false:=by
 induction e with
 | nil=>intro h;simp at h
 | cons x r ih=>
  intro h
  cases x with
  | false=>exact⟨0,by simp,by simp⟩
  | true=>
   simp at h;have:r.count false≠0:=by simpa using h
   obtain⟨i,hi,hb⟩:=ih this;exact⟨i+1,by simp;omega,by simpa using hb⟩
theorem stuck {l:List Ins} {e:List Bool} (ht:Tight l) (hl:e.length=l.length) (h:∀i,i<l.length→e.getD i false=true∨endsB l e i=false) (hn:NoWay l):e.count false=0:=by
 obtain⟨rank,hr⟩:=hn
 have key:∀m i,i<l.length→rank i≤m→e.getD i false=true:=by
  intro m
  induction m with
  | zero=>
   intro i hi hm;rcases h i hi with h1 | h1
   ·exact h1
   ·unfold endsB at h1
    obtain⟨j,hj,_⟩:=List.all_eq_false.1 h1;have:=hr i hi j hj;omega
  | succ m ih=>
   intro i hi hm;rcases h i hi with h1 | h1
   ·exact h1
   ·unfold endsB at h1
    obtain⟨j,hj,hjf⟩:=List.all_eq_false.1 h1;have h2:=hr i hi j hj;have h3:=ih j (ht.lt hi hj) (by omega);exact absurd h3 hjf
 apply Classical.byContradiction
 intro hc
 obtain⟨i,hi,hb⟩:=count_pos hc
 have:=key (rank i) i (by omega) lr_
 rw [hb] at this
 cases this
theorem nodup_len:∀(n:Nat) (q:List Nat),q.Nodup→(∀v,v∈q→v<n)→q.length≤n
 | 0,q,_,h=>by
  cases q with
  | nil=>simp
  | cons x r=>have:=h x (by simp);omega
 | n+1,q,hd,h=>by
  by_cases hm:n∈q
  ·have:=nodup_len n (q.erase n) (hd.erase n) (fun v hv=>by
    have h1:=h v (List.mem_of_mem_erase hv)
    have h2:v≠n:=by
     intro e;subst e;exact (List.Nodup.not_mem_erase hd) hv
    omega)
   rw [List.length_erase_of_mem hm] at this;omega
  ·have:=nodup_len n q hd (fun v hv=>by
    have h1:=h v hv;have h2:v≠n:=by intro e;subst e;exact hm hv
    omega)
   omega
def RuleOK (m:Nat) (r:Rule):Prop:=(r.emit=0∨r.emit=1)∧(0≤r.act∧r.act≤3)∧(0≤r.mode∧r.mode<m)∧(r.act=1∨r.act=2∨r.mode=0)
def InsOK (k n:Nat) (x:Ins):Prop:=
 (x.op=1∧0≤x.a∧x.a<k∧x.b=0∧x.to=0)∨((x.op=2∨x.op=5)∧x.a=0∧x.b=0∧x.to=0)∨
 (x.op=3∧0≤x.a∧x.a≤x.b∧x.b≤255∧0≤x.to∧x.to<n)∨(x.op=4∧x.a=0∧x.b=0∧0≤x.to∧x.to<n)
def LastOK (l:List Ins):Prop:=(l.getD (l.length-1) i0).op=4∨(l.getD (l.length-1) i0).op=5
theorem tight_of {l:List Ins} {k:Nat} (h:∀i,i<l.length→InsOK k l.length (l.getD i i0)) (hl:LastOK l):Tight l:=by
 intro i hi
 have hx:=h i hi
 unfold LastOK at hl
 refine⟨fun ho=>?_,fun ho=>?_⟩
 ·by_cases e:i=l.length-1
  ·rw [←e] at hl;omega
  ·omega
 ·unfold InsOK at hx
  rcases hx with ⟨h1,_⟩ | ⟨h1,_⟩ | ⟨h1,_,_,_,h2⟩ | ⟨h1,_,_,h2⟩ <;> omega
end Pu
namespace Pu
def ig (l:List Int) (i:Nat):Int:=l.getD i 0
def rg (l:List Rule) (i:Nat):Rule:=l.getD i r0
def cg (l:List Ins) (i:Nat):Ins:=l.getD i i0
def EntsOK (l:List Int) (n:Nat):Prop:=(1≤l.length∧l.length≤4)∧∀i,i<l.length→0≤ig l i∧ig l i<n
def RulesOK (l:List Rule) (m:Nat):Prop:=(1≤l.length∧l.length≤16)∧∀i,i<l.length→RuleOK m (rg l i)
def CodeOK (l:List Ins) (k:Nat):Prop:=(1≤l.length∧l.length≤50000)∧(∀i,i<l.length→InsOK k l.length (cg l i))∧((cg l (l.length-1)).op=4∨(cg l (l.length-1)).op=5)
def RightP (p:Prg):Prop:=EntsOK p.ents p.code.length∧RulesOK p.rules p.ents.length∧CodeOK p.code p.rules.length∧NoWay p.code
theorem CodeOK.tight {l:List Ins} {k:Nat} (h:CodeOK l k):Tight l:=tight_of (k:=k) h.2.1 h.2.2
theorem false_iff_of {P:Prop} (h:¬P):(false=true↔P):=⟨fun h'=>Bool.noConfusion h',fun h'=>absurd h' h⟩
theorem upto_succ {P:Nat→Prop} {k:Nat} (h:∀j,j<k→P j) (hk:P k):∀j,j<k+1→P j:=fun j hj=>by
 by_cases e:j=k
 ·subst e;exact hk
 ·exact h j (by omega)
end Pu
namespace Pu
end Pu
namespace Pu
end Pu
namespace Pu
def bg (e:List Bool) (i:Nat):Bool:=e.getD i false
theorem ends1 {l:List Ins} {e:List Bool} {i:Nat} (h:(cg l i).op=1):endsB l e i=bg e (i+1):=by
 unfold endsB succ fst snd
 have h':(l.getD i i0).op=1:=h
 rw [if_pos (.inl h'),if_neg (by omega)]
 simp [bg]
theorem ends3 {l:List Ins} {e:List Bool} {i:Nat} (h:(cg l i).op=3):endsB l e i=(bg e (i+1) && bg e (cg l i).to.toNat):=by
 unfold endsB succ fst snd
 have h':(l.getD i i0).op=3:=h
 rw [if_pos (.inr h'),if_pos (.inl h')]
 simp [bg,cg]
theorem ends4 {l:List Ins} {e:List Bool} {i:Nat} (h:(cg l i).op=4):endsB l e i=bg e (cg l i).to.toNat:=by
 unfold endsB succ fst snd
 have h':(l.getD i i0).op=4:=h
 rw [if_neg (by omega),if_pos (.inr h')]
 simp [bg,cg]
theorem ends0 {l:List Ins} {e:List Bool} {i:Nat} (h1:(cg l i).op≠1) (h3:(cg l i).op≠3) (h4:(cg l i).op≠4):endsB l e i=true:=by
 unfold endsB succ fst snd
 have h1':(l.getD i i0).op≠1:=h1
 have h3':(l.getD i i0).op≠3:=h3
 have h4':(l.getD i i0).op≠4:=h4
 rw [if_neg (by simp only [not_or];exact⟨h1',h3'⟩),if_neg (by simp only [not_or];exact⟨h3',h4'⟩)]
 rfl
def Quiet (l:List Ins) (e:List Bool) (k:Nat):Prop:=∀i,i<l.length→i<k→bg e i=true∨endsB l e i=false
theorem quiet_zero (l:List Ins) (e:List Bool):Quiet l e 0:=fun i _ h=>by omega
theorem quiet_on {l:List Ins} {e:List Bool} {k:Nat} (h:Quiet l e k) (hk:bg e k=true∨endsB l e k=false):Quiet l e (k+1):=fun i hi hk'=>by
 by_cases e':i=k
 ·subst e';exact hk
 ·exact h i hi (by omega)
theorem quiet_past {l:List Ins} {e:List Bool} {k:Nat} (h:Quiet l e k) (hk:l.length≤k):Quiet l e (k+1):=fun i hi _=>h i hi (by omega)
structure Pass (l:List Ins) (e:List Bool) (more:Bool) (k L0:Nat):Prop where
 len:e.length=l.length
 sound:Sound l e
 le:e.count false≤L0
 lt:more=true→e.count false<L0
 quiet:more=false→Quiet l e k
theorem pass_start {l:List Ins} {e:List Bool} (hl:e.length=l.length) (hs:Sound l e):Pass l e false 0 (e.count false):=
 ⟨hl,hs,lr_,fun h=>Bool.noConfusion h,fun _=>quiet_zero l e⟩
theorem pass_skip {l:List Ins} {e:List Bool} {more:Bool} {k L0:Nat} (h:Pass l e more k L0) (hk:k<l.length→bg e k=true∨endsB l e k=false):Pass l e more (k+1) L0:=
 ⟨h.len,h.sound,h.le,h.lt,fun hm=>by
  by_cases hkl:k<l.length
  ·exact quiet_on (h.quiet hm) (hk hkl)
  ·exact quiet_past (h.quiet hm) (by omega)⟩
theorem pass_set {l:List Ins} {e:List Bool} {more:Bool} {k i L0:Nat} (h:Pass l e more k L0) (hi:i<l.length) (hf:bg e i=false) (hb:endsB l e i=true):Pass l (e.set i true) true (k+1) L0∧(e.set i true).count false+1=e.count false:=by
 have hi':i<e.length:=by rw [h.len];exact hi
 have hc:=count_set hi' hf
 have hle:=h.le
 exact⟨⟨by rw [List.length_set];exact h.len,sound_set h.sound hi' hf hb,by omega,fun _=>by omega,fun hm=>Bool.noConfusion hm⟩,hc⟩
theorem pass_end {l:List Ins} {e:List Bool} {k L0:Nat} (ht:Tight l) (h:Pass l e false k L0) (hk:2*l.length≤k):(((e.count false:Nat):Int) == 0)=true↔NoWay l:=by
 rw [beq_iff_eq]
 constructor
 ·intro h0
  exact sound_done h.len h.sound (by omega)
 ·intro hn
  have:=stuck ht h.len (fun i hi=>h.quiet rfl i hi (by omega)) hn;omega
theorem count_le (e:List Bool):e.count false≤e.length:=List.count_le_length
end Pu
namespace Pu
def eb (e:Int):List Int:=[e % 256,e / 256]
def ruleB (r:Rule):List Int:=[r.emit,r.act,r.mode]
def insB (x:Ins):List Int:=[x.op,x.a,x.b,x.to % 256,x.to / 256]
def hdr4 (p:Prg):List Int:=[87,82,(p.ents.length:Int),(p.rules.length:Int)]
def wA (p:Prg) (k:Nat):List Int:=(hdr4 p++eb p.code.length)++(p.ents.take k).flatMap eb
def wB (p:Prg) (k:Nat):List Int:=wA p p.ents.length++(p.rules.take k).flatMap ruleB
def wC (p:Prg) (k:Nat):List Int:=wB p p.rules.length++(p.code.take k).flatMap insB
def img (p:Prg):List Int:=wC p p.code.length
theorem flat_step {α:Type} (f:α→List Int) (l:List α) (d:α) (k:Nat) (hk:k<l.length):(l.take (k+1)).flatMap f=(l.take k).flatMap f++f (l.getD k d):=by
 rw [List.take_succ_eq_append_getElem hk,List.flatMap_append]
 simp [List.getD_eq_getElem?_getD,hk]
theorem flat_len {α:Type} (f:α→List Int) (c:Nat) (hf:∀x,(f x).length=c):∀(l:List α),(l.flatMap f).length=c*l.length
 | []=>by simp
 | x::r=>by
  rw [List.flatMap_cons,List.length_append,hf,flat_len f c hf r,List.length_cons,Nat.mul_succ];omega
theorem wA_zero (p:Prg):wA p 0=hdr4 p++eb p.code.length:=by simp [wA]
theorem wB_zero (p:Prg):wB p 0=wA p p.ents.length:=by simp [wB]
theorem wC_zero (p:Prg):wC p 0=wB p p.rules.length:=by simp [wC]
theorem wA_step (p:Prg) (k:Nat) (hk:k<p.ents.length):wA p (k+1)=wA p k++[ig p.ents k % 256,ig p.ents k / 256]:=by
 unfold wA;rw [flat_step eb p.ents 0 k hk,←List.append_assoc];rfl
theorem wB_step (p:Prg) (k:Nat) (hk:k<p.rules.length):wB p (k+1)=wB p k++[(rg p.rules k).emit,(rg p.rules k).act,(rg p.rules k).mode]:=by
 unfold wB;rw [flat_step ruleB p.rules r0 k hk,←List.append_assoc];rfl
theorem wC_step (p:Prg) (k:Nat) (hk:k<p.code.length):wC p (k+1)=wC p k++[(cg p.code k).op,(cg p.code k).a,(cg p.code k).b,(cg p.code k).to % 256,(cg p.code k).to / 256]:=by
 unfold wC;rw [flat_step insB p.code i0 k hk,←List.append_assoc];rfl
theorem wA_len (p:Prg) (k:Nat) (hk:k≤p.ents.length):(wA p k).length=6+2*k:=by
 unfold wA
 rw [List.length_append,flat_len eb 2 (fun _=>rfl),List.length_take]
 simp [hdr4,eb];omega
theorem wB_len (p:Prg) (k:Nat) (hk:k≤p.rules.length):(wB p k).length=6+2*p.ents.length+3*k:=by
 unfold wB
 rw [List.length_append,flat_len ruleB 3 (fun _=>rfl),List.length_take,wA_len p _ lr_]
 omega
theorem wC_len (p:Prg) (k:Nat) (hk:k≤p.code.length):(wC p k).length=6+2*p.ents.length+3*p.rules.length+5*k:=by
 unfold wC
 rw [List.length_append,flat_len insB 5 (fun _=>rfl),List.length_take,wB_len p _ lr_]
 omega
theorem right_ent {p:Prg} (h:RightP p) {k:Nat} (hk:k<p.ents.length):0≤ig p.ents k∧ig p.ents k≤65535:=by
 have h1:=h.1.2 k hk
 have h2:=h.2.2.1.1
 omega
theorem right_rule {p:Prg} (h:RightP p) {k:Nat} (hk:k<p.rules.length):(0≤(rg p.rules k).emit∧(rg p.rules k).emit≤255)∧(0≤(rg p.rules k).act∧(rg p.rules k).act≤255)∧(0≤(rg p.rules k).mode∧(rg p.rules k).mode≤255):=by
 have h1:=h.2.1.2 k hk
 have h2:=h.1.1
 unfold RuleOK at h1
 omega
theorem right_ins {p:Prg} (h:RightP p) {k:Nat} (hk:k<p.code.length):(0≤(cg p.code k).op∧(cg p.code k).op≤255)∧(0≤(cg p.code k).a∧(cg p.code k).a≤255)∧(0≤(cg p.code k).b∧(cg p.code k).b≤255)∧(0≤(cg p.code k).to∧(cg p.code k).to≤65535):=by
 have h1:=h.2.2.1.2.1 k hk
 have h2:=h.2.1.1
 have h3:=h.2.2.1.1
 unfold InsOK at h1
 omega
end Pu
end Go.Proofs.Ytmccnmgaoppogaa
