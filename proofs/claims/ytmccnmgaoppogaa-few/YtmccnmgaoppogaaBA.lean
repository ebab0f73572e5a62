/-
 Plain mathematics: programs that go onwards or to a Next are right; programs with one thing wrong are not.
 Plain mathematics of images: what a program's bytes tell is the program; the bytes of what an image tells are the image.
-/
import Derived.Test.YtmccnmgaoppogaaPuA
import Derived.Test.YtmccnmgaoppogaaRA
import Derived.Laws.BytesArg
namespace Go.Proofs.Ytmccnmgaoppogaa
namespace Pu
end Pu
open Go.RowKit
namespace Pu
theorem gd_left (xs ys:List Int) {n:Nat} (h:n<xs.length):(xs++ys).getD n 0=xs.getD n 0:=by
 simp only [List.getD_eq_getElem?_getD]
 rw [List.getElem?_append_left h]
theorem gd_right (xs ys:List Int) (a n:Nat) (ha:xs.length=a):(xs++ys).getD (a+n) 0=ys.getD n 0:=by
 subst ha
 simp only [List.getD_eq_getElem?_getD]
 rw [List.getElem?_append_right (by omega),Nat.add_sub_cancel_left]
theorem flat_get {α:Type} (f:α→List Int) (c:Nat) (hf:∀x,(f x).length=c) (d:α):∀(l:List α) (i j:Nat),i<l.length→j<c→(l.flatMap f).getD (c*i+j) 0=(f (l.getD i d)).getD j 0
 | x::r,0,j,_,hj=>by
  rw [List.flatMap_cons,Nat.mul_zero,Nat.zero_add,gd_left _ _ (by rw [hf];exact hj)];rfl
 | x::r,i+1,j,hi,hj=>by
  have ih:=flat_get f c hf d r i j (by simpa using hi) hj;rw [List.flatMap_cons,show c*(i+1)+j=c+(c*i+j) by rw [Nat.mul_succ];omega,gd_right _ _ _ _ (hf x),ih];rfl
theorem img_eq (p:Prg):img p=(((hdr4 p++eb p.code.length)++p.ents.flatMap eb)++p.rules.flatMap ruleB)++p.code.flatMap insB:=by
 unfold img wC wB wA
 simp only [List.take_length]
theorem img_len (p:Prg):(img p).length=6+2*p.ents.length+3*p.rules.length+5*p.code.length:=wC_len p _ lr_
theorem img_head (p:Prg):(img p).getD 0 0=87∧(img p).getD 1 0=82∧(img p).getD 2 0=p.ents.length∧(img p).getD 3 0=p.rules.length∧(img p).getD 4 0=(p.code.length:Int) % 256∧(img p).getD 5 0=(p.code.length:Int) / 256:=by
 rw [img_eq]
 simp only [hdr4,eb,List.cons_append,List.nil_append]
 exact⟨rfl,rfl,rfl,rfl,rfl,rfl⟩
theorem lenA (p:Prg):((hdr4 p++eb p.code.length)++p.ents.flatMap eb).length=6+2*p.ents.length:=by
 rw [List.length_append,flat_len eb 2 (fun _=>rfl)];rfl
theorem lenB (p:Prg):(((hdr4 p++eb p.code.length)++p.ents.flatMap eb)++p.rules.flatMap ruleB).length=6+2*p.ents.length+3*p.rules.length:=by
 rw [List.length_append,lenA,flat_len ruleB 3 (fun _=>rfl)]
theorem img_ent (p:Prg) {i:Nat} (hi:i<p.ents.length) (j:Nat) (hj:j<2):(img p).getD (6+2*i+j) 0=(eb (ig p.ents i)).getD j 0:=by
 rw [img_eq,gd_left _ _ (by rw [lenB];omega),gd_left _ _ (by rw [lenA];omega),Nat.add_assoc,gd_right _ _ 6 _ rfl,flat_get eb 2 (fun _=>rfl) 0 _ _ _ hi hj]
 rfl
theorem img_rule (p:Prg) {i:Nat} (hi:i<p.rules.length) (j:Nat) (hj:j<3):(img p).getD (6+2*p.ents.length+3*i+j) 0=(ruleB (rg p.rules i)).getD j 0:=by
 rw [img_eq,gd_left _ _ (by rw [lenB];omega),Nat.add_assoc,gd_right _ _ (6+2*p.ents.length) _ (lenA p),flat_get ruleB 3 (fun _=>rfl) r0 _ _ _ hi hj]
 rfl
theorem img_ins (p:Prg) {i:Nat} (hi:i<p.code.length) (j:Nat) (hj:j<5):(img p).getD (6+2*p.ents.length+3*p.rules.length+5*i+j) 0=(insB (cg p.code i)).getD j 0:=by
 rw [img_eq,Nat.add_assoc,gd_right _ _ (6+2*p.ents.length+3*p.rules.length) _ (lenB p),flat_get insB 5 (fun _=>rfl) i0 _ _ _ hi hj]
 rfl
def Bytes (xs:List Int):Prop:=∀x,x∈xs→0≤x∧x≤255
theorem bytes_append {xs ys:List Int} (h:Bytes xs) (k:Bytes ys):Bytes (xs++ys):=fun x hx=>by
 rcases List.mem_append.1 hx with h' | h'
 ·exact h x h'
 ·exact k x h'
theorem bytes_flat {α:Type} {f:α→List Int} {l:List α} (h:∀x,x∈l→Bytes (f x)):Bytes (l.flatMap f):=fun x hx=>by
 obtain⟨y,hy,hxy⟩:=List.mem_flatMap.1 hx
 exact h y hy x hxy
theorem mem_get {α:Type} {l:List α} (d:α) {x:α} (hx:x∈l):∃i,i<l.length∧l.getD i d=x:=by
 obtain⟨i,hi,e⟩:=List.getElem_of_mem hx
 exact⟨i,hi,by rw [List.getD_eq_getElem?_getD,List.getElem?_eq_getElem hi];exact e⟩
theorem img_bytes {p:Prg} (h:RightP p):Bytes (img p):=by
 have hn:=h.2.2.1.1
 have hm:=h.1.1
 have hk:=h.2.1.1
 rw [img_eq]
 refine bytes_append (bytes_append (bytes_append (bytes_append ?_ ?_) ?_) ?_) ?_
 ·intro x hx
  simp only [hdr4,List.mem_cons,List.not_mem_nil,or_false] at hx;rcases hx with rfl | rfl | rfl | rfl <;> omega
 ·intro x hx
  simp only [eb,List.mem_cons,List.not_mem_nil,or_false] at hx;rcases hx with rfl | rfl <;> omega
 ·refine bytes_flat fun y hy x hx=>?_
  obtain⟨i,hi,rfl⟩:=mem_get 0 hy;have:=right_ent h hi;unfold ig at this;simp only [eb,List.mem_cons,List.not_mem_nil,or_false] at hx;rcases hx with rfl | rfl <;> omega
 ·refine bytes_flat fun y hy x hx=>?_
  obtain⟨i,hi,rfl⟩:=mem_get r0 hy;have:=right_rule h hi;unfold rg at this;simp only [ruleB,List.mem_cons,List.not_mem_nil,or_false] at hx;rcases hx with rfl | rfl | rfl <;> omega
 ·refine bytes_flat fun y hy x hx=>?_
  obtain⟨i,hi,rfl⟩:=mem_get i0 hy;have:=right_ins h hi;unfold cg at this;simp only [insB,List.mem_cons,List.not_mem_nil,or_false] at hx;rcases hx with rfl | rfl | rfl | rfl | rfl <;> omega
end Pu
theorem bt_str {xs:List Int} (h:Pu.Bytes xs) (n:Nat):bt (strOfNums xs) n=xs.getD n 0:=by
 unfold bt
 rw [strOfNums_data]
 simp only [List.getD_eq_getElem?_getD,List.getElem?_map]
 cases e:xs[n]? with
 | none=>simp
 | some x=>
  have hx:=h x (List.mem_of_getElem? e);simp;omega
theorem img_form {p:Pu.Prg} (h:Pu.RightP p):Form (strOfNums (Pu.img p))∧prgOf (strOfNums (Pu.img p))=p:=by
 have hb:=bt_str (Pu.img_bytes h)
 have hn:=h.2.2.1.1
 obtain⟨h0,h1,h2,h3,h4,h5⟩:=Pu.img_head p
 have e2:nE (strOfNums (Pu.img p))=p.ents.length:=by unfold nE;rw [hb,h2];omega
 have e3:nR (strOfNums (Pu.img p))=p.rules.length:=by unfold nR;rw [hb,h3];omega
 have e4:nC (strOfNums (Pu.img p))=p.code.length:=by unfold nC pr;rw [hb,hb,h4,h5];omega
 have hs:(strOfNums (Pu.img p)).size=6+2*p.ents.length+3*p.rules.length+5*p.code.length:=by rw [strOfNums_size,Pu.img_len]
 refine⟨⟨by omega,by rw [hb,h0],by rw [hb,h1],by rw [e2,e3,e4,hs]⟩,?_⟩
 unfold prgOf
 rw [e2,e3,e4]
 have a1:entsOf (strOfNums (Pu.img p)) 6 p.ents.length=p.ents:=by
  apply List.ext_getElem
  ·simp [entsOf]
  ·intro i hi hi'
   simp only [entsOf,List.getElem_map,List.getElem_range];unfold pr;rw [hb,hb];have q0:=Pu.img_ent p hi' 0 (by omega);have q1:=Pu.img_ent p hi' 1 (by omega);rw [Nat.add_zero] at q0;have g:Pu.ig p.ents i=p.ents[i]:=by simp [Pu.ig,List.getD_eq_getElem?_getD,hi']
   rw [g] at q0 q1;rw [q0,q1];simp only [Pu.eb,List.getD_cons_zero,List.getD_cons_succ];omega
 have a2:rulesOf (strOfNums (Pu.img p)) (6+2*p.ents.length) p.rules.length=p.rules:=by
  apply List.ext_getElem
  ·simp [rulesOf]
  ·intro i hi hi'
   simp only [rulesOf,List.getElem_map,List.getElem_range];rw [hb,hb,hb];have q0:=Pu.img_rule p hi' 0 (by omega);have q1:=Pu.img_rule p hi' 1 (by omega);have q2:=Pu.img_rule p hi' 2 (by omega);rw [Nat.add_zero] at q0;have g:Pu.rg p.rules i=p.rules[i]:=by simp [Pu.rg,List.getD_eq_getElem?_getD,hi']
   rw [g] at q0 q1 q2;rw [q0,q1,q2];rfl
 have a3:codeOf (strOfNums (Pu.img p)) (6+2*p.ents.length+3*p.rules.length) p.code.length=p.code:=by
  apply List.ext_getElem
  ·simp [codeOf]
  ·intro i hi hi'
   simp only [codeOf,List.getElem_map,List.getElem_range];unfold pr;rw [hb,hb,hb,hb,hb];have q0:=Pu.img_ins p hi' 0 (by omega);have q1:=Pu.img_ins p hi' 1 (by omega);have q2:=Pu.img_ins p hi' 2 (by omega);have q3:=Pu.img_ins p hi' 3 (by omega);have q4:=Pu.img_ins p hi' 4 (by omega);rw [Nat.add_zero] at q0;have g:Pu.cg p.code i=p.code[i]:=by simp [Pu.cg,List.getD_eq_getElem?_getD,hi']
   rw [g] at q0 q1 q2 q3 q4;rw [q0,q1,q2,q3,Nat.add_assoc _ 3 1,q4];generalize p.code[i]=x;obtain⟨o,a,b,t⟩:=x;simp only [Pu.insB,List.getD_cons_zero,List.getD_cons_succ,Pu.Ins.mk.injEq,true_and];omega
 rw [a1,a2,a3]
end Go.Proofs.Ytmccnmgaoppogaa
