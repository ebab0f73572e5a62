import Derived.Test.YtmccnmgaoppogabGreatuHA
import Derived.Deep.CutRange
namespace Go.Proofs.YtmccnmgaoppogabGreat
open Pu
set_option linter.all false
open Go.Proofs.Tryz Tryz
set_option maxRecDepth 100000
set_option maxHeartbeats 8000000
open Go.RowKit
namespace Pu
theorem kH{p:Prop} [Decidable p] {a:Int} (h:0<=a/\a<=15):0<=eP p a/\eP p a<=16:=by unfold eP;split <;> omega
theorem JJ(c d:Int):0<=(nQ c d).1/\(nQ c d).1<=16/\d<=(nQ c d).2/\(nQ c d).2<=d+1:=by
 unfold nQ;have:=kH (p:=Plain c) (a:=3) o_;split
 .simp only;omega
 .split
  .simp only;omega
  .split
   .simp only;omega
   .split
    .simp only;omega
    .simp only;omega
theorem XJ(c d:Int):0<=(nK c d).1/\(nK c d).1<=16/\d-1<=(nK c d).2/\(nK c d).2<=d+1:=by
 have b:=JJ c d;have e:=kH (p:=0<d) (a:=3) o_;have f:=kH (p:=d=0) (a:=12) o_;unfold nK;split
 .simp only;omega
 .split
  .simp only;omega
  .split
   .simp only;omega
   .split
    .simp only;omega
    .omega
theorem XH(w c:Int):0<=ji w c/\ji w c<=16:=by
 have b:=kH (p:=mP c) (a:=11) o_;have d:=kH (p:=mP c) (a:=7) o_;unfold ji
 repeat' split
 all_goals omega
theorem abR(w c l:Int):0<=iZ w c l/\iZ w c l<=16:=by
 have b:=kH (p:=97<=c/\c<=100) (a:=1) o_;have d:=kH (p:=c=32) (a:=2) o_;have e:=kH (p:=c=101\/c=115) (a:=13) o_;have f:=kH (p:=97<=c/\c<=100) (a:=15) o_;have g:=kH (p:=c=10/\l<16) (a:=0) o_;unfold iZ
 repeat' split
 all_goals omega
theorem afb(q:Mq)(c:Int):0<=(Kg q c).1/\(Kg q c).1<=16/\q.d-1<=(Kg q c).2/\(Kg q c).2<=q.d+1:=by
 have b:=JJ c q.d;have d:=XJ c q.d;have e:=XH q.w c;have f:=abR q.w c q.l;have g:=kH (p:=gZ c) (a:=3) o_;have h:=kH (p:=gZ c) (a:=7) o_;have i:=kH (p:=gZ c) (a:=11) o_;unfold Kg;split
 .omega
 .split
  .omega
  .split
   .simp only;omega
   .split
    .simp only;omega
    .split
     .simp only;omega
     .split
      .simp only;omega
      .simp only;omega
end Pu
def agv(s:Y_)(w:W_)(e:Ending)(w':W_):Prop:=w'=w/\
 ((∃k:Nat,oV s 0 Pu.aW k/\e=.returned (.tuple #[I_ k,.bool false]))\/
  (∃q:Pu.Mq,fA s 0 Pu.aW s.size q/\(q.w=13\/q.w=15)/\e=.returned (.tuple #[I_ s.size,.bool true])))
theorem Ht(s:Y_)(w:W_)(G:s.size<=400):Calls prog 52 #[.string s] w (agv s w):=by
 go_in;go_wp2_with fail;go_loopg [4,5,6,7,8,9,10] s.size (fun gk d b lv c _ _ _ e=>∃(i:Nat) (k a f:Int),i<=s.size/\gk=s.size-i/\d=I_ k/\b=I_ a/\lv=I_ f/\c=I_ i/\e=w/\0<=k/\k<=15/\-(i:Int)<=a/\a<=i/\1<=f/\f<=i+1/\fA s 0 Pu.aW i ⟨k,a,f⟩);exact⟨0,0,0,1,zl_ _,rfl,rfl,rfl,rfl,rfl,rfl,o_,o_,o_,o_,o_,o_,.refl _ _⟩;obtain⟨i,k,a,f,H,rfl,rfl,rfl,rfl,rfl,rfl,aW,N,E,F,K,L,b⟩:=hrel;have u:=bL b;clear b;by_cases y:i<s.size
 .have B:=oL i s.size;have D:=fun w=>eB s (i:Int) i rfl o_ w;have I:=jJ i;have J:(i:Int)<s.size:=o_;have O:=kZ i;have Q:=yL (f+1);have g:=afb ⟨k,a,f⟩ (bt s i);have A:=iM s i;have j:Hid (∀(p:Int × Int),Kg ⟨k,a,f⟩ (bt s i)=p->(p.1=16->oV s 0 Pu.aW i)/\(p.1≠16->fA s 0 Pu.aW (i+1) ⟨p.1,p.2,if p.1=0/\k≠0 then f+1 else f⟩)):=by
   intro p b;refine⟨fun h=>⟨_,u.o,.inr ⟨y,by rw[b];exact h⟩⟩,fun h=>u.o.trans (.step y (by rw[b];exact h) ?_)⟩;have:Pu.nxt ⟨k,a,f⟩ (bt s i)=⟨p.1,p.2,if p.1=0/\k≠0 then f+1 else f⟩:=by unfold Pu.nxt;rw[b]
   rw[this];exact .refl _ _
  clear u;obtain⟨c,b⟩:∃c,c=bt s i:=⟨_,rfl⟩;rw[<-b]at D g j A;clear b;have WI:=bL (zY aaJ c wr d_);rw[afm]at WI;go_wp2_with fail;refine WI.o.mono ?_;clear WI;rintro e q ⟨rfl,rfl⟩;have C:k=0\/k=1\/k=2\/k=3\/k=4\/k=5\/k=6\/k=7\/k=8\/k=9\/k=10\/k=11\/k=12\/k=13\/k=14\/k=15:=o_;rcases C with rfl | rfl | rfl | rfl | rfl | rfl | rfl | rfl | rfl | rfl | rfl | rfl | rfl | rfl | rfl | rfl
  .go_wp2_with fail;refine (vG 0 c f q d_).mono ?_;rintro e r ⟨rfl,rfl⟩;have nx:=j.o (iZ 0 c f,a) rfl;have g:0<=iZ 0 c f/\iZ 0 c f<=16/\a-1<=a/\a<=a+1:=g;clear j;generalize iZ 0 c f=d at *;simp only at nx;by_cases b:d=16
   .have v:(d == 16)=true:=by simpa using b
    have l:=bL (nx.1 b);clear nx b;go_wp2;go_ret2;exact⟨rfl,.inl ⟨i,l.o,rfl⟩⟩
   .have v:(d == 16)=false:=by simpa using b
    have n:=bL (nx.2 b);clear nx;by_cases l:d=0;have x:(d == 0)=true:=by simpa using l
    rw[if_neg (fun h=>h.2 rfl)]at n;rotate_left;focus
     have x:(d == 0)=false:=by simpa using l
     rw[if_neg (fun h=>l h.1)]at n
    all_goals
     have t:d<=15:=o_;clear l b;go_wp2;go_roundg (s.size-(i+1));exact⟨i+1,d,a,f,o_,rfl,rfl,rfl,rfl,by go_num,rfl,o_,o_,o_,o_,o_,o_,n.o⟩;omega
  focus
   go_wp2_with fail;refine (vG 1 c f q d_).mono ?_;rintro e r ⟨rfl,rfl⟩;have nx:=j.o (iZ 1 c f,a) rfl;have g:0<=iZ 1 c f/\iZ 1 c f<=16/\a-1<=a/\a<=a+1:=g;clear j;generalize iZ 1 c f=d at *
  rotate_left
  .go_wp2_with fail;refine (Js c a q o_).mono ?_;rintro e r ⟨rfl,rfl⟩;have nx:=j.o (nQ c a) rfl;have g:0<=(nQ c a).1/\(nQ c a).1<=16/\a-1<=(nQ c a).2/\(nQ c a).2<=a+1:=g;clear j;generalize nQ c a=p at *;obtain⟨d,z⟩:=p;simp only at g nx;by_cases b:d=16
   .have v:(d == 16)=true:=by simpa using b
    have l:=bL (nx.1 b);clear nx b;go_wp2;go_ret2;exact⟨rfl,.inl ⟨i,l.o,rfl⟩⟩
   .have v:(d == 16)=false:=by simpa using b
    have n:=bL (nx.2 b);clear nx;by_cases l:d=0
    .have x:(d == 0)=true:=by simpa using l
     rw[if_pos ⟨l,d_⟩]at n;have t:d<=15:=o_;clear l b;go_wp2;go_roundg (s.size-(i+1));exact⟨i+1,d,z,f+1,o_,rfl,rfl,rfl,rfl,by go_num,rfl,o_,o_,o_,o_,o_,o_,n.o⟩;omega
    .have x:(d == 0)=false:=by simpa using l
     rw[if_neg (fun h=>l h.1)]at n;have t:d<=15:=o_;clear l b;go_wp2;go_roundg (s.size-(i+1));exact⟨i+1,d,z,f,o_,rfl,rfl,rfl,rfl,by go_num,rfl,o_,o_,o_,o_,o_,o_,n.o⟩;omega
  .go_wp2_with fail;refine (WE c a q o_).mono ?_;rintro e r ⟨rfl,rfl⟩;have nx:=j.o (nK c a) rfl;have g:0<=(nK c a).1/\(nK c a).1<=16/\a-1<=(nK c a).2/\(nK c a).2<=a+1:=g;clear j;generalize nK c a=p at *;obtain⟨d,z⟩:=p;simp only at g nx;by_cases b:d=16
   .have v:(d == 16)=true:=by simpa using b
    have l:=bL (nx.1 b);clear nx b;go_wp2;go_ret2;exact⟨rfl,.inl ⟨i,l.o,rfl⟩⟩
   .have v:(d == 16)=false:=by simpa using b
    have n:=bL (nx.2 b);clear nx;by_cases l:d=0
    .have x:(d == 0)=true:=by simpa using l
     rw[if_pos ⟨l,d_⟩]at n;have t:d<=15:=o_;clear l b;go_wp2;go_roundg (s.size-(i+1));exact⟨i+1,d,z,f+1,o_,rfl,rfl,rfl,rfl,by go_num,rfl,o_,o_,o_,o_,o_,o_,n.o⟩;omega
    .have x:(d == 0)=false:=by simpa using l
     rw[if_neg (fun h=>l h.1)]at n;have t:d<=15:=o_;clear l b;go_wp2;go_roundg (s.size-(i+1));exact⟨i+1,d,z,f,o_,rfl,rfl,rfl,rfl,by go_num,rfl,o_,o_,o_,o_,o_,o_,n.o⟩;omega
  focus
   go_wp2_with fail;refine (je (decide (gZ c)) 3 q).mono ?_;rintro e r ⟨rfl,rfl⟩;rw[mO];have nx:=j.o (eP (gZ c) 3,a) rfl;have g:0<=eP (gZ c) 3/\eP (gZ c) 3<=16/\a-1<=a/\a<=a+1:=g;clear j;generalize eP (gZ c) 3=d at *
  rotate_left;focus
   go_wp2_with fail;refine (vH 5 c q d_).mono ?_;rintro e r ⟨rfl,rfl⟩;have nx:=j.o (ji 5 c,a) rfl;have g:0<=ji 5 c/\ji 5 c<=16/\a-1<=a/\a<=a+1:=g;clear j;generalize ji 5 c=d at *
  rotate_left;focus
   go_wp2_with fail;refine (vH 6 c q d_).mono ?_;rintro e r ⟨rfl,rfl⟩;have nx:=j.o (ji 6 c,a) rfl;have g:0<=ji 6 c/\ji 6 c<=16/\a-1<=a/\a<=a+1:=g;clear j;generalize ji 6 c=d at *
  rotate_left;focus
   go_wp2_with fail;refine (vH 7 c q d_).mono ?_;rintro e r ⟨rfl,rfl⟩;have nx:=j.o (ji 7 c,a) rfl;have g:0<=ji 7 c/\ji 7 c<=16/\a-1<=a/\a<=a+1:=g;clear j;generalize ji 7 c=d at *
  rotate_left;focus
   go_wp2_with fail;refine (je (decide (gZ c)) 7 q).mono ?_;rintro e r ⟨rfl,rfl⟩;rw[mO];have nx:=j.o (eP (gZ c) 7,a) rfl;have g:0<=eP (gZ c) 7/\eP (gZ c) 7<=16/\a-1<=a/\a<=a+1:=g;clear j;generalize eP (gZ c) 7=d at *
  rotate_left;focus
   go_wp2_with fail;refine (vH 9 c q d_).mono ?_;rintro e r ⟨rfl,rfl⟩;have nx:=j.o (ji 9 c,a) rfl;have g:0<=ji 9 c/\ji 9 c<=16/\a-1<=a/\a<=a+1:=g;clear j;generalize ji 9 c=d at *
  rotate_left;focus
   go_wp2_with fail;refine (je (decide (gZ c)) 11 q).mono ?_;rintro e r ⟨rfl,rfl⟩;rw[mO];have nx:=j.o (eP (gZ c) 11,a) rfl;have g:0<=eP (gZ c) 11/\eP (gZ c) 11<=16/\a-1<=a/\a<=a+1:=g;clear j;generalize eP (gZ c) 11=d at *
  rotate_left;focus
   go_wp2_with fail;refine (vH 11 c q d_).mono ?_;rintro e r ⟨rfl,rfl⟩;have nx:=j.o (ji 11 c,a) rfl;have g:0<=ji 11 c/\ji 11 c<=16/\a-1<=a/\a<=a+1:=g;clear j;generalize ji 11 c=d at *
  rotate_left;focus
   go_wp2_with fail;refine (vG 12 c f q d_).mono ?_;rintro e r ⟨rfl,rfl⟩;have nx:=j.o (iZ 12 c f,a) rfl;have g:0<=iZ 12 c f/\iZ 12 c f<=16/\a-1<=a/\a<=a+1:=g;clear j;generalize iZ 12 c f=d at *
  rotate_left;focus
   go_wp2_with fail;refine (vG 13 c f q d_).mono ?_;rintro e r ⟨rfl,rfl⟩;have nx:=j.o (iZ 13 c f,a) rfl;have g:0<=iZ 13 c f/\iZ 13 c f<=16/\a-1<=a/\a<=a+1:=g;clear j;generalize iZ 13 c f=d at *
  rotate_left;focus
   go_wp2_with fail;refine (vG 14 c f q d_).mono ?_;rintro e r ⟨rfl,rfl⟩;have nx:=j.o (iZ 14 c f,a) rfl;have g:0<=iZ 14 c f/\iZ 14 c f<=16/\a-1<=a/\a<=a+1:=g;clear j;generalize iZ 14 c f=d at *
  rotate_left;focus
   go_wp2_with fail;refine (vG 15 c f q d_).mono ?_;rintro e r ⟨rfl,rfl⟩;have nx:=j.o (iZ 15 c f,a) rfl;have g:0<=iZ 15 c f/\iZ 15 c f<=16/\a-1<=a/\a<=a+1:=g;clear j;generalize iZ 15 c f=d at *
  all_goals
   simp only at nx;by_cases b:d=16
   .have v:(d == 16)=true:=by simpa using b
    have l:=bL (nx.1 b);clear nx b;go_wp2;go_ret2;exact⟨rfl,.inl ⟨i,l.o,rfl⟩⟩
   .have v:(d == 16)=false:=by simpa using b
    have n:=bL (nx.2 b);clear nx;by_cases l:d=0
    .have x:(d == 0)=true:=by simpa using l
     rw[if_pos ⟨l,d_⟩]at n;have t:d<=15:=o_;clear l b;go_wp2;go_roundg (s.size-(i+1));exact⟨i+1,d,a,f+1,o_,rfl,rfl,rfl,rfl,by go_num,rfl,o_,o_,o_,o_,o_,o_,n.o⟩;omega
    .have x:(d == 0)=false:=by simpa using l
     rw[if_neg (fun h=>l h.1)]at n;have t:d<=15:=o_;clear l b;go_wp2;go_roundg (s.size-(i+1));exact⟨i+1,d,a,f,o_,rfl,rfl,rfl,rfl,by go_num,rfl,o_,o_,o_,o_,o_,o_,n.o⟩;omega
 .have B:=nI i s.size;have d:i=s.size:=o_;by_cases b:k=13
  .have v:(k == 13)=true:=by simpa using b
   have l:Hid (∃q:Pu.Mq,fA s 0 Pu.aW s.size q/\(q.w=13\/q.w=15)):=⟨_,by rw[<-d];exact u.o,.inl b⟩;clear u b d;go_wp2;go_ret2;obtain⟨q,e,g⟩:=l.o;exact⟨rfl,.inr ⟨q,e,g,rfl⟩⟩
  .have v:(k == 13)=false:=by simpa using b
   by_cases c:k=15
   .have x:(k == 15)=true:=by simpa using c
    have l:Hid (∃q:Pu.Mq,fA s 0 Pu.aW s.size q/\(q.w=13\/q.w=15)):=⟨_,by rw[<-d];exact u.o,.inr c⟩;clear u b c d;go_wp2;go_ret2;obtain⟨q,e,g⟩:=l.o;exact⟨rfl,.inr ⟨q,e,g,rfl⟩⟩
   .have x:(k == 15)=false:=by simpa using c
    have l:Hid (oV s 0 Pu.aW s.size):=⟨_,by rw[<-d];exact u.o,.inl ⟨rfl,b,c⟩⟩;clear u b c d;go_wp2;go_ret2;exact⟨rfl,.inl ⟨_,l.o,rfl⟩⟩
end Go.Proofs.YtmccnmgaoppogabGreat
