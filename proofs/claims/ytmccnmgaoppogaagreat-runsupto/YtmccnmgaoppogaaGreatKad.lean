import Derived.Test.YtmccnmgaoppogaaGreatCA
import Derived.Laws.AppendOwnNone
import Derived.Deep.LoopGhost
import Derived.Deep.DeepCutAuto
import Derived.Deep.WholeRow
import Derived.Deep.MidRow
namespace Go.Proofs.YtmccnmgaoppogaaGreat
open Pu
set_option linter.all false
set_option maxRecDepth 100000
set_option maxHeartbeats 8000000
variable {g n t x y:Nat} {a b l:List Nat} {xs:List V_}
namespace Pu
def Oj (x:Nat) (f:List Nat->List Nat) (a:List Nat):List Nat->List Nat
 | []=>x::a
 | y::b=>if x<y then x::f (y::b) else if y<x then y::Oj x f a b else x::f b
def un:List Nat->List Nat->List Nat
 | [],b=>b
 | x::a,b=>Oj x (un a) a b
theorem aay (b:List Nat):un [] b=b:=rfl
theorem Kb (a:List Nat):un a []=a:=by cases a <;> rfl
theorem aax (h:x<y):un (x::a) (y::b)=x::un a (y::b):=by show Oj _ _ _ _=_;unfold Oj;rw [if_pos h]
theorem aaw (h:y<x):un (x::a) (y::b)=y::un (x::a) b:=by show Oj _ _ _ _=_;unfold Oj;rw [if_neg (by omega),if_pos h];rfl
theorem aav:un (x::a) (x::b)=x::un a b:=by show Oj _ _ _ _=_;unfold Oj;rw [if_neg (by omega),if_neg (by omega)]
def Kv (l:List Nat):Prop:=l.Pairwise (· < ·)
theorem Rf {Q:List Nat->List Nat->Prop} (h1:∀b,Q [] b) (h2:∀a,Q a []) (h3:∀x y a b,x<y->Q a (y::b)->Q (x::a) (y::b)) (h4:∀x y a b,y<x->Q (x::a) b->Q (x::a) (y::b)) (h5:∀x a b,Q a b->Q (x::a) (x::b)):∀a b,Q a b:=by
 intro a
 induction a with
 | nil=>exact h1
 | cons x a ih=>
  intro b
  induction b with
  | nil=>exact h2 _
  | cons y b ih2=>
   rcases Nat.lt_trichotomy x y with h | h | h
   .exact h3 _ _ _ _ h (ih _)
   .subst h;exact h5 _ _ _ (ih _)
   .exact h4 _ _ _ _ h ih2
theorem sI (z:Nat):∀a b,z∈un a b↔z∈a\/z∈b:=by
 refine Rf ?_ ?_ ?_ ?_ ?_
 .intro b;simp [aay]
 .intro a;simp [Kb]
 .intro x y a b h ih;rw [aax h];simp only [mm_,ih];exact⟨by rintro (h | h | h | h) <;> simp [h],by rintro ((h | h) | (h | h)) <;> simp [h]⟩
 .intro x y a b h ih;rw [aaw h];simp only [mm_,ih];exact⟨by rintro (h | (h | h) | h) <;> simp [h],by rintro ((h | h) | (h | h)) <;> simp [h]⟩
 .intro x a b ih;rw [aav];simp only [mm_,ih];exact⟨by rintro (h | h | h) <;> simp [h],by rintro ((h | h) | (h | h)) <;> simp [h]⟩
theorem ae6:∀a b,Kv a->Kv b->Kv (un a b):=by
 unfold Kv;refine Rf ?_ ?_ ?_ ?_ ?_
 .intro b _ h;exact h
 .intro a h _;rw [Kb];exact h
 .intro x y a b h ih ha hb;rw [aax h];rw [List.pairwise_cons] at ha |-;refine⟨fun z hz=>?_,ih ha.2 hb⟩;rcases (sI z _ _).1 hz with k | k
  .exact ha.1 z k
  .rw [List.pairwise_cons] at hb;rcases mm_.1 k with rfl | k
   .exact h
   .exact Nat.lt_trans h (hb.1 z k)
 .intro x y a b h ih ha hb;rw [aaw h];rw [List.pairwise_cons] at hb |-;refine⟨fun z hz=>?_,ih ha hb.2⟩;rcases (sI z _ _).1 hz with k | k
  .rw [List.pairwise_cons] at ha;rcases mm_.1 k with rfl | k
   .exact h
   .exact Nat.lt_trans h (ha.1 z k)
  .exact hb.1 z k
 .intro x a b ih ha hb;rw [aav];rw [List.pairwise_cons] at ha hb |-;refine⟨fun z hz=>?_,ih ha.2 hb.2⟩;rcases (sI z _ _).1 hz with k | k
  .exact ha.1 z k
  .exact hb.1 z k
theorem OV (h:Kv l) (hn:∀x∈l,x<n):l.length<=n:=by
 have key:∀(l:List Nat) (m:Nat),Kv l->(∀x∈l,m<=x/\x<n)->l.length+m<=n\/l=[]:=by
  intro l
  induction l with
  | nil=>intro m _ _;exact .inr rfl
  | cons x l ih=>
   intro m ha hb;left;unfold Kv at ha;rw [List.pairwise_cons] at ha;have hx:=hb x (ms_ ..);rcases ih (x+1) ha.2 (fun z hz=>⟨ha.1 z hz,(hb z (mc_ _ hz)).2⟩) with k | k
   .simp;omega
   .subst k;simp;omega
 rcases key l 0 h (fun x hx=>⟨zl_ _,hn x hx⟩) with k | k
 .omega
 .subst k;exact zl_ _
structure aJ where
 takes:Nat->Bool
 next:List Nat
structure aK where
 empty:Bool
 first:List Nat
 last:List Nat
def vD (bG:List Nat) (ps:List aJ) (p:Nat):List aJ:=ps.modify p (fun x=>{ x with next:=un x.next bG })
def leads (fr bG:List Nat) (ps:List aJ):List aJ:=fr.foldl (vD bG) ps
def vQ (T:Nat->Bool) (ps:List aJ):aK × List aJ:=(⟨false,[ps.length],[ps.length]⟩,ps++[⟨T,[]⟩])
def wW (a b:aK) (ps:List aJ):aK × List aJ:=(⟨a.empty && b.empty,if a.empty then un a.first b.first else a.first,if b.empty then un a.last b.last else b.last⟩,leads a.last b.first ps)
def repeated (a:aK) (sign:Int) (ps:List aJ):aK × List aJ:=(⟨a.empty || decide (sign≠43),a.first,a.last⟩,if sign=63 then ps else leads a.last a.first ps)
def either (a b:aK):aK:=⟨a.empty || b.empty,un a.first b.first,un a.last b.last⟩
def part:aM->List aJ->aK × List aJ
 | .pl T,ps=>vQ T ps
 | .cat a b,ps=>wW (part a ps).1 (part b (part a ps).2).1 (part b (part a ps).2).2
 | .alt a b,ps=>(either (part a ps).1 (part b (part a ps).2).1,(part b (part a ps).2).2)
 | .star a,ps=>repeated (part a ps).1 42 (part a ps).2
 | .plus a,ps=>repeated (part a ps).1 43 (part a ps).2
 | .opt a,ps=>repeated (part a ps).1 63 (part a ps).2
def sJ (n:Nat) (l:List Nat):Prop:=Kv l/\∀x∈l,x<n
def mI (n:Nat) (a:aK):Prop:=sJ n a.first/\sJ n a.last
def iU (ps:List aJ):Prop:=∀p∈ps,sJ ps.length p.next
theorem sJ.len (h:sJ n l):l.length<=n:=OV h.1 h.2
theorem sJ.mono {m:Nat} (h:sJ n l) (hm:n<=m):sJ m l:=⟨h.1,fun x hx=>Nat.lt_of_lt_of_le (h.2 x hx) hm⟩
theorem mI.mono {n m:Nat} {a:aK} (h:mI n a) (hm:n<=m):mI m a:=⟨h.1.mono hm,h.2.mono hm⟩
theorem sJ.un {n:Nat} {a b:List Nat} (ha:sJ n a) (hb:sJ n b):sJ n (un a b):=
 ⟨ae6 a b ha.1 hb.1,fun x hx=>((sI x a b).1 hx).elim (ha.2 x) (hb.2 x)⟩
theorem sJ.nil (n:Nat):sJ n []:=⟨List.Pairwise.nil,fun x hx=>by simp at hx⟩
theorem sJ.one {n x:Nat} (h:x<n):sJ n [x]:=⟨List.pairwise_singleton _ _,fun y hy=>by simp at hy;omega⟩
theorem qP (bG:List Nat) (ps:List aJ) (p:Nat):(vD bG ps p).length=ps.length:=by simp [vD]
theorem nA (fr bG:List Nat) (ps:List aJ):(leads fr bG ps).length=ps.length:=by
 unfold leads
 induction fr generalizing ps with
 | nil=>rfl
 | cons x fr ih=>rw [List.foldl_cons,ih,qP]
theorem AL (bG:List Nat) (ps:List aJ) (p i:Nat):(vD bG ps p)[i]?=(ps[i]?).map (fun x=>if p=i then { x with next:=un x.next bG } else x):=by
 unfold vD;rw [List.getElem?_modify];by_cases h:p=i
 .simp [h]
 .simp [h]
theorem ME {bG:List Nat} {ps:List aJ} {p:Nat} (h:iU ps) (ht:sJ ps.length bG):iU (vD bG ps p):=by
 intro q hq;obtain⟨i,hi⟩:=gf_ hq;rw [AL] at hi;rw [qP]
 cases hx:ps[i]? with
 | none=>rw [hx] at hi;cases hi
 | some x=>
  rw [hx] at hi;have hk:=h x (mg_ hx);simp only [Option.map_some,Option.some.injEq] at hi;subst hi;split
  .exact hk.un ht
  .exact hk
theorem MI {bG:List Nat} (fr:List Nat) {ps:List aJ} (h:iU ps) (ht:sJ ps.length bG):iU (leads fr bG ps):=by
 unfold leads
 induction fr generalizing ps with
 | nil=>exact h
 | cons x fr ih=>exact ih (ME h ht) (by rw [qP];exact ht)
def aM.leaves:aM->Nat
 | .pl _=>1
 | .cat a b=>a.leaves+b.leaves
 | .alt a b=>a.leaves+b.leaves
 | .star a=>a.leaves
 | .plus a=>a.leaves
 | .opt a=>a.leaves
theorem jA (a:aK) (sign:Int) (ps:List aJ):(repeated a sign ps).2.length=ps.length:=by
 unfold repeated;simp only;split
 .rfl
 .rw [nA]
theorem gL (re:aM):∀ps,(part re ps).2.length=ps.length+re.leaves:=by
 induction re with
 | pl T=>intro ps;simp [part,vQ,aM.leaves]
 | cat a b iha ihb=>intro ps;show (leads _ _ _).length=_;rw [nA,ihb,iha];simp [aM.leaves];omega
 | alt a b iha ihb=>intro ps;show (part b _).2.length=_;rw [ihb,iha];simp [aM.leaves];omega
 | star a ih=>intro ps;show (repeated _ _ _).2.length=_;rw [jA,ih];rfl
 | plus a ih=>intro ps;show (repeated _ _ _).2.length=_;rw [jA,ih];rfl
 | opt a ih=>intro ps;show (repeated _ _ _).2.length=_;rw [jA,ih];rfl
theorem AA {a b:aK} {ps:List aJ} (ha:mI ps.length a) (hb:mI ps.length b) (h:iU ps):mI ps.length (wW a b ps).1/\iU (wW a b ps).2:=by
 refine⟨⟨?_,?_⟩,MI _ h hb.1⟩
 .show sJ _ (if _ then _ else _);split
  .exact ha.1.un hb.1
  .exact ha.1
 .show sJ _ (if _ then _ else _);split
  .exact ha.2.un hb.2
  .exact hb.2
theorem sZ {a:aK} {ps:List aJ} (sign:Int) (ha:mI ps.length a) (h:iU ps):mI ps.length (repeated a sign ps).1/\iU (repeated a sign ps).2:=by
 refine⟨ha,?_⟩;show iU (if _ then _ else _);split
 .exact h
 .exact MI _ h ha.1
theorem Ar {a b:aK} (ha:mI n a) (hb:mI n b):mI n (either a b):=⟨ha.1.un hb.1,ha.2.un hb.2⟩
theorem acv {T:Nat->Bool} {ps:List aJ} (h:iU ps):mI (vQ T ps).2.length (vQ T ps).1/\iU (vQ T ps).2:=by
 refine⟨⟨.one (by simp [vQ]),.one (by simp [vQ])⟩,fun p hp=>?_⟩;rcases ma_.1 hp with k | k
 .exact (h p k).mono (by simp [vQ])
 .simp at k;subst k;exact .nil _
theorem zN (re:aM):∀ps,iU ps->mI (part re ps).2.length (part re ps).1/\iU (part re ps).2:=by
 induction re with
 | pl T=>intro ps h;exact acv h
 | cat a b iha ihb=>intro ps h;have ka:=iha ps h;have kb:=ihb _ ka.2;have:=AA (ka.1.mono (by rw [gL b];omega)) kb.1 kb.2;show mI (leads _ _ _).length _/\_;rw [nA];exact this
 | alt a b iha ihb=>intro ps h;have ka:=iha ps h;have kb:=ihb _ ka.2;exact⟨Ar (ka.1.mono (by rw [gL,gL];simp only [aM.leaves];omega)) kb.1,kb.2⟩
 | star a ih=>intro ps h;have k:=ih ps h;have:=sZ 42 k.1 k.2;exact⟨by show mI (repeated _ _ _).2.length _;rw [jA];exact this.1,this.2⟩
 | plus a ih=>intro ps h;have k:=ih ps h;have:=sZ 43 k.1 k.2;exact⟨by show mI (repeated _ _ _).2.length _;rw [jA];exact this.1,this.2⟩
 | opt a ih=>intro ps h;have k:=ih ps h;have:=sZ 63 k.1 k.2;exact⟨by show mI (repeated _ _ _).2.length _;rw [jA];exact this.1,this.2⟩
theorem Sg.lt {s:Y_} {i j:Nat} {v:Int} (h:Sg s i j v):i<j:=by cases h <;> omega
theorem ay.lt {s:Y_} {i j:Nat} {v u:Int} {r:Bool} (h:ay s i j v u r):i<j:=by
 cases h with
 | one h1=>exact h1.lt
 | range h1 _ h2=>have:=h1.lt;have:=h2.lt;omega
theorem aj.lt {s:Y_} {i k:Nat} {T T':Nat->Bool} {D D':Bool} (h:aj s i T D k T' D'):i<k:=by
 induction h with
 | done h1 _=>have:=h1.lt;omega
 | more h1 _ _ ih=>have:=h1.lt;omega
def aH.lv:aH->Nat
 | .OE a _=>a.leaves
 | .zn a _=>a.leaves
 | .yJ a _=>a.leaves
 | _=>0
theorem P.leaves {s:Y_} {t:aH} {i j:Nat} {a:aM} {D:Bool} (h:P s t i j a D):a.leaves+i<=t.lv+j/\i<=j:=by
 induction h with
 | any=>simp [aM.leaves,aH.lv];omega
 | Si=>simp [aM.leaves,aH.lv];omega
 | wP=>simp [aM.leaves,aH.lv];omega
 | cls _ _ h=>have:=h.lt;simp [aM.leaves,aH.lv];omega
 | wZ _ _ h=>have:=h.lt;simp [aM.leaves,aH.lv];omega
 | Me _ _ _ ih=>simp only [aH.lv] at ih |-;omega
 | EZ=>simp [aH.lv]
 | star _ _ ih=>simp only [aH.lv,aM.leaves] at ih |-;omega
 | plus _ _ ih=>simp only [aH.lv,aM.leaves] at ih |-;omega
 | opt _ _ ih=>simp only [aH.lv,aM.leaves] at ih |-;omega
 | pc _ _ ih1 ih2=>simp only [aH.lv] at ih1 ih2 |-;omega
 | Jf=>simp [aH.lv]
 | zn _ _ _ ih1 ih2=>simp only [aH.lv,aM.leaves] at ih1 ih2 |-;omega
 | br _ _ ih1 ih2=>simp only [aH.lv] at ih1 ih2 |-;omega
 | GJ=>simp [aH.lv]
 | yJ _ _ _ ih1 ih2=>simp only [aH.lv,aM.leaves] at ih1 ih2 |-;omega
 | pa _ _ ih1 ih2=>simp only [aH.lv] at ih1 ih2 |-;omega
def wX (x:Nat) (f:List Nat->Bool):List Nat->Bool
 | []=>false
 | y::b=>if x<y then f (y::b) else if y<x then wX x f b else true
def meet:List Nat->List Nat->Bool
 | [],_=>false
 | x::a,b=>wX x (meet a) b
theorem Nb (b:List Nat):meet [] b=false:=rfl
theorem AU (a:List Nat):meet a []=false:=by cases a <;> rfl
theorem Tf (h:x<y):meet (x::a) (y::b)=meet a (y::b):=by show wX _ _ _=_;unfold wX;rw [if_pos h]
theorem Te (h:y<x):meet (x::a) (y::b)=meet (x::a) b:=by show wX _ _ _=_;unfold wX;rw [if_neg (by omega),if_pos h];rfl
theorem Td:meet (x::a) (x::b)=true:=by show wX _ _ _=_;unfold wX;rw [if_neg (by omega),if_neg (by omega)]
theorem Zx:∀a b,Kv a->Kv b->(meet a b=true↔∃x,x∈a/\x∈b):=by
 unfold Kv;refine Rf ?_ ?_ ?_ ?_ ?_
 .intro b _ _;simp [Nb]
 .intro a _ _;simp [AU]
 .intro x y a b h ih ha hb;rw [Tf h,ih (List.pairwise_cons.1 ha).2 hb];refine⟨fun ⟨z,h1,h2⟩=>⟨z,mc_ _ h1,h2⟩,fun ⟨z,h1,h2⟩=>?_⟩;rcases mm_.1 h1 with rfl | k
  .rcases mm_.1 h2 with rfl | k
   .omega
   .have:=(List.pairwise_cons.1 hb).1 z k;omega
  .exact⟨z,k,h2⟩
 .intro x y a b h ih ha hb;rw [Te h,ih ha (List.pairwise_cons.1 hb).2];refine⟨fun ⟨z,h1,h2⟩=>⟨z,h1,mc_ _ h2⟩,fun ⟨z,h1,h2⟩=>?_⟩;rcases mm_.1 h2 with rfl | k
  .rcases mm_.1 h1 with rfl | k
   .omega
   .have:=(List.pairwise_cons.1 ha).1 z k;omega
  .exact⟨z,h1,k⟩
 .intro x a b _ _ _;rw [Td];exact⟨fun _=>⟨x,ms_ ..,ms_ ..⟩,fun _=>rfl⟩
end Pu
namespace Pu
structure aD where
 mode:Int
 emit:Int
 act:Int
 md:Int
 pt:aK
 down:Bool
def aC.lp (x:aC) (pt:aK):aD:=⟨x.mode,x.emit,x.act,x.md,pt,x.down⟩
def Bw (q:List aD × List aJ) (x:aC):List aD × List aJ:=(q.1++[x.lp (part x.re q.2).1],(part x.re q.2).2)
def cB (ls:List aC):List aD × List aJ:=ls.foldl Bw ([],[])
structure aN where
 places:List Nat
 longer:List Nat
def aZ (ps:List aJ) (p b:Nat):Bool:=match ps[p]? with
 | some x=>x.takes b
 | none=>false
def nx (ps:List aJ) (p:Nat):List Nat:=match ps[p]? with
 | some x=>x.next
 | none=>[]
def jU:List Nat:=List.replicate 256 0
def taking (ps:List aJ) (ready:List Nat) (b:Nat):List Nat:=ready.filter (fun p=>aZ ps p b)
def iI (t:List Nat):List aN->Nat
 | []=>0
 | s::r=>if s.places=t then 0 else iI t r+1
def gJ (ss:List aN) (t:List Nat):List aN:=if iI t ss<ss.length then ss else ss++[⟨t,jU⟩]
def je (ss:List aN) (fr b n:Nat):List aN:=ss.modify fr (fun s=>{ s with longer:=s.longer.set b n })
def nP (ps:List aJ) (ready:List Nat) (fr:Nat) (ss:List aN) (b:Nat):List aN:=je (gJ ss (taking ps ready b)) fr b (iI (taking ps ready b) ss)
def mD (ps:List aJ) (ready:List Nat) (fr:Nat) (ss:List aN) (k:Nat):List aN:=(List.range k).foldl (nP ps ready fr) ss
def jG (ls:List aD) (mode:Int):List Nat:=ls.foldl (fun acc x=>if x.mode=mode then un acc x.pt.first else acc) []
def ji (ps:List aJ) (set:List Nat):List Nat:=set.foldl (fun acc p=>un acc (nx ps p)) []
def qK (ss:List aN) (k:Nat):List Nat:=match ss[k]? with
 | some x=>x.places
 | none=>[]
def pI (ps:List aJ):Nat->Nat->List aN->List aN
 | 0,_,ss=>ss
 | f+1,k,ss=>if k<ss.length/\ss.length<=42 then pI ps f (k+1) (mD ps (ji ps (qK ss k)) k ss 256) else ss
def Oc:List aN:=[⟨[],jU⟩,⟨[],jU⟩]
def pJ (ls:List aD) (ps:List aJ) (mode:Int):List aN:=pI ps 43 2 (mD ps (jG ls mode) 1 Oc 256)
structure aA where
 rule:Int
 longer:List Nat
def kz (t:List Nat):List aD->Nat->Int
 | [],_=>-1
 | x::r,k=>if meet x.pt.last t then k else kz t r (k+1)
def fU (ls:List aD) (t:List Nat):Int:=kz t ls 0
def qp (ss:List aN) (k b:Nat):Nat:=match ss[k]? with
 | some x=>x.longer.getD b 0
 | none=>0
def oD (ss:List aN) (kinds:List Nat) (a b n:Nat):Bool:=(List.range n).all (fun c=>decide (kinds.getD (qp ss a c) 0=kinds.getD (qp ss b c) 0))
def iA (ss:List aN) (rs:List Int) (kinds:List Nat) (set:Nat):List Nat->Nat
 | []=>0
 | o::r=>if rs.getD set 0=rs.getD o 0/\oD ss kinds set o 256=true then 0 else iA ss rs kinds set r+1
structure gG where
 kinds:List Nat
 firsts:List Nat
def Eg (ss:List aN) (rs:List Int) (kinds:List Nat) (q:gG) (set:Nat):gG:=
 ⟨q.kinds++[iA ss rs kinds set q.firsts],if iA ss rs kinds set q.firsts=q.firsts.length then q.firsts++[set] else q.firsts⟩
def fM (ss:List aN) (rs:List Int) (kinds:List Nat) (n:Nat):gG:=(List.range n).foldl (Eg ss rs kinds) ⟨[],[]⟩
def ny (ss:List aN) (rs:List Int):Nat->gG->gG
 | 0,q=>q
 | f+1,q=>if (fM ss rs q.kinds ss.length).firsts.length<=q.firsts.length then fM ss rs q.kinds ss.length else ny ss rs f (fM ss rs q.kinds ss.length)
def nN (ss:List aN) (rs:List Int):gG:=ny ss rs (ss.length+1) ⟨List.replicate ss.length 0,[]⟩
def dE (ls:List aD) (ss:List aN):List Int:=ss.map (fun s=>fU ls s.places)
def qo (rs:List Int) (ss:List aN) (q:gG) (set:Nat):aA:=⟨rs.getD set 0,(List.range 256).map (fun b=>q.kinds.getD (qp ss set b) 0)⟩
def jI (ls:List aD) (ss:List aN):List aA:=(nN ss (dE ls ss)).firsts.map (qo (dE ls ss) ss (nN ss (dE ls ss)))
def iZ (l:List Nat) (low:Nat):Nat->Nat
 | 0=>low
 | f+1=>if low+1<256/\l.getD (low+1) 0=l.getD low 0 then iZ l (low+1) f else low
def oO (l:List Nat):Nat->Nat->List dY->List dY
 | 0,_,acc=>acc
 | f+1,low,acc=>if low<256 then oO l f (iZ l low 256+1) (if l.getD low 0=0 then acc else acc++[⟨3,low,(iZ l low 256:Nat),(l.getD low 0:Nat)⟩]) else acc
def iF (l:List Nat):List dY:=oO l 257 0 []
def dL (k:aA):List dY:=(if k.rule=-1 then [] else [⟨1,k.rule,0,0⟩])++(if (iF k.longer).length=0 then [] else [⟨2,0,0,0⟩])++iF k.longer++[⟨5,0,0,0⟩]
def Im (q:List dY × List Nat) (k:aA):List dY × List Nat:=(q.1++dL k,q.2++[q.1.length])
def kT (fQ:List Nat) (x:dY):dY:=if x.op=3 then { x with bG:=(fQ.getD x.bG.toNat 0:Nat) } else x
def nz (code:List dY) (all:List aA):List dY:=
 if all.length<=1 then code++[⟨5,0,0,0⟩]
 else code++(((all.drop 1).foldl Im (code,[0])).1.drop code.length).map (kT ((all.drop 1).foldl Im (code,[0])).2)
def tN (modes:List (List aA)):List Int × List dY:=modes.foldl (fun q m=>(q.1++[(q.2.length:Int)],nz q.2 m)) ([],[])
end Pu
open Go.RowKit
def mW (v:V_) (w:W_) (e:Ending) (w':W_):Prop:=e=.returned v/\B_ w w'
def bV (l:List Nat):List V_:=l.map (fun (n:Nat)=>I_ n)
theorem gX (l:List Nat):(bV l).length=l.length:=by simp [bV]
theorem iD {i:Nat} (h:l[i]?=some x):(bV l)[i]?=some (I_ x):=by simp [bV,h]
theorem vF (a b:List Nat):bV (a++b)=bV a++bV b:=by simp [bV]
def ed (w:W_) (v:V_) (l:List Nat):Prop:=w.ownsRow 0 3 1 v l.length (bV l)
section
variable {w w':W_} {v:V_} {l:List Nat}
theorem ed.form (h:ed w v l):∃ao cap,v=.slice ao l.length cap/\l.length<=cap/\cap<=9223372036854775807/\(ao=none->cap=0):=by
 rcases h.2 with ⟨rfl,h2⟩ | ⟨g,cap,cur,rfl,_,_,h3,h4,_⟩
 .exact⟨none,0,by rw [h2],by omega,by omega,fun _=>rfl⟩
 .exact⟨some (a_ g 0),cap,rfl,h3,h4,fun e=>by cases e⟩
theorem ed.some {ao:Option Addr} {n cap:Nat} (h:ed w (.slice ao n cap) l) (hl:0<l.length):∃g,ao=.some (a_ g 0)/\g<w.heap.size/\∀(j x:Nat),l[j]?=.some x->w.cell? (a_ g j)=.some (I_ x):=by
 obtain⟨g,cap',e,_,_⟩:=dJ h hl;cases e
 exact⟨g,rfl,(lI h).2,fun j x hx=>bT h (iD hx)⟩
theorem ed.below (h:ed w v l) (hb:B_ w w'):ed w' v l:=bU h hb di
theorem ed.nil (w:W_):ed w n_ []:=fT _ _ _ _
end
theorem aad:(Tryz.prog.info? 3).map (·.size)=some 1:=by kernel_rfl
def Lv (ao:Option Addr) (c i:Nat):Option Addr:=if c=i then ao else ao.map (fun a=>a.add i)
theorem zo (ao:Option Addr) (n c i:Nat) (h1:i<=n) (h2:n<=c) (hn:ao=none->c=0) (w:W_):(Instr.slice 31 (.slice ao n c) (some (I_ i)) none none).run Tryz.prog w=.ok (.slice (Lv ao c i) (n-i) (c-i)) w:=by
 have hs:=aad;unfold Lv
 cases hq:Tryz.prog.info? 3 with
 | none=>simp [hq] at hs
 | some k=>
  have hk:k.size=1:=by simpa [hq] using hs
  cases ao with
  | none=>
   have:=hn rfl;subst this;have e1:n=0:=by omega
   have e2:i=0:=by omega
   subst e1 e2;simp [go_sem,Tryz.underlying31,sizeOf,typeInfo,hq]
  | some a=>
   by_cases hc:c=i
   all_goals
    simp [go_sem,Tryz.underlying31,sizeOf,typeInfo,hq,hk,h1,hc]
def Src (w:W_) (s:Option Addr) (m c:Nat) (l:List Nat):Prop:=m=l.length/\((s=none/\m=0/\c=0)\/∃ad,s=some ad/\∀(j x:Nat),l[j]?=some x->w.cell? (ad.add j)=some (I_ x))
theorem ed.cut {w:W_} {ao:Option Addr} {cap:Nat} (h:ed w (.slice ao n cap) l) {i:Nat} (hi:i<=l.length):Src w (Lv ao cap i) (n-i) (cap-i) (l.drop i):=by
 obtain⟨ao',cap',e,h2,_,h4⟩:=h.form;cases e
 refine⟨by simp,?_⟩;unfold Lv
 cases ao with
 | none=>have:=h4 rfl;left;refine⟨by split <;> rfl,by omega,by omega⟩
 | some a=>
  right;split
  .refine⟨a,rfl,fun j x hx=>?_⟩;rw [List.drop_eq_nil_of_le (by omega)] at hx;cases hx
  .refine⟨a.add i,rfl,fun j x hx=>?_⟩;rw [List.getElem?_drop] at hx;have hl:=(ge_.1 hx).1;obtain⟨g,e,_,hg⟩:=h.some (by omega);cases e;rw [add_eq,add_eq,Nat.zero_add];exact hg _ _ hx
theorem fP {w:W_} {ops:Array Oper} {rest:List Oper} {o:Oper} {a:Act} {Q:Exit->Act->W_->Prop} (hgd:o.guard=none) (s x:Operand)
  (ho:o.op=.call { callee:=.builtin .append,args:=#[s,x],argTypes:=#[31,31] }) (base:Nat) (v:V_) (u l:List Nat) (hs:a.eval s=v) (fH:w.ownsRow base 3 1 v u.length (bV u))
  (so:Option Addr) (m c:Nat) (hx:a.eval x=.slice so m c) (hsrc:Src w so m c l) (kU:u.length+l.length<=1000000000000) (nX:base<=w.heap.size)
  (h:∀v' w',w'.ownsRow base 3 1 v' (u++l).length (bV (u++l))->w.grownBy w' v.ownBlock->wpList Tryz.prog ops Q rest (a.put o.dst v') w'):wpList Tryz.prog ops Q (o::rest) a w:=by
 obtain⟨aS,hi,hz0,hz1,hz2⟩:=ip_ Tryz.inff3;obtain⟨rfl,hsrc⟩:=hsrc;rcases hsrc with ⟨rfl,hm,rfl⟩ | ⟨ad,rfl,hc⟩
 .have e:l=[]:=List.eq_nil_of_length_eq_zero hm;subst e;refine wpList_append_own_none hgd s x 31 ho base 3 aS 1 Tryz.underlying31 hi v u.length (bV u) hs fH hx (h v w ?_ (World.grownBy.refl _ _));simpa using fH
 .refine wo_ _ hgd s x 31 ho base 3 aS (I_ 0) 1 8 Tryz.underlying31 hi hz0 hz1 hz2 rfl (by decide) v u.length (bV u) hs fH ad l.length c (bV l) hx (by simp [gX]) ?_ ?_ (by unfold maxLen;omega) (by omega) nX ?_
  .intro j y hy
   cases hl:l[j]? with
   | none=>simp [bV,hl] at hy
   | some z=>rw [iD hl] at hy;cases hy;exact hc j z hl
  .intro y hy;simp only [bV,List.mem_map] at hy;obtain⟨z,_,rfl⟩:=hy;rfl
  .intro v' w' h1 h2 _;refine h v' w' ?_ h2;rw [la_,vF];exact h1
theorem pq (va vb:V_) (a b:List Nat) (w:W_) (ha:ed w va a) (hb:ed w vb b) (la:a.length<=1000000) (lb:b.length<=1000000) :
  C_ 116 #[va,vb] w (I6 3 1 (Pu.un a b).length (bV (Pu.un a b)) w):=by
 obtain⟨aS,hi,hz0,hz1,hz2⟩:=ip_ Tryz.inff3;obtain⟨aa,ca,rfl,a1,a2,a3⟩:=ha.form;obtain⟨ab,cb,rfl,b1,b2,b3⟩:=hb.form;have HA:=bK ha;have HB:=bK hb;clear ha hb;go_enter Tryz.func116,Tryz.ntmps116
 go_wp2_with (at_make;refine wpList_make_own _ rfl _ _ 31 rfl w.heap.size 3 aS (I_ 0) 1 Tryz.underlying31 hi hz0 hz1 _ _ _ (a.length+b.length) rfl rfl (by omega) (by rw [hz2];omega) (by unfold maxLen;omega) di ?_;intro w1 nZ kN)
 have iE:B_ w w1:=(Br_ _ _).grown kN di (fun k h=>by cases h);have HO:=bK nZ;clear nZ kN
 go_loopg [5,6,7] (a.length+b.length) (fun gk fv iv jv wr=>∃(i j:Nat) (u:List Nat) (f:V_),fv=f/\iv=I_ i/\jv=I_ j/\i<=a.length/\j<=b.length/\gk=a.length+b.length-i-j/\u.length<=i+j/\Pu.un a b=u++Pu.un (a.drop i) (b.drop j)/\B_ w wr/\wr.ownsRow w.heap.size 3 1 f u.length (bV u))
 case atStart=>exact⟨0,0,[],_,rfl,rfl,rfl,zl_ _,zl_ _,rfl,zl_ _,rfl,iE,HO.o⟩
 case round=>
  clear HO iE;obtain⟨i,j,u,f,rfl,rfl,rfl,hia,hjb,rfl,hul,hun,hbel,fH⟩:=hrel;have HO:=bK fH;have Ov:=bK hbel;have Xo:=bK hun;clear fH hun;by_cases h1:i<a.length
  .by_cases h2:j<b.length
   .have d1:=nV i a.length;have d2:=nV j b.length;obtain⟨x,hx⟩:=qG a i h1;obtain⟨y,hy⟩:=qG b j h2;have e1:a.drop i=x::a.drop (i+1):=by rw [List.drop_eq_getElem?_toList_append,hx];rfl
    have e2:b.drop j=y::b.drop (j+1):=by rw [List.drop_eq_getElem?_toList_append,hy];rfl
    obtain⟨ga,ea,gl,gc⟩:=HA.o.some (by omega);obtain⟨gb,eb,hl,hc⟩:=HB.o.some (by omega);subst ea eb;have xa:wr.cell? (a_ ga i)=some (I_ x):=(hbel.cell (p:=(a_ ga i)) gl).trans (gc i x hx);have yb:wr.cell? (a_ gb j)=some (I_ y):=(hbel.cell (p:=(a_ gb j)) hl).trans (hc j y hy);have wi:=kg i;have wj:=kg j;have sz:=hbel.size;clear gc hc hbel;rcases Nat.lt_trichotomy x y with hxy | hxy | hxy
    .have c1:=nV x y
     go_wp2_with fail
     go_region
     go_wp2_with (at_builtin;go_must (refine fP rfl (.tmp 45) (.tmp 50) rfl w.heap.size _ u [x] rfl (oa_ (World.ownsRow.drew HO.o) _) (some (a_ wr.heap.size 0)) 1 1 rfl ⟨rfl,.inr ⟨_,rfl,fun j0 x0 h0=>jw (xs:=[I_ x]) rfl j0 _ (by cases j0 with | zero=>simp at h0;subst h0;rfl | succ j0=>simp at h0)⟩⟩ (by simp;omega) (by simp;omega) ?_);intro v2 w2 dw bS)
     have hb2:B_ w w2:=((Ov.o.drew).alloc sz _).grown bS (by simp;omega) (fun k' h=>(ol_ HO.o k' h).1);have hl2:(u++[x]).length=u.length+1:=by simp
     clear bS;go_roundg (a.length+b.length-(i+1)-j)
     case measure=>omega
     case rel=>exact⟨i+1,j,u++[x],_,rfl,by go_num,rfl,by omega,by omega,by omega,by omega,by rw [Xo.o,e1,e2,aax hxy];simp,hb2,dw⟩
    focus
     subst hxy;have c1:=mM x x
     go_wp2_with fail
     go_region
     go_wp2_with fail
     go_region
     go_wp2_with (at_builtin;go_must (refine fP rfl (.tmp 24) (.tmp 29) rfl w.heap.size _ u [x] rfl (oa_ (World.ownsRow.drew (World.ownsRow.drew HO.o)) _) (some (a_ wr.heap.size 0)) 1 1 rfl ⟨rfl,.inr ⟨_,rfl,fun j0 x0 h0=>jw (xs:=[I_ x]) rfl j0 _ (by cases j0 with | zero=>simp at h0;subst h0;rfl | succ j0=>simp at h0)⟩⟩ (by simp;omega) (by simp;omega) ?_);intro v2 w2 dw bS)
    rotate_left
    focus
     have c1:=mM x y;have c2:=nV y x
     go_wp2_with fail
     go_region
     go_wp2_with fail
     go_region
     go_wp2_with (at_builtin;go_must (refine fP rfl (.tmp 64) (.tmp 69) rfl w.heap.size _ u [y] rfl (oa_ (World.ownsRow.drew (World.ownsRow.drew HO.o)) _) (some (a_ wr.heap.size 0)) 1 1 rfl ⟨rfl,.inr ⟨_,rfl,fun j0 x0 h0=>jw (xs:=[I_ y]) rfl j0 _ (by cases j0 with | zero=>simp at h0;subst h0;rfl | succ j0=>simp at h0)⟩⟩ (by simp;omega) (by simp;omega) ?_);intro v2 w2 dw bS)
    rotate_left
    all_goals
     have hb2:B_ w w2:=((Ov.o.drew.drew).alloc sz _).grown bS (by simp;omega) (fun k' h=>(ol_ HO.o k' h).1)
    .have hl2:(u++[x]).length=u.length+1:=by simp
     clear bS;go_roundg (a.length+b.length-(i+1)-(j+1))
     case measure=>omega
     case rel=>exact⟨i+1,j+1,u++[x],_,rfl,by go_num,by go_num,by omega,by omega,by omega,by omega,by rw [Xo.o,e1,e2,aav];simp,hb2,dw⟩
    .have hl2:(u++[y]).length=u.length+1:=by simp
     clear bS;go_roundg (a.length+b.length-i-(j+1))
     case measure=>omega
     case rel=>exact⟨i,j+1,u++[y],_,rfl,rfl,by go_num,by omega,by omega,by omega,by omega,by rw [Xo.o,e1,e2,aaw hxy];simp,hb2,dw⟩
   .have d1:=nV i a.length;have d2:=mM j b.length;have sa:∀w,(Instr.slice 31 (.slice aa a.length ca) (some (I_ i)) none none).run Tryz.prog w=.ok (.slice (Lv aa ca i) (a.length-i) (ca-i)) w:=fun w=>zo aa a.length ca i hia a1 a3 w
    have sb:∀w,(Instr.slice 31 (.slice ab b.length cb) (some (I_ j)) none none).run Tryz.prog w=.ok (.slice (Lv ab cb j) (b.length-j) (cb-j)) w:=fun w=>zo ab b.length cb j hjb b1 b3 w
    have sz:=hbel.size;have ql:u.length+(a.drop i).length<=10000000:=by simp;omega
    have ql2:(u++a.drop i).length+(b.drop j).length<=10000000:=by simp;omega
    clear hbel;go_upto_region 14 with (at_builtin;refine fP rfl (.tmp 73) (.tmp 76) rfl w.heap.size _ u (a.drop i) rfl HO.o _ _ _ rfl ((HA.o.below Ov.o).cut hia) (by omega) sz ?_;intro v2 w2 dw bS;clear sa);have hb2:B_ w w2:=Ov.o.grown bS sz (fun k' h=>(ol_ HO.o k' h).1);have sz2:=hb2.size;clear bS
    go_wp2_with (at_builtin;go_must (refine fP rfl (.tmp 78) (.tmp 81) rfl w.heap.size _ (u++a.drop i) (b.drop j) rfl dw _ _ _ rfl ((HB.o.below hb2).cut hjb) (by omega) sz2 ?_);intro v3 w3 og wU)
    have hb3:B_ w w3:=hb2.grown wU sz2 (fun k' h=>(ol_ dw k' h).1);clear wU;go_ret;refine⟨_,rfl,hb3,?_⟩;have he:Pu.un a b=u++a.drop i++b.drop j:=by rw [Xo.o,show b.drop j=[] from List.drop_eq_nil_of_le (by omega),Kb];simp
    rw [he];exact og
  .have d1:=mM i a.length;have sa:∀w,(Instr.slice 31 (.slice aa a.length ca) (some (I_ i)) none none).run Tryz.prog w=.ok (.slice (Lv aa ca i) (a.length-i) (ca-i)) w:=fun w=>zo aa a.length ca i hia a1 a3 w
   have sb:∀w,(Instr.slice 31 (.slice ab b.length cb) (some (I_ j)) none none).run Tryz.prog w=.ok (.slice (Lv ab cb j) (b.length-j) (cb-j)) w:=fun w=>zo ab b.length cb j hjb b1 b3 w
   have sz:=hbel.size;have ql:u.length+(a.drop i).length<=10000000:=by simp;omega
   have ql2:(u++a.drop i).length+(b.drop j).length<=10000000:=by simp;omega
   clear hbel;go_upto_region 14 with (at_builtin;refine fP rfl (.tmp 73) (.tmp 76) rfl w.heap.size _ u (a.drop i) rfl HO.o _ _ _ rfl ((HA.o.below Ov.o).cut hia) (by omega) sz ?_;intro v2 w2 dw bS;clear sa);have hb2:B_ w w2:=Ov.o.grown bS sz (fun k' h=>(ol_ HO.o k' h).1);have sz2:=hb2.size;clear bS
   go_wp2_with (at_builtin;go_must (refine fP rfl (.tmp 78) (.tmp 81) rfl w.heap.size _ (u++a.drop i) (b.drop j) rfl dw _ _ _ rfl ((HB.o.below hb2).cut hjb) (by omega) sz2 ?_);intro v3 w3 og wU)
   have hb3:B_ w w3:=hb2.grown wU sz2 (fun k' h=>(ol_ dw k' h).1);clear wU;go_ret;refine⟨_,rfl,hb3,?_⟩;have he:Pu.un a b=u++a.drop i++b.drop j:=by rw [Xo.o,show a.drop i=[] from List.drop_eq_nil_of_le (by omega),aay];simp
   rw [he];exact og
theorem Zw (va vb:V_) (a b:List Nat) (w:W_) (ha:ed w va a) (hb:ed w vb b) (la:a.length<=1000000) (lb:b.length<=1000000) :
  C_ 87 #[va,vb] w (mW (.bool (Pu.meet a b)) w):=by
 obtain⟨aa,ca,rfl,a1,a2,a3⟩:=ha.form;obtain⟨ab,cb,rfl,b1,b2,b3⟩:=hb.form;have HA:=bK ha;have HB:=bK hb;clear ha hb;go_enter Tryz.func87,Tryz.ntmps87
 go_wp2_with fail
 go_loopg [5,6] (a.length+b.length) (fun gk iv jv wr=>∃(i j:Nat),iv=I_ i/\jv=I_ j/\i<=a.length/\j<=b.length/\gk=a.length+b.length-i-j/\Pu.meet a b=Pu.meet (a.drop i) (b.drop j)/\B_ w wr)
 case atStart=>exact⟨0,0,rfl,rfl,zl_ _,zl_ _,rfl,rfl,Br_ _ _⟩
 case round=>
  obtain⟨i,j,rfl,rfl,hia,hjb,rfl,hun,hbel⟩:=hrel;have Ov:=bK hbel;have Xo:=bK hun;clear hun;by_cases h1:i<a.length
  .have d1:=nV i a.length;by_cases h2:j<b.length
   .have d2:=nV j b.length;obtain⟨x,hx⟩:=qG a i h1;obtain⟨y,hy⟩:=qG b j h2;have e1:a.drop i=x::a.drop (i+1):=by rw [List.drop_eq_getElem?_toList_append,hx];rfl
    have e2:b.drop j=y::b.drop (j+1):=by rw [List.drop_eq_getElem?_toList_append,hy];rfl
    obtain⟨ga,ea,gl,gc⟩:=HA.o.some (by omega);obtain⟨gb,eb,hl,hc⟩:=HB.o.some (by omega);subst ea eb;have xa:wr.cell? (a_ ga i)=some (I_ x):=(hbel.cell (p:=(a_ ga i)) gl).trans (gc i x hx);have yb:wr.cell? (a_ gb j)=some (I_ y):=(hbel.cell (p:=(a_ gb j)) hl).trans (hc j y hy);have wi:=kg i;have wj:=kg j;clear gc hc hbel;rcases Nat.lt_trichotomy x y with hxy | hxy | hxy
    .have c1:=nV x y
     go_wp2_with fail
     go_region
     go_wp2;go_roundg (a.length+b.length-(i+1)-j)
     case measure=>omega
     case rel=>exact⟨i+1,j,by go_num,rfl,by omega,by omega,by omega,by rw [Xo.o,e1,e2,Tf hxy],Ov.o.drew⟩
    .subst hxy;have c1:=mM x x
     go_wp2_with fail
     go_region
     go_wp2_with fail
     go_region
     go_wp2;go_ret;have he:Pu.meet a b=true:=by rw [Xo.o,e1,e2,Td]
     rw [he];exact⟨rfl,Ov.o.drew.drew⟩
    .have c1:=mM x y;have c2:=nV y x
     go_wp2_with fail
     go_region
     go_wp2_with fail
     go_region
     go_wp2;go_roundg (a.length+b.length-i-(j+1))
     case measure=>omega
     case rel=>exact⟨i,j+1,rfl,by go_num,by omega,by omega,by omega,by rw [Xo.o,e1,e2,Te hxy],Ov.o.drew.drew⟩
   .have d2:=mM j b.length;clear hbel;go_wp2;go_ret;have he:Pu.meet a b=false:=by rw [Xo.o,show b.drop j=[] from List.drop_eq_nil_of_le (by omega),AU]
    rw [he];exact⟨rfl,Ov.o⟩
  .have d1:=mM i a.length;clear hbel;go_wp2;go_ret;have he:Pu.meet a b=false:=by rw [Xo.o,show a.drop i=[] from List.drop_eq_nil_of_le (by omega),Nb]
   rw [he];exact⟨rfl,Ov.o⟩
theorem Z7 (va vb:V_) (a b:List Nat) (w:W_) (ha:ed w va a) (hb:ed w vb b) (la:a.length<=1000000) (lb:b.length<=1000000) :
  C_ 143 #[va,vb] w (mW (.bool (decide (a=b))) w):=by
 obtain⟨aa,ca,rfl,a1,a2,a3⟩:=ha.form;obtain⟨ab,cb,rfl,b1,b2,b3⟩:=hb.form;have HA:=bK ha;have HB:=bK hb;clear ha hb;go_enter Tryz.func143,Tryz.ntmps143;by_cases hl:a.length=b.length
 .have d0:((a.length:Int) == (b.length:Int))=true:=by simp;omega
  go_wp2_with fail
  go_loopg [14] a.length (fun gk iv wr=>∃(i:Nat),iv=I_ i/\i<=a.length/\gk=a.length-i/\a.take i=b.take i/\B_ w wr)
  case atStart=>exact⟨0,rfl,zl_ _,rfl,rfl,Br_ _ _⟩
  case round=>
   obtain⟨i,rfl,hia,rfl,htk,hbel⟩:=hrel;have Ov:=bK hbel;have HT:=bK htk;clear htk;by_cases h1:i<a.length
   .have d1:=nV i a.length;obtain⟨x,hx⟩:=qG a i h1;obtain⟨y,hy⟩:=qG b i;obtain⟨ga,ea,gl,gc⟩:=HA.o.some (by omega);obtain⟨gb,eb,hl',hc⟩:=HB.o.some (by omega);subst ea eb;have xa:wr.cell? (a_ ga i)=some (I_ x):=(hbel.cell (p:=(a_ ga i)) gl).trans (gc i x hx);have yb:wr.cell? (a_ gb i)=some (I_ y):=(hbel.cell (p:=(a_ gb i)) hl').trans (hc i y hy);have wi:=kg i;have lb2:(i:Int)<b.length:=by omega
    clear gc hc hbel;by_cases hxy:x=y
    .have c1:((x:Int) == (y:Int))=true:=by simp;omega
     go_wp2;go_roundg (a.length-(i+1))
     case measure=>omega
     case rel=>exact⟨i+1,by go_num,by omega,rfl,by rw [List.take_add_one,List.take_add_one,HT.o,hx,hy,hxy],Ov.o⟩
    .have c1:((x:Int) == (y:Int))=false:=by simp;omega
     go_wp2;go_ret;have he:decide (a=b)=false:=dn_ (fun e=>by subst e;rw [hx] at hy;cases hy;exact hxy rfl);rw [he];exact⟨rfl,Ov.o⟩
   .have d1:=mM i a.length;clear hbel;go_wp2;go_ret
    have he:decide (a=b)=true:=dt_ (by
     have:=HT.o
     rwa [List.take_of_length_le (by omega),List.take_of_length_le (by omega)] at this)
    rw [he];exact⟨rfl,Ov.o⟩
 .have d0:((a.length:Int) == (b.length:Int))=false:=by simp;omega
  go_wp2;go_ret;have he:decide (a=b)=false:=dn_ (fun e=>hl (by rw [e]));rw [he];exact⟨rfl,Br_ _ _⟩
def cK (T:Nat->Bool):List V_:=(List.range 256).map (fun n=>.bool (T n))
theorem bZ (T:Nat->Bool):(cK T).length=256:=by simp [cK]
theorem gD (T:Nat->Bool) (h:n<256):(cK T)[n]?=some (.bool (T n)):=by rw [cK,gm_,List.getElem?_range h];rfl
theorem Ht (T:Nat->Bool) {k:Nat} (b:Bool):(cK T).set k (.bool b)=cK (fun n=>if n=k then b else T n):=by
 apply List.ext_getElem?;intro i;rw [List.getElem?_set];by_cases hi:i<256
 .rw [gD _ hi,gD _ hi,bZ];by_cases hk:k=i
  .subst hk;simp [hi]
  .have:¬i=k:=fun e=>hk e.symm
   simp [hk,this]
 .rw [gn_ (by rw [bZ];omega),gn_ (by rw [bZ];omega),bZ];split
  .rw [if_neg (by omega)]
  .rfl
theorem qj (T:Nat->Bool):∀v∈cK T,v.oneCell'=true:=by intro v hv;simp only [cK,List.mem_map] at hv;obtain⟨n,_,rfl⟩:=hv;rfl
abbrev DK (T:Nat->Bool):V_:=.agg (cK T).toArray
theorem Hu:(Tryz.prog.info? 233).map (fun i=>(i.zero,i.size))=some (some (.agg (List.replicate 256 (Value.bool false)).toArray),256):=by kernel_rfl
theorem uq:(List.replicate 256 (Value.bool false))=cK Pu.dP:=by
 apply List.ext_getElem?;intro i;by_cases hi:i<256
 .rw [gD _ hi,List.getElem?_replicate_of_lt hi];rfl
 .rw [gn_ (by rw [lp_];omega),gn_ (by rw [bZ];omega)]
theorem uP (w:W_):(zeroValue 233).run Tryz.prog w=.ok (DK Pu.dP) w:=by have:=(zero_of_info Hu).1 w;rw [uq] at this;exact this
theorem jZ:(Tryz.prog.info? 233).map (·.size)=some 256:=(zero_of_info Hu).2
theorem Je:∀(vs pre post:List V_) (W:W_),dh W g t (pre++post)->post.length=vs.length->dh (W.setCells g pre.length vs) g t (pre++vs):=by
 intro vs
 induction vs with
 | nil=>intro pre post W h hl;have:post=[]:=List.eq_nil_of_length_eq_zero hl;subst this;exact h
 | cons v vs ih=>
  intro pre post W h hl
  cases post with
  | nil=>simp at hl
  | cons p post=>
   have h1:=cO h pre.length v;have e:(pre++p::post).set pre.length v=(pre++[v])++post:=by rw [List.set_append_right _ _ di,Nat.sub_self];simp
   rw [e] at h1;have:=ih (pre++[v]) post _ h1 (by simpa using hl);show dh ((W.setCell (a_ g (pre.length)) v).setCells g (pre.length+1) vs) g t _;rw [la_,List.length_singleton] at this;simpa using this
theorem oK {W:W_} (vs:List V_) (h:dh W g t xs) (hl:xs.length=vs.length):dh (W.setCells g 0 vs) g t vs:=Je vs [] xs W h hl
theorem oJ {g':Nat}:∀(vs:List V_) (o:Nat) (W:W_),dh W g t xs->g≠g'->dh (W.setCells g' o vs) g t xs:=by
 intro vs
 induction vs with
 | nil=>intro o W h _;exact h
 | cons v vs ih=>intro o W h hne;exact ih (o+1) _ (dB h hne o v) hne
theorem ky {B:Nat} {a:W_} (hg:B<=g):∀(vs:List V_) (o:Nat) (W:W_),Below B a W->Below B a (W.setCells g o vs):=by
 intro vs
 induction vs with
 | nil=>intro o W h;exact h
 | cons v vs ih=>intro o W h;exact ih (o+1) _ (h.setCell hg v)
theorem dZ {W:W_} (h:dh W g t xs):W.rangeAt g 0 xs:=fun j v hv=>by rw [Nat.zero_add];exact bM h hv
theorem mH {W:W_} (h:dh W g t xs):W.there g 0 xs.length:=fun j hj=>by rw [Nat.zero_add];refine⟨?_,bL h j⟩;rw [bM h (gg_ hj)];rfl
section
variable {W:W_} {g:Nat} {T:Nat->Bool}
theorem uO (h:dh W g 233 (cK T)):(loadVar 233 (a_ g 0)).run Tryz.prog W=.ok (.agg (cK T).toArray) W:=
 run_loadVar_mid W g 0 233 (cK T) _ (dZ h) Tryz.underlying233 rfl (by rw [bZ];exact jZ)
theorem sQ (h:dh W g 233 (cK T)) (T':Nat->Bool):dh (W.setCells g 0 (cK T')) g 233 (cK T'):=oK (cK T') h (by rw [bZ,bZ])
end
def kQ (T U:Nat->Bool) (k:Nat):Nat->Bool:=fun n=>if n<k then U n else T n
theorem uH (T U:Nat->Bool):kQ T U 0=T:=by funext n;simp [kQ]
theorem wY (T U:Nat->Bool):cK (kQ T U 256)=cK U:=by
 apply List.ext_getElem?;intro i;by_cases hi:i<256
 .rw [gD _ hi,gD _ hi];simp [kQ,hi]
 .rw [gn_ (by rw [bZ];omega),gn_ (by rw [bZ];omega)]
theorem Ir (T U:Nat->Bool) (k:Nat):(cK (kQ T U k)).set k (.bool (U k))=cK (kQ T U (k+1)):=by
 rw [Ht];congr 1;funext n;unfold kQ;by_cases h:n=k
 .subst h;simp
 .by_cases h2:n<k
  .simp [h,h2,Nat.lt_succ_of_lt h2]
  .have:¬n<k+1:=by omega
   simp [h,h2,this]
theorem Oi (w:W_) (T U:Nat->Bool):dh ((w.alloc (c_ (cK T).toArray 233)).alloc (c_ (cK U).toArray 233)) w.heap.size 233 (cK T)/\dh ((w.alloc (c_ (cK T).toArray 233)).alloc (c_ (cK U).toArray 233)) (w.heap.size+1) 233 (cK U):=by have h1:=hn_ w (c_ (cK T).toArray 233);have h2:=hn_ (w.alloc (c_ (cK T).toArray 233)) (c_ (cK U).toArray 233);rw [wa_] at h2;exact⟨dx h1 _,h2⟩
theorem Oo (T:Nat->Bool) (lo hi:Int) (w:W_) :
  C_ 174 #[DK T,I_ lo,I_ hi] w (mW (DK (Pu.wid T lo hi)) w):=by
 have zv:=uP;have TB:=bK (Oi w T Pu.dP);have B0:Hid (B_ w ((w.alloc (c_ (cK T).toArray 233)).alloc (c_ (cK Pu.dP).toArray 233))):=((Br_ w.heap.size w).alloc di _).alloc (by simp) _;go_enter Tryz.func174,Tryz.ntmps174
 go_wp2_with fail
 clear zv
 go_loopg [8] 256 (fun gk kv wx=>∃k:Nat,k<=256/\kv=I_ k/\gk=256-k/\B_ w wx/\dh wx w.heap.size 233 (cK (kQ T (Pu.wid T lo hi) k))/\dh wx (w.heap.size+1) 233 (cK Pu.dP))
 case atStart=>exact⟨0,zl_ _,rfl,rfl,B0.o,by rw [uH];exact TB.o.1,TB.o.2⟩
 case round=>
  clear B0 TB;obtain⟨k,hk,rfl,rfl,hb,h1,h2⟩:=hrel;have HB:=bK hb;have H1:=bK h1;have H2:=bK h2;clear hb h1 h2;by_cases hlt:k<256
  .have d1:decide ((k:Int)<256)=true:=dt_ (by omega);have Mr:=jg k;have Ij:(k:Int)<256:=by omega
   have wi:=kg k;have c1:wr.cell? (a_ w.heap.size k)=some (.bool (T k)):=by have:=bM H1.o (gD _ hlt);simpa [kQ] using this
   have f1:=bL H1.o k;have N1:Hid (dh (wr.setCell (a_ w.heap.size k) (.bool (Pu.wid T lo hi k))) w.heap.size 233 (cK (kQ T (Pu.wid T lo hi) (k+1)))):=by have:=cO H1.o k (.bool (Pu.wid T lo hi k));rw [Ir] at this;exact this
   have N2:Hid (dh (wr.setCell (a_ w.heap.size k) (.bool (Pu.wid T lo hi k))) (w.heap.size+1) 233 (cK Pu.dP)):=dB H2.o (by omega) k _;have NB:Hid (B_ w (wr.setCell (a_ w.heap.size k) (.bool (Pu.wid T lo hi k)))):=HB.o.setCell di _;have hw:Pu.wid T lo hi k=(T k || (decide (lo<=(k:Int)) && decide ((k:Int)<=hi))):=rfl;generalize Pu.wid T lo hi k=u at *;generalize T k=t at *;have q:∀b1 b2:Bool,decide (lo<=(k:Int))=b1->decide ((k:Int)<=hi)=b2->u=(t || (b1 && b2)):=fun b1 b2 e1 e2=>by rw [hw,e1,e2]
   clear hw
   cases t with
   | true=>
    have e:=q _ _ rfl rfl;simp only [Bool.true_or] at e;subst e;clear q;go_wp2;go_roundg (256-(k+1))
    case measure=>omega
    case rel=>exact⟨k+1,by omega,by go_num,rfl,NB.o,N1.o,N2.o⟩
   | false=>
    cases e1:decide (lo<=(k:Int)) with
    | false=>
     have e:=q _ _ e1 rfl;simp only [Bool.false_and,Bool.false_or] at e;subst e;clear q;go_wp2;go_roundg (256-(k+1))
     case measure=>omega
     case rel=>exact⟨k+1,by omega,by go_num,rfl,NB.o,N1.o,N2.o⟩
    | true=>
     cases e2:decide ((k:Int)<=hi) with
     | false=>?_
     | true=>?_
     focus
      have e:=q _ _ e1 e2;simp only [Bool.and_false,Bool.false_or] at e
     rotate_left
     focus
      have e:=q _ _ e1 e2;simp only [Bool.and_true,Bool.false_or] at e
     all_goals
      subst e;clear q;go_wp2;go_roundg (256-(k+1))
      case measure=>omega
      case rel=>exact⟨k+1,by omega,by go_num,rfl,NB.o,N1.o,N2.o⟩
  .have d1:decide ((k:Int)<256)=false:=dn_ (by omega);have e:k=256:=by omega
   subst e
   go_wp2_with (first | (refine wl_ rfl 233 (.tmp 3) rfl w.heap.size 0 rfl (cK (kQ T (Pu.wid T lo hi) 256)) _ (dZ H1.o) Tryz.underlying233 rfl (by rw [bZ];exact jZ) ?_) | (refine ws_ rfl 233 (.tmp 6) (.tmp 27) rfl (w.heap.size+1) 0 (cK (kQ T (Pu.wid T lo hi) 256)).toArray rfl rfl (by have:=mH H2.o;rw [bZ] at this;simpa [bZ] using this) (by simp only [List.size_toArray,bZ];exact jZ) (oc_ (qj _)) ?_))
   have N2:=sQ H2.o (kQ T (Pu.wid T lo hi) 256);have NB:=ky (a:=w) (B:=w.heap.size) (g:=w.heap.size+1) (by omega) (cK (kQ T (Pu.wid T lo hi) 256)) 0 wr HB.o;have ld:=uO N2;refine br_ (v:=.agg (cK (kQ T (Pu.wid T lo hi) 256)).toArray) ?_ rfl ⟨by rw [wY],NB⟩;simp [results,Tryz.results174,Act.put,asAddr,ld]
theorem Dy (T:Nat->Bool) (w:W_) :
  C_ 170 #[DK T] w (mW (DK (mF T)) w):=by
 have zv:=uP;have TB:=bK (Oi w T Pu.dP);have B0:Hid (B_ w ((w.alloc (c_ (cK T).toArray 233)).alloc (c_ (cK Pu.dP).toArray 233))):=((Br_ w.heap.size w).alloc di _).alloc (by simp) _;go_enter Tryz.func170,Tryz.ntmps170
 go_wp2_with fail
 clear zv
 go_loopg [4] 256 (fun gk kv wx=>∃k:Nat,k<=256/\kv=I_ k/\gk=256-k/\B_ w wx/\dh wx w.heap.size 233 (cK (kQ T (mF T) k))/\dh wx (w.heap.size+1) 233 (cK Pu.dP))
 case atStart=>exact⟨0,zl_ _,rfl,rfl,B0.o,by rw [uH];exact TB.o.1,TB.o.2⟩
 case round=>
  clear B0 TB;obtain⟨k,hk,rfl,rfl,hb,h1,h2⟩:=hrel;have HB:=bK hb;have H1:=bK h1;have H2:=bK h2;clear hb h1 h2;by_cases hlt:k<256
  .have d1:decide ((k:Int)<256)=true:=dt_ (by omega);have Mr:=jg k;have Ij:(k:Int)<256:=by omega
   have wi:=kg k;have c1:wr.cell? (a_ w.heap.size k)=some (.bool (T k)):=by have:=bM H1.o (gD _ hlt);simpa [kQ] using this
   have f1:=bL H1.o k;have N1:Hid (dh (wr.setCell (a_ w.heap.size k) (.bool (!T k))) w.heap.size 233 (cK (kQ T (mF T) (k+1)))):=by have:=cO H1.o k (.bool (mF T k));rw [Ir] at this;exact this
   have N2:Hid (dh (wr.setCell (a_ w.heap.size k) (.bool (!T k))) (w.heap.size+1) 233 (cK Pu.dP)):=dB H2.o (by omega) k _;have NB:Hid (B_ w (wr.setCell (a_ w.heap.size k) (.bool (!T k)))):=HB.o.setCell di _;go_wp2;go_roundg (256-(k+1))
   case measure=>omega
   case rel=>exact⟨k+1,by omega,by go_num,rfl,NB.o,N1.o,N2.o⟩
  .have d1:decide ((k:Int)<256)=false:=dn_ (by omega);have e:k=256:=by omega
   subst e
   go_wp2_with (first | (refine wl_ rfl 233 (.tmp 1) rfl w.heap.size 0 rfl (cK (kQ T (mF T) 256)) _ (dZ H1.o) Tryz.underlying233 rfl (by rw [bZ];exact jZ) ?_) | (refine ws_ rfl 233 (.tmp 2) (.tmp 14) rfl (w.heap.size+1) 0 (cK (kQ T (mF T) 256)).toArray rfl rfl (by have:=mH H2.o;rw [bZ] at this;simpa [bZ] using this) (by simp only [List.size_toArray,bZ];exact jZ) (oc_ (qj _)) ?_))
   have N2:=sQ H2.o (kQ T (mF T) 256);have NB:=ky (a:=w) (B:=w.heap.size) (g:=w.heap.size+1) (by omega) (cK (kQ T (mF T) 256)) 0 wr HB.o;have ld:=uO N2;refine br_ (v:=.agg (cK (kQ T (mF T) 256)).toArray) ?_ rfl ⟨by rw [wY],NB⟩;simp [results,Tryz.results170,Act.put,asAddr,ld]
theorem aaE (b:Int):Pu.wid Pu.dP b b=jf b:=by
 funext n;unfold Pu.wid Pu.dP jf;by_cases h:(n:Int)=b
 .simp [h]
 .have:¬(b<=(n:Int)/\(n:Int)<=b):=by omega
  simp only [Bool.false_or];rw [Bool.eq_iff_iff];simp only [Bool.and_eq_true,decide_eq_true_eq];exact⟨fun k=>absurd k this,fun k=>absurd k h⟩
theorem ET (b:Int) (w:W_) :
  C_ 171 #[I_ b] w (mW (DK (jf b)) w):=by
 have zv:=uP;have KB:Hid (dh (w.alloc (c_ (cK Pu.dP).toArray 233)) w.heap.size 233 (cK Pu.dP)):=hn_ w _;have B0:Hid (B_ w (w.alloc (c_ (cK Pu.dP).toArray 233))):=(Br_ w.heap.size w).alloc di _;go_enter Tryz.func171,Tryz.ntmps171
 go_wp2_with fail
 clear zv;refine (Oo Pu.dP b b _).mono ?_
 rintro e w1 ⟨rfl,hb1⟩;rw [aaE];have K1:=bK (bN KB.o hb1 (bO KB.o));have B1:=bK (iT B0.o hb1);clear hb1 KB B0
 go_wp2_with (refine ws_ rfl 233 (.tmp 2) (.tmp 6) rfl w.heap.size 0 (cK (jf b)).toArray rfl rfl (by have:=mH K1.o;rw [bZ] at this;simpa [bZ] using this) (by simp only [List.size_toArray,bZ];exact jZ) (oc_ (qj _)) ?_)
 have N2:=sQ K1.o (jf b);have NB:=ky (a:=w) (B:=w.heap.size) (g:=w.heap.size) di (cK (jf b)) 0 w1 B1.o;have ld:=uO N2;refine br_ (v:=.agg (cK (jf b)).toArray) ?_ rfl ⟨rfl,NB⟩;simp [results,Tryz.results171,Act.put,asAddr,ld]
theorem wI (b:Int) (w:W_) :
  C_ 155 #[I_ b] w (mW (.bool (decide (fJ b))) w):=by
 by_cases h:fJ b
 .have hb:=h;unfold fJ at hb;have n1:(b == 41)=false:=by simp;omega
  have n2:(b == 93)=false:=by simp;omega
  have n3:(b == 42)=false:=by simp;omega
  have n4:(b == 43)=false:=by simp;omega
  have n5:(b == 63)=false:=by simp;omega
  have n6:(b == 124)=false:=by simp;omega
  have n7:(b == 32)=false:=by simp;omega
  have n8:(b == 10)=false:=by simp;omega
  have n9:(b == -1)=false:=by simp;omega
  rw [dt_ h];clear hb h;go_enter Tryz.func155,Tryz.ntmps155;go_wp2;go_ret;exact⟨rfl,Br_ _ _⟩
 .rw [dn_ h];unfold fJ at h;have h':b=41\/b=93\/b=42\/b=43\/b=63\/b=124\/b=32\/b=10\/b=-1:=by omega
  clear h;rcases h' with rfl | rfl | rfl | rfl | rfl | rfl | rfl | rfl | rfl
  all_goals
   go_enter Tryz.func155,Tryz.ntmps155;go_wp2;go_ret;exact⟨rfl,Br_ _ _⟩
end Go.Proofs.YtmccnmgaoppogaaGreat
