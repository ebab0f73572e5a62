/-
 Plain mathematics: ascending lists, parts of patterns, places.
 Plain mathematics: the sets of a mode, the kinds of its words, the code: as the program makes them.
-/
import Derived.Test.YtmccnmgaoppogaaGreatCA
namespace Go.Proofs.YtmccnmgaoppogaaGreat
namespace Pure
def unGo (x:Nat) (f:List Nat→List Nat) (a:List Nat):List Nat→List Nat
 | []=>x::a
 | y::b=>if x<y then x::f (y::b) else if y<x then y::unGo x f a b else x::f b
def un:List Nat→List Nat→List Nat
 | [],b=>b
 | x::a,b=>unGo x (un a) a b
theorem un_nil (b:List Nat):un [] b=b:=rfl
theorem un_nil' (a:List Nat):un a []=a:=by cases a <;> rfl
theorem un_lt {x y:Nat} {a b:List Nat} (h:x<y):un (x::a) (y::b)=x::un a (y::b):=by
 show unGo _ _ _ _=_
 unfold unGo
 rw [if_pos h]
theorem un_gt {x y:Nat} {a b:List Nat} (h:y<x):un (x::a) (y::b)=y::un (x::a) b:=by
 show unGo _ _ _ _=_
 unfold unGo
 rw [if_neg (by omega),if_pos h]
 rfl
theorem un_eq {x:Nat} {a b:List Nat}:un (x::a) (x::b)=x::un a b:=by
 show unGo _ _ _ _=_
 unfold unGo
 rw [if_neg (by omega),if_neg (by omega)]
def Asc (l:List Nat):Prop:=l.Pairwise (· < ·)
theorem un_ind {Q:List Nat→List Nat→Prop} (h1:∀b,Q [] b) (h2:∀a,Q a []) (h3:∀x y a b,x<y→Q a (y::b)→Q (x::a) (y::b)) (h4:∀x y a b,y<x→Q (x::a) b→Q (x::a) (y::b)) (h5:∀x a b,Q a b→Q (x::a) (x::b)):∀a b,Q a b:=by
 intro a
 induction a with
 | nil=>exact h1
 | cons x a ih=>
  intro b
  induction b with
  | nil=>exact h2 _
  | cons y b ih2=>
   rcases Nat.lt_trichotomy x y with h | h | h
   ·exact h3 _ _ _ _ h (ih _)
   ·subst h
    exact h5 _ _ _ (ih _)
   ·exact h4 _ _ _ _ h ih2
theorem un_mem (z:Nat):∀a b,z∈un a b↔z∈a∨z∈b:=by
 refine un_ind ?_ ?_ ?_ ?_ ?_
 ·intro b;simp [un_nil]
 ·intro a;simp [un_nil']
 ·intro x y a b h ih
  rw [un_lt h];simp only [List.mem_cons,ih];exact⟨by rintro (h | h | h | h) <;> simp [h],by rintro ((h | h) | (h | h)) <;> simp [h]⟩
 ·intro x y a b h ih
  rw [un_gt h];simp only [List.mem_cons,ih];exact⟨by rintro (h | (h | h) | h) <;> simp [h],by rintro ((h | h) | (h | h)) <;> simp [h]⟩
 ·intro x a b ih
  rw [un_eq];simp only [List.mem_cons,ih];exact⟨by rintro (h | h | h) <;> simp [h],by rintro ((h | h) | (h | h)) <;> simp [h]⟩
theorem un_asc:∀a b,Asc a→Asc b→Asc (un a b):=by
 unfold Asc
 refine un_ind ?_ ?_ ?_ ?_ ?_
 ·intro b _ h;exact h
 ·intro a h _;rw [un_nil'];exact h
 ·intro x y a b h ih ha hb
  rw [un_lt h];rw [List.pairwise_cons] at ha ⊢;refine⟨fun z hz=>?_,ih ha.2 hb⟩;rcases (un_mem z _ _).1 hz with k | k
  ·exact ha.1 z k
  ·rw [List.pairwise_cons] at hb
   rcases List.mem_cons.1 k with rfl | k
   ·exact h
   ·exact Nat.lt_trans h (hb.1 z k)
 ·intro x y a b h ih ha hb
  rw [un_gt h];rw [List.pairwise_cons] at hb ⊢;refine⟨fun z hz=>?_,ih ha hb.2⟩;rcases (un_mem z _ _).1 hz with k | k
  ·rw [List.pairwise_cons] at ha
   rcases List.mem_cons.1 k with rfl | k
   ·exact h
   ·exact Nat.lt_trans h (ha.1 z k)
  ·exact hb.1 z k
 ·intro x a b ih ha hb
  rw [un_eq];rw [List.pairwise_cons] at ha hb ⊢;refine⟨fun z hz=>?_,ih ha.2 hb.2⟩;rcases (un_mem z _ _).1 hz with k | k
  ·exact ha.1 z k
  ·exact hb.1 z k
theorem asc_length {l:List Nat} (h:Asc l) {n:Nat} (hn:∀x∈l,x<n):l.length≤n:=by
 have key:∀(l:List Nat) (m:Nat),Asc l→(∀x∈l,m≤x∧x<n)→l.length+m≤n∨l=[]:=by
  intro l
  induction l with
  | nil=>intro m _ _;exact .inr rfl
  | cons x l ih=>
   intro m ha hb;left;unfold Asc at ha;rw [List.pairwise_cons] at ha;have hx:=hb x (List.mem_cons_self ..);rcases ih (x+1) ha.2 (fun z hz=>⟨ha.1 z hz,(hb z (List.mem_cons_of_mem _ hz)).2⟩) with k | k
   ·simp;omega
   ·subst k
    simp;omega
 rcases key l 0 h (fun x hx=>⟨Nat.zero_le _,hn x hx⟩) with k | k
 ·omega
 ·subst k;exact Nat.zero_le _
structure Pl where
 takes:Nat→Bool
 next:List Nat
structure Pt where
 empty:Bool
 first:List Nat
 last:List Nat
def lead1 (to:List Nat) (ps:List Pl) (p:Nat):List Pl:=ps.modify p (fun x=>{ x with next:=un x.next to })
def leads (fr to:List Nat) (ps:List Pl):List Pl:=fr.foldl (lead1 to) ps
def oneP (T:Nat→Bool) (ps:List Pl):Pt × List Pl:=(⟨false,[ps.length],[ps.length]⟩,ps++[⟨T,[]⟩])
def inTurn (a b:Pt) (ps:List Pl):Pt × List Pl:=(⟨a.empty && b.empty,if a.empty then un a.first b.first else a.first,if b.empty then un a.last b.last else b.last⟩,leads a.last b.first ps)
def repeated (a:Pt) (sign:Int) (ps:List Pl):Pt × List Pl:=(⟨a.empty || decide (sign≠43),a.first,a.last⟩,if sign=63 then ps else leads a.last a.first ps)
def either (a b:Pt):Pt:=⟨a.empty || b.empty,un a.first b.first,un a.last b.last⟩
def part:Re→List Pl→Pt × List Pl
 | .pl T,ps=>oneP T ps
 | .cat a b,ps=>inTurn (part a ps).1 (part b (part a ps).2).1 (part b (part a ps).2).2
 | .alt a b,ps=>(either (part a ps).1 (part b (part a ps).2).1,(part b (part a ps).2).2)
 | .star a,ps=>repeated (part a ps).1 42 (part a ps).2
 | .plus a,ps=>repeated (part a ps).1 43 (part a ps).2
 | .opt a,ps=>repeated (part a ps).1 63 (part a ps).2
def Inl (n:Nat) (l:List Nat):Prop:=Asc l∧∀x∈l,x<n
def PtOK (n:Nat) (a:Pt):Prop:=Inl n a.first∧Inl n a.last
def PlsOK (ps:List Pl):Prop:=∀p∈ps,Inl ps.length p.next
theorem Inl.len {n:Nat} {l:List Nat} (h:Inl n l):l.length≤n:=asc_length h.1 h.2
theorem Inl.mono {n m:Nat} {l:List Nat} (h:Inl n l) (hm:n≤m):Inl m l:=⟨h.1,fun x hx=>Nat.lt_of_lt_of_le (h.2 x hx) hm⟩
theorem PtOK.mono {n m:Nat} {a:Pt} (h:PtOK n a) (hm:n≤m):PtOK m a:=⟨h.1.mono hm,h.2.mono hm⟩
theorem Inl.un {n:Nat} {a b:List Nat} (ha:Inl n a) (hb:Inl n b):Inl n (un a b):=
 ⟨un_asc a b ha.1 hb.1,fun x hx=>((un_mem x a b).1 hx).elim (ha.2 x) (hb.2 x)⟩
theorem Inl.nil (n:Nat):Inl n []:=⟨List.Pairwise.nil,fun x hx=>by simp at hx⟩
theorem Inl.one {n x:Nat} (h:x<n):Inl n [x]:=⟨List.pairwise_singleton _ _,fun y hy=>by simp at hy;omega⟩
theorem lead1_length (to:List Nat) (ps:List Pl) (p:Nat):(lead1 to ps p).length=ps.length:=by simp [lead1]
theorem leads_length (fr to:List Nat) (ps:List Pl):(leads fr to ps).length=ps.length:=by
 unfold leads
 induction fr generalizing ps with
 | nil=>rfl
 | cons x fr ih=>rw [List.foldl_cons,ih,lead1_length]
theorem lead1_get (to:List Nat) (ps:List Pl) (p i:Nat):(lead1 to ps p)[i]?=(ps[i]?).map (fun x=>if p=i then { x with next:=un x.next to } else x):=by
 unfold lead1
 rw [List.getElem?_modify]
 by_cases h:p=i
 ·simp [h]
 ·simp [h]
theorem lead1_ok {to:List Nat} {ps:List Pl} {p:Nat} (h:PlsOK ps) (ht:Inl ps.length to):PlsOK (lead1 to ps p):=by
 intro q hq
 obtain⟨i,hi⟩:=List.getElem?_of_mem hq
 rw [lead1_get] at hi
 rw [lead1_length]
 cases hx:ps[i]? with
 | none=>rw [hx] at hi;cases hi
 | some x=>
  rw [hx] at hi;have hk:=h x (List.mem_of_getElem? hx);simp only [Option.map_some,Option.some.injEq] at hi;subst hi;split
  ·exact hk.un ht
  ·exact hk
theorem leads_ok {to:List Nat} (fr:List Nat) {ps:List Pl} (h:PlsOK ps) (ht:Inl ps.length to):PlsOK (leads fr to ps):=by
 unfold leads
 induction fr generalizing ps with
 | nil=>exact h
 | cons x fr ih=>exact ih (lead1_ok h ht) (by rw [lead1_length];exact ht)
def Re.leaves:Re→Nat
 | .pl _=>1
 | .cat a b=>a.leaves+b.leaves
 | .alt a b=>a.leaves+b.leaves
 | .star a=>a.leaves
 | .plus a=>a.leaves
 | .opt a=>a.leaves
theorem repeated_length (a:Pt) (sign:Int) (ps:List Pl):(repeated a sign ps).2.length=ps.length:=by
 unfold repeated
 simp only
 split
 ·rfl
 ·rw [leads_length]
theorem part_length (re:Re):∀ps,(part re ps).2.length=ps.length+re.leaves:=by
 induction re with
 | pl T=>intro ps;simp [part,oneP,Re.leaves]
 | cat a b iha ihb=>
  intro ps;show (leads _ _ _).length=_;rw [leads_length,ihb,iha];simp [Re.leaves];omega
 | alt a b iha ihb=>
  intro ps;show (part b _).2.length=_;rw [ihb,iha];simp [Re.leaves];omega
 | star a ih=>intro ps;show (repeated _ _ _).2.length=_;rw [repeated_length,ih];rfl
 | plus a ih=>intro ps;show (repeated _ _ _).2.length=_;rw [repeated_length,ih];rfl
 | opt a ih=>intro ps;show (repeated _ _ _).2.length=_;rw [repeated_length,ih];rfl
theorem inTurn_ok {a b:Pt} {ps:List Pl} (ha:PtOK ps.length a) (hb:PtOK ps.length b) (h:PlsOK ps):PtOK ps.length (inTurn a b ps).1∧PlsOK (inTurn a b ps).2:=by
 refine⟨⟨?_,?_⟩,leads_ok _ h hb.1⟩
 ·show Inl _ (if _ then _ else _)
  split
  ·exact ha.1.un hb.1
  ·exact ha.1
 ·show Inl _ (if _ then _ else _)
  split
  ·exact ha.2.un hb.2
  ·exact hb.2
theorem repeated_ok {a:Pt} {ps:List Pl} (sign:Int) (ha:PtOK ps.length a) (h:PlsOK ps):PtOK ps.length (repeated a sign ps).1∧PlsOK (repeated a sign ps).2:=by
 refine⟨ha,?_⟩
 show PlsOK (if _ then _ else _)
 split
 ·exact h
 ·exact leads_ok _ h ha.1
theorem either_ok {a b:Pt} {n:Nat} (ha:PtOK n a) (hb:PtOK n b):PtOK n (either a b):=⟨ha.1.un hb.1,ha.2.un hb.2⟩
theorem oneP_ok {T:Nat→Bool} {ps:List Pl} (h:PlsOK ps):PtOK (oneP T ps).2.length (oneP T ps).1∧PlsOK (oneP T ps).2:=by
 refine⟨⟨.one (by simp [oneP]),.one (by simp [oneP])⟩,fun p hp=>?_⟩
 rcases List.mem_append.1 hp with k | k
 ·exact (h p k).mono (by simp [oneP])
 ·simp at k
  subst k;exact .nil _
theorem part_ok (re:Re):∀ps,PlsOK ps→PtOK (part re ps).2.length (part re ps).1∧PlsOK (part re ps).2:=by
 induction re with
 | pl T=>intro ps h;exact oneP_ok h
 | cat a b iha ihb=>
  intro ps h;have ka:=iha ps h;have kb:=ihb _ ka.2;have:=inTurn_ok (ka.1.mono (by rw [part_length b];omega)) kb.1 kb.2;show PtOK (leads _ _ _).length _∧_;rw [leads_length];exact this
 | alt a b iha ihb=>
  intro ps h;have ka:=iha ps h;have kb:=ihb _ ka.2;exact⟨either_ok (ka.1.mono (by rw [part_length,part_length];simp only [Re.leaves];omega)) kb.1,kb.2⟩
 | star a ih=>intro ps h;have k:=ih ps h;have:=repeated_ok 42 k.1 k.2;exact⟨by show PtOK (repeated _ _ _).2.length _;rw [repeated_length];exact this.1,this.2⟩
 | plus a ih=>intro ps h;have k:=ih ps h;have:=repeated_ok 43 k.1 k.2;exact⟨by show PtOK (repeated _ _ _).2.length _;rw [repeated_length];exact this.1,this.2⟩
 | opt a ih=>intro ps h;have k:=ih ps h;have:=repeated_ok 63 k.1 k.2;exact⟨by show PtOK (repeated _ _ _).2.length _;rw [repeated_length];exact this.1,this.2⟩
theorem Sg.lt {s:ByteArray} {i j:Nat} {v:Int} (h:Sg s i j v):i<j:=by cases h <;> omega
theorem It.lt {s:ByteArray} {i j:Nat} {v u:Int} {r:Bool} (h:It s i j v u r):i<j:=by
 cases h with
 | one h1=>exact h1.lt
 | range h1 _ h2=>have:=h1.lt;have:=h2.lt;omega
theorem Cl.lt {s:ByteArray} {i k:Nat} {T T':Nat→Bool} {D D':Bool} (h:Cl s i T D k T' D'):i<k:=by
 induction h with
 | done h1 _=>have:=h1.lt;omega
 | more h1 _ _ ih=>have:=h1.lt;omega
def Nt.lv:Nt→Nat
 | .pcR a _=>a.leaves
 | .brR a _=>a.leaves
 | .paR a _=>a.leaves
 | _=>0
theorem P.leaves {s:ByteArray} {t:Nt} {i j:Nat} {a:Re} {D:Bool} (h:P s t i j a D):a.leaves+i≤t.lv+j∧i≤j:=by
 induction h with
 | any=>simp [Re.leaves,Nt.lv];omega
 | chr=>simp [Re.leaves,Nt.lv];omega
 | esc=>simp [Re.leaves,Nt.lv];omega
 | cls _ _ h=>have:=h.lt;simp [Re.leaves,Nt.lv];omega
 | ncls _ _ h=>have:=h.lt;simp [Re.leaves,Nt.lv];omega
 | grp _ _ _ ih=>simp only [Nt.lv] at ih ⊢;omega
 | pcR0=>simp [Nt.lv]
 | star _ _ ih=>simp only [Nt.lv,Re.leaves] at ih ⊢;omega
 | plus _ _ ih=>simp only [Nt.lv,Re.leaves] at ih ⊢;omega
 | opt _ _ ih=>simp only [Nt.lv,Re.leaves] at ih ⊢;omega
 | pc _ _ ih1 ih2=>simp only [Nt.lv] at ih1 ih2 ⊢;omega
 | brR0=>simp [Nt.lv]
 | brR _ _ _ ih1 ih2=>simp only [Nt.lv,Re.leaves] at ih1 ih2 ⊢;omega
 | br _ _ ih1 ih2=>simp only [Nt.lv] at ih1 ih2 ⊢;omega
 | paR0=>simp [Nt.lv]
 | paR _ _ _ ih1 ih2=>simp only [Nt.lv,Re.leaves] at ih1 ih2 ⊢;omega
 | pa _ _ ih1 ih2=>simp only [Nt.lv] at ih1 ih2 ⊢;omega
def meetGo (x:Nat) (f:List Nat→Bool):List Nat→Bool
 | []=>false
 | y::b=>if x<y then f (y::b) else if y<x then meetGo x f b else true
def meet:List Nat→List Nat→Bool
 | [],_=>false
 | x::a,b=>meetGo x (meet a) b
theorem meet_nil (b:List Nat):meet [] b=false:=rfl
theorem meet_nil' (a:List Nat):meet a []=false:=by cases a <;> rfl
theorem meet_lt {x y:Nat} {a b:List Nat} (h:x<y):meet (x::a) (y::b)=meet a (y::b):=by
 show meetGo _ _ _=_
 unfold meetGo
 rw [if_pos h]
theorem meet_gt {x y:Nat} {a b:List Nat} (h:y<x):meet (x::a) (y::b)=meet (x::a) b:=by
 show meetGo _ _ _=_
 unfold meetGo
 rw [if_neg (by omega),if_pos h]
 rfl
theorem meet_eq {x:Nat} {a b:List Nat}:meet (x::a) (x::b)=true:=by
 show meetGo _ _ _=_
 unfold meetGo
 rw [if_neg (by omega),if_neg (by omega)]
theorem meet_iff:∀a b,Asc a→Asc b→(meet a b=true↔∃x,x∈a∧x∈b):=by
 unfold Asc
 refine un_ind ?_ ?_ ?_ ?_ ?_
 ·intro b _ _;simp [meet_nil]
 ·intro a _ _;simp [meet_nil']
 ·intro x y a b h ih ha hb
  rw [meet_lt h,ih (List.pairwise_cons.1 ha).2 hb];refine⟨fun ⟨z,h1,h2⟩=>⟨z,List.mem_cons_of_mem _ h1,h2⟩,fun ⟨z,h1,h2⟩=>?_⟩;rcases List.mem_cons.1 h1 with rfl | k
  ·rcases List.mem_cons.1 h2 with rfl | k
   ·omega
   ·have:=(List.pairwise_cons.1 hb).1 z k;omega
  ·exact⟨z,k,h2⟩
 ·intro x y a b h ih ha hb
  rw [meet_gt h,ih ha (List.pairwise_cons.1 hb).2];refine⟨fun ⟨z,h1,h2⟩=>⟨z,h1,List.mem_cons_of_mem _ h2⟩,fun ⟨z,h1,h2⟩=>?_⟩;rcases List.mem_cons.1 h2 with rfl | k
  ·rcases List.mem_cons.1 h1 with rfl | k
   ·omega
   ·have:=(List.pairwise_cons.1 ha).1 z k;omega
  ·exact⟨z,h1,k⟩
 ·intro x a b _ _ _
  rw [meet_eq];exact⟨fun _=>⟨x,List.mem_cons_self ..,List.mem_cons_self ..⟩,fun _=>rfl⟩
end Pure
namespace Pure
structure Lp where
 mode:Int
 emit:Int
 act:Int
 md:Int
 pt:Pt
 down:Bool
def Ln.lp (x:Ln) (pt:Pt):Lp:=⟨x.mode,x.emit,x.act,x.md,pt,x.down⟩
def addLn (q:List Lp × List Pl) (x:Ln):List Lp × List Pl:=(q.1++[x.lp (part x.re q.2).1],(part x.re q.2).2)
def allLn (ls:List Ln):List Lp × List Pl:=ls.foldl addLn ([],[])
structure St where
 places:List Nat
 longer:List Nat
def tk (ps:List Pl) (p b:Nat):Bool:=match ps[p]? with
 | some x=>x.takes b
 | none=>false
def nx (ps:List Pl) (p:Nat):List Nat:=match ps[p]? with
 | some x=>x.next
 | none=>[]
def z256:List Nat:=List.replicate 256 0
def taking (ps:List Pl) (ready:List Nat) (b:Nat):List Nat:=ready.filter (fun p=>tk ps p b)
def idxSt (t:List Nat):List St→Nat
 | []=>0
 | s::r=>if s.places=t then 0 else idxSt t r+1
def numbSt (ss:List St) (t:List Nat):List St:=if idxSt t ss<ss.length then ss else ss++[⟨t,z256⟩]
def setLong (ss:List St) (fr b n:Nat):List St:=ss.modify fr (fun s=>{ s with longer:=s.longer.set b n })
def lead1S (ps:List Pl) (ready:List Nat) (fr:Nat) (ss:List St) (b:Nat):List St:=setLong (numbSt ss (taking ps ready b)) fr b (idxSt (taking ps ready b) ss)
def leadS (ps:List Pl) (ready:List Nat) (fr:Nat) (ss:List St) (k:Nat):List St:=(List.range k).foldl (lead1S ps ready fr) ss
def beginR (ls:List Lp) (mode:Int):List Nat:=ls.foldl (fun acc x=>if x.mode=mode then un acc x.pt.first else acc) []
def behindR (ps:List Pl) (set:List Nat):List Nat:=set.foldl (fun acc p=>un acc (nx ps p)) []
def plS (ss:List St) (k:Nat):List Nat:=match ss[k]? with
 | some x=>x.places
 | none=>[]
def findGo (ps:List Pl):Nat→Nat→List St→List St
 | 0,_,ss=>ss
 | f+1,k,ss=>if k<ss.length∧ss.length≤42 then findGo ps f (k+1) (leadS ps (behindR ps (plS ss k)) k ss 256) else ss
def st0:List St:=[⟨[],z256⟩,⟨[],z256⟩]
def findS (ls:List Lp) (ps:List Pl) (mode:Int):List St:=findGo ps 43 2 (leadS ps (beginR ls mode) 1 st0 256)
structure Kd where
 rule:Int
 longer:List Nat
def firstRuleGo (t:List Nat):List Lp→Nat→Int
 | [],_=>-1
 | x::r,k=>if meet x.pt.last t then k else firstRuleGo t r (k+1)
def firstRule (ls:List Lp) (t:List Nat):Int:=firstRuleGo t ls 0
def lgS (ss:List St) (k b:Nat):Nat:=match ss[k]? with
 | some x=>x.longer.getD b 0
 | none=>0
def alikeTo (ss:List St) (kinds:List Nat) (a b n:Nat):Bool:=(List.range n).all (fun c=>decide (kinds.getD (lgS ss a c) 0=kinds.getD (lgS ss b c) 0))
def kindGo (ss:List St) (rs:List Int) (kinds:List Nat) (set:Nat):List Nat→Nat
 | []=>0
 | o::r=>if rs.getD set 0=rs.getD o 0∧alikeTo ss kinds set o 256=true then 0 else kindGo ss rs kinds set r+1
structure Sorting where
 kinds:List Nat
 firsts:List Nat
def finer1 (ss:List St) (rs:List Int) (kinds:List Nat) (q:Sorting) (set:Nat):Sorting:=
 ⟨q.kinds++[kindGo ss rs kinds set q.firsts],if kindGo ss rs kinds set q.firsts=q.firsts.length then q.firsts++[set] else q.firsts⟩
def finer (ss:List St) (rs:List Int) (kinds:List Nat) (n:Nat):Sorting:=(List.range n).foldl (finer1 ss rs kinds) ⟨[],[]⟩
def sortGo (ss:List St) (rs:List Int):Nat→Sorting→Sorting
 | 0,q=>q
 | f+1,q=>if (finer ss rs q.kinds ss.length).firsts.length≤q.firsts.length then finer ss rs q.kinds ss.length else sortGo ss rs f (finer ss rs q.kinds ss.length)
def sortS (ss:List St) (rs:List Int):Sorting:=sortGo ss rs (ss.length+1) ⟨List.replicate ss.length 0,[]⟩
def rulesOf (ls:List Lp) (ss:List St):List Int:=ss.map (fun s=>firstRule ls s.places)
def kindOf (rs:List Int) (ss:List St) (q:Sorting) (set:Nat):Kd:=⟨rs.getD set 0,(List.range 256).map (fun b=>q.kinds.getD (lgS ss set b) 0)⟩
def kindsS (ls:List Lp) (ss:List St):List Kd:=(sortS ss (rulesOf ls ss)).firsts.map (kindOf (rulesOf ls ss) ss (sortS ss (rulesOf ls ss)))
def rowEnd (l:List Nat) (low:Nat):Nat→Nat
 | 0=>low
 | f+1=>if low+1<256∧l.getD (low+1) 0=l.getD low 0 then rowEnd l (low+1) f else low
def waysGo (l:List Nat):Nat→Nat→List Ins→List Ins
 | 0,_,acc=>acc
 | f+1,low,acc=>if low<256 then waysGo l f (rowEnd l low 256+1) (if l.getD low 0=0 then acc else acc++[⟨3,low,(rowEnd l low 256:Nat),(l.getD low 0:Nat)⟩]) else acc
def waysOn (l:List Nat):List Ins:=waysGo l 257 0 []
def kindIns (k:Kd):List Ins:=(if k.rule=-1 then [] else [⟨1,k.rule,0,0⟩])++(if (waysOn k.longer).length=0 then [] else [⟨2,0,0,0⟩])++waysOn k.longer++[⟨5,0,0,0⟩]
def layKd (q:List Ins × List Nat) (k:Kd):List Ins × List Nat:=(q.1++kindIns k,q.2++[q.1.length])
def linkI (starts:List Nat) (x:Ins):Ins:=if x.op=3 then { x with to:=(starts.getD x.to.toNat 0:Nat) } else x
def layMode (code:List Ins) (all:List Kd):List Ins:=
 if all.length≤1 then code++[⟨5,0,0,0⟩]
 else code++(((all.drop 1).foldl layKd (code,[0])).1.drop code.length).map (linkI ((all.drop 1).foldl layKd (code,[0])).2)
def layAll (modes:List (List Kd)):List Int × List Ins:=modes.foldl (fun q m=>(q.1++[(q.2.length:Int)],layMode q.2 m)) ([],[])
end Pure
end Go.Proofs.YtmccnmgaoppogaaGreat
