/-
 Plain mathematics: rules as text: how they are read, where they go wrong, and the machine by which the document tells it.
 Plain mathematics: the machine goes as the text is read.
 Plain mathematics: lines of rules; which beginning of a text some rules have.
-/
import Derived.Test.YtmccnmgaoppogaaGreatMeA
namespace Go.Proofs.YtmccnmgaoppogaaGreat
namespace Pure
def pkb (s:ByteArray) (i:Nat):Int:=if i<s.size then bt s i else -1
theorem pkb_lt {s:ByteArray} {i:Nat} (h:pkb s i≠-1):i<s.size:=by
 unfold pkb at h
 split at h
 ·assumption
 ·exact absurd rfl h
theorem pkb_bt {s:ByteArray} {i:Nat} (h:i<s.size):pkb s i=bt s i:=by
 unfold pkb
 rw [if_pos h]
theorem pkb_end {s:ByteArray} {i:Nat} (h:s.size≤i):pkb s i=-1:=by
 unfold pkb
 rw [if_neg (by omega)]
theorem pkb_bd (s:ByteArray) (i:Nat):-1≤pkb s i∧pkb s i≤255:=by
 have:=bt_bd s i
 unfold pkb
 split <;> omega
def BegAtom (b:Int):Prop:=¬(b=41∨b=93∨b=42∨b=43∨b=63∨b=124∨b=32∨b=10∨b=-1)
def Esc (b v:Int):Prop:=((b=40∨b=41∨b=91∨b=93∨b=42∨b=43∨b=63∨b=124∨b=46∨b=92∨b=45∨b=94)∧v=b)∨(b=110∧v=10)∨(b=115∧v=32)
def EscOK (b:Int):Prop:=(b=40∨b=41∨b=91∨b=93∨b=42∨b=43∨b=63∨b=124∨b=46∨b=92∨b=45∨b=94)∨b=110∨b=115
theorem Esc.ok {b v:Int} (h:Esc b v):EscOK b:=by
 unfold Esc at h
 unfold EscOK
 omega
inductive Sg (s:ByteArray):Nat→Nat→Int→Prop where
 | plain {i:Nat}:¬(pkb s i=93∨pkb s i=45∨pkb s i=32∨pkb s i=10∨pkb s i=-1)→pkb s i≠92→Sg s i (i+1) (pkb s i)
 | esc {i:Nat} {v:Int}:pkb s i=92→Esc (pkb s (i+1)) v→Sg s i (i+2) v
inductive SgF (s:ByteArray):Nat→Nat→Prop where
 | plain {i:Nat}:pkb s i=93∨pkb s i=45∨pkb s i=32∨pkb s i=10∨pkb s i=-1→SgF s i i
 | esc {i:Nat}:pkb s i=92→¬EscOK (pkb s (i+1))→SgF s i (i+1)
inductive It (s:ByteArray):Nat→Nat→Int→Int→Bool→Prop where
 | one {i j:Nat} {v:Int}:Sg s i j v→pkb s j≠45→It s i j v v false
 | range {i j k:Nat} {v u:Int}:Sg s i j v→pkb s j=45→Sg s (j+1) k u→It s i k v u true
inductive ItF (s:ByteArray):Nat→Nat→Prop where
 | one {i j:Nat}:SgF s i j→ItF s i j
 | range {i j k:Nat} {v:Int}:Sg s i j v→pkb s j=45→SgF s (j+1) k→ItF s i k
def wid (T:Nat→Bool) (lo hi:Int):Nat→Bool:=fun n=>T n || (decide (lo≤(n:Int)) && decide ((n:Int)≤hi))
inductive Cl (s:ByteArray):Nat→(Nat→Bool)→Bool→Nat→(Nat→Bool)→Bool→Prop where
 | done {i j:Nat} {lo hi:Int} {r:Bool} {T:Nat→Bool} {D:Bool}:It s i j lo hi r→pkb s j=93→Cl s i T D (j+1) (wid T lo hi) (D || decide (hi<lo))
 | more {i j k:Nat} {lo hi:Int} {r:Bool} {T T':Nat→Bool} {D D':Bool}:It s i j lo hi r→pkb s j≠93→Cl s j (wid T lo hi) (D || decide (hi<lo)) k T' D'→Cl s i T D k T' D'
inductive ClF (s:ByteArray):Nat→Nat→Prop where
 | here {i j:Nat}:ItF s i j→ClF s i j
 | more {i j k:Nat} {lo hi:Int} {r:Bool}:It s i j lo hi r→pkb s j≠93→ClF s j k→ClF s i k
inductive Re where
 | pl:(Nat→Bool)→Re
 | cat:Re→Re→Re
 | alt:Re→Re→Re
 | star:Re→Re
 | plus:Re→Re
 | opt:Re→Re
def onlyB (b:Int):Nat→Bool:=fun n=>decide ((n:Int)=b)
def notB (T:Nat→Bool):Nat→Bool:=fun n=>!T n
def noneB:Nat→Bool:=fun _=>false
inductive Nt where
 | atom:Nt
 | pcR:Re→Bool→Nt
 | pc:Nt
 | brR:Re→Bool→Nt
 | br:Nt
 | paR:Re→Bool→Nt
 | pa:Nt
inductive P (s:ByteArray):Nt→Nat→Nat→Re→Bool→Prop where
 | any {i:Nat}:pkb s i=46→P s .atom i (i+1) (.pl (notB (onlyB 10))) false
 | chr {i:Nat}:BegAtom (pkb s i)→pkb s i≠92→pkb s i≠40→pkb s i≠91→pkb s i≠46→P s .atom i (i+1) (.pl (onlyB (pkb s i))) false
 | esc {i:Nat} {v:Int}:pkb s i=92→Esc (pkb s (i+1)) v→P s .atom i (i+2) (.pl (onlyB v)) false
 | cls {i k:Nat} {T:Nat→Bool} {D:Bool}:pkb s i=91→pkb s (i+1)≠94→Cl s (i+1) noneB false k T D→P s .atom i k (.pl T) D
 | ncls {i k:Nat} {T:Nat→Bool} {D:Bool}:pkb s i=91→pkb s (i+1)=94→Cl s (i+2) noneB false k T D→P s .atom i k (.pl (notB T)) D
 | grp {i j:Nat} {a:Re} {D:Bool}:pkb s i=40→P s .pa (i+1) j a D→pkb s j=41→P s .atom i (j+1) a D
 | pcR0 {i:Nat} {a:Re} {D:Bool}:pkb s i≠42→pkb s i≠43→pkb s i≠63→P s (.pcR a D) i i a D
 | star {i k:Nat} {a b:Re} {D D':Bool}:pkb s i=42→P s (.pcR (.star a) D) (i+1) k b D'→P s (.pcR a D) i k b D'
 | plus {i k:Nat} {a b:Re} {D D':Bool}:pkb s i=43→P s (.pcR (.plus a) D) (i+1) k b D'→P s (.pcR a D) i k b D'
 | opt {i k:Nat} {a b:Re} {D D':Bool}:pkb s i=63→P s (.pcR (.opt a) D) (i+1) k b D'→P s (.pcR a D) i k b D'
 | pc {i j k:Nat} {a b:Re} {D D':Bool}:P s .atom i j a D→P s (.pcR a D) j k b D'→P s .pc i k b D'
 | brR0 {i:Nat} {a:Re} {D:Bool}:¬BegAtom (pkb s i)→P s (.brR a D) i i a D
 | brR {i j k:Nat} {a b c:Re} {D D1 D':Bool}:BegAtom (pkb s i)→P s .pc i j b D1→P s (.brR (.cat a b) (D || D1)) j k c D'→P s (.brR a D) i k c D'
 | br {i j k:Nat} {a b:Re} {D D':Bool}:P s .pc i j a D→P s (.brR a D) j k b D'→P s .br i k b D'
 | paR0 {i:Nat} {a:Re} {D:Bool}:pkb s i≠124→P s (.paR a D) i i a D
 | paR {i j k:Nat} {a b c:Re} {D D1 D':Bool}:pkb s i=124→P s .br (i+1) j b D1→P s (.paR (.alt a b) (D || D1)) j k c D'→P s (.paR a D) i k c D'
 | pa {i j k:Nat} {a b:Re} {D D':Bool}:P s .br i j a D→P s (.paR a D) j k b D'→P s .pa i k b D'
inductive Nf where
 | atom:Nf
 | pc:Nf
 | brR:Nf
 | br:Nf
 | paR:Nf
 | pa:Nf
inductive PF (s:ByteArray):Nf→Nat→Nat→Prop where
 | none {i:Nat}:¬BegAtom (pkb s i)→PF s .atom i i
 | esc {i:Nat}:pkb s i=92→¬EscOK (pkb s (i+1))→PF s .atom i (i+1)
 | cls {i k:Nat}:pkb s i=91→pkb s (i+1)≠94→ClF s (i+1) k→PF s .atom i k
 | ncls {i k:Nat}:pkb s i=91→pkb s (i+1)=94→ClF s (i+2) k→PF s .atom i k
 | grp {i k:Nat}:pkb s i=40→PF s .pa (i+1) k→PF s .atom i k
 | grp' {i j:Nat} {a:Re} {D:Bool}:pkb s i=40→P s .pa (i+1) j a D→pkb s j≠41→PF s .atom i j
 | pc {i k:Nat}:PF s .atom i k→PF s .pc i k
 | brR1 {i k:Nat}:BegAtom (pkb s i)→PF s .pc i k→PF s .brR i k
 | brR2 {i j k:Nat} {a:Re} {D:Bool}:BegAtom (pkb s i)→P s .pc i j a D→PF s .brR j k→PF s .brR i k
 | br1 {i k:Nat}:PF s .pc i k→PF s .br i k
 | br2 {i j k:Nat} {a:Re} {D:Bool}:P s .pc i j a D→PF s .brR j k→PF s .br i k
 | paR1 {i k:Nat}:pkb s i=124→PF s .br (i+1) k→PF s .paR i k
 | paR2 {i j k:Nat} {a:Re} {D:Bool}:pkb s i=124→P s .br (i+1) j a D→PF s .paR j k→PF s .paR i k
 | pa1 {i k:Nat}:PF s .br i k→PF s .pa i k
 | pa2 {i j k:Nat} {a:Re} {D:Bool}:P s .br i j a D→PF s .paR j k→PF s .pa i k
structure Mq where
 w:Int
 d:Int
 l:Int
def whenM (c:Prop) [Decidable c] (a:Int):Int:=if c then a else 16
def Plain (c:Int):Prop:=¬(c=40∨c=41∨c=91∨c=93∨c=42∨c=43∨c=63∨c=124∨c=46∨c=92∨c=32∨c=10)
def SignB (c:Int):Prop:=¬(c=93∨c=92∨c=45∨c=32∨c=10)
instance (c:Int):Decidable (Plain c):=by unfold Plain;infer_instance
instance (c:Int):Decidable (SignB c):=by unfold SignB;infer_instance
instance (c:Int):Decidable (EscOK c):=by unfold EscOK;infer_instance
instance (c:Int):Decidable (BegAtom c):=by unfold BegAtom;infer_instance
def mAtom (c d:Int):Int × Int:=
 if c=40 then (2,d+1) else if c=91 then (5,d) else if c=92 then (4,d) else if c=46 then (3,d) else (whenM (Plain c) 3,d)
def mMore (c d:Int):Int × Int:=
 if c=42∨c=43∨c=63 then (3,d) else if c=124 then (2,d) else if c=41 then (whenM (0<d) 3,d-1) else if c=32 then (whenM (d=0) 12,d) else mAtom c d
def mItem (w c:Int):Int:=
 if w=5∧c=94 then 6 else if w=9∧c=92 then 10 else if w=9 then whenM (SignB c) 11
 else if c=93∧(w=7∨w=11) then 3 else if c=45∧w=7 then 9 else if c=92 then 8 else whenM (SignB c) 7
def mAct (w c l:Int):Int:=
 if w=0 then whenM (97≤c∧c≤100) 1 else if w=1 then whenM (c=32) 2 else if w=12 then whenM (c=101∨c=115) 13
 else if w=14 then whenM (97≤c∧c≤100) 15
 else if w=13∧(c=62∨c=43) then 14 else if w=13∧c=60 then 15 else whenM (c=10∧l<16) 0
def stp (q:Mq) (c:Int):Int × Int:=
 if q.w=2 then mAtom c q.d else if q.w=3 then mMore c q.d
 else if q.w=4 then (whenM (EscOK c) 3,q.d) else if q.w=8 then (whenM (EscOK c) 7,q.d) else if q.w=10 then (whenM (EscOK c) 11,q.d)
 else if q.w=5∨q.w=6∨q.w=7∨q.w=9∨q.w=11 then (mItem q.w c,q.d) else (mAct q.w c q.l,q.d)
def nxt (q:Mq) (c:Int):Mq:=⟨(stp q c).1,(stp q c).2,if (stp q c).1=0∧q.w≠0 then q.l+1 else q.l⟩
inductive Goes (s:ByteArray):Nat→Mq→Nat→Mq→Prop where
 | refl (i:Nat) (q:Mq):Goes s i q i q
 | step {i j:Nat} {q r:Mq}:i<s.size→(stp q (bt s i)).1≠16→Goes s (i+1) (nxt q (bt s i)) j r→Goes s i q j r
def Stuck (s:ByteArray) (i:Nat) (q:Mq):Prop:=(i=s.size∧q.w≠13∧q.w≠15)∨(i<s.size∧(stp q (bt s i)).1=16)
def Halts (s:ByteArray) (i:Nat) (q:Mq) (j:Nat):Prop:=∃r,Goes s i q j r∧Stuck s j r
theorem Goes.trans {s:ByteArray} {i j k:Nat} {p q r:Mq} (h:Goes s i p j q) (h':Goes s j q k r):Goes s i p k r:=by
 induction h with
 | refl=>exact h'
 | step a b _ ih=>exact .step a b (ih h')
theorem Goes.one {s:ByteArray} {i:Nat} {q r:Mq} (h:pkb s i≠-1) (h1:(stp q (pkb s i)).1≠16) (h2:nxt q (pkb s i)=r):Goes s i q (i+1) r:=by
 have hl:=pkb_lt h
 rw [pkb_bt hl] at h1 h2
 subst h2
 exact .step hl h1 (.refl _ _)
theorem Goes.halts {s:ByteArray} {i j k:Nat} {p q:Mq} (h:Goes s i p j q) (h':Halts s j q k):Halts s i p k:=by
 obtain⟨r,a,b⟩:=h'
 exact⟨r,h.trans a,b⟩
theorem Halts.here {s:ByteArray} {i:Nat} {w d l:Int} (hi:i≤s.size) (hw:w≠13∧w≠15) (h:pkb s i≠-1→(stp ⟨w,d,l⟩ (pkb s i)).1=16):Halts s i ⟨w,d,l⟩ i:=by
 refine⟨⟨w,d,l⟩,.refl _ _,?_⟩
 by_cases hl:i<s.size
 ·right
  have hb:=bt_bd s i;rw [pkb_bt hl] at h;exact⟨hl,h (by omega)⟩
 ·left
  exact⟨by omega,hw⟩
end Pure
namespace Pure
theorem Goes.le {s:ByteArray} {i j:Nat} {q r:Mq} (h:Goes s i q j r):i≤j∧(i≤s.size→j≤s.size):=by
 induction h with
 | refl=>exact⟨lr_,id⟩
 | step a _ _ ih=>exact⟨by omega,fun _=>ih.2 (by omega)⟩
theorem Goes.meets {s:ByteArray} {i j k:Nat} {p q r:Mq} (h:Goes s i p j q) (h':Goes s i p k r):Goes s j q k r∨Goes s k r j q:=by
 induction h with
 | refl=>exact .inl h'
 | step a b c ih=>
  cases h' with
  | refl=>exact .inr (.step a b c)
  | step _ _ c'=>exact ih c'
theorem Stuck.ends {s:ByteArray} {j k:Nat} {q r:Mq} (h:Stuck s j q) (g:Goes s j q k r):j=k∧q=r:=by
 cases g with
 | refl=>exact⟨rfl,rfl⟩
 | step a b _=>
  rcases h with h | h
  ·omega
  ·exact absurd h.2 b
theorem Halts.same {s:ByteArray} {i j k:Nat} {q:Mq} (h:Halts s i q j) (h':Halts s i q k):j=k:=by
 obtain⟨r,a,b⟩:=h
 obtain⟨r',a',b'⟩:=h'
 rcases a.meets a' with g | g
 ·exact (b.ends g).1
 ·exact (b'.ends g).1.symm
theorem Halts.not {s:ByteArray} {i j:Nat} {q r:Mq} (h:Halts s i q j) (g:Goes s i q s.size r) (hr:r.w=13∨r.w=15):False:=by
 obtain⟨p,a,b⟩:=h
 rcases a.meets g with c | c
 ·obtain⟨rfl,rfl⟩:=b.ends c
  rcases b with b | b
  ·rcases hr with e | e
   ·exact b.2.1 e
   ·exact b.2.2 e
  ·omega
 ·have:=c.le
  have hj:j≤s.size:=this.2 lr_;have e:j=s.size:=by omega
  subst e
  cases c with
  | refl=>
   rcases b with b | b
   ·rcases hr with e | e
    ·exact b.2.1 e
    ·exact b.2.2 e
   ·omega
  | step a _ _=>omega
theorem nxt_eq {q:Mq} {c w d:Int} (h:stp q c=(w,d)) (hw:w≠0):nxt q c=⟨w,d,q.l⟩:=by
 unfold nxt
 rw [h]
 simp [hw]
theorem Goes.by {s:ByteArray} {i:Nat} {w d l w' d':Int} (h:pkb s i≠-1) (h1:stp ⟨w,d,l⟩ (pkb s i)=(w',d')) (h0:w'≠0) (h2:w'≠16):Goes s i ⟨w,d,l⟩ (i+1) ⟨w',d',l⟩:=
 .one h (by rw [h1];exact h2) (nxt_eq h1 h0)
def Ist (s:ByteArray) (i:Nat) (w:Int):Prop:=(w=5∧pkb s i≠94)∨w=6∨(w=7∧pkb s i≠93∧pkb s i≠45)∨(w=11∧pkb s i≠93)
theorem stp_item {w d l c:Int} (h:w=5∨w=6∨w=7∨w=9∨w=11):stp ⟨w,d,l⟩ c=(mItem w c,d):=by
 unfold stp
 rcases h with rfl | rfl | rfl | rfl | rfl <;> rfl
theorem Sg.goes {s:ByteArray} {i j:Nat} {v:Int} (h:Sg s i j v) {w:Int} (d l:Int) (hw:Ist s i w):Goes s i ⟨w,d,l⟩ j ⟨7,d,l⟩:=by
 unfold Ist at hw
 cases h with
 | plain h1 h2=>
  refine .by (fun e=>h1 (.inr (.inr (.inr (.inr e))))) ?_ (by decide) (by decide)
  rw [stp_item (by omega)];unfold mItem whenM;rw [if_neg (by omega),if_neg (by omega),if_neg (by omega),if_neg (by omega),if_neg (by omega),if_neg (by omega),if_pos (by unfold SignB;omega)]
 | esc h1 h2=>
  have k:=h2.ok;refine (Goes.by (w':=8) (d':=d) (by omega) ?_ (by decide) (by decide)).trans (Goes.by ?_ ?_ (by decide) (by decide))
  ·rw [stp_item (by omega)]
   unfold mItem;rw [if_neg (by omega),if_neg (by omega),if_neg (by omega),if_neg (by omega),if_neg (by omega),if_pos (by omega)]
  ·unfold EscOK at k;omega
  ·show (whenM (EscOK _) 7,d)=_
   unfold whenM;rw [if_pos k]
theorem Sg.goesTo {s:ByteArray} {i j:Nat} {v:Int} (h:Sg s i j v) (d l:Int):Goes s i ⟨9,d,l⟩ j ⟨11,d,l⟩:=by
 cases h with
 | plain h1 h2=>
  refine .by (fun e=>h1 (.inr (.inr (.inr (.inr e))))) ?_ (by decide) (by decide)
  rw [stp_item (by omega)];unfold mItem whenM;rw [if_neg (by omega),if_neg (by omega),if_pos (by omega),if_pos (by unfold SignB;omega)]
 | esc h1 h2=>
  have k:=h2.ok;refine (Goes.by (w':=10) (d':=d) (by omega) ?_ (by decide) (by decide)).trans (Goes.by ?_ ?_ (by decide) (by decide))
  ·rw [stp_item (by omega)]
   unfold mItem;rw [if_neg (by omega),if_pos (by omega)]
  ·unfold EscOK at k;omega
  ·show (whenM (EscOK _) 11,d)=_
   unfold whenM;rw [if_pos k]
theorem SgF.halts {s:ByteArray} {i j:Nat} (h:SgF s i j) (hi:i≤s.size) {w:Int} (d l:Int) (hw:Ist s i w∨w=9):Halts s i ⟨w,d,l⟩ j:=by
 have hw5:w=5∨w=6∨w=7∨w=9∨w=11:=by unfold Ist at hw;omega
 cases h with
 | plain h1=>
  refine .here hi (by show w≠13∧w≠15;omega) fun hn=>?_
  rw [stp_item hw5];show mItem w _=16;unfold mItem whenM;unfold Ist at hw;by_cases h9:w=9
  ·rw [if_neg (by omega),if_neg (by omega),if_pos h9,if_neg (by unfold SignB;omega)]
  ·rw [if_neg (by omega),if_neg (by omega),if_neg (by omega),if_neg (by omega),if_neg (by omega),if_neg (by omega),if_neg (by unfold SignB;omega)]
 | esc h1 h2=>
  have hp:pkb s i≠-1:=by omega
  have hlt:=pkb_lt hp;by_cases h9:w=9
  ·subst h9
   refine (Goes.by (w':=10) (d':=d) hp ?_ (by decide) (by decide)).halts (.here (by omega) (by decide) fun _=>?_)
   ·rw [stp_item (by omega)]
    unfold mItem;rw [if_neg (by omega),if_pos (by omega)]
   ·show whenM (EscOK _) 11=16
    unfold whenM;rw [if_neg h2]
  ·refine (Goes.by (w':=8) (d':=d) hp ?_ (by decide) (by decide)).halts (.here (by omega) (by decide) fun _=>?_)
   ·rw [stp_item hw5]
    unfold mItem;rw [if_neg (by omega),if_neg (by omega),if_neg (by omega),if_neg (by omega),if_neg (by omega),if_pos (by omega)]
   ·show whenM (EscOK _) 7=16
    unfold whenM;rw [if_neg h2]
theorem Goes.dash {s:ByteArray} {j:Nat} (h:pkb s j=45) (d l:Int):Goes s j ⟨7,d,l⟩ (j+1) ⟨9,d,l⟩:=by
 refine .by (by omega) ?_ (by decide) (by decide)
 rw [stp_item (by omega),h]
 rfl
theorem It.goes {s:ByteArray} {i j:Nat} {v u:Int} {r:Bool} (h:It s i j v u r) {w:Int} (d l:Int) (hw:Ist s i w):Goes s i ⟨w,d,l⟩ j ⟨if r then 11 else 7,d,l⟩:=by
 cases h with
 | one h1 h2=>exact h1.goes d l hw
 | range h1 h2 h3=>exact (h1.goes d l hw).trans ((Goes.dash h2 d l).trans (h3.goesTo d l))
theorem ItF.halts {s:ByteArray} {i j:Nat} (h:ItF s i j) (hi:i≤s.size) {w:Int} (d l:Int) (hw:Ist s i w):Halts s i ⟨w,d,l⟩ j:=by
 cases h with
 | one h1=>exact h1.halts hi d l (.inl hw)
 | range h1 h2 h3=>
  have g:=(h1.goes d l hw).trans (Goes.dash h2 d l);exact g.halts (h3.halts (g.le.2 hi) d l (.inr rfl))
theorem It.next {s:ByteArray} {i j:Nat} {v u:Int} {r:Bool} (h:It s i j v u r) (hn:pkb s j≠93):Ist s j (if r then 11 else 7):=by
 cases h with
 | one h1 h2=>exact .inr (.inr (.inl ⟨rfl,hn,h2⟩))
 | range h1 h2 h3=>exact .inr (.inr (.inr ⟨rfl,hn⟩))
theorem Cl.goes {s:ByteArray} {i k:Nat} {T T':Nat→Bool} {D D':Bool} (h:Cl s i T D k T' D'):∀{w:Int} (d l:Int),Ist s i w→Goes s i ⟨w,d,l⟩ k ⟨3,d,l⟩:=by
 induction h with
 | @done i j lo hi r T D h1 h2=>
  intro w d l hw;refine (h1.goes d l hw).trans (.by (by omega) ?_ (by decide) (by decide));rw [stp_item (by cases r <;> decide),h2];cases r <;> rfl
 | more h1 h2 _ ih=>
  intro w d l hw;exact (h1.goes d l hw).trans (ih d l (h1.next h2))
theorem ClF.halts {s:ByteArray} {i k:Nat} (h:ClF s i k):i≤s.size→∀{w:Int} (d l:Int),Ist s i w→Halts s i ⟨w,d,l⟩ k:=by
 induction h with
 | here h1=>
  intro hi w d l hw;exact h1.halts hi d l hw
 | more h1 h2 _ ih=>
  intro hi w d l hw;have g:=h1.goes d l hw;exact g.halts (ih (g.le.2 hi) d l (h1.next h2))
def NoStar (b:Int):Prop:=b≠42∧b≠43∧b≠63
def Aft (s:ByteArray):Nt→Nat→Nat→Prop
 | .atom,_,_=>True
 | .pcR _ _,_,j=>NoStar (pkb s j)
 | .pc,_,j=>NoStar (pkb s j)
 | .brR _ _,i,j=>NoStar (pkb s i)→NoStar (pkb s j)∧¬BegAtom (pkb s j)
 | .br,_,j=>NoStar (pkb s j)∧¬BegAtom (pkb s j)
 | .paR _ _,i,j=>NoStar (pkb s i)∧¬BegAtom (pkb s i)→NoStar (pkb s j)∧¬BegAtom (pkb s j)∧pkb s j≠124
 | .pa,_,j=>NoStar (pkb s j)∧¬BegAtom (pkb s j)∧pkb s j≠124
theorem P.aft {s:ByteArray} {t:Nt} {i j:Nat} {a:Re} {D:Bool} (h:P s t i j a D):Aft s t i j:=by
 induction h with
 | any=>trivial
 | chr=>trivial
 | esc=>trivial
 | cls=>trivial
 | ncls=>trivial
 | grp=>trivial
 | pcR0 h1 h2 h3=>exact⟨h1,h2,h3⟩
 | star _ _ ih=>exact ih
 | plus _ _ ih=>exact ih
 | opt _ _ ih=>exact ih
 | pc _ _ _ ih=>exact ih
 | brR0 h=>exact fun k=>⟨k,h⟩
 | brR _ _ _ ih1 ih2=>exact fun _=>ih2 ih1
 | br _ _ ih1 ih2=>exact ih2 ih1
 | paR0 h=>exact fun k=>⟨k.1,k.2,h⟩
 | paR _ _ _ ih1 ih2=>exact fun _=>ih2 ih1
 | pa _ _ ih1 ih2=>exact ih2 ih1
def Pst (s:ByteArray) (i:Nat) (w:Int):Prop:=w=2∨(w=3∧BegAtom (pkb s i))
theorem stp_beg {s:ByteArray} {i:Nat} {w:Int} (hw:Pst s i w) (_hb:w=2∨BegAtom (pkb s i)) (d l:Int):stp ⟨w,d,l⟩ (pkb s i)=mAtom (pkb s i) d:=by
 rcases hw with rfl | ⟨rfl,h⟩
 ·rfl
 ·unfold BegAtom at h
  show mMore _ _=_;unfold mMore;rw [if_neg (by omega),if_neg (by omega),if_neg (by omega),if_neg (by omega)]
def Nt.begins:Nt→Prop
 | .atom=>True
 | .pc=>True
 | .br=>True
 | .pa=>True
 | _=>False
def Nst (s:ByteArray) (t:Nt) (i:Nat) (w:Int):Prop:=(t.begins∧Pst s i w)∨(¬t.begins∧w=3)
theorem begins_or {s:ByteArray} {t:Nt} {i:Nat} {w:Int} (h:Nst s t i w) (ht:t.begins):Pst s i w:=by
 rcases h with h | h
 ·exact h.2
 ·exact absurd ht h.1
theorem rest_or {s:ByteArray} {t:Nt} {i:Nat} {w:Int} (h:Nst s t i w) (ht:¬t.begins):w=3:=by
 rcases h with h | h
 ·exact absurd h.1 ht
 ·exact h.2
theorem Goes.more {s:ByteArray} {i:Nat} {d l w':Int} (h:pkb s i≠-1) (h1:mMore (pkb s i) d=(w',d)) (h0:w'≠0) (h2:w'≠16):Goes s i ⟨3,d,l⟩ (i+1) ⟨w',d,l⟩:=.by h h1 h0 h2
theorem beg_of {s:ByteArray} {i:Nat} {c:Int} (h:pkb s i=c) (hc:BegAtom c):BegAtom (pkb s i):=by rw [h];exact hc
theorem Goes.bar {s:ByteArray} {i:Nat} (h1:pkb s i=124) (d l:Int):Goes s i ⟨3,d,l⟩ (i+1) ⟨2,d,l⟩:=.more (by omega) (by rw [h1];rfl) (by decide) (by decide)
theorem Goes.class' {s:ByteArray} {i:Nat} {w:Int} (h1:pkb s i=91) (hw:Pst s i w) (d l:Int):Goes s i ⟨w,d,l⟩ (i+1) ⟨5,d,l⟩:=
 .by (by omega) (by rw [stp_beg hw (.inr (beg_of h1 (by decide))),h1];rfl) (by decide) (by decide)
theorem Goes.open {s:ByteArray} {i:Nat} {w:Int} (h1:pkb s i=40) (hw:Pst s i w) (d l:Int):Goes s i ⟨w,d,l⟩ (i+1) ⟨2,d+1,l⟩:=
 .by (by omega) (by rw [stp_beg hw (.inr (beg_of h1 (by decide))),h1];rfl) (by decide) (by decide)
theorem Goes.not {s:ByteArray} {i:Nat} (h1:pkb s i=94) (d l:Int):Goes s i ⟨5,d,l⟩ (i+1) ⟨6,d,l⟩:=.by (by omega) (by rw [h1];rfl) (by decide) (by decide)
theorem P.goes {s:ByteArray} {t:Nt} {i j:Nat} {a:Re} {D:Bool} (h:P s t i j a D):∀(w d l:Int),0≤d→Nst s t i w→Goes s i ⟨w,d,l⟩ j ⟨3,d,l⟩:=by
 induction h with
 | any h1=>
  intro w d l hd hw;have hp:=begins_or hw trivial;have hb:=beg_of h1 (by decide);refine .by (by omega) ?_ (by decide) (by decide)
  rw [stp_beg hp (.inr hb),h1];rfl
 | chr hb h1 h2 h3 h4=>
  intro w d l hd hw;have hp:=begins_or hw trivial;have hb':=hb;unfold BegAtom at hb';refine .by (by omega) ?_ (by decide) (by decide)
  rw [stp_beg hp (.inr hb)];unfold mAtom whenM;rw [if_neg (by omega),if_neg (by omega),if_neg (by omega),if_neg (by omega),if_pos (by unfold Plain;omega)]
 | esc h1 h2=>
  intro w d l hd hw;have hp:=begins_or hw trivial;have hb:=beg_of h1 (by decide);have k:=h2.ok;refine (Goes.by (w':=4) (d':=d) (by omega) ?_ (by decide) (by decide)).trans (.by ?_ ?_ (by decide) (by decide))
  ·rw [stp_beg hp (.inr hb),h1]
   rfl
  ·unfold EscOK at k;omega
  ·show (whenM (EscOK _) 3,d)=_
   unfold whenM;rw [if_pos k]
 | cls h1 h2 h3=>
  intro w d l hd hw;have hp:=begins_or hw trivial;have hb:=beg_of h1 (by decide);refine (Goes.by (w':=5) (d':=d) (by omega) ?_ (by decide) (by decide)).trans (h3.goes d l (.inl ⟨rfl,h2⟩));rw [stp_beg hp (.inr hb),h1];rfl
 | ncls h1 h2 h3=>
  intro w d l hd hw;have hp:=begins_or hw trivial;have hb:=beg_of h1 (by decide);refine (Goes.by (w':=5) (d':=d) (by omega) ?_ (by decide) (by decide)).trans ((Goes.by (w':=6) (d':=d) (by omega) ?_ (by decide) (by decide)).trans (h3.goes d l (.inr (.inl rfl))))
  ·rw [stp_beg hp (.inr hb),h1]
   rfl
  ·rw [h2]
   rfl
 | grp h1 _ h3 ih=>
  intro w d l hd hw;have hp:=begins_or hw trivial;have hb:=beg_of h1 (by decide);refine (Goes.by (w':=2) (d':=d+1) (by omega) ?_ (by decide) (by decide)).trans ((ih 2 (d+1) l (by omega) (.inl ⟨trivial,.inl rfl⟩)).trans (.by (by omega) ?_ (by decide) (by decide)))
  ·rw [stp_beg hp (.inr hb),h1]
   rfl
  ·show mMore _ (d+1)=_
   unfold mMore whenM;rw [h3,if_neg (by omega),if_neg (by omega),if_pos rfl,if_pos (by omega),show d+1-1=d by omega]
 | pcR0=>
  intro w d l hd hw;rw [rest_or hw id];exact .refl _ _
 | star h1 _ ih=>
  intro w d l hd hw;rw [rest_or hw id];exact (Goes.more (by omega) (by rw [h1];rfl) (by decide) (by decide)).trans (ih 3 d l hd (.inr ⟨id,rfl⟩))
 | plus h1 _ ih=>
  intro w d l hd hw;rw [rest_or hw id];exact (Goes.more (by omega) (by rw [h1];rfl) (by decide) (by decide)).trans (ih 3 d l hd (.inr ⟨id,rfl⟩))
 | opt h1 _ ih=>
  intro w d l hd hw;rw [rest_or hw id];exact (Goes.more (by omega) (by rw [h1];rfl) (by decide) (by decide)).trans (ih 3 d l hd (.inr ⟨id,rfl⟩))
 | pc _ _ ih1 ih2=>
  intro w d l hd hw;exact (ih1 w d l hd (.inl ⟨trivial,begins_or hw trivial⟩)).trans (ih2 3 d l hd (.inr ⟨id,rfl⟩))
 | brR0=>
  intro w d l hd hw;rw [rest_or hw id];exact .refl _ _
 | brR h1 _ _ ih1 ih2=>
  intro w d l hd hw;rw [rest_or hw id];exact (ih1 3 d l hd (.inl ⟨trivial,.inr ⟨rfl,h1⟩⟩)).trans (ih2 3 d l hd (.inr ⟨id,rfl⟩))
 | br _ _ ih1 ih2=>
  intro w d l hd hw;exact (ih1 w d l hd (.inl ⟨trivial,begins_or hw trivial⟩)).trans (ih2 3 d l hd (.inr ⟨id,rfl⟩))
 | paR0=>
  intro w d l hd hw;rw [rest_or hw id];exact .refl _ _
 | paR h1 _ _ ih1 ih2=>
  intro w d l hd hw;rw [rest_or hw id];exact (Goes.more (by omega) (by rw [h1];rfl) (by decide) (by decide)).trans ((ih1 2 d l hd (.inl ⟨trivial,.inl rfl⟩)).trans (ih2 3 d l hd (.inr ⟨id,rfl⟩)))
 | pa _ _ ih1 ih2=>
  intro w d l hd hw;exact (ih1 w d l hd (.inl ⟨trivial,begins_or hw trivial⟩)).trans (ih2 3 d l hd (.inr ⟨id,rfl⟩))
def Fst (s:ByteArray):Nf→Nat→Int→Prop
 | .brR,_,w=>w=3
 | .paR,_,w=>w=3
 | _,i,w=>Pst s i w
theorem PF.halts {s:ByteArray} {t:Nf} {i k:Nat} (h:PF s t i k):i≤s.size→∀(w d l:Int),0≤d→Fst s t i w→Halts s i ⟨w,d,l⟩ k:=by
 induction h with
 | none h1=>
  intro hi w d l hd hw
  have hw2:w=2:=by
   rcases hw with h | h
   ·exact h
   ·exact absurd h.2 h1
  subst hw2;refine .here hi (by decide) fun hn=>?_
  show (mAtom _ _).1=16;unfold BegAtom at h1;unfold mAtom whenM;rw [if_neg (by omega),if_neg (by omega),if_neg (by omega),if_neg (by omega),if_neg (by unfold Plain;omega)]
 | esc h1 h2=>
  intro hi w d l hd hw;have hb:=beg_of h1 (by decide);have hlt:_<s.size:=pkb_lt (s:=s) (by rw [h1];decide);refine (Goes.by (w':=4) (d':=d) (by omega) ?_ (by decide) (by decide)).halts (.here (by omega) (by decide) fun _=>?_)
  ·rw [stp_beg hw (.inr hb),h1]
   rfl
  ·show whenM (EscOK _) 3=16
   unfold whenM;rw [if_neg h2]
 | cls h1 h2 h3=>
  intro hi w d l hd hw;have g:=Goes.class' h1 hw d l;exact g.halts (h3.halts (g.le.2 hi) d l (.inl ⟨rfl,h2⟩))
 | ncls h1 h2 h3=>
  intro hi w d l hd hw;have g:=Goes.class' h1 hw d l;have g2:=g.trans (Goes.not h2 d l);exact g2.halts (h3.halts (g2.le.2 hi) d l (.inr (.inl rfl)))
 | grp h1 _ ih=>
  intro hi w d l hd hw;have g:=Goes.open h1 hw d l;exact g.halts (ih (g.le.2 hi) 2 (d+1) l (by omega) (.inl rfl))
 | @grp' i j a D h1 h2 h3=>
  intro hi w d l hd hw;have g:=Goes.open h1 hw d l;have g2:=g.trans (h2.goes 2 (d+1) l (by omega) (.inl ⟨trivial,.inl rfl⟩));have a:=h2.aft;simp only [Aft,NoStar,BegAtom] at a;refine g2.halts (.here (g2.le.2 hi) (by decide) fun hn=>?_);show (mMore _ (d+1)).1=16;unfold mMore mAtom whenM;by_cases hs:pkb s j=32
  ·rw [if_neg (by omega),if_neg (by omega),if_neg (by omega),if_pos hs,if_neg (by omega)]
  ·rw [if_neg (by omega),if_neg (by omega),if_neg (by omega),if_neg hs,if_neg (by omega),if_neg (by omega),if_neg (by omega),if_neg (by omega),if_neg (by unfold Plain;omega)]
 | pc _ ih=>exact ih
 | brR1 h1 _ ih=>
  intro hi w d l hd hw;exact ih hi w d l hd (.inr ⟨hw,h1⟩)
 | brR2 h1 h2 _ ih=>
  intro hi w d l hd hw;have g:=h2.goes w d l hd (.inl ⟨trivial,.inr ⟨hw,h1⟩⟩);exact g.halts (ih (g.le.2 hi) 3 d l hd rfl)
 | br1 _ ih=>exact ih
 | br2 h2 _ ih=>
  intro hi w d l hd hw;have g:=h2.goes w d l hd (.inl ⟨trivial,hw⟩);exact g.halts (ih (g.le.2 hi) 3 d l hd rfl)
 | paR1 h1 _ ih=>
  intro hi w d l hd hw;have hw':w=3:=hw;subst hw';have g:=Goes.bar h1 d l;exact g.halts (ih (g.le.2 hi) 2 d l hd (.inl rfl))
 | paR2 h1 h2 _ ih=>
  intro hi w d l hd hw;have hw':w=3:=hw;subst hw';have g:=Goes.bar h1 d l;have g2:=g.trans (h2.goes 2 d l hd (.inl ⟨trivial,.inl rfl⟩));exact g2.halts (ih (g2.le.2 hi) 3 d l hd rfl)
 | pa1 _ ih=>exact ih
 | pa2 h2 _ ih=>
  intro hi w d l hd hw;have g:=h2.goes w d l hd (.inl ⟨trivial,hw⟩);exact g.halts (ih (g.le.2 hi) 3 d l hd rfl)
end Pure
namespace Pure
structure Ln where
 mode:Int
 emit:Int
 act:Int
 md:Int
 re:Re
 down:Bool
def Letter (b:Int):Prop:=97≤b∧b≤100
def EmitB (b e:Int):Prop:=(b=101∧e=1)∨(b=115∧e=0)
inductive Act (s:ByteArray):Nat→Nat→Int→Int→Int→Prop where
 | plain {i:Nat} {e:Int}:EmitB (pkb s i) e→pkb s (i+1)≠60→pkb s (i+1)≠62→pkb s (i+1)≠43→Act s i (i+1) e 0 0
 | pop {i:Nat} {e:Int}:EmitB (pkb s i) e→pkb s (i+1)=60→Act s i (i+2) e 3 0
 | to {i:Nat} {e:Int}:EmitB (pkb s i) e→pkb s (i+1)=62→Letter (pkb s (i+2))→Act s i (i+3) e 1 (pkb s (i+2)-97)
 | push {i:Nat} {e:Int}:EmitB (pkb s i) e→pkb s (i+1)=43→Letter (pkb s (i+2))→Act s i (i+3) e 2 (pkb s (i+2)-97)
inductive ActF (s:ByteArray):Nat→Nat→Prop where
 | none {i:Nat}:pkb s i≠101→pkb s i≠115→ActF s i i
 | mode {i:Nat} {e:Int}:EmitB (pkb s i) e→pkb s (i+1)=62∨pkb s (i+1)=43→¬Letter (pkb s (i+2))→ActF s i (i+2)
inductive LnP (s:ByteArray):Nat→Nat→Ln→Prop where
 | mk {i j k:Nat} {a:Re} {D:Bool} {e c m:Int}:Letter (pkb s i)→pkb s (i+1)=32→P s .pa (i+2) j a D→pkb s j=32→Act s (j+1) k e c m→LnP s i k ⟨pkb s i-97,e,c,m,a,D⟩
inductive LnF (s:ByteArray):Nat→Nat→Prop where
 | mode {i:Nat}:¬Letter (pkb s i)→LnF s i i
 | blank {i:Nat}:Letter (pkb s i)→pkb s (i+1)≠32→LnF s i (i+1)
 | pat {i k:Nat}:Letter (pkb s i)→pkb s (i+1)=32→PF s .pa (i+2) k→LnF s i k
 | blank' {i j:Nat} {a:Re} {D:Bool}:Letter (pkb s i)→pkb s (i+1)=32→P s .pa (i+2) j a D→pkb s j≠32→LnF s i j
 | act {i j k:Nat} {a:Re} {D:Bool}:Letter (pkb s i)→pkb s (i+1)=32→P s .pa (i+2) j a D→pkb s j=32→ActF s (j+1) k→LnF s i k
inductive Lns (s:ByteArray):Nat→List Ln→List Ln→Prop where
 | done {i:Nat} {x:Ln} {ls:List Ln}:LnP s i s.size x→Lns s i ls (ls++[x])
 | more {i j:Nat} {x:Ln} {ls all:List Ln}:LnP s i j x→pkb s j=10→ls.length+1<16→Lns s (j+1) (ls++[x]) all→Lns s i ls all
inductive LnsF (s:ByteArray):Nat→Nat→Nat→Prop where
 | here {i k n:Nat}:LnF s i k→LnsF s i n k
 | full {i j n:Nat} {x:Ln}:LnP s i j x→j≠s.size→n+1=16∨pkb s j≠10→LnsF s i n j
 | more {i j k n:Nat} {x:Ln}:LnP s i j x→pkb s j=10→n+1<16→LnsF s (j+1) (n+1) k→LnsF s i n k
def Behind (s:ByteArray) (k:Nat) (w:Int):Prop:=(w=13∧pkb s k≠60∧pkb s k≠62∧pkb s k≠43)∨w=15
theorem Act.goes {s:ByteArray} {i k:Nat} {e c m:Int} (h:Act s i k e c m) (l:Int):∃w,Behind s k w∧Goes s i ⟨12,0,l⟩ k ⟨w,0,l⟩:=by
 have one:∀{i:Nat} {e:Int},EmitB (pkb s i) e→Goes s i ⟨12,0,l⟩ (i+1) ⟨13,0,l⟩:=by
  intro i e he;unfold EmitB at he;refine .by (by omega) ?_ (by decide) (by decide)
  show (mAct 12 _ _,(0:Int))=_;unfold mAct whenM;rw [if_neg (by decide),if_neg (by decide),if_pos rfl,if_pos (by omega)]
 have two:∀{i:Nat},pkb s i=62∨pkb s i=43→Goes s i ⟨13,0,l⟩ (i+1) ⟨14,0,l⟩:=by
  intro i he;refine .by (by omega) ?_ (by decide) (by decide)
  show (mAct 13 _ _,(0:Int))=_;unfold mAct;rw [if_neg (by decide),if_neg (by decide),if_neg (by decide),if_neg (by decide),if_pos ⟨rfl,he⟩]
 have three:∀{i:Nat},Letter (pkb s i)→Goes s i ⟨14,0,l⟩ (i+1) ⟨15,0,l⟩:=by
  intro i he;unfold Letter at he;refine .by (by omega) ?_ (by decide) (by decide)
  show (mAct 14 _ _,(0:Int))=_;unfold mAct whenM;rw [if_neg (by decide),if_neg (by decide),if_neg (by decide),if_pos rfl,if_pos he]
 cases h with
 | plain h1 h2 h3 h4=>exact⟨13,.inl ⟨rfl,h2,h3,h4⟩,one h1⟩
 | pop h1 h2=>
  refine⟨15,.inr rfl,(one h1).trans (.by (by omega) ?_ (by decide) (by decide))⟩;rw [h2];rfl
 | to h1 h2 h3=>exact⟨15,.inr rfl,(one h1).trans ((two (.inl h2)).trans (three h3))⟩
 | push h1 h2 h3=>exact⟨15,.inr rfl,(one h1).trans ((two (.inr h2)).trans (three h3))⟩
theorem ActF.halts {s:ByteArray} {i k:Nat} (h:ActF s i k) (hi:i≤s.size) (l:Int):Halts s i ⟨12,0,l⟩ k:=by
 cases h with
 | none h1 h2=>
  refine .here hi (by decide) fun _=>?_
  show mAct 12 _ l=16;unfold mAct whenM;rw [if_neg (by decide),if_neg (by decide),if_pos rfl,if_neg (by omega)]
 | mode h1 h2 h3=>
  have g:Goes s i ⟨12,0,l⟩ (i+1) ⟨13,0,l⟩:=by
   unfold EmitB at h1;refine .by (by omega) ?_ (by decide) (by decide)
   show (mAct 12 _ _,(0:Int))=_;unfold mAct whenM;rw [if_neg (by decide),if_neg (by decide),if_pos rfl,if_pos (by omega)]
  have g2:Goes s (i+1) ⟨13,0,l⟩ (i+1+1) ⟨14,0,l⟩:=by
   refine .by (by omega) ?_ (by decide) (by decide)
   show (mAct 13 _ _,(0:Int))=_;unfold mAct;rw [if_neg (by decide),if_neg (by decide),if_neg (by decide),if_neg (by decide),if_pos ⟨rfl,h2⟩]
  have g3:=g.trans g2;refine g3.halts (.here (g3.le.2 hi) (by decide) fun _=>?_);show mAct 14 _ l=16;unfold mAct whenM;unfold Letter at h3;rw [if_neg (by decide),if_neg (by decide),if_neg (by decide),if_pos rfl,if_neg h3]
theorem Goes.mode {s:ByteArray} {i:Nat} (h:Letter (pkb s i)) (l:Int):Goes s i ⟨0,0,l⟩ (i+1) ⟨1,0,l⟩:=by
 unfold Letter at h
 refine .by (by omega) ?_ (by decide) (by decide)
 show (mAct 0 _ _,(0:Int))=_
 unfold mAct whenM
 rw [if_pos rfl,if_pos h]
theorem Goes.blank {s:ByteArray} {i:Nat} (h:pkb s i=32) (l:Int):Goes s i ⟨1,0,l⟩ (i+1) ⟨2,0,l⟩:=by
 refine .by (by omega) ?_ (by decide) (by decide)
 rw [h]
 rfl
theorem Goes.head {s:ByteArray} {i:Nat} (h:Letter (pkb s i)) (h1:pkb s (i+1)=32) (l:Int):Goes s i ⟨0,0,l⟩ (i+2) ⟨2,0,l⟩:=(Goes.mode h l).trans (Goes.blank h1 l)
theorem Goes.pat {s:ByteArray} {i j:Nat} {a:Re} {D:Bool} (h:Letter (pkb s i)) (h1:pkb s (i+1)=32) (h2:P s .pa (i+2) j a D) (l:Int):Goes s i ⟨0,0,l⟩ j ⟨3,0,l⟩:=
 (Goes.head h h1 l).trans (h2.goes 2 0 l (by decide) (.inl ⟨trivial,.inl rfl⟩))
theorem Goes.toAct {s:ByteArray} {i j:Nat} {a:Re} {D:Bool} (h:Letter (pkb s i)) (h1:pkb s (i+1)=32) (h2:P s .pa (i+2) j a D) (h3:pkb s j=32) (l:Int):Goes s i ⟨0,0,l⟩ (j+1) ⟨12,0,l⟩:=by
 refine (Goes.pat h h1 h2 l).trans (.by (by omega) ?_ (by decide) (by decide))
 rw [h3]
 rfl
theorem LnP.goes {s:ByteArray} {i k:Nat} {x:Ln} (h:LnP s i k x) (l:Int):∃w,Behind s k w∧Goes s i ⟨0,0,l⟩ k ⟨w,0,l⟩:=by
 cases h with
 | mk h1 h2 h3 h4 h5=>
  obtain⟨w,hb,g⟩:=h5.goes l;exact⟨w,hb,(Goes.toAct h1 h2 h3 h4 l).trans g⟩
theorem LnF.halts {s:ByteArray} {i k:Nat} (h:LnF s i k) (hi:i≤s.size) (l:Int):Halts s i ⟨0,0,l⟩ k:=by
 cases h with
 | mode h1=>
  refine .here hi (by decide) fun _=>?_
  show mAct 0 _ l=16;unfold Letter at h1;unfold mAct whenM;rw [if_pos rfl,if_neg h1]
 | blank h1 h2=>
  have g:=Goes.mode h1 l;refine g.halts (.here (g.le.2 hi) (by decide) fun _=>?_);show mAct 1 _ l=16;unfold mAct whenM;rw [if_neg (by decide),if_pos rfl,if_neg h2]
 | pat h1 h2 h3=>
  have g:=Goes.head h1 h2 l;exact g.halts (h3.halts (g.le.2 hi) 2 0 l (by decide) (.inl rfl))
 | blank' h1 h2 h3 h4=>
  have g:=Goes.pat h1 h2 h3 l;have a:=h3.aft;simp only [Aft,NoStar,BegAtom] at a;refine g.halts (.here (g.le.2 hi) (by decide) fun hn=>?_);show (mMore _ 0).1=16;unfold mMore mAtom whenM;by_cases hs:pkb s k=41
  ·rw [if_neg (by omega),if_neg (by omega),if_pos hs,if_neg (by omega)]
  ·rw [if_neg (by omega),if_neg (by omega),if_neg (by omega),if_neg h4,if_neg (by omega),if_neg (by omega),if_neg (by omega),if_neg (by omega),if_neg (by unfold Plain;omega)]
 | act h1 h2 h3 h4 h5=>
  have g:=Goes.toAct h1 h2 h3 h4 l;exact g.halts (h5.halts (g.le.2 hi) l)
theorem behind_stp {s:ByteArray} {k:Nat} {w:Int} (h:Behind s k w) (l:Int):stp ⟨w,0,l⟩ (pkb s k)=(whenM (pkb s k=10∧l<16) 0,0):=by
 have e:stp ⟨w,0,l⟩ (pkb s k)=(mAct w (pkb s k) l,0):=by
  rcases h with h | h
  ·rw [h.1];rfl
  ·rw [h];rfl
 rw [e]
 unfold Behind at h
 unfold mAct
 rw [if_neg (by omega),if_neg (by omega),if_neg (by omega),if_neg (by omega),if_neg (by omega),if_neg (by omega)]
theorem Goes.line {s:ByteArray} {i j:Nat} {x:Ln} (h:LnP s i j x) (h1:pkb s j=10) {l:Int} (hl:l<16):Goes s i ⟨0,0,l⟩ (j+1) ⟨0,0,l+1⟩:=by
 obtain⟨w,hb,g⟩:=h.goes l
 have e:=behind_stp hb l
 have hw:w≠0:=by unfold Behind at hb;omega
 unfold whenM at e
 rw [if_pos ⟨h1,hl⟩] at e
 refine g.trans (.one (by omega) (by rw [e];decide) ?_)
 unfold nxt
 rw [e]
 simp [hw]
theorem Lns.goes {s:ByteArray} {i:Nat} {ls all:List Ln} (h:Lns s i ls all):∃q:Mq,Goes s i ⟨0,0,(ls.length:Int)+1⟩ s.size q∧(q.w=13∨q.w=15):=by
 induction h with
 | done h1=>
  obtain⟨w,hb,g⟩:=h1.goes _;exact⟨_,g,by unfold Behind at hb;show w=13∨w=15;omega⟩
 | more h1 h2 h3 _ ih=>
  obtain⟨q,g,hq⟩:=ih;refine⟨q,(Goes.line h1 h2 (by omega)).trans ?_,hq⟩;simpa using g
theorem LnsF.halts {s:ByteArray} {i n k:Nat} (h:LnsF s i n k):i≤s.size→Halts s i ⟨0,0,(n:Int)+1⟩ k:=by
 induction h with
 | here h1=>exact fun hi=>h1.halts hi _
 | @full i j n x h1 h2 h3=>
  intro hi;obtain⟨w,hb,g⟩:=h1.goes ((n:Int)+1);have hj:=g.le.2 hi;have e:=behind_stp hb ((n:Int)+1);unfold whenM at e;rw [if_neg (by omega)] at e;have hlt:j<s.size:=by omega
  rw [pkb_bt hlt] at e;exact⟨_,g,.inr ⟨hlt,by rw [e]⟩⟩
 | @more i j k n x h1 h2 h3 _ ih=>
  intro hi;have g:=Goes.line h1 h2 (l:=(n:Int)+1) (by omega);have:=ih (g.le.2 hi);refine g.halts ?_
  simpa using this
def q0:Mq:=⟨0,0,1⟩
theorem Lns.accepts {s:ByteArray} {all:List Ln} (h:Lns s 0 [] all):∃q:Mq,Goes s 0 q0 s.size q∧(q.w=13∨q.w=15):=h.goes
theorem LnsF.at {s:ByteArray} {k:Nat} (h:LnsF s 0 0 k):Halts s 0 q0 k:=h.halts (Nat.zero_le _)
end Pure
end Go.Proofs.YtmccnmgaoppogaaGreat
