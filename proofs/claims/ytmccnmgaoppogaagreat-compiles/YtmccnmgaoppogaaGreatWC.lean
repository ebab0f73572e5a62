/-
 The walks: bytes that are written. (weirref)
 The walks: the image of a program. (images)
-/
import Derived.Test.YtmccnmgaoppogaaGreatMeA
import Derived.Laws.BytesArg
import Derived.Test.YtmccnmgaoppogaaGreatWA
import Derived.Test.YtmccnmgaoppogaaGreatPuA
namespace Go.Proofs.YtmccnmgaoppogaaGreat
set_option maxRecDepth 100000
set_option maxHeartbeats 8000000
open Go.RowKit
theorem Tryz.info5 : (Tryz.prog.info? 5).map (fun i=>(i.zero,i.size,i.bytes))=some (some (.int .u8 0),1,1):=by kernel_rfl
def u8s (xs:List Int):List Value:=xs.map (Value.int .u8)
theorem u8s_append (xs ys:List Int):u8s (xs++ys)=u8s xs++u8s ys:=by simp [u8s]
def Bytes (B:Nat) (w:World) (v:Value) (xs:List Int):Prop:=w.ownsRow B 5 1 v xs.length (u8s xs)
theorem cell_list {w:World} {xs:List Value} {t:TypeId} {n:Nat} (hn:n=w.heap.size) (j:Nat) (u:Value) (h:xs[j]?=some u):(w.alloc (.cells xs.toArray t)).cell? ((⟨n,0,none⟩:Addr).add j)=some u:=by
 subst hn
 have:(w.alloc (.cells xs.toArray t)).cell? ⟨w.heap.size,j,none⟩=some u:=by
  rw [World.cell?_alloc_mark];simpa using h
 by_cases hj:j=0
 ·subst hj;simpa [Addr.add] using this
 ·simpa [Addr.add,hj] using this
theorem Bytes.on {B:Nat} {w:World} {v:Value} {xs ys:List Int} {n:Nat} (hn:n=xs.length+ys.length) (h:w.ownsRow B 5 1 v n (u8s xs++u8s ys)):Bytes B w v (xs++ys):=by
 subst hn
 unfold Bytes
 rw [u8s_append,List.length_append]
 exact h
theorem own_lit {B:Nat} {w:World} {xs:List Int} {n g:Nat} (hB:B≤w.heap.size) (hn:n=xs.length) (hm:n≤1000000) (hg:g=w.heap.size):Bytes B (w.alloc (.cells (u8s xs).toArray 5)) (.slice (some ⟨g,0,none⟩) n n) xs:=by
 subst hn;subst hg
 refine⟨by simp [u8s],.inr ⟨w.heap.size,xs.length,(u8s xs).toArray,rfl,hB,heap_alloc_new w _,lr_,by unfold maxLen;omega,by simp [u8s],?_⟩⟩
 rw [List.take_of_length_le (by simp [u8s])]
def RetStr (xs:List Int) (w:World) (e:Ending) (w':World):Prop:=e=.returned (.string (strOfNums xs))∧Below w.heap.size w w'
theorem Bytes.str {B:Nat} {w:World} {v:Value} {xs:List Int} (h:Bytes B w v xs) (hx:0<xs.length) :
  ∃g cap,v=.slice (some ⟨g,0,none⟩) xs.length cap∧(convert 152 9 (.slice (some ⟨g,0,none⟩) xs.length cap)).run Tryz.prog w=.ok (.string (strOfNums xs)) w:=by
 obtain⟨ao,cap,h1,_,_,h4⟩:=own_read h
 obtain⟨b,rfl,_,_,hc⟩:=h4 0 (by omega)
 refine⟨b,cap,h1,run_convert_bytes_arg w 152 5 Tryz.underlying152 Tryz.underlying5 b 0 xs.length cap xs rfl (fun i hi=>?_) 9 Tryz.underlying9⟩
 rw [Nat.zero_add]
 exact hc i _ (by simp [u8s,List.getElem?_eq_getElem hi])
def RetBytes (B:Nat) (xs:List Int) (w:World) (e:Ending) (w':World):Prop:=∃v,e=.returned v∧Bytes B w' v xs∧Below B w w'
structure St (B:Nat) (W0 w:World) (v:Value) (xs:List Int) (b:Nat) (C:Array Value) (t:TypeId):Prop where
 bel:Below B W0 w
 byt:Bytes B w v xs
 loc:w.heap[b]?=some (.cells C t (0,0))
 sz:B≤w.heap.size
theorem loc_cell {w:World} {b:Nat} {C:Array Value} {t:TypeId} (h:w.heap[b]?=some (.cells C t (0,0))) {j:Nat} {u:Value} (hj:C[j]?=some u):w.cell? ⟨b,j,none⟩=some u:=by
 simp [World.cell?,h,hj]
theorem St.app {B:Nat} {W0 w w1:World} {v v1:Value} {xs ys:List Int} {b n:Nat} {C:Array Value} {t:TypeId} {o:Obj} (s:St B W0 w v xs b C t) (ht:t≠5) (hn:n=xs.length+ys.length)
  (h:w1.ownsRow B 5 1 v1 n (u8s xs++u8s ys)) (hg:(w.alloc o).grownBy w1 v.ownBlock):St B W0 w1 v1 (xs++ys) b C t:=by
 have hlt:=World.ownsRow.lt s.byt
 have hsz:=hg.size
 simp only [World.size_alloc] at hsz
 have hbl:b<w.heap.size:=(Array.getElem?_eq_some_iff.1 s.loc).1
 have hne:some b≠v.ownBlock:=by
  intro e;rcases s.byt.2 with ⟨hv,_⟩ | ⟨g,cap,cur,hv,_,hgg,_⟩
  ·rw [hv] at e;simp [Value.ownBlock] at e
  ·rw [hv] at e
   simp [Value.ownBlock] at e;subst e;rw [s.loc] at hgg;simp at hgg;exact ht hgg.2
 refine⟨(s.bel.alloc s.sz o).grown hg (by simp only [World.size_alloc];have:=s.sz;omega) (fun k hk=>(hlt k hk).1),Bytes.on hn h,?_,by have:=s.sz;omega⟩
 rw [hg.block b (by simp only [World.size_alloc];omega) hne]
 rw [heap_alloc_old w o hbl]
 exact s.loc
theorem St.step {B:Nat} {W0 w:World} {v:Value} {xs:List Int} {b:Nat} {C:Array Value} {t:TypeId} (s:St B W0 w v xs b C t) (o:Obj):St B W0 (w.alloc o) v xs b C t:=
 ⟨s.bel.alloc s.sz o,World.ownsRow.alloc s.byt o,by rw [heap_alloc_old w o (Array.getElem?_eq_some_iff.1 s.loc).1];exact s.loc,by have:=s.sz;simp only [World.size_alloc];omega⟩
theorem St.made {B:Nat} {W0 w1:World} {v:Value} {b:Nat} {C:Array Value} {t:TypeId} (hg:W0.grownBy w1 none) (hB:B≤W0.heap.size) (hown:w1.ownsRow B 5 1 v 0 []) (hloc:W0.heap[b]?=some (.cells C t (0,0))):St B W0 w1 v [] b C t:=by
 have hsz:=hg.size
 have hbl:b<W0.heap.size:=(Array.getElem?_eq_some_iff.1 hloc).1
 refine⟨(Below.refl _ _).grown hg hB (fun k hk=>by cases hk),hown,?_,by omega⟩
 rw [hg.block b hbl (by simp)]
 exact hloc
theorem write_any (ve vr vc:Value) (p:Pure.Prg) (w:World) (hE:Ints w ve p.ents) (hR:Rules w vr p.rules) (hC:Code w vc p.code) (hp:Pure.RightP p) :
  Calls Tryz.prog 26 #[.agg #[ve,vr,vc]] w (RetStr (Pure.img p) w):=by
 obtain⟨i0,hi,hz0,hz1,hz2⟩:=info_parts Tryz.info5
 obtain⟨ae,ce,rfl,he1,he2,hreadE⟩:=hE.read
 obtain⟨ar,cr,rfl,hr1,hr2,hreadR⟩:=hR.read
 obtain⟨ac,cc,rfl,hc1,hc2,hreadC⟩:=hC.read
 clear hE hR hC
 have hm:=hp.1.1
 have hk:=hp.2.1.1
 have hn:=hp.2.2.1.1
 have HP:=hide hp
 clear hp
 have hbox:(w.alloc (.cells #[.slice ae p.ents.length ce,.slice ar p.rules.length cr,.slice ac p.code.length cc] 43)).heap[w.heap.size]?=some (.cells #[.slice ae p.ents.length ce,.slice ar p.rules.length cr,.slice ac p.code.length cc] 43 (0,0)):=heap_alloc_new _ _
 have HBX:=hide hbox
 clear hbox
 go_enter Tryz.func26,Tryz.ntmps26
 go_wp2_with (first | (at_make;refine wpList_make_own _ rfl _ _ 152 rfl (w.heap.size+1) 5 i0 (.int .u8 0) 1 Tryz.underlying152 hi hz0 hz1 _ _ _ (6+p.ents.length*2+p.rules.length*3+p.code.length*5) rfl rfl (by omega) (by rw [hz2];omega) (by unfold maxLen;omega) (by simp) ?_;intro w1 hown1 hgrow1;have s1:=St.made hgrow1 (by simp) hown1 HBX.out;simp only [World.size_alloc] at s1;clear hown1 hgrow1;have k0:=loc_cell (j:=0) s1.loc rfl;have k1:=loc_cell (j:=1) s1.loc rfl;have k2:=loc_cell (j:=2) s1.loc rfl) | (at_builtin;refine wpList_append_own _ rfl (.tmp 26) (.tmp 35) 152 rfl (w.heap.size+1) 5 i0 (.int .u8 0) 1 1 Tryz.underlying152 hi hz0 hz1 hz2 rfl (by decide) _ 0 [] rfl (World.ownsRow.alloc s1.byt _) ⟨w1.heap.size,0,none⟩ 4 4 (u8s [87,82,(p.ents.length:Int),(p.rules.length:Int)]) rfl rfl (cell_list rfl) (by intro u hu;simp [u8s] at hu;rcases hu with rfl | rfl | rfl | rfl <;> rfl) (by unfold maxLen;omega) (by omega) (by have:=s1.sz;simp;omega) ?_;intro v2 w2 hown2 hgrow2 _;have s2:=s1.app (by decide) rfl hown2 hgrow2;clear hown2 hgrow2;have l2:=loc_cell (j:=2) s2.loc rfl) | (at_builtin;refine wpList_append_own _ rfl (.tmp 37) (.tmp 47) 152 rfl (w.heap.size+1) 5 i0 (.int .u8 0) 1 1 Tryz.underlying152 hi hz0 hz1 hz2 rfl (by decide) v2 ([]++[87,82,(p.ents.length:Int),(p.rules.length:Int)]).length (u8s ([]++[87,82,(p.ents.length:Int),(p.rules.length:Int)])) rfl (World.ownsRow.alloc s2.byt _) ⟨w2.heap.size,0,none⟩ 2 2 (u8s [(p.code.length:Int) % 256,(p.code.length:Int) / 256]) rfl rfl (cell_list rfl) (by intro u hu;simp [u8s] at hu;rcases hu with rfl | rfl <;> rfl) (by unfold maxLen;simp) (by simp) (by have:=s2.sz;simp;omega) ?_;intro v3 w3 hown3 hgrow3 _;have s3:=s2.app (by decide) rfl hown3 hgrow3;clear hown3 hgrow3;have m0:=loc_cell (j:=0) s3.loc rfl))
 clear k0 k1 k2 l2 s1 s2
 have S3:Hid (St (w.heap.size+1) (w.alloc (.cells #[.slice ae p.ents.length ce,.slice ar p.rules.length cr,.slice ac p.code.length cc] 43)) w3 v3 (Pure.wA p 0) w.heap.size #[.slice ae p.ents.length ce,.slice ar p.rules.length cr,.slice ac p.code.length cc] 43):=by show St _ _ _ _ _ _ _ _;rw [Pure.wA_zero];exact s3
 clear s3
 go_wp2_with fail
 clear m0
 have hW0b:Below w.heap.size w (w.alloc (.cells #[.slice ae p.ents.length ce,.slice ar p.rules.length cr,.slice ac p.code.length cc] 43)):=bn_ _
 go_loopw [3,52] (fun b i wr=>∃(k:Nat) (b':Value),k≤p.ents.length∧i=.int .i64 k∧b'=b∧St (w.heap.size+1) (w.alloc (.cells #[.slice ae p.ents.length ce,.slice ar p.rules.length cr,.slice ac p.code.length cc] 43)) wr b' (Pure.wA p k) w.heap.size #[.slice ae p.ents.length ce,.slice ar p.rules.length cr,.slice ac p.code.length cc] 43) (fun _ i _=>p.ents.length-(intOf i).toNat)
 case atStart=>exact⟨0,_,Nat.zero_le _,rfl,rfl,S3.out⟩
 case round=>
  clear S3;obtain⟨k,b,hk',rfl,rfl,s0⟩:=hrel;have hbel:=s0.bel;by_cases hlt:k<p.ents.length
  ·obtain⟨b',off,rfl,hb,e0⟩:=hreadE k hlt
   have g0:=(hbel.cell (p:=⟨b',off+k,none⟩) (by simp;omega)).trans ((hW0b.cell (p:=⟨b',off+k,none⟩) hb).trans e0);have hbd:=Pure.right_ent HP.out hlt;have hst:=Pure.wA_step p k hlt;have HST:=hide hst;have hln:=Pure.wA_len p k hk';generalize hxs:Pure.wA p k=xs at *;have hxl:xs.length≤300000:=by omega
   have S0:=hide s0;clear hreadE hreadR hreadC e0 hln hst s0 hxs hbel hW0b
   go_wp2_with (at_builtin;refine wpList_append_own _ rfl (.tmp 56) (.tmp 62) 152 rfl (w.heap.size+1) 5 i0 (.int .u8 0) 1 1 Tryz.underlying152 hi hz0 hz1 hz2 rfl (by decide) b xs.length (u8s xs) rfl (World.ownsRow.alloc S0.out.byt _) ⟨wr.heap.size,0,none⟩ 2 2 (u8s [Pure.ig p.ents k % 256,Pure.ig p.ents k / 256]) rfl rfl (cell_list (by simp)) (by intro u hu;simp [u8s] at hu;rcases hu with rfl | rfl <;> rfl) (by unfold maxLen;omega) (by omega) (by have:=S0.out.sz;simp;omega) ?_;intro v2 w2 hown2 hgrow2 _;have s2:=S0.out.app (by decide) rfl hown2 hgrow2;clear hown2 hgrow2)
   have s2':=s2;rw [←HST.out] at s2';clear s2 g0
   go_roundw
   case rel=>exact⟨k+1,_,by omega,by go_num,rfl,s2'⟩
   case measure=>simp [intOf];omega
  ·have hke:k=p.ents.length:=by omega
   subst hke;have S0:Hid (St (w.heap.size+1) (w.alloc (.cells #[.slice ae p.ents.length ce,.slice ar p.rules.length cr,.slice ac p.code.length cc] 43)) wr b (Pure.wB p 0) w.heap.size #[.slice ae p.ents.length ce,.slice ar p.rules.length cr,.slice ac p.code.length cc] 43):=by show St _ _ _ _ _ _ _ _;rw [Pure.wB_zero];exact s0
   have m1:=loc_cell (j:=1) s0.loc rfl;clear s0 hreadE hlt hk' hbel
   go_wp2_with fail
   clear m1
   go_loopw [3,68] (fun b i wr=>∃(k:Nat) (b':Value),k≤p.rules.length∧i=.int .i64 k∧b'=b∧St (w.heap.size+1) (w.alloc (.cells #[.slice ae p.ents.length ce,.slice ar p.rules.length cr,.slice ac p.code.length cc] 43)) wr b' (Pure.wB p k) w.heap.size #[.slice ae p.ents.length ce,.slice ar p.rules.length cr,.slice ac p.code.length cc] 43) (fun _ i _=>p.rules.length-(intOf i).toNat)
   case atStart=>exact⟨0,_,Nat.zero_le _,rfl,rfl,S0.out⟩
   case round=>
    clear S0;obtain⟨k,b,hk',rfl,rfl,s0⟩:=hrel;have hbel:=s0.bel;have hsz:=s0.sz;by_cases hlt:k<p.rules.length
    ·obtain⟨b',off,rfl,hb,e0,e1,e2⟩:=hreadR k hlt
     have g0:=(hbel.cell (p:=⟨b',off+k*3,none⟩) (by simp;omega)).trans ((hW0b.cell (p:=⟨b',off+k*3,none⟩) hb).trans e0);have g1:=(hbel.cell (p:=⟨b',off+k*3+1,none⟩) (by simp;omega)).trans ((hW0b.cell (p:=⟨b',off+k*3+1,none⟩) hb).trans e1);have g2:=(hbel.cell (p:=⟨b',off+k*3+2,none⟩) (by simp;omega)).trans ((hW0b.cell (p:=⟨b',off+k*3+2,none⟩) hb).trans e2);obtain⟨hx0,hx1,hx2⟩:=Pure.right_rule HP.out hlt;have hst:=Pure.wB_step p k hlt;have HST:=hide hst;have hln:=Pure.wB_len p k hk';generalize Pure.rg p.rules k=r at *;obtain⟨re,ra,rm⟩:=r;simp only at g0 g1 g2 hx0 hx1 hx2 HST;generalize hxs:Pure.wB p k=xs at *;have hxl:xs.length≤300000:=by omega
     have S0:=hide (s0.step (.cells #[.int .i64 re,.int .i64 ra,.int .i64 rm] 59));clear hreadR hreadC e0 e1 e2 hln hst s0 hxs hbel hW0b
     go_wp2_with (at_builtin;refine wpList_append_own _ rfl (.tmp 72) (.tmp 82) 152 rfl (w.heap.size+1) 5 i0 (.int .u8 0) 1 1 Tryz.underlying152 hi hz0 hz1 hz2 rfl (by decide) b xs.length (u8s xs) rfl (World.ownsRow.alloc S0.out.byt _) ⟨wr.heap.size+1,0,none⟩ 3 3 (u8s [re,ra,rm]) rfl rfl (cell_list (by simp)) (by intro u hu;simp [u8s] at hu;rcases hu with rfl | rfl | rfl <;> rfl) (by unfold maxLen;omega) (by omega) (by have:=S0.out.sz;simp;omega) ?_;intro v2 w2 hown2 hgrow2 _;have s2:=S0.out.app (by decide) rfl hown2 hgrow2;clear hown2 hgrow2)
     have s2':=s2;rw [←HST.out] at s2';clear s2 g0 g1 g2
     go_roundw
     case rel=>exact⟨k+1,_,by omega,by go_num,rfl,s2'⟩
     case measure=>simp [intOf];omega
    ·have hke:k=p.rules.length:=by omega
     subst hke;have S0:Hid (St (w.heap.size+1) (w.alloc (.cells #[.slice ae p.ents.length ce,.slice ar p.rules.length cr,.slice ac p.code.length cc] 43)) wr b (Pure.wC p 0) w.heap.size #[.slice ae p.ents.length ce,.slice ar p.rules.length cr,.slice ac p.code.length cc] 43):=by show St _ _ _ _ _ _ _ _;rw [Pure.wC_zero];exact s0
     have m2:=loc_cell (j:=2) s0.loc rfl;clear s0 hreadR hlt hk' hbel hsz
     go_wp2_with fail
     clear m2
     go_loopw [3,88] (fun b i wr=>∃(k:Nat) (b':Value),k≤p.code.length∧i=.int .i64 k∧b'=b∧St (w.heap.size+1) (w.alloc (.cells #[.slice ae p.ents.length ce,.slice ar p.rules.length cr,.slice ac p.code.length cc] 43)) wr b' (Pure.wC p k) w.heap.size #[.slice ae p.ents.length ce,.slice ar p.rules.length cr,.slice ac p.code.length cc] 43) (fun _ i _=>p.code.length-(intOf i).toNat)
     case atStart=>exact⟨0,_,Nat.zero_le _,rfl,rfl,S0.out⟩
     case round=>
      clear S0;obtain⟨k,b,hk',rfl,rfl,s0⟩:=hrel;have hbel:=s0.bel;have hsz:=s0.sz;by_cases hlt:k<p.code.length
      ·obtain⟨b',off,rfl,hb,e0,e1,e2,e3⟩:=hreadC k hlt
       have g0:=(hbel.cell (p:=⟨b',off+k*4,none⟩) (by simp;omega)).trans ((hW0b.cell (p:=⟨b',off+k*4,none⟩) hb).trans e0);have g1:=(hbel.cell (p:=⟨b',off+k*4+1,none⟩) (by simp;omega)).trans ((hW0b.cell (p:=⟨b',off+k*4+1,none⟩) hb).trans e1);have g2:=(hbel.cell (p:=⟨b',off+k*4+2,none⟩) (by simp;omega)).trans ((hW0b.cell (p:=⟨b',off+k*4+2,none⟩) hb).trans e2);have g3:=(hbel.cell (p:=⟨b',off+k*4+3,none⟩) (by simp;omega)).trans ((hW0b.cell (p:=⟨b',off+k*4+3,none⟩) hb).trans e3);obtain⟨hx0,hx1,hx2,hx3⟩:=Pure.right_ins HP.out hlt;have hst:=Pure.wC_step p k hlt;have HST:=hide hst;have hln:=Pure.wC_len p k hk';generalize Pure.cg p.code k=r at *;obtain⟨xo,xa,xb,xt⟩:=r;simp only at g0 g1 g2 g3 hx0 hx1 hx2 hx3 HST;generalize hxs:Pure.wC p k=xs at *;have hxl:xs.length≤300000:=by omega
       have S0:=hide (s0.step (.cells #[.int .i64 xo,.int .i64 xa,.int .i64 xb,.int .i64 xt] 61));clear hreadC e0 e1 e2 e3 hln hst s0 hxs hbel hW0b
       go_wp2_with (at_builtin;refine wpList_append_own _ rfl (.tmp 92) (.tmp 109) 152 rfl (w.heap.size+1) 5 i0 (.int .u8 0) 1 1 Tryz.underlying152 hi hz0 hz1 hz2 rfl (by decide) b xs.length (u8s xs) rfl (World.ownsRow.alloc S0.out.byt _) ⟨wr.heap.size+1,0,none⟩ 5 5 (u8s [xo,xa,xb,xt % 256,xt / 256]) rfl rfl (cell_list (by simp)) (by intro u hu;simp [u8s] at hu;rcases hu with rfl | rfl | rfl | rfl | rfl <;> rfl) (by unfold maxLen;omega) (by omega) (by have:=S0.out.sz;simp;omega) ?_;intro v2 w2 hown2 hgrow2 _;have s2:=S0.out.app (by decide) rfl hown2 hgrow2;clear hown2 hgrow2)
       have s2':=s2;rw [←HST.out] at s2';clear s2 g0 g1 g2 g3
       go_roundw
       case rel=>exact⟨k+1,_,by omega,by go_num,rfl,s2'⟩
       case measure=>simp [intOf];omega
      ·have hke:k=p.code.length:=by omega
       subst hke;have hln:=Pure.wC_len p p.code.length lr_;obtain⟨g,cap,rfl,hcv⟩:=s0.byt.str (by omega);clear hreadC hlt hk' hln s0 hsz;go_wp2;go_ret;exact⟨rfl,hW0b.trans (hbel.mono (by omega))⟩
end Go.Proofs.YtmccnmgaoppogaaGreat
