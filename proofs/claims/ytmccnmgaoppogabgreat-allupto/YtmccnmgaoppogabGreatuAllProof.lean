import Derived.Test.YtmccnmgaoppogabGreatuYN
import Derived.Test.YtmccnmgaoppogabGreatuH26
import Derived.ShutString
namespace Go.Proofs.YtmccnmgaoppogabGreat
open Pu
set_option linter.all false
open Go.Proofs.Tryz Tryz
set_option maxRecDepth 100000
set_option maxHeartbeats 8000000
open Go.ChangeShapes Go.WideShapes Go.ChangeAt Go.RowKit Go.Deep Go.Joins
open Go.ChangeMaps (open_string shut_string)
theorem ahe(s:Y_):zo s:=fun B g aS k l p n b c a down d e f mode w h i j=>Pq B g aS s k l p n b c a down d e f mode w h i j
theorem KH(H:Type)(enc:TypeId × V_->H)(W:W_)(base:Nat)(args:Array V_)(s A:List (DataW H))(b:List MemPlace)
  (a:∀(j:Nat) t v,f3.params[j]?=some t->args[j]?=some v->Value.okWide prog W .any base t v)
  (D:DataW.Whole enc prog f3.params.toList Rows.allSpec.vars false W args.toList s A b) (E:Rows.uptoSmall H (s++A)=true) :
  C_ 3 args W fun e z=>∃v,e=.returned v/\Rows.allSpec.post enc prog f3 false true false false W args v z:=by
 have d:∀(j:Nat) t v,f3.params[j]?=some t->args[j]?=some v->Value.okWide prog W .any base t v:=a;have g:=D;obtain⟨p,q,c,I,rfl,_,_⟩:=D;have C:DataW.TrodAll enc prog W 0 (fun _=>true) true f3.params.toList args.toList s p:=c;rw[params3]at C d;obtain⟨K,F,rfl,rfl,B⟩:=trodAll_one C;obtain⟨rfl,rfl⟩:=trodVars_none I;have u:=B;clear c a;simp only[List.append_nil]at g E;have y:∀x∈p,x.block<W.heap.size:=fun x c=>by simpa using g.lt x (by simpa using c)
 obtain⟨r,n,i,rfl⟩:=okWide_slice underlying22 (d 0 22 K rfl rfl);obtain⟨L,x⟩:=B;have w:=Rq E;simp only[Rows.uptoBulkAll]at w;obtain⟨l,G,k⟩:=ahp (v:=.slice r n i) x (by show Rows.uptoBulk F<=_;omega);simp only at k;refine (adS _ l W ahe G o_ o_).mono fun e z ⟨J,c⟩=>?_;subst J;refine⟨_,rfl,_,_,_,[],p,[],g,?_,?_,rfl,c.frame _,fun h=>by cases h⟩
 .exact trodAll_mk1 (shut_bool underlying4 true)
 .have h:=Below.trod laidOut k_ (of_decide_eq_true k_) u c y;exact trodAll_mk1 h
theorem Rh(e:Os)(a:e.Started)(H:Type)(enc:TypeId × V_->H)(F:Stop.Interp) :
  ReturnsInHanded {} checked e 3 .any ((Rows.OpenSpec.upto Rows.allSpec).pre6 enc prog f3 Rows.allUptoRow.domain false) (((Rows.OpenSpec.upto Rows.allSpec).at F).post enc prog f3 false true false false):=by
 refine returnsInHanded_of_cond (C:=checked) (s:=Rows.OpenSpec.upto Rows.allSpec) (k:=Rows.uptoSmall) rfl own a k_ func3
  (OpenSpec.witness (enc:=enc) (C:=checked) (s:=Rows.OpenSpec.upto Rows.allSpec) (k:=Rows.uptoSmall) rfl false ⟨#[],#[n_],[]⟩ 8 k_ k_ k_
   (x:=([.nil],[],[])) k_ rfl k_) ?_
 intro W base c g h b d i _ j _;exact KH H enc W base c g h b d i j
theorem all_holds:Rows.AllUptoSaid:=
 OpenClaim.holds_of_cond 3 f3 rfl rfl rfl rfl rfl rfl rfl ⟨rfl,rfl,rfl,rfl,rfl⟩ rfl rfl rfl rfl rfl k_ func3 k_
  (of_decide_eq_true k_) (by unfold Func.isWrapper;rw[if_neg (by decide +kernel)];exact⟨rfl,rfl⟩)
  (fun c a H b _ F=>Rh c a H b F)
end Go.Proofs.YtmccnmgaoppogabGreat
