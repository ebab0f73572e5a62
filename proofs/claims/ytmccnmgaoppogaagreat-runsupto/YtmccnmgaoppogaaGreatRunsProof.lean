import Derived.Test.YtmccnmgaoppogaaGreatTF
import Derived.Test.YtmccnmgaoppogaaGreatH26
import Derived.ShutString
namespace Go.Proofs.YtmccnmgaoppogaaGreat
open Pu
set_option linter.all false
set_option maxRecDepth 100000
set_option maxHeartbeats 8000000
open Go.ChangeShapes Go.WideShapes Go.ChangeAt Go.RowKit Go.Deep Go.Joins
open Go.ChangeMaps (open_string shut_string)
theorem aeG (s:Y_):Bv s:=fun B g aS ls ns xI vn al cl modes down h1 h2 h3 mode w h4 h5 h6=>MX B g aS s ls ns xI vn al cl modes down h1 h2 h3 mode w h4 h5 h6
theorem G7 (H:Type) (enc:TypeId × V_->H) (W:W_) (base:Nat) (args:Array V_) (ds gs:List (DataW H)) (before:List MemPlace)
  (hval0:∀(j:Nat) t v,Tryz.f5.params[j]?=some t->args[j]?=some v->Value.okWide Tryz.prog W .any base t v)
  (hW:DataW.Whole enc Tryz.prog Tryz.f5.params.toList Rows.runsSpec.vars false W args.toList ds gs before) (hk:Rows.uptoSmall H (ds++gs)=true) :
  C_ 5 args W fun e W'=>∃v,e=.returned v/\Rows.runsSpec.post enc Tryz.prog Tryz.f5 false true false false W args v W':=by
 have hval:∀(j:Nat) t v,Tryz.f5.params[j]?=some t->args[j]?=some v->Value.okWide Tryz.prog W .any base t v:=hval0;have hW':=hW;obtain⟨p,q,hA0,hV,rfl,_,_⟩:=hW;have hA:DataW.TrodAll enc Tryz.prog W 0 (fun _=>true) true Tryz.f5.params.toList args.toList ds p:=hA0;rw [Tryz.params5] at hA hval;obtain⟨v0,d0,rfl,rfl,h0⟩:=trodAll_one hA;obtain⟨rfl,rfl⟩:=trodVars_none hV;have h0k:=h0;clear hA0 hval0;simp only [List.append_nil] at hW' hk;have hlt:∀x∈p,x.block<W.heap.size:=fun x hx=>by simpa using hW'.lt x (by simpa using hx)
 obtain⟨as0,akn,cap0,rfl⟩:=okWide_slice Tryz.underlying22 (hval 0 22 v0 rfl rfl);obtain⟨fu,hfu⟩:=h0;obtain⟨l,hS,hR,hsum⟩:=aeQ (v:=.slice as0 akn cap0) hfu;have hb2:=Pg hk;simp only [Rows.uptoBulkAll] at hb2;simp only at hsum;refine (Z6 _ l W aeG hS hR (by omega) (by omega)).mono fun e W' ⟨he,hbel⟩=>?_
 subst he;refine⟨_,rfl,_,_,_,[],p,[],hW',?_,?_,rfl,hbel.frame _,fun h=>by cases h⟩
 .exact trodAll_mk1 (shut_bool Tryz.underlying4 true)
 .have a0:=Below.trod Tryz.laidOut (by kernel_rfl) (of_decide_eq_true (by kernel_rfl)) h0k hbel hlt;exact trodAll_mk1 a0
theorem NN (os:Os) (started:os.Started) (H:Type) (enc:TypeId × V_->H) (F:Stop.Interp) :
  ReturnsInHanded {} Tryz.checked os 5 .any ((Rows.OpenSpec.upto Rows.runsSpec).pre6 enc Tryz.prog Tryz.f5 Rows.runsUptoRow.domain false) (((Rows.OpenSpec.upto Rows.runsSpec).at F).post enc Tryz.prog Tryz.f5 false true false false):=by
 refine returnsInHanded_of_cond (C:=Tryz.checked) (s:=Rows.OpenSpec.upto Rows.runsSpec) (k:=Rows.uptoSmall) rfl Tryz.own started (by kernel_rfl) Tryz.func5
  (OpenSpec.witness (enc:=enc) (C:=Tryz.checked) (s:=Rows.OpenSpec.upto Rows.runsSpec) (k:=Rows.uptoSmall) rfl false ⟨#[],#[n_],[]⟩ 8 (by kernel_rfl) (by kernel_rfl) (by kernel_rfl)
   (x:=([.nil],[],[])) (by kernel_rfl) rfl (by kernel_rfl)) ?_
 intro W base args ds gs before hval hW _ hk _;exact G7 H enc W base args ds gs before hval hW hk
theorem runs_holds:Rows.RunsUptoSaid:=
 OpenClaim.holds_of_cond 5 Tryz.f5 rfl rfl rfl rfl rfl rfl rfl ⟨rfl,rfl,rfl,rfl,rfl⟩ rfl rfl rfl rfl rfl (by kernel_rfl) Tryz.func5 (by kernel_rfl)
  (of_decide_eq_true (by kernel_rfl)) (by unfold Func.isWrapper;rw [if_neg (by decide +kernel)];exact⟨rfl,rfl⟩)
  (fun os started H enc _ F=>NN os started H enc F)
end Go.Proofs.YtmccnmgaoppogaaGreat
