/- The law TurnMakes: for every two fractions, whatever their words, and every text the law answers true and leaves them as they were. Conditions: those of the given row (the three tables of the library hold what their text lays). -/
import Derived.ChangeMaps5
import Derived.OpenShut
import Derived.Deep.Strs
import Derived.Test.YtkcpphebkmnonaaGreatDoorAlzb
import Derived.Test.YtkcpphebkmnonaaGreatDoorC10b
import Derived.Test.YtkcpphebkmnonaaGreatDoorS3b
import Derived.Test.YtkcpphebkmnonaaGreatDoorC4b
import Derived.Test.YtkcpphebkmnonaaGreatDoorC3b
import Derived.Test.YtkcpphebkmnonaaGreatDoorC2b
import Derived.Test.YtkcpphebkmnonaaGreatDoorC1b
import Derived.Test.YtkcpphebkmnonaaGreatDoorC9b
import Derived.Test.YtkcpphebkmnonaaGreatDoorC8b
import Derived.Test.YtkcpphebkmnonaaGreatDoorC5b
import Derived.Test.YtkcpphebkmnonaaGreatDoorC7b
import Derived.Test.YtkcpphebkmnonaaGreatDoorC6b
import Derived.Test.YtkcpphebkmnonaaGreatDoorS5b
import Derived.Test.YtkcpphebkmnonaaGreatDoorC12b
import Derived.Test.YtkcpphebkmnonaaGreatDoorC11b
import Derived.Test.YtkcpphebkmnonaaGreatDoorC18b
import Derived.Test.YtkcpphebkmnonaaGreatDoorC17b
import Derived.Test.YtkcpphebkmnonaaGreatDoorC16b
import Derived.Test.YtkcpphebkmnonaaGreatDoorC15b
import Derived.Test.YtkcpphebkmnonaaGreatDoorC13b
import Derived.Test.YtkcpphebkmnonaaGreatDoorC14b
import Derived.Test.YtkcpphebkmnonaaGreatDoorS4b
namespace Go.Proofs.YtkcpphebkmnonaaGreatDoor.turnMakes
open Go.Proofs.BGQ
open Go Go.ChangeShapes Go.WideShapes Go.ChangeAt Go.RowKit Go.Joins Lw
set_option maxRecDepth 100000 in
theorem contract(H:Type)(enc:TypeId×Value->H)(W:World)(base:Nat)(args:Array Value)(ds gs:List (DataW H))(before:List MemPlace)(hval : ∀ (j:Nat) t v,Tryz.f4.params[j]? = some t->args[j]? = some v->Value.okWide Tryz.prog W .any base t v)(hW:DataW.Whole enc Tryz.prog Tryz.f4.params.toList Rows.turnMakesSpec.vars false W args.toList ds gs before)(hL:laidMetH Tryz.prog Rows.turnMakesRow.laid W)(hS:W.ShapedOpen Tryz.prog) :
  Calls Tryz.prog 4 args W fun e W' => ∃ v,e = .returned v/\Rows.turnMakesSpec.post enc Tryz.prog Tryz.f4 false true false false W args v W':=by
 have hW':=hW;obtain ⟨p,q,hA0,hV,rfl,hfz,hnd⟩:=hW;have hA:DataW.TrodAll enc Tryz.prog W 0 (fun _=>true) true Tryz.f4.params.toList args.toList ds p:=hA0;rw [Tryz.params4] at hA hval;obtain ⟨v0,v1,v2,d0,d1,d2,p0,p1,p2,rfl,rfl,rfl,h0,h1,h2⟩:=trodAll_three hA;obtain ⟨rfl,rfl⟩:=trodVars_none hV;obtain ⟨s1,A1,n1,c1,B1,m1,e1,k1,q1,b1,rfl,f1⟩:=WM (hval 0 24 v0 rfl rfl) h0;obtain ⟨s2,A2,n2,c2,B2,m2,e2,k2,q2,b2,rfl,f2⟩:=WM (hval 1 24 v1 rfl rfl) h1;obtain ⟨z3,rfl,rfl,rfl,w3⟩:=Go.ChangeMaps.open_string auM (hval 2 9 v2 rfl rfl) h2;clear hA0;have hlt : ∀ x∈p0++p1++[],x.block<W.heap.size:=fun x hx=>hW'.lt x (by simpa using hx);refine (aj3 W (YF hL) (Yz hL) (VE hS) f1 f2 w3).mono fun e W' ⟨he,hb⟩ => ?_;subst he;have b0:=Below.trod laidOut ah (of_decide_eq_true ah) h0 hb (fun x hx=>hlt x (by simp [hx]));have b1:=Below.trod laidOut ah (of_decide_eq_true ah) h1 hb (fun x hx=>hlt x (by simp [hx]));have b2:=Below.trod laidOut ah (of_decide_eq_true ah) h2 hb (fun x hx=>(by cases hx));refine ⟨_,rfl,_,_,_,[],_,[],hW',?_,trodAll_mk3 b0 b1 b2,rfl,hb.frame _,fun h=>by cases h⟩;exact trodAll_mk1 (shut_bool aud _)
set_option maxRecDepth 100000 in
theorem reads(os:Os){H:Type}(enc:TypeId×Value->H) : ∃ ds places,DataW.whole enc Tryz.prog ((laidWorld os).forCall (fun _ _=>0) ⟨#[],#[.agg #[.bool false,.slice none 0 0,.slice none 0 0],.agg #[.bool false,.slice none 0 0,.slice none 0 0],.string ⟨#[]⟩],[]⟩).memory Tryz.f4.params.toList Rows.turnMakesSpec.vars false (#[.agg #[.bool false,.slice none 0 0,.slice none 0 0],.agg #[.bool false,.slice none 0 0,.slice none 0 0],.string ⟨#[]⟩]:Array Value).toList 8=some (ds,[],places) :=
 ⟨[.agg [.lit (.bool false),.nil,.nil],.agg [.lit (.bool false),.nil,.nil],.lit (.string [])],[],ah⟩
set_option maxRecDepth 100000 in
theorem lifted(os:Os)(started:os.Started)(H:Type)(enc:TypeId×Value->H)(F:Stop.Interp) :
  ReturnsInHanded {} Tryz.checked os 4 .any ((OpenSpec.ofChange Rows.turnMakesSpec).preRow enc Tryz.prog Tryz.f4 Rows.turnMakesRow.domain false Rows.turnMakesRow.laid) (((OpenSpec.ofChange Rows.turnMakesSpec).at F).post enc Tryz.prog Tryz.f4 false true false false):=by
 obtain ⟨ds,places,hx⟩:=reads os enc
 refine returnsInHanded_of_row (C:=Tryz.checked) (s:=OpenSpec.ofChange Rows.turnMakesSpec) own started ah avL
  (witness_row_at (enc:=enc) (C:=Tryz.checked) false (laidWorld os) #[.agg #[.bool false,.slice none 0 0,.slice none 0 0],.agg #[.bool false,.slice none 0 0,.slice none 0 0],.string ⟨#[]⟩] rfl ah ah ah
   (OpenSpec.preRow_of_cond 8 hx ah (fun k hk=>by cases hk) ah (U7 os _))) ?_
 intro W base args ds gs before hval hW _ _ _ hL hS _;exact contract H enc W base args ds gs before hval hW hL hS
theorem said:Rows.TurnMakesSaid :=
 OpenClaim.holds_of_cond 4 Tryz.f4 rfl rfl rfl rfl rfl rfl rfl ⟨rfl,rfl,rfl,rfl,rfl⟩ rfl rfl rfl rfl rfl ah avL ah
  (of_decide_eq_true ah) (by unfold Func.isWrapper;first | (rw [if_pos (by decide +kernel)];kernel_rfl) | (rw [if_neg (by decide +kernel)];exact ⟨rfl,rfl⟩))
  (fun os started H enc _ F=>by rw [OpenClaim.pre_eq_preRow];exact lifted os started H enc F)
theorem plain(f:FuncId)(fn:Func)(hf:Tryz.pinned.checked.prog.funcNamed "linkwork/linkworklaw12.TurnMakes"=some f)(hfn:Tryz.pinned.checked.prog.funcs[f]? = some fn) :
  true=Tryz.pinned.checked.prog.looks [] /\ ∀ (j:Nat) t,fn.params[j]? = some t->Tryz.pinned.checked.prog.wantsStandIn t=false:=by
 obtain rfl:f=4:=Option.some.inj ((show Tryz.prog.funcNamed "linkwork/linkworklaw12.TurnMakes"=some 4 from ah).symm.trans hf) |>.symm
 obtain rfl:fn=Tryz.f4:=(Option.some.inj (avL.symm.trans hfn)).symm;refine ⟨ah,fun j t ht => ?_⟩;rw [Tryz.params4] at ht;have hm:t=24\/t=9:=by simpa using Array.mem_of_getElem? ht
 rcases hm with rfl | rfl
 ·exact (show Tryz.prog.wantsStandIn 24=false from ah)
 ·exact (show Tryz.prog.wantsStandIn 9=false from ah)
theorem card:Rows.TurnMakesCardSaid :=
 Claim7.holds_tied_plain_at .later [] _ _ _ _ said (fun _ h=>by cases h) ah (fun _ h=>by cases h) turnMakes_row_tie rfl ⟨rfl,rfl⟩ ah rfl plain ah
end Go.Proofs.YtkcpphebkmnonaaGreatDoor.turnMakes
