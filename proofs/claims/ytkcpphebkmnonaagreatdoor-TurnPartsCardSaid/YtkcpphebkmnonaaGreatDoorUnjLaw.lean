/- The law TurnParts: for every turn, whatever it is, the law answers true and leaves them as they were. Conditions: those of the given row (the three tables of the library hold what their text lays). -/
import Derived.Test.YtkcpphebkmnonaaGreatDoorAlzc
import Derived.Test.YtkcpphebkmnonaaGreatDoorC10c
import Derived.Test.YtkcpphebkmnonaaGreatDoorC5c
import Derived.Test.YtkcpphebkmnonaaGreatDoorC4c
import Derived.Test.YtkcpphebkmnonaaGreatDoorC3c
import Derived.Test.YtkcpphebkmnonaaGreatDoorC2c
import Derived.Test.YtkcpphebkmnonaaGreatDoorC1c
import Derived.Test.YtkcpphebkmnonaaGreatDoorC9c
import Derived.Test.YtkcpphebkmnonaaGreatDoorS1c
import Derived.Test.YtkcpphebkmnonaaGreatDoorC8c
import Derived.Test.YtkcpphebkmnonaaGreatDoorC7c
import Derived.Test.YtkcpphebkmnonaaGreatDoorC6c
import Derived.Test.YtkcpphebkmnonaaGreatDoorC12c
import Derived.Test.YtkcpphebkmnonaaGreatDoorC11c
import Derived.Test.YtkcpphebkmnonaaGreatDoorC18c
import Derived.Test.YtkcpphebkmnonaaGreatDoorC17c
import Derived.Test.YtkcpphebkmnonaaGreatDoorC16c
import Derived.Test.YtkcpphebkmnonaaGreatDoorC15c
import Derived.Test.YtkcpphebkmnonaaGreatDoorC13c
import Derived.Test.YtkcpphebkmnonaaGreatDoorC14c
import Derived.Test.YtkcpphebkmnonaaGreatDoorC19c
namespace Go.Proofs.YtkcpphebkmnonaaGreatDoor.turnParts
open Go.Proofs.BGQ
open Go Go.ChangeShapes Go.WideShapes Go.ChangeAt Go.RowKit Go.Joins Lw
set_option maxRecDepth 100000 in
theorem contract(H:Type)(enc:TypeId×Value->H)(W:World)(base:Nat)(args:Array Value)(ds gs:List (DataW H))(before:List MemPlace)(hval : ∀ (j:Nat) t v,Tryz.f3.params[j]? = some t->args[j]? = some v->Value.okWide Tryz.prog W .any base t v)(hW:DataW.Whole enc Tryz.prog Tryz.f3.params.toList Rows.turnPartsSpec.vars false W args.toList ds gs before)(hL:laidMetH Tryz.prog Rows.turnPartsRow.laid W)(hS:W.ShapedOpen Tryz.prog) :
  Calls Tryz.prog 3 args W fun e W' => ∃ v,e = .returned v/\Rows.turnPartsSpec.post enc Tryz.prog Tryz.f3 false true false false W args v W':=by
 have hW':=hW;obtain ⟨p,q,hA0,hV,rfl,hfz,hnd⟩:=hW;have hA:DataW.TrodAll enc Tryz.prog W 0 (fun _=>true) true Tryz.f3.params.toList args.toList ds p:=hA0;rw [Tryz.params3] at hA hval;obtain ⟨v0,d0,rfl,rfl,h0⟩:=trodAll_one hA;obtain ⟨rfl,rfl⟩:=trodVars_none hV;obtain ⟨s1,A1,n1,c1,B1,m1,e1,u1,k1,q1,b1,rfl,f1⟩:=Ti (hval 0 26 v0 rfl rfl) h0;clear hA0;have hlt : ∀ x∈p,x.block<W.heap.size:=fun x hx=>hW'.lt x (by simpa using hx);refine (afU W (Tm hL) (SX hL) (PX hS) f1).mono fun e W' ⟨he,hb⟩ => ?_;subst he;have b0:=Below.trod laidOut ah (of_decide_eq_true ah) h0 hb (fun x hx=>hlt x hx);refine ⟨_,rfl,_,_,_,[],_,[],hW',?_,trodAll_mk1 b0,rfl,hb.frame _,fun h=>by cases h⟩;exact trodAll_mk1 (shut_bool anb _)
set_option maxRecDepth 100000 in
theorem reads(os:Os){H:Type}(enc:TypeId×Value->H) : ∃ ds places,DataW.whole enc Tryz.prog ((laidWorld os).forCall (fun _ _=>0) ⟨#[],#[.agg #[.bool false,.slice none 0 0,.slice none 0 0,.bool false]],[]⟩).memory Tryz.f3.params.toList Rows.turnPartsSpec.vars false (#[.agg #[.bool false,.slice none 0 0,.slice none 0 0,.bool false]]:Array Value).toList 8=some (ds,[],places) :=
 ⟨[.agg [.agg [.lit (.bool false),.nil,.nil],.lit (.bool false)]],[],ah⟩
set_option maxRecDepth 100000 in
theorem lifted(os:Os)(started:os.Started)(H:Type)(enc:TypeId×Value->H)(F:Stop.Interp) :
  ReturnsInHanded {} Tryz.checked os 3 .any ((OpenSpec.ofChange Rows.turnPartsSpec).preRow enc Tryz.prog Tryz.f3 Rows.turnPartsRow.domain false Rows.turnPartsRow.laid) (((OpenSpec.ofChange Rows.turnPartsSpec).at F).post enc Tryz.prog Tryz.f3 false true false false):=by
 obtain ⟨ds,places,hx⟩:=reads os enc
 refine returnsInHanded_of_row (C:=Tryz.checked) (s:=OpenSpec.ofChange Rows.turnPartsSpec) own started ah aox
  (witness_row_at (enc:=enc) (C:=Tryz.checked) false (laidWorld os) #[.agg #[.bool false,.slice none 0 0,.slice none 0 0,.bool false]] rfl ah ah ah
   (OpenSpec.preRow_of_cond 8 hx ah (fun k hk=>by cases hk) ah (laid_met os _))) ?_
 intro W base args ds gs before hval hW _ _ _ hL hS _;exact contract H enc W base args ds gs before hval hW hL hS
theorem said:Rows.TurnPartsSaid :=
 OpenClaim.holds_of_cond 3 Tryz.f3 rfl rfl rfl rfl rfl rfl rfl ⟨rfl,rfl,rfl,rfl,rfl⟩ rfl rfl rfl rfl rfl ah aox ah
  (of_decide_eq_true ah) (by unfold Func.isWrapper;first | (rw [if_pos (by decide +kernel)];kernel_rfl) | (rw [if_neg (by decide +kernel)];exact ⟨rfl,rfl⟩))
  (fun os started H enc _ F=>by rw [OpenClaim.pre_eq_preRow];exact lifted os started H enc F)
theorem plain(f:FuncId)(fn:Func)(hf:Tryz.pinned.checked.prog.funcNamed "linkwork/linkworklaw12.TurnParts"=some f)(hfn:Tryz.pinned.checked.prog.funcs[f]? = some fn) :
  true=Tryz.pinned.checked.prog.looks [] /\ ∀ (j:Nat) t,fn.params[j]? = some t->Tryz.pinned.checked.prog.wantsStandIn t=false:=by
 obtain rfl:f=3:=Option.some.inj ((show Tryz.prog.funcNamed "linkwork/linkworklaw12.TurnParts"=some 3 from ah).symm.trans hf) |>.symm
 obtain rfl:fn=Tryz.f3:=(Option.some.inj (aox.symm.trans hfn)).symm;refine ⟨ah,fun j t ht => ?_⟩;rw [Tryz.params3] at ht;have hm:t=26:=by simpa using Array.mem_of_getElem? ht
 subst hm;exact (show Tryz.prog.wantsStandIn 26=false from ah)
theorem card:Rows.TurnPartsCardSaid :=
 Claim7.holds_tied_plain_at .later [] _ _ _ _ said (fun _ h=>by cases h) ah (fun _ h=>by cases h) turnParts_row_tie rfl ⟨rfl,rfl⟩ ah rfl plain ah
end Go.Proofs.YtkcpphebkmnonaaGreatDoor.turnParts
