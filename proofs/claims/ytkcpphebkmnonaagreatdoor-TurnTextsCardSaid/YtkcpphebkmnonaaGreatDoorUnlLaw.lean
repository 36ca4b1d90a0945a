/- The law TurnTexts: for every turn, whatever it is, and every text the law answers true and leaves them as they were. Conditions: those of the given row (the three tables of the library hold what their text lays). -/
import Derived.ChangeMaps5
import Derived.Test.YtkcpphebkmnonaaGreatDoorAlzc
import Derived.Test.YtkcpphebkmnonaaGreatDoorC10c
import Derived.Test.YtkcpphebkmnonaaGreatDoorC5c
import Derived.Test.YtkcpphebkmnonaaGreatDoorS2c
import Derived.Test.YtkcpphebkmnonaaGreatDoorC4c
import Derived.Test.YtkcpphebkmnonaaGreatDoorC3c
import Derived.Test.YtkcpphebkmnonaaGreatDoorC2c
import Derived.Test.YtkcpphebkmnonaaGreatDoorC1c
import Derived.Test.YtkcpphebkmnonaaGreatDoorC9c
import Derived.Test.YtkcpphebkmnonaaGreatDoorC8c
import Derived.Test.YtkcpphebkmnonaaGreatDoorC7c
import Derived.Test.YtkcpphebkmnonaaGreatDoorC6c
import Derived.Test.YtkcpphebkmnonaaGreatDoorS4c
import Derived.Test.YtkcpphebkmnonaaGreatDoorC12c
import Derived.Test.YtkcpphebkmnonaaGreatDoorC11c
import Derived.Test.YtkcpphebkmnonaaGreatDoorC18c
import Derived.Test.YtkcpphebkmnonaaGreatDoorC17c
import Derived.Test.YtkcpphebkmnonaaGreatDoorC16c
import Derived.Test.YtkcpphebkmnonaaGreatDoorC15c
import Derived.Test.YtkcpphebkmnonaaGreatDoorC13c
import Derived.Test.YtkcpphebkmnonaaGreatDoorC14c
import Derived.Test.YtkcpphebkmnonaaGreatDoorS3c
import Derived.Test.YtkcpphebkmnonaaGreatDoorC19c
namespace Go.Proofs.YtkcpphebkmnonaaGreatDoor.turnTexts
open Go.Proofs.BGQ
open Go Go.ChangeShapes Go.WideShapes Go.ChangeAt Go.RowKit Go.Joins Lw
set_option maxRecDepth 100000 in
theorem contract(H:Type)(enc:TypeId×Value->H)(W:World)(base:Nat)(args:Array Value)(ds gs:List (DataW H))(before:List MemPlace)(hval : ∀ (j:Nat) t v,Tryz.f10.params[j]? = some t->args[j]? = some v->Value.okWide Tryz.prog W .any base t v)(hW:DataW.Whole enc Tryz.prog Tryz.f10.params.toList Rows.turnTextsSpec.vars false W args.toList ds gs before)(hL:laidMetH Tryz.prog Rows.turnTextsRow.laid W)(hS:W.ShapedOpen Tryz.prog) :
  Calls Tryz.prog 10 args W fun e W' => ∃ v,e = .returned v/\Rows.turnTextsSpec.post enc Tryz.prog Tryz.f10 false true false false W args v W':=by
 have hW':=hW;obtain ⟨p,q,hA0,hV,rfl,hfz,hnd⟩:=hW;have hA:DataW.TrodAll enc Tryz.prog W 0 (fun _=>true) true Tryz.f10.params.toList args.toList ds p:=hA0;rw [Tryz.params10] at hA hval;obtain ⟨v0,v1,d0,d1,p0,p1,rfl,rfl,rfl,h0,h1⟩:=trodAll_two hA;obtain ⟨rfl,rfl⟩:=trodVars_none hV;obtain ⟨s1,A1,n1,c1,B1,m1,e1,u1,k1,q1,b1,rfl,f1⟩:=Ti (hval 0 26 v0 rfl rfl) h0;obtain ⟨z2,rfl,rfl,rfl,w2⟩:=Go.ChangeMaps.open_string anE (hval 1 9 v1 rfl rfl) h1;clear hA0;have hlt : ∀ x∈p0++[],x.block<W.heap.size:=fun x hx=>hW'.lt x (by simpa using hx);refine (afX W (Tm hL) (SX hL) (PX hS) f1 w2).mono fun e W' ⟨he,hb⟩ => ?_;subst he;have b0:=Below.trod laidOut ah (of_decide_eq_true ah) h0 hb (fun x hx=>hlt x (by simp [hx]));have b1:=Below.trod laidOut ah (of_decide_eq_true ah) h1 hb (fun x hx=>(by cases hx));refine ⟨_,rfl,_,_,_,[],_,[],hW',?_,trodAll_mk2 b0 b1,rfl,hb.frame _,fun h=>by cases h⟩;exact trodAll_mk1 (shut_bool anb _)
set_option maxRecDepth 100000 in
theorem reads(os:Os){H:Type}(enc:TypeId×Value->H) : ∃ ds places,DataW.whole enc Tryz.prog ((laidWorld os).forCall (fun _ _=>0) ⟨#[],#[.agg #[.bool false,.slice none 0 0,.slice none 0 0,.bool false],.string ⟨#[]⟩],[]⟩).memory Tryz.f10.params.toList Rows.turnTextsSpec.vars false (#[.agg #[.bool false,.slice none 0 0,.slice none 0 0,.bool false],.string ⟨#[]⟩]:Array Value).toList 8=some (ds,[],places) :=
 ⟨[.agg [.agg [.lit (.bool false),.nil,.nil],.lit (.bool false)],.lit (.string [])],[],ah⟩
set_option maxRecDepth 100000 in
theorem lifted(os:Os)(started:os.Started)(H:Type)(enc:TypeId×Value->H)(F:Stop.Interp) :
  ReturnsInHanded {} Tryz.checked os 10 .any ((OpenSpec.ofChange Rows.turnTextsSpec).preRow enc Tryz.prog Tryz.f10 Rows.turnTextsRow.domain false Rows.turnTextsRow.laid) (((OpenSpec.ofChange Rows.turnTextsSpec).at F).post enc Tryz.prog Tryz.f10 false true false false):=by
 obtain ⟨ds,places,hx⟩:=reads os enc
 refine returnsInHanded_of_row (C:=Tryz.checked) (s:=OpenSpec.ofChange Rows.turnTextsSpec) own started ah aoA
  (witness_row_at (enc:=enc) (C:=Tryz.checked) false (laidWorld os) #[.agg #[.bool false,.slice none 0 0,.slice none 0 0,.bool false],.string ⟨#[]⟩] rfl ah ah ah
   (OpenSpec.preRow_of_cond 8 hx ah (fun k hk=>by cases hk) ah (laid_met os _))) ?_
 intro W base args ds gs before hval hW _ _ _ hL hS _;exact contract H enc W base args ds gs before hval hW hL hS
theorem said:Rows.TurnTextsSaid :=
 OpenClaim.holds_of_cond 10 Tryz.f10 rfl rfl rfl rfl rfl rfl rfl ⟨rfl,rfl,rfl,rfl,rfl⟩ rfl rfl rfl rfl rfl ah aoA ah
  (of_decide_eq_true ah) (by unfold Func.isWrapper;first | (rw [if_pos (by decide +kernel)];kernel_rfl) | (rw [if_neg (by decide +kernel)];exact ⟨rfl,rfl⟩))
  (fun os started H enc _ F=>by rw [OpenClaim.pre_eq_preRow];exact lifted os started H enc F)
theorem plain(f:FuncId)(fn:Func)(hf:Tryz.pinned.checked.prog.funcNamed "linkwork/linkworklaw12.TurnTexts"=some f)(hfn:Tryz.pinned.checked.prog.funcs[f]? = some fn) :
  true=Tryz.pinned.checked.prog.looks [] /\ ∀ (j:Nat) t,fn.params[j]? = some t->Tryz.pinned.checked.prog.wantsStandIn t=false:=by
 obtain rfl:f=10:=Option.some.inj ((show Tryz.prog.funcNamed "linkwork/linkworklaw12.TurnTexts"=some 10 from ah).symm.trans hf) |>.symm
 obtain rfl:fn=Tryz.f10:=(Option.some.inj (aoA.symm.trans hfn)).symm;refine ⟨ah,fun j t ht => ?_⟩;rw [Tryz.params10] at ht;have hm:t=26\/t=9:=by simpa using Array.mem_of_getElem? ht
 rcases hm with rfl | rfl
 ·exact (show Tryz.prog.wantsStandIn 26=false from ah)
 ·exact (show Tryz.prog.wantsStandIn 9=false from ah)
theorem card:Rows.TurnTextsCardSaid :=
 Claim7.holds_tied_plain_at .later [] _ _ _ _ said (fun _ h=>by cases h) ah (fun _ h=>by cases h) turnTexts_row_tie rfl ⟨rfl,rfl⟩ ah rfl plain ah
end Go.Proofs.YtkcpphebkmnonaaGreatDoor.turnTexts
