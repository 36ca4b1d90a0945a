/- The law PolyChecks: for every polynomial, whatever it is, the law answers true and leaves it as it was. Conditions: those of the given row (the three tables of the library hold what their text lays). -/
import Derived.Test.YtmmgoghiiionfaaGreatDoorAlz
import Derived.Test.YtmmgoghiiionfaaGreatDoorC8
import Derived.Test.YtmmgoghiiionfaaGreatDoorC3
import Derived.Test.YtmmgoghiiionfaaGreatDoorC2
import Derived.Test.YtmmgoghiiionfaaGreatDoorC1
import Derived.Test.YtmmgoghiiionfaaGreatDoorC7
import Derived.Test.YtmmgoghiiionfaaGreatDoorC4
import Derived.Test.YtmmgoghiiionfaaGreatDoorC6
import Derived.Test.YtmmgoghiiionfaaGreatDoorC5
import Derived.Test.YtmmgoghiiionfaaGreatDoorC26
import Derived.Test.YtmmgoghiiionfaaGreatDoorC11
import Derived.Test.YtmmgoghiiionfaaGreatDoorC10
import Derived.Test.YtmmgoghiiionfaaGreatDoorC9
import Derived.Test.YtmmgoghiiionfaaGreatDoorC25
import Derived.Test.YtmmgoghiiionfaaGreatDoorC20
import Derived.Test.YtmmgoghiiionfaaGreatDoorC19
import Derived.Test.YtmmgoghiiionfaaGreatDoorC18
import Derived.Test.YtmmgoghiiionfaaGreatDoorC17
import Derived.Test.YtmmgoghiiionfaaGreatDoorC16
import Derived.Test.YtmmgoghiiionfaaGreatDoorC15
import Derived.Test.YtmmgoghiiionfaaGreatDoorC14
import Derived.Test.YtmmgoghiiionfaaGreatDoorC12
import Derived.Test.YtmmgoghiiionfaaGreatDoorC13
import Derived.Test.YtmmgoghiiionfaaGreatDoorC24
import Derived.Test.YtmmgoghiiionfaaGreatDoorC23
import Derived.Test.YtmmgoghiiionfaaGreatDoorC22
import Derived.Test.YtmmgoghiiionfaaGreatDoorC21
set_option linter.unusedVariables false
set_option linter.unusedSimpArgs false
namespace Go.Proofs.YtmmgoghiiionfaaGreatDoor.polyChecks
open Go.Proofs.AZQ
open Go Go.ChangeShapes Go.WideShapes Go.ChangeAt Go.RowKit Go.Joins Lw
set_option maxRecDepth 100000 in
theorem contract(H:Type)(enc:TypeId×Value->H)(W:World)(base:Nat)(args:Array Value)(ds gs:List (DataW H))(before:List MemPlace)(hval : ∀ (j:Nat) t v,Tryz.f3.params[j]? = some t->args[j]? = some v->Value.okWide Tryz.prog W .any base t v)(hW:DataW.Whole enc Tryz.prog Tryz.f3.params.toList Rows.polyChecksSpec.vars false W args.toList ds gs before)(hL:laidMetH Tryz.prog Rows.polyChecksRow.laid W)(hS:W.ShapedOpen Tryz.prog) :
  Calls Tryz.prog 3 args W fun e W' => ∃ v,e = .returned v/\Rows.polyChecksSpec.post enc Tryz.prog Tryz.f3 false true false false W args v W':=by
 have hW':=hW;obtain ⟨p,q,hA0,hV,rfl,hfz,hnd⟩:=hW;have hA:DataW.TrodAll enc Tryz.prog W 0 (fun _=>true) true Tryz.f3.params.toList args.toList ds p:=hA0;rw [Tryz.params3] at hA hval;obtain ⟨v0,d0,rfl,rfl,h0⟩:=trodAll_one hA;obtain ⟨rfl,rfl⟩:=trodVars_none hV;obtain ⟨A1,n1,c1,vs1,bz,k1,rfl,f1⟩:=aaZ (hval 0 23 v0 rfl rfl) h0;clear hA0;have hlt : ∀ x∈p,x.block<W.heap.size:=fun x hx=>hW'.lt x (by simpa using hx);refine (aaO W (aec hL) (adO hL) f1).mono fun e W' ⟨he,hb⟩ => ?_;subst he;have b0:=Below.trod laidOut ah (of_decide_eq_true ah) h0 hb (fun x hx=>hlt x hx);refine ⟨_,rfl,_,_,_,[],_,[],hW',?_,trodAll_mk1 b0,rfl,hb.frame _,fun h=>by cases h⟩;exact trodAll_mk1 (shut_bool agB _)
set_option maxRecDepth 100000 in
theorem reads(os:Os){H:Type}(enc:TypeId×Value->H) : ∃ ds places,DataW.whole enc Tryz.prog ((laidWorld os).forCall (fun _ _=>0) ⟨#[],#[.slice none 0 0],[]⟩).memory Tryz.f3.params.toList Rows.polyChecksSpec.vars false (#[.slice none 0 0]:Array Value).toList 8=some (ds,[],places) :=
 ⟨[.nil],[],ah⟩
set_option maxRecDepth 100000 in
theorem lifted(os:Os)(started:os.Started)(H:Type)(enc:TypeId×Value->H)(F:Stop.Interp) :
  ReturnsInHanded {} Tryz.checked os 3 .any ((OpenSpec.ofChange Rows.polyChecksSpec).preRow enc Tryz.prog Tryz.f3 Rows.polyChecksRow.domain false Rows.polyChecksRow.laid) (((OpenSpec.ofChange Rows.polyChecksSpec).at F).post enc Tryz.prog Tryz.f3 false true false false):=by
 obtain ⟨ds,places,hx⟩:=reads os enc
 refine returnsInHanded_of_row (C:=Tryz.checked) (s:=OpenSpec.ofChange Rows.polyChecksSpec) own started ah ahd
  (witness_row_at (enc:=enc) (C:=Tryz.checked) false (laidWorld os) #[.slice none 0 0] rfl ah ah ah
   (OpenSpec.preRow_of_cond 8 hx ah (fun k hk=>by cases hk) ah (laid_met os _))) ?_
 intro W base args ds gs before hval hW _ _ _ hL hS _;exact contract H enc W base args ds gs before hval hW hL hS
theorem said:Rows.PolyChecksSaid :=
 OpenClaim.holds_of_cond 3 Tryz.f3 rfl rfl rfl rfl rfl rfl rfl ⟨rfl,rfl,rfl,rfl,rfl⟩ rfl rfl rfl rfl rfl ah ahd ah
  (of_decide_eq_true ah) (by unfold Func.isWrapper;first | (rw [if_pos (by decide +kernel)];kernel_rfl) | (rw [if_neg (by decide +kernel)];exact ⟨rfl,rfl⟩))
  (fun os started H enc _ F=>by rw [OpenClaim.pre_eq_preRow];exact lifted os started H enc F)
theorem plain(f:FuncId)(fn:Func)(hf:Tryz.pinned.checked.prog.funcNamed "linkwork/linkworklaw05.PolyChecks"=some f)(hfn:Tryz.pinned.checked.prog.funcs[f]? = some fn) :
  true=Tryz.pinned.checked.prog.looks [] /\ ∀ (j:Nat) t,fn.params[j]? = some t->Tryz.pinned.checked.prog.wantsStandIn t=false:=by
 obtain rfl:f=3:=Option.some.inj ((show Tryz.prog.funcNamed "linkwork/linkworklaw05.PolyChecks"=some 3 from ah).symm.trans hf) |>.symm
 obtain rfl:fn=Tryz.f3:=(Option.some.inj (ahd.symm.trans hfn)).symm;refine ⟨ah,fun j t ht => ?_⟩;rw [Tryz.params3] at ht;have hm:t=23:=by simpa using Array.mem_of_getElem? ht
 subst hm;exact (show Tryz.prog.wantsStandIn 23=false from ah)
theorem card:Rows.PolyChecksCardSaid :=
 Claim7.holds_tied_plain_at .later [] _ _ _ _ said (fun _ h=>by cases h) ah (fun _ h=>by cases h) polyChecks_row_tie rfl ⟨rfl,rfl⟩ ah rfl plain ah
end Go.Proofs.YtmmgoghiiionfaaGreatDoor.polyChecks
