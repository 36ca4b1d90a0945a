/- The law IntervalTells: for every two intervals, whatever their words, the law answers true and leaves them as they were. Conditions: those of the given row (the three tables of the library hold what their text lays). -/
import Derived.Test.YtbihljnjaondcaaGreatDoorAlz
import Derived.Test.YtbihljnjaondcaaGreatDoorC14
import Derived.Test.YtbihljnjaondcaaGreatDoorC5
import Derived.Test.YtbihljnjaondcaaGreatDoorS7
import Derived.Test.YtbihljnjaondcaaGreatDoorC4
import Derived.Test.YtbihljnjaondcaaGreatDoorC3
import Derived.Test.YtbihljnjaondcaaGreatDoorC2
import Derived.Test.YtbihljnjaondcaaGreatDoorC1
import Derived.Test.YtbihljnjaondcaaGreatDoorC13
import Derived.Test.YtbihljnjaondcaaGreatDoorS4
import Derived.Test.YtbihljnjaondcaaGreatDoorS6
import Derived.Test.YtbihljnjaondcaaGreatDoorC12
import Derived.Test.YtbihljnjaondcaaGreatDoorC11
import Derived.Test.YtbihljnjaondcaaGreatDoorC10
import Derived.Test.YtbihljnjaondcaaGreatDoorC6
import Derived.Test.YtbihljnjaondcaaGreatDoorS26
import Derived.Test.YtbihljnjaondcaaGreatDoorC9
import Derived.Test.YtbihljnjaondcaaGreatDoorC8
import Derived.Test.YtbihljnjaondcaaGreatDoorC7
import Derived.Test.YtbihljnjaondcaaGreatDoorS41
import Derived.Test.YtbihljnjaondcaaGreatDoorC25
import Derived.Test.YtbihljnjaondcaaGreatDoorS3
import Derived.Test.YtbihljnjaondcaaGreatDoorS12
import Derived.Test.YtbihljnjaondcaaGreatDoorS18
import Derived.Test.YtbihljnjaondcaaGreatDoorC22
import Derived.Test.YtbihljnjaondcaaGreatDoorS21
import Derived.Test.YtbihljnjaondcaaGreatDoorS29
import Derived.Test.YtbihljnjaondcaaGreatDoorS31
import Derived.Test.YtbihljnjaondcaaGreatDoorC21
import Derived.Test.YtbihljnjaondcaaGreatDoorC20
import Derived.Test.YtbihljnjaondcaaGreatDoorS5
import Derived.Test.YtbihljnjaondcaaGreatDoorS11
import Derived.Test.YtbihljnjaondcaaGreatDoorS20
import Derived.Test.YtbihljnjaondcaaGreatDoorS33
import Derived.Test.YtbihljnjaondcaaGreatDoorC15
import Derived.Test.YtbihljnjaondcaaGreatDoorS1
import Derived.Test.YtbihljnjaondcaaGreatDoorS9
import Derived.Test.YtbihljnjaondcaaGreatDoorC16
import Derived.Test.YtbihljnjaondcaaGreatDoorC19
import Derived.Test.YtbihljnjaondcaaGreatDoorC18
import Derived.Test.YtbihljnjaondcaaGreatDoorC17
import Derived.Test.YtbihljnjaondcaaGreatDoorS14
import Derived.Test.YtbihljnjaondcaaGreatDoorC23
import Derived.Test.YtbihljnjaondcaaGreatDoorC24
set_option maxRecDepth 100000
open Go.Proofs.YtbihljnjaondcaaGreatDoor (a0p a0q a0r a0s yw bU fO cO PS iy1 PT FX iy4 iy5 iy6 Yo iy8 iy9 aAJ)
set_option linter.unusedVariables false
set_option linter.unusedSimpArgs false
namespace Go.Proofs.YtbihljnjaondcaaGreatDoor.intervalTells
open Go Go.ChangeShapes Go.WideShapes Go.ChangeAt Go.RowKit Go.Joins Lw
theorem contract (H:Type) (enc:TypeId×Value→H) (W:World) (base:Nat) (args:Array Value) (ds gs:List (DataW H)) (before:List MemPlace)
  (hval : ∀ (j:Nat) t v,Tryz.f5.params[j]? = some t→args[j]? = some v→Value.okWide Tryz.prog W .any base t v)
  (hW:DataW.Whole enc Tryz.prog Tryz.f5.params.toList Rows.intervalTellsSpec.vars false W args.toList ds gs before) (hL:laidMetH Tryz.prog Rows.intervalTellsRow.laid W) (hS:W.ShapedOpen Tryz.prog) :
  Calls Tryz.prog 5 args W fun e W' => ∃ v,e = .returned v∧Rows.intervalTellsSpec.post enc Tryz.prog Tryz.f5 false true false false W args v W':=by
 have hW':=hW
 obtain ⟨p,q,hA0,hV,rfl,hfz,hnd⟩:=hW
 have hA:DataW.TrodAll enc Tryz.prog W 0 (fun _=>true) true Tryz.f5.params.toList args.toList ds p:=hA0
 rw [Tryz.params5] at hA hval
 obtain ⟨v0,v1,d0,d1,p0,p1,rfl,rfl,rfl,h0,h1⟩:=trodAll_two hA
 obtain ⟨rfl,rfl⟩:=trodVars_none hV
 obtain ⟨ax,ay,aj,c1a,az,ak,Uy,bC,af,bu,aB,aC,n1b,aG,aF,au,Uz,bD,ah,bn,rfl,f1a,bI⟩:=Hl (hval 0 48 v0 rfl rfl) h0
 obtain ⟨aP,aQ,aK,aS,aU,aN,e2a,bM,aI,bT,aV,aW,aO,aX,aZ,aT,e2b,bP,aJ,bQ,rfl,fC,fD⟩:=Hl (hval 1 48 v1 rfl rfl) h1
 clear hA0
 have hlt : ∀ x∈p0++p1,x.block < W.heap.size:=fun x hx=>hW'.lt x (by simpa using hx)
 refine (aAG W (TJ hL) (TI hL) (SL hS) f1a bI fC fD).mono fun e W' ⟨he,hb⟩ => ?_
 subst he
 have b0:=Below.trod laidOut (by kernel_rfl) (of_decide_eq_true (by kernel_rfl)) h0 hb (fun x hx=>hlt x (by simp [hx]))
 have b1:=Below.trod laidOut (by kernel_rfl) (of_decide_eq_true (by kernel_rfl)) h1 hb (fun x hx=>hlt x (by simp [hx]))
 refine ⟨_,rfl,_,_,_,[],_,[],hW',?_,trodAll_mk2 b0 b1,rfl,hb.frame _,fun h=>by cases h⟩
 exact trodAll_mk1 (shut_bool aYU _)
theorem reads (os:Os) {H:Type} (enc:TypeId×Value→H) : ∃ ds places,DataW.whole enc Tryz.prog ((laidWorld os).forCall (fun _ _=>0) ⟨#[],#[fO,fO],[]⟩).memory Tryz.f5.params.toList Rows.intervalTellsSpec.vars false (#[fO,fO]:Array Value).toList 8=some (ds,[],places) :=
 ⟨[.agg [.agg [.lit (.bool false),.nil,.nil],.agg [.lit (.bool false),.nil,.nil]],.agg [.agg [.lit (.bool false),.nil,.nil],.agg [.lit (.bool false),.nil,.nil]]],[],by kernel_rfl⟩
theorem lifted (os:Os) (started:os.Started) (H:Type) (enc:TypeId×Value→H) (F:Stop.Interp) :
  ReturnsInHanded {} Tryz.checked os 5 .any ((OpenSpec.ofChange Rows.intervalTellsSpec).preRow enc Tryz.prog Tryz.f5 Rows.intervalTellsRow.domain false Rows.intervalTellsRow.laid) (((OpenSpec.ofChange Rows.intervalTellsSpec).at F).post enc Tryz.prog Tryz.f5 false true false false):=by
 obtain ⟨ds,places,hx⟩:=reads os enc
 refine returnsInHanded_of_row (C:=Tryz.checked) (s:=OpenSpec.ofChange Rows.intervalTellsSpec) own started (by kernel_rfl) a0o
  (witness_row_at (enc:=enc) (C:=Tryz.checked) false (laidWorld os) #[fO,fO] rfl (by kernel_rfl) (by kernel_rfl) (by kernel_rfl)
   (OpenSpec.preRow_of_cond 8 hx (by kernel_rfl) (fun k hk=>by cases hk) (by kernel_rfl) (laid_met os _))) ?_
 intro W base args ds gs before hval hW _ _ _ hL hS _
 exact contract H enc W base args ds gs before hval hW hL hS
theorem said:Rows.IntervalTellsSaid :=
 OpenClaim.holds_of_cond 5 Tryz.f5 rfl rfl rfl rfl rfl rfl rfl ⟨rfl,rfl,rfl,rfl,rfl⟩ rfl rfl rfl rfl rfl (by kernel_rfl) a0o (by kernel_rfl)
  (of_decide_eq_true (by kernel_rfl)) (by unfold Func.isWrapper; first | (rw [if_pos (by decide +kernel)]; kernel_rfl) | (rw [if_neg (by decide +kernel)]; exact ⟨rfl,rfl⟩))
  (fun os started H enc _ F=>by rw [OpenClaim.pre_eq_preRow]; exact lifted os started H enc F)
theorem plain (f:FuncId) (fn:Func) (hf:Tryz.pinned.checked.prog.funcNamed "linkwork/linkworklaw03.IntervalTells" = some f) (hfn:Tryz.pinned.checked.prog.funcs[f]? = some fn) :
  true=Tryz.pinned.checked.prog.looks [] ∧ ∀ (j:Nat) t,fn.params[j]? = some t→Tryz.pinned.checked.prog.wantsStandIn t=false:=by
 obtain rfl:f=5:=Option.some.inj ((show Tryz.prog.funcNamed "linkwork/linkworklaw03.IntervalTells" = some 5 by kernel_rfl).symm.trans hf) |>.symm
 obtain rfl:fn=Tryz.f5:=(Option.some.inj (a0o.symm.trans hfn)).symm
 refine ⟨by kernel_rfl,fun j t ht => ?_⟩
 rw [Tryz.params5] at ht
 have hm:t=48:=by simpa using Array.mem_of_getElem? ht
 subst hm
 exact (show Tryz.prog.wantsStandIn 48=false by kernel_rfl)
theorem card:Rows.IntervalTellsCardSaid :=
 Claim7.holds_tied_plain_at .later [] _ _ _ _ said (fun _ h=>by cases h) (by kernel_rfl) (fun _ h=>by cases h) intervalTells_row_tie rfl ⟨rfl,rfl⟩ (by kernel_rfl) rfl plain (by kernel_rfl)
end Go.Proofs.YtbihljnjaondcaaGreatDoor.intervalTells
