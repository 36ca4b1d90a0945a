/- Part of a proof, said shortly. -/
import Derived.WalkKit
import Derived.Below
import Derived.Laws.Cells
import Derived.OrdersHeld
import Derived.Test.YtbihljnjaondcaaGreatDoorAlz
import Derived.Test.YtbihljnjaondcaaGreatDoorC15
import Derived.Test.YtbihljnjaondcaaGreatDoorS1
import Derived.Test.YtbihljnjaondcaaGreatDoorS19
import Derived.Test.YtbihljnjaondcaaGreatDoorC25
import Derived.Test.YtbihljnjaondcaaGreatDoorC22
import Derived.Test.YtbihljnjaondcaaGreatDoorS21
import Derived.Test.YtbihljnjaondcaaGreatDoorC21
import Derived.Test.YtbihljnjaondcaaGreatDoorS2
import Derived.Test.YtbihljnjaondcaaGreatDoorS13
import Derived.Test.YtbihljnjaondcaaGreatDoorC20
import Derived.Test.YtbihljnjaondcaaGreatDoorS7
import Derived.Test.YtbihljnjaondcaaGreatDoorS4
import Derived.Test.YtbihljnjaondcaaGreatDoorS6
import Derived.Test.YtbihljnjaondcaaGreatDoorC16
import Derived.Test.YtbihljnjaondcaaGreatDoorC14
import Derived.Test.YtbihljnjaondcaaGreatDoorC13
import Derived.Test.YtbihljnjaondcaaGreatDoorC12
import Derived.Test.YtbihljnjaondcaaGreatDoorC11
import Derived.Test.YtbihljnjaondcaaGreatDoorC10
import Derived.Test.YtbihljnjaondcaaGreatDoorC6
import Derived.Test.YtbihljnjaondcaaGreatDoorC2
import Derived.Test.YtbihljnjaondcaaGreatDoorC1
import Derived.Test.YtbihljnjaondcaaGreatDoorC5
import Derived.Test.YtbihljnjaondcaaGreatDoorC4
import Derived.Test.YtbihljnjaondcaaGreatDoorC3
import Derived.Test.YtbihljnjaondcaaGreatDoorC9
import Derived.Test.YtbihljnjaondcaaGreatDoorC8
import Derived.Test.YtbihljnjaondcaaGreatDoorC7
import Derived.Test.YtbihljnjaondcaaGreatDoorC19
import Derived.Test.YtbihljnjaondcaaGreatDoorC18
import Derived.Test.YtbihljnjaondcaaGreatDoorC17
import Derived.Test.YtbihljnjaondcaaGreatDoorC23
import Derived.Test.YtbihljnjaondcaaGreatDoorC24
import Derived.Test.YtbihljnjaondcaaGreatDoorS10
set_option maxRecDepth 100000
open Go.Proofs.YtbihljnjaondcaaGreatDoor (a0p a0q a0r a0s yw bU fO cO PS iy1 PT FX iy4 iy5 iy6 Yo iy8 iy9 aAJ)
set_option linter.unusedVariables false
set_option linter.unusedSimpArgs false
namespace bZ
open Go Go.RowKit
section
variable {P:Program} {ρ:Operand→Value} {w:World} {dst:Option Tmp} {ty:TypeId} {pos:String} {fB:Array Edge} {gd:Option (Nat×Bool)}
theorem Zo {t t' u:TypeId} {x:Operand} {v:Value} {ms:Array (String×TypeId)} (hx:ρ x = .iface u v) (hc:ρ (.const .nilIface) = .nilIface) (hu : ∀ w,(underlying t).run P w = .ok (.interface ms) w) :
  (execOp ρ ⟨dst,.binOp .neq t x (.const .nilIface) t',ty,pos,fB,gd⟩).run P w = .ok (.value (.bool true)) w:=by
 simp [execOp,hx,hc,eqGuard,binOp,acn (P:=P) hu (.inr (.inr ⟨rfl,⟨u,v,rfl⟩,rfl⟩))]
end
end bZ
namespace Go.Proofs.YtbihljnjaondcaaGreatDoor
open Go Go.RowKit Lw bZ
section
variable {W0 w:World} {U:List Box} {Ps:List (World→Prop)}
variable {ax:Bool} {ay:Option Addr} {aj c1a:Nat} {az:Option Addr} {ak aA:Nat} {aB:Bool} {aC:Option Addr} {n1b aG:Nat} {aF:Option Addr} {au aH:Nat} {s2:Bool} {A2:Option Addr} {n2 c2:Nat} {B2:Option Addr} {m2 d2:Nat}
theorem VF (HT:Tz W0) (HB:Tab W0) (HS:St W0 U Ps w) {af:Rat} {bC:Nat} {ah:Rat} {bD:Nat} {q2:Rat} {k2:Nat} {b2:Bool} (f1a:FV (a0p ax ay aj c1a az ak aA) af bC true w) (bI:FV (a0p aB aC n1b aG aF au aH) ah bD true w) (f2:FV (a0p s2 A2 n2 c2 B2 m2 d2) q2 k2 b2 w) (hk:bC+bD+k2≤1000) (fE:af≤ah):bY Tryz.prog 42 [(a0r ax ay aj c1a az ak aA aB aC n1b aG aF au aH),(a0p s2 A2 n2 c2 B2 m2 d2)] w (iP W0 U Ps (.bool (decide (af≤q2)&&decide (q2≤ah)))):=by
 have h:=aeZ HT HB HS f1a bI f2 hk
 simp only [vG fE,vF fE] at h
 exact h
theorem Dn (HT:Tz W0) (HB:Tab W0) (HS:St W0 U Ps w) {af:Rat} {bC:Nat} {ah:Rat} {bD:Nat} {q2:Rat} {k2:Nat} {b2:Bool} (f1a:FV (a0p ax ay aj c1a az ak aA) af bC true w) (bI:FV (a0p aB aC n1b aG aF au aH) ah bD true w) (f2:FV (a0p s2 A2 n2 c2 B2 m2 d2) q2 k2 b2 w) (hk:bC+bD+k2≤1000) (hab:af≤ah) (hz:af≤q2∧q2≤ah) :
 bY Tryz.prog 42 [(a0r ax ay aj c1a az ak aA aB aC n1b aG aF au aH),(a0p s2 A2 n2 c2 B2 m2 d2)] w (iP W0 U Ps (.bool true)):=by
 have h:=VF HT HB HS f1a bI f2 hk hab
 rw [decide_eq_true hz.1,decide_eq_true hz.2] at h
 exact h
set_option maxHeartbeats 400000 in
theorem Yj (HT:Tz W0) (HB:Tab W0) {z1:Int} (HS:St W0 U Ps w) (h1 : -9223372036854775808≤z1) (h2:z1≤9223372036854775807):bY Tryz.prog 75 [.iface 74 (.int .i64 z1),.int .i64 z1] w (iP W0 U Ps (.bool true)):=by
 refine iL Tryz.func75 rfl Tryz.ntmps75 rfl ?_
 refine JC.seq ?_
 refine JC.region ?_
 refine Lv (.bool false) (fun a ha=>run_assign (ha.ev rfl)) ?_
 refine jn ?_
 refine JC.seq ?_
 refine JC.region ?_
 refine Lv (.iface 74 (.int .i64 z1)) (fun a ha=>run_move (ha.ev rfl)) ?_
 refine JL.call rfl rfl aZt (apy HS z1) (fun v1 w1 HR1 => ?_)
 obtain ⟨rfl,HS⟩:=HR1
 refine Lv (.int .i64 z1) (fun a ha=>run_move (ha.ev rfl)) ?_
 refine Lv (.bool true) (fun a ha=>rC (ha.ev rfl) (ha.ev rfl) (by simp)) ?_
 refine Lv (.bool true) (fun a ha=>run_assign (ha.ev rfl)) ?_
 refine jn ?_
 refine JC.ret (fun a ha => ?_)
 repeat (first | refine dh ?_ | refine df ?_)
 refine fG (v := .bool true) ha Tryz.results75 (.tmp rfl) ⟨_,rfl,?_⟩
 exact ⟨rfl,HS.gy 0 0 rfl rfl⟩
end
end Go.Proofs.YtbihljnjaondcaaGreatDoor
