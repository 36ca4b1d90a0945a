/- Part of a proof, said shortly. -/
import Derived.WalkKit
import Derived.Below
import Derived.Laws.Cells
import Derived.OrdersHeld
import Derived.LoopN
import Derived.Test.YtbihljnjaondcaaGreatDoorAlz
import Derived.Test.YtbihljnjaondcaaGreatDoorC15
import Derived.Test.YtbihljnjaondcaaGreatDoorS1
import Derived.Test.YtbihljnjaondcaaGreatDoorC21
import Derived.Test.YtbihljnjaondcaaGreatDoorS10
import Derived.Test.YtbihljnjaondcaaGreatDoorS2
import Derived.Test.YtbihljnjaondcaaGreatDoorS13
import Derived.Test.YtbihljnjaondcaaGreatDoorC20
import Derived.Test.YtbihljnjaondcaaGreatDoorS4
import Derived.Test.YtbihljnjaondcaaGreatDoorS6
import Derived.Test.YtbihljnjaondcaaGreatDoorC16
import Derived.Test.YtbihljnjaondcaaGreatDoorC14
import Derived.Test.YtbihljnjaondcaaGreatDoorC13
import Derived.Test.YtbihljnjaondcaaGreatDoorC12
import Derived.Test.YtbihljnjaondcaaGreatDoorC11
import Derived.Test.YtbihljnjaondcaaGreatDoorC10
import Derived.Test.YtbihljnjaondcaaGreatDoorC6
import Derived.Test.YtbihljnjaondcaaGreatDoorC2
import Derived.Test.YtbihljnjaondcaaGreatDoorC1
import Derived.Test.YtbihljnjaondcaaGreatDoorC5
import Derived.Test.YtbihljnjaondcaaGreatDoorC4
import Derived.Test.YtbihljnjaondcaaGreatDoorC3
import Derived.Test.YtbihljnjaondcaaGreatDoorC9
import Derived.Test.YtbihljnjaondcaaGreatDoorC8
import Derived.Test.YtbihljnjaondcaaGreatDoorC7
import Derived.Test.YtbihljnjaondcaaGreatDoorC19
import Derived.Test.YtbihljnjaondcaaGreatDoorC18
import Derived.Test.YtbihljnjaondcaaGreatDoorC17
set_option maxRecDepth 100000
open Go.Proofs.YtbihljnjaondcaaGreatDoor (a0p a0q a0r a0s yw bU fO cO PS iy1 PT FX iy4 iy5 iy6 Yo iy8 iy9 aAJ)
set_option linter.unusedVariables false
set_option linter.unusedSimpArgs false
namespace bZ
open Go Go.RowKit
section
variable {P:Program} {ρ:Operand→Value} {w:World} {dst:Option Tmp} {ty:TypeId} {pos:String} {fB:Array Edge} {gd:Option (Nat×Bool)}
theorem JK {t t':TypeId} {x:Operand} {ms:Array (String×TypeId)} (hx:ρ x = .nilIface) (hc:ρ (.const .nilIface) = .nilIface) (hu : ∀ w,(underlying t).run P w = .ok (.interface ms) w) :
  (execOp ρ ⟨dst,.binOp .neq t x (.const .nilIface) t',ty,pos,fB,gd⟩).run P w = .ok (.value (.bool false)) w:=by
 simp [execOp,hx,hc,eqGuard,binOp,acn (P:=P) hu (.inl ⟨rfl,rfl,rfl⟩)]
end
end bZ
namespace bZ
open Go Go.RowKit
section
variable {P:Program} {ρ:Operand→Value} {w:World} {dst:Option Tmp} {ty:TypeId} {pos:String} {fB:Array Edge} {gd:Option (Nat×Bool)}
theorem arc {s t:TypeId} {x:Operand} {k k':IntKind} {n m:Int} {d:TypeDesc} (hx:ρ x = .int k n) (hs : ∀ w,(underlying s).run P w = .ok d w) (hd : ∀ w,(underlying t).run P w = .ok (.int k') w) (h:k'.wrap n=m) :
  (execOp ρ ⟨dst,.convert s t x,ty,pos,fB,gd⟩).run P w = .ok (.value (.int k' m)) w:=by
 subst h
 simp [execOp,hx,convert,hs,hd,Conv.intToInt]
end
end bZ
namespace Lw
open Go
theorem TK {z:Int} (h:(Lit.int .u8 z).wf=true):0≤z∧z≤255:=by
 have h2:IntKind.u8.min≤z∧z≤IntKind.u8.max:=by simpa [Lit.wf] using h
 exact h2
end Lw
