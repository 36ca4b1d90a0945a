/- Part of a proof, said shortly. -/
import Derived.WalkKit
import Derived.Below
import Derived.Laws.Cells
import Derived.OrdersHeld
import Derived.Test.YtbihljnjaondcaaGreatDoorAlz
import Derived.Test.YtbihljnjaondcaaGreatDoorC15
namespace bZ
open Go Go.RowKit
section
variable {P:Program} {ρ:Operand→Value} {w:World} {dst:Option Tmp} {ty:TypeId} {pos:String} {fB:Array Edge} {gd:Option (Nat×Bool)}
theorem OH {t:TypeId} {x:Operand} {v:Value} (hx:ρ x=v) (h:P.concrete t=true):(execOp ρ ⟨dst,.makeInterface t x,ty,pos,fB,gd⟩).run P w = .ok (.value (.iface t v)) w:=by
 simp [execOp,hx,run_makeInterface _ _ _ h]
end
end bZ
