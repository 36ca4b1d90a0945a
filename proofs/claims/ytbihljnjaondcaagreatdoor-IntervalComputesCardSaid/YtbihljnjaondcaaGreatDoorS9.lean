/- Part of a proof, said shortly. -/
import Derived.WalkKit
import Derived.Below
import Derived.Laws.Cells
import Derived.OrdersHeld
import Derived.Test.YtbihljnjaondcaaGreatDoorAlz
import Derived.Test.YtbihljnjaondcaaGreatDoorC15
namespace bZ
open Go Go.RowKit
section
variable {P:Program} {ops:Array Oper} {Q:Exit→Act→World→Prop} {late:List Nat} {S:World→Prop} {N:Nat} {T:List (Nat×Value)} {W0 w w':World} {U:List Box} {Ps:List (World→Prop)}
variable {fuel d i:Nat} {listed listed':Array Bool} {o:Oper} {v:Value}
theorem JL.EH {id:Nat} {c:Code} {T':List (Nat×Value)} (hT : ∀ t v,iR T' t=some v→iR T t=some v) (h:JC P c Q N T' w):JL P ops (Exit.inBlock id (Exit.then (c.wp P Q) Q)) [] N T w:=fun a ha=>h a (ha.sub hT)
theorem JR.EH {id:Nat} {c:Code} {T':List (Nat×Value)} (hr:Region.ready .any ops listed=[]) (hT : ∀ t v,iR T' t=some v→iR T t=some v) (h:JC P c Q N T' w):JR P ops (Exit.inBlock id (Exit.then (c.wp P Q) Q)) late S fuel listed N T w:=JR.done hr fun a ha=>h a (ha.sub hT)
end
end bZ
