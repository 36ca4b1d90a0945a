/- Part of a proof, said shortly. -/
import Derived.Test.YtbihljnjaondcaaGreatDoorAlz
import Derived.Test.YtbihljnjaondcaaGreatDoorC5
import Derived.Test.YtbihljnjaondcaaGreatDoorC4
import Derived.Test.YtbihljnjaondcaaGreatDoorC3
import Derived.Test.YtbihljnjaondcaaGreatDoorC2
import Derived.Test.YtbihljnjaondcaaGreatDoorC1
import Derived.Test.YtbihljnjaondcaaGreatDoorC20
import Derived.Test.YtbihljnjaondcaaGreatDoorC15
import Derived.Test.YtbihljnjaondcaaGreatDoorS1
import Derived.Test.YtbihljnjaondcaaGreatDoorC16
import Derived.Test.YtbihljnjaondcaaGreatDoorC14
import Derived.Test.YtbihljnjaondcaaGreatDoorC13
import Derived.Test.YtbihljnjaondcaaGreatDoorC12
import Derived.Test.YtbihljnjaondcaaGreatDoorC11
import Derived.Test.YtbihljnjaondcaaGreatDoorC10
import Derived.Test.YtbihljnjaondcaaGreatDoorC6
import Derived.Test.YtbihljnjaondcaaGreatDoorC9
import Derived.Test.YtbihljnjaondcaaGreatDoorC8
import Derived.Test.YtbihljnjaondcaaGreatDoorC7
import Derived.Test.YtbihljnjaondcaaGreatDoorC19
import Derived.Test.YtbihljnjaondcaaGreatDoorC18
import Derived.Test.YtbihljnjaondcaaGreatDoorC17
open Go.Proofs.YtbihljnjaondcaaGreatDoor (a0p a0q a0r a0s yw bU fO cO PS iy1 PT FX iy4 iy5 iy6 Yo iy8 iy9 aAJ)
namespace Go.Proofs.YtbihljnjaondcaaGreatDoor
open Go Go.RowKit Lw
theorem axl (z:Int) (w:World):Sem.run Tryz.prog (Instr.typeAssert (.iface 74 (.int .i64 z)) 28 74 true) w = .ok (.tuple #[.int .i64 z,.bool true]) w:=by kernel_rfl
set_option maxRecDepth 100000 in
set_option maxHeartbeats 800000 in
theorem aBx (z:Int) (w:World):Calls Tryz.prog 20 #[.iface 74 (.int .i64 z)] w fun e w'=>e = .returned (.int .i64 z)∧w=w':=by
 go_enter Tryz.func20,Tryz.ntmps20
 have ha:=axl z w
 go_wp2
 go_ret
 exact ⟨rfl,rfl⟩
end Go.Proofs.YtbihljnjaondcaaGreatDoor
namespace Go.Proofs.YtbihljnjaondcaaGreatDoor
open Go Go.RowKit Lw bZ
section
variable {W0 w:World} {U:List Box} {Ps:List (World→Prop)}
theorem apy (HS:St W0 U Ps w) (z:Int):bY Tryz.prog 20 [.iface 74 (.int .i64 z)] w (iP W0 U Ps (.int .i64 z)):=St.same HS (aBx z w)
end
end Go.Proofs.YtbihljnjaondcaaGreatDoor
