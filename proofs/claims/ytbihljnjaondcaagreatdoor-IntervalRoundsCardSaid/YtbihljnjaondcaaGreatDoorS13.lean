/- Part of a proof, said shortly. -/
import Derived.Test.YtbihljnjaondcaaGreatDoorAlz
import Derived.Test.YtbihljnjaondcaaGreatDoorC21
import Derived.Test.YtbihljnjaondcaaGreatDoorC20
import Derived.Test.YtbihljnjaondcaaGreatDoorC15
import Derived.Test.YtbihljnjaondcaaGreatDoorS1
import Derived.Test.YtbihljnjaondcaaGreatDoorC16
import Derived.Test.YtbihljnjaondcaaGreatDoorC14
import Derived.Test.YtbihljnjaondcaaGreatDoorC13
import Derived.Test.YtbihljnjaondcaaGreatDoorC12
import Derived.Test.YtbihljnjaondcaaGreatDoorC11
import Derived.Test.YtbihljnjaondcaaGreatDoorC10
import Derived.Test.YtbihljnjaondcaaGreatDoorC6
import Derived.Test.YtbihljnjaondcaaGreatDoorC2
import Derived.Test.YtbihljnjaondcaaGreatDoorC1
import Derived.Test.YtbihljnjaondcaaGreatDoorC5
import Derived.Test.YtbihljnjaondcaaGreatDoorC4
import Derived.Test.YtbihljnjaondcaaGreatDoorC3
import Derived.Test.YtbihljnjaondcaaGreatDoorC9
import Derived.Test.YtbihljnjaondcaaGreatDoorC8
import Derived.Test.YtbihljnjaondcaaGreatDoorC7
import Derived.Test.YtbihljnjaondcaaGreatDoorC19
import Derived.Test.YtbihljnjaondcaaGreatDoorC18
import Derived.Test.YtbihljnjaondcaaGreatDoorC17
open Go.Proofs.YtbihljnjaondcaaGreatDoor (a0p a0q a0r a0s yw bU fO cO PS iy1 PT FX iy4 iy5 iy6 Yo iy8 iy9 aAJ)
set_option linter.unusedVariables false
set_option linter.unusedSimpArgs false
namespace Lw
open Go Go.RowKit bZ
theorem ao1 {A B P:Int} (h:0 < P):A*P < B*P↔A < B:=⟨fun h1=>Int.lt_of_mul_lt_mul_right h1 (Int.le_of_lt h),fun h1=>Int.mul_lt_mul_of_pos_right h1 h⟩
theorem amE {a b:Int} (hb:0 < b):(Rat.divInt a b).num*b=a*((Rat.divInt a b).den:Int):=by
 have:=Rat.num_divInt_den (Rat.divInt a b)
 exact (Rat.divInt_eq_divInt_iff (by have:=(Rat.divInt a b).den_nz; omega) (by omega)).1 this
theorem PD {a b c d:Int} (hb:0 < b) (hd:0 < d):Rat.divInt a b < Rat.divInt c d↔a*d < c*b:=by
 have h1:=amE (a:=a) hb
 have h2:=amE (a:=c) hd
 have p1:0 < ((Rat.divInt a b).den:Int):=by have:=(Rat.divInt a b).den_nz; omega
 have p2:0 < ((Rat.divInt c d).den:Int):=by have:=(Rat.divInt c d).den_nz; omega
 rw [Rat.lt_iff]
 generalize (Rat.divInt a b).num=n1 at *
 generalize (Rat.divInt c d).num=n2 at *
 generalize ((Rat.divInt a b).den:Int)=d1 at *
 generalize ((Rat.divInt c d).den:Int)=d2 at *
 rw [← ao1 (Int.mul_pos hb hd),← ao1 (A:=a*d) (Int.mul_pos p1 p2)]
 have e1:n1*d2*(b*d)=a*d*(d1*d2):=by
  have:n1*d2*(b*d)=(n1*b)*(d2*d):=by grind
  rw [this,h1]; grind
 have e2:n2*d1*(b*d)=c*b*(d1*d2):=by
  have:n2*d1*(b*d)=(n2*d)*(d1*b):=by grind
  rw [this,h2]; grind
 rw [e1,e2]
end Lw
