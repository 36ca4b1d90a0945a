/- Part of a proof, said shortly. -/
import Derived.Test.YtbihljnjaondcaaGreatDoorAlz
import Derived.Test.YtbihljnjaondcaaGreatDoorS10
import Derived.Test.YtbihljnjaondcaaGreatDoorS19
import Derived.Test.YtbihljnjaondcaaGreatDoorC21
import Derived.Test.YtbihljnjaondcaaGreatDoorS2
import Derived.Test.YtbihljnjaondcaaGreatDoorS13
import Derived.Test.YtbihljnjaondcaaGreatDoorS22
import Derived.Test.YtbihljnjaondcaaGreatDoorC20
import Derived.Test.YtbihljnjaondcaaGreatDoorS4
import Derived.Test.YtbihljnjaondcaaGreatDoorS6
import Derived.Test.YtbihljnjaondcaaGreatDoorC15
import Derived.Test.YtbihljnjaondcaaGreatDoorS1
import Derived.Test.YtbihljnjaondcaaGreatDoorC16
import Derived.Test.YtbihljnjaondcaaGreatDoorC14
import Derived.Test.YtbihljnjaondcaaGreatDoorC13
import Derived.Test.YtbihljnjaondcaaGreatDoorC12
import Derived.Test.YtbihljnjaondcaaGreatDoorC11
import Derived.Test.YtbihljnjaondcaaGreatDoorC10
import Derived.Test.YtbihljnjaondcaaGreatDoorC6
import Derived.Test.YtbihljnjaondcaaGreatDoorC2
import Derived.Test.YtbihljnjaondcaaGreatDoorC1
import Derived.Test.YtbihljnjaondcaaGreatDoorC5
import Derived.Test.YtbihljnjaondcaaGreatDoorC4
import Derived.Test.YtbihljnjaondcaaGreatDoorC3
import Derived.Test.YtbihljnjaondcaaGreatDoorC9
import Derived.Test.YtbihljnjaondcaaGreatDoorC8
import Derived.Test.YtbihljnjaondcaaGreatDoorC7
import Derived.Test.YtbihljnjaondcaaGreatDoorC19
import Derived.Test.YtbihljnjaondcaaGreatDoorC18
import Derived.Test.YtbihljnjaondcaaGreatDoorC17
set_option maxRecDepth 100000
open Go.Proofs.YtbihljnjaondcaaGreatDoor (a0p a0q a0r a0s yw bU fO cO PS iy1 PT FX iy4 iy5 iy6 Yo iy8 iy9 aAJ)
set_option linter.unusedVariables false
set_option linter.unusedSimpArgs false
namespace Lw
open Go
theorem Zk (q:Rat) (m:Nat):vY q m=Rat.divInt (hiN q ((2 ^ m:Nat):Int)) ((2 ^ m:Nat):Int):=rfl
theorem Yk {q:Rat} (hq:0≤q) (u:Int) :
  ((uJ q u:Nat):Int)*((uJ q u:Nat):Int)*(q.den:Int)≤q.num*(u*u)∧q.num*(u*u) < (((uJ q u:Nat):Int)+1)*(((uJ q u:Nat):Int)+1)*(q.den:Int) ∧
  q.num*(u*u)≤hiN q u*hiN q u*(q.den:Int)∧(hiN q u≠0→(hiN q u - 1)*(hiN q u - 1)*(q.den:Int) < q.num*(u*u))∧0≤hiN q u:=by
 have hd:0 < (q.den:Int):=by have:=q.den_nz; omega
 have hn:=aeh (u:=u) hq
 have h1:=OG (q.num*(u*u) / (q.den:Int)).natAbs
 have h2:=Zm (q.num*(u*u) / (q.den:Int)).natAbs
 rw [show rt (q.num*(u*u) / (q.den:Int)).natAbs=uJ q u from rfl] at h1 h2
 have h0:(0:Int)≤((uJ q u:Nat):Int):=Int.natCast_nonneg _
 have e:(((q.num*(u*u) / (q.den:Int)).natAbs:Nat):Int)=q.num*(u*u) / (q.den:Int):=by omega
 have h1':((uJ q u:Nat):Int)*((uJ q u:Nat):Int)≤q.num*(u*u) / (q.den:Int):=by
  have:(((uJ q u*uJ q u:Nat)):Int)≤(((q.num*(u*u) / (q.den:Int)).natAbs:Nat):Int):=by exact_mod_cast h1
  rw [Int.natCast_mul,e] at this
  exact this
 have h2':q.num*(u*u) / (q.den:Int) < (((uJ q u:Nat):Int)+1)*(((uJ q u:Nat):Int)+1):=by
  have:(((q.num*(u*u) / (q.den:Int)).natAbs:Nat):Int) < ((((uJ q u+1)*(uJ q u+1):Nat)):Int):=by exact_mod_cast h2
  rw [Int.natCast_mul,e] at this
  exact this
 have h3:=Int.mul_ediv_add_emod (q.num*(u*u)) (q.den:Int)
 have h4:=Int.emod_nonneg (q.num*(u*u)) (show (q.den:Int)≠0 by omega)
 have h5:=Int.emod_lt_of_pos (q.num*(u*u)) hd
 have ex:yS q u=true↔q.num*(u*u) % (q.den:Int)=0∧((uJ q u:Nat):Int)*((uJ q u:Nat):Int)=q.num*(u*u) / (q.den:Int):=by
  unfold yS
  rw [Bool.and_eq_true,decide_eq_true_iff,decide_eq_true_iff]
 unfold hiN
 generalize yS q u=b at *
 generalize ((uJ q u:Nat):Int)=r at *
 generalize q.num*(u*u) / (q.den:Int)=F at *
 generalize q.num*(u*u) % (q.den:Int)=m at *
 generalize q.num*(u*u)=Z at *
 generalize (q.den:Int)=D at *
 have g1:r*r*D≤F*D:=Int.mul_le_mul_of_nonneg_right h1' (by omega)
 have g2:(F+1)*D≤(r+1)*(r+1)*D:=Int.mul_le_mul_of_nonneg_right (by omega) (by omega)
 have g3:F*D=D*F:=Int.mul_comm _ _
 rw [Int.add_mul] at g2
 refine ⟨by omega,by omega,?_,?_,?_⟩
 ·cases b
  ·rw [if_neg (by decide)]; omega
  ·rw [if_pos rfl]
   obtain ⟨e1,e2⟩:=ex.1 rfl
   rw [e2]; omega
 ·intro hz
  cases b
  ·rw [if_neg (by decide)]
   have:¬ (m=0∧r*r=F):=fun h=>by have:=ex.2 h; cases this
   rw [Int.add_sub_cancel]
   by_cases hm:m=0
   ·have h6:r*r+1≤F:=by omega
    have:=Int.mul_le_mul_of_nonneg_right h6 (show 0≤D by omega)
    rw [Int.add_mul] at this
    omega
   ·omega
  ·rw [if_pos rfl] at hz ⊢
   obtain ⟨e1,e2⟩:=ex.1 rfl
   have h6:(r - 1)*(r - 1)+1≤r*r:=by
    have:(r - 1)*(r - 1)=r*r - 2*r+1:=by grind
    omega
   have:=Int.mul_le_mul_of_nonneg_right h6 (show 0≤D by omega)
   rw [Int.add_mul] at this
   omega
 ·split <;> omega
theorem asb {M U:Int} {q:Rat} (hU:0 < U):Rat.divInt M U*Rat.divInt M U < q↔M*M*(q.den:Int) < q.num*(U*U):=by
 have hd:0 < (q.den:Int):=by have:=q.den_nz; omega
 have:=PD (a:=M*M) (b:=U*U) (c:=q.num) (d:=(q.den:Int)) (Int.mul_pos hU hU) hd
 rw [Rat.num_divInt_den,← Rat.divInt_mul_divInt] at this
 exact this
theorem aoC {M U:Int} {q:Rat} (hU:0 < U):q < Rat.divInt M U*Rat.divInt M U↔q.num*(U*U) < M*M*(q.den:Int):=by
 have hd:0 < (q.den:Int):=by have:=q.den_nz; omega
 have:=PD (a:=q.num) (b:=(q.den:Int)) (c:=M*M) (d:=U*U) hd (Int.mul_pos hU hU)
 rw [Rat.num_divInt_den,← Rat.divInt_mul_divInt] at this
 exact this
theorem Fj (m:Nat):0 < ((2 ^ m:Nat):Int):=by have:=Nat.two_pow_pos m; omega
theorem anb (a c U:Int):Rat.divInt a U+Rat.divInt c U=Rat.divInt (a+c) U:=by
 rw [Rat.divInt_eq_div,Rat.divInt_eq_div,Rat.divInt_eq_div,Rat.intCast_add,Rat.div_def,Rat.div_def,Rat.div_def,Rat.add_mul]
theorem anc (a c U:Int):Rat.divInt a U - Rat.divInt c U=Rat.divInt (a - c) U:=by
 rw [Rat.divInt_eq_div,Rat.divInt_eq_div,Rat.divInt_eq_div,Rat.intCast_sub,Rat.div_def,Rat.div_def,Rat.div_def]
 grind
theorem Vo {q:Rat} (hq:0≤q) (m:Nat):¬ q < xe q m*xe q m:=by
 have:=(Yk hq ((2 ^ m:Nat):Int)).1
 unfold xe
 rw [aoC (Fj m)]
 omega
theorem ajf {q:Rat} (hq:0≤q) (m:Nat):¬ (xe q m+Rat.divInt 1 ((2 ^ m:Nat):Int))*(xe q m+Rat.divInt 1 ((2 ^ m:Nat):Int))≤q:=by
 have:=(Yk hq ((2 ^ m:Nat):Int)).2.1
 unfold xe
 rw [anb]
 rw [Rat.not_le,aoC (Fj m)]
 omega
theorem Zi {q:Rat} (hq:0≤q) (m:Nat):¬ vY q m*vY q m < q:=by
 have:=(Yk hq ((2 ^ m:Nat):Int)).2.2.1
 rw [Zk,asb (Fj m)]
 omega
theorem ax6 {a U:Int} (hU:0 < U):Rat.divInt a U=0↔a=0:=by
 constructor
 ·intro h
  have h1:=PD (a:=a) (c:=0) hU (show (0:Int) < 1 by decide)
  have h2:=PD (a:=0) (c:=a) (show (0:Int) < 1 by decide) hU
  rw [h,Rat.zero_divInt] at h1 h2
  have h3:¬ ((0:Rat) < 0):=by grind
  have:=mt h1.2 h3
  have:=mt h2.2 h3
  omega
 ·intro h; rw [h,Rat.zero_divInt]
theorem aee {q:Rat} (hq:0≤q) (m:Nat) (h:vY q m≠0):(vY q m - Rat.divInt 1 ((2 ^ m:Nat):Int))*(vY q m - Rat.divInt 1 ((2 ^ m:Nat):Int)) < q:=by
 have h1:=(Yk hq ((2 ^ m:Nat):Int)).2.2.2.1
 rw [Zk] at h ⊢
 rw [anc,asb (Fj m)]
 exact h1 (fun e=>h ((ax6 (Fj m)).2 e))
theorem RI {a b U:Int} (hU:0 < U):Rat.divInt a U≤Rat.divInt b U↔a≤b:=by
 have:=PD (a:=b) (c:=a) hU hU
 rw [← Rat.not_lt,this]
 constructor
 ·intro h
  have h1:¬ b < a:=fun e=>h (Int.mul_lt_mul_of_pos_right e hU)
  omega
 ·intro h h1
  have:=Int.lt_of_mul_lt_mul_right h1 (Int.le_of_lt hU)
  omega
theorem Qd {q:Rat} (hq:0≤q) (m:Nat):0≤xe q m∧0≤vY q m:=by
 have h0:(0:Rat)=Rat.divInt 0 ((2 ^ m:Nat):Int):=(Rat.zero_divInt _).symm
 have h1:=(Yk hq ((2 ^ m:Nat):Int)).2.2.2.2
 constructor
 ·unfold xe; rw [h0,RI (Fj m)]; exact Int.natCast_nonneg _
 ·rw [Zk,h0,RI (Fj m)]; exact h1
theorem ajD {x y:Rat} (hx:0≤x) (hy:0≤y) (h:x*x≤y*y):x≤y:=by
 by_cases e:x≤y
 ·exact e
 ·have h1:y < x:=by grind
  have h2:=yE hx (show y≤x by grind)
  have h3:=yE hy (show y≤x by grind)
  have h4:y*y < x*x:=by
   have:x*x - y*y=(x - y)*(x+y):=by grind
   have h5:=Rat.mul_pos (show 0 < x - y by grind) (show 0 < x+y by grind)
   grind
  grind
theorem ajh {l h:Rat} (hl:0≤l) (hh:l≤h) (m:Nat):xe l m≤vY h m:=by
 have hh0:0≤h:=by grind
 have a:=Vo hl m
 have b:=Zi hh0 m
 exact ajD (Qd hl m).1 (Qd hh0 m).2 (by grind)
end Lw
