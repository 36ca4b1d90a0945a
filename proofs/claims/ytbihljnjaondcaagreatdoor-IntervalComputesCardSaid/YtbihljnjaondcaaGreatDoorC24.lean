/- Part of a proof, said shortly. -/
import Derived.Test.YtbihljnjaondcaaGreatDoorAlz
import Derived.Test.YtbihljnjaondcaaGreatDoorC22
import Derived.Test.YtbihljnjaondcaaGreatDoorC21
import Derived.Test.YtbihljnjaondcaaGreatDoorC20
import Derived.Test.YtbihljnjaondcaaGreatDoorC15
import Derived.Test.YtbihljnjaondcaaGreatDoorC16
import Derived.Test.YtbihljnjaondcaaGreatDoorC14
import Derived.Test.YtbihljnjaondcaaGreatDoorC13
import Derived.Test.YtbihljnjaondcaaGreatDoorC12
import Derived.Test.YtbihljnjaondcaaGreatDoorC11
import Derived.Test.YtbihljnjaondcaaGreatDoorC10
import Derived.Test.YtbihljnjaondcaaGreatDoorC6
import Derived.Test.YtbihljnjaondcaaGreatDoorC2
import Derived.Test.YtbihljnjaondcaaGreatDoorC1
import Derived.Test.YtbihljnjaondcaaGreatDoorC5
import Derived.Test.YtbihljnjaondcaaGreatDoorC4
import Derived.Test.YtbihljnjaondcaaGreatDoorC3
import Derived.Test.YtbihljnjaondcaaGreatDoorC9
import Derived.Test.YtbihljnjaondcaaGreatDoorC8
import Derived.Test.YtbihljnjaondcaaGreatDoorC7
import Derived.Test.YtbihljnjaondcaaGreatDoorC19
import Derived.Test.YtbihljnjaondcaaGreatDoorC18
import Derived.Test.YtbihljnjaondcaaGreatDoorC17
set_option maxRecDepth 100000
open Go.Proofs.YtbihljnjaondcaaGreatDoor (a0p a0q a0r a0s yw bU fO cO PS iy1 PT FX iy4 iy5 iy6 Yo iy8 iy9 aAJ)
set_option linter.unusedVariables false
set_option linter.unusedSimpArgs false
namespace Go.Proofs.YtbihljnjaondcaaGreatDoor
open Go Go.RowKit Lw bZ
section
variable {W0 w:World} {U:List Box} {Ps:List (World→Prop)}
variable {s1:Bool} {A1:Option Addr} {n1 c1:Nat} {B1:Option Addr} {m1 d1:Nat} {ax:Bool} {ay:Option Addr} {aj c1a:Nat} {az:Option Addr} {ak aA:Nat} {aB:Bool} {aC:Option Addr} {n1b aG:Nat} {aF:Option Addr} {au aH:Nat}
set_option maxHeartbeats 2000000 in
theorem asT (HT:Tz W0) (HB:Tab W0) {q1:Rat} {k1:Nat} {s2:Bool} {A2:Option Addr} {n2 c2:Nat} {x2:Int} {k2:Nat} (HS:St W0 U Ps w) (f1:FV (a0p s1 A1 n1 c1 B1 m1 d1) q1 k1 true w) (f2:FI (.agg #[.bool s2,.slice A2 n2 c2]) x2 k2 w) (hk:k1+k2≤2000) (hb:0≤q1):bY Tryz.prog 191 [(a0p s1 A1 n1 c1 B1 m1 d1),.agg #[.bool s2,.slice A2 n2 c2]] w (aaK W0 U Ps (((uJ q1 x2:Nat):Int)) (k1+2+(k2+k2+1)+1+1) (.bool (yS q1 x2))):=by
 have HS:=HS.add (FV.stable _ _ _ _) f1
 have HS:=HS.add (FI.stable _ _ _) f2
 clear f1 f2
 refine iL Tryz.func191 rfl Tryz.ntmps191 rfl ?_
 refine JC.seq ?_
 refine JC.region ?_
 refine JL.box (vs:=(a0q s1 A1 n1 c1 B1 m1 d1)) HS rfl rfl rfl rfl (fun g1 w1 HS => ?_)
 refine JL.box (vs:=[.bool s2,.slice A2 n2 c2]) HS rfl rfl rfl rfl (fun g2 w2 HS => ?_)
 refine JL.alloc (vs:=[.bool false,.slice none 0 0]) HS rfl aYw rfl rfl (fun g3 w3 HS => ?_)
 refine Lv (.bool false) (fun a ha=>run_assign (ha.ev rfl)) ?_
 refine jn ?_
 refine JC.seq ?_
 refine JC.region ?_
 refine JL.load (a0p s1 A1 n1 c1 B1 m1 d1) HS 2 rfl rfl rfl aYp aYn rfl rfl ?_
 refine JL.call rfl rfl Tryz.call222 (ayU HT HB HS (HS.at_ 1 rfl) (by omega)) (fun v4 w4 HR4 => ?_)
 obtain ⟨uY,uP,uV,uT,uZ,uQ,n4b,uU,rfl,HS⟩:=HR4
 refine Lv (.tuple #[.agg #[.bool uY,.slice uP uV uT],.agg #[.bool uZ,.slice uQ n4b uU]]) (fun a ha=>run_move (ha.ev rfl)) ?_
 refine Lv (.agg #[.bool uY,.slice uP uV uT]) (fun a ha=>bK (ha.ev rfl) rfl) ?_
 refine Lv (.agg #[.bool uZ,.slice uQ n4b uU]) (fun a ha=>bK (ha.ev rfl) rfl) ?_
 refine JL.alloc (vs:=[.bool false,.slice none 0 0]) HS rfl aYw rfl rfl (fun g5 w5 HS => ?_)
 refine JL.alloc (vs:=[.bool false,.slice none 0 0]) HS rfl aYw rfl rfl (fun g6 w6 HS => ?_)
 refine JL.store HS rfl rfl (i:=1) rfl aYu rfl rfl rfl (vs':=[.bool uY,.slice uP uV uT]) rfl rfl (fun w7 HS => ?_)
 refine JL.store HS rfl rfl (i:=0) rfl aYu rfl rfl rfl (vs':=[.bool uZ,.slice uQ n4b uU]) rfl rfl (fun w8 HS => ?_)
 refine jn ?_
 refine JC.cut (ι:=iy4) (fun ⟨nZ,nO,nT,nR,pG,nP,nU,nS,gu,fP,fZ,fU,gK,gG,gJ,gI,sQ,sS⟩=>[(0,(a0p s1 A1 n1 c1 B1 m1 d1)),(1,.agg #[.bool s2,.slice A2 n2 c2]),(2,.pointer (some ⟨g1,0,none⟩)),(4,.pointer (some ⟨g3,0,none⟩)),(5,.bool false),(6,.pointer (some ⟨g5,0,none⟩)),(7,.pointer (some ⟨g6,0,none⟩)),(8,.pointer (some ⟨sQ,0,none⟩)),(9,.pointer (some ⟨sS,0,none⟩)),(11,.tuple #[.agg #[.bool uY,.slice uP uV uT],.agg #[.bool uZ,.slice uQ n4b uU]]),(12,(a0p s1 A1 n1 c1 B1 m1 d1)),(13,.tuple #[.agg #[.bool uY,.slice uP uV uT],.agg #[.bool uZ,.slice uQ n4b uU]]),(14,.agg #[.bool uY,.slice uP uV uT]),(15,.agg #[.bool uZ,.slice uQ n4b uU])]) (fun ⟨nZ,nO,nT,nR,pG,nP,nU,nS,gu,fP,fZ,fU,gK,gG,gJ,gI,sQ,sS⟩ w=>St W0 (⟨sS,39,[.bool gK,.slice gG gJ gI]⟩ :: ⟨sQ,39,[.bool gu,.slice fP fZ fU]⟩ :: ⟨g6,39,[.bool uZ,.slice uQ n4b uU]⟩ :: ⟨g5,39,[.bool uY,.slice uP uV uT]⟩ :: ⟨g3,39,[.bool false,.slice none 0 0]⟩ :: ⟨g2,39,[.bool s2,.slice A2 n2 c2]⟩ :: ⟨g1,24,(a0q s1 A1 n1 c1 B1 m1 d1)⟩ :: U) (FI (.agg #[.bool gu,.slice fP fZ fU]) ((q1.num*(x2*x2)) / (q1.den:Int)) (((k1+2)+(k2+k2+1)+1)+1) :: FI (.agg #[.bool gK,.slice gG gJ gI]) ((q1.num*(x2*x2)) % (q1.den:Int)) (k1+2) :: FI (.agg #[.bool pG,.slice nP nU nS]) (q1.num*(x2*x2)) ((k1+2)+(k2+k2+1)+1) :: FI (.agg #[.bool nZ,.slice nO nT nR]) (x2*x2) (k2+k2+1) :: FI (.agg #[.bool uY,.slice uP uV uT]) q1.num (k1+2) :: FI (.agg #[.bool uZ,.slice uQ n4b uU]) (q1.den:Int) (k1+2) :: FI (.agg #[.bool s2,.slice A2 n2 c2]) x2 k2 :: FV (a0p s1 A1 n1 c1 B1 m1 d1) q1 k1 true :: Ps) w) ?_ ?_
 ·skip
  refine JC.draw HS [] (by kernel_rfl) (fun w10 HS => ?_)
  refine Da (.agg #[.bool uY,.slice uP uV uT]) 0 1 rfl HS.b0 rfl rfl aYy aYu ?_
  refine Da (.agg #[.bool s2,.slice A2 n2 c2]) 1 3 rfl HS.b0 rfl rfl aYy aYu ?_
  refine Da (.agg #[.bool s2,.slice A2 n2 c2]) 2 3 rfl HS.b0 rfl rfl aYy aYu ?_
  refine Da (.agg #[.bool uZ,.slice uQ n4b uU]) 5 0 rfl HS.b0 rfl rfl aYy aYu ?_
  refine JR.any [3,11,12] (by kernel_rfl) rfl ?_
  refine ai.call rfl rfl rfl aYP (Aw HT HB HS (HS.at_ 2 rfl) (HS.at_ 2 rfl) (by omega)) rfl (fun TL TW DW => ?_) ?_
  ·skip
   obtain ⟨nZ,nO,nT,nR,rfl,HS⟩:=DW
   refine ⟨HS.b0,?_⟩
   refine JR.any [4,11,12] (by kernel_rfl) rfl ?_
   refine ai.call rfl rfl rfl aYP (Aw HT HB HS (HS.at_ 1 rfl) (HS.at_ 0 rfl) (by omega)) rfl (fun Fp Em wO => ?_) ?_
   ·skip
    obtain ⟨pG,nP,nU,nS,rfl,HS⟩:=wO
    refine ⟨HS.b0,?_⟩
    refine JR.any [6,11,12] (by kernel_rfl) rfl ?_
    refine ai.call rfl rfl rfl aYQ (Bd HT HB HS (HS.at_ 0 rfl) (HS.at_ 3 rfl) (by omega) (tJ _)) rfl (fun Bg Bi uo => ?_) ?_
    ·skip
     obtain ⟨gu,fP,fZ,fU,gK,gG,gJ,gI,rfl,HS⟩:=uo
     refine ⟨HS.b0,?_⟩
     refine Dv (.tuple #[.agg #[.bool gu,.slice fP fZ fU],.agg #[.bool gK,.slice gG gJ gI],.nilIface]) 7 rfl HS.b0 (fun a ha w=>run_move (ha.ev rfl)) ?_
     refine Dv (.agg #[.bool gu,.slice fP fZ fU]) 8 rfl HS.b0 (fun a ha w=>bK (ha.ev rfl) rfl) ?_
     refine Dv (.agg #[.bool gK,.slice gG gJ gI]) 9 rfl HS.b0 (fun a ha w=>bK (ha.ev rfl) rfl) ?_
     refine Dv (.nilIface) 10 rfl HS.b0 (fun a ha w=>bK (ha.ev rfl) rfl) ?_
     refine JR.any [11,12] (by kernel_rfl) rfl ?_
     refine ai.alloc (vs:=[.bool false,.slice none 0 0]) HS rfl rfl aYw rfl rfl rfl (fun sQ O9 HS => ?_) ?_
     ·skip
      refine ⟨HS.b1,?_⟩
      refine jy (vs:=[.bool false,.slice none 0 0]) 12 HS rfl aYw rfl (fun sS _ HS=>⟨HS.b2,?_⟩)
      refine bF 13 [.bool gu,.slice fP fZ fU] HS 1 rfl rfl rfl rfl aYu (fun _ HS=>⟨HS.b2,?_⟩)
      refine bF 14 [.bool gK,.slice gG gJ gI] HS 0 rfl rfl rfl rfl aYu (fun _ HS=>⟨HS.b2,?_⟩)
      refine Dv (.nilIface) 15 rfl HS.b2 (fun a ha w=>run_assign (ha.ev rfl)) ?_
      exact JR.mt (nZ,nO,nT,nR,pG,nP,nU,nS,gu,fP,fZ,fU,gK,gG,gJ,gI,sQ,sS) HS
     refine ai.alloc (vs:=[.bool false,.slice none 0 0]) HS rfl rfl aYw rfl rfl rfl (fun sS Pg HS => ?_) ai.nil
     refine ⟨HS.b1,?_⟩
     refine jy (vs:=[.bool false,.slice none 0 0]) 11 HS rfl aYw rfl (fun sQ _ HS=>⟨HS.b2,?_⟩)
     refine bF 13 [.bool gu,.slice fP fZ fU] HS 0 rfl rfl rfl rfl aYu (fun _ HS=>⟨HS.b2,?_⟩)
     refine bF 14 [.bool gK,.slice gG gJ gI] HS 1 rfl rfl rfl rfl aYu (fun _ HS=>⟨HS.b2,?_⟩)
     refine Dv (.nilIface) 15 rfl HS.b2 (fun a ha w=>run_assign (ha.ev rfl)) ?_
     exact JR.mt (nZ,nO,nT,nR,pG,nP,nU,nS,gu,fP,fZ,fU,gK,gG,gJ,gI,sQ,sS) (HS.perm (.swap _ _ _))
    refine ai.alloc (vs:=[.bool false,.slice none 0 0]) HS rfl rfl aYw rfl rfl rfl (fun sQ O9 HS => ?_) ?_
    ·skip
     refine ⟨HS.b1,?_⟩
     refine JR.any [6,12] (by kernel_rfl) rfl ?_
     refine ai.call rfl rfl rfl aYQ (Bd HT HB HS (HS.at_ 0 rfl) (HS.at_ 3 rfl) (by omega) (tJ _)) rfl (fun Bg Bi uo => ?_) ?_
     ·skip
      obtain ⟨gu,fP,fZ,fU,gK,gG,gJ,gI,rfl,HS⟩:=uo
      refine ⟨HS.b1,?_⟩
      refine Dv (.tuple #[.agg #[.bool gu,.slice fP fZ fU],.agg #[.bool gK,.slice gG gJ gI],.nilIface]) 7 rfl HS.b1 (fun a ha w=>run_move (ha.ev rfl)) ?_
      refine Dv (.agg #[.bool gu,.slice fP fZ fU]) 8 rfl HS.b1 (fun a ha w=>bK (ha.ev rfl) rfl) ?_
      refine Dv (.agg #[.bool gK,.slice gG gJ gI]) 9 rfl HS.b1 (fun a ha w=>bK (ha.ev rfl) rfl) ?_
      refine Dv (.nilIface) 10 rfl HS.b1 (fun a ha w=>bK (ha.ev rfl) rfl) ?_
      refine jy (vs:=[.bool false,.slice none 0 0]) 12 HS rfl aYw rfl (fun sS _ HS=>⟨HS.b2,?_⟩)
      refine bF 13 [.bool gu,.slice fP fZ fU] HS 1 rfl rfl rfl rfl aYu (fun _ HS=>⟨HS.b2,?_⟩)
      refine bF 14 [.bool gK,.slice gG gJ gI] HS 0 rfl rfl rfl rfl aYu (fun _ HS=>⟨HS.b2,?_⟩)
      refine Dv (.nilIface) 15 rfl HS.b2 (fun a ha w=>run_assign (ha.ev rfl)) ?_
      exact JR.mt (nZ,nO,nT,nR,pG,nP,nU,nS,gu,fP,fZ,fU,gK,gG,gJ,gI,sQ,sS) HS
     refine ai.alloc (vs:=[.bool false,.slice none 0 0]) HS rfl rfl aYw rfl rfl rfl (fun sS Pg HS => ?_) ai.nil
     refine ⟨HS.b2,?_⟩
     refine bJ 6 rfl rfl rfl aYQ (Bd HT HB HS (HS.at_ 0 rfl) (HS.at_ 3 rfl) (by omega) (tJ _)) (fun Bg Bi uo => ?_)
     obtain ⟨gu,fP,fZ,fU,gK,gG,gJ,gI,rfl,HS⟩:=uo
     refine ⟨HS.b2,?_⟩
     refine Dv (.tuple #[.agg #[.bool gu,.slice fP fZ fU],.agg #[.bool gK,.slice gG gJ gI],.nilIface]) 7 rfl HS.b2 (fun a ha w=>run_move (ha.ev rfl)) ?_
     refine Dv (.agg #[.bool gu,.slice fP fZ fU]) 8 rfl HS.b2 (fun a ha w=>bK (ha.ev rfl) rfl) ?_
     refine Dv (.agg #[.bool gK,.slice gG gJ gI]) 9 rfl HS.b2 (fun a ha w=>bK (ha.ev rfl) rfl) ?_
     refine Dv (.nilIface) 10 rfl HS.b2 (fun a ha w=>bK (ha.ev rfl) rfl) ?_
     refine bF 13 [.bool gu,.slice fP fZ fU] HS 1 rfl rfl rfl rfl aYu (fun _ HS=>⟨HS.b2,?_⟩)
     refine bF 14 [.bool gK,.slice gG gJ gI] HS 0 rfl rfl rfl rfl aYu (fun _ HS=>⟨HS.b2,?_⟩)
     refine Dv (.nilIface) 15 rfl HS.b2 (fun a ha w=>run_assign (ha.ev rfl)) ?_
     exact JR.mt (nZ,nO,nT,nR,pG,nP,nU,nS,gu,fP,fZ,fU,gK,gG,gJ,gI,sQ,sS) HS
    refine ai.alloc (vs:=[.bool false,.slice none 0 0]) HS rfl rfl aYw rfl rfl rfl (fun sS Pg HS => ?_) ai.nil
    refine ⟨HS.b1,?_⟩
    refine JR.any [6,11] (by kernel_rfl) rfl ?_
    refine ai.call rfl rfl rfl aYQ (Bd HT HB HS (HS.at_ 0 rfl) (HS.at_ 3 rfl) (by omega) (tJ _)) rfl (fun Bg Bi uo => ?_) ?_
    ·skip
     obtain ⟨gu,fP,fZ,fU,gK,gG,gJ,gI,rfl,HS⟩:=uo
     refine ⟨HS.b1,?_⟩
     refine Dv (.tuple #[.agg #[.bool gu,.slice fP fZ fU],.agg #[.bool gK,.slice gG gJ gI],.nilIface]) 7 rfl HS.b1 (fun a ha w=>run_move (ha.ev rfl)) ?_
     refine Dv (.agg #[.bool gu,.slice fP fZ fU]) 8 rfl HS.b1 (fun a ha w=>bK (ha.ev rfl) rfl) ?_
     refine Dv (.agg #[.bool gK,.slice gG gJ gI]) 9 rfl HS.b1 (fun a ha w=>bK (ha.ev rfl) rfl) ?_
     refine Dv (.nilIface) 10 rfl HS.b1 (fun a ha w=>bK (ha.ev rfl) rfl) ?_
     refine jy (vs:=[.bool false,.slice none 0 0]) 11 HS rfl aYw rfl (fun sQ _ HS=>⟨HS.b2,?_⟩)
     refine bF 13 [.bool gu,.slice fP fZ fU] HS 0 rfl rfl rfl rfl aYu (fun _ HS=>⟨HS.b2,?_⟩)
     refine bF 14 [.bool gK,.slice gG gJ gI] HS 1 rfl rfl rfl rfl aYu (fun _ HS=>⟨HS.b2,?_⟩)
     refine Dv (.nilIface) 15 rfl HS.b2 (fun a ha w=>run_assign (ha.ev rfl)) ?_
     exact JR.mt (nZ,nO,nT,nR,pG,nP,nU,nS,gu,fP,fZ,fU,gK,gG,gJ,gI,sQ,sS) (HS.perm (.swap _ _ _))
    refine ai.alloc (vs:=[.bool false,.slice none 0 0]) HS rfl rfl aYw rfl rfl rfl (fun sQ O9 HS => ?_) ai.nil
    refine ⟨HS.b2,?_⟩
    refine bJ 6 rfl rfl rfl aYQ (Bd HT HB HS (HS.at_ 0 rfl) (HS.at_ 3 rfl) (by omega) (tJ _)) (fun Bg Bi uo => ?_)
    obtain ⟨gu,fP,fZ,fU,gK,gG,gJ,gI,rfl,HS⟩:=uo
    refine ⟨HS.b2,?_⟩
    refine Dv (.tuple #[.agg #[.bool gu,.slice fP fZ fU],.agg #[.bool gK,.slice gG gJ gI],.nilIface]) 7 rfl HS.b2 (fun a ha w=>run_move (ha.ev rfl)) ?_
    refine Dv (.agg #[.bool gu,.slice fP fZ fU]) 8 rfl HS.b2 (fun a ha w=>bK (ha.ev rfl) rfl) ?_
    refine Dv (.agg #[.bool gK,.slice gG gJ gI]) 9 rfl HS.b2 (fun a ha w=>bK (ha.ev rfl) rfl) ?_
    refine Dv (.nilIface) 10 rfl HS.b2 (fun a ha w=>bK (ha.ev rfl) rfl) ?_
    refine bF 13 [.bool gu,.slice fP fZ fU] HS 0 rfl rfl rfl rfl aYu (fun _ HS=>⟨HS.b2,?_⟩)
    refine bF 14 [.bool gK,.slice gG gJ gI] HS 1 rfl rfl rfl rfl aYu (fun _ HS=>⟨HS.b2,?_⟩)
    refine Dv (.nilIface) 15 rfl HS.b2 (fun a ha w=>run_assign (ha.ev rfl)) ?_
    exact JR.mt (nZ,nO,nT,nR,pG,nP,nU,nS,gu,fP,fZ,fU,gK,gG,gJ,gI,sQ,sS) (HS.perm (.swap _ _ _))
   refine ai.alloc (vs:=[.bool false,.slice none 0 0]) HS rfl rfl aYw rfl rfl rfl (fun sQ O9 HS => ?_) ?_
   ·skip
    refine ⟨HS.b1,?_⟩
    refine JR.any [4,12] (by kernel_rfl) rfl ?_
    refine ai.call rfl rfl rfl aYP (Aw HT HB HS (HS.at_ 1 rfl) (HS.at_ 0 rfl) (by omega)) rfl (fun Fp Em wO => ?_) ?_
    ·skip
     obtain ⟨pG,nP,nU,nS,rfl,HS⟩:=wO
     refine ⟨HS.b1,?_⟩
     refine JR.any [6,12] (by kernel_rfl) rfl ?_
     refine ai.call rfl rfl rfl aYQ (Bd HT HB HS (HS.at_ 0 rfl) (HS.at_ 3 rfl) (by omega) (tJ _)) rfl (fun Bg Bi uo => ?_) ?_
     ·skip
      obtain ⟨gu,fP,fZ,fU,gK,gG,gJ,gI,rfl,HS⟩:=uo
      refine ⟨HS.b1,?_⟩
      refine Dv (.tuple #[.agg #[.bool gu,.slice fP fZ fU],.agg #[.bool gK,.slice gG gJ gI],.nilIface]) 7 rfl HS.b1 (fun a ha w=>run_move (ha.ev rfl)) ?_
      refine Dv (.agg #[.bool gu,.slice fP fZ fU]) 8 rfl HS.b1 (fun a ha w=>bK (ha.ev rfl) rfl) ?_
      refine Dv (.agg #[.bool gK,.slice gG gJ gI]) 9 rfl HS.b1 (fun a ha w=>bK (ha.ev rfl) rfl) ?_
      refine Dv (.nilIface) 10 rfl HS.b1 (fun a ha w=>bK (ha.ev rfl) rfl) ?_
      refine jy (vs:=[.bool false,.slice none 0 0]) 12 HS rfl aYw rfl (fun sS _ HS=>⟨HS.b2,?_⟩)
      refine bF 13 [.bool gu,.slice fP fZ fU] HS 1 rfl rfl rfl rfl aYu (fun _ HS=>⟨HS.b2,?_⟩)
      refine bF 14 [.bool gK,.slice gG gJ gI] HS 0 rfl rfl rfl rfl aYu (fun _ HS=>⟨HS.b2,?_⟩)
      refine Dv (.nilIface) 15 rfl HS.b2 (fun a ha w=>run_assign (ha.ev rfl)) ?_
      exact JR.mt (nZ,nO,nT,nR,pG,nP,nU,nS,gu,fP,fZ,fU,gK,gG,gJ,gI,sQ,sS) HS
     refine ai.alloc (vs:=[.bool false,.slice none 0 0]) HS rfl rfl aYw rfl rfl rfl (fun sS Pg HS => ?_) ai.nil
     refine ⟨HS.b2,?_⟩
     refine bJ 6 rfl rfl rfl aYQ (Bd HT HB HS (HS.at_ 0 rfl) (HS.at_ 3 rfl) (by omega) (tJ _)) (fun Bg Bi uo => ?_)
     obtain ⟨gu,fP,fZ,fU,gK,gG,gJ,gI,rfl,HS⟩:=uo
     refine ⟨HS.b2,?_⟩
     refine Dv (.tuple #[.agg #[.bool gu,.slice fP fZ fU],.agg #[.bool gK,.slice gG gJ gI],.nilIface]) 7 rfl HS.b2 (fun a ha w=>run_move (ha.ev rfl)) ?_
     refine Dv (.agg #[.bool gu,.slice fP fZ fU]) 8 rfl HS.b2 (fun a ha w=>bK (ha.ev rfl) rfl) ?_
     refine Dv (.agg #[.bool gK,.slice gG gJ gI]) 9 rfl HS.b2 (fun a ha w=>bK (ha.ev rfl) rfl) ?_
     refine Dv (.nilIface) 10 rfl HS.b2 (fun a ha w=>bK (ha.ev rfl) rfl) ?_
     refine bF 13 [.bool gu,.slice fP fZ fU] HS 1 rfl rfl rfl rfl aYu (fun _ HS=>⟨HS.b2,?_⟩)
     refine bF 14 [.bool gK,.slice gG gJ gI] HS 0 rfl rfl rfl rfl aYu (fun _ HS=>⟨HS.b2,?_⟩)
     refine Dv (.nilIface) 15 rfl HS.b2 (fun a ha w=>run_assign (ha.ev rfl)) ?_
     exact JR.mt (nZ,nO,nT,nR,pG,nP,nU,nS,gu,fP,fZ,fU,gK,gG,gJ,gI,sQ,sS) HS
    refine ai.alloc (vs:=[.bool false,.slice none 0 0]) HS rfl rfl aYw rfl rfl rfl (fun sS Pg HS => ?_) ai.nil
    refine ⟨HS.b2,?_⟩
    refine bJ 4 rfl rfl rfl aYP (Aw HT HB HS (HS.at_ 1 rfl) (HS.at_ 0 rfl) (by omega)) (fun Fp Em wO => ?_)
    obtain ⟨pG,nP,nU,nS,rfl,HS⟩:=wO
    refine ⟨HS.b2,?_⟩
    refine bJ 6 rfl rfl rfl aYQ (Bd HT HB HS (HS.at_ 0 rfl) (HS.at_ 3 rfl) (by omega) (tJ _)) (fun Bg Bi uo => ?_)
    obtain ⟨gu,fP,fZ,fU,gK,gG,gJ,gI,rfl,HS⟩:=uo
    refine ⟨HS.b2,?_⟩
    refine Dv (.tuple #[.agg #[.bool gu,.slice fP fZ fU],.agg #[.bool gK,.slice gG gJ gI],.nilIface]) 7 rfl HS.b2 (fun a ha w=>run_move (ha.ev rfl)) ?_
    refine Dv (.agg #[.bool gu,.slice fP fZ fU]) 8 rfl HS.b2 (fun a ha w=>bK (ha.ev rfl) rfl) ?_
    refine Dv (.agg #[.bool gK,.slice gG gJ gI]) 9 rfl HS.b2 (fun a ha w=>bK (ha.ev rfl) rfl) ?_
    refine Dv (.nilIface) 10 rfl HS.b2 (fun a ha w=>bK (ha.ev rfl) rfl) ?_
    refine bF 13 [.bool gu,.slice fP fZ fU] HS 1 rfl rfl rfl rfl aYu (fun _ HS=>⟨HS.b2,?_⟩)
    refine bF 14 [.bool gK,.slice gG gJ gI] HS 0 rfl rfl rfl rfl aYu (fun _ HS=>⟨HS.b2,?_⟩)
    refine Dv (.nilIface) 15 rfl HS.b2 (fun a ha w=>run_assign (ha.ev rfl)) ?_
    exact JR.mt (nZ,nO,nT,nR,pG,nP,nU,nS,gu,fP,fZ,fU,gK,gG,gJ,gI,sQ,sS) HS
   refine ai.alloc (vs:=[.bool false,.slice none 0 0]) HS rfl rfl aYw rfl rfl rfl (fun sS Pg HS => ?_) ai.nil
   refine ⟨HS.b1,?_⟩
   refine JR.any [4,11] (by kernel_rfl) rfl ?_
   refine ai.call rfl rfl rfl aYP (Aw HT HB HS (HS.at_ 1 rfl) (HS.at_ 0 rfl) (by omega)) rfl (fun Fp Em wO => ?_) ?_
   ·skip
    obtain ⟨pG,nP,nU,nS,rfl,HS⟩:=wO
    refine ⟨HS.b1,?_⟩
    refine JR.any [6,11] (by kernel_rfl) rfl ?_
    refine ai.call rfl rfl rfl aYQ (Bd HT HB HS (HS.at_ 0 rfl) (HS.at_ 3 rfl) (by omega) (tJ _)) rfl (fun Bg Bi uo => ?_) ?_
    ·skip
     obtain ⟨gu,fP,fZ,fU,gK,gG,gJ,gI,rfl,HS⟩:=uo
     refine ⟨HS.b1,?_⟩
     refine Dv (.tuple #[.agg #[.bool gu,.slice fP fZ fU],.agg #[.bool gK,.slice gG gJ gI],.nilIface]) 7 rfl HS.b1 (fun a ha w=>run_move (ha.ev rfl)) ?_
     refine Dv (.agg #[.bool gu,.slice fP fZ fU]) 8 rfl HS.b1 (fun a ha w=>bK (ha.ev rfl) rfl) ?_
     refine Dv (.agg #[.bool gK,.slice gG gJ gI]) 9 rfl HS.b1 (fun a ha w=>bK (ha.ev rfl) rfl) ?_
     refine Dv (.nilIface) 10 rfl HS.b1 (fun a ha w=>bK (ha.ev rfl) rfl) ?_
     refine jy (vs:=[.bool false,.slice none 0 0]) 11 HS rfl aYw rfl (fun sQ _ HS=>⟨HS.b2,?_⟩)
     refine bF 13 [.bool gu,.slice fP fZ fU] HS 0 rfl rfl rfl rfl aYu (fun _ HS=>⟨HS.b2,?_⟩)
     refine bF 14 [.bool gK,.slice gG gJ gI] HS 1 rfl rfl rfl rfl aYu (fun _ HS=>⟨HS.b2,?_⟩)
     refine Dv (.nilIface) 15 rfl HS.b2 (fun a ha w=>run_assign (ha.ev rfl)) ?_
     exact JR.mt (nZ,nO,nT,nR,pG,nP,nU,nS,gu,fP,fZ,fU,gK,gG,gJ,gI,sQ,sS) (HS.perm (.swap _ _ _))
    refine ai.alloc (vs:=[.bool false,.slice none 0 0]) HS rfl rfl aYw rfl rfl rfl (fun sQ O9 HS => ?_) ai.nil
    refine ⟨HS.b2,?_⟩
    refine bJ 6 rfl rfl rfl aYQ (Bd HT HB HS (HS.at_ 0 rfl) (HS.at_ 3 rfl) (by omega) (tJ _)) (fun Bg Bi uo => ?_)
    obtain ⟨gu,fP,fZ,fU,gK,gG,gJ,gI,rfl,HS⟩:=uo
    refine ⟨HS.b2,?_⟩
    refine Dv (.tuple #[.agg #[.bool gu,.slice fP fZ fU],.agg #[.bool gK,.slice gG gJ gI],.nilIface]) 7 rfl HS.b2 (fun a ha w=>run_move (ha.ev rfl)) ?_
    refine Dv (.agg #[.bool gu,.slice fP fZ fU]) 8 rfl HS.b2 (fun a ha w=>bK (ha.ev rfl) rfl) ?_
    refine Dv (.agg #[.bool gK,.slice gG gJ gI]) 9 rfl HS.b2 (fun a ha w=>bK (ha.ev rfl) rfl) ?_
    refine Dv (.nilIface) 10 rfl HS.b2 (fun a ha w=>bK (ha.ev rfl) rfl) ?_
    refine bF 13 [.bool gu,.slice fP fZ fU] HS 0 rfl rfl rfl rfl aYu (fun _ HS=>⟨HS.b2,?_⟩)
    refine bF 14 [.bool gK,.slice gG gJ gI] HS 1 rfl rfl rfl rfl aYu (fun _ HS=>⟨HS.b2,?_⟩)
    refine Dv (.nilIface) 15 rfl HS.b2 (fun a ha w=>run_assign (ha.ev rfl)) ?_
    exact JR.mt (nZ,nO,nT,nR,pG,nP,nU,nS,gu,fP,fZ,fU,gK,gG,gJ,gI,sQ,sS) (HS.perm (.swap _ _ _))
   refine ai.alloc (vs:=[.bool false,.slice none 0 0]) HS rfl rfl aYw rfl rfl rfl (fun sQ O9 HS => ?_) ai.nil
   refine ⟨HS.b2,?_⟩
   refine bJ 4 rfl rfl rfl aYP (Aw HT HB HS (HS.at_ 1 rfl) (HS.at_ 0 rfl) (by omega)) (fun Fp Em wO => ?_)
   obtain ⟨pG,nP,nU,nS,rfl,HS⟩:=wO
   refine ⟨HS.b2,?_⟩
   refine bJ 6 rfl rfl rfl aYQ (Bd HT HB HS (HS.at_ 0 rfl) (HS.at_ 3 rfl) (by omega) (tJ _)) (fun Bg Bi uo => ?_)
   obtain ⟨gu,fP,fZ,fU,gK,gG,gJ,gI,rfl,HS⟩:=uo
   refine ⟨HS.b2,?_⟩
   refine Dv (.tuple #[.agg #[.bool gu,.slice fP fZ fU],.agg #[.bool gK,.slice gG gJ gI],.nilIface]) 7 rfl HS.b2 (fun a ha w=>run_move (ha.ev rfl)) ?_
   refine Dv (.agg #[.bool gu,.slice fP fZ fU]) 8 rfl HS.b2 (fun a ha w=>bK (ha.ev rfl) rfl) ?_
   refine Dv (.agg #[.bool gK,.slice gG gJ gI]) 9 rfl HS.b2 (fun a ha w=>bK (ha.ev rfl) rfl) ?_
   refine Dv (.nilIface) 10 rfl HS.b2 (fun a ha w=>bK (ha.ev rfl) rfl) ?_
   refine bF 13 [.bool gu,.slice fP fZ fU] HS 0 rfl rfl rfl rfl aYu (fun _ HS=>⟨HS.b2,?_⟩)
   refine bF 14 [.bool gK,.slice gG gJ gI] HS 1 rfl rfl rfl rfl aYu (fun _ HS=>⟨HS.b2,?_⟩)
   refine Dv (.nilIface) 15 rfl HS.b2 (fun a ha w=>run_assign (ha.ev rfl)) ?_
   exact JR.mt (nZ,nO,nT,nR,pG,nP,nU,nS,gu,fP,fZ,fU,gK,gG,gJ,gI,sQ,sS) (HS.perm (.swap _ _ _))
  refine ai.alloc (vs:=[.bool false,.slice none 0 0]) HS rfl rfl aYw rfl rfl rfl (fun sQ O9 HS => ?_) ?_
  ·skip
   refine ⟨HS.b1,?_⟩
   refine JR.any [3,12] (by kernel_rfl) rfl ?_
   refine ai.call rfl rfl rfl aYP (Aw HT HB HS (HS.at_ 2 rfl) (HS.at_ 2 rfl) (by omega)) rfl (fun TL TW DW => ?_) ?_
   ·skip
    obtain ⟨nZ,nO,nT,nR,rfl,HS⟩:=DW
    refine ⟨HS.b1,?_⟩
    refine JR.any [4,12] (by kernel_rfl) rfl ?_
    refine ai.call rfl rfl rfl aYP (Aw HT HB HS (HS.at_ 1 rfl) (HS.at_ 0 rfl) (by omega)) rfl (fun Fp Em wO => ?_) ?_
    ·skip
     obtain ⟨pG,nP,nU,nS,rfl,HS⟩:=wO
     refine ⟨HS.b1,?_⟩
     refine JR.any [6,12] (by kernel_rfl) rfl ?_
     refine ai.call rfl rfl rfl aYQ (Bd HT HB HS (HS.at_ 0 rfl) (HS.at_ 3 rfl) (by omega) (tJ _)) rfl (fun Bg Bi uo => ?_) ?_
     ·skip
      obtain ⟨gu,fP,fZ,fU,gK,gG,gJ,gI,rfl,HS⟩:=uo
      refine ⟨HS.b1,?_⟩
      refine Dv (.tuple #[.agg #[.bool gu,.slice fP fZ fU],.agg #[.bool gK,.slice gG gJ gI],.nilIface]) 7 rfl HS.b1 (fun a ha w=>run_move (ha.ev rfl)) ?_
      refine Dv (.agg #[.bool gu,.slice fP fZ fU]) 8 rfl HS.b1 (fun a ha w=>bK (ha.ev rfl) rfl) ?_
      refine Dv (.agg #[.bool gK,.slice gG gJ gI]) 9 rfl HS.b1 (fun a ha w=>bK (ha.ev rfl) rfl) ?_
      refine Dv (.nilIface) 10 rfl HS.b1 (fun a ha w=>bK (ha.ev rfl) rfl) ?_
      refine jy (vs:=[.bool false,.slice none 0 0]) 12 HS rfl aYw rfl (fun sS _ HS=>⟨HS.b2,?_⟩)
      refine bF 13 [.bool gu,.slice fP fZ fU] HS 1 rfl rfl rfl rfl aYu (fun _ HS=>⟨HS.b2,?_⟩)
      refine bF 14 [.bool gK,.slice gG gJ gI] HS 0 rfl rfl rfl rfl aYu (fun _ HS=>⟨HS.b2,?_⟩)
      refine Dv (.nilIface) 15 rfl HS.b2 (fun a ha w=>run_assign (ha.ev rfl)) ?_
      exact JR.mt (nZ,nO,nT,nR,pG,nP,nU,nS,gu,fP,fZ,fU,gK,gG,gJ,gI,sQ,sS) HS
     refine ai.alloc (vs:=[.bool false,.slice none 0 0]) HS rfl rfl aYw rfl rfl rfl (fun sS Pg HS => ?_) ai.nil
     refine ⟨HS.b2,?_⟩
     refine bJ 6 rfl rfl rfl aYQ (Bd HT HB HS (HS.at_ 0 rfl) (HS.at_ 3 rfl) (by omega) (tJ _)) (fun Bg Bi uo => ?_)
     obtain ⟨gu,fP,fZ,fU,gK,gG,gJ,gI,rfl,HS⟩:=uo
     refine ⟨HS.b2,?_⟩
     refine Dv (.tuple #[.agg #[.bool gu,.slice fP fZ fU],.agg #[.bool gK,.slice gG gJ gI],.nilIface]) 7 rfl HS.b2 (fun a ha w=>run_move (ha.ev rfl)) ?_
     refine Dv (.agg #[.bool gu,.slice fP fZ fU]) 8 rfl HS.b2 (fun a ha w=>bK (ha.ev rfl) rfl) ?_
     refine Dv (.agg #[.bool gK,.slice gG gJ gI]) 9 rfl HS.b2 (fun a ha w=>bK (ha.ev rfl) rfl) ?_
     refine Dv (.nilIface) 10 rfl HS.b2 (fun a ha w=>bK (ha.ev rfl) rfl) ?_
     refine bF 13 [.bool gu,.slice fP fZ fU] HS 1 rfl rfl rfl rfl aYu (fun _ HS=>⟨HS.b2,?_⟩)
     refine bF 14 [.bool gK,.slice gG gJ gI] HS 0 rfl rfl rfl rfl aYu (fun _ HS=>⟨HS.b2,?_⟩)
     refine Dv (.nilIface) 15 rfl HS.b2 (fun a ha w=>run_assign (ha.ev rfl)) ?_
     exact JR.mt (nZ,nO,nT,nR,pG,nP,nU,nS,gu,fP,fZ,fU,gK,gG,gJ,gI,sQ,sS) HS
    refine ai.alloc (vs:=[.bool false,.slice none 0 0]) HS rfl rfl aYw rfl rfl rfl (fun sS Pg HS => ?_) ai.nil
    refine ⟨HS.b2,?_⟩
    refine bJ 4 rfl rfl rfl aYP (Aw HT HB HS (HS.at_ 1 rfl) (HS.at_ 0 rfl) (by omega)) (fun Fp Em wO => ?_)
    obtain ⟨pG,nP,nU,nS,rfl,HS⟩:=wO
    refine ⟨HS.b2,?_⟩
    refine bJ 6 rfl rfl rfl aYQ (Bd HT HB HS (HS.at_ 0 rfl) (HS.at_ 3 rfl) (by omega) (tJ _)) (fun Bg Bi uo => ?_)
    obtain ⟨gu,fP,fZ,fU,gK,gG,gJ,gI,rfl,HS⟩:=uo
    refine ⟨HS.b2,?_⟩
    refine Dv (.tuple #[.agg #[.bool gu,.slice fP fZ fU],.agg #[.bool gK,.slice gG gJ gI],.nilIface]) 7 rfl HS.b2 (fun a ha w=>run_move (ha.ev rfl)) ?_
    refine Dv (.agg #[.bool gu,.slice fP fZ fU]) 8 rfl HS.b2 (fun a ha w=>bK (ha.ev rfl) rfl) ?_
    refine Dv (.agg #[.bool gK,.slice gG gJ gI]) 9 rfl HS.b2 (fun a ha w=>bK (ha.ev rfl) rfl) ?_
    refine Dv (.nilIface) 10 rfl HS.b2 (fun a ha w=>bK (ha.ev rfl) rfl) ?_
    refine bF 13 [.bool gu,.slice fP fZ fU] HS 1 rfl rfl rfl rfl aYu (fun _ HS=>⟨HS.b2,?_⟩)
    refine bF 14 [.bool gK,.slice gG gJ gI] HS 0 rfl rfl rfl rfl aYu (fun _ HS=>⟨HS.b2,?_⟩)
    refine Dv (.nilIface) 15 rfl HS.b2 (fun a ha w=>run_assign (ha.ev rfl)) ?_
    exact JR.mt (nZ,nO,nT,nR,pG,nP,nU,nS,gu,fP,fZ,fU,gK,gG,gJ,gI,sQ,sS) HS
   refine ai.alloc (vs:=[.bool false,.slice none 0 0]) HS rfl rfl aYw rfl rfl rfl (fun sS Pg HS => ?_) ai.nil
   refine ⟨HS.b2,?_⟩
   refine bJ 3 rfl rfl rfl aYP (Aw HT HB HS (HS.at_ 2 rfl) (HS.at_ 2 rfl) (by omega)) (fun TL TW DW => ?_)
   obtain ⟨nZ,nO,nT,nR,rfl,HS⟩:=DW
   refine ⟨HS.b2,?_⟩
   refine bJ 4 rfl rfl rfl aYP (Aw HT HB HS (HS.at_ 1 rfl) (HS.at_ 0 rfl) (by omega)) (fun Fp Em wO => ?_)
   obtain ⟨pG,nP,nU,nS,rfl,HS⟩:=wO
   refine ⟨HS.b2,?_⟩
   refine bJ 6 rfl rfl rfl aYQ (Bd HT HB HS (HS.at_ 0 rfl) (HS.at_ 3 rfl) (by omega) (tJ _)) (fun Bg Bi uo => ?_)
   obtain ⟨gu,fP,fZ,fU,gK,gG,gJ,gI,rfl,HS⟩:=uo
   refine ⟨HS.b2,?_⟩
   refine Dv (.tuple #[.agg #[.bool gu,.slice fP fZ fU],.agg #[.bool gK,.slice gG gJ gI],.nilIface]) 7 rfl HS.b2 (fun a ha w=>run_move (ha.ev rfl)) ?_
   refine Dv (.agg #[.bool gu,.slice fP fZ fU]) 8 rfl HS.b2 (fun a ha w=>bK (ha.ev rfl) rfl) ?_
   refine Dv (.agg #[.bool gK,.slice gG gJ gI]) 9 rfl HS.b2 (fun a ha w=>bK (ha.ev rfl) rfl) ?_
   refine Dv (.nilIface) 10 rfl HS.b2 (fun a ha w=>bK (ha.ev rfl) rfl) ?_
   refine bF 13 [.bool gu,.slice fP fZ fU] HS 1 rfl rfl rfl rfl aYu (fun _ HS=>⟨HS.b2,?_⟩)
   refine bF 14 [.bool gK,.slice gG gJ gI] HS 0 rfl rfl rfl rfl aYu (fun _ HS=>⟨HS.b2,?_⟩)
   refine Dv (.nilIface) 15 rfl HS.b2 (fun a ha w=>run_assign (ha.ev rfl)) ?_
   exact JR.mt (nZ,nO,nT,nR,pG,nP,nU,nS,gu,fP,fZ,fU,gK,gG,gJ,gI,sQ,sS) HS
  refine ai.alloc (vs:=[.bool false,.slice none 0 0]) HS rfl rfl aYw rfl rfl rfl (fun sS Pg HS => ?_) ai.nil
  refine ⟨HS.b1,?_⟩
  refine JR.any [3,11] (by kernel_rfl) rfl ?_
  refine ai.call rfl rfl rfl aYP (Aw HT HB HS (HS.at_ 2 rfl) (HS.at_ 2 rfl) (by omega)) rfl (fun TL TW DW => ?_) ?_
  ·skip
   obtain ⟨nZ,nO,nT,nR,rfl,HS⟩:=DW
   refine ⟨HS.b1,?_⟩
   refine JR.any [4,11] (by kernel_rfl) rfl ?_
   refine ai.call rfl rfl rfl aYP (Aw HT HB HS (HS.at_ 1 rfl) (HS.at_ 0 rfl) (by omega)) rfl (fun Fp Em wO => ?_) ?_
   ·skip
    obtain ⟨pG,nP,nU,nS,rfl,HS⟩:=wO
    refine ⟨HS.b1,?_⟩
    refine JR.any [6,11] (by kernel_rfl) rfl ?_
    refine ai.call rfl rfl rfl aYQ (Bd HT HB HS (HS.at_ 0 rfl) (HS.at_ 3 rfl) (by omega) (tJ _)) rfl (fun Bg Bi uo => ?_) ?_
    ·skip
     obtain ⟨gu,fP,fZ,fU,gK,gG,gJ,gI,rfl,HS⟩:=uo
     refine ⟨HS.b1,?_⟩
     refine Dv (.tuple #[.agg #[.bool gu,.slice fP fZ fU],.agg #[.bool gK,.slice gG gJ gI],.nilIface]) 7 rfl HS.b1 (fun a ha w=>run_move (ha.ev rfl)) ?_
     refine Dv (.agg #[.bool gu,.slice fP fZ fU]) 8 rfl HS.b1 (fun a ha w=>bK (ha.ev rfl) rfl) ?_
     refine Dv (.agg #[.bool gK,.slice gG gJ gI]) 9 rfl HS.b1 (fun a ha w=>bK (ha.ev rfl) rfl) ?_
     refine Dv (.nilIface) 10 rfl HS.b1 (fun a ha w=>bK (ha.ev rfl) rfl) ?_
     refine jy (vs:=[.bool false,.slice none 0 0]) 11 HS rfl aYw rfl (fun sQ _ HS=>⟨HS.b2,?_⟩)
     refine bF 13 [.bool gu,.slice fP fZ fU] HS 0 rfl rfl rfl rfl aYu (fun _ HS=>⟨HS.b2,?_⟩)
     refine bF 14 [.bool gK,.slice gG gJ gI] HS 1 rfl rfl rfl rfl aYu (fun _ HS=>⟨HS.b2,?_⟩)
     refine Dv (.nilIface) 15 rfl HS.b2 (fun a ha w=>run_assign (ha.ev rfl)) ?_
     exact JR.mt (nZ,nO,nT,nR,pG,nP,nU,nS,gu,fP,fZ,fU,gK,gG,gJ,gI,sQ,sS) (HS.perm (.swap _ _ _))
    refine ai.alloc (vs:=[.bool false,.slice none 0 0]) HS rfl rfl aYw rfl rfl rfl (fun sQ O9 HS => ?_) ai.nil
    refine ⟨HS.b2,?_⟩
    refine bJ 6 rfl rfl rfl aYQ (Bd HT HB HS (HS.at_ 0 rfl) (HS.at_ 3 rfl) (by omega) (tJ _)) (fun Bg Bi uo => ?_)
    obtain ⟨gu,fP,fZ,fU,gK,gG,gJ,gI,rfl,HS⟩:=uo
    refine ⟨HS.b2,?_⟩
    refine Dv (.tuple #[.agg #[.bool gu,.slice fP fZ fU],.agg #[.bool gK,.slice gG gJ gI],.nilIface]) 7 rfl HS.b2 (fun a ha w=>run_move (ha.ev rfl)) ?_
    refine Dv (.agg #[.bool gu,.slice fP fZ fU]) 8 rfl HS.b2 (fun a ha w=>bK (ha.ev rfl) rfl) ?_
    refine Dv (.agg #[.bool gK,.slice gG gJ gI]) 9 rfl HS.b2 (fun a ha w=>bK (ha.ev rfl) rfl) ?_
    refine Dv (.nilIface) 10 rfl HS.b2 (fun a ha w=>bK (ha.ev rfl) rfl) ?_
    refine bF 13 [.bool gu,.slice fP fZ fU] HS 0 rfl rfl rfl rfl aYu (fun _ HS=>⟨HS.b2,?_⟩)
    refine bF 14 [.bool gK,.slice gG gJ gI] HS 1 rfl rfl rfl rfl aYu (fun _ HS=>⟨HS.b2,?_⟩)
    refine Dv (.nilIface) 15 rfl HS.b2 (fun a ha w=>run_assign (ha.ev rfl)) ?_
    exact JR.mt (nZ,nO,nT,nR,pG,nP,nU,nS,gu,fP,fZ,fU,gK,gG,gJ,gI,sQ,sS) (HS.perm (.swap _ _ _))
   refine ai.alloc (vs:=[.bool false,.slice none 0 0]) HS rfl rfl aYw rfl rfl rfl (fun sQ O9 HS => ?_) ai.nil
   refine ⟨HS.b2,?_⟩
   refine bJ 4 rfl rfl rfl aYP (Aw HT HB HS (HS.at_ 1 rfl) (HS.at_ 0 rfl) (by omega)) (fun Fp Em wO => ?_)
   obtain ⟨pG,nP,nU,nS,rfl,HS⟩:=wO
   refine ⟨HS.b2,?_⟩
   refine bJ 6 rfl rfl rfl aYQ (Bd HT HB HS (HS.at_ 0 rfl) (HS.at_ 3 rfl) (by omega) (tJ _)) (fun Bg Bi uo => ?_)
   obtain ⟨gu,fP,fZ,fU,gK,gG,gJ,gI,rfl,HS⟩:=uo
   refine ⟨HS.b2,?_⟩
   refine Dv (.tuple #[.agg #[.bool gu,.slice fP fZ fU],.agg #[.bool gK,.slice gG gJ gI],.nilIface]) 7 rfl HS.b2 (fun a ha w=>run_move (ha.ev rfl)) ?_
   refine Dv (.agg #[.bool gu,.slice fP fZ fU]) 8 rfl HS.b2 (fun a ha w=>bK (ha.ev rfl) rfl) ?_
   refine Dv (.agg #[.bool gK,.slice gG gJ gI]) 9 rfl HS.b2 (fun a ha w=>bK (ha.ev rfl) rfl) ?_
   refine Dv (.nilIface) 10 rfl HS.b2 (fun a ha w=>bK (ha.ev rfl) rfl) ?_
   refine bF 13 [.bool gu,.slice fP fZ fU] HS 0 rfl rfl rfl rfl aYu (fun _ HS=>⟨HS.b2,?_⟩)
   refine bF 14 [.bool gK,.slice gG gJ gI] HS 1 rfl rfl rfl rfl aYu (fun _ HS=>⟨HS.b2,?_⟩)
   refine Dv (.nilIface) 15 rfl HS.b2 (fun a ha w=>run_assign (ha.ev rfl)) ?_
   exact JR.mt (nZ,nO,nT,nR,pG,nP,nU,nS,gu,fP,fZ,fU,gK,gG,gJ,gI,sQ,sS) (HS.perm (.swap _ _ _))
  refine ai.alloc (vs:=[.bool false,.slice none 0 0]) HS rfl rfl aYw rfl rfl rfl (fun sQ O9 HS => ?_) ai.nil
  refine ⟨HS.b2,?_⟩
  refine bJ 3 rfl rfl rfl aYP (Aw HT HB HS (HS.at_ 2 rfl) (HS.at_ 2 rfl) (by omega)) (fun TL TW DW => ?_)
  obtain ⟨nZ,nO,nT,nR,rfl,HS⟩:=DW
  refine ⟨HS.b2,?_⟩
  refine bJ 4 rfl rfl rfl aYP (Aw HT HB HS (HS.at_ 1 rfl) (HS.at_ 0 rfl) (by omega)) (fun Fp Em wO => ?_)
  obtain ⟨pG,nP,nU,nS,rfl,HS⟩:=wO
  refine ⟨HS.b2,?_⟩
  refine bJ 6 rfl rfl rfl aYQ (Bd HT HB HS (HS.at_ 0 rfl) (HS.at_ 3 rfl) (by omega) (tJ _)) (fun Bg Bi uo => ?_)
  obtain ⟨gu,fP,fZ,fU,gK,gG,gJ,gI,rfl,HS⟩:=uo
  refine ⟨HS.b2,?_⟩
  refine Dv (.tuple #[.agg #[.bool gu,.slice fP fZ fU],.agg #[.bool gK,.slice gG gJ gI],.nilIface]) 7 rfl HS.b2 (fun a ha w=>run_move (ha.ev rfl)) ?_
  refine Dv (.agg #[.bool gu,.slice fP fZ fU]) 8 rfl HS.b2 (fun a ha w=>bK (ha.ev rfl) rfl) ?_
  refine Dv (.agg #[.bool gK,.slice gG gJ gI]) 9 rfl HS.b2 (fun a ha w=>bK (ha.ev rfl) rfl) ?_
  refine Dv (.nilIface) 10 rfl HS.b2 (fun a ha w=>bK (ha.ev rfl) rfl) ?_
  refine bF 13 [.bool gu,.slice fP fZ fU] HS 0 rfl rfl rfl rfl aYu (fun _ HS=>⟨HS.b2,?_⟩)
  refine bF 14 [.bool gK,.slice gG gJ gI] HS 1 rfl rfl rfl rfl aYu (fun _ HS=>⟨HS.b2,?_⟩)
  refine Dv (.nilIface) 15 rfl HS.b2 (fun a ha w=>run_assign (ha.ev rfl)) ?_
  exact JR.mt (nZ,nO,nT,nR,pG,nP,nU,nS,gu,fP,fZ,fU,gK,gG,gJ,gI,sQ,sS) (HS.perm (.swap _ _ _))
 ·skip
  rintro ⟨nZ,nO,nT,nR,pG,nP,nU,nS,gu,fP,fZ,fU,gK,gG,gJ,gI,sQ,sS⟩ aHB HS
  try dsimp only at HS ⊢
  refine JC.seq ?_
  refine JC.region ?_
  refine JL.load (.agg #[.bool gu,.slice fP fZ fU]) HS 1 rfl rfl rfl aYy aYu rfl rfl ?_
  refine JL.call rfl rfl Tryz.call158 (aAw HT HB HS (HS.at_ 0 rfl) (by omega) (aeh hb)) (fun v11 Dp DV => ?_)
  obtain ⟨s11,xE,n11,c11,rfl,HS⟩:=DV
  refine Lv (.tuple #[.agg #[.bool s11,.slice xE n11 c11],.nilIface]) (fun a ha=>run_move (ha.ev rfl)) ?_
  refine Lv (.agg #[.bool s11,.slice xE n11 c11]) (fun a ha=>bK (ha.ev rfl) rfl) ?_
  refine Lv (.nilIface) (fun a ha=>bK (ha.ev rfl) rfl) ?_
  refine JL.store HS rfl rfl (i:=4) rfl aYu rfl rfl rfl (vs':=[.bool s11,.slice xE n11 c11]) rfl rfl (fun w12 HS => ?_)
  refine jn ?_
  by_cases hc13:(q1.num*(x2*x2)) % (q1.den:Int)=0
  ·skip
   refine JC.cut (ι:=iy5) (fun ⟨TG,QH,SS,Ro⟩=>[(0,(a0p s1 A1 n1 c1 B1 m1 d1)),(1,.agg #[.bool s2,.slice A2 n2 c2]),(2,.pointer (some ⟨g1,0,none⟩)),(4,.pointer (some ⟨g3,0,none⟩)),(5,.bool (decide ((((rt ((q1.num*(x2*x2)) / (q1.den:Int)).natAbs:Nat):Int)*((rt ((q1.num*(x2*x2)) / (q1.den:Int)).natAbs:Nat):Int))=((q1.num*(x2*x2)) / (q1.den:Int))))),(6,.pointer (some ⟨g5,0,none⟩)),(7,.pointer (some ⟨g6,0,none⟩)),(8,.pointer (some ⟨sQ,0,none⟩)),(9,.pointer (some ⟨sS,0,none⟩)),(11,.tuple #[.agg #[.bool uY,.slice uP uV uT],.agg #[.bool uZ,.slice uQ n4b uU]]),(12,(a0p s1 A1 n1 c1 B1 m1 d1)),(13,.tuple #[.agg #[.bool uY,.slice uP uV uT],.agg #[.bool uZ,.slice uQ n4b uU]]),(14,.agg #[.bool uY,.slice uP uV uT]),(15,.agg #[.bool uZ,.slice uQ n4b uU]),(27,.tuple #[.agg #[.bool s11,.slice xE n11 c11],.nilIface]),(28,.agg #[.bool gu,.slice fP fZ fU]),(29,.tuple #[.agg #[.bool s11,.slice xE n11 c11],.nilIface]),(30,.agg #[.bool s11,.slice xE n11 c11])]) (fun ⟨TG,QH,SS,Ro⟩ w=>St W0 (⟨sS,39,[.bool gK,.slice gG gJ gI]⟩ :: ⟨sQ,39,[.bool gu,.slice fP fZ fU]⟩ :: ⟨g6,39,[.bool uZ,.slice uQ n4b uU]⟩ :: ⟨g5,39,[.bool uY,.slice uP uV uT]⟩ :: ⟨g3,39,[.bool s11,.slice xE n11 c11]⟩ :: ⟨g2,39,[.bool s2,.slice A2 n2 c2]⟩ :: ⟨g1,24,(a0q s1 A1 n1 c1 B1 m1 d1)⟩ :: U) (FI (.agg #[.bool TG,.slice QH SS Ro]) (((rt ((q1.num*(x2*x2)) / (q1.den:Int)).natAbs:Nat):Int)*((rt ((q1.num*(x2*x2)) / (q1.den:Int)).natAbs:Nat):Int)) ((((k1+2)+(k2+k2+1)+1)+1)+(((k1+2)+(k2+k2+1)+1)+1)+1) :: FI (.agg #[.bool s11,.slice xE n11 c11]) ((rt ((q1.num*(x2*x2)) / (q1.den:Int)).natAbs:Nat):Int) (((k1+2)+(k2+k2+1)+1)+1) :: FI (.agg #[.bool gu,.slice fP fZ fU]) ((q1.num*(x2*x2)) / (q1.den:Int)) (((k1+2)+(k2+k2+1)+1)+1) :: FI (.agg #[.bool gK,.slice gG gJ gI]) ((q1.num*(x2*x2)) % (q1.den:Int)) (k1+2) :: FI (.agg #[.bool pG,.slice nP nU nS]) (q1.num*(x2*x2)) ((k1+2)+(k2+k2+1)+1) :: FI (.agg #[.bool nZ,.slice nO nT nR]) (x2*x2) (k2+k2+1) :: FI (.agg #[.bool uY,.slice uP uV uT]) q1.num (k1+2) :: FI (.agg #[.bool uZ,.slice uQ n4b uU]) (q1.den:Int) (k1+2) :: FI (.agg #[.bool s2,.slice A2 n2 c2]) x2 k2 :: FV (a0p s1 A1 n1 c1 B1 m1 d1) q1 k1 true :: Ps) w) ?_ ?_
   ·skip
    refine JC.draw HS [12] (by kernel_rfl) (fun J4 HS => ?_)
    refine Da (.agg #[.bool s11,.slice xE n11 c11]) 0 4 rfl HS.b0 rfl rfl aYy aYu ?_
    refine J1 1 (by kernel_rfl) ?_
    refine ai.load (.agg #[.bool gK,.slice gG gJ gI]) HS 0 rfl rfl rfl rfl aYy aYu rfl rfl rfl ?_ ai.nil
    refine ⟨HS.b0,?_⟩
    refine bJ 2 rfl rfl rfl Tryz.call223 (aok HT HB HS (HS.at_ 2 rfl) (by omega)) (fun JW JY yQ => ?_)
    obtain ⟨rfl,HS⟩:=yQ
    refine ⟨HS.b0,?_⟩
    refine Dv (.bool true) 3 rfl HS.b0 (fun a ha w=>rC (ha.ev rfl) (ha.ev rfl) ((ar9 _).trans (decide_eq_true hc13))) ?_
    refine Dv (.bool true) 4 rfl HS.b0 (fun a ha w=>run_move (ha.ev rfl)) ?_
    refine fM (.agg #[.bool s11,.slice xE n11 c11]) 5 4 (by kernel_rfl) rfl (fun _ _ _ h=>h) rfl rfl rfl rfl rfl HS.b0 rfl rfl aYy aYu rfl rfl ?_
    refine fM (.agg #[.bool s11,.slice xE n11 c11]) 6 4 (by kernel_rfl) rfl (fun _ _ _ h=>h) rfl rfl rfl rfl rfl HS.b0 rfl rfl aYy aYu rfl rfl ?_
    refine JR.any [7,8] (by kernel_rfl) rfl ?_
    refine ai.cZ rfl rfl rfl rfl rfl rfl rfl aYP (Aw HT HB HS (HS.at_ 0 rfl) (HS.at_ 0 rfl) (by omega)) rfl (fun aGl TS afX => ?_) ?_
    ·skip
     obtain ⟨TG,QH,SS,Ro,rfl,HS⟩:=afX
     refine ⟨HS.b0,?_⟩
     refine J1 8 (by kernel_rfl) ?_
     refine ai.ac6 (.agg #[.bool gu,.slice fP fZ fU]) HS 1 rfl rfl rfl rfl rfl rfl rfl rfl aYy aYu rfl rfl rfl ?_ ai.nil
     refine ⟨HS.b0,?_⟩
     refine J1 9 (by kernel_rfl) ?_
     refine ai.cZ rfl rfl rfl rfl rfl rfl rfl Tryz.call112 (ah7 HT HB HS (HS.at_ 0 rfl) (HS.at_ 2 rfl) (by omega)) rfl (fun aGm LD afY => ?_) ai.nil
     obtain ⟨rfl,HS⟩:=afY
     refine ⟨HS.b0,?_⟩
     refine Dg (.bool (decide ((((rt ((q1.num*(x2*x2)) / (q1.den:Int)).natAbs:Nat):Int)*((rt ((q1.num*(x2*x2)) / (q1.den:Int)).natAbs:Nat):Int))=((q1.num*(x2*x2)) / (q1.den:Int))))) 10 rfl HS.b0 (fun a ha w=>rC (ha.ev rfl) (ha.ev rfl) (ag' _ _)) ?_
     refine Dv (.bool (decide ((((rt ((q1.num*(x2*x2)) / (q1.den:Int)).natAbs:Nat):Int)*((rt ((q1.num*(x2*x2)) / (q1.den:Int)).natAbs:Nat):Int))=((q1.num*(x2*x2)) / (q1.den:Int))))) 11 rfl HS.b0 (fun a ha w=>eY (ha.ev rfl) (ha.ev rfl)) ?_
     refine bF 12 [.bool s11,.slice xE n11 c11] HS 4 rfl rfl rfl rfl aYu (fun _ HS=>⟨(eX (s:=12) rfl rfl),?_⟩)
     refine Dv (.bool (decide ((((rt ((q1.num*(x2*x2)) / (q1.den:Int)).natAbs:Nat):Int)*((rt ((q1.num*(x2*x2)) / (q1.den:Int)).natAbs:Nat):Int))=((q1.num*(x2*x2)) / (q1.den:Int))))) 13 rfl (eX (s:=12) rfl rfl) (fun a ha w=>run_assign (ha.ev rfl)) ?_
     exact JR.mt (TG,QH,SS,Ro) HS
    refine ai.ac6 (.agg #[.bool gu,.slice fP fZ fU]) HS 1 rfl rfl rfl rfl rfl rfl rfl rfl aYy aYu rfl rfl rfl ?_ ai.nil
    refine ⟨HS.b0,?_⟩
    refine J1 7 (by kernel_rfl) ?_
    refine ai.cZ rfl rfl rfl rfl rfl rfl rfl aYP (Aw HT HB HS (HS.at_ 0 rfl) (HS.at_ 0 rfl) (by omega)) rfl (fun aGl TS afX => ?_) ai.nil
    obtain ⟨TG,QH,SS,Ro,rfl,HS⟩:=afX
    refine ⟨HS.b0,?_⟩
    refine J1 9 (by kernel_rfl) ?_
    refine ai.cZ rfl rfl rfl rfl rfl rfl rfl Tryz.call112 (ah7 HT HB HS (HS.at_ 0 rfl) (HS.at_ 2 rfl) (by omega)) rfl (fun aGm LD afY => ?_) ai.nil
    obtain ⟨rfl,HS⟩:=afY
    refine ⟨HS.b0,?_⟩
    refine Dg (.bool (decide ((((rt ((q1.num*(x2*x2)) / (q1.den:Int)).natAbs:Nat):Int)*((rt ((q1.num*(x2*x2)) / (q1.den:Int)).natAbs:Nat):Int))=((q1.num*(x2*x2)) / (q1.den:Int))))) 10 rfl HS.b0 (fun a ha w=>rC (ha.ev rfl) (ha.ev rfl) (ag' _ _)) ?_
    refine Dv (.bool (decide ((((rt ((q1.num*(x2*x2)) / (q1.den:Int)).natAbs:Nat):Int)*((rt ((q1.num*(x2*x2)) / (q1.den:Int)).natAbs:Nat):Int))=((q1.num*(x2*x2)) / (q1.den:Int))))) 11 rfl HS.b0 (fun a ha w=>eY (ha.ev rfl) (ha.ev rfl)) ?_
    refine bF 12 [.bool s11,.slice xE n11 c11] HS 4 rfl rfl rfl rfl aYu (fun _ HS=>⟨(eX (s:=12) rfl rfl),?_⟩)
    refine Dv (.bool (decide ((((rt ((q1.num*(x2*x2)) / (q1.den:Int)).natAbs:Nat):Int)*((rt ((q1.num*(x2*x2)) / (q1.den:Int)).natAbs:Nat):Int))=((q1.num*(x2*x2)) / (q1.den:Int))))) 13 rfl (eX (s:=12) rfl rfl) (fun a ha w=>run_assign (ha.ev rfl)) ?_
    exact JR.mt (TG,QH,SS,Ro) HS
   ·skip
    rintro ⟨TG,QH,SS,Ro⟩ ako HS
    try dsimp only at HS ⊢
    refine JC.ret (fun a ha => ?_)
    repeat (first | refine dh ?_ | refine df ?_)
    refine vI (v := .agg #[.bool s11,.slice xE n11 c11]) (v' := .bool (decide ((((rt ((q1.num*(x2*x2)) / (q1.den:Int)).natAbs:Nat):Int)*((rt ((q1.num*(x2*x2)) / (q1.den:Int)).natAbs:Nat):Int))=((q1.num*(x2*x2)) / (q1.den:Int))))) ha Tryz.results191 (.agg rfl aYy aYu (HS.box _ (.tail _ (.tail _ (.tail _ (.tail _ (.head _)))))) rfl rfl) (.tmp rfl) ⟨_,rfl,?_⟩
    exact ⟨_,_,_,_,(by rw [ayu hc13]; try rfl),HS.out 7 10 1 rfl rfl rfl (fun _ h=>h.as rfl (by omega))⟩
  ·skip
   refine JC.cut (ι:=Unit) (fun _=>[(0,(a0p s1 A1 n1 c1 B1 m1 d1)),(1,.agg #[.bool s2,.slice A2 n2 c2]),(2,.pointer (some ⟨g1,0,none⟩)),(4,.pointer (some ⟨g3,0,none⟩)),(5,.bool false),(6,.pointer (some ⟨g5,0,none⟩)),(7,.pointer (some ⟨g6,0,none⟩)),(8,.pointer (some ⟨sQ,0,none⟩)),(9,.pointer (some ⟨sS,0,none⟩)),(11,.tuple #[.agg #[.bool uY,.slice uP uV uT],.agg #[.bool uZ,.slice uQ n4b uU]]),(12,(a0p s1 A1 n1 c1 B1 m1 d1)),(13,.tuple #[.agg #[.bool uY,.slice uP uV uT],.agg #[.bool uZ,.slice uQ n4b uU]]),(14,.agg #[.bool uY,.slice uP uV uT]),(15,.agg #[.bool uZ,.slice uQ n4b uU]),(27,.tuple #[.agg #[.bool s11,.slice xE n11 c11],.nilIface]),(28,.agg #[.bool gu,.slice fP fZ fU]),(29,.tuple #[.agg #[.bool s11,.slice xE n11 c11],.nilIface]),(30,.agg #[.bool s11,.slice xE n11 c11])]) (fun _ w=>St W0 (⟨sS,39,[.bool gK,.slice gG gJ gI]⟩ :: ⟨sQ,39,[.bool gu,.slice fP fZ fU]⟩ :: ⟨g6,39,[.bool uZ,.slice uQ n4b uU]⟩ :: ⟨g5,39,[.bool uY,.slice uP uV uT]⟩ :: ⟨g3,39,[.bool s11,.slice xE n11 c11]⟩ :: ⟨g2,39,[.bool s2,.slice A2 n2 c2]⟩ :: ⟨g1,24,(a0q s1 A1 n1 c1 B1 m1 d1)⟩ :: U) (FI (.agg #[.bool s11,.slice xE n11 c11]) ((rt ((q1.num*(x2*x2)) / (q1.den:Int)).natAbs:Nat):Int) (((k1+2)+(k2+k2+1)+1)+1) :: FI (.agg #[.bool gu,.slice fP fZ fU]) ((q1.num*(x2*x2)) / (q1.den:Int)) (((k1+2)+(k2+k2+1)+1)+1) :: FI (.agg #[.bool gK,.slice gG gJ gI]) ((q1.num*(x2*x2)) % (q1.den:Int)) (k1+2) :: FI (.agg #[.bool pG,.slice nP nU nS]) (q1.num*(x2*x2)) ((k1+2)+(k2+k2+1)+1) :: FI (.agg #[.bool nZ,.slice nO nT nR]) (x2*x2) (k2+k2+1) :: FI (.agg #[.bool uY,.slice uP uV uT]) q1.num (k1+2) :: FI (.agg #[.bool uZ,.slice uQ n4b uU]) (q1.den:Int) (k1+2) :: FI (.agg #[.bool s2,.slice A2 n2 c2]) x2 k2 :: FV (a0p s1 A1 n1 c1 B1 m1 d1) q1 k1 true :: Ps) w) ?_ ?_
   ·skip
    refine JC.draw HS [12] (by kernel_rfl) (fun LH HS => ?_)
    refine Da (.agg #[.bool s11,.slice xE n11 c11]) 0 4 rfl HS.b0 rfl rfl aYy aYu ?_
    refine J1 1 (by kernel_rfl) ?_
    refine ai.load (.agg #[.bool gK,.slice gG gJ gI]) HS 0 rfl rfl rfl rfl aYy aYu rfl rfl rfl ?_ ai.nil
    refine ⟨HS.b0,?_⟩
    refine bJ 2 rfl rfl rfl Tryz.call223 (aok HT HB HS (HS.at_ 2 rfl) (by omega)) (fun aTq aVK at1 => ?_)
    obtain ⟨rfl,HS⟩:=at1
    refine ⟨HS.b0,?_⟩
    refine Dv (.bool false) 3 rfl HS.b0 (fun a ha w=>rC (ha.ev rfl) (ha.ev rfl) ((ar9 _).trans (decide_eq_false hc13))) ?_
    refine Dv (.bool false) 4 rfl HS.b0 (fun a ha w=>run_move (ha.ev rfl)) ?_
    refine Jp 5 (by kernel_rfl) rfl rfl (fun _ _ _ h=>h) rfl rfl rfl rfl rfl HS.b0 ?_
    refine Jp 6 (by kernel_rfl) rfl rfl (fun _ _ _ h=>h) rfl rfl rfl rfl rfl HS.b0 ?_
    refine JR.any [7,8] (by kernel_rfl) rfl ?_
    refine ai.pass rfl rfl rfl rfl rfl rfl rfl rfl rfl rfl ?_ ?_
    ·skip
     refine ⟨HS.b0,?_⟩
     refine J1 8 (by kernel_rfl) ?_
     refine ai.pass rfl rfl rfl rfl rfl rfl rfl rfl rfl rfl ?_ ai.nil
     refine ⟨HS.b0,?_⟩
     refine J1 9 (by kernel_rfl) ?_
     refine ai.pass rfl rfl rfl rfl rfl rfl rfl rfl rfl rfl ?_ ai.nil
     refine ⟨HS.b0,?_⟩
     refine Jp 10 (by kernel_rfl) rfl rfl (fun _ _ _ h=>h) rfl rfl rfl rfl rfl HS.b0 ?_
     refine Dv (.bool false) 11 rfl HS.b0 (fun a ha w=>gB (ha.ev rfl) (ha.ev rfl)) ?_
     refine bF 12 [.bool s11,.slice xE n11 c11] HS 4 rfl rfl rfl rfl aYu (fun _ HS=>⟨(eX (s:=12) rfl rfl),?_⟩)
     refine Dv (.bool false) 13 rfl (eX (s:=12) rfl rfl) (fun a ha w=>run_assign (ha.ev rfl)) ?_
     exact JR.mt () HS
    refine ai.pass rfl rfl rfl rfl rfl rfl rfl rfl rfl rfl ?_ ai.nil
    refine ⟨HS.b0,?_⟩
    refine J1 7 (by kernel_rfl) ?_
    refine ai.pass rfl rfl rfl rfl rfl rfl rfl rfl rfl rfl ?_ ai.nil
    refine ⟨HS.b0,?_⟩
    refine J1 9 (by kernel_rfl) ?_
    refine ai.pass rfl rfl rfl rfl rfl rfl rfl rfl rfl rfl ?_ ai.nil
    refine ⟨HS.b0,?_⟩
    refine Jp 10 (by kernel_rfl) rfl rfl (fun _ _ _ h=>h) rfl rfl rfl rfl rfl HS.b0 ?_
    refine Dv (.bool false) 11 rfl HS.b0 (fun a ha w=>gB (ha.ev rfl) (ha.ev rfl)) ?_
    refine bF 12 [.bool s11,.slice xE n11 c11] HS 4 rfl rfl rfl rfl aYu (fun _ HS=>⟨(eX (s:=12) rfl rfl),?_⟩)
    refine Dv (.bool false) 13 rfl (eX (s:=12) rfl rfl) (fun a ha w=>run_assign (ha.ev rfl)) ?_
    exact JR.mt () HS
   ·skip
    rintro _ aX5 HS
    try dsimp only at HS ⊢
    refine JC.ret (fun a ha => ?_)
    repeat (first | refine dh ?_ | refine df ?_)
    refine vI (v := .agg #[.bool s11,.slice xE n11 c11]) (v' := .bool false) ha Tryz.results191 (.agg rfl aYy aYu (HS.box _ (.tail _ (.tail _ (.tail _ (.tail _ (.head _)))))) rfl rfl) (.tmp rfl) ⟨_,rfl,?_⟩
    exact ⟨_,_,_,_,(by rw [ayt hc13]; try rfl),HS.out 7 9 0 rfl rfl rfl (fun _ h=>h.as rfl (by omega))⟩
theorem aA' {f:FuncId} {vs:List Value} {x y:Int} {k K:Nat} (h:bY Tryz.prog f vs w (Gp W0 U Ps x k)) (hq:x=y) (hk:k≤K):bY Tryz.prog f vs w (Gp W0 U Ps y K) :=
 Calls.mono h fun e w' hh=>by
  subst hq
  obtain ⟨u,rfl,s,A,n,c,rfl,hs⟩:=hh
  exact ⟨_,rfl,_,_,_,_,rfl,hs.out 0 1 0 rfl rfl rfl (fun _ h=>h.weak hk)⟩
end
section
variable {W0 w:World} {bs:List Bx} {L:List En} {ts:List Bt} {M:List Qn} {n k j:Nat}
set_option maxHeartbeats 2400000 in
theorem aAu (HE:bG W0 w bs L ts M) (hn:n=32*k+j) (hj:j < 32) (hk:k≤100) :
 Calls Tryz.prog 190 #[.int .i64 n] w (uS W0 bs L ts M ((2 ^ n:Nat):Int) (k+1)):=by
 refine Calls.mono (R:=uS w [] L [] M ((2 ^ n:Nat):Int) (k+1)) ?_ fun _ _ hh=>uS.of HE hh
 have HD:=Lib.hid (amA (k:=k) hj)
 have HN:=Lib.hid hn
 have hp:2 ^ j < 4294967296:=by
  have:2 ^ j < 2 ^ 32:=Nat.pow_lt_pow_right (by omega) hj
  omega
 have h1:(n:Int) / 32=(k:Int):=by omega
 have h2:(n:Int).tdiv 32=(k:Int):=by rw [Int.tdiv_eq_ediv_of_nonneg (by omega)]; exact h1
 have h3:(n:Int) % 32=(j:Int):=by omega
 have h4:(n:Int).tmod 32=(j:Int):=by rw [Int.tmod_eq_emod_of_nonneg (by omega)]; exact h3
 have h5:IntKind.i64.wrap ((k:Int)+1)=((k+1:Nat):Int):=by rw [Bh (by omega) (by omega)]; omega
 have h6:IntKind.i64.wrap (k:Int)=(k:Int):=Bh (by omega) (by omega)
 have H0:=HE.here
 replace HE:=HE.here.fF (.bool false) (.slice none 0 0)
 obtain ⟨P,hP⟩ : ∃ P:Nat,P=2 ^ j:=⟨_,rfl⟩
 have h7:(2:Int) ^ j % 4294967296=(P:Int):=by
  rw [show (2:Int) ^ j=(P:Int) by rw [hP]; exact (Int.natCast_pow 2 j).symm]
  rw [← hP] at hp
  omega
 rw [← hP] at HD hp
 clear hP
 have hg:(IntKind.i64.wrap ((k:Int)+1))=(k:Int)+1:=by rw [h5]; omega
 clear hn
 go_enter Tryz.func190,Tryz.ntmps190
 go_wp2_with (at_make; refine Eo _ rfl _ _ _ rfl 99 aYN Az _ _ _ _ (k+1) rfl rfl (by omega) (by omega) (by omega) ?_; intro w1 hblk hbel hsz; have HB:=HE.next hbel; obtain ⟨z0,z1,z2,z3⟩:=HB.c2 (.head _); have hb1:=((Below.refl w.heap.size w).alloc (Nat.le_refl _) (.cells #[.bool false,.slice none 0 0] 39)).trans (hbel.mono (by simp)); clear hsz; simp only [World.size_alloc] at hblk; have x0:=hblk.cell (i:=k) (by simp); have x1:=hblk.frozen k)
 have HK:=hblk.Gi (i:=k) P (by simp)
 have T1:=(HB.two (.head _)).far (p:=⟨w.heap.size+1,k,none⟩) (by simp) (.int .u32 (P:Int))
 obtain ⟨y0,y1,y2,y3⟩:=(T1.put (.bool false) (.slice (some ⟨w.heap.size+1,0,none⟩) (k+1) (k+1))).facts
 refine bodyPost_ret (v := .agg #[.bool false,.slice (some ⟨w.heap.size+1,0,none⟩) (k+1) (k+1)]) (by simp [results,Tryz.results190,go_sem,y0,y1]) rfl ?_
 have hbF:=((hb1.setCell (p:=⟨w.heap.size+1,k,none⟩) (by simp) (.int .u32 (P:Int))).setCell (p:=⟨w.heap.size,0,none⟩) (by simp) (.bool false)).setCell (p:=⟨w.heap.size,1,none⟩) (by simp) (.slice (some ⟨w.heap.size+1,0,none⟩) (k+1) (k+1))
 have WQ:=(HK.far (p:=⟨w.heap.size,0,none⟩) (by simp) (.bool false)).far (p:=⟨w.heap.size,1,none⟩) (by simp) (.slice (some ⟨w.heap.size+1,0,none⟩) (k+1) (k+1))
 have hm:mg ((2 ^ n:Nat):Int)=(List.replicate (k+1) 0).set k P:=by unfold mg; rw [Int.natAbs_natCast,HN.out]; exact HD.out
 rw [← hm] at WQ
 have hl:(mg ((2 ^ n:Nat):Int)).length=k+1:=by rw [hm]; simp
 have hs:sg ((2 ^ n:Nat):Int)=false:=by unfold sg; exact decide_eq_false (Int.not_lt.2 (Int.natCast_nonneg _))
 have HF:=H0.next hbF
 exact ⟨_,_,_,_,rfl,HF.push ⟨false,_,_,_,mg ((2 ^ n:Nat):Int),_,rfl,WQ.rd (adw _),Nat.le_refl _,hl,Nat.le_refl _,Nat.le_refl _,by rw [← hs]; exact Ph _,by rw [← hs]; exact Lt _⟩⟩
end
section
variable {W0 w:World} {U:List Box} {Ps:List (World→Prop)}
variable {s1:Bool} {A1:Option Addr} {n1 c1:Nat} {B1:Option Addr} {m1 d1:Nat} {ax:Bool} {ay:Option Addr} {aj c1a:Nat} {az:Option Addr} {ak aA:Nat} {aB:Bool} {aC:Option Addr} {n1b aG:Nat} {aF:Option Addr} {au aH:Nat}
theorem aAt (HT:Tz W0) (HB:Tab W0) (HS:St W0 U Ps w) {m1:Nat} (hm:m1≤256):bY Tryz.prog 190 [.int .i64 (m1:Int)] w (Gp W0 U Ps ((2 ^ m1:Nat):Int) 9) :=
 aA' (NP HS (aAu (St.start HS HT HB) (n:=m1) (k:=m1 / 32) (j:=m1 % 32) (by omega) (by omega) (by omega))) rfl (by omega)
theorem ae0 (HT:Tz W0) (HB:Tab W0) (HS:St W0 U Ps w) {s1:Bool} {A1:Option Addr} {n1 c1:Nat} {x1:Int} {k1:Nat} {s2:Bool} {A2:Option Addr} {n2 c2:Nat} {x2:Int} {k2:Nat} (f1:FI (.agg #[.bool s1,.slice A1 n1 c1]) x1 k1 w) (f2:FI (.agg #[.bool s2,.slice A2 n2 c2]) x2 k2 w) (hk:k1+k2≤40000) (hy:x2≠0) :
 bY Tryz.prog 193 [.agg #[.bool s1,.slice A1 n1 c1],.agg #[.bool s2,.slice A2 n2 c2]] w (Bo W0 U Ps (Rat.divInt x1 x2) (k1+1+(k2+1)) .nilIface):=by
 rcases Int.lt_or_gt_of_ne hy with h | h
 ·exact NQ HS (ayW (((St.start HS HT HB).push f2).push f1) (.head _) (.tail _ (.head _)) hk h)
 ·exact NQ HS (ayX (((St.start HS HT HB).push f2).push f1) (.head _) (.tail _ (.head _)) hk h)
set_option maxHeartbeats 1000000 in
theorem aGW (HT:Tz W0) (HB:Tab W0) {m2:Nat} {af:Rat} {bC:Nat} {ah:Rat} {bD:Nat} (HS:St W0 U Ps w) (f1a:FV (a0p ax ay aj c1a az ak aA) af bC true w) (bI:FV (a0p aB aC n1b aG aF au aH) ah bD true w) (hk:bC+bD≤1900) (hm:m2≤256) (hqa:0≤af) (PL:0≤ah):bY Tryz.prog 141 [(a0r ax ay aj c1a az ak aA aB aC n1b aG aF au aH),.int .i64 (m2:Int)] w (xG W0 U Ps (xe af m2) (vY ah m2) (2*(bC+bD)+200)):=by
 have HS:=HS.add (FV.stable _ _ _ _) f1a
 have HS:=HS.add (FV.stable _ _ _ _) bI
 clear f1a bI
 refine iL Tryz.func141 rfl Tryz.ntmps141 rfl ?_
 refine JC.seq ?_
 refine JC.region ?_
 refine JL.box (vs:=(a0s ax ay aj c1a az ak aA aB aC n1b aG aF au aH)) HS rfl rfl rfl rfl (fun g1 w1 HS => ?_)
 refine JL.alloc (vs:=cO) HS rfl aYt rfl rfl (fun g2 w2 HS => ?_)
 refine jn ?_
 refine JC.seq ?_
 refine JC.region ?_
 refine Lv (.int .i64 (m2:Int)) (fun a ha=>run_move (ha.ev rfl)) ?_
 refine JL.call rfl rfl Tryz.call190 (aAt HT HB HS  (by omega)) (fun v3 w3 HR3 => ?_)
 obtain ⟨s3,A3,n3,c3,rfl,HS⟩:=HR3
 refine JL.alloc (vs:=[.bool false,.slice none 0 0]) HS rfl aYw rfl rfl (fun g4 w4 HS => ?_)
 refine JL.store HS rfl rfl (i:=0) rfl aYu rfl rfl rfl (vs':=[.bool s3,.slice A3 n3 c3]) rfl rfl (fun w5 HS => ?_)
 refine jn ?_
 refine JC.seq ?_
 refine JC.region ?_
 refine Lv (.pointer (some ⟨g1,0,none⟩)) (fun a ha=>bH (ha.ev rfl) aYr rfl aYn rfl rfl) ?_
 refine JL.load (a0p ax ay aj c1a az ak aA) HS 2 rfl rfl rfl aYp aYn rfl rfl ?_
 refine JL.load (.agg #[.bool s3,.slice A3 n3 c3]) HS 0 rfl rfl rfl aYy aYu rfl rfl ?_
 refine JL.call rfl rfl Tryz.call191 (asT HT HB HS (HS.at_ 2 rfl) (HS.at_ 0 rfl) (by omega) hqa) (fun v6 w6 uk => ?_)
 obtain ⟨s6,A6,n6,c6,rfl,HS⟩:=uk
 refine Lv (.tuple #[.agg #[.bool s6,.slice A6 n6 c6],.bool (yS af ((2 ^ m2:Nat):Int))]) (fun a ha=>run_move (ha.ev rfl)) ?_
 refine Lv (.agg #[.bool s6,.slice A6 n6 c6]) (fun a ha=>bK (ha.ev rfl) rfl) ?_
 refine Lv (.bool (yS af ((2 ^ m2:Nat):Int))) (fun a ha=>bK (ha.ev rfl) rfl) ?_
 refine JL.alloc (vs:=[.bool false,.slice none 0 0]) HS rfl aYw rfl rfl (fun g7 w7 HS => ?_)
 refine JL.store HS rfl rfl (i:=0) rfl aYu rfl rfl rfl (vs':=[.bool s6,.slice A6 n6 c6]) rfl rfl (fun w8 HS => ?_)
 refine Lv (.bool (yS af ((2 ^ m2:Nat):Int))) (fun a ha=>run_assign (ha.ev rfl)) ?_
 refine jn ?_
 refine JC.seq ?_
 refine JC.region ?_
 refine Lv (.pointer (some ⟨g1,3,none⟩)) (fun a ha=>bH (ha.ev rfl) aYr rfl aYn rfl rfl) ?_
 refine JL.load (a0p aB aC n1b aG aF au aH) HS 3 rfl rfl rfl aYp aYn rfl rfl ?_
 refine JL.load (.agg #[.bool s3,.slice A3 n3 c3]) HS 1 rfl rfl rfl aYy aYu rfl rfl ?_
 refine JL.call rfl rfl Tryz.call191 (asT HT HB HS (HS.at_ 2 rfl) (HS.at_ 1 rfl) (by omega) PL) (fun v9 w9 Iy => ?_)
 obtain ⟨s9,A9,n9,c9,rfl,HS⟩:=Iy
 refine Lv (.tuple #[.agg #[.bool s9,.slice A9 n9 c9],.bool (yS ah ((2 ^ m2:Nat):Int))]) (fun a ha=>run_move (ha.ev rfl)) ?_
 refine Lv (.agg #[.bool s9,.slice A9 n9 c9]) (fun a ha=>bK (ha.ev rfl) rfl) ?_
 refine Lv (.bool (yS ah ((2 ^ m2:Nat):Int))) (fun a ha=>bK (ha.ev rfl) rfl) ?_
 refine JL.alloc (vs:=[.bool false,.slice none 0 0]) HS rfl aYw rfl rfl (fun g10 w10 HS => ?_)
 refine JL.store HS rfl rfl (i:=0) rfl aYu rfl rfl rfl (vs':=[.bool s9,.slice A9 n9 c9]) rfl rfl (fun Dp HS => ?_)
 refine Lv (.bool (yS ah ((2 ^ m2:Nat):Int))) (fun a ha=>run_assign (ha.ev rfl)) ?_
 refine jn ?_
 refine JC.seq ?_
 refine JC.seq ?_
 refine JC.region ?_
 refine Lv (.bool (yS ah ((2 ^ m2:Nat):Int))) (fun a ha=>run_move (ha.ev rfl)) ?_
 refine Lv (.bool (!(yS ah ((2 ^ m2:Nat):Int)))) (fun a ha=>sU (ha.ev rfl)) ?_
 refine jn ?_
 cases Sj:((yS ah ((2 ^ m2:Nat):Int)))
 ·skip
  refine JC.iy rfl ?_
  refine JC.draw HS [3] (by kernel_rfl) (fun Gl HS => ?_)
  refine Da (.agg #[.bool s9,.slice A9 n9 c9]) 0 0 rfl HS.b0 rfl rfl aYy aYu ?_
  refine bJ 1 rfl rfl rfl Tryz.call111 (aAr HT HB HS  (by omega) (by omega)) (fun aTp aVJ atZ => ?_)
  obtain ⟨aRF,aHG,aP1,aKx,rfl,HS⟩:=atZ
  refine ⟨HS.b0,?_⟩
  refine bJ 2 rfl rfl rfl Tryz.call192 (az9 HT HB HS (HS.at_ 1 rfl) (HS.at_ 0 rfl) (by omega)) (fun JW JY yQ => ?_)
  obtain ⟨xW,xN,xU,xO,rfl,HS⟩:=yQ
  refine ⟨HS.b0,?_⟩
  refine bF 3 [.bool xW,.slice xN xU xO] HS 0 rfl rfl rfl rfl aYu (fun _ HS=>⟨(eX (s:=3) rfl rfl),?_⟩)
  refine JR.next (by kernel_rfl) (fun _ _ h=>h) ?_
  refine JC.seq ?_
  refine JC.region ?_
  refine JL.load (.agg #[.bool s6,.slice A6 n6 c6]) HS 1 rfl rfl rfl aYy aYu rfl rfl ?_
  refine JL.load (.agg #[.bool s3,.slice A3 n3 c3]) HS 2 rfl rfl rfl aYy aYu rfl rfl ?_
  refine JL.call rfl rfl aZ2 (ae0 HT HB HS (HS.at_ 3 rfl) (HS.at_ 4 rfl) (by omega) (two_pos _)) (fun v15 J4 Ip => ?_)
  obtain ⟨s15,J8,n15,c15,J9,m15,d15,rfl,HS⟩:=Ip
  refine Lv (.tuple #[(a0p s15 J8 n15 c15 J9 m15 d15),.nilIface]) (fun a ha=>run_move (ha.ev rfl)) ?_
  refine Lv (a0p s15 J8 n15 c15 J9 m15 d15) (fun a ha=>bK (ha.ev rfl) rfl) ?_
  refine Lv (.nilIface) (fun a ha=>bK (ha.ev rfl) rfl) ?_
  refine JL.alloc (vs:=bU) HS rfl aYs rfl rfl (fun g16 w16 HS => ?_)
  refine JL.store HS rfl rfl (i:=0) rfl aYn rfl rfl rfl (vs':=(a0q s15 J8 n15 c15 J9 m15 d15)) rfl rfl (fun LH HS => ?_)
  refine Lv (.nilIface) (fun a ha=>run_assign (ha.ev rfl)) ?_
  refine jn ?_
  refine JC.seq ?_
  refine JC.region ?_
  refine JL.load (.agg #[.bool xW,.slice xN xU xO]) HS 1 rfl rfl rfl aYy aYu rfl rfl ?_
  refine JL.load (.agg #[.bool s3,.slice A3 n3 c3]) HS 3 rfl rfl rfl aYy aYu rfl rfl ?_
  refine JL.call rfl rfl aZ2 (ae0 HT HB HS (HS.at_ 1 rfl) (HS.at_ 5 rfl) (by omega) (two_pos _)) (fun v18 QA af2 => ?_)
  obtain ⟨OL,LX,n18,c18,MH,m18,d18,rfl,HS⟩:=af2
  refine Lv (.tuple #[(a0p OL LX n18 c18 MH m18 d18),.nilIface]) (fun a ha=>run_move (ha.ev rfl)) ?_
  refine Lv (a0p OL LX n18 c18 MH m18 d18) (fun a ha=>bK (ha.ev rfl) rfl) ?_
  refine Lv (.nilIface) (fun a ha=>bK (ha.ev rfl) rfl) ?_
  refine JL.alloc (vs:=bU) HS rfl aYs rfl rfl (fun g19 O6 HS => ?_)
  refine JL.store HS rfl rfl (i:=0) rfl aYn rfl rfl rfl (vs':=(a0q OL LX n18 c18 MH m18 d18)) rfl rfl (fun O7 HS => ?_)
  refine Lv (.nilIface) (fun a ha=>run_assign (ha.ev rfl)) ?_
  refine jn ?_
  refine JC.seq ?_
  refine JC.region ?_
  refine JL.load (a0p s15 J8 n15 c15 J9 m15 d15) HS 1 rfl rfl rfl aYp aYn rfl rfl ?_
  refine JL.load (a0p OL LX n18 c18 MH m18 d18) HS 0 rfl rfl rfl aYp aYn rfl rfl ?_
  refine Lv (a0r s15 J8 n15 c15 J9 m15 d15 OL LX n18 c18 MH m18 d18) (fun a ha=>bZ.run_build (vs:=[(0,(a0p s15 J8 n15 c15 J9 m15 d15)),(1,(a0p OL LX n18 c18 MH m18 d18))]) (by simp only [List.map_cons,List.map_nil,ha.ev (x := .tmp 47) (v:=(a0p s15 J8 n15 c15 J9 m15 d15)) rfl,ha.ev (x := .tmp 48) (v:=(a0p OL LX n18 c18 MH m18 d18)) rfl]) aYr aYt pV rfl) ?_
  refine JL.store HS rfl rfl (i:=5) rfl aYo rfl rfl rfl (vs':=(a0s s15 J8 n15 c15 J9 m15 d15 OL LX n18 c18 MH m18 d18)) rfl rfl (fun VI HS => ?_)
  refine jn ?_
  refine JC.ret (fun a ha => ?_)
  repeat (first | refine dh ?_ | refine df ?_)
  refine fG (v:=(a0r s15 J8 n15 c15 J9 m15 d15 OL LX n18 c18 MH m18 d18)) ha Tryz.results141 (.agg rfl aYq aYo (HS.box _ (.tail _ (.tail _ (.tail _ (.tail _ (.tail _ (.head _))))))) rfl rfl) ⟨_,rfl,?_⟩
  exact ⟨_,_,_,_,_,_,_,_,_,_,_,_,_,_,rfl,HS.tY 7 9 1 0 rfl rfl rfl (fun _ h=>h.as rfl (by omega)) rfl (fun _ h=>h.as (aqY (by assumption)) (by omega))⟩
 ·skip
  refine JC.jA rfl ?_
  refine JC.jF (fun _ _ h=>h) ?_
  refine JC.seq ?_
  refine JC.region ?_
  refine JL.load (.agg #[.bool s6,.slice A6 n6 c6]) HS 1 rfl rfl rfl aYy aYu rfl rfl ?_
  refine JL.load (.agg #[.bool s3,.slice A3 n3 c3]) HS 2 rfl rfl rfl aYy aYu rfl rfl ?_
  refine JL.call rfl rfl aZ2 (ae0 HT HB HS (HS.at_ 1 rfl) (HS.at_ 2 rfl) (by omega) (two_pos _)) (fun v22 ZZ af5 => ?_)
  obtain ⟨OM,LY,n22,Ns,MI,m22,d22,rfl,HS⟩:=af5
  refine Lv (.tuple #[(a0p OM LY n22 Ns MI m22 d22),.nilIface]) (fun a ha=>run_move (ha.ev rfl)) ?_
  refine Lv (a0p OM LY n22 Ns MI m22 d22) (fun a ha=>bK (ha.ev rfl) rfl) ?_
  refine Lv (.nilIface) (fun a ha=>bK (ha.ev rfl) rfl) ?_
  refine JL.alloc (vs:=bU) HS rfl aYs rfl rfl (fun g23 Z5 HS => ?_)
  refine JL.store HS rfl rfl (i:=0) rfl aYn rfl rfl rfl (vs':=(a0q OM LY n22 Ns MI m22 d22)) rfl rfl (fun Z7 HS => ?_)
  refine Lv (.nilIface) (fun a ha=>run_assign (ha.ev rfl)) ?_
  refine jn ?_
  refine JC.seq ?_
  refine JC.region ?_
  refine JL.load (.agg #[.bool s9,.slice A9 n9 c9]) HS 1 rfl rfl rfl aYy aYu rfl rfl ?_
  refine JL.load (.agg #[.bool s3,.slice A3 n3 c3]) HS 3 rfl rfl rfl aYy aYu rfl rfl ?_
  refine JL.call rfl rfl aZ2 (ae0 HT HB HS (HS.at_ 1 rfl) (HS.at_ 3 rfl) (by omega) (two_pos _)) (fun v25 w25 af9 => ?_)
  obtain ⟨OO,LZ,n25,c25,MJ,m25,d25,rfl,HS⟩:=af9
  refine Lv (.tuple #[(a0p OO LZ n25 c25 MJ m25 d25),.nilIface]) (fun a ha=>run_move (ha.ev rfl)) ?_
  refine Lv (a0p OO LZ n25 c25 MJ m25 d25) (fun a ha=>bK (ha.ev rfl) rfl) ?_
  refine Lv (.nilIface) (fun a ha=>bK (ha.ev rfl) rfl) ?_
  refine JL.alloc (vs:=bU) HS rfl aYs rfl rfl (fun g26 w26 HS => ?_)
  refine JL.store HS rfl rfl (i:=0) rfl aYn rfl rfl rfl (vs':=(a0q OO LZ n25 c25 MJ m25 d25)) rfl rfl (fun w27 HS => ?_)
  refine Lv (.nilIface) (fun a ha=>run_assign (ha.ev rfl)) ?_
  refine jn ?_
  refine JC.seq ?_
  refine JC.region ?_
  refine JL.load (a0p OM LY n22 Ns MI m22 d22) HS 1 rfl rfl rfl aYp aYn rfl rfl ?_
  refine JL.load (a0p OO LZ n25 c25 MJ m25 d25) HS 0 rfl rfl rfl aYp aYn rfl rfl ?_
  refine Lv (a0r OM LY n22 Ns MI m22 d22 OO LZ n25 c25 MJ m25 d25) (fun a ha=>bZ.run_build (vs:=[(0,(a0p OM LY n22 Ns MI m22 d22)),(1,(a0p OO LZ n25 c25 MJ m25 d25))]) (by simp only [List.map_cons,List.map_nil,ha.ev (x := .tmp 47) (v:=(a0p OM LY n22 Ns MI m22 d22)) rfl,ha.ev (x := .tmp 48) (v:=(a0p OO LZ n25 c25 MJ m25 d25)) rfl]) aYr aYt pV rfl) ?_
  refine JL.store HS rfl rfl (i:=5) rfl aYo rfl rfl rfl (vs':=(a0s OM LY n22 Ns MI m22 d22 OO LZ n25 c25 MJ m25 d25)) rfl rfl (fun Z8 HS => ?_)
  refine jn ?_
  refine JC.ret (fun a ha => ?_)
  repeat (first | refine dh ?_ | refine df ?_)
  refine fG (v:=(a0r OM LY n22 Ns MI m22 d22 OO LZ n25 c25 MJ m25 d25)) ha Tryz.results141 (.agg rfl aYq aYo (HS.box _ (.tail _ (.tail _ (.tail _ (.tail _ (.tail _ (.head _))))))) rfl rfl) ⟨_,rfl,?_⟩
  exact ⟨_,_,_,_,_,_,_,_,_,_,_,_,_,_,rfl,HS.tY 7 7 1 0 rfl rfl rfl (fun _ h=>h.as rfl (by omega)) rfl (fun _ h=>h.as (aqZ (by assumption)) (by omega))⟩
set_option maxHeartbeats 400000 in
theorem ae3 (HT:Tz W0) (HB:Tab W0) {m2:Nat} {af:Rat} {bC:Nat} {bu:Bool} {ah:Rat} {bD:Nat} {bn:Bool} (HS:St W0 U Ps w) (f1a:FV (a0p ax ay aj c1a az ak aA) af bC bu w) (bI:FV (a0p aB aC n1b aG aF au aH) ah bD bn w) (hk:bC+bD≤900) (hm:m2≤256) (hc:0≤(bV bu bn af ah)):bY Tryz.prog 67 [(a0r ax ay aj c1a az ak aA aB aC n1b aG aF au aH),.int .i64 (m2:Int)] w (yY W0 U Ps (xe (bV bu bn af ah) m2) (vY (bW bu bn af ah) m2) (2*(bC+bD+(bC+bD))+200) (.nilIface)):=by
 have HS:=HS.add (FV.stable _ _ _ _) f1a
 have HS:=HS.add (FV.stable _ _ _ _) bI
 clear f1a bI
 refine iL aZ3 rfl aZ4 rfl ?_
 refine JC.seq ?_
 refine JC.region ?_
 refine JL.box (vs:=(a0s ax ay aj c1a az ak aA aB aC n1b aG aF au aH)) HS rfl rfl rfl rfl (fun g1 w1 HS => ?_)
 refine JL.alloc (vs:=cO) HS rfl aYt rfl rfl (fun g2 w2 HS => ?_)
 refine Lv (.nilIface) (fun a ha=>run_assign (ha.ev rfl)) ?_
 refine jn ?_
 refine JC.seq ?_
 refine JC.seq ?_
 refine JC.region ?_
 refine Lv (.int .i64 (m2:Int)) (fun a ha=>run_move (ha.ev rfl)) ?_
 refine Lv (.bool false) (fun a ha=>qX (ha.ev rfl) (ha.ev rfl) (decide_eq_false (by omega))) ?_
 refine Lv (.bool false) (fun a ha=>run_move (ha.ev rfl)) ?_
 refine Lg (.int .i64 (m2:Int)) (fun a ha=>run_move (ha.ev rfl)) ?_
 refine Lg (.bool false) (fun a ha=>wH (ha.ev rfl) (ha.ev rfl) (decide_eq_false (by omega))) ?_
 refine Lv (.bool false) (fun a ha=>gB (ha.ev rfl) (ha.ev rfl)) ?_
 refine jn ?_
 refine JC.jA rfl ?_
 refine JC.jF (fun _ _ h=>h) ?_
 refine JC.seq ?_
 refine JC.region ?_
 refine JL.load (a0r ax ay aj c1a az ak aA aB aC n1b aG aF au aH) HS 1 rfl rfl rfl aYq aYo rfl rfl ?_
 refine JL.call rfl rfl aYz (sO HT HB HS (HS.at_ 1 rfl) (HS.at_ 0 rfl) (by omega)) (fun v3 w3 HR3 => ?_)
 obtain ⟨jS,jZ,kK,kD,kz,kH,kF,l7,lK,lY,lS,lN,lW,lU,rfl,HS⟩:=HR3
 refine JL.store HS rfl rfl (i:=1) rfl aYo rfl rfl rfl (vs':=(a0s jS jZ kK kD kz kH kF l7 lK lY lS lN lW lU)) rfl rfl (fun w4 HS => ?_)
 refine jn ?_
 refine JC.seq ?_
 refine JC.seq ?_
 refine JC.region ?_
 refine Lv (.pointer (some ⟨g1,0,none⟩)) (fun a ha=>bH (ha.ev rfl) aYr rfl aYn rfl rfl) ?_
 refine Lv (.pointer (some ⟨g1,0,none⟩)) (fun a ha=>bH (ha.ev rfl) aYx rfl aYK rfl rfl) ?_
 refine JL.xw (.bool jS) HS 1 rfl rfl rfl aYJ rfl ?_
 refine jn ?_
 obtain rfl:jS=false:=FV.aFp (HS.at_ 0 rfl) hc
 refine JC.jA rfl ?_
 refine JC.jF (fun _ _ h=>h) ?_
 refine JC.seq ?_
 refine JC.region ?_
 refine JL.load (a0r false jZ kK kD kz kH kF l7 lK lY lS lN lW lU) HS 1 rfl rfl rfl aYq aYo rfl rfl ?_
 refine Lv (.int .i64 (m2:Int)) (fun a ha=>run_move (ha.ev rfl)) ?_
 refine JL.call rfl rfl Tryz.call141 (aGW HT HB HS (HS.at_ 0 rfl) (HS.at_ 1 rfl) (by omega) (by omega) hc (Rat.le_trans hc (oP _ _ _ _))) (fun v5 w5 vk => ?_)
 obtain ⟨s5a,A5a,n5a,c5a,B5a,m5a,d5a,s5b,A5b,n5b,c5b,B5b,m5b,d5b,rfl,HS⟩:=vk
 refine JL.store HS rfl rfl (i:=0) rfl aYo rfl rfl rfl (vs':=(a0s s5a A5a n5a c5a B5a m5a d5a s5b A5b n5b c5b B5b m5b d5b)) rfl rfl (fun w6 HS => ?_)
 refine Lv (.nilIface) (fun a ha=>run_assign (ha.ev rfl)) ?_
 refine jn ?_
 refine JC.ret (fun a ha => ?_)
 repeat (first | refine dh ?_ | refine df ?_)
 refine vI (v:=(a0r s5a A5a n5a c5a B5a m5a d5a s5b A5b n5b c5b B5b m5b d5b)) (v' := .nilIface) ha Tryz.results67 (.agg rfl aYq aYo (HS.box _ (.head _)) rfl rfl) (.tmp rfl) ⟨_,rfl,?_⟩
 exact ⟨_,_,_,_,_,_,_,_,_,_,_,_,_,_,rfl,HS.tY 2 6 0 1 rfl rfl rfl (fun _ h=>h.as rfl (by omega)) rfl (fun _ h=>h.as rfl (by omega))⟩
end
end Go.Proofs.YtbihljnjaondcaaGreatDoor
