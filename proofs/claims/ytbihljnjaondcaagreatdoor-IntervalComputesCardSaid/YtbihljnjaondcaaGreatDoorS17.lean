/- Part of a proof, said shortly. -/
import Derived.Test.YtbihljnjaondcaaGreatDoorAlz
import Derived.Test.YtbihljnjaondcaaGreatDoorC22
import Derived.Test.YtbihljnjaondcaaGreatDoorS8
import Derived.Test.YtbihljnjaondcaaGreatDoorC21
import Derived.Test.YtbihljnjaondcaaGreatDoorS2
import Derived.Test.YtbihljnjaondcaaGreatDoorC20
import Derived.Test.YtbihljnjaondcaaGreatDoorS5
import Derived.Test.YtbihljnjaondcaaGreatDoorS6
import Derived.Test.YtbihljnjaondcaaGreatDoorS11
import Derived.Test.YtbihljnjaondcaaGreatDoorC15
import Derived.Test.YtbihljnjaondcaaGreatDoorS1
import Derived.Test.YtbihljnjaondcaaGreatDoorC16
import Derived.Test.YtbihljnjaondcaaGreatDoorC14
import Derived.Test.YtbihljnjaondcaaGreatDoorC13
import Derived.Test.YtbihljnjaondcaaGreatDoorC12
import Derived.Test.YtbihljnjaondcaaGreatDoorC11
import Derived.Test.YtbihljnjaondcaaGreatDoorC10
import Derived.Test.YtbihljnjaondcaaGreatDoorC6
import Derived.Test.YtbihljnjaondcaaGreatDoorC2
import Derived.Test.YtbihljnjaondcaaGreatDoorC1
import Derived.Test.YtbihljnjaondcaaGreatDoorC5
import Derived.Test.YtbihljnjaondcaaGreatDoorC4
import Derived.Test.YtbihljnjaondcaaGreatDoorC3
import Derived.Test.YtbihljnjaondcaaGreatDoorC9
import Derived.Test.YtbihljnjaondcaaGreatDoorC8
import Derived.Test.YtbihljnjaondcaaGreatDoorC7
import Derived.Test.YtbihljnjaondcaaGreatDoorC19
import Derived.Test.YtbihljnjaondcaaGreatDoorC18
import Derived.Test.YtbihljnjaondcaaGreatDoorC17
import Derived.Test.YtbihljnjaondcaaGreatDoorC23
set_option maxRecDepth 100000
open Go.Proofs.YtbihljnjaondcaaGreatDoor (a0p a0q a0r a0s yw bU fO cO PS iy1 PT FX iy4 iy5 iy6 Yo iy8 iy9 aAJ)
set_option linter.unusedVariables false
set_option linter.unusedSimpArgs false
namespace Go.Proofs.YtbihljnjaondcaaGreatDoor
open Go Go.RowKit Lw bZ
section
variable {W0 w:World} {U:List Box} {Ps:List (World→Prop)}
variable {ax:Bool} {ay:Option Addr} {aj c1a:Nat} {az:Option Addr} {ak aA:Nat} {aB:Bool} {aC:Option Addr} {n1b aG:Nat} {aF:Option Addr} {au aH:Nat} {aP:Bool} {aQ:Option Addr} {aK aS:Nat} {aU:Option Addr} {aN aY:Nat} {aV:Bool} {aW:Option Addr} {aO aX:Nat} {aZ:Option Addr} {aT bf:Nat}
set_option maxHeartbeats 400000 in
theorem asW (HT:Tz W0) (HB:Tab W0) {af:Rat} {bC:Nat} {bu:Bool} {ah:Rat} {bD:Nat} {bn:Bool} {aI:Rat} {bM:Nat} {bT:Bool} {aJ:Rat} {bP:Nat} {bQ:Bool} (HS:St W0 U Ps w) (f1a:FV (a0p ax ay aj c1a az ak aA) af bC bu w) (bI:FV (a0p aB aC n1b aG aF au aH) ah bD bn w) (fC:FV (a0p aP aQ aK aS aU aN aY) aI bM bT w) (fD:FV (a0p aV aW aO aX aZ aT bf) aJ bP bQ w) (hk:bC+bD+(bM+bP)≤1000):bY Tryz.prog 60 [(a0r ax ay aj c1a az ak aA aB aC n1b aG aF au aH),(a0r aP aQ aK aS aU aN aY aV aW aO aX aZ aT bf)] w (xG W0 U Ps ((bV bu bn af ah) - (bW bT bQ aI aJ)) ((bW bu bn af ah) - (bV bT bQ aI aJ)) ((bC+bD)+(bM+bP)+2)):=by
 have HS:=HS.add (FV.stable _ _ _ _) f1a
 have HS:=HS.add (FV.stable _ _ _ _) bI
 have HS:=HS.add (FV.stable _ _ _ _) fC
 have HS:=HS.add (FV.stable _ _ _ _) fD
 clear f1a bI fC fD
 refine iL Tryz.func60 rfl Tryz.ntmps60 rfl ?_
 refine JC.seq ?_
 refine JC.region ?_
 refine JL.box (vs:=(a0s ax ay aj c1a az ak aA aB aC n1b aG aF au aH)) HS rfl rfl rfl rfl (fun g1 w1 HS => ?_)
 refine JL.box (vs:=(a0s aP aQ aK aS aU aN aY aV aW aO aX aZ aT bf)) HS rfl rfl rfl rfl (fun g2 w2 HS => ?_)
 refine JL.alloc (vs:=cO) HS rfl aYt rfl rfl (fun g3 w3 HS => ?_)
 refine jn ?_
 refine JC.cut (ι:=FX) (fun ⟨eP,dR,eG,dW,dU,eu,dY,eU,dS,eH,dX,dV,eF,dZ,dP,di,dM,dB,dw,dJ,dG,dQ,dm,dO,dD,dA,dK,dI⟩=>[(0,(a0r ax ay aj c1a az ak aA aB aC n1b aG aF au aH)),(1,(a0r aP aQ aK aS aU aN aY aV aW aO aX aZ aT bf)),(2,.pointer (some ⟨g1,0,none⟩)),(3,.pointer (some ⟨g2,0,none⟩)),(4,.pointer (some ⟨g3,0,none⟩))]) (fun ⟨eP,dR,eG,dW,dU,eu,dY,eU,dS,eH,dX,dV,eF,dZ,dP,di,dM,dB,dw,dJ,dG,dQ,dm,dO,dD,dA,dK,dI⟩ w=>St W0 (⟨g3,48,cO⟩ :: ⟨g2,48,(a0s dP di dM dB dw dJ dG dQ dm dO dD dA dK dI)⟩ :: ⟨g1,48,(a0s eP dR eG dW dU eu dY eU dS eH dX dV eF dZ)⟩ :: U) (FV (a0p dP di dM dB dw dJ dG) (bV bT bQ aI aJ) (bM+bP) true :: FV (a0p dQ dm dO dD dA dK dI) (bW bT bQ aI aJ) (bM+bP) true :: FV (a0p eP dR eG dW dU eu dY) (bV bu bn af ah) (bC+bD) true :: FV (a0p eU dS eH dX dV eF dZ) (bW bu bn af ah) (bC+bD) true :: FV (a0p aV aW aO aX aZ aT bf) aJ bP bQ :: FV (a0p aP aQ aK aS aU aN aY) aI bM bT :: FV (a0p aB aC n1b aG aF au aH) ah bD bn :: FV (a0p ax ay aj c1a az ak aA) af bC bu :: Ps) w) ?_ ?_
 ·skip
  refine JC.draw HS [4,5] (by kernel_rfl) (fun w5 HS => ?_)
  refine Da (a0r ax ay aj c1a az ak aA aB aC n1b aG aF au aH) 0 2 rfl HS.b0 rfl rfl aYq aYo ?_
  refine JR.any [1,2] (by kernel_rfl) rfl ?_
  refine ai.call rfl rfl rfl aYz (sO HT HB HS (HS.at_ 3 rfl) (HS.at_ 2 rfl) (by omega)) rfl (fun yL yN pq => ?_) ?_
  ·skip
   obtain ⟨eP,dR,eG,dW,dU,eu,dY,eU,dS,eH,dX,dV,eF,dZ,rfl,HS⟩:=pq
   refine ⟨HS.b0,?_⟩
   refine J1 2 (by kernel_rfl) ?_
   refine ai.load (a0r aP aQ aK aS aU aN aY aV aW aO aX aZ aT bf) HS 1 rfl rfl rfl rfl aYq aYo rfl rfl rfl ?_ ai.nil
   refine ⟨HS.b0,?_⟩
   refine bJ 3 rfl rfl rfl aYz (sO HT HB HS (HS.at_ 3 rfl) (HS.at_ 2 rfl) (by omega)) (fun yM yO pz => ?_)
   obtain ⟨dP,di,dM,dB,dw,dJ,dG,dQ,dm,dO,dD,dA,dK,dI,rfl,HS⟩:=pz
   refine ⟨HS.b0,?_⟩
   refine bF 4 (a0s eP dR eG dW dU eu dY eU dS eH dX dV eF dZ) HS 2 rfl rfl rfl rfl aYo (fun _ HS=>⟨(eX (s:=4) rfl rfl),?_⟩)
   refine bF 5 (a0s dP di dM dB dw dJ dG dQ dm dO dD dA dK dI) HS 1 rfl rfl rfl rfl aYo (fun _ HS=>⟨(eX (s:=4) rfl rfl),?_⟩)
   exact JR.mt (eP,dR,eG,dW,dU,eu,dY,eU,dS,eH,dX,dV,eF,dZ,dP,di,dM,dB,dw,dJ,dG,dQ,dm,dO,dD,dA,dK,dI) HS
  refine ai.load (a0r aP aQ aK aS aU aN aY aV aW aO aX aZ aT bf) HS 1 rfl rfl rfl rfl aYq aYo rfl rfl rfl ?_ ai.nil
  refine ⟨HS.b0,?_⟩
  refine bJ 1 rfl rfl rfl aYz (sO HT HB HS (HS.at_ 3 rfl) (HS.at_ 2 rfl) (by omega)) (fun yL yN pq => ?_)
  obtain ⟨eP,dR,eG,dW,dU,eu,dY,eU,dS,eH,dX,dV,eF,dZ,rfl,HS⟩:=pq
  refine ⟨HS.b0,?_⟩
  refine bJ 3 rfl rfl rfl aYz (sO HT HB HS (HS.at_ 3 rfl) (HS.at_ 2 rfl) (by omega)) (fun yM yO pz => ?_)
  obtain ⟨dP,di,dM,dB,dw,dJ,dG,dQ,dm,dO,dD,dA,dK,dI,rfl,HS⟩:=pz
  refine ⟨HS.b0,?_⟩
  refine bF 4 (a0s eP dR eG dW dU eu dY eU dS eH dX dV eF dZ) HS 2 rfl rfl rfl rfl aYo (fun _ HS=>⟨(eX (s:=4) rfl rfl),?_⟩)
  refine bF 5 (a0s dP di dM dB dw dJ dG dQ dm dO dD dA dK dI) HS 1 rfl rfl rfl rfl aYo (fun _ HS=>⟨(eX (s:=4) rfl rfl),?_⟩)
  exact JR.mt (eP,dR,eG,dW,dU,eu,dY,eU,dS,eH,dX,dV,eF,dZ,dP,di,dM,dB,dw,dJ,dG,dQ,dm,dO,dD,dA,dK,dI) HS
 ·skip
  rintro ⟨eP,dR,eG,dW,dU,eu,dY,eU,dS,eH,dX,dV,eF,dZ,dP,di,dM,dB,dw,dJ,dG,dQ,dm,dO,dD,dA,dK,dI⟩ H8 HS
  try dsimp only at HS ⊢
  refine JC.seq ?_
  refine JC.draw HS [11] (by kernel_rfl) (fun w6 HS => ?_)
  refine Dv (.pointer (some ⟨g1,0,none⟩)) 0 rfl HS.b0 (fun a ha w=>bH (ha.ev rfl) aYr rfl aYn rfl rfl) ?_
  refine Da (a0p eP dR eG dW dU eu dY) 1 2 rfl HS.b0 rfl rfl aYp aYn ?_
  refine Dv (.pointer (some ⟨g2,3,none⟩)) 2 rfl HS.b0 (fun a ha w=>bH (ha.ev rfl) aYr rfl aYn rfl rfl) ?_
  refine Da (a0p dQ dm dO dD dA dK dI) 3 1 rfl HS.b0 rfl rfl aYp aYn ?_
  refine Dv (.pointer (some ⟨g1,3,none⟩)) 5 rfl HS.b0 (fun a ha w=>bH (ha.ev rfl) aYr rfl aYn rfl rfl) ?_
  refine Da (a0p eU dS eH dX dV eF dZ) 6 2 rfl HS.b0 rfl rfl aYp aYn ?_
  refine Dv (.pointer (some ⟨g2,0,none⟩)) 7 rfl HS.b0 (fun a ha w=>bH (ha.ev rfl) aYr rfl aYn rfl rfl) ?_
  refine Da (a0p dP di dM dB dw dJ dG) 8 1 rfl HS.b0 rfl rfl aYp aYn ?_
  refine bJ 4 rfl rfl rfl aZs (UD HT HB HS (HS.at_ 2 rfl) (HS.at_ 1 rfl) (by omega)) (fun aeT afh Nc => ?_)
  obtain ⟨yx,xX,yu,x8,xZ,yt,x9,rfl,HS⟩:=Nc
  refine ⟨HS.b0,?_⟩
  refine bJ 9 rfl rfl rfl aZs (UD HT HB HS (HS.at_ 4 rfl) (HS.at_ 1 rfl) (by omega)) (fun ZK aae Iw => ?_)
  obtain ⟨xC,xh,xy,xm,xk,xx,xn,rfl,HS⟩:=Iw
  refine ⟨HS.b0,?_⟩
  refine Dv (a0r yx xX yu x8 xZ yt x9 xC xh xy xm xk xx xn) 10 rfl HS.b0 (fun a ha w=>bZ.run_build (vs:=[(0,(a0p yx xX yu x8 xZ yt x9)),(1,(a0p xC xh xy xm xk xx xn))]) (by simp only [List.map_cons,List.map_nil,ha.ev (x := .tmp 13) (v:=(a0p yx xX yu x8 xZ yt x9)) rfl,ha.ev (x := .tmp 18) (v:=(a0p xC xh xy xm xk xx xn)) rfl]) aYr aYt pV rfl) ?_
  refine bF 11 (a0s yx xX yu x8 xZ yt x9 xC xh xy xm xk xx xn) HS 0 rfl rfl rfl rfl aYo (fun _ HS=>⟨(eX (s:=11) rfl rfl),?_⟩)
  refine JR.next (by kernel_rfl) (fun _ _ h=>h) ?_
  refine JC.ret (fun a ha => ?_)
  repeat (first | refine dh ?_ | refine df ?_)
  refine fG (v:=(a0r yx xX yu x8 xZ yt x9 xC xh xy xm xk xx xn)) ha Tryz.results60 (.agg rfl aYq aYo (HS.box _ (.head _)) rfl rfl) ⟨_,rfl,?_⟩
  exact ⟨_,_,_,_,_,_,_,_,_,_,_,_,_,_,rfl,HS.tY 3 10 1 0 rfl rfl rfl (fun _ h=>h.as rfl (by omega)) rfl (fun _ h=>h.as rfl (by omega))⟩
set_option maxHeartbeats 400000 in
theorem asG (HT:Tz W0) (HB:Tab W0) {af:Rat} {bC:Nat} {bu:Bool} {ah:Rat} {bD:Nat} {bn:Bool} {aI:Rat} {bM:Nat} {bT:Bool} {aJ:Rat} {bP:Nat} {bQ:Bool} (HS:St W0 U Ps w) (f1a:FV (a0p ax ay aj c1a az ak aA) af bC bu w) (bI:FV (a0p aB aC n1b aG aF au aH) ah bD bn w) (fC:FV (a0p aP aQ aK aS aU aN aY) aI bM bT w) (fD:FV (a0p aV aW aO aX aZ aT bf) aJ bP bQ w) (hk:bC+bD+(bM+bP)≤1000):bY Tryz.prog 64 [(a0r ax ay aj c1a az ak aA aB aC n1b aG aF au aH),(a0r aP aQ aK aS aU aN aY aV aW aO aX aZ aT bf)] w (xG W0 U Ps (gY (bV bu bn af ah) (bV bT bQ aI aJ)) (gX (bW bu bn af ah) (bW bT bQ aI aJ)) ((bC+bD)+(bM+bP))):=by
 have HS:=HS.add (FV.stable _ _ _ _) f1a
 have HS:=HS.add (FV.stable _ _ _ _) bI
 have HS:=HS.add (FV.stable _ _ _ _) fC
 have HS:=HS.add (FV.stable _ _ _ _) fD
 clear f1a bI fC fD
 refine iL Tryz.func64 rfl Tryz.ntmps64 rfl ?_
 refine JC.seq ?_
 refine JC.region ?_
 refine JL.box (vs:=(a0s ax ay aj c1a az ak aA aB aC n1b aG aF au aH)) HS rfl rfl rfl rfl (fun g1 w1 HS => ?_)
 refine JL.box (vs:=(a0s aP aQ aK aS aU aN aY aV aW aO aX aZ aT bf)) HS rfl rfl rfl rfl (fun g2 w2 HS => ?_)
 refine JL.alloc (vs:=cO) HS rfl aYt rfl rfl (fun g3 w3 HS => ?_)
 refine jn ?_
 refine JC.cut (ι:=FX) (fun ⟨eP,dR,eG,dW,dU,eu,dY,eU,dS,eH,dX,dV,eF,dZ,dP,di,dM,dB,dw,dJ,dG,dQ,dm,dO,dD,dA,dK,dI⟩=>[(0,(a0r ax ay aj c1a az ak aA aB aC n1b aG aF au aH)),(1,(a0r aP aQ aK aS aU aN aY aV aW aO aX aZ aT bf)),(2,.pointer (some ⟨g1,0,none⟩)),(3,.pointer (some ⟨g2,0,none⟩)),(4,.pointer (some ⟨g3,0,none⟩))]) (fun ⟨eP,dR,eG,dW,dU,eu,dY,eU,dS,eH,dX,dV,eF,dZ,dP,di,dM,dB,dw,dJ,dG,dQ,dm,dO,dD,dA,dK,dI⟩ w=>St W0 (⟨g3,48,cO⟩ :: ⟨g2,48,(a0s dP di dM dB dw dJ dG dQ dm dO dD dA dK dI)⟩ :: ⟨g1,48,(a0s eP dR eG dW dU eu dY eU dS eH dX dV eF dZ)⟩ :: U) (FV (a0p dP di dM dB dw dJ dG) (bV bT bQ aI aJ) (bM+bP) true :: FV (a0p dQ dm dO dD dA dK dI) (bW bT bQ aI aJ) (bM+bP) true :: FV (a0p eP dR eG dW dU eu dY) (bV bu bn af ah) (bC+bD) true :: FV (a0p eU dS eH dX dV eF dZ) (bW bu bn af ah) (bC+bD) true :: FV (a0p aV aW aO aX aZ aT bf) aJ bP bQ :: FV (a0p aP aQ aK aS aU aN aY) aI bM bT :: FV (a0p aB aC n1b aG aF au aH) ah bD bn :: FV (a0p ax ay aj c1a az ak aA) af bC bu :: Ps) w) ?_ ?_
 ·skip
  refine JC.draw HS [4,5] (by kernel_rfl) (fun w5 HS => ?_)
  refine Da (a0r ax ay aj c1a az ak aA aB aC n1b aG aF au aH) 0 2 rfl HS.b0 rfl rfl aYq aYo ?_
  refine JR.any [1,2] (by kernel_rfl) rfl ?_
  refine ai.call rfl rfl rfl aYz (sO HT HB HS (HS.at_ 3 rfl) (HS.at_ 2 rfl) (by omega)) rfl (fun yL yN pq => ?_) ?_
  ·skip
   obtain ⟨eP,dR,eG,dW,dU,eu,dY,eU,dS,eH,dX,dV,eF,dZ,rfl,HS⟩:=pq
   refine ⟨HS.b0,?_⟩
   refine J1 2 (by kernel_rfl) ?_
   refine ai.load (a0r aP aQ aK aS aU aN aY aV aW aO aX aZ aT bf) HS 1 rfl rfl rfl rfl aYq aYo rfl rfl rfl ?_ ai.nil
   refine ⟨HS.b0,?_⟩
   refine bJ 3 rfl rfl rfl aYz (sO HT HB HS (HS.at_ 3 rfl) (HS.at_ 2 rfl) (by omega)) (fun yM yO pz => ?_)
   obtain ⟨dP,di,dM,dB,dw,dJ,dG,dQ,dm,dO,dD,dA,dK,dI,rfl,HS⟩:=pz
   refine ⟨HS.b0,?_⟩
   refine bF 4 (a0s eP dR eG dW dU eu dY eU dS eH dX dV eF dZ) HS 2 rfl rfl rfl rfl aYo (fun _ HS=>⟨(eX (s:=4) rfl rfl),?_⟩)
   refine bF 5 (a0s dP di dM dB dw dJ dG dQ dm dO dD dA dK dI) HS 1 rfl rfl rfl rfl aYo (fun _ HS=>⟨(eX (s:=4) rfl rfl),?_⟩)
   exact JR.mt (eP,dR,eG,dW,dU,eu,dY,eU,dS,eH,dX,dV,eF,dZ,dP,di,dM,dB,dw,dJ,dG,dQ,dm,dO,dD,dA,dK,dI) HS
  refine ai.load (a0r aP aQ aK aS aU aN aY aV aW aO aX aZ aT bf) HS 1 rfl rfl rfl rfl aYq aYo rfl rfl rfl ?_ ai.nil
  refine ⟨HS.b0,?_⟩
  refine bJ 1 rfl rfl rfl aYz (sO HT HB HS (HS.at_ 3 rfl) (HS.at_ 2 rfl) (by omega)) (fun yL yN pq => ?_)
  obtain ⟨eP,dR,eG,dW,dU,eu,dY,eU,dS,eH,dX,dV,eF,dZ,rfl,HS⟩:=pq
  refine ⟨HS.b0,?_⟩
  refine bJ 3 rfl rfl rfl aYz (sO HT HB HS (HS.at_ 3 rfl) (HS.at_ 2 rfl) (by omega)) (fun yM yO pz => ?_)
  obtain ⟨dP,di,dM,dB,dw,dJ,dG,dQ,dm,dO,dD,dA,dK,dI,rfl,HS⟩:=pz
  refine ⟨HS.b0,?_⟩
  refine bF 4 (a0s eP dR eG dW dU eu dY eU dS eH dX dV eF dZ) HS 2 rfl rfl rfl rfl aYo (fun _ HS=>⟨(eX (s:=4) rfl rfl),?_⟩)
  refine bF 5 (a0s dP di dM dB dw dJ dG dQ dm dO dD dA dK dI) HS 1 rfl rfl rfl rfl aYo (fun _ HS=>⟨(eX (s:=4) rfl rfl),?_⟩)
  exact JR.mt (eP,dR,eG,dW,dU,eu,dY,eU,dS,eH,dX,dV,eF,dZ,dP,di,dM,dB,dw,dJ,dG,dQ,dm,dO,dD,dA,dK,dI) HS
 ·skip
  rintro ⟨eP,dR,eG,dW,dU,eu,dY,eU,dS,eH,dX,dV,eF,dZ,dP,di,dM,dB,dw,dJ,dG,dQ,dm,dO,dD,dA,dK,dI⟩ H8 HS
  try dsimp only at HS ⊢
  refine JC.seq ?_
  refine JC.draw HS [11] (by kernel_rfl) (fun w6 HS => ?_)
  refine Dv (.pointer (some ⟨g1,0,none⟩)) 0 rfl HS.b0 (fun a ha w=>bH (ha.ev rfl) aYr rfl aYn rfl rfl) ?_
  refine Da (a0p eP dR eG dW dU eu dY) 1 2 rfl HS.b0 rfl rfl aYp aYn ?_
  refine Dv (.pointer (some ⟨g2,0,none⟩)) 2 rfl HS.b0 (fun a ha w=>bH (ha.ev rfl) aYr rfl aYn rfl rfl) ?_
  refine Da (a0p dP di dM dB dw dJ dG) 3 1 rfl HS.b0 rfl rfl aYp aYn ?_
  refine Dv (.pointer (some ⟨g1,3,none⟩)) 5 rfl HS.b0 (fun a ha w=>bH (ha.ev rfl) aYr rfl aYn rfl rfl) ?_
  refine Da (a0p eU dS eH dX dV eF dZ) 6 2 rfl HS.b0 rfl rfl aYp aYn ?_
  refine Dv (.pointer (some ⟨g2,3,none⟩)) 7 rfl HS.b0 (fun a ha w=>bH (ha.ev rfl) aYr rfl aYn rfl rfl) ?_
  refine Da (a0p dQ dm dO dD dA dK dI) 8 1 rfl HS.b0 rfl rfl aYp aYn ?_
  refine bJ 4 rfl rfl rfl Tryz.call137 (ahr HT HB HS (HS.at_ 2 rfl) (HS.at_ 0 rfl) (by omega)) (fun aeT afh Nc => ?_)
  obtain ⟨yx,xX,yu,x8,xZ,yt,x9,rfl,HS⟩:=Nc
  refine ⟨HS.b0,?_⟩
  refine bJ 9 rfl rfl rfl Tryz.call136 (ahq HT HB HS (HS.at_ 4 rfl) (HS.at_ 2 rfl) (by omega)) (fun ZK aae Iw => ?_)
  obtain ⟨xC,xh,xy,xm,xk,xx,xn,rfl,HS⟩:=Iw
  refine ⟨HS.b0,?_⟩
  refine Dv (a0r yx xX yu x8 xZ yt x9 xC xh xy xm xk xx xn) 10 rfl HS.b0 (fun a ha w=>bZ.run_build (vs:=[(0,(a0p yx xX yu x8 xZ yt x9)),(1,(a0p xC xh xy xm xk xx xn))]) (by simp only [List.map_cons,List.map_nil,ha.ev (x := .tmp 13) (v:=(a0p yx xX yu x8 xZ yt x9)) rfl,ha.ev (x := .tmp 18) (v:=(a0p xC xh xy xm xk xx xn)) rfl]) aYr aYt pV rfl) ?_
  refine bF 11 (a0s yx xX yu x8 xZ yt x9 xC xh xy xm xk xx xn) HS 0 rfl rfl rfl rfl aYo (fun _ HS=>⟨(eX (s:=11) rfl rfl),?_⟩)
  refine JR.next (by kernel_rfl) (fun _ _ h=>h) ?_
  refine JC.ret (fun a ha => ?_)
  repeat (first | refine dh ?_ | refine df ?_)
  refine fG (v:=(a0r yx xX yu x8 xZ yt x9 xC xh xy xm xk xx xn)) ha Tryz.results64 (.agg rfl aYq aYo (HS.box _ (.head _)) rfl rfl) ⟨_,rfl,?_⟩
  exact ⟨_,_,_,_,_,_,_,_,_,_,_,_,_,_,rfl,HS.tY 3 10 1 0 rfl rfl rfl (fun _ h=>h.as rfl (by omega)) rfl (fun _ h=>h.as rfl (by omega))⟩
end
end Go.Proofs.YtbihljnjaondcaaGreatDoor
namespace Go.Proofs.YtbihljnjaondcaaGreatDoor
open Go Go.RowKit Lw bZ
section
variable {W0 w:World} {U:List Box} {Ps:List (World→Prop)}
variable {ax:Bool} {ay:Option Addr} {aj c1a:Nat} {az:Option Addr} {ak aA:Nat} {aB:Bool} {aC:Option Addr} {n1b aG:Nat} {aF:Option Addr} {au aH:Nat} {aP:Bool} {aQ:Option Addr} {aK aS:Nat} {aU:Option Addr} {aN aY:Nat} {aV:Bool} {aW:Option Addr} {aO aX:Nat} {aZ:Option Addr} {aT bf:Nat}
set_option maxHeartbeats 400000 in
theorem asF (HT:Tz W0) (HB:Tab W0) {af:Rat} {bC:Nat} {bu:Bool} {ah:Rat} {bD:Nat} {bn:Bool} {aI:Rat} {bM:Nat} {bT:Bool} {aJ:Rat} {bP:Nat} {bQ:Bool} (HS:St W0 U Ps w) (f1a:FV (a0p ax ay aj c1a az ak aA) af bC bu w) (bI:FV (a0p aB aC n1b aG aF au aH) ah bD bn w) (fC:FV (a0p aP aQ aK aS aU aN aY) aI bM bT w) (fD:FV (a0p aV aW aO aX aZ aT bf) aJ bP bQ w) (hk:bC+bD+(bM+bP)≤1000) (hc:(bV bT bQ aI aJ)≤0∧0≤(bW bT bQ aI aJ)):bY Tryz.prog 52 [(a0r ax ay aj c1a az ak aA aB aC n1b aG aF au aH),(a0r aP aQ aK aS aU aN aY aV aW aO aX aZ aT bf)] w (iP W0 U Ps (.tuple #[fO,.iface 74 (.int .i64 8)])):=by
 have HS:=HS.add (FV.stable _ _ _ _) f1a
 have HS:=HS.add (FV.stable _ _ _ _) bI
 have HS:=HS.add (FV.stable _ _ _ _) fC
 have HS:=HS.add (FV.stable _ _ _ _) fD
 clear f1a bI fC fD
 refine iL Tryz.func52 rfl Tryz.ntmps52 rfl ?_
 refine JC.seq ?_
 refine JC.region ?_
 refine JL.box (vs:=(a0s ax ay aj c1a az ak aA aB aC n1b aG aF au aH)) HS rfl rfl rfl rfl (fun g1 w1 HS => ?_)
 refine JL.box (vs:=(a0s aP aQ aK aS aU aN aY aV aW aO aX aZ aT bf)) HS rfl rfl rfl rfl (fun g2 w2 HS => ?_)
 refine JL.alloc (vs:=cO) HS rfl aYt rfl rfl (fun g3 w3 HS => ?_)
 refine Lv (.nilIface) (fun a ha=>run_assign (ha.ev rfl)) ?_
 refine jn ?_
 refine JC.cut (ι:=FX) (fun ⟨eP,dR,eG,dW,dU,eu,dY,eU,dS,eH,dX,dV,eF,dZ,dP,di,dM,dB,dw,dJ,dG,dQ,dm,dO,dD,dA,dK,dI⟩=>[(0,(a0r ax ay aj c1a az ak aA aB aC n1b aG aF au aH)),(1,(a0r aP aQ aK aS aU aN aY aV aW aO aX aZ aT bf)),(2,.pointer (some ⟨g1,0,none⟩)),(3,.pointer (some ⟨g2,0,none⟩)),(4,.pointer (some ⟨g3,0,none⟩)),(5,.nilIface)]) (fun ⟨eP,dR,eG,dW,dU,eu,dY,eU,dS,eH,dX,dV,eF,dZ,dP,di,dM,dB,dw,dJ,dG,dQ,dm,dO,dD,dA,dK,dI⟩ w=>St W0 (⟨g3,48,cO⟩ :: ⟨g2,48,(a0s dP di dM dB dw dJ dG dQ dm dO dD dA dK dI)⟩ :: ⟨g1,48,(a0s eP dR eG dW dU eu dY eU dS eH dX dV eF dZ)⟩ :: U) (FV (a0p dP di dM dB dw dJ dG) (bV bT bQ aI aJ) (bM+bP) true :: FV (a0p dQ dm dO dD dA dK dI) (bW bT bQ aI aJ) (bM+bP) true :: FV (a0p eP dR eG dW dU eu dY) (bV bu bn af ah) (bC+bD) true :: FV (a0p eU dS eH dX dV eF dZ) (bW bu bn af ah) (bC+bD) true :: FV (a0p aV aW aO aX aZ aT bf) aJ bP bQ :: FV (a0p aP aQ aK aS aU aN aY) aI bM bT :: FV (a0p aB aC n1b aG aF au aH) ah bD bn :: FV (a0p ax ay aj c1a az ak aA) af bC bu :: Ps) w) ?_ ?_
 ·skip
  refine JC.draw HS [4,5] (by kernel_rfl) (fun w5 HS => ?_)
  refine Da (a0r ax ay aj c1a az ak aA aB aC n1b aG aF au aH) 0 2 rfl HS.b0 rfl rfl aYq aYo ?_
  refine JR.any [1,2] (by kernel_rfl) rfl ?_
  refine ai.call rfl rfl rfl aYz (sO HT HB HS (HS.at_ 3 rfl) (HS.at_ 2 rfl) (by omega)) rfl (fun yL yN pq => ?_) ?_
  ·skip
   obtain ⟨eP,dR,eG,dW,dU,eu,dY,eU,dS,eH,dX,dV,eF,dZ,rfl,HS⟩:=pq
   refine ⟨HS.b0,?_⟩
   refine J1 2 (by kernel_rfl) ?_
   refine ai.load (a0r aP aQ aK aS aU aN aY aV aW aO aX aZ aT bf) HS 1 rfl rfl rfl rfl aYq aYo rfl rfl rfl ?_ ai.nil
   refine ⟨HS.b0,?_⟩
   refine bJ 3 rfl rfl rfl aYz (sO HT HB HS (HS.at_ 3 rfl) (HS.at_ 2 rfl) (by omega)) (fun yM yO pz => ?_)
   obtain ⟨dP,di,dM,dB,dw,dJ,dG,dQ,dm,dO,dD,dA,dK,dI,rfl,HS⟩:=pz
   refine ⟨HS.b0,?_⟩
   refine bF 4 (a0s eP dR eG dW dU eu dY eU dS eH dX dV eF dZ) HS 2 rfl rfl rfl rfl aYo (fun _ HS=>⟨(eX (s:=4) rfl rfl),?_⟩)
   refine bF 5 (a0s dP di dM dB dw dJ dG dQ dm dO dD dA dK dI) HS 1 rfl rfl rfl rfl aYo (fun _ HS=>⟨(eX (s:=4) rfl rfl),?_⟩)
   exact JR.mt (eP,dR,eG,dW,dU,eu,dY,eU,dS,eH,dX,dV,eF,dZ,dP,di,dM,dB,dw,dJ,dG,dQ,dm,dO,dD,dA,dK,dI) HS
  refine ai.load (a0r aP aQ aK aS aU aN aY aV aW aO aX aZ aT bf) HS 1 rfl rfl rfl rfl aYq aYo rfl rfl rfl ?_ ai.nil
  refine ⟨HS.b0,?_⟩
  refine bJ 1 rfl rfl rfl aYz (sO HT HB HS (HS.at_ 3 rfl) (HS.at_ 2 rfl) (by omega)) (fun yL yN pq => ?_)
  obtain ⟨eP,dR,eG,dW,dU,eu,dY,eU,dS,eH,dX,dV,eF,dZ,rfl,HS⟩:=pq
  refine ⟨HS.b0,?_⟩
  refine bJ 3 rfl rfl rfl aYz (sO HT HB HS (HS.at_ 3 rfl) (HS.at_ 2 rfl) (by omega)) (fun yM yO pz => ?_)
  obtain ⟨dP,di,dM,dB,dw,dJ,dG,dQ,dm,dO,dD,dA,dK,dI,rfl,HS⟩:=pz
  refine ⟨HS.b0,?_⟩
  refine bF 4 (a0s eP dR eG dW dU eu dY eU dS eH dX dV eF dZ) HS 2 rfl rfl rfl rfl aYo (fun _ HS=>⟨(eX (s:=4) rfl rfl),?_⟩)
  refine bF 5 (a0s dP di dM dB dw dJ dG dQ dm dO dD dA dK dI) HS 1 rfl rfl rfl rfl aYo (fun _ HS=>⟨(eX (s:=4) rfl rfl),?_⟩)
  exact JR.mt (eP,dR,eG,dW,dU,eu,dY,eU,dS,eH,dX,dV,eF,dZ,dP,di,dM,dB,dw,dJ,dG,dQ,dm,dO,dD,dA,dK,dI) HS
 ·skip
  rintro ⟨eP,dR,eG,dW,dU,eu,dY,eU,dS,eH,dX,dV,eF,dZ,dP,di,dM,dB,dw,dJ,dG,dQ,dm,dO,dD,dA,dK,dI⟩ H8 HS
  try dsimp only at HS ⊢
  refine JC.seq ?_
  refine JC.seq ?_
  refine JC.region ?_
  refine JL.load (a0r dP di dM dB dw dJ dG dQ dm dO dD dA dK dI) HS 1 rfl rfl rfl aYq aYo rfl rfl ?_
  refine JL.call rfl rfl Tryz.call125 (ajY HT HB HS (HS.at_ 0 rfl) (HS.at_ 1 rfl) ) (fun v6 w6 uk => ?_)
  obtain ⟨rfl,HS⟩:=uk
  refine Lv (.bool true) (fun a ha=>rC (ha.ev rfl) (ha.ev rfl) (ar8.trans (decide_eq_true hc))) ?_
  refine jn ?_
  refine JC.iy rfl ?_
  refine JC.seq ?_
  refine JC.region ?_
  refine Lv fO (fun a ha=>bZ.run_build (vs:=[]) (by simp only [List.map_cons,List.map_nil]) aYr aYt pV rfl) ?_
  refine Lv (.iface 74 (.int .i64 8)) (fun a ha=>OH (ha.ev rfl) (by kernel_rfl)) ?_
  refine JL.store HS rfl rfl (i:=0) rfl aYo rfl rfl rfl (vs':=cO) rfl rfl (fun w7 HS => ?_)
  refine Lv (.iface 74 (.int .i64 8)) (fun a ha=>run_assign (ha.ev rfl)) ?_
  refine jn ?_
  refine JC.ret (fun a ha => ?_)
  repeat (first | refine dh ?_ | refine df ?_)
  refine vI (v:=fO) (v' := .iface 74 (.int .i64 8)) ha Tryz.results52 (.agg rfl aYq aYo (HS.box _ (.head _)) rfl rfl) (.tmp rfl) ⟨_,rfl,?_⟩
  exact ⟨rfl,HS.gy 3 8 rfl rfl⟩
end
end Go.Proofs.YtbihljnjaondcaaGreatDoor
