/- Part of a proof, said shortly. -/
import Derived.Test.YtbihljnjaondcaaGreatDoorAlz
import Derived.Test.YtbihljnjaondcaaGreatDoorC25
import Derived.Test.YtbihljnjaondcaaGreatDoorS18
import Derived.Test.YtbihljnjaondcaaGreatDoorS26
import Derived.Test.YtbihljnjaondcaaGreatDoorS35
import Derived.Test.YtbihljnjaondcaaGreatDoorC21
import Derived.Test.YtbihljnjaondcaaGreatDoorS2
import Derived.Test.YtbihljnjaondcaaGreatDoorS24
import Derived.Test.YtbihljnjaondcaaGreatDoorC20
import Derived.Test.YtbihljnjaondcaaGreatDoorS7
import Derived.Test.YtbihljnjaondcaaGreatDoorS5
import Derived.Test.YtbihljnjaondcaaGreatDoorS6
import Derived.Test.YtbihljnjaondcaaGreatDoorS11
import Derived.Test.YtbihljnjaondcaaGreatDoorS25
import Derived.Test.YtbihljnjaondcaaGreatDoorC15
import Derived.Test.YtbihljnjaondcaaGreatDoorS1
import Derived.Test.YtbihljnjaondcaaGreatDoorS9
import Derived.Test.YtbihljnjaondcaaGreatDoorC16
import Derived.Test.YtbihljnjaondcaaGreatDoorC14
import Derived.Test.YtbihljnjaondcaaGreatDoorC13
import Derived.Test.YtbihljnjaondcaaGreatDoorC12
import Derived.Test.YtbihljnjaondcaaGreatDoorC11
import Derived.Test.YtbihljnjaondcaaGreatDoorC10
import Derived.Test.YtbihljnjaondcaaGreatDoorC6
import Derived.Test.YtbihljnjaondcaaGreatDoorC2
import Derived.Test.YtbihljnjaondcaaGreatDoorC1
import Derived.Test.YtbihljnjaondcaaGreatDoorC5
import Derived.Test.YtbihljnjaondcaaGreatDoorC4
import Derived.Test.YtbihljnjaondcaaGreatDoorC3
import Derived.Test.YtbihljnjaondcaaGreatDoorC9
import Derived.Test.YtbihljnjaondcaaGreatDoorC8
import Derived.Test.YtbihljnjaondcaaGreatDoorC7
import Derived.Test.YtbihljnjaondcaaGreatDoorC19
import Derived.Test.YtbihljnjaondcaaGreatDoorC18
import Derived.Test.YtbihljnjaondcaaGreatDoorC17
import Derived.Test.YtbihljnjaondcaaGreatDoorS14
import Derived.Test.YtbihljnjaondcaaGreatDoorS3
import Derived.Test.YtbihljnjaondcaaGreatDoorS12
import Derived.Test.YtbihljnjaondcaaGreatDoorC22
import Derived.Test.YtbihljnjaondcaaGreatDoorS8
import Derived.Test.YtbihljnjaondcaaGreatDoorS17
import Derived.Test.YtbihljnjaondcaaGreatDoorC23
import Derived.Test.YtbihljnjaondcaaGreatDoorC24
set_option maxRecDepth 100000
open Go.Proofs.YtbihljnjaondcaaGreatDoor (a0p a0q a0r a0s yw bU fO cO PS iy1 PT FX iy4 iy5 iy6 Yo iy8 iy9 aAJ)
set_option linter.unusedVariables false
set_option linter.unusedSimpArgs false
namespace Go.Proofs.YtbihljnjaondcaaGreatDoor
open Go Go.RowKit Lw bZ
section
variable {W0 w:World} {U:List Box} {Ps:List (World→Prop)}
variable {ax:Bool} {ay:Option Addr} {aj c1a:Nat} {az:Option Addr} {ak aA:Nat} {aB:Bool} {aC:Option Addr} {n1b aG:Nat} {aF:Option Addr} {au aH:Nat} {s2:Bool} {A2:Option Addr} {n2 c2:Nat} {B2:Option Addr} {m2 d2:Nat} {aP:Bool} {aQ:Option Addr} {aK aS:Nat} {aU:Option Addr} {aN aY:Nat} {aV:Bool} {aW:Option Addr} {aO aX:Nat} {aZ:Option Addr} {aT bf:Nat}
set_option maxHeartbeats 1000000 in
theorem ars (HT:Tz W0) (HB:Tab W0) {af:Rat} {bC:Nat} {bu:Bool} {ah:Rat} {bD:Nat} {bn:Bool} {aI:Rat} {bM:Nat} {bT:Bool} {aJ:Rat} {bP:Nat} {bQ:Bool} (HS:St W0 U Ps w) (f1a:FV (a0p ax ay aj c1a az ak aA) af bC bu w) (bI:FV (a0p aB aC n1b aG aF au aH) ah bD bn w) (fC:FV (a0p aP aQ aK aS aU aN aY) aI bM bT w) (fD:FV (a0p aV aW aO aX aZ aT bf) aJ bP bQ w) (hk:bC+bD+(bM+bP)≤154):bY Tryz.prog 63 [(a0r ax ay aj c1a az ak aA aB aC n1b aG aF au aH),(a0r aP aQ aK aS aU aN aY aV aW aO aX aZ aT bf)] w (xG W0 U Ps (lC (bV bu bn af ah) (bW bu bn af ah) (bV bT bQ aI aJ) (bW bT bQ aI aJ)) (jV (bV bu bn af ah) (bW bu bn af ah) (bV bT bQ aI aJ) (bW bT bQ aI aJ)) (6*((bC+bD)+(bM+bP)+2)+40)):=by
 have HS:=HS.add (FV.stable _ _ _ _) f1a
 have HS:=HS.add (FV.stable _ _ _ _) bI
 have HS:=HS.add (FV.stable _ _ _ _) fC
 have HS:=HS.add (FV.stable _ _ _ _) fD
 clear f1a bI fC fD
 refine iL Tryz.func63 rfl Tryz.ntmps63 rfl ?_
 refine JC.seq ?_
 refine JC.region ?_
 refine JL.box (vs:=(a0s ax ay aj c1a az ak aA aB aC n1b aG aF au aH)) HS rfl rfl rfl rfl (fun g1 w1 HS => ?_)
 refine JL.box (vs:=(a0s aP aQ aK aS aU aN aY aV aW aO aX aZ aT bf)) HS rfl rfl rfl rfl (fun g2 w2 HS => ?_)
 refine JL.alloc (vs:=cO) HS rfl aYt rfl rfl (fun g3 w3 HS => ?_)
 refine jn ?_
 refine JC.cut (ι:=FX) (fun ⟨eP,dR,eG,dW,dU,eu,dY,eU,dS,eH,dX,dV,eF,dZ,dP,di,dM,dB,dw,dJ,dG,dQ,dm,dO,dD,dA,dK,dI⟩=>[(0,(a0r ax ay aj c1a az ak aA aB aC n1b aG aF au aH)),(1,(a0r aP aQ aK aS aU aN aY aV aW aO aX aZ aT bf)),(2,.pointer (some ⟨g1,0,none⟩)),(3,.pointer (some ⟨g2,0,none⟩)),(4,.pointer (some ⟨g3,0,none⟩))]) (fun ⟨eP,dR,eG,dW,dU,eu,dY,eU,dS,eH,dX,dV,eF,dZ,dP,di,dM,dB,dw,dJ,dG,dQ,dm,dO,dD,dA,dK,dI⟩ w=>St W0 (⟨g3,48,cO⟩ :: ⟨g2,48,(a0s dP di dM dB dw dJ dG dQ dm dO dD dA dK dI)⟩ :: ⟨g1,48,(a0s eP dR eG dW dU eu dY eU dS eH dX dV eF dZ)⟩ :: U) (FV (a0p dP di dM dB dw dJ dG) (bV bT bQ aI aJ) (bM+bP) true :: FV (a0p dQ dm dO dD dA dK dI) (bW bT bQ aI aJ) (bM+bP) true :: FV (a0p eP dR eG dW dU eu dY) (bV bu bn af ah) (bC+bD) true :: FV (a0p eU dS eH dX dV eF dZ) (bW bu bn af ah) (bC+bD) true :: FV (a0p aV aW aO aX aZ aT bf) aJ bP bQ :: FV (a0p aP aQ aK aS aU aN aY) aI bM bT :: FV (a0p aB aC n1b aG aF au aH) ah bD bn :: FV (a0p ax ay aj c1a az ak aA) af bC bu :: Ps) w) ?_ ?_
 ·skip
  refine JC.draw HS [4,5] (by kernel_rfl) (fun w5 HS => ?_)
  refine Da (a0r ax ay aj c1a az ak aA aB aC n1b aG aF au aH) 0 2 rfl HS.b0 rfl rfl aYq aYo ?_
  refine JR.any [1,2] (by kernel_rfl) rfl ?_
  refine ai.call rfl rfl rfl aYE (vT HT HB HS (HS.at_ 3 rfl) (HS.at_ 2 rfl) (by omega)) rfl (fun yL yN pq => ?_) ?_
  ·skip
   obtain ⟨eP,dR,eG,dW,dU,eu,dY,eU,dS,eH,dX,dV,eF,dZ,rfl,HS⟩:=pq
   refine ⟨HS.b0,?_⟩
   refine J1 2 (by kernel_rfl) ?_
   refine ai.load (a0r aP aQ aK aS aU aN aY aV aW aO aX aZ aT bf) HS 1 rfl rfl rfl rfl aYq aYo rfl rfl rfl ?_ ai.nil
   refine ⟨HS.b0,?_⟩
   refine bJ 3 rfl rfl rfl aYE (vT HT HB HS (HS.at_ 3 rfl) (HS.at_ 2 rfl) (by omega)) (fun yM yO pz => ?_)
   obtain ⟨dP,di,dM,dB,dw,dJ,dG,dQ,dm,dO,dD,dA,dK,dI,rfl,HS⟩:=pz
   refine ⟨HS.b0,?_⟩
   refine bF 4 (a0s eP dR eG dW dU eu dY eU dS eH dX dV eF dZ) HS 2 rfl rfl rfl rfl aYo (fun _ HS=>⟨(eX (s:=4) rfl rfl),?_⟩)
   refine bF 5 (a0s dP di dM dB dw dJ dG dQ dm dO dD dA dK dI) HS 1 rfl rfl rfl rfl aYo (fun _ HS=>⟨(eX (s:=4) rfl rfl),?_⟩)
   exact JR.mt (eP,dR,eG,dW,dU,eu,dY,eU,dS,eH,dX,dV,eF,dZ,dP,di,dM,dB,dw,dJ,dG,dQ,dm,dO,dD,dA,dK,dI) HS
  refine ai.load (a0r aP aQ aK aS aU aN aY aV aW aO aX aZ aT bf) HS 1 rfl rfl rfl rfl aYq aYo rfl rfl rfl ?_ ai.nil
  refine ⟨HS.b0,?_⟩
  refine bJ 1 rfl rfl rfl aYE (vT HT HB HS (HS.at_ 3 rfl) (HS.at_ 2 rfl) (by omega)) (fun yL yN pq => ?_)
  obtain ⟨eP,dR,eG,dW,dU,eu,dY,eU,dS,eH,dX,dV,eF,dZ,rfl,HS⟩:=pq
  refine ⟨HS.b0,?_⟩
  refine bJ 3 rfl rfl rfl aYE (vT HT HB HS (HS.at_ 3 rfl) (HS.at_ 2 rfl) (by omega)) (fun yM yO pz => ?_)
  obtain ⟨dP,di,dM,dB,dw,dJ,dG,dQ,dm,dO,dD,dA,dK,dI,rfl,HS⟩:=pz
  refine ⟨HS.b0,?_⟩
  refine bF 4 (a0s eP dR eG dW dU eu dY eU dS eH dX dV eF dZ) HS 2 rfl rfl rfl rfl aYo (fun _ HS=>⟨(eX (s:=4) rfl rfl),?_⟩)
  refine bF 5 (a0s dP di dM dB dw dJ dG dQ dm dO dD dA dK dI) HS 1 rfl rfl rfl rfl aYo (fun _ HS=>⟨(eX (s:=4) rfl rfl),?_⟩)
  exact JR.mt (eP,dR,eG,dW,dU,eu,dY,eU,dS,eH,dX,dV,eF,dZ,dP,di,dM,dB,dw,dJ,dG,dQ,dm,dO,dD,dA,dK,dI) HS
 ·skip
  rintro ⟨eP,dR,eG,dW,dU,eu,dY,eU,dS,eH,dX,dV,eF,dZ,dP,di,dM,dB,dw,dJ,dG,dQ,dm,dO,dD,dA,dK,dI⟩ H8 HS
  try dsimp only at HS ⊢
  refine JC.seq ?_
  refine JC.draw HS [22] (by kernel_rfl) (fun w6 HS => ?_)
  refine Dv (.pointer (some ⟨g1,0,none⟩)) 0 rfl HS.b0 (fun a ha w=>bH (ha.ev rfl) aYr rfl aYn rfl rfl) ?_
  refine Da (a0p eP dR eG dW dU eu dY) 1 2 rfl HS.b0 rfl rfl aYp aYn ?_
  refine Dv (.pointer (some ⟨g2,0,none⟩)) 2 rfl HS.b0 (fun a ha w=>bH (ha.ev rfl) aYr rfl aYn rfl rfl) ?_
  refine Da (a0p dP di dM dB dw dJ dG) 3 1 rfl HS.b0 rfl rfl aYp aYn ?_
  refine Dv (.pointer (some ⟨g1,0,none⟩)) 5 rfl HS.b0 (fun a ha w=>bH (ha.ev rfl) aYr rfl aYn rfl rfl) ?_
  refine Da (a0p eP dR eG dW dU eu dY) 6 2 rfl HS.b0 rfl rfl aYp aYn ?_
  refine Dv (.pointer (some ⟨g2,3,none⟩)) 7 rfl HS.b0 (fun a ha w=>bH (ha.ev rfl) aYr rfl aYn rfl rfl) ?_
  refine Da (a0p dQ dm dO dD dA dK dI) 8 1 rfl HS.b0 rfl rfl aYp aYn ?_
  refine Dv (.pointer (some ⟨g1,3,none⟩)) 10 rfl HS.b0 (fun a ha w=>bH (ha.ev rfl) aYr rfl aYn rfl rfl) ?_
  refine Da (a0p eU dS eH dX dV eF dZ) 11 2 rfl HS.b0 rfl rfl aYp aYn ?_
  refine Dv (.pointer (some ⟨g2,0,none⟩)) 12 rfl HS.b0 (fun a ha w=>bH (ha.ev rfl) aYr rfl aYn rfl rfl) ?_
  refine Da (a0p dP di dM dB dw dJ dG) 13 1 rfl HS.b0 rfl rfl aYp aYn ?_
  refine Dv (.pointer (some ⟨g1,3,none⟩)) 15 rfl HS.b0 (fun a ha w=>bH (ha.ev rfl) aYr rfl aYn rfl rfl) ?_
  refine Da (a0p eU dS eH dX dV eF dZ) 16 2 rfl HS.b0 rfl rfl aYp aYn ?_
  refine Dv (.pointer (some ⟨g2,3,none⟩)) 17 rfl HS.b0 (fun a ha w=>bH (ha.ev rfl) aYr rfl aYn rfl rfl) ?_
  refine Da (a0p dQ dm dO dD dA dK dI) 18 1 rfl HS.b0 rfl rfl aYp aYn ?_
  refine bJ 4 rfl rfl rfl aZe (Qc HT HB HS (HS.at_ 2 rfl) (HS.at_ 0 rfl) (by omega)) (fun aeT afh Nc => ?_)
  obtain ⟨yx,xX,yu,x8,xZ,yt,x9,rfl,HS⟩:=Nc
  refine ⟨HS.b0,?_⟩
  refine bJ 9 rfl rfl rfl aZe (Qc HT HB HS (HS.at_ 3 rfl) (HS.at_ 2 rfl) (by omega)) (fun ZK aae Iw => ?_)
  obtain ⟨xC,xh,xy,xm,xk,xx,xn,rfl,HS⟩:=Iw
  refine ⟨HS.b0,?_⟩
  refine bJ 14 rfl rfl rfl aZe (Qc HT HB HS (HS.at_ 5 rfl) (HS.at_ 2 rfl) (by omega)) (fun aVn aXE av' => ?_)
  obtain ⟨ajp,afx,aix,ag7,afM,ain,ahg,rfl,HS⟩:=av'
  refine ⟨HS.b0,?_⟩
  refine bJ 19 rfl rfl rfl aZe (Qc HT HB HS (HS.at_ 6 rfl) (HS.at_ 4 rfl) (by omega)) (fun aVo aXF awc => ?_)
  obtain ⟨ajq,afy,aiy,ag8,afN,aio,ahh,rfl,HS⟩:=awc
  refine ⟨HS.b0,?_⟩
  refine J1 20 (by kernel_rfl) ?_
  refine ai.buildSlice (ps:=[(0,(a0p yx xX yu x8 xZ yt x9)),(1,(a0p xC xh xy xm xk xx xn)),(2,(a0p ajp afx aix ag7 afM ain ahg)),(3,(a0p ajq afy aiy ag8 afN aio ahh))]) (vs:=[.bool yx,.slice xX yu x8,.slice xZ yt x9,.bool xC,.slice xh xy xm,.slice xk xx xn,.bool ajp,.slice afx aix ag7,.slice afM ain ahg,.bool ajq,.slice afy aiy ag8,.slice afN aio ahh]) HS rfl rfl (fun a ha=>by simp only [List.map_cons,List.map_nil,ha.ev (x := .tmp 13) (v:=(a0p yx xX yu x8 xZ yt x9)) rfl,ha.ev (x := .tmp 18) (v:=(a0p xC xh xy xm xk xx xn)) rfl,ha.ev (x := .tmp 23) (v:=(a0p ajp afx aix ag7 afM ain ahg)) rfl,ha.ev (x := .tmp 28) (v:=(a0p ajq afy aiy ag8 afN aio ahh)) rfl]) aYC aYn aYs rfl rfl (by kernel_rfl) rfl rfl (fun aNT aXG HS => ?_) ai.nil
  refine ⟨HS.b1,?_⟩
  refine bJ 21 rfl rfl rfl aZi (aq6 HT HB HS (HS.at_ 3 rfl) (HS.at_ 2 rfl) (HS.at_ 1 rfl) (HS.at_ 0 rfl) (by omega)) (fun aVp aXH awd => ?_)
  obtain ⟨arN,akF,apj,alY,akX,aoQ,amo,arO,akG,apk,alZ,akY,aoR,amq,rfl,HS⟩:=awd
  refine ⟨HS.b1,?_⟩
  refine bF 22 (a0s arN akF apj alY akX aoQ amo arO akG apk alZ akY aoR amq) HS 1 rfl rfl rfl rfl aYo (fun _ HS=>⟨(eX (s:=22) rfl rfl),?_⟩)
  refine JR.next (by kernel_rfl) (fun _ _ h=>h) ?_
  refine JC.ret (fun a ha => ?_)
  repeat (first | refine dh ?_ | refine df ?_)
  refine fG (v:=(a0r arN akF apj alY akX aoQ amo arO akG apk alZ akY aoR amq)) ha Tryz.results63 (.agg rfl aYq aYo (HS.box _ (.tail _ (.head _))) rfl rfl) ⟨_,rfl,?_⟩
  exact ⟨_,_,_,_,_,_,_,_,_,_,_,_,_,_,rfl,HS.tY 4 14 0 1 rfl rfl rfl (fun _ h=>h.as rfl (by omega)) rfl (fun _ h=>h.as rfl (by omega))⟩
theorem arq (HT:Tz W0) (HB:Tab W0) (HS:St W0 U Ps w) {af:Rat} {bC:Nat} {ah:Rat} {bD:Nat} {q2:Rat} {k2:Nat} {b2:Bool} (f1a:FV (a0p ax ay aj c1a az ak aA) af bC true w) (bI:FV (a0p aB aC n1b aG aF au aH) ah bD true w) (f2:FV (a0p s2 A2 n2 c2 B2 m2 d2) q2 k2 b2 w) (hk:bC+bD+k2≤600) (hab:af≤ah) :
 bY Tryz.prog 43 [(a0r ax ay aj c1a az ak aA aB aC n1b aG aF au aH),(a0p s2 A2 n2 c2 B2 m2 d2)] w (iP W0 U Ps (.bool (decide (af≤q2)&&decide (q2≤ah)))):=by
 have h:=aen HT HB HS f1a bI f2 hk
 rw [vG hab,vF hab] at h
 exact h
theorem aE1 (HT:Tz W0) (HB:Tab W0) (HS:St W0 U Ps w) {af:Rat} {bC:Nat} {ah:Rat} {bD:Nat} {q2:Rat} {k2:Nat} {b2:Bool} (f1a:FV (a0p ax ay aj c1a az ak aA) af bC true w) (bI:FV (a0p aB aC n1b aG aF au aH) ah bD true w) (f2:FV (a0p s2 A2 n2 c2 B2 m2 d2) q2 k2 b2 w) (hk:bC+bD+k2≤600) (hab:af≤ah) (hz:af≤q2∧q2≤ah) :
 bY Tryz.prog 43 [(a0r ax ay aj c1a az ak aA aB aC n1b aG aF au aH),(a0p s2 A2 n2 c2 B2 m2 d2)] w (iP W0 U Ps (.bool true)):=by
 have h:=arq HT HB HS f1a bI f2 hk hab
 rw [decide_eq_true hz.1,decide_eq_true hz.2] at h
 exact h
theorem aE0 (HT:Tz W0) (HB:Tab W0) (HS:St W0 U Ps w) {af:Rat} {bC:Nat} {ah:Rat} {bD:Nat} {q2:Rat} {k2:Nat} {b2:Bool} (f1a:FV (a0p ax ay aj c1a az ak aA) af bC true w) (bI:FV (a0p aB aC n1b aG aF au aH) ah bD true w) (f2:FV (a0p s2 A2 n2 c2 B2 m2 d2) q2 k2 b2 w) (hk:bC+bD+k2≤600) (hab:af≤ah) (hz:q2 < af∨ah < q2) :
 bY Tryz.prog 43 [(a0r ax ay aj c1a az ak aA aB aC n1b aG aF au aH),(a0p s2 A2 n2 c2 B2 m2 d2)] w (iP W0 U Ps (.bool false)):=by
 have h:=arq HT HB HS f1a bI f2 hk hab
 rw [show (decide (af≤q2)&&decide (q2≤ah))=false by rcases hz with hz | hz; (rw [decide_eq_false (show ¬ af≤q2 by grind)]; rfl); (rw [decide_eq_false (show ¬ q2≤ah by grind)]; cases decide (af≤q2) <;> rfl)] at h
 exact h
set_option maxHeartbeats 400000 in
theorem aE3 (HT:Tz W0) (HB:Tab W0) {af:Rat} {bC:Nat} {bu:Bool} {ah:Rat} {bD:Nat} {bn:Bool} {aI:Rat} {bM:Nat} {bT:Bool} {aJ:Rat} {bP:Nat} {bQ:Bool} (HS:St W0 U Ps w) (f1a:FV (a0p ax ay aj c1a az ak aA) af bC bu w) (bI:FV (a0p aB aC n1b aG aF au aH) ah bD bn w) (fC:FV (a0p aP aQ aK aS aU aN aY) aI bM bT w) (fD:FV (a0p aV aW aO aX aZ aT bf) aJ bP bQ w) (hk:bC+bD+(bM+bP)≤60) (hc:(bV bT bQ aI aJ)≤0∧0≤(bW bT bQ aI aJ)):bY Tryz.prog 54 [(a0r ax ay aj c1a az ak aA aB aC n1b aG aF au aH),(a0r aP aQ aK aS aU aN aY aV aW aO aX aZ aT bf)] w (iP W0 U Ps (.tuple #[fO,.int .i64 8])):=by
 have HS:=HS.add (FV.stable _ _ _ _) f1a
 have HS:=HS.add (FV.stable _ _ _ _) bI
 have HS:=HS.add (FV.stable _ _ _ _) fC
 have HS:=HS.add (FV.stable _ _ _ _) fD
 clear f1a bI fC fD
 refine iL Tryz.func54 rfl Tryz.ntmps54 rfl ?_
 refine JC.seq ?_
 refine JC.region ?_
 refine JL.box (vs:=(a0s ax ay aj c1a az ak aA aB aC n1b aG aF au aH)) HS rfl rfl rfl rfl (fun g1 w1 HS => ?_)
 refine JL.box (vs:=(a0s aP aQ aK aS aU aN aY aV aW aO aX aZ aT bf)) HS rfl rfl rfl rfl (fun g2 w2 HS => ?_)
 refine JL.alloc (vs:=cO) HS rfl aYt rfl rfl (fun g3 w3 HS => ?_)
 refine Lv (.int .i64 0) (fun a ha=>run_assign (ha.ev rfl)) ?_
 refine jn ?_
 refine JC.seq ?_
 refine JC.region ?_
 refine JL.load (a0r aP aQ aK aS aU aN aY aV aW aO aX aZ aT bf) HS 1 rfl rfl rfl aYq aYo rfl rfl ?_
 refine JL.call rfl rfl aYE (vT HT HB HS (HS.at_ 1 rfl) (HS.at_ 0 rfl) (by omega)) (fun v4 w4 HR4 => ?_)
 obtain ⟨uY,uP,uV,uT,Ci,CZ,CS,uZ,uQ,n4b,uU,Cj,C9,CU,rfl,HS⟩:=HR4
 refine JL.store HS rfl rfl (i:=1) rfl aYo rfl rfl rfl (vs':=(a0s uY uP uV uT Ci CZ CS uZ uQ n4b uU Cj C9 CU)) rfl rfl (fun w5 HS => ?_)
 refine jn ?_
 refine JC.seq ?_
 refine JC.seq ?_
 refine JC.region ?_
 refine JL.load (a0r uY uP uV uT Ci CZ CS uZ uQ n4b uU Cj C9 CU) HS 1 rfl rfl rfl aYq aYo rfl rfl ?_
 refine Lv yw (fun a ha=>bZ.run_build (vs:=[]) (by simp only [List.map_cons,List.map_nil]) aYx aYs Dh rfl) ?_
 refine JL.call rfl rfl aZK (aE1 HT HB HS (HS.at_ 0 rfl) (HS.at_ 1 rfl) (FV.zero 0 _) (by omega) (oP _ _ _ _) hc) (fun v6 w6 uk => ?_)
 obtain ⟨rfl,HS⟩:=uk
 refine jn ?_
 refine JC.iy rfl ?_
 refine JC.seq ?_
 refine JC.region ?_
 refine Lv fO (fun a ha=>bZ.run_build (vs:=[]) (by simp only [List.map_cons,List.map_nil]) aYr aYt pV rfl) ?_
 refine JL.store HS rfl rfl (i:=0) rfl aYo rfl rfl rfl (vs':=cO) rfl rfl (fun w7 HS => ?_)
 refine Lv (.int .i64 8) (fun a ha=>run_assign (ha.ev rfl)) ?_
 refine jn ?_
 refine JC.ret (fun a ha => ?_)
 repeat (first | refine dh ?_ | refine df ?_)
 refine vI (v:=fO) (v' := .int .i64 8) ha Tryz.results54 (.agg rfl aYq aYo (HS.box _ (.head _)) rfl rfl) (.tmp rfl) ⟨_,rfl,?_⟩
 exact ⟨rfl,HS.gy 3 6 rfl rfl⟩
set_option maxHeartbeats 400000 in
theorem aE2 (HT:Tz W0) (HB:Tab W0) {af:Rat} {bC:Nat} {bu:Bool} {ah:Rat} {bD:Nat} {bn:Bool} {aI:Rat} {bM:Nat} {bT:Bool} {aJ:Rat} {bP:Nat} {bQ:Bool} (HS:St W0 U Ps w) (f1a:FV (a0p ax ay aj c1a az ak aA) af bC bu w) (bI:FV (a0p aB aC n1b aG aF au aH) ah bD bn w) (fC:FV (a0p aP aQ aK aS aU aN aY) aI bM bT w) (fD:FV (a0p aV aW aO aX aZ aT bf) aJ bP bQ w) (hk:bC+bD+6*(bM+bP)≤124) (hc:0 < (bV bT bQ aI aJ)∨(bW bT bQ aI aJ) < 0):bY Tryz.prog 54 [(a0r ax ay aj c1a az ak aA aB aC n1b aG aF au aH),(a0r aP aQ aK aS aU aN aY aV aW aO aX aZ aT bf)] w (yY W0 U Ps (lC (bV bu bn af ah) (bW bu bn af ah) ((bW bT bQ aI aJ))⁻¹ ((bV bT bQ aI aJ))⁻¹) (jV (bV bu bn af ah) (bW bu bn af ah) ((bW bT bQ aI aJ))⁻¹ ((bV bT bQ aI aJ))⁻¹) (2000) (.int .i64 0)):=by
 have HS:=HS.add (FV.stable _ _ _ _) f1a
 have HS:=HS.add (FV.stable _ _ _ _) bI
 have HS:=HS.add (FV.stable _ _ _ _) fC
 have HS:=HS.add (FV.stable _ _ _ _) fD
 clear f1a bI fC fD
 refine iL Tryz.func54 rfl Tryz.ntmps54 rfl ?_
 refine JC.seq ?_
 refine JC.region ?_
 refine JL.box (vs:=(a0s ax ay aj c1a az ak aA aB aC n1b aG aF au aH)) HS rfl rfl rfl rfl (fun g1 w1 HS => ?_)
 refine JL.box (vs:=(a0s aP aQ aK aS aU aN aY aV aW aO aX aZ aT bf)) HS rfl rfl rfl rfl (fun g2 w2 HS => ?_)
 refine JL.alloc (vs:=cO) HS rfl aYt rfl rfl (fun g3 w3 HS => ?_)
 refine Lv (.int .i64 0) (fun a ha=>run_assign (ha.ev rfl)) ?_
 refine jn ?_
 refine JC.seq ?_
 refine JC.region ?_
 refine JL.load (a0r aP aQ aK aS aU aN aY aV aW aO aX aZ aT bf) HS 1 rfl rfl rfl aYq aYo rfl rfl ?_
 refine JL.call rfl rfl aYE (vT HT HB HS (HS.at_ 1 rfl) (HS.at_ 0 rfl) (by omega)) (fun v4 w4 HR4 => ?_)
 obtain ⟨uY,uP,uV,uT,Ci,CZ,CS,uZ,uQ,n4b,uU,Cj,C9,CU,rfl,HS⟩:=HR4
 refine JL.store HS rfl rfl (i:=1) rfl aYo rfl rfl rfl (vs':=(a0s uY uP uV uT Ci CZ CS uZ uQ n4b uU Cj C9 CU)) rfl rfl (fun w5 HS => ?_)
 refine jn ?_
 refine JC.seq ?_
 refine JC.seq ?_
 refine JC.region ?_
 refine JL.load (a0r uY uP uV uT Ci CZ CS uZ uQ n4b uU Cj C9 CU) HS 1 rfl rfl rfl aYq aYo rfl rfl ?_
 refine Lv yw (fun a ha=>bZ.run_build (vs:=[]) (by simp only [List.map_cons,List.map_nil]) aYx aYs Dh rfl) ?_
 refine JL.call rfl rfl aZK (aE0 HT HB HS (HS.at_ 0 rfl) (HS.at_ 1 rfl) (FV.zero 0 _) (by omega) (oP _ _ _ _) hc) (fun v6 w6 uk => ?_)
 obtain ⟨rfl,HS⟩:=uk
 refine jn ?_
 refine JC.jA rfl ?_
 refine JC.jF (fun _ _ h=>h) ?_
 refine JC.cut (ι:=Yo) (fun ⟨OW,Me,Ov,Ny,MP,Oh,NH,jw,iV,jo,jc,iZ,jk,jf,GL⟩=>[(0,(a0r ax ay aj c1a az ak aA aB aC n1b aG aF au aH)),(1,(a0r aP aQ aK aS aU aN aY aV aW aO aX aZ aT bf)),(2,.pointer (some ⟨g1,0,none⟩)),(3,.pointer (some ⟨g2,0,none⟩)),(4,.pointer (some ⟨g3,0,none⟩)),(5,.int .i64 0),(6,.pointer (some ⟨GL,0,none⟩)),(10,(a0r aP aQ aK aS aU aN aY aV aW aO aX aZ aT bf)),(11,(a0r uY uP uV uT Ci CZ CS uZ uQ n4b uU Cj C9 CU)),(12,(a0r uY uP uV uT Ci CZ CS uZ uQ n4b uU Cj C9 CU)),(13,yw),(14,.bool false)]) (fun ⟨OW,Me,Ov,Ny,MP,Oh,NH,jw,iV,jo,jc,iZ,jk,jf,GL⟩ w=>St W0 (⟨GL,24,(a0q jw iV jo jc iZ jk jf)⟩ :: ⟨g3,48,cO⟩ :: ⟨g2,48,(a0s uY uP uV uT Ci CZ CS uZ uQ n4b uU Cj C9 CU)⟩ :: ⟨g1,48,(a0s ax ay aj c1a az ak aA aB aC n1b aG aF au aH)⟩ :: U) (FV (a0p jw iV jo jc iZ jk jf) ((1:Rat)*(bV bT bQ aI aJ)⁻¹) (bM+bP+1) true :: FV (a0p jw iV jo jc iZ jk jf) ((1:Rat)*(bV bT bQ aI aJ)⁻¹) (2*6+2*(bM+bP)+12) true :: FV (a0p OW Me Ov Ny MP Oh NH) (1:Rat) 6 true :: FV (a0p uY uP uV uT Ci CZ CS) (bV bT bQ aI aJ) (bM+bP) true :: FV (a0p uZ uQ n4b uU Cj C9 CU) (bW bT bQ aI aJ) (bM+bP) true :: FV (a0p aV aW aO aX aZ aT bf) aJ bP bQ :: FV (a0p aP aQ aK aS aU aN aY) aI bM bT :: FV (a0p aB aC n1b aG aF au aH) ah bD bn :: FV (a0p ax ay aj c1a az ak aA) af bC bu :: Ps) w) ?_ ?_
 ·skip
  refine JC.draw HS [] (by kernel_rfl) (fun w8 HS => ?_)
  refine Dv (.pointer (some ⟨g2,0,none⟩)) 1 rfl HS.b0 (fun a ha w=>bH (ha.ev rfl) aYr rfl aYn rfl rfl) ?_
  refine Da (a0p uY uP uV uT Ci CZ CS) 2 1 rfl HS.b0 rfl rfl aYp aYn ?_
  refine JR.any [0,7] (by kernel_rfl) rfl ?_
  refine ai.call rfl rfl rfl aZr (Vm HT HB HS  (by omega) (by omega)) rfl (fun aGA aHi agA => ?_) ?_
  ·skip
   obtain ⟨OW,Me,Ov,Ny,MP,Oh,NH,rfl,HS⟩:=agA
   refine ⟨HS.b0,?_⟩
   refine JR.any [3,7] (by kernel_rfl) rfl ?_
   refine ai.call rfl rfl rfl aZu (Vl HT HB HS (HS.at_ 0 rfl) (HS.at_ 1 rfl) (by omega) (EP (oP _ _ _ _) hc).1) rfl (fun Qu QC CG => ?_) ?_
   ·skip
    obtain ⟨jw,iV,jo,jc,iZ,jk,jf,rfl,HS⟩:=CG
    have HS:=HS.add (FV.stable _ _ _ _) (FV.VB (HS.at_ 0 rfl) (HS.at_ 2 rfl) (EP (oP _ _ _ _) hc).1)
    refine ⟨HS.b0,?_⟩
    refine Dv (.tuple #[(a0p jw iV jo jc iZ jk jf),.int .i64 0]) 4 rfl HS.b0 (fun a ha w=>run_move (ha.ev rfl)) ?_
    refine Dv (a0p jw iV jo jc iZ jk jf) 5 rfl HS.b0 (fun a ha w=>bK (ha.ev rfl) rfl) ?_
    refine Dv (.int .i64 0) 6 rfl HS.b0 (fun a ha w=>bK (ha.ev rfl) rfl) ?_
    refine jy (vs:=bU) 7 HS rfl aYs rfl (fun GL _ HS=>⟨HS.b1,?_⟩)
    refine bF 8 (a0q jw iV jo jc iZ jk jf) HS 0 rfl rfl rfl rfl aYn (fun _ HS=>⟨HS.b1,?_⟩)
    refine Dv (.int .i64 0) 9 rfl HS.b1 (fun a ha w=>run_assign (ha.ev rfl)) ?_
    exact JR.mt (OW,Me,Ov,Ny,MP,Oh,NH,jw,iV,jo,jc,iZ,jk,jf,GL) HS
   refine ai.alloc (vs:=bU) HS rfl rfl aYs rfl rfl rfl (fun GL QD HS => ?_) ai.nil
   refine ⟨HS.b1,?_⟩
   refine bJ 3 rfl rfl rfl aZu (Vl HT HB HS (HS.at_ 0 rfl) (HS.at_ 1 rfl) (by omega) (EP (oP _ _ _ _) hc).1) (fun Qu QC CG => ?_)
   obtain ⟨jw,iV,jo,jc,iZ,jk,jf,rfl,HS⟩:=CG
   have HS:=HS.add (FV.stable _ _ _ _) (FV.VB (HS.at_ 0 rfl) (HS.at_ 2 rfl) (EP (oP _ _ _ _) hc).1)
   refine ⟨HS.b1,?_⟩
   refine Dv (.tuple #[(a0p jw iV jo jc iZ jk jf),.int .i64 0]) 4 rfl HS.b1 (fun a ha w=>run_move (ha.ev rfl)) ?_
   refine Dv (a0p jw iV jo jc iZ jk jf) 5 rfl HS.b1 (fun a ha w=>bK (ha.ev rfl) rfl) ?_
   refine Dv (.int .i64 0) 6 rfl HS.b1 (fun a ha w=>bK (ha.ev rfl) rfl) ?_
   refine bF 8 (a0q jw iV jo jc iZ jk jf) HS 0 rfl rfl rfl rfl aYn (fun _ HS=>⟨HS.b1,?_⟩)
   refine Dv (.int .i64 0) 9 rfl HS.b1 (fun a ha w=>run_assign (ha.ev rfl)) ?_
   exact JR.mt (OW,Me,Ov,Ny,MP,Oh,NH,jw,iV,jo,jc,iZ,jk,jf,GL) HS
  refine ai.alloc (vs:=bU) HS rfl rfl aYs rfl rfl rfl (fun GL QD HS => ?_) ai.nil
  refine ⟨HS.b1,?_⟩
  refine bJ 0 rfl rfl rfl aZr (Vm HT HB HS  (by omega) (by omega)) (fun aGA aHi agA => ?_)
  obtain ⟨OW,Me,Ov,Ny,MP,Oh,NH,rfl,HS⟩:=agA
  refine ⟨HS.b1,?_⟩
  refine bJ 3 rfl rfl rfl aZu (Vl HT HB HS (HS.at_ 0 rfl) (HS.at_ 1 rfl) (by omega) (EP (oP _ _ _ _) hc).1) (fun Qu QC CG => ?_)
  obtain ⟨jw,iV,jo,jc,iZ,jk,jf,rfl,HS⟩:=CG
  have HS:=HS.add (FV.stable _ _ _ _) (FV.VB (HS.at_ 0 rfl) (HS.at_ 2 rfl) (EP (oP _ _ _ _) hc).1)
  refine ⟨HS.b1,?_⟩
  refine Dv (.tuple #[(a0p jw iV jo jc iZ jk jf),.int .i64 0]) 4 rfl HS.b1 (fun a ha w=>run_move (ha.ev rfl)) ?_
  refine Dv (a0p jw iV jo jc iZ jk jf) 5 rfl HS.b1 (fun a ha w=>bK (ha.ev rfl) rfl) ?_
  refine Dv (.int .i64 0) 6 rfl HS.b1 (fun a ha w=>bK (ha.ev rfl) rfl) ?_
  refine bF 8 (a0q jw iV jo jc iZ jk jf) HS 0 rfl rfl rfl rfl aYn (fun _ HS=>⟨HS.b1,?_⟩)
  refine Dv (.int .i64 0) 9 rfl HS.b1 (fun a ha w=>run_assign (ha.ev rfl)) ?_
  exact JR.mt (OW,Me,Ov,Ny,MP,Oh,NH,jw,iV,jo,jc,iZ,jk,jf,GL) HS
 ·skip
  rintro ⟨OW,Me,Ov,Ny,MP,Oh,NH,jw,iV,jo,jc,iZ,jk,jf,GL⟩ akp HS
  try dsimp only at HS ⊢
  refine JC.cut (ι:=Yo) (fun ⟨Qj,Pm,PY,Px,Pn,PV,Pz,nZ,nO,nT,nR,yz,yD,yC,Kw⟩=>[(0,(a0r ax ay aj c1a az ak aA aB aC n1b aG aF au aH)),(1,(a0r aP aQ aK aS aU aN aY aV aW aO aX aZ aT bf)),(2,.pointer (some ⟨g1,0,none⟩)),(3,.pointer (some ⟨g2,0,none⟩)),(4,.pointer (some ⟨g3,0,none⟩)),(5,.int .i64 0),(6,.pointer (some ⟨GL,0,none⟩)),(8,.pointer (some ⟨Kw,0,none⟩)),(10,(a0r aP aQ aK aS aU aN aY aV aW aO aX aZ aT bf)),(11,(a0r uY uP uV uT Ci CZ CS uZ uQ n4b uU Cj C9 CU)),(12,(a0r uY uP uV uT Ci CZ CS uZ uQ n4b uU Cj C9 CU)),(13,yw),(14,.bool false)]) (fun ⟨Qj,Pm,PY,Px,Pn,PV,Pz,nZ,nO,nT,nR,yz,yD,yC,Kw⟩ w=>St W0 (⟨Kw,24,(a0q nZ nO nT nR yz yD yC)⟩ :: ⟨GL,24,(a0q jw iV jo jc iZ jk jf)⟩ :: ⟨g3,48,cO⟩ :: ⟨g2,48,(a0s uY uP uV uT Ci CZ CS uZ uQ n4b uU Cj C9 CU)⟩ :: ⟨g1,48,(a0s ax ay aj c1a az ak aA aB aC n1b aG aF au aH)⟩ :: U) (FV (a0p nZ nO nT nR yz yD yC) ((1:Rat)*(bW bT bQ aI aJ)⁻¹) (bM+bP+1) true :: FV (a0p nZ nO nT nR yz yD yC) ((1:Rat)*(bW bT bQ aI aJ)⁻¹) (2*6+2*(bM+bP)+12) true :: FV (a0p Qj Pm PY Px Pn PV Pz) (1:Rat) 6 true :: FV (a0p jw iV jo jc iZ jk jf) ((1:Rat)*(bV bT bQ aI aJ)⁻¹) (bM+bP+1) true :: FV (a0p jw iV jo jc iZ jk jf) ((1:Rat)*(bV bT bQ aI aJ)⁻¹) (2*6+2*(bM+bP)+12) true :: FV (a0p OW Me Ov Ny MP Oh NH) (1:Rat) 6 true :: FV (a0p uY uP uV uT Ci CZ CS) (bV bT bQ aI aJ) (bM+bP) true :: FV (a0p uZ uQ n4b uU Cj C9 CU) (bW bT bQ aI aJ) (bM+bP) true :: FV (a0p aV aW aO aX aZ aT bf) aJ bP bQ :: FV (a0p aP aQ aK aS aU aN aY) aI bM bT :: FV (a0p aB aC n1b aG aF au aH) ah bD bn :: FV (a0p ax ay aj c1a az ak aA) af bC bu :: Ps) w) ?_ ?_
  ·skip
   refine JC.draw HS [] (by kernel_rfl) (fun w10 HS => ?_)
   refine Dv (.pointer (some ⟨g2,3,none⟩)) 1 rfl HS.b0 (fun a ha w=>bH (ha.ev rfl) aYr rfl aYn rfl rfl) ?_
   refine Da (a0p uZ uQ n4b uU Cj C9 CU) 2 2 rfl HS.b0 rfl rfl aYp aYn ?_
   refine JR.any [0,7] (by kernel_rfl) rfl ?_
   refine ai.call rfl rfl rfl aZr (Vm HT HB HS  (by omega) (by omega)) rfl (fun aGC aHq agF => ?_) ?_
   ·skip
    obtain ⟨Qj,Pm,PY,Px,Pn,PV,Pz,rfl,HS⟩:=agF
    refine ⟨HS.b0,?_⟩
    refine JR.any [3,7] (by kernel_rfl) rfl ?_
    refine ai.call rfl rfl rfl aZu (Vl HT HB HS (HS.at_ 0 rfl) (HS.at_ 5 rfl) (by omega) (EP (oP _ _ _ _) hc).2) rfl (fun TL TW DW => ?_) ?_
    ·skip
     obtain ⟨nZ,nO,nT,nR,yz,yD,yC,rfl,HS⟩:=DW
     have HS:=HS.add (FV.stable _ _ _ _) (FV.VB (HS.at_ 0 rfl) (HS.at_ 6 rfl) (EP (oP _ _ _ _) hc).2)
     refine ⟨HS.b0,?_⟩
     refine Dv (.tuple #[(a0p nZ nO nT nR yz yD yC),.int .i64 0]) 4 rfl HS.b0 (fun a ha w=>run_move (ha.ev rfl)) ?_
     refine Dv (a0p nZ nO nT nR yz yD yC) 5 rfl HS.b0 (fun a ha w=>bK (ha.ev rfl) rfl) ?_
     refine Dv (.int .i64 0) 6 rfl HS.b0 (fun a ha w=>bK (ha.ev rfl) rfl) ?_
     refine jy (vs:=bU) 7 HS rfl aYs rfl (fun Kw _ HS=>⟨HS.b1,?_⟩)
     refine bF 8 (a0q nZ nO nT nR yz yD yC) HS 0 rfl rfl rfl rfl aYn (fun _ HS=>⟨HS.b1,?_⟩)
     refine Dv (.int .i64 0) 9 rfl HS.b1 (fun a ha w=>run_assign (ha.ev rfl)) ?_
     exact JR.mt (Qj,Pm,PY,Px,Pn,PV,Pz,nZ,nO,nT,nR,yz,yD,yC,Kw) HS
    refine ai.alloc (vs:=bU) HS rfl rfl aYs rfl rfl rfl (fun Kw atg HS => ?_) ai.nil
    refine ⟨HS.b1,?_⟩
    refine bJ 3 rfl rfl rfl aZu (Vl HT HB HS (HS.at_ 0 rfl) (HS.at_ 5 rfl) (by omega) (EP (oP _ _ _ _) hc).2) (fun TL TW DW => ?_)
    obtain ⟨nZ,nO,nT,nR,yz,yD,yC,rfl,HS⟩:=DW
    have HS:=HS.add (FV.stable _ _ _ _) (FV.VB (HS.at_ 0 rfl) (HS.at_ 6 rfl) (EP (oP _ _ _ _) hc).2)
    refine ⟨HS.b1,?_⟩
    refine Dv (.tuple #[(a0p nZ nO nT nR yz yD yC),.int .i64 0]) 4 rfl HS.b1 (fun a ha w=>run_move (ha.ev rfl)) ?_
    refine Dv (a0p nZ nO nT nR yz yD yC) 5 rfl HS.b1 (fun a ha w=>bK (ha.ev rfl) rfl) ?_
    refine Dv (.int .i64 0) 6 rfl HS.b1 (fun a ha w=>bK (ha.ev rfl) rfl) ?_
    refine bF 8 (a0q nZ nO nT nR yz yD yC) HS 0 rfl rfl rfl rfl aYn (fun _ HS=>⟨HS.b1,?_⟩)
    refine Dv (.int .i64 0) 9 rfl HS.b1 (fun a ha w=>run_assign (ha.ev rfl)) ?_
    exact JR.mt (Qj,Pm,PY,Px,Pn,PV,Pz,nZ,nO,nT,nR,yz,yD,yC,Kw) HS
   refine ai.alloc (vs:=bU) HS rfl rfl aYs rfl rfl rfl (fun Kw atg HS => ?_) ai.nil
   refine ⟨HS.b1,?_⟩
   refine bJ 0 rfl rfl rfl aZr (Vm HT HB HS  (by omega) (by omega)) (fun aGC aHq agF => ?_)
   obtain ⟨Qj,Pm,PY,Px,Pn,PV,Pz,rfl,HS⟩:=agF
   refine ⟨HS.b1,?_⟩
   refine bJ 3 rfl rfl rfl aZu (Vl HT HB HS (HS.at_ 0 rfl) (HS.at_ 5 rfl) (by omega) (EP (oP _ _ _ _) hc).2) (fun TL TW DW => ?_)
   obtain ⟨nZ,nO,nT,nR,yz,yD,yC,rfl,HS⟩:=DW
   have HS:=HS.add (FV.stable _ _ _ _) (FV.VB (HS.at_ 0 rfl) (HS.at_ 6 rfl) (EP (oP _ _ _ _) hc).2)
   refine ⟨HS.b1,?_⟩
   refine Dv (.tuple #[(a0p nZ nO nT nR yz yD yC),.int .i64 0]) 4 rfl HS.b1 (fun a ha w=>run_move (ha.ev rfl)) ?_
   refine Dv (a0p nZ nO nT nR yz yD yC) 5 rfl HS.b1 (fun a ha w=>bK (ha.ev rfl) rfl) ?_
   refine Dv (.int .i64 0) 6 rfl HS.b1 (fun a ha w=>bK (ha.ev rfl) rfl) ?_
   refine bF 8 (a0q nZ nO nT nR yz yD yC) HS 0 rfl rfl rfl rfl aYn (fun _ HS=>⟨HS.b1,?_⟩)
   refine Dv (.int .i64 0) 9 rfl HS.b1 (fun a ha w=>run_assign (ha.ev rfl)) ?_
   exact JR.mt (Qj,Pm,PY,Px,Pn,PV,Pz,nZ,nO,nT,nR,yz,yD,yC,Kw) HS
  ·skip
   rintro ⟨Qj,Pm,PY,Px,Pn,PV,Pz,nZ,nO,nT,nR,yz,yD,yC,Kw⟩ aHB HS
   try dsimp only at HS ⊢
   refine JC.seq ?_
   refine JC.draw HS [6] (by kernel_rfl) (fun Dp HS => ?_)
   refine Da (a0r ax ay aj c1a az ak aA aB aC n1b aG aF au aH) 0 4 rfl HS.b0 rfl rfl aYq aYo ?_
   refine Da (a0p jw iV jo jc iZ jk jf) 1 1 rfl HS.b0 rfl rfl aYp aYn ?_
   refine Da (a0p nZ nO nT nR yz yD yC) 2 0 rfl HS.b0 rfl rfl aYp aYn ?_
   refine J1 3 (by kernel_rfl) ?_
   refine ai.buildSlice (ps:=[(0,(a0p jw iV jo jc iZ jk jf)),(1,(a0p nZ nO nT nR yz yD yC))]) (vs:=(a0s jw iV jo jc iZ jk jf nZ nO nT nR yz yD yC)) HS rfl rfl (fun a ha=>by simp only [List.map_cons,List.map_nil,ha.ev (x := .tmp 31) (v:=(a0p jw iV jo jc iZ jk jf)) rfl,ha.ev (x := .tmp 32) (v:=(a0p nZ nO nT nR yz yD yC)) rfl]) aYC aYn aYs rfl rfl (by kernel_rfl) rfl rfl (fun aNq ae4 HS => ?_) ai.nil
   refine ⟨HS.b1,?_⟩
   refine bJ 4 rfl rfl rfl aZi (aei HT HB HS (HS.at_ 3 rfl) (HS.at_ 0 rfl) (by omega)) (fun aTm aVG atW => ?_)
   obtain ⟨aRC,aHE,aPZ,aKv,aI5,aOA,aL0,aRD,aHF,aP0,aKw,aI6,aOB,aL1,rfl,HS⟩:=atW
   refine ⟨HS.b1,?_⟩
   refine bJ 5 rfl rfl rfl Tryz.call63 (ars HT HB HS (HS.at_ 13 rfl) (HS.at_ 12 rfl) (HS.at_ 0 rfl) (HS.at_ 1 rfl) (by omega)) (fun aTn aVH atX => ?_)
   obtain ⟨arx,aks,ao7,alI,akL,aoE,amc,ary,akt,ao8,alJ,akM,aoF,amd,rfl,HS⟩:=atX
   refine ⟨HS.b1,?_⟩
   refine bF 6 (a0s arx aks ao7 alI akL aoE amc ary akt ao8 alJ akM aoF amd) HS 3 rfl rfl rfl rfl aYo (fun _ HS=>⟨(eX (s:=6) rfl rfl),?_⟩)
   refine Dv (.int .i64 0) 7 rfl (eX (s:=6) rfl rfl) (fun a ha w=>run_assign (ha.ev rfl)) ?_
   refine JR.next (by kernel_rfl) (fun _ _ h=>h) ?_
   refine JC.ret (fun a ha => ?_)
   repeat (first | refine dh ?_ | refine df ?_)
   refine vI (v:=(a0r arx aks ao7 alI akL aoE amc ary akt ao8 alJ akM aoF amd)) (v' := .int .i64 0) ha Tryz.results54 (.agg rfl aYq aYo (HS.box _ (.tail _ (.tail _ (.tail _ (.head _))))) rfl rfl) (.tmp rfl) ⟨_,rfl,?_⟩
   exact ⟨_,_,_,_,_,_,_,_,_,_,_,_,_,_,rfl,HS.tY 6 16 0 1 rfl rfl rfl (fun _ h=>h.as (by rw [amG (oP _ _ _ _) hc,amF (oP _ _ _ _) hc]) (by omega)) rfl (fun _ h=>h.as (by rw [amG (oP _ _ _ _) hc,amF (oP _ _ _ _) hc]) (by omega))⟩
end
end Go.Proofs.YtbihljnjaondcaaGreatDoor
namespace Go.Proofs.YtbihljnjaondcaaGreatDoor
open Go Go.RowKit Lw bZ
section
variable {W0 w:World} {U:List Box} {Ps:List (World→Prop)}
def ak2 (f f':FuncId) (af ah:Rat) (bu bn:Bool) (aI aJ:Rat) (bT bQ:Bool) (l h:Rat) (K:Nat) (er er':Value):Prop := ∀ {W0 w:World} {U:List Box} {Ps:List (World→Prop)} {ax:Bool} {ay:Option Addr} {aj c1a:Nat} {az:Option Addr} {ak aA:Nat} {aB:Bool} {aC:Option Addr} {n1b aG:Nat} {aF:Option Addr} {au aH:Nat} {aP:Bool} {aQ:Option Addr} {aK aS:Nat} {aU:Option Addr} {aN aY:Nat} {aV:Bool} {aW:Option Addr} {aO aX:Nat} {aZ:Option Addr} {aT bf:Nat},Tz W0→Tab W0→St W0 U Ps w→FV (a0p ax ay aj c1a az ak aA) af 8 bu w→FV (a0p aB aC n1b aG aF au aH) ah 8 bn w→FV (a0p aP aQ aK aS aU aN aY) aI 8 bT w→FV (a0p aV aW aO aX aZ aT bf) aJ 8 bQ w→bY Tryz.prog f [(a0r ax ay aj c1a az ak aA aB aC n1b aG aF au aH),(a0r aP aQ aK aS aU aN aY aV aW aO aX aZ aT bf)] w (yY W0 U Ps l h K er)∧bY Tryz.prog f' [(a0r ax ay aj c1a az ak aA aB aC n1b aG aF au aH),(a0r aP aQ aK aS aU aN aY aV aW aO aX aZ aT bf)] w (yY W0 U Ps l h K er')
theorem aAg (af ah:Rat) (bu bn:Bool) (aI aJ:Rat) (bT bQ:Bool) : ∃ (l h:Rat) (er:Value) (code:Int),y9 er code∧ak2 52 54 af ah bu bn aI aJ bT bQ l h 3000 er (.int .i64 code):=by
 by_cases h0:(bV bT bQ aI aJ)≤0∧0≤(bW bT bQ aI aJ)
 ·exact ⟨0,0,_,8,y9.err 8,fun HT HB HS f1a bI fC fD=>⟨DL (asF HT HB HS f1a bI fC fD (by omega) h0),DL (aE3 HT HB HS f1a bI fC fD (by omega) h0)⟩⟩
 ·skip
  exact ⟨_,_,.nilIface,0,y9.nil_,fun HT HB HS f1a bI fC fD=>⟨Jf (ajT HT HB HS f1a bI fC fD (by omega) (by grind)) (by omega),Jf (aE2 HT HB HS f1a bI fC fD (by omega) (by grind)) (by omega)⟩⟩
theorem aAl (af ah:Rat) (bu bn:Bool) (aI aJ:Rat) (bT bQ:Bool) : ∃ (l h:Rat) (er:Value) (code:Int),y9 er code∧ak2 53 55 af ah bu bn aI aJ bT bQ l h 3000 er (.int .i64 code):=by
 by_cases h0:(bW bT bQ aI aJ) < (bV bu bn af ah)∨(bW bu bn af ah) < (bV bT bQ aI aJ)
 ·exact ⟨0,0,_,16,y9.err 16,fun HT HB HS f1a bI fC fD=>⟨DL (asJ HT HB HS f1a bI fC fD (by omega) h0),DL (aE9 HT HB HS f1a bI fC fD (by omega) h0)⟩⟩
 ·skip
  exact ⟨_,_,.nilIface,0,y9.nil_,fun HT HB HS f1a bI fC fD=>⟨Jf (asI HT HB HS f1a bI fC fD (by omega) (by grind) (by grind)) (by omega),Jf (aE8 HT HB HS f1a bI fC fD (by omega) (by grind) (by grind)) (by omega)⟩⟩
end
end Go.Proofs.YtbihljnjaondcaaGreatDoor
namespace Go.Proofs.YtbihljnjaondcaaGreatDoor
open Go Go.RowKit Lw bZ
section
variable {W0 w:World} {U:List Box} {Ps:List (World→Prop)}
variable {ax:Bool} {ay:Option Addr} {aj c1a:Nat} {az:Option Addr} {ak aA:Nat} {aB:Bool} {aC:Option Addr} {n1b aG:Nat} {aF:Option Addr} {au aH:Nat} {aP:Bool} {aQ:Option Addr} {aK aS:Nat} {aU:Option Addr} {aN aY:Nat} {aV:Bool} {aW:Option Addr} {aO aX:Nat} {aZ:Option Addr} {aT bf:Nat}
set_option maxHeartbeats 4000000 in
theorem aAd (HT:Tz W0) (HB:Tab W0) {af:Rat} {bC:Nat} {bu:Bool} {ah:Rat} {bD:Nat} {bn:Bool} {aI:Rat} {bM:Nat} {bT:Bool} {aJ:Rat} {bP:Nat} {bQ:Bool} (HS:St W0 U Ps w) (f1a:FV (a0p ax ay aj c1a az ak aA) af bC bu w) (bI:FV (a0p aB aC n1b aG aF au aH) ah bD bn w) (fC:FV (a0p aP aQ aK aS aU aN aY) aI bM bT w) (fD:FV (a0p aV aW aO aX aZ aT bf) aJ bP bQ w):bY Tryz.prog 6 [(a0r ax ay aj c1a az ak aA aB aC n1b aG aF au aH),(a0r aP aQ aK aS aU aN aY aV aW aO aX aZ aT bf)] w (iP W0 U Ps (.bool true)):=by
 have HS:=HS.add (FV.stable _ _ _ _) f1a
 have HS:=HS.add (FV.stable _ _ _ _) bI
 have HS:=HS.add (FV.stable _ _ _ _) fC
 have HS:=HS.add (FV.stable _ _ _ _) fD
 clear f1a bI fC fD
 refine iL a0b rfl Tryz.ntmps6 rfl ?_
 refine JC.seq ?_
 refine JC.region ?_
 refine JL.box (vs:=(a0s ax ay aj c1a az ak aA aB aC n1b aG aF au aH)) HS rfl rfl rfl rfl (fun g1 w1 HS => ?_)
 refine JL.box (vs:=(a0s aP aQ aK aS aU aN aY aV aW aO aX aZ aT bf)) HS rfl rfl rfl rfl (fun g2 w2 HS => ?_)
 refine Lv (.bool false) (fun a ha=>run_assign (ha.ev rfl)) ?_
 refine jn ?_
 refine JC.seq ?_
 refine JC.seq ?_
 refine JC.region ?_
 refine JL.load (a0r ax ay aj c1a az ak aA aB aC n1b aG aF au aH) HS 1 rfl rfl rfl aYq aYo rfl rfl ?_
 refine JL.load (a0r aP aQ aK aS aU aN aY aV aW aO aX aZ aT bf) HS 0 rfl rfl rfl aYq aYo rfl rfl ?_
 refine JL.buildSlice (ps:=[(0,(a0r ax ay aj c1a az ak aA aB aC n1b aG aF au aH)),(1,(a0r aP aQ aK aS aU aN aY aV aW aO aX aZ aT bf))]) (vs:=[.bool ax,.slice ay aj c1a,.slice az ak aA,.bool aB,.slice aC n1b aG,.slice aF au aH,.bool aP,.slice aQ aK aS,.slice aU aN aY,.bool aV,.slice aW aO aX,.slice aZ aT bf]) HS rfl (fun a ha=>by simp only [List.map_cons,List.map_nil,ha.ev (x := .tmp 13) (v:=(a0r ax ay aj c1a az ak aA aB aC n1b aG aF au aH)) rfl,ha.ev (x := .tmp 14) (v:=(a0r aP aQ aK aS aU aN aY aV aW aO aX aZ aT bf)) rfl]) aY0 aYo aYt rfl rfl (by kernel_rfl) rfl (fun g3 w3 HS => ?_)
 refine JL.call rfl rfl aZh (Ym HT HB HS) (fun v4 w4 HR4 => ?_)
 obtain ⟨rfl,HS⟩:=HR4
 refine Lv (.bool (!(decide (aj≤8∧ak≤8∧n1b≤8∧au≤8∧aK≤8∧aN≤8∧aO≤8∧aT≤8)))) (fun a ha=>sU (ha.ev rfl)) ?_
 cases Ap:((decide (aj≤8∧ak≤8∧n1b≤8∧au≤8∧aK≤8∧aN≤8∧aO≤8∧aT≤8)))
 ·skip
  refine Lv (.bool true) (fun a ha=>run_move (ha.ev rfl)) ?_
  refine Lp ?_
  refine Lp ?_
  refine Lv (.bool true) (fun a ha=>eY (ha.ev rfl) (ha.ev rfl)) ?_
  refine jn ?_
  refine JC.iy rfl ?_
  refine JC.seq ?_
  refine JC.region ?_
  refine JL.call rfl rfl aYO (zh HT HB HS  ) (fun v6 w6 uk => ?_)
  obtain ⟨rfl,HS⟩:=uk
  refine Lv (.bool true) (fun a ha=>run_assign (ha.ev rfl)) ?_
  refine jn ?_
  refine JC.ret (fun a ha => ?_)
  repeat (first | refine dh ?_ | refine df ?_)
  refine fG (v := .bool true) ha Tryz.results6 (.tmp rfl) ⟨_,rfl,?_⟩
  exact ⟨rfl,HS.gy 3 4 rfl rfl⟩
 ·skip
  have hfew:=of_decide_eq_true Ap
  have HS:=HS.pO 3 rfl (fun _ h=>(fJ.cut (K:=8) h (by omega) (by omega):FV _ _ 8 _ _))
  have HS:=HS.pO 3 rfl (fun _ h=>(fJ.cut (K:=8) h (by omega) (by omega):FV _ _ 8 _ _))
  have HS:=HS.pO 3 rfl (fun _ h=>(fJ.cut (K:=8) h (by omega) (by omega):FV _ _ 8 _ _))
  have HS:=HS.pO 3 rfl (fun _ h=>(fJ.cut (K:=8) h (by omega) (by omega):FV _ _ 8 _ _))
  obtain ⟨ld,hd,ed,cd,hd1,wd⟩:=aAg af ah bu bn aI aJ bT bQ
  obtain ⟨lm,hm,em,cm,hm1,wm⟩:=aAl af ah bu bn aI aJ bT bQ
  refine Lv (.bool false) (fun a ha=>run_move (ha.ev rfl)) ?_
  refine JL.cZ rfl rfl rfl rfl rfl rfl aYO (zh HT HB HS  ) (fun v7 w7 wM => ?_)
  obtain ⟨rfl,HS⟩:=wM
  refine Lg (.bool false) (fun a ha=>sU (b:=true) (ha.ev rfl)) ?_
  refine Lv (.bool false) (fun a ha=>gB (ha.ev rfl) (ha.ev rfl)) ?_
  refine jn ?_
  refine JC.jA rfl ?_
  refine JC.jF (fun _ _ h=>h) ?_
  refine JC.seq ?_
  refine JC.region ?_
  refine JL.load (a0r ax ay aj c1a az ak aA aB aC n1b aG aF au aH) HS 2 rfl rfl rfl aYq aYo rfl rfl ?_
  refine JL.load (a0r aP aQ aK aS aU aN aY aV aW aO aX aZ aT bf) HS 1 rfl rfl rfl aYq aYo rfl rfl ?_
  refine JL.call rfl rfl aYX ((wd HT HB HS (HS.at_ 3 rfl) (HS.at_ 2 rfl) (HS.at_ 1 rfl) (HS.at_ 0 rfl)).1) (fun v8 w8 CJ => ?_)
  obtain ⟨OX,MB,Ox,Nz,MQ,Oi,NI,OY,MC,Oy,NC,MR,Oj,NJ,rfl,HS⟩:=CJ
  refine Lv (.tuple #[(a0r OX MB Ox Nz MQ Oi NI OY MC Oy NC MR Oj NJ),ed]) (fun a ha=>run_move (ha.ev rfl)) ?_
  refine Lv (a0r OX MB Ox Nz MQ Oi NI OY MC Oy NC MR Oj NJ) (fun a ha=>bK (ha.ev rfl) rfl) ?_
  refine Lv (ed) (fun a ha=>bK (ha.ev rfl) rfl) ?_
  refine JL.alloc (vs:=cO) HS rfl aYt rfl rfl (fun g9 w9 HS => ?_)
  refine JL.store HS rfl rfl (i:=0) rfl aYo rfl rfl rfl (vs':=(a0s OX MB Ox Nz MQ Oi NI OY MC Oy NC MR Oj NJ)) rfl rfl (fun w10 HS => ?_)
  refine Lv (ed) (fun a ha=>run_assign (ha.ev rfl)) ?_
  refine jn ?_
  refine JC.seq ?_
  refine JC.region ?_
  refine JL.load (a0r ax ay aj c1a az ak aA aB aC n1b aG aF au aH) HS 3 rfl rfl rfl aYq aYo rfl rfl ?_
  refine JL.load (a0r aP aQ aK aS aU aN aY aV aW aO aX aZ aT bf) HS 2 rfl rfl rfl aYq aYo rfl rfl ?_
  refine JL.call rfl rfl Tryz.call53 ((wm HT HB HS (HS.at_ 5 rfl) (HS.at_ 4 rfl) (HS.at_ 3 rfl) (HS.at_ 2 rfl)).1) (fun v11 Dp DV => ?_)
  obtain ⟨OI,LV,Oo,Nq,MF,Ob,ND,OJ,LW,Oq,Nr,MG,Oc,NE,rfl,HS⟩:=DV
  refine Lv (.tuple #[(a0r OI LV Oo Nq MF Ob ND OJ LW Oq Nr MG Oc NE),em]) (fun a ha=>run_move (ha.ev rfl)) ?_
  refine Lv (a0r OI LV Oo Nq MF Ob ND OJ LW Oq Nr MG Oc NE) (fun a ha=>bK (ha.ev rfl) rfl) ?_
  refine Lv (em) (fun a ha=>bK (ha.ev rfl) rfl) ?_
  refine JL.alloc (vs:=cO) HS rfl aYt rfl rfl (fun g12 w12 HS => ?_)
  refine JL.store HS rfl rfl (i:=0) rfl aYo rfl rfl rfl (vs':=(a0s OI LV Oo Nq MF Ob ND OJ LW Oq Nr MG Oc NE)) rfl rfl (fun Gl HS => ?_)
  refine Lv (em) (fun a ha=>run_assign (ha.ev rfl)) ?_
  refine jn ?_
  refine JC.seq ?_
  refine JC.region ?_
  refine JL.load (a0r ax ay aj c1a az ak aA aB aC n1b aG aF au aH) HS 4 rfl rfl rfl aYq aYo rfl rfl ?_
  refine JL.load (a0r aP aQ aK aS aU aN aY aV aW aO aX aZ aT bf) HS 3 rfl rfl rfl aYq aYo rfl rfl ?_
  refine JL.call rfl rfl Tryz.call54 ((wd HT HB HS (HS.at_ 7 rfl) (HS.at_ 6 rfl) (HS.at_ 5 rfl) (HS.at_ 4 rfl)).2) (fun v14 JX Io => ?_)
  obtain ⟨aeq,aal,adA,abp,aaN,ac9,abR,aer,aam,adB,abq,aaO,ada,abT,rfl,HS⟩:=Io
  refine Lv (.tuple #[(a0r aeq aal adA abp aaN ac9 abR aer aam adB abq aaO ada abT),.int .i64 cd]) (fun a ha=>run_move (ha.ev rfl)) ?_
  refine Lv (a0r aeq aal adA abp aaN ac9 abR aer aam adB abq aaO ada abT) (fun a ha=>bK (ha.ev rfl) rfl) ?_
  refine Lv (.int .i64 cd) (fun a ha=>bK (ha.ev rfl) rfl) ?_
  refine JL.alloc (vs:=cO) HS rfl aYt rfl rfl (fun g15 J4 HS => ?_)
  refine JL.store HS rfl rfl (i:=0) rfl aYo rfl rfl rfl (vs':=(a0s aeq aal adA abp aaN ac9 abR aer aam adB abq aaO ada abT)) rfl rfl (fun w16 HS => ?_)
  refine Lv (.int .i64 cd) (fun a ha=>run_assign (ha.ev rfl)) ?_
  refine jn ?_
  refine JC.seq ?_
  refine JC.region ?_
  refine JL.load (a0r ax ay aj c1a az ak aA aB aC n1b aG aF au aH) HS 5 rfl rfl rfl aYq aYo rfl rfl ?_
  refine JL.load (a0r aP aQ aK aS aU aN aY aV aW aO aX aZ aT bf) HS 4 rfl rfl rfl aYq aYo rfl rfl ?_
  refine JL.call rfl rfl Tryz.call55 ((wm HT HB HS (HS.at_ 9 rfl) (HS.at_ 8 rfl) (HS.at_ 7 rfl) (HS.at_ 6 rfl)).2) (fun v17 LH WZ => ?_)
  obtain ⟨Zt,VT,YQ,Xo,Ws,Yx,XJ,Zu,VU,YR,Xp,Wu,Yy,XK,rfl,HS⟩:=WZ
  refine Lv (.tuple #[(a0r Zt VT YQ Xo Ws Yx XJ Zu VU YR Xp Wu Yy XK),.int .i64 cm]) (fun a ha=>run_move (ha.ev rfl)) ?_
  refine Lv (a0r Zt VT YQ Xo Ws Yx XJ Zu VU YR Xp Wu Yy XK) (fun a ha=>bK (ha.ev rfl) rfl) ?_
  refine Lv (.int .i64 cm) (fun a ha=>bK (ha.ev rfl) rfl) ?_
  refine JL.alloc (vs:=cO) HS rfl aYt rfl rfl (fun g18 QA HS => ?_)
  refine JL.store HS rfl rfl (i:=0) rfl aYo rfl rfl rfl (vs':=(a0s Zt VT YQ Xo Ws Yx XJ Zu VU YR Xp Wu Yy XK)) rfl rfl (fun O6 HS => ?_)
  refine Lv (.int .i64 cm) (fun a ha=>run_assign (ha.ev rfl)) ?_
  refine jn ?_
  refine JC.seq ?_
  refine JC.draw HS [] (by kernel_rfl) (fun O7 HS => ?_)
  refine Da (a0r ax ay aj c1a az ak aA aB aC n1b aG aF au aH) 0 6 rfl HS.b0 rfl rfl aYq aYo ?_
  refine Da (a0r ax ay aj c1a az ak aA aB aC n1b aG aF au aH) 2 6 rfl HS.b0 rfl rfl aYq aYo ?_
  refine bJ 1 rfl rfl rfl Tryz.call56 (asN HT HB HS (HS.at_ 11 rfl) (HS.at_ 10 rfl) (by omega)) (fun aT1 aWi auF => ?_)
  obtain ⟨aR9,aH5,aQp,aKW,aJu,aO0,aMr,aSa,aH6,aQr,aKX,aJv,aO1,aMs,rfl,HS⟩:=auF
  refine ⟨HS.b0,?_⟩
  refine bJ 3 rfl rfl rfl Tryz.call57 (aru HT HB HS (HS.at_ 13 rfl) (HS.at_ 12 rfl) (by omega)) (fun aT6 aWj auG => ?_)
  obtain ⟨aSb,aH7,aQs,aKY,aJw,aO2,aMu,aSc,aH8,aQt,aKZ,aJx,aO3,aMv,rfl,HS⟩:=auG
  refine ⟨HS.b0,?_⟩
  refine bJ 4 rfl rfl rfl aY2 (JM HT HB HS (HS.at_ 2 rfl) (HS.at_ 3 rfl) (HS.at_ 0 rfl) (HS.at_ 1 rfl) (by omega) rfl rfl) (fun aT7 aWk auH => ?_)
  obtain ⟨rfl,HS⟩:=auH
  refine ⟨HS.b0,?_⟩
  refine Dv (.bool true) 5 rfl HS.b0 (fun a ha w=>run_move (ha.ev rfl)) ?_
  refine fM (a0r ax ay aj c1a az ak aA aB aC n1b aG aF au aH) 6 6 (by kernel_rfl) rfl (fun _ _ _ h=>h) rfl rfl rfl rfl rfl HS.b0 rfl rfl aYq aYo rfl rfl ?_
  refine fM (a0r aP aQ aK aS aU aN aY aV aW aO aX aZ aT bf) 7 5 (by kernel_rfl) rfl (fun _ _ _ h=>h) rfl rfl rfl rfl rfl HS.b0 rfl rfl aYq aYo rfl rfl ?_
  refine fM (a0r ax ay aj c1a az ak aA aB aC n1b aG aF au aH) 9 6 (by kernel_rfl) rfl (fun _ _ _ h=>h) rfl rfl rfl rfl rfl HS.b0 rfl rfl aYq aYo rfl rfl ?_
  refine fM (a0r aP aQ aK aS aU aN aY aV aW aO aX aZ aT bf) 10 5 (by kernel_rfl) rfl (fun _ _ _ h=>h) rfl rfl rfl rfl rfl HS.b0 rfl rfl aYq aYo rfl rfl ?_
  refine J1 8 (by kernel_rfl) ?_
  refine ai.cZ rfl rfl rfl rfl rfl rfl rfl aY8 (asA HT HB HS (HS.at_ 15 rfl) (HS.at_ 14 rfl) (HS.at_ 13 rfl) (HS.at_ 12 rfl) (by omega)) rfl (fun aUa aWl auI => ?_) ai.nil
  obtain ⟨aSe,aH9,aQu,aK1,aJy,aO4,aMw,aSf,aH',aQv,aK2,aJz,aO5,aMx,rfl,HS⟩:=auI
  refine ⟨HS.b0,?_⟩
  refine J1 11 (by kernel_rfl) ?_
  refine ai.cZ rfl rfl rfl rfl rfl rfl rfl Tryz.call59 (arp HT HB HS (HS.at_ 17 rfl) (HS.at_ 16 rfl) (HS.at_ 15 rfl) (HS.at_ 14 rfl) (by omega)) rfl (fun aUb aWm auJ => ?_) ai.nil
  obtain ⟨aSg,aIa,aQw,aK3,aJA,aO6,aMy,aSh,aIb,aQx,aK4,aJB,aO7,aMz,rfl,HS⟩:=auJ
  refine ⟨HS.b0,?_⟩
  refine J1 12 (by kernel_rfl) ?_
  refine ai.cZ rfl rfl rfl rfl rfl rfl rfl aY2 (JM HT HB HS (HS.at_ 2 rfl) (HS.at_ 3 rfl) (HS.at_ 0 rfl) (HS.at_ 1 rfl) (by omega) rfl rfl) rfl (fun aUc aWn auK => ?_) ai.nil
  obtain ⟨rfl,HS⟩:=auK
  refine ⟨HS.b0,?_⟩
  refine Dv (.bool true) 13 rfl HS.b0 (fun a ha w=>eY (ha.ev rfl) (ha.ev rfl)) ?_
  refine Dv (.bool true) 14 rfl HS.b0 (fun a ha w=>run_move (ha.ev rfl)) ?_
  refine fM (a0r ax ay aj c1a az ak aA aB aC n1b aG aF au aH) 15 6 (by kernel_rfl) rfl (fun _ _ _ h=>h) rfl rfl rfl rfl rfl HS.b0 rfl rfl aYq aYo rfl rfl ?_
  refine fM (a0r aP aQ aK aS aU aN aY aV aW aO aX aZ aT bf) 16 5 (by kernel_rfl) rfl (fun _ _ _ h=>h) rfl rfl rfl rfl rfl HS.b0 rfl rfl aYq aYo rfl rfl ?_
  refine fM (a0r ax ay aj c1a az ak aA aB aC n1b aG aF au aH) 18 6 (by kernel_rfl) rfl (fun _ _ _ h=>h) rfl rfl rfl rfl rfl HS.b0 rfl rfl aYq aYo rfl rfl ?_
  refine fM (a0r aP aQ aK aS aU aN aY aV aW aO aX aZ aT bf) 19 5 (by kernel_rfl) rfl (fun _ _ _ h=>h) rfl rfl rfl rfl rfl HS.b0 rfl rfl aYq aYo rfl rfl ?_
  refine J1 17 (by kernel_rfl) ?_
  refine ai.cZ rfl rfl rfl rfl rfl rfl rfl a0c (asW HT HB HS (HS.at_ 19 rfl) (HS.at_ 18 rfl) (HS.at_ 17 rfl) (HS.at_ 16 rfl) (by omega)) rfl (fun aUd aWo auL => ?_) ai.nil
  obtain ⟨aSi,aIc,n21017a,aK5,aJC,aO8,aMA,aSj,aId,aQy,aK6,aJD,aO9,aMB,rfl,HS⟩:=auL
  refine ⟨HS.b0,?_⟩
  refine J1 20 (by kernel_rfl) ?_
  refine ai.cZ rfl rfl rfl rfl rfl rfl rfl Tryz.call61 (aFh HT HB HS (HS.at_ 21 rfl) (HS.at_ 20 rfl) (HS.at_ 19 rfl) (HS.at_ 18 rfl) (by omega)) rfl (fun aUe aWp auM => ?_) ai.nil
  obtain ⟨aSl,aIe,aQz,aK7,aJE,aPa,aMC,aSn,aIf,aQA,aK8,aJF,aPb,aMD,rfl,HS⟩:=auM
  refine ⟨HS.b0,?_⟩
  refine J1 21 (by kernel_rfl) ?_
  refine ai.cZ rfl rfl rfl rfl rfl rfl rfl aY2 (JM HT HB HS (HS.at_ 2 rfl) (HS.at_ 3 rfl) (HS.at_ 0 rfl) (HS.at_ 1 rfl) (by omega) rfl rfl) rfl (fun aUf aWq auN => ?_) ai.nil
  obtain ⟨rfl,HS⟩:=auN
  refine ⟨HS.b0,?_⟩
  refine Dv (.bool true) 22 rfl HS.b0 (fun a ha w=>eY (ha.ev rfl) (ha.ev rfl)) ?_
  refine Dv (.bool true) 23 rfl HS.b0 (fun a ha w=>run_move (ha.ev rfl)) ?_
  refine fM (a0r ax ay aj c1a az ak aA aB aC n1b aG aF au aH) 24 6 (by kernel_rfl) rfl (fun _ _ _ h=>h) rfl rfl rfl rfl rfl HS.b0 rfl rfl aYq aYo rfl rfl ?_
  refine fM (a0r aP aQ aK aS aU aN aY aV aW aO aX aZ aT bf) 25 5 (by kernel_rfl) rfl (fun _ _ _ h=>h) rfl rfl rfl rfl rfl HS.b0 rfl rfl aYq aYo rfl rfl ?_
  refine fM (a0r ax ay aj c1a az ak aA aB aC n1b aG aF au aH) 27 6 (by kernel_rfl) rfl (fun _ _ _ h=>h) rfl rfl rfl rfl rfl HS.b0 rfl rfl aYq aYo rfl rfl ?_
  refine fM (a0r aP aQ aK aS aU aN aY aV aW aO aX aZ aT bf) 28 5 (by kernel_rfl) rfl (fun _ _ _ h=>h) rfl rfl rfl rfl rfl HS.b0 rfl rfl aYq aYo rfl rfl ?_
  refine J1 26 (by kernel_rfl) ?_
  refine ai.cZ rfl rfl rfl rfl rfl rfl rfl aYT (ajV HT HB HS (HS.at_ 23 rfl) (HS.at_ 22 rfl) (HS.at_ 21 rfl) (HS.at_ 20 rfl) (by omega)) rfl (fun aUg aWr auO => ?_) ai.nil
  obtain ⟨aSo,aIh,aQB,aK9,aJG,aPc,aME,aSq,aIi,aQC,aK',aJH,aPd,aMF,rfl,HS⟩:=auO
  refine ⟨HS.b0,?_⟩
  refine J1 29 (by kernel_rfl) ?_
  refine ai.cZ rfl rfl rfl rfl rfl rfl rfl Tryz.call63 (ars HT HB HS (HS.at_ 25 rfl) (HS.at_ 24 rfl) (HS.at_ 23 rfl) (HS.at_ 22 rfl) (by omega)) rfl (fun aUh aWs auP => ?_) ai.nil
  obtain ⟨aSr,aIj,aQD,aLa,aJI,aPe,aMG,aSt,aIk,aQE,aLb,aJJ,aPf,aMH,rfl,HS⟩:=auP
  refine ⟨HS.b0,?_⟩
  refine J1 30 (by kernel_rfl) ?_
  refine ai.cZ rfl rfl rfl rfl rfl rfl rfl aY2 (JM HT HB HS (HS.at_ 2 rfl) (HS.at_ 3 rfl) (HS.at_ 0 rfl) (HS.at_ 1 rfl) (by omega) rfl rfl) rfl (fun aUi aWt auQ => ?_) ai.nil
  obtain ⟨rfl,HS⟩:=auQ
  refine ⟨HS.b0,?_⟩
  refine Dv (.bool true) 31 rfl HS.b0 (fun a ha w=>eY (ha.ev rfl) (ha.ev rfl)) ?_
  refine Dv (.bool true) 32 rfl HS.b0 (fun a ha w=>run_move (ha.ev rfl)) ?_
  refine Dg (ed) 33 rfl HS.b0 (fun a ha w=>run_move (ha.ev rfl)) ?_
  refine Dg (.int .i64 cd) 35 rfl HS.b0 (fun a ha w=>run_move (ha.ev rfl)) ?_
  refine J1 34 (by kernel_rfl) ?_
  refine ai.cZ rfl rfl rfl rfl rfl rfl rfl aZt (hd1 _ _ _ _ HS) rfl (fun aUj aWu auR => ?_) ai.nil
  obtain ⟨rfl,HS⟩:=auR
  refine ⟨HS.b0,?_⟩
  refine Dg (.bool true) 36 rfl HS.b0 (fun a ha w=>rC (ha.ev rfl) (ha.ev rfl) (by simp)) ?_
  refine Dv (.bool true) 37 rfl HS.b0 (fun a ha w=>eY (ha.ev rfl) (ha.ev rfl)) ?_
  refine Dv (.bool true) 38 rfl HS.b0 (fun a ha w=>run_move (ha.ev rfl)) ?_
  refine fM (a0r OX MB Ox Nz MQ Oi NI OY MC Oy NC MR Oj NJ) 39 3 (by kernel_rfl) rfl (fun _ _ _ h=>h) rfl rfl rfl rfl rfl HS.b0 rfl rfl aYq aYo rfl rfl ?_
  refine fM (a0r aeq aal adA abp aaN ac9 abR aer aam adB abq aaO ada abT) 40 1 (by kernel_rfl) rfl (fun _ _ _ h=>h) rfl rfl rfl rfl rfl HS.b0 rfl rfl aYq aYo rfl rfl ?_
  refine J1 41 (by kernel_rfl) ?_
  refine ai.cZ rfl rfl rfl rfl rfl rfl rfl aY2 (JM HT HB HS (HS.at_ 22 rfl) (HS.at_ 23 rfl) (HS.at_ 18 rfl) (HS.at_ 19 rfl) (by omega) rfl rfl) rfl (fun aUk aWv auS => ?_) ai.nil
  obtain ⟨rfl,HS⟩:=auS
  refine ⟨HS.b0,?_⟩
  refine Dv (.bool true) 42 rfl HS.b0 (fun a ha w=>eY (ha.ev rfl) (ha.ev rfl)) ?_
  refine Dv (.bool true) 43 rfl HS.b0 (fun a ha w=>run_move (ha.ev rfl)) ?_
  refine fM (a0r ax ay aj c1a az ak aA aB aC n1b aG aF au aH) 44 6 (by kernel_rfl) rfl (fun _ _ _ h=>h) rfl rfl rfl rfl rfl HS.b0 rfl rfl aYq aYo rfl rfl ?_
  refine fM (a0r aP aQ aK aS aU aN aY aV aW aO aX aZ aT bf) 45 5 (by kernel_rfl) rfl (fun _ _ _ h=>h) rfl rfl rfl rfl rfl HS.b0 rfl rfl aYq aYo rfl rfl ?_
  refine fM (a0r ax ay aj c1a az ak aA aB aC n1b aG aF au aH) 47 6 (by kernel_rfl) rfl (fun _ _ _ h=>h) rfl rfl rfl rfl rfl HS.b0 rfl rfl aYq aYo rfl rfl ?_
  refine fM (a0r aP aQ aK aS aU aN aY aV aW aO aX aZ aT bf) 48 5 (by kernel_rfl) rfl (fun _ _ _ h=>h) rfl rfl rfl rfl rfl HS.b0 rfl rfl aYq aYo rfl rfl ?_
  refine J1 46 (by kernel_rfl) ?_
  refine ai.cZ rfl rfl rfl rfl rfl rfl rfl a0d (asG HT HB HS (HS.at_ 27 rfl) (HS.at_ 26 rfl) (HS.at_ 25 rfl) (HS.at_ 24 rfl) (by omega)) rfl (fun aUl aWw auT => ?_) ai.nil
  obtain ⟨aSu,aIl,aQF,aLc,aJK,aPg,aMI,aSv,aIm,aQG,aLd,aJL,aPh,aMJ,rfl,HS⟩:=auT
  refine ⟨HS.b0,?_⟩
  refine J1 49 (by kernel_rfl) ?_
  refine ai.cZ rfl rfl rfl rfl rfl rfl rfl Tryz.call65 (aE4 HT HB HS (HS.at_ 29 rfl) (HS.at_ 28 rfl) (HS.at_ 27 rfl) (HS.at_ 26 rfl) (by omega)) rfl (fun aUm aWx auU => ?_) ai.nil
  obtain ⟨aSw,aIn,aQH,aLe,aJM,aPj,aMK,aSx,aIo,aQI,aLf,aJN,aPk,aML,rfl,HS⟩:=auU
  refine ⟨HS.b0,?_⟩
  refine J1 50 (by kernel_rfl) ?_
  refine ai.cZ rfl rfl rfl rfl rfl rfl rfl aY2 (JM HT HB HS (HS.at_ 2 rfl) (HS.at_ 3 rfl) (HS.at_ 0 rfl) (HS.at_ 1 rfl) (by omega) rfl rfl) rfl (fun aUn aWy auV => ?_) ai.nil
  obtain ⟨rfl,HS⟩:=auV
  refine ⟨HS.b0,?_⟩
  refine Dv (.bool true) 51 rfl HS.b0 (fun a ha w=>eY (ha.ev rfl) (ha.ev rfl)) ?_
  refine Dv (.bool true) 52 rfl HS.b0 (fun a ha w=>run_move (ha.ev rfl)) ?_
  refine Dg (em) 53 rfl HS.b0 (fun a ha w=>run_move (ha.ev rfl)) ?_
  refine Dg (.int .i64 cm) 55 rfl HS.b0 (fun a ha w=>run_move (ha.ev rfl)) ?_
  refine J1 54 (by kernel_rfl) ?_
  refine ai.cZ rfl rfl rfl rfl rfl rfl rfl aZt (hm1 _ _ _ _ HS) rfl (fun aUo aWz auW => ?_) ai.nil
  obtain ⟨rfl,HS⟩:=auW
  refine ⟨HS.b0,?_⟩
  refine Dg (.bool true) 56 rfl HS.b0 (fun a ha w=>rC (ha.ev rfl) (ha.ev rfl) (by simp)) ?_
  refine Dv (.bool true) 57 rfl HS.b0 (fun a ha w=>eY (ha.ev rfl) (ha.ev rfl)) ?_
  refine Dv (.bool true) 58 rfl HS.b0 (fun a ha w=>run_move (ha.ev rfl)) ?_
  refine fM (a0r OI LV Oo Nq MF Ob ND OJ LW Oq Nr MG Oc NE) 59 2 (by kernel_rfl) rfl (fun _ _ _ h=>h) rfl rfl rfl rfl rfl HS.b0 rfl rfl aYq aYo rfl rfl ?_
  refine fM (a0r Zt VT YQ Xo Ws Yx XJ Zu VU YR Xp Wu Yy XK) 60 0 (by kernel_rfl) rfl (fun _ _ _ h=>h) rfl rfl rfl rfl rfl HS.b0 rfl rfl aYq aYo rfl rfl ?_
  refine J1 61 (by kernel_rfl) ?_
  refine ai.cZ rfl rfl rfl rfl rfl rfl rfl aY2 (JM HT HB HS (HS.at_ 24 rfl) (HS.at_ 25 rfl) (HS.at_ 20 rfl) (HS.at_ 21 rfl) (by omega) rfl rfl) rfl (fun aUp aWC auY => ?_) ai.nil
  obtain ⟨rfl,HS⟩:=auY
  refine ⟨HS.b0,?_⟩
  refine Dv (.bool true) 62 rfl HS.b0 (fun a ha w=>eY (ha.ev rfl) (ha.ev rfl)) ?_
  refine Dv (.bool true) 63 rfl HS.b0 (fun a ha w=>run_assign (ha.ev rfl)) ?_
  refine JR.next (by kernel_rfl) (fun _ _ h=>h) ?_
  refine JC.ret (fun a ha => ?_)
  repeat (first | refine dh ?_ | refine df ?_)
  refine fG (v := .bool true) ha Tryz.results6 (.tmp rfl) ⟨_,rfl,?_⟩
  exact ⟨rfl,HS.gy 7 36 rfl rfl⟩
theorem aAc  {ax:Bool} {ay:Option Addr} {aj c1a:Nat} {az:Option Addr} {ak aA:Nat} {af:Rat} {bC:Nat} {bu:Bool} {aB:Bool} {aC:Option Addr} {n1b aG:Nat} {aF:Option Addr} {au aH:Nat} {ah:Rat} {bD:Nat} {bn:Bool} {aP:Bool} {aQ:Option Addr} {aK aS:Nat} {aU:Option Addr} {aN aY:Nat} {aI:Rat} {bM:Nat} {bT:Bool} {aV:Bool} {aW:Option Addr} {aO aX:Nat} {aZ:Option Addr} {aT bf:Nat} {aJ:Rat} {bP:Nat} {bQ:Bool} (W:World) (ht:Tz W) (hb:Tab W) (_hx:Mx W) (f1a:fJ W ⟨(a0p ax ay aj c1a az ak aA),af,bC,bu⟩) (bI:fJ W ⟨(a0p aB aC n1b aG aF au aH),ah,bD,bn⟩) (fC:fJ W ⟨(a0p aP aQ aK aS aU aN aY),aI,bM,bT⟩) (fD:fJ W ⟨(a0p aV aW aO aX aZ aT bf),aJ,bP,bQ⟩)  :
  Calls Tryz.prog 6 #[(a0r ax ay aj c1a az ak aA aB aC n1b aG aF au aH),(a0r aP aQ aK aS aU aN aY aV aW aO aX aZ aT bf)] W fun e w'=>e = .returned (.bool true)∧Below W.heap.size W w':=law_true (aAd ht hb (St.init W) f1a bI fC fD)
end
end Go.Proofs.YtbihljnjaondcaaGreatDoor
