/- Part of a proof, said shortly. -/
import Derived.Test.YtbihljnjaondcaaGreatDoorAlz
import Derived.Test.YtbihljnjaondcaaGreatDoorC21
import Derived.Test.YtbihljnjaondcaaGreatDoorS2
import Derived.Test.YtbihljnjaondcaaGreatDoorC20
import Derived.Test.YtbihljnjaondcaaGreatDoorS7
import Derived.Test.YtbihljnjaondcaaGreatDoorS5
import Derived.Test.YtbihljnjaondcaaGreatDoorS6
import Derived.Test.YtbihljnjaondcaaGreatDoorS11
import Derived.Test.YtbihljnjaondcaaGreatDoorC15
import Derived.Test.YtbihljnjaondcaaGreatDoorS1
import Derived.Test.YtbihljnjaondcaaGreatDoorC16
import Derived.Test.YtbihljnjaondcaaGreatDoorC14
import Derived.Test.YtbihljnjaondcaaGreatDoorC13
import Derived.Test.YtbihljnjaondcaaGreatDoorC12
import Derived.Test.YtbihljnjaondcaaGreatDoorC11
import Derived.Test.YtbihljnjaondcaaGreatDoorC10
import Derived.Test.YtbihljnjaondcaaGreatDoorC6
import Derived.Test.YtbihljnjaondcaaGreatDoorC2
import Derived.Test.YtbihljnjaondcaaGreatDoorC1
import Derived.Test.YtbihljnjaondcaaGreatDoorC5
import Derived.Test.YtbihljnjaondcaaGreatDoorC4
import Derived.Test.YtbihljnjaondcaaGreatDoorC3
import Derived.Test.YtbihljnjaondcaaGreatDoorC9
import Derived.Test.YtbihljnjaondcaaGreatDoorC8
import Derived.Test.YtbihljnjaondcaaGreatDoorC7
import Derived.Test.YtbihljnjaondcaaGreatDoorC19
import Derived.Test.YtbihljnjaondcaaGreatDoorC18
import Derived.Test.YtbihljnjaondcaaGreatDoorC17
import Derived.Test.YtbihljnjaondcaaGreatDoorC22
import Derived.Test.YtbihljnjaondcaaGreatDoorS8
import Derived.Test.YtbihljnjaondcaaGreatDoorS17
set_option maxRecDepth 100000
open Go.Proofs.YtbihljnjaondcaaGreatDoor (a0p a0q a0r a0s yw bU fO cO PS iy1 PT FX iy4 iy5 iy6 Yo iy8 iy9 aAJ)
set_option linter.unusedVariables false
set_option linter.unusedSimpArgs false
namespace Lw
open Go Go.RowKit bZ
theorem aoX {a b c d:Rat} (h1:a≤b) (h2:c≤d) (h3:a≤d) (h4:c≤b):¬ gY b d < gX a c:=by
 rcases YN b d with e | e <;> rcases YM a c with e' | e' <;> rw [e,e'] <;> grind
end Lw
namespace Go.Proofs.YtbihljnjaondcaaGreatDoor
open Go Go.RowKit Lw bZ
section
variable {W0 w:World} {U:List Box} {Ps:List (World→Prop)}
variable {ax:Bool} {ay:Option Addr} {aj c1a:Nat} {az:Option Addr} {ak aA:Nat} {aB:Bool} {aC:Option Addr} {n1b aG:Nat} {aF:Option Addr} {au aH:Nat} {aP:Bool} {aQ:Option Addr} {aK aS:Nat} {aU:Option Addr} {aN aY:Nat} {aV:Bool} {aW:Option Addr} {aO aX:Nat} {aZ:Option Addr} {aT bf:Nat}
set_option maxHeartbeats 400000 in
theorem asN (HT:Tz W0) (HB:Tab W0) {af:Rat} {bC:Nat} {bu:Bool} {ah:Rat} {bD:Nat} {bn:Bool} (HS:St W0 U Ps w) (f1a:FV (a0p ax ay aj c1a az ak aA) af bC bu w) (bI:FV (a0p aB aC n1b aG aF au aH) ah bD bn w) (hk:bC+bD≤900):bY Tryz.prog 56 [(a0r ax ay aj c1a az ak aA aB aC n1b aG aF au aH)] w (xG W0 U Ps (-(bW bu bn af ah)) (-(bV bu bn af ah)) (bC+bD)):=by
 have HS:=HS.add (FV.stable _ _ _ _) f1a
 have HS:=HS.add (FV.stable _ _ _ _) bI
 clear f1a bI
 refine iL Tryz.func56 rfl Tryz.ntmps56 rfl ?_
 refine JC.seq ?_
 refine JC.region ?_
 refine JL.box (vs:=(a0s ax ay aj c1a az ak aA aB aC n1b aG aF au aH)) HS rfl rfl rfl rfl (fun g1 w1 HS => ?_)
 refine JL.alloc (vs:=cO) HS rfl aYt rfl rfl (fun g2 w2 HS => ?_)
 refine jn ?_
 refine JC.seq ?_
 refine JC.region ?_
 refine JL.load (a0r ax ay aj c1a az ak aA aB aC n1b aG aF au aH) HS 1 rfl rfl rfl aYq aYo rfl rfl ?_
 refine JL.call rfl rfl aYz (sO HT HB HS (HS.at_ 1 rfl) (HS.at_ 0 rfl) (by omega)) (fun v3 w3 HR3 => ?_)
 obtain ⟨jS,jZ,kK,kD,kz,kH,kF,l7,lK,lY,lS,lN,lW,lU,rfl,HS⟩:=HR3
 refine JL.store HS rfl rfl (i:=1) rfl aYo rfl rfl rfl (vs':=(a0s jS jZ kK kD kz kH kF l7 lK lY lS lN lW lU)) rfl rfl (fun w4 HS => ?_)
 refine jn ?_
 refine JC.seq ?_
 refine JC.draw HS [7] (by kernel_rfl) (fun w5 HS => ?_)
 refine Dv (.pointer (some ⟨g1,3,none⟩)) 0 rfl HS.b0 (fun a ha w=>bH (ha.ev rfl) aYr rfl aYn rfl rfl) ?_
 refine Da (a0p l7 lK lY lS lN lW lU) 1 1 rfl HS.b0 rfl rfl aYp aYn ?_
 refine Dv (.pointer (some ⟨g1,0,none⟩)) 3 rfl HS.b0 (fun a ha w=>bH (ha.ev rfl) aYr rfl aYn rfl rfl) ?_
 refine Da (a0p jS jZ kK kD kz kH kF) 4 1 rfl HS.b0 rfl rfl aYp aYn ?_
 refine bJ 2 rfl rfl rfl aZH (X5 HT HB HS (HS.at_ 1 rfl) (by omega)) (fun aGy aHa agt => ?_)
 obtain ⟨OU,Mc,Ot,Nv,MN,Oe,NF,rfl,HS⟩:=agt
 refine ⟨HS.b0,?_⟩
 refine bJ 5 rfl rfl rfl aZH (X5 HT HB HS (HS.at_ 1 rfl) (by omega)) (fun aGz aHb agu => ?_)
 obtain ⟨OV,Md,Ou,Nw,MO,Og,NG,rfl,HS⟩:=agu
 refine ⟨HS.b0,?_⟩
 refine Dv (a0r OU Mc Ot Nv MN Oe NF OV Md Ou Nw MO Og NG) 6 rfl HS.b0 (fun a ha w=>bZ.run_build (vs:=[(0,(a0p OU Mc Ot Nv MN Oe NF)),(1,(a0p OV Md Ou Nw MO Og NG))]) (by simp only [List.map_cons,List.map_nil,ha.ev (x := .tmp 7) (v:=(a0p OU Mc Ot Nv MN Oe NF)) rfl,ha.ev (x := .tmp 10) (v:=(a0p OV Md Ou Nw MO Og NG)) rfl]) aYr aYt pV rfl) ?_
 refine bF 7 (a0s OU Mc Ot Nv MN Oe NF OV Md Ou Nw MO Og NG) HS 0 rfl rfl rfl rfl aYo (fun _ HS=>⟨(eX (s:=7) rfl rfl),?_⟩)
 refine JR.next (by kernel_rfl) (fun _ _ h=>h) ?_
 refine JC.ret (fun a ha => ?_)
 repeat (first | refine dh ?_ | refine df ?_)
 refine fG (v:=(a0r OU Mc Ot Nv MN Oe NF OV Md Ou Nw MO Og NG)) ha Tryz.results56 (.agg rfl aYq aYo (HS.box _ (.head _)) rfl rfl) ⟨_,rfl,?_⟩
 exact ⟨_,_,_,_,_,_,_,_,_,_,_,_,_,_,rfl,HS.tY 2 6 1 0 rfl rfl rfl (fun _ h=>h.as rfl (by omega)) rfl (fun _ h=>h.as rfl (by omega))⟩
set_option maxHeartbeats 400000 in
theorem asI (HT:Tz W0) (HB:Tab W0) {af:Rat} {bC:Nat} {bu:Bool} {ah:Rat} {bD:Nat} {bn:Bool} {aI:Rat} {bM:Nat} {bT:Bool} {aJ:Rat} {bP:Nat} {bQ:Bool} (HS:St W0 U Ps w) (f1a:FV (a0p ax ay aj c1a az ak aA) af bC bu w) (bI:FV (a0p aB aC n1b aG aF au aH) ah bD bn w) (fC:FV (a0p aP aQ aK aS aU aN aY) aI bM bT w) (fD:FV (a0p aV aW aO aX aZ aT bf) aJ bP bQ w) (hk:bC+bD+(bM+bP)≤1000) (h1:(bV bu bn af ah)≤(bW bT bQ aI aJ)) (h2:(bV bT bQ aI aJ)≤(bW bu bn af ah)):bY Tryz.prog 53 [(a0r ax ay aj c1a az ak aA aB aC n1b aG aF au aH),(a0r aP aQ aK aS aU aN aY aV aW aO aX aZ aT bf)] w (yY W0 U Ps (gX (bV bu bn af ah) (bV bT bQ aI aJ)) (gY (bW bu bn af ah) (bW bT bQ aI aJ)) ((bC+bD)+(bM+bP)) (.nilIface)):=by
 have HS:=HS.add (FV.stable _ _ _ _) f1a
 have HS:=HS.add (FV.stable _ _ _ _) bI
 have HS:=HS.add (FV.stable _ _ _ _) fC
 have HS:=HS.add (FV.stable _ _ _ _) fD
 clear f1a bI fC fD
 refine iL Tryz.func53 rfl Tryz.ntmps53 rfl ?_
 refine JC.seq ?_
 refine JC.region ?_
 refine JL.box (vs:=(a0s ax ay aj c1a az ak aA aB aC n1b aG aF au aH)) HS rfl rfl rfl rfl (fun g1 w1 HS => ?_)
 refine JL.box (vs:=(a0s aP aQ aK aS aU aN aY aV aW aO aX aZ aT bf)) HS rfl rfl rfl rfl (fun g2 w2 HS => ?_)
 refine JL.alloc (vs:=cO) HS rfl aYt rfl rfl (fun g3 w3 HS => ?_)
 refine Lv (.nilIface) (fun a ha=>run_assign (ha.ev rfl)) ?_
 refine jn ?_
 refine JC.cut (ι:=FX) (fun ⟨eP,dR,eG,dW,dU,eu,dY,eU,dS,eH,dX,dV,eF,dZ,dP,di,dM,dB,dw,dJ,dG,dQ,dm,dO,dD,dA,dK,dI⟩=>[(0,(a0r ax ay aj c1a az ak aA aB aC n1b aG aF au aH)),(1,(a0r aP aQ aK aS aU aN aY aV aW aO aX aZ aT bf)),(2,.pointer (some ⟨g1,0,none⟩)),(3,.pointer (some ⟨g2,0,none⟩)),(4,.pointer (some ⟨g3,0,none⟩)),(5,.nilIface)]) (fun ⟨eP,dR,eG,dW,dU,eu,dY,eU,dS,eH,dX,dV,eF,dZ,dP,di,dM,dB,dw,dJ,dG,dQ,dm,dO,dD,dA,dK,dI⟩ w=>St W0 (⟨g3,48,cO⟩ :: ⟨g2,48,(a0s dP di dM dB dw dJ dG dQ dm dO dD dA dK dI)⟩ :: ⟨g1,48,(a0s eP dR eG dW dU eu dY eU dS eH dX dV eF dZ)⟩ :: U) (FV (a0p dP di dM dB dw dJ dG) (bV bT bQ aI aJ) (bM+bP) true :: FV (a0p dQ dm dO dD dA dK dI) (bW bT bQ aI aJ) (bM+bP) true :: FV (a0p eP dR eG dW dU eu dY) (bV bu bn af ah) (bC+bD) true :: FV (a0p eU dS eH dX dV eF dZ) (bW bu bn af ah) (bC+bD) true :: FV (a0p aV aW aO aX aZ aT bf) aJ bP bQ :: FV (a0p aP aQ aK aS aU aN aY) aI bM bT :: FV (a0p aB aC n1b aG aF au aH) ah bD bn :: FV (a0p ax ay aj c1a az ak aA) af bC bu :: Ps) w) ?_ ?_
 ·skip
  refine JC.draw HS [4,5] (by kernel_rfl) (fun w5 HS => ?_)
  refine Da (a0r ax ay aj c1a az ak aA aB aC n1b aG aF au aH) 0 2 rfl HS.b0 rfl rfl aYq aYo ?_
  refine JR.any [1,2] (by kernel_rfl) rfl ?_
  refine ai.call rfl rfl rfl aYz (sO HT HB HS (HS.at_ 3 rfl) (HS.at_ 2 rfl) (by omega)) rfl (fun yL yN pq => ?_) ?_
  ·skip
   obtain ⟨eP,dR,eG,dW,dU,eu,dY,eU,dS,eH,dX,dV,eF,dZ,rfl,HS⟩:=pq
   refine ⟨HS.b0,?_⟩
   refine J1 2 (by kernel_rfl) ?_
   refine ai.load (a0r aP aQ aK aS aU aN aY aV aW aO aX aZ aT bf) HS 1 rfl rfl rfl rfl aYq aYo rfl rfl rfl ?_ ai.nil
   refine ⟨HS.b0,?_⟩
   refine bJ 3 rfl rfl rfl aYz (sO HT HB HS (HS.at_ 3 rfl) (HS.at_ 2 rfl) (by omega)) (fun yM yO pz => ?_)
   obtain ⟨dP,di,dM,dB,dw,dJ,dG,dQ,dm,dO,dD,dA,dK,dI,rfl,HS⟩:=pz
   refine ⟨HS.b0,?_⟩
   refine bF 4 (a0s eP dR eG dW dU eu dY eU dS eH dX dV eF dZ) HS 2 rfl rfl rfl rfl aYo (fun _ HS=>⟨(eX (s:=4) rfl rfl),?_⟩)
   refine bF 5 (a0s dP di dM dB dw dJ dG dQ dm dO dD dA dK dI) HS 1 rfl rfl rfl rfl aYo (fun _ HS=>⟨(eX (s:=4) rfl rfl),?_⟩)
   exact JR.mt (eP,dR,eG,dW,dU,eu,dY,eU,dS,eH,dX,dV,eF,dZ,dP,di,dM,dB,dw,dJ,dG,dQ,dm,dO,dD,dA,dK,dI) HS
  refine ai.load (a0r aP aQ aK aS aU aN aY aV aW aO aX aZ aT bf) HS 1 rfl rfl rfl rfl aYq aYo rfl rfl rfl ?_ ai.nil
  refine ⟨HS.b0,?_⟩
  refine bJ 1 rfl rfl rfl aYz (sO HT HB HS (HS.at_ 3 rfl) (HS.at_ 2 rfl) (by omega)) (fun yL yN pq => ?_)
  obtain ⟨eP,dR,eG,dW,dU,eu,dY,eU,dS,eH,dX,dV,eF,dZ,rfl,HS⟩:=pq
  refine ⟨HS.b0,?_⟩
  refine bJ 3 rfl rfl rfl aYz (sO HT HB HS (HS.at_ 3 rfl) (HS.at_ 2 rfl) (by omega)) (fun yM yO pz => ?_)
  obtain ⟨dP,di,dM,dB,dw,dJ,dG,dQ,dm,dO,dD,dA,dK,dI,rfl,HS⟩:=pz
  refine ⟨HS.b0,?_⟩
  refine bF 4 (a0s eP dR eG dW dU eu dY eU dS eH dX dV eF dZ) HS 2 rfl rfl rfl rfl aYo (fun _ HS=>⟨(eX (s:=4) rfl rfl),?_⟩)
  refine bF 5 (a0s dP di dM dB dw dJ dG dQ dm dO dD dA dK dI) HS 1 rfl rfl rfl rfl aYo (fun _ HS=>⟨(eX (s:=4) rfl rfl),?_⟩)
  exact JR.mt (eP,dR,eG,dW,dU,eu,dY,eU,dS,eH,dX,dV,eF,dZ,dP,di,dM,dB,dw,dJ,dG,dQ,dm,dO,dD,dA,dK,dI) HS
 ·skip
  rintro ⟨eP,dR,eG,dW,dU,eu,dY,eU,dS,eH,dX,dV,eF,dZ,dP,di,dM,dB,dw,dJ,dG,dQ,dm,dO,dD,dA,dK,dI⟩ H8 HS
  try dsimp only at HS ⊢
  refine JC.seq ?_
  refine JC.seq ?_
  refine JC.region ?_
  refine Lv (.pointer (some ⟨g1,0,none⟩)) (fun a ha=>bH (ha.ev rfl) aYr rfl aYn rfl rfl) ?_
  refine JL.load (a0p eP dR eG dW dU eu dY) HS 2 rfl rfl rfl aYp aYn rfl rfl ?_
  refine Lv (.pointer (some ⟨g2,3,none⟩)) (fun a ha=>bH (ha.ev rfl) aYr rfl aYn rfl rfl) ?_
  refine JL.load (a0p dQ dm dO dD dA dK dI) HS 1 rfl rfl rfl aYp aYn rfl rfl ?_
  refine JL.call rfl rfl aZg (TQ HT HB HS (HS.at_ 2 rfl) (HS.at_ 1 rfl) (by omega)) (fun v6 w6 uk => ?_)
  obtain ⟨rfl,HS⟩:=uk
  rw [decide_eq_true (show (bV bu bn af ah)≤(bW bT bQ aI aJ) from h1)]
  refine Lv (.bool false) (fun a ha=>sU (b:=true) (ha.ev rfl)) ?_
  refine Lv (.bool false) (fun a ha=>run_move (ha.ev rfl)) ?_
  refine Lg (.pointer (some ⟨g2,0,none⟩)) (fun a ha=>bH (ha.ev rfl) aYr rfl aYn rfl rfl) ?_
  refine Lg (a0p dP di dM dB dw dJ dG) (fun a ha=>gU (ha.ev rfl) aYp aYn (HS.box _ (.tail _ (.head _))) rfl rfl) ?_
  refine Lg (.pointer (some ⟨g1,3,none⟩)) (fun a ha=>bH (ha.ev rfl) aYr rfl aYn rfl rfl) ?_
  refine Lg (a0p eU dS eH dX dV eF dZ) (fun a ha=>gU (ha.ev rfl) aYp aYn (HS.box _ (.tail _ (.tail _ (.head _)))) rfl rfl) ?_
  refine JL.cZ rfl rfl rfl rfl rfl rfl aZg (TQ HT HB HS (HS.at_ 0 rfl) (HS.at_ 3 rfl) (by omega)) (fun v7 w7 wM => ?_)
  obtain ⟨rfl,HS⟩:=wM
  rw [decide_eq_true (show (bV bT bQ aI aJ)≤(bW bu bn af ah) from h2)]
  refine Lg (.bool false) (fun a ha=>sU (b:=true) (ha.ev rfl)) ?_
  refine Lv (.bool false) (fun a ha=>gB (ha.ev rfl) (ha.ev rfl)) ?_
  refine jn ?_
  refine JC.jA rfl ?_
  refine JC.jF (fun _ _ h=>h) ?_
  refine JC.seq ?_
  refine JC.draw HS [11] (by kernel_rfl) (fun w8 HS => ?_)
  refine Dv (.pointer (some ⟨g1,0,none⟩)) 0 rfl HS.b0 (fun a ha w=>bH (ha.ev rfl) aYr rfl aYn rfl rfl) ?_
  refine Da (a0p eP dR eG dW dU eu dY) 1 2 rfl HS.b0 rfl rfl aYp aYn ?_
  refine Dv (.pointer (some ⟨g2,0,none⟩)) 2 rfl HS.b0 (fun a ha w=>bH (ha.ev rfl) aYr rfl aYn rfl rfl) ?_
  refine Da (a0p dP di dM dB dw dJ dG) 3 1 rfl HS.b0 rfl rfl aYp aYn ?_
  refine Dv (.pointer (some ⟨g1,3,none⟩)) 5 rfl HS.b0 (fun a ha w=>bH (ha.ev rfl) aYr rfl aYn rfl rfl) ?_
  refine Da (a0p eU dS eH dX dV eF dZ) 6 2 rfl HS.b0 rfl rfl aYp aYn ?_
  refine Dv (.pointer (some ⟨g2,3,none⟩)) 7 rfl HS.b0 (fun a ha w=>bH (ha.ev rfl) aYr rfl aYn rfl rfl) ?_
  refine Da (a0p dQ dm dO dD dA dK dI) 8 1 rfl HS.b0 rfl rfl aYp aYn ?_
  refine bJ 4 rfl rfl rfl Tryz.call136 (ahq HT HB HS (HS.at_ 2 rfl) (HS.at_ 0 rfl) (by omega)) (fun Fp Em wO => ?_)
  obtain ⟨pG,nP,nU,nS,Gv,G6,GK,rfl,HS⟩:=wO
  refine ⟨HS.b0,?_⟩
  refine bJ 9 rfl rfl rfl Tryz.call137 (ahr HT HB HS (HS.at_ 4 rfl) (HS.at_ 2 rfl) (by omega)) (fun aGD aHr agH => ?_)
  obtain ⟨Vu,Ue,U5,Uo,Ug,UY,Uu,rfl,HS⟩:=agH
  refine ⟨HS.b0,?_⟩
  refine Dv (a0r pG nP nU nS Gv G6 GK Vu Ue U5 Uo Ug UY Uu) 10 rfl HS.b0 (fun a ha w=>bZ.run_build (vs:=[(0,(a0p pG nP nU nS Gv G6 GK)),(1,(a0p Vu Ue U5 Uo Ug UY Uu))]) (by simp only [List.map_cons,List.map_nil,ha.ev (x := .tmp 30) (v:=(a0p pG nP nU nS Gv G6 GK)) rfl,ha.ev (x := .tmp 35) (v:=(a0p Vu Ue U5 Uo Ug UY Uu)) rfl]) aYr aYt pV rfl) ?_
  refine bF 11 (a0s pG nP nU nS Gv G6 GK Vu Ue U5 Uo Ug UY Uu) HS 0 rfl rfl rfl rfl aYo (fun _ HS=>⟨(eX (s:=11) rfl rfl),?_⟩)
  refine Dv (.nilIface) 12 rfl (eX (s:=11) rfl rfl) (fun a ha w=>run_assign (ha.ev rfl)) ?_
  refine JR.next (by kernel_rfl) (fun _ _ h=>h) ?_
  refine JC.ret (fun a ha => ?_)
  repeat (first | refine dh ?_ | refine df ?_)
  refine vI (v:=(a0r pG nP nU nS Gv G6 GK Vu Ue U5 Uo Ug UY Uu)) (v' := .nilIface) ha Tryz.results53 (.agg rfl aYq aYo (HS.box _ (.head _)) rfl rfl) (.tmp rfl) ⟨_,rfl,?_⟩
  exact ⟨_,_,_,_,_,_,_,_,_,_,_,_,_,_,rfl,HS.tY 3 10 1 0 rfl rfl rfl (fun _ h=>h.as rfl (by omega)) rfl (fun _ h=>h.as rfl (by omega))⟩
set_option maxHeartbeats 400000 in
theorem asJ (HT:Tz W0) (HB:Tab W0) {af:Rat} {bC:Nat} {bu:Bool} {ah:Rat} {bD:Nat} {bn:Bool} {aI:Rat} {bM:Nat} {bT:Bool} {aJ:Rat} {bP:Nat} {bQ:Bool} (HS:St W0 U Ps w) (f1a:FV (a0p ax ay aj c1a az ak aA) af bC bu w) (bI:FV (a0p aB aC n1b aG aF au aH) ah bD bn w) (fC:FV (a0p aP aQ aK aS aU aN aY) aI bM bT w) (fD:FV (a0p aV aW aO aX aZ aT bf) aJ bP bQ w) (hk:bC+bD+(bM+bP)≤1000) (hc:(bW bT bQ aI aJ) < (bV bu bn af ah)∨(bW bu bn af ah) < (bV bT bQ aI aJ)):bY Tryz.prog 53 [(a0r ax ay aj c1a az ak aA aB aC n1b aG aF au aH),(a0r aP aQ aK aS aU aN aY aV aW aO aX aZ aT bf)] w (iP W0 U Ps (.tuple #[fO,.iface 74 (.int .i64 16)])):=by
 have HS:=HS.add (FV.stable _ _ _ _) f1a
 have HS:=HS.add (FV.stable _ _ _ _) bI
 have HS:=HS.add (FV.stable _ _ _ _) fC
 have HS:=HS.add (FV.stable _ _ _ _) fD
 clear f1a bI fC fD
 refine iL Tryz.func53 rfl Tryz.ntmps53 rfl ?_
 refine JC.seq ?_
 refine JC.region ?_
 refine JL.box (vs:=(a0s ax ay aj c1a az ak aA aB aC n1b aG aF au aH)) HS rfl rfl rfl rfl (fun g1 w1 HS => ?_)
 refine JL.box (vs:=(a0s aP aQ aK aS aU aN aY aV aW aO aX aZ aT bf)) HS rfl rfl rfl rfl (fun g2 w2 HS => ?_)
 refine JL.alloc (vs:=cO) HS rfl aYt rfl rfl (fun g3 w3 HS => ?_)
 refine Lv (.nilIface) (fun a ha=>run_assign (ha.ev rfl)) ?_
 refine jn ?_
 refine JC.cut (ι:=FX) (fun ⟨eP,dR,eG,dW,dU,eu,dY,eU,dS,eH,dX,dV,eF,dZ,dP,di,dM,dB,dw,dJ,dG,dQ,dm,dO,dD,dA,dK,dI⟩=>[(0,(a0r ax ay aj c1a az ak aA aB aC n1b aG aF au aH)),(1,(a0r aP aQ aK aS aU aN aY aV aW aO aX aZ aT bf)),(2,.pointer (some ⟨g1,0,none⟩)),(3,.pointer (some ⟨g2,0,none⟩)),(4,.pointer (some ⟨g3,0,none⟩)),(5,.nilIface)]) (fun ⟨eP,dR,eG,dW,dU,eu,dY,eU,dS,eH,dX,dV,eF,dZ,dP,di,dM,dB,dw,dJ,dG,dQ,dm,dO,dD,dA,dK,dI⟩ w=>St W0 (⟨g3,48,cO⟩ :: ⟨g2,48,(a0s dP di dM dB dw dJ dG dQ dm dO dD dA dK dI)⟩ :: ⟨g1,48,(a0s eP dR eG dW dU eu dY eU dS eH dX dV eF dZ)⟩ :: U) (FV (a0p dP di dM dB dw dJ dG) (bV bT bQ aI aJ) (bM+bP) true :: FV (a0p dQ dm dO dD dA dK dI) (bW bT bQ aI aJ) (bM+bP) true :: FV (a0p eP dR eG dW dU eu dY) (bV bu bn af ah) (bC+bD) true :: FV (a0p eU dS eH dX dV eF dZ) (bW bu bn af ah) (bC+bD) true :: FV (a0p aV aW aO aX aZ aT bf) aJ bP bQ :: FV (a0p aP aQ aK aS aU aN aY) aI bM bT :: FV (a0p aB aC n1b aG aF au aH) ah bD bn :: FV (a0p ax ay aj c1a az ak aA) af bC bu :: Ps) w) ?_ ?_
 ·skip
  refine JC.draw HS [4,5] (by kernel_rfl) (fun w5 HS => ?_)
  refine Da (a0r ax ay aj c1a az ak aA aB aC n1b aG aF au aH) 0 2 rfl HS.b0 rfl rfl aYq aYo ?_
  refine JR.any [1,2] (by kernel_rfl) rfl ?_
  refine ai.call rfl rfl rfl aYz (sO HT HB HS (HS.at_ 3 rfl) (HS.at_ 2 rfl) (by omega)) rfl (fun yL yN pq => ?_) ?_
  ·skip
   obtain ⟨eP,dR,eG,dW,dU,eu,dY,eU,dS,eH,dX,dV,eF,dZ,rfl,HS⟩:=pq
   refine ⟨HS.b0,?_⟩
   refine J1 2 (by kernel_rfl) ?_
   refine ai.load (a0r aP aQ aK aS aU aN aY aV aW aO aX aZ aT bf) HS 1 rfl rfl rfl rfl aYq aYo rfl rfl rfl ?_ ai.nil
   refine ⟨HS.b0,?_⟩
   refine bJ 3 rfl rfl rfl aYz (sO HT HB HS (HS.at_ 3 rfl) (HS.at_ 2 rfl) (by omega)) (fun yM yO pz => ?_)
   obtain ⟨dP,di,dM,dB,dw,dJ,dG,dQ,dm,dO,dD,dA,dK,dI,rfl,HS⟩:=pz
   refine ⟨HS.b0,?_⟩
   refine bF 4 (a0s eP dR eG dW dU eu dY eU dS eH dX dV eF dZ) HS 2 rfl rfl rfl rfl aYo (fun _ HS=>⟨(eX (s:=4) rfl rfl),?_⟩)
   refine bF 5 (a0s dP di dM dB dw dJ dG dQ dm dO dD dA dK dI) HS 1 rfl rfl rfl rfl aYo (fun _ HS=>⟨(eX (s:=4) rfl rfl),?_⟩)
   exact JR.mt (eP,dR,eG,dW,dU,eu,dY,eU,dS,eH,dX,dV,eF,dZ,dP,di,dM,dB,dw,dJ,dG,dQ,dm,dO,dD,dA,dK,dI) HS
  refine ai.load (a0r aP aQ aK aS aU aN aY aV aW aO aX aZ aT bf) HS 1 rfl rfl rfl rfl aYq aYo rfl rfl rfl ?_ ai.nil
  refine ⟨HS.b0,?_⟩
  refine bJ 1 rfl rfl rfl aYz (sO HT HB HS (HS.at_ 3 rfl) (HS.at_ 2 rfl) (by omega)) (fun yL yN pq => ?_)
  obtain ⟨eP,dR,eG,dW,dU,eu,dY,eU,dS,eH,dX,dV,eF,dZ,rfl,HS⟩:=pq
  refine ⟨HS.b0,?_⟩
  refine bJ 3 rfl rfl rfl aYz (sO HT HB HS (HS.at_ 3 rfl) (HS.at_ 2 rfl) (by omega)) (fun yM yO pz => ?_)
  obtain ⟨dP,di,dM,dB,dw,dJ,dG,dQ,dm,dO,dD,dA,dK,dI,rfl,HS⟩:=pz
  refine ⟨HS.b0,?_⟩
  refine bF 4 (a0s eP dR eG dW dU eu dY eU dS eH dX dV eF dZ) HS 2 rfl rfl rfl rfl aYo (fun _ HS=>⟨(eX (s:=4) rfl rfl),?_⟩)
  refine bF 5 (a0s dP di dM dB dw dJ dG dQ dm dO dD dA dK dI) HS 1 rfl rfl rfl rfl aYo (fun _ HS=>⟨(eX (s:=4) rfl rfl),?_⟩)
  exact JR.mt (eP,dR,eG,dW,dU,eu,dY,eU,dS,eH,dX,dV,eF,dZ,dP,di,dM,dB,dw,dJ,dG,dQ,dm,dO,dD,dA,dK,dI) HS
 ·skip
  rintro ⟨eP,dR,eG,dW,dU,eu,dY,eU,dS,eH,dX,dV,eF,dZ,dP,di,dM,dB,dw,dJ,dG,dQ,dm,dO,dD,dA,dK,dI⟩ H8 HS
  try dsimp only at HS ⊢
  refine JC.seq ?_
  refine JC.seq ?_
  refine JC.region ?_
  refine Lv (.pointer (some ⟨g1,0,none⟩)) (fun a ha=>bH (ha.ev rfl) aYr rfl aYn rfl rfl) ?_
  refine JL.load (a0p eP dR eG dW dU eu dY) HS 2 rfl rfl rfl aYp aYn rfl rfl ?_
  refine Lv (.pointer (some ⟨g2,3,none⟩)) (fun a ha=>bH (ha.ev rfl) aYr rfl aYn rfl rfl) ?_
  refine JL.load (a0p dQ dm dO dD dA dK dI) HS 1 rfl rfl rfl aYp aYn rfl rfl ?_
  refine JL.call rfl rfl aZg (TQ HT HB HS (HS.at_ 2 rfl) (HS.at_ 1 rfl) (by omega)) (fun v6 w6 uk => ?_)
  obtain ⟨rfl,HS⟩:=uk
  refine Lv (.bool (!(decide ((bV bu bn af ah)≤(bW bT bQ aI aJ))))) (fun a ha=>sU (ha.ev rfl)) ?_
  cases PR:((decide ((bV bu bn af ah)≤(bW bT bQ aI aJ))))
  ·skip
   refine Lv (.bool true) (fun a ha=>run_move (ha.ev rfl)) ?_
   refine Lp ?_
   refine Lp ?_
   refine Lp ?_
   refine Lp ?_
   refine Lp ?_
   refine Lp ?_
   refine Lv (.bool true) (fun a ha=>eY (ha.ev rfl) (ha.ev rfl)) ?_
   refine jn ?_
   refine JC.iy rfl ?_
   refine JC.seq ?_
   refine JC.region ?_
   refine Lv fO (fun a ha=>bZ.run_build (vs:=[]) (by simp only [List.map_cons,List.map_nil]) aYr aYt pV rfl) ?_
   refine Lv (.iface 74 (.int .i64 16)) (fun a ha=>OH (ha.ev rfl) (by kernel_rfl)) ?_
   refine JL.store HS rfl rfl (i:=0) rfl aYo rfl rfl rfl (vs':=cO) rfl rfl (fun w8 HS => ?_)
   refine Lv (.iface 74 (.int .i64 16)) (fun a ha=>run_assign (ha.ev rfl)) ?_
   refine jn ?_
   refine JC.ret (fun a ha => ?_)
   repeat (first | refine dh ?_ | refine df ?_)
   refine vI (v:=fO) (v' := .iface 74 (.int .i64 16)) ha Tryz.results53 (.agg rfl aYq aYo (HS.box _ (.head _)) rfl rfl) (.tmp rfl) ⟨_,rfl,?_⟩
   exact ⟨rfl,HS.gy 3 8 rfl rfl⟩
  ·skip
   refine Lv (.bool false) (fun a ha=>run_move (ha.ev rfl)) ?_
   refine Lg (.pointer (some ⟨g2,0,none⟩)) (fun a ha=>bH (ha.ev rfl) aYr rfl aYn rfl rfl) ?_
   refine Lg (a0p dP di dM dB dw dJ dG) (fun a ha=>gU (ha.ev rfl) aYp aYn (HS.box _ (.tail _ (.head _))) rfl rfl) ?_
   refine Lg (.pointer (some ⟨g1,3,none⟩)) (fun a ha=>bH (ha.ev rfl) aYr rfl aYn rfl rfl) ?_
   refine Lg (a0p eU dS eH dX dV eF dZ) (fun a ha=>gU (ha.ev rfl) aYp aYn (HS.box _ (.tail _ (.tail _ (.head _)))) rfl rfl) ?_
   refine JL.cZ rfl rfl rfl rfl rfl rfl aZg (TQ HT HB HS (HS.at_ 0 rfl) (HS.at_ 3 rfl) (by omega)) (fun v9 w9 Iy => ?_)
   obtain ⟨rfl,HS⟩:=Iy
   refine Lg (.bool (!(decide ((bV bT bQ aI aJ)≤(bW bu bn af ah))))) (fun a ha=>sU (ha.ev rfl)) ?_
   refine Lv (.bool (!(decide ((bV bT bQ aI aJ)≤(bW bu bn af ah))))) (fun a ha=>gB (ha.ev rfl) (ha.ev rfl)) ?_
   refine jn ?_
   cases acR:((decide ((bV bT bQ aI aJ)≤(bW bu bn af ah))))
   ·skip
    refine JC.iy rfl ?_
    refine JC.seq ?_
    refine JC.region ?_
    refine Lv fO (fun a ha=>bZ.run_build (vs:=[]) (by simp only [List.map_cons,List.map_nil]) aYr aYt pV rfl) ?_
    refine Lv (.iface 74 (.int .i64 16)) (fun a ha=>OH (ha.ev rfl) (by kernel_rfl)) ?_
    refine JL.store HS rfl rfl (i:=0) rfl aYo rfl rfl rfl (vs':=cO) rfl rfl (fun Dp HS => ?_)
    refine Lv (.iface 74 (.int .i64 16)) (fun a ha=>run_assign (ha.ev rfl)) ?_
    refine jn ?_
    refine JC.ret (fun a ha => ?_)
    repeat (first | refine dh ?_ | refine df ?_)
    refine vI (v:=fO) (v' := .iface 74 (.int .i64 16)) ha Tryz.results53 (.agg rfl aYq aYo (HS.box _ (.head _)) rfl rfl) (.tmp rfl) ⟨_,rfl,?_⟩
    exact ⟨rfl,HS.gy 3 8 rfl rfl⟩
   ·skip
    exact absurd hc (by have e1:=of_decide_eq_true PR; have e2:=of_decide_eq_true acR; grind)
end
end Go.Proofs.YtbihljnjaondcaaGreatDoor
