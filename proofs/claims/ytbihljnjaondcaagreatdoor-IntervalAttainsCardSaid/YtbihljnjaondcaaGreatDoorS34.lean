/- Part of a proof, said shortly. -/
import Derived.Test.YtbihljnjaondcaaGreatDoorAlz
import Derived.Test.YtbihljnjaondcaaGreatDoorS15
import Derived.Test.YtbihljnjaondcaaGreatDoorC25
import Derived.Test.YtbihljnjaondcaaGreatDoorS3
import Derived.Test.YtbihljnjaondcaaGreatDoorC22
import Derived.Test.YtbihljnjaondcaaGreatDoorS8
import Derived.Test.YtbihljnjaondcaaGreatDoorC21
import Derived.Test.YtbihljnjaondcaaGreatDoorS2
import Derived.Test.YtbihljnjaondcaaGreatDoorS16
import Derived.Test.YtbihljnjaondcaaGreatDoorS23
import Derived.Test.YtbihljnjaondcaaGreatDoorC20
import Derived.Test.YtbihljnjaondcaaGreatDoorS4
import Derived.Test.YtbihljnjaondcaaGreatDoorC15
import Derived.Test.YtbihljnjaondcaaGreatDoorS9
import Derived.Test.YtbihljnjaondcaaGreatDoorC16
import Derived.Test.YtbihljnjaondcaaGreatDoorC14
import Derived.Test.YtbihljnjaondcaaGreatDoorC13
import Derived.Test.YtbihljnjaondcaaGreatDoorC12
import Derived.Test.YtbihljnjaondcaaGreatDoorC11
import Derived.Test.YtbihljnjaondcaaGreatDoorC10
import Derived.Test.YtbihljnjaondcaaGreatDoorC6
import Derived.Test.YtbihljnjaondcaaGreatDoorC2
import Derived.Test.YtbihljnjaondcaaGreatDoorC1
import Derived.Test.YtbihljnjaondcaaGreatDoorC5
import Derived.Test.YtbihljnjaondcaaGreatDoorC4
import Derived.Test.YtbihljnjaondcaaGreatDoorC3
import Derived.Test.YtbihljnjaondcaaGreatDoorC9
import Derived.Test.YtbihljnjaondcaaGreatDoorC8
import Derived.Test.YtbihljnjaondcaaGreatDoorC7
import Derived.Test.YtbihljnjaondcaaGreatDoorC19
import Derived.Test.YtbihljnjaondcaaGreatDoorC18
import Derived.Test.YtbihljnjaondcaaGreatDoorC17
import Derived.Test.YtbihljnjaondcaaGreatDoorS14
import Derived.Test.YtbihljnjaondcaaGreatDoorC23
import Derived.Test.YtbihljnjaondcaaGreatDoorC24
import Derived.Test.YtbihljnjaondcaaGreatDoorS10
set_option maxRecDepth 100000
open Go.Proofs.YtbihljnjaondcaaGreatDoor (a0p a0q a0r a0s yw bU fO cO PS iy1 PT FX iy4 iy5 iy6 Yo iy8 iy9 aAJ)
set_option linter.unusedVariables false
set_option linter.unusedSimpArgs false
namespace Go.Proofs.YtbihljnjaondcaaGreatDoor
open Go Go.RowKit Lw bZ
section
variable {W0 w:World} {U:List Box} {Ps:List (World→Prop)}
variable {ax:Bool} {ay:Option Addr} {aj c1a:Nat} {az:Option Addr} {ak aA:Nat} {aB:Bool} {aC:Option Addr} {n1b aG:Nat} {aF:Option Addr} {au aH:Nat} {aP:Bool} {aQ:Option Addr} {aK aS:Nat} {aU:Option Addr} {aN aY:Nat} {aV:Bool} {aW:Option Addr} {aO aX:Nat} {aZ:Option Addr} {aT bf:Nat}
set_option maxHeartbeats 4000000 in
theorem aAb (HT:Tz W0) (HB:Tab W0) {af:Rat} {bC:Nat} {bu:Bool} {ah:Rat} {bD:Nat} {bn:Bool} {aI:Rat} {bM:Nat} {bT:Bool} {aJ:Rat} {bP:Nat} {bQ:Bool} (HS:St W0 U Ps w) (f1a:FV (a0p ax ay aj c1a az ak aA) af bC bu w) (bI:FV (a0p aB aC n1b aG aF au aH) ah bD bn w) (fC:FV (a0p aP aQ aK aS aU aN aY) aI bM bT w) (fD:FV (a0p aV aW aO aX aZ aT bf) aJ bP bQ w):bY Tryz.prog 9 [(a0r ax ay aj c1a az ak aA aB aC n1b aG aF au aH),(a0r aP aQ aK aS aU aN aY aV aW aO aX aZ aT bf)] w (iP W0 U Ps (.bool true)):=by
 have HS:=HS.add (FV.stable _ _ _ _) f1a
 have HS:=HS.add (FV.stable _ _ _ _) bI
 have HS:=HS.add (FV.stable _ _ _ _) fC
 have HS:=HS.add (FV.stable _ _ _ _) fD
 clear f1a bI fC fD
 refine iL aZ9 rfl Tryz.ntmps9 rfl ?_
 refine JC.seq ?_
 refine JC.region ?_
 refine JL.box (vs:=(a0s ax ay aj c1a az ak aA aB aC n1b aG aF au aH)) HS rfl rfl rfl rfl (fun g1 w1 HS => ?_)
 refine JL.box (vs:=(a0s aP aQ aK aS aU aN aY aV aW aO aX aZ aT bf)) HS rfl rfl rfl rfl (fun g2 w2 HS => ?_)
 refine Lv (.bool false) (fun a ha=>run_assign (ha.ev rfl)) ?_
 refine jn ?_
 refine JC.seq ?_
 refine JC.seq ?_
 refine JC.region ?_
 refine JL.load (a0r ax ay aj c1a az ak aA aB aC n1b aG aF au aH) HS 1 rfl rfl rfl aYq aYo rfl rfl ?_
 refine JL.load (a0r aP aQ aK aS aU aN aY aV aW aO aX aZ aT bf) HS 0 rfl rfl rfl aYq aYo rfl rfl ?_
 refine JL.buildSlice (ps:=[(0,(a0r ax ay aj c1a az ak aA aB aC n1b aG aF au aH)),(1,(a0r aP aQ aK aS aU aN aY aV aW aO aX aZ aT bf))]) (vs:=[.bool ax,.slice ay aj c1a,.slice az ak aA,.bool aB,.slice aC n1b aG,.slice aF au aH,.bool aP,.slice aQ aK aS,.slice aU aN aY,.bool aV,.slice aW aO aX,.slice aZ aT bf]) HS rfl (fun a ha=>by simp only [List.map_cons,List.map_nil,ha.ev (x := .tmp 17) (v:=(a0r ax ay aj c1a az ak aA aB aC n1b aG aF au aH)) rfl,ha.ev (x := .tmp 18) (v:=(a0r aP aQ aK aS aU aN aY aV aW aO aX aZ aT bf)) rfl]) aY0 aYo aYt rfl rfl (by kernel_rfl) rfl (fun g3 w3 HS => ?_)
 refine JL.call rfl rfl aZh (Ym HT HB HS) (fun v4 w4 HR4 => ?_)
 obtain ⟨rfl,HS⟩:=HR4
 refine Lv (.bool (!(decide (aj≤8∧ak≤8∧n1b≤8∧au≤8∧aK≤8∧aN≤8∧aO≤8∧aT≤8)))) (fun a ha=>sU (ha.ev rfl)) ?_
 cases Ap:((decide (aj≤8∧ak≤8∧n1b≤8∧au≤8∧aK≤8∧aN≤8∧aO≤8∧aT≤8)))
 ·skip
  refine Lv (.bool true) (fun a ha=>run_move (ha.ev rfl)) ?_
  refine Lp ?_
  refine Lp ?_
  refine Lp ?_
  refine Lv (.bool true) (fun a ha=>eY (ha.ev rfl) (ha.ev rfl)) ?_
  refine Lv (.bool true) (fun a ha=>run_move (ha.ev rfl)) ?_
  refine Lp ?_
  refine Lp ?_
  refine Lp ?_
  refine Lv (.bool true) (fun a ha=>eY (ha.ev rfl) (ha.ev rfl)) ?_
  refine Lv (.bool true) (fun a ha=>run_move (ha.ev rfl)) ?_
  refine Lp ?_
  refine Lp ?_
  refine Lv (.bool true) (fun a ha=>eY (ha.ev rfl) (ha.ev rfl)) ?_
  refine jn ?_
  refine JC.iy rfl ?_
  refine JC.seq ?_
  refine JC.region ?_
  refine JL.call rfl rfl aYO (zh HT HB HS  ) (fun v6 w6 uk => ?_)
  obtain ⟨rfl,HS⟩:=uk
  refine Lv (.bool true) (fun a ha=>run_assign (ha.ev rfl)) ?_
  refine jn ?_
  refine JC.ret (fun a ha => ?_)
  repeat (first | refine dh ?_ | refine df ?_)
  refine fG (v := .bool true) ha Tryz.results9 (.tmp rfl) ⟨_,rfl,?_⟩
  exact ⟨rfl,HS.gy 3 4 rfl rfl⟩
 ·skip
  have hfew:=of_decide_eq_true Ap
  have HS:=HS.pO 3 rfl (fun _ h=>(fJ.cut (K:=8) h (by omega) (by omega):FV _ _ 8 _ _))
  have HS:=HS.pO 3 rfl (fun _ h=>(fJ.cut (K:=8) h (by omega) (by omega):FV _ _ 8 _ _))
  have HS:=HS.pO 3 rfl (fun _ h=>(fJ.cut (K:=8) h (by omega) (by omega):FV _ _ 8 _ _))
  have HS:=HS.pO 3 rfl (fun _ h=>(fJ.cut (K:=8) h (by omega) (by omega):FV _ _ 8 _ _))
  refine Lv (.bool false) (fun a ha=>run_move (ha.ev rfl)) ?_
  refine Lg (a0r ax ay aj c1a az ak aA aB aC n1b aG aF au aH) (fun a ha=>gU (ha.ev rfl) aYq aYo (HS.box _ (.tail _ (.tail _ (.head _)))) rfl rfl) ?_
  refine JL.cZ rfl rfl rfl rfl rfl rfl aY5 (KZ HT HB HS (HS.at_ 3 rfl) (HS.at_ 2 rfl) (by omega)) (fun v7 w7 wM => ?_)
  obtain ⟨rfl,HS⟩:=wM
  refine Lg (.bool (!(okR bu bn af ah))) (fun a ha=>sU (ha.ev rfl)) ?_
  refine Lv (.bool (!(okR bu bn af ah))) (fun a ha=>gB (ha.ev rfl) (ha.ev rfl)) ?_
  cases acU:((okR bu bn af ah))
  ·skip
   refine Lv (.bool true) (fun a ha=>run_move (ha.ev rfl)) ?_
   refine Lp ?_
   refine Lp ?_
   refine Lp ?_
   refine Lv (.bool true) (fun a ha=>eY (ha.ev rfl) (ha.ev rfl)) ?_
   refine Lv (.bool true) (fun a ha=>run_move (ha.ev rfl)) ?_
   refine Lp ?_
   refine Lp ?_
   refine Lv (.bool true) (fun a ha=>eY (ha.ev rfl) (ha.ev rfl)) ?_
   refine jn ?_
   refine JC.iy rfl ?_
   refine JC.seq ?_
   refine JC.region ?_
   refine JL.call rfl rfl aYO (zh HT HB HS  ) (fun v9 w9 Iy => ?_)
   obtain ⟨rfl,HS⟩:=Iy
   refine Lv (.bool true) (fun a ha=>run_assign (ha.ev rfl)) ?_
   refine jn ?_
   refine JC.ret (fun a ha => ?_)
   repeat (first | refine dh ?_ | refine df ?_)
   refine fG (v := .bool true) ha Tryz.results9 (.tmp rfl) ⟨_,rfl,?_⟩
   exact ⟨rfl,HS.gy 3 8 rfl rfl⟩
  ·skip
   obtain ⟨rfl,rfl,fE⟩:=KN acU
   refine Lv (.bool false) (fun a ha=>run_move (ha.ev rfl)) ?_
   refine Lg (a0r aP aQ aK aS aU aN aY aV aW aO aX aZ aT bf) (fun a ha=>gU (ha.ev rfl) aYq aYo (HS.box _ (.tail _ (.head _))) rfl rfl) ?_
   refine JL.cZ rfl rfl rfl rfl rfl rfl aY5 (KZ HT HB HS (HS.at_ 1 rfl) (HS.at_ 0 rfl) (by omega)) (fun v10 w10 FN => ?_)
   obtain ⟨rfl,HS⟩:=FN
   refine Lg (.bool (!(okR bT bQ aI aJ))) (fun a ha=>sU (ha.ev rfl)) ?_
   refine Lv (.bool (!(okR bT bQ aI aJ))) (fun a ha=>gB (ha.ev rfl) (ha.ev rfl)) ?_
   cases acS:((okR bT bQ aI aJ))
   ·skip
    refine Lv (.bool true) (fun a ha=>run_move (ha.ev rfl)) ?_
    refine Lp ?_
    refine Lp ?_
    refine Lv (.bool true) (fun a ha=>eY (ha.ev rfl) (ha.ev rfl)) ?_
    refine jn ?_
    refine JC.iy rfl ?_
    refine JC.seq ?_
    refine JC.region ?_
    refine JL.call rfl rfl aYO (zh HT HB HS  ) (fun v12 w12 QS => ?_)
    obtain ⟨rfl,HS⟩:=QS
    refine Lv (.bool true) (fun a ha=>run_assign (ha.ev rfl)) ?_
    refine jn ?_
    refine JC.ret (fun a ha => ?_)
    repeat (first | refine dh ?_ | refine df ?_)
    refine fG (v := .bool true) ha Tryz.results9 (.tmp rfl) ⟨_,rfl,?_⟩
    exact ⟨rfl,HS.gy 3 8 rfl rfl⟩
   ·skip
    obtain ⟨rfl,rfl,gV⟩:=KN acS
    refine Lv (.bool false) (fun a ha=>run_move (ha.ev rfl)) ?_
    refine JL.cZ rfl rfl rfl rfl rfl rfl aYO (zh HT HB HS  ) (fun v13 Gl QX => ?_)
    obtain ⟨rfl,HS⟩:=QX
    refine Lg (.bool false) (fun a ha=>sU (b:=true) (ha.ev rfl)) ?_
    refine Lv (.bool false) (fun a ha=>gB (ha.ev rfl) (ha.ev rfl)) ?_
    refine jn ?_
    refine JC.jA rfl ?_
    refine JC.jF (fun _ _ h=>h) ?_
    refine JC.cut (ι:=iy8) (fun ⟨lZ,lJ,lX,lQ,lM,lV,lT,kV,kP,kU,kR,kQ,kT,kS,kN,jY,kJ,kC,ku,kG,kE,jR,jH,jP,jK,jI,jM,jL,l9,mD⟩=>[(0,(a0r ax ay aj c1a az ak aA aB aC n1b aG aF au aH)),(1,(a0r aP aQ aK aS aU aN aY aV aW aO aX aZ aT bf)),(2,.pointer (some ⟨g1,0,none⟩)),(3,.pointer (some ⟨g2,0,none⟩)),(4,.bool false),(5,.pointer (some ⟨l9,0,none⟩)),(6,.pointer (some ⟨mD,0,none⟩)),(17,(a0r ax ay aj c1a az ak aA aB aC n1b aG aF au aH)),(18,(a0r aP aQ aK aS aU aN aY aV aW aO aX aZ aT bf)),(19,.slice (some ⟨g3,0,none⟩) 2 2),(20,.bool true),(21,.bool false),(22,.bool false),(23,(a0r ax ay aj c1a az ak aA aB aC n1b aG aF au aH)),(24,.bool true),(25,.bool false),(26,.bool false),(27,.bool false),(28,(a0r aP aQ aK aS aU aN aY aV aW aO aX aZ aT bf)),(29,.bool true),(30,.bool false),(31,.bool false),(32,.bool false),(33,.bool true),(34,.bool false),(35,.bool false)]) (fun ⟨lZ,lJ,lX,lQ,lM,lV,lT,kV,kP,kU,kR,kQ,kT,kS,kN,jY,kJ,kC,ku,kG,kE,jR,jH,jP,jK,jI,jM,jL,l9,mD⟩ w=>St W0 (⟨mD,48,(a0s kN jY kJ kC ku kG kE jR jH jP jK jI jM jL)⟩ :: ⟨l9,48,(a0s lZ lJ lX lQ lM lV lT kV kP kU kR kQ kT kS)⟩ :: ⟨g3,48,[.bool ax,.slice ay aj c1a,.slice az ak aA,.bool aB,.slice aC n1b aG,.slice aF au aH,.bool aP,.slice aQ aK aS,.slice aU aN aY,.bool aV,.slice aW aO aX,.slice aZ aT bf]⟩ :: ⟨g2,48,(a0s aP aQ aK aS aU aN aY aV aW aO aX aZ aT bf)⟩ :: ⟨g1,48,(a0s ax ay aj c1a az ak aA aB aC n1b aG aF au aH)⟩ :: U) (FV (a0p kN jY kJ kC ku kG kE) (lC af ah aI aJ) (4*(8+8)+4*(8+8)+4) true :: FV (a0p jR jH jP jK jI jM jL) (jV af ah aI aJ) (4*(8+8)+4*(8+8)+4) true :: FV (a0p lZ lJ lX lQ lM lV lT) (af+aI) ((8+8)+(8+8)+2) true :: FV (a0p kV kP kU kR kQ kT kS) (ah+aJ) ((8+8)+(8+8)+2) true :: FV (a0p aV aW aO aX aZ aT bf) aJ 8 true :: FV (a0p aP aQ aK aS aU aN aY) aI 8 true :: FV (a0p aB aC n1b aG aF au aH) ah 8 true :: FV (a0p ax ay aj c1a az ak aA) af 8 true :: FV (a0p aV aW aO aX aZ aT bf) aJ bP true :: FV (a0p aP aQ aK aS aU aN aY) aI bM true :: FV (a0p aB aC n1b aG aF au aH) ah bD true :: FV (a0p ax ay aj c1a az ak aA) af bC true :: Ps) w) ?_ ?_
    ·skip
     refine JC.draw HS [] (by kernel_rfl) (fun J4 HS => ?_)
     refine Da (a0r ax ay aj c1a az ak aA aB aC n1b aG aF au aH) 0 2 rfl HS.b0 rfl rfl aYq aYo ?_
     refine Da (a0r aP aQ aK aS aU aN aY aV aW aO aX aZ aT bf) 1 1 rfl HS.b0 rfl rfl aYq aYo ?_
     refine Da (a0r ax ay aj c1a az ak aA aB aC n1b aG aF au aH) 3 2 rfl HS.b0 rfl rfl aYq aYo ?_
     refine Da (a0r aP aQ aK aS aU aN aY aV aW aO aX aZ aT bf) 4 1 rfl HS.b0 rfl rfl aYq aYo ?_
     refine JR.any [2,6,7] (by kernel_rfl) rfl ?_
     refine ai.call rfl rfl rfl aY8 (Qv HT HB HS (HS.at_ 3 rfl) (HS.at_ 2 rfl) (HS.at_ 1 rfl) (HS.at_ 0 rfl) (by omega) fE gV) rfl (fun JW JY yQ => ?_) ?_
     ·skip
      obtain ⟨lZ,lJ,lX,lQ,lM,lV,lT,kV,kP,kU,kR,kQ,kT,kS,rfl,HS⟩:=yQ
      refine ⟨HS.b0,?_⟩
      refine JR.any [5,6,7] (by kernel_rfl) rfl ?_
      refine ai.call rfl rfl rfl aYT (Fq HT HB HS (HS.at_ 5 rfl) (HS.at_ 4 rfl) (HS.at_ 3 rfl) (HS.at_ 2 rfl) (by omega) fE gV) rfl (fun Ld LC zH => ?_) ?_
      ·skip
       obtain ⟨kN,jY,kJ,kC,ku,kG,kE,jR,jH,jP,jK,jI,jM,jL,rfl,HS⟩:=zH
       refine ⟨HS.b0,?_⟩
       refine JR.any [6,7] (by kernel_rfl) rfl ?_
       refine ai.alloc (vs:=cO) HS rfl rfl aYt rfl rfl rfl (fun l9 ZR HS => ?_) ?_
       ·skip
        refine ⟨HS.b1,?_⟩
        refine jy (vs:=cO) 7 HS rfl aYt rfl (fun mD _ HS=>⟨HS.b2,?_⟩)
        refine bF 8 (a0s lZ lJ lX lQ lM lV lT kV kP kU kR kQ kT kS) HS 1 rfl rfl rfl rfl aYo (fun _ HS=>⟨HS.b2,?_⟩)
        refine bF 9 (a0s kN jY kJ kC ku kG kE jR jH jP jK jI jM jL) HS 0 rfl rfl rfl rfl aYo (fun _ HS=>⟨HS.b2,?_⟩)
        exact JR.mt (lZ,lJ,lX,lQ,lM,lV,lT,kV,kP,kU,kR,kQ,kT,kS,kN,jY,kJ,kC,ku,kG,kE,jR,jH,jP,jK,jI,jM,jL,l9,mD) HS
       refine ai.alloc (vs:=cO) HS rfl rfl aYt rfl rfl rfl (fun mD TS HS => ?_) ai.nil
       refine ⟨HS.b1,?_⟩
       refine jy (vs:=cO) 6 HS rfl aYt rfl (fun l9 _ HS=>⟨HS.b2,?_⟩)
       refine bF 8 (a0s lZ lJ lX lQ lM lV lT kV kP kU kR kQ kT kS) HS 0 rfl rfl rfl rfl aYo (fun _ HS=>⟨HS.b2,?_⟩)
       refine bF 9 (a0s kN jY kJ kC ku kG kE jR jH jP jK jI jM jL) HS 1 rfl rfl rfl rfl aYo (fun _ HS=>⟨HS.b2,?_⟩)
       exact JR.mt (lZ,lJ,lX,lQ,lM,lV,lT,kV,kP,kU,kR,kQ,kT,kS,kN,jY,kJ,kC,ku,kG,kE,jR,jH,jP,jK,jI,jM,jL,l9,mD) (HS.perm (.swap _ _ _))
      refine ai.alloc (vs:=cO) HS rfl rfl aYt rfl rfl rfl (fun l9 ZR HS => ?_) ?_
      ·skip
       refine ⟨HS.b1,?_⟩
       refine JR.any [5,7] (by kernel_rfl) rfl ?_
       refine ai.call rfl rfl rfl aYT (Fq HT HB HS (HS.at_ 5 rfl) (HS.at_ 4 rfl) (HS.at_ 3 rfl) (HS.at_ 2 rfl) (by omega) fE gV) rfl (fun Ld LC zH => ?_) ?_
       ·skip
        obtain ⟨kN,jY,kJ,kC,ku,kG,kE,jR,jH,jP,jK,jI,jM,jL,rfl,HS⟩:=zH
        refine ⟨HS.b1,?_⟩
        refine jy (vs:=cO) 7 HS rfl aYt rfl (fun mD _ HS=>⟨HS.b2,?_⟩)
        refine bF 8 (a0s lZ lJ lX lQ lM lV lT kV kP kU kR kQ kT kS) HS 1 rfl rfl rfl rfl aYo (fun _ HS=>⟨HS.b2,?_⟩)
        refine bF 9 (a0s kN jY kJ kC ku kG kE jR jH jP jK jI jM jL) HS 0 rfl rfl rfl rfl aYo (fun _ HS=>⟨HS.b2,?_⟩)
        exact JR.mt (lZ,lJ,lX,lQ,lM,lV,lT,kV,kP,kU,kR,kQ,kT,kS,kN,jY,kJ,kC,ku,kG,kE,jR,jH,jP,jK,jI,jM,jL,l9,mD) HS
       refine ai.alloc (vs:=cO) HS rfl rfl aYt rfl rfl rfl (fun mD TS HS => ?_) ai.nil
       refine ⟨HS.b2,?_⟩
       refine bJ 5 rfl rfl rfl aYT (Fq HT HB HS (HS.at_ 5 rfl) (HS.at_ 4 rfl) (HS.at_ 3 rfl) (HS.at_ 2 rfl) (by omega) fE gV) (fun Ld LC zH => ?_)
       obtain ⟨kN,jY,kJ,kC,ku,kG,kE,jR,jH,jP,jK,jI,jM,jL,rfl,HS⟩:=zH
       refine ⟨HS.b2,?_⟩
       refine bF 8 (a0s lZ lJ lX lQ lM lV lT kV kP kU kR kQ kT kS) HS 1 rfl rfl rfl rfl aYo (fun _ HS=>⟨HS.b2,?_⟩)
       refine bF 9 (a0s kN jY kJ kC ku kG kE jR jH jP jK jI jM jL) HS 0 rfl rfl rfl rfl aYo (fun _ HS=>⟨HS.b2,?_⟩)
       exact JR.mt (lZ,lJ,lX,lQ,lM,lV,lT,kV,kP,kU,kR,kQ,kT,kS,kN,jY,kJ,kC,ku,kG,kE,jR,jH,jP,jK,jI,jM,jL,l9,mD) HS
      refine ai.alloc (vs:=cO) HS rfl rfl aYt rfl rfl rfl (fun mD TS HS => ?_) ai.nil
      refine ⟨HS.b1,?_⟩
      refine JR.any [5,6] (by kernel_rfl) rfl ?_
      refine ai.call rfl rfl rfl aYT (Fq HT HB HS (HS.at_ 5 rfl) (HS.at_ 4 rfl) (HS.at_ 3 rfl) (HS.at_ 2 rfl) (by omega) fE gV) rfl (fun Ld LC zH => ?_) ?_
      ·skip
       obtain ⟨kN,jY,kJ,kC,ku,kG,kE,jR,jH,jP,jK,jI,jM,jL,rfl,HS⟩:=zH
       refine ⟨HS.b1,?_⟩
       refine jy (vs:=cO) 6 HS rfl aYt rfl (fun l9 _ HS=>⟨HS.b2,?_⟩)
       refine bF 8 (a0s lZ lJ lX lQ lM lV lT kV kP kU kR kQ kT kS) HS 0 rfl rfl rfl rfl aYo (fun _ HS=>⟨HS.b2,?_⟩)
       refine bF 9 (a0s kN jY kJ kC ku kG kE jR jH jP jK jI jM jL) HS 1 rfl rfl rfl rfl aYo (fun _ HS=>⟨HS.b2,?_⟩)
       exact JR.mt (lZ,lJ,lX,lQ,lM,lV,lT,kV,kP,kU,kR,kQ,kT,kS,kN,jY,kJ,kC,ku,kG,kE,jR,jH,jP,jK,jI,jM,jL,l9,mD) (HS.perm (.swap _ _ _))
      refine ai.alloc (vs:=cO) HS rfl rfl aYt rfl rfl rfl (fun l9 ZR HS => ?_) ai.nil
      refine ⟨HS.b2,?_⟩
      refine bJ 5 rfl rfl rfl aYT (Fq HT HB HS (HS.at_ 5 rfl) (HS.at_ 4 rfl) (HS.at_ 3 rfl) (HS.at_ 2 rfl) (by omega) fE gV) (fun Ld LC zH => ?_)
      obtain ⟨kN,jY,kJ,kC,ku,kG,kE,jR,jH,jP,jK,jI,jM,jL,rfl,HS⟩:=zH
      refine ⟨HS.b2,?_⟩
      refine bF 8 (a0s lZ lJ lX lQ lM lV lT kV kP kU kR kQ kT kS) HS 0 rfl rfl rfl rfl aYo (fun _ HS=>⟨HS.b2,?_⟩)
      refine bF 9 (a0s kN jY kJ kC ku kG kE jR jH jP jK jI jM jL) HS 1 rfl rfl rfl rfl aYo (fun _ HS=>⟨HS.b2,?_⟩)
      exact JR.mt (lZ,lJ,lX,lQ,lM,lV,lT,kV,kP,kU,kR,kQ,kT,kS,kN,jY,kJ,kC,ku,kG,kE,jR,jH,jP,jK,jI,jM,jL,l9,mD) (HS.perm (.swap _ _ _))
     refine ai.alloc (vs:=cO) HS rfl rfl aYt rfl rfl rfl (fun l9 ZR HS => ?_) ?_
     ·skip
      refine ⟨HS.b1,?_⟩
      refine JR.any [2,7] (by kernel_rfl) rfl ?_
      refine ai.call rfl rfl rfl aY8 (Qv HT HB HS (HS.at_ 3 rfl) (HS.at_ 2 rfl) (HS.at_ 1 rfl) (HS.at_ 0 rfl) (by omega) fE gV) rfl (fun JW JY yQ => ?_) ?_
      ·skip
       obtain ⟨lZ,lJ,lX,lQ,lM,lV,lT,kV,kP,kU,kR,kQ,kT,kS,rfl,HS⟩:=yQ
       refine ⟨HS.b1,?_⟩
       refine JR.any [5,7] (by kernel_rfl) rfl ?_
       refine ai.call rfl rfl rfl aYT (Fq HT HB HS (HS.at_ 5 rfl) (HS.at_ 4 rfl) (HS.at_ 3 rfl) (HS.at_ 2 rfl) (by omega) fE gV) rfl (fun Ld LC zH => ?_) ?_
       ·skip
        obtain ⟨kN,jY,kJ,kC,ku,kG,kE,jR,jH,jP,jK,jI,jM,jL,rfl,HS⟩:=zH
        refine ⟨HS.b1,?_⟩
        refine jy (vs:=cO) 7 HS rfl aYt rfl (fun mD _ HS=>⟨HS.b2,?_⟩)
        refine bF 8 (a0s lZ lJ lX lQ lM lV lT kV kP kU kR kQ kT kS) HS 1 rfl rfl rfl rfl aYo (fun _ HS=>⟨HS.b2,?_⟩)
        refine bF 9 (a0s kN jY kJ kC ku kG kE jR jH jP jK jI jM jL) HS 0 rfl rfl rfl rfl aYo (fun _ HS=>⟨HS.b2,?_⟩)
        exact JR.mt (lZ,lJ,lX,lQ,lM,lV,lT,kV,kP,kU,kR,kQ,kT,kS,kN,jY,kJ,kC,ku,kG,kE,jR,jH,jP,jK,jI,jM,jL,l9,mD) HS
       refine ai.alloc (vs:=cO) HS rfl rfl aYt rfl rfl rfl (fun mD TS HS => ?_) ai.nil
       refine ⟨HS.b2,?_⟩
       refine bJ 5 rfl rfl rfl aYT (Fq HT HB HS (HS.at_ 5 rfl) (HS.at_ 4 rfl) (HS.at_ 3 rfl) (HS.at_ 2 rfl) (by omega) fE gV) (fun Ld LC zH => ?_)
       obtain ⟨kN,jY,kJ,kC,ku,kG,kE,jR,jH,jP,jK,jI,jM,jL,rfl,HS⟩:=zH
       refine ⟨HS.b2,?_⟩
       refine bF 8 (a0s lZ lJ lX lQ lM lV lT kV kP kU kR kQ kT kS) HS 1 rfl rfl rfl rfl aYo (fun _ HS=>⟨HS.b2,?_⟩)
       refine bF 9 (a0s kN jY kJ kC ku kG kE jR jH jP jK jI jM jL) HS 0 rfl rfl rfl rfl aYo (fun _ HS=>⟨HS.b2,?_⟩)
       exact JR.mt (lZ,lJ,lX,lQ,lM,lV,lT,kV,kP,kU,kR,kQ,kT,kS,kN,jY,kJ,kC,ku,kG,kE,jR,jH,jP,jK,jI,jM,jL,l9,mD) HS
      refine ai.alloc (vs:=cO) HS rfl rfl aYt rfl rfl rfl (fun mD TS HS => ?_) ai.nil
      refine ⟨HS.b2,?_⟩
      refine bJ 2 rfl rfl rfl aY8 (Qv HT HB HS (HS.at_ 3 rfl) (HS.at_ 2 rfl) (HS.at_ 1 rfl) (HS.at_ 0 rfl) (by omega) fE gV) (fun JW JY yQ => ?_)
      obtain ⟨lZ,lJ,lX,lQ,lM,lV,lT,kV,kP,kU,kR,kQ,kT,kS,rfl,HS⟩:=yQ
      refine ⟨HS.b2,?_⟩
      refine bJ 5 rfl rfl rfl aYT (Fq HT HB HS (HS.at_ 5 rfl) (HS.at_ 4 rfl) (HS.at_ 3 rfl) (HS.at_ 2 rfl) (by omega) fE gV) (fun Ld LC zH => ?_)
      obtain ⟨kN,jY,kJ,kC,ku,kG,kE,jR,jH,jP,jK,jI,jM,jL,rfl,HS⟩:=zH
      refine ⟨HS.b2,?_⟩
      refine bF 8 (a0s lZ lJ lX lQ lM lV lT kV kP kU kR kQ kT kS) HS 1 rfl rfl rfl rfl aYo (fun _ HS=>⟨HS.b2,?_⟩)
      refine bF 9 (a0s kN jY kJ kC ku kG kE jR jH jP jK jI jM jL) HS 0 rfl rfl rfl rfl aYo (fun _ HS=>⟨HS.b2,?_⟩)
      exact JR.mt (lZ,lJ,lX,lQ,lM,lV,lT,kV,kP,kU,kR,kQ,kT,kS,kN,jY,kJ,kC,ku,kG,kE,jR,jH,jP,jK,jI,jM,jL,l9,mD) HS
     refine ai.alloc (vs:=cO) HS rfl rfl aYt rfl rfl rfl (fun mD TS HS => ?_) ai.nil
     refine ⟨HS.b1,?_⟩
     refine JR.any [2,6] (by kernel_rfl) rfl ?_
     refine ai.call rfl rfl rfl aY8 (Qv HT HB HS (HS.at_ 3 rfl) (HS.at_ 2 rfl) (HS.at_ 1 rfl) (HS.at_ 0 rfl) (by omega) fE gV) rfl (fun JW JY yQ => ?_) ?_
     ·skip
      obtain ⟨lZ,lJ,lX,lQ,lM,lV,lT,kV,kP,kU,kR,kQ,kT,kS,rfl,HS⟩:=yQ
      refine ⟨HS.b1,?_⟩
      refine JR.any [5,6] (by kernel_rfl) rfl ?_
      refine ai.call rfl rfl rfl aYT (Fq HT HB HS (HS.at_ 5 rfl) (HS.at_ 4 rfl) (HS.at_ 3 rfl) (HS.at_ 2 rfl) (by omega) fE gV) rfl (fun Ld LC zH => ?_) ?_
      ·skip
       obtain ⟨kN,jY,kJ,kC,ku,kG,kE,jR,jH,jP,jK,jI,jM,jL,rfl,HS⟩:=zH
       refine ⟨HS.b1,?_⟩
       refine jy (vs:=cO) 6 HS rfl aYt rfl (fun l9 _ HS=>⟨HS.b2,?_⟩)
       refine bF 8 (a0s lZ lJ lX lQ lM lV lT kV kP kU kR kQ kT kS) HS 0 rfl rfl rfl rfl aYo (fun _ HS=>⟨HS.b2,?_⟩)
       refine bF 9 (a0s kN jY kJ kC ku kG kE jR jH jP jK jI jM jL) HS 1 rfl rfl rfl rfl aYo (fun _ HS=>⟨HS.b2,?_⟩)
       exact JR.mt (lZ,lJ,lX,lQ,lM,lV,lT,kV,kP,kU,kR,kQ,kT,kS,kN,jY,kJ,kC,ku,kG,kE,jR,jH,jP,jK,jI,jM,jL,l9,mD) (HS.perm (.swap _ _ _))
      refine ai.alloc (vs:=cO) HS rfl rfl aYt rfl rfl rfl (fun l9 ZR HS => ?_) ai.nil
      refine ⟨HS.b2,?_⟩
      refine bJ 5 rfl rfl rfl aYT (Fq HT HB HS (HS.at_ 5 rfl) (HS.at_ 4 rfl) (HS.at_ 3 rfl) (HS.at_ 2 rfl) (by omega) fE gV) (fun Ld LC zH => ?_)
      obtain ⟨kN,jY,kJ,kC,ku,kG,kE,jR,jH,jP,jK,jI,jM,jL,rfl,HS⟩:=zH
      refine ⟨HS.b2,?_⟩
      refine bF 8 (a0s lZ lJ lX lQ lM lV lT kV kP kU kR kQ kT kS) HS 0 rfl rfl rfl rfl aYo (fun _ HS=>⟨HS.b2,?_⟩)
      refine bF 9 (a0s kN jY kJ kC ku kG kE jR jH jP jK jI jM jL) HS 1 rfl rfl rfl rfl aYo (fun _ HS=>⟨HS.b2,?_⟩)
      exact JR.mt (lZ,lJ,lX,lQ,lM,lV,lT,kV,kP,kU,kR,kQ,kT,kS,kN,jY,kJ,kC,ku,kG,kE,jR,jH,jP,jK,jI,jM,jL,l9,mD) (HS.perm (.swap _ _ _))
     refine ai.alloc (vs:=cO) HS rfl rfl aYt rfl rfl rfl (fun l9 ZR HS => ?_) ai.nil
     refine ⟨HS.b2,?_⟩
     refine bJ 2 rfl rfl rfl aY8 (Qv HT HB HS (HS.at_ 3 rfl) (HS.at_ 2 rfl) (HS.at_ 1 rfl) (HS.at_ 0 rfl) (by omega) fE gV) (fun JW JY yQ => ?_)
     obtain ⟨lZ,lJ,lX,lQ,lM,lV,lT,kV,kP,kU,kR,kQ,kT,kS,rfl,HS⟩:=yQ
     refine ⟨HS.b2,?_⟩
     refine bJ 5 rfl rfl rfl aYT (Fq HT HB HS (HS.at_ 5 rfl) (HS.at_ 4 rfl) (HS.at_ 3 rfl) (HS.at_ 2 rfl) (by omega) fE gV) (fun Ld LC zH => ?_)
     obtain ⟨kN,jY,kJ,kC,ku,kG,kE,jR,jH,jP,jK,jI,jM,jL,rfl,HS⟩:=zH
     refine ⟨HS.b2,?_⟩
     refine bF 8 (a0s lZ lJ lX lQ lM lV lT kV kP kU kR kQ kT kS) HS 0 rfl rfl rfl rfl aYo (fun _ HS=>⟨HS.b2,?_⟩)
     refine bF 9 (a0s kN jY kJ kC ku kG kE jR jH jP jK jI jM jL) HS 1 rfl rfl rfl rfl aYo (fun _ HS=>⟨HS.b2,?_⟩)
     exact JR.mt (lZ,lJ,lX,lQ,lM,lV,lT,kV,kP,kU,kR,kQ,kT,kS,kN,jY,kJ,kC,ku,kG,kE,jR,jH,jP,jK,jI,jM,jL,l9,mD) (HS.perm (.swap _ _ _))
    ·skip
     rintro ⟨lZ,lJ,lX,lQ,lM,lV,lT,kV,kP,kU,kR,kQ,kT,kS,kN,jY,kJ,kC,ku,kG,kE,jR,jH,jP,jK,jI,jM,jL,l9,mD⟩ ako HS
     try dsimp only at HS ⊢
     refine JC.seq ?_
     refine JC.region ?_
     refine Lv (.bool false) (fun a ha=>run_assign (ha.ev rfl)) ?_
     refine Lv (.bool false) (fun a ha=>run_assign (ha.ev rfl)) ?_
     refine Lv (.bool false) (fun a ha=>run_assign (ha.ev rfl)) ?_
     refine Lv (.bool false) (fun a ha=>run_assign (ha.ev rfl)) ?_
     refine jn ?_
     refine JC.seq ?_
     refine JC.seq ?_
     refine JC.region ?_
     refine Lv (.pointer (some ⟨g1,0,none⟩)) (fun a ha=>bH (ha.ev rfl) aYr rfl aYn rfl rfl) ?_
     refine JL.load (a0p ax ay aj c1a az ak aA) HS 4 rfl rfl rfl aYp aYn rfl rfl ?_
     refine Lv (.pointer (some ⟨g1,3,none⟩)) (fun a ha=>bH (ha.ev rfl) aYr rfl aYn rfl rfl) ?_
     refine JL.load (a0p aB aC n1b aG aF au aH) HS 4 rfl rfl rfl aYp aYn rfl rfl ?_
     refine JL.buildSlice (ps:=[(0,(a0p ax ay aj c1a az ak aA)),(1,(a0p aB aC n1b aG aF au aH))]) (vs:=(a0s ax ay aj c1a az ak aA aB aC n1b aG aF au aH)) HS rfl (fun a ha=>by simp only [List.map_cons,List.map_nil,ha.ev (x := .tmp 44) (v:=(a0p ax ay aj c1a az ak aA)) rfl,ha.ev (x := .tmp 46) (v:=(a0p aB aC n1b aG aF au aH)) rfl]) aYC aYn aYs rfl rfl (by kernel_rfl) rfl (fun g16 w16 HS => ?_)
     refine Lv (.int .i64 2) (fun a ha=>yV (ha.ev rfl) aYC) ?_
     refine Lv (.int .i64 0) (fun a ha=>run_move (ha.ev rfl)) ?_
     refine jn ?_
     refine JC.block ?_
     refine JC.Qr 40 ?_
     refine JC.seq ?_
     refine JC.region ?_
     refine Lv (.bool true) (fun a ha=>qX (ha.ev rfl) (ha.ev rfl) (by decide)) ?_
     refine jn ?_
     refine JC.seq ?_
     refine JC.iy rfl ?_
     refine JC.jF (fun _ _ h=>h) ?_
     refine JC.seq ?_
     refine JC.block ?_
     refine JC.seq ?_
     refine JC.region ?_
     refine Lv (.pointer (some ⟨g16,0,none⟩)) (fun a ha=>zC (ha.ev rfl) (ha.ev rfl) aYC aYn (j:=0) rfl (by decide) rfl) ?_
     refine JL.load (a0p ax ay aj c1a az ak aA) HS 0 rfl rfl rfl aYp aYn rfl rfl ?_
     refine JL.alloc (vs:=bU) HS rfl aYs rfl rfl (fun g17 LH HS => ?_)
     refine JL.store HS rfl rfl (i:=0) rfl aYn rfl rfl rfl (vs':=(a0q ax ay aj c1a az ak aA)) rfl rfl (fun QA HS => ?_)
     refine jn ?_
     refine JC.seq ?_
     refine JC.region ?_
     refine Lv (.pointer (some ⟨g2,0,none⟩)) (fun a ha=>bH (ha.ev rfl) aYr rfl aYn rfl rfl) ?_
     refine JL.load (a0p aP aQ aK aS aU aN aY) HS 5 rfl rfl rfl aYp aYn rfl rfl ?_
     refine Lv (.pointer (some ⟨g2,3,none⟩)) (fun a ha=>bH (ha.ev rfl) aYr rfl aYn rfl rfl) ?_
     refine JL.load (a0p aV aW aO aX aZ aT bf) HS 5 rfl rfl rfl aYp aYn rfl rfl ?_
     refine JL.buildSlice (ps:=[(0,(a0p aP aQ aK aS aU aN aY)),(1,(a0p aV aW aO aX aZ aT bf))]) (vs:=(a0s aP aQ aK aS aU aN aY aV aW aO aX aZ aT bf)) HS rfl (fun a ha=>by simp only [List.map_cons,List.map_nil,ha.ev (x := .tmp 54) (v:=(a0p aP aQ aK aS aU aN aY)) rfl,ha.ev (x := .tmp 56) (v:=(a0p aV aW aO aX aZ aT bf)) rfl]) aYC aYn aYs rfl rfl (by kernel_rfl) rfl (fun g19 O6 HS => ?_)
     refine Lv (.int .i64 2) (fun a ha=>yV (ha.ev rfl) aYC) ?_
     refine Lv (.int .i64 0) (fun a ha=>run_move (ha.ev rfl)) ?_
     refine jn ?_
     refine JC.block ?_
     refine JC.Qr 40 ?_
     refine JC.seq ?_
     refine JC.region ?_
     refine Lv (.bool true) (fun a ha=>qX (ha.ev rfl) (ha.ev rfl) (by decide)) ?_
     refine jn ?_
     refine JC.seq ?_
     refine JC.iy rfl ?_
     refine JC.jF (fun _ _ h=>h) ?_
     refine JC.seq ?_
     refine JC.block ?_
     refine JC.seq ?_
     refine JC.region ?_
     refine Lv (.pointer (some ⟨g19,0,none⟩)) (fun a ha=>zC (ha.ev rfl) (ha.ev rfl) aYC aYn (j:=0) rfl (by decide) rfl) ?_
     refine JL.load (a0p aP aQ aK aS aU aN aY) HS 0 rfl rfl rfl aYp aYn rfl rfl ?_
     refine JL.alloc (vs:=bU) HS rfl aYs rfl rfl (fun g20 O7 HS => ?_)
     refine JL.store HS rfl rfl (i:=0) rfl aYn rfl rfl rfl (vs':=(a0q aP aQ aK aS aU aN aY)) rfl rfl (fun VI HS => ?_)
     refine jn ?_
     refine JC.cut (ι:=PT) (fun ⟨nK,ni,nJ,nD,nC,nI,nG,lF,kW,lD,kY,kX,lq,kZ,uN,uO⟩=>[(0,(a0r ax ay aj c1a az ak aA aB aC n1b aG aF au aH)),(1,(a0r aP aQ aK aS aU aN aY aV aW aO aX aZ aT bf)),(2,.pointer (some ⟨g1,0,none⟩)),(3,.pointer (some ⟨g2,0,none⟩)),(4,.bool false),(5,.pointer (some ⟨l9,0,none⟩)),(6,.pointer (some ⟨mD,0,none⟩)),(7,.bool false),(8,.bool false),(9,.bool false),(10,.bool false),(12,.pointer (some ⟨g17,0,none⟩)),(14,.pointer (some ⟨g20,0,none⟩)),(15,.pointer (some ⟨uN,0,none⟩)),(16,.pointer (some ⟨uO,0,none⟩)),(17,(a0r ax ay aj c1a az ak aA aB aC n1b aG aF au aH)),(18,(a0r aP aQ aK aS aU aN aY aV aW aO aX aZ aT bf)),(19,.slice (some ⟨g3,0,none⟩) 2 2),(20,.bool true),(21,.bool false),(22,.bool false),(23,(a0r ax ay aj c1a az ak aA aB aC n1b aG aF au aH)),(24,.bool true),(25,.bool false),(26,.bool false),(27,.bool false),(28,(a0r aP aQ aK aS aU aN aY aV aW aO aX aZ aT bf)),(29,.bool true),(30,.bool false),(31,.bool false),(32,.bool false),(33,.bool true),(34,.bool false),(35,.bool false),(43,.pointer (some ⟨g1,0,none⟩)),(44,(a0p ax ay aj c1a az ak aA)),(45,.pointer (some ⟨g1,3,none⟩)),(46,(a0p aB aC n1b aG aF au aH)),(47,.slice (some ⟨g16,0,none⟩) 2 2),(48,.int .i64 2),(49,.int .i64 0),(50,.bool true),(51,.pointer (some ⟨g16,0,none⟩)),(52,(a0p ax ay aj c1a az ak aA)),(53,.pointer (some ⟨g2,0,none⟩)),(54,(a0p aP aQ aK aS aU aN aY)),(55,.pointer (some ⟨g2,3,none⟩)),(56,(a0p aV aW aO aX aZ aT bf)),(57,.slice (some ⟨g19,0,none⟩) 2 2),(58,.int .i64 2),(59,.int .i64 0),(60,.bool true),(61,.pointer (some ⟨g19,0,none⟩)),(62,(a0p aP aQ aK aS aU aN aY))]) (fun ⟨nK,ni,nJ,nD,nC,nI,nG,lF,kW,lD,kY,kX,lq,kZ,uN,uO⟩ w=>St W0 (⟨uO,24,(a0q lF kW lD kY kX lq kZ)⟩ :: ⟨uN,24,(a0q nK ni nJ nD nC nI nG)⟩ :: ⟨g20,24,(a0q aP aQ aK aS aU aN aY)⟩ :: ⟨g19,24,(a0s aP aQ aK aS aU aN aY aV aW aO aX aZ aT bf)⟩ :: ⟨g17,24,(a0q ax ay aj c1a az ak aA)⟩ :: ⟨g16,24,(a0s ax ay aj c1a az ak aA aB aC n1b aG aF au aH)⟩ :: ⟨mD,48,(a0s kN jY kJ kC ku kG kE jR jH jP jK jI jM jL)⟩ :: ⟨l9,48,(a0s lZ lJ lX lQ lM lV lT kV kP kU kR kQ kT kS)⟩ :: ⟨g3,48,[.bool ax,.slice ay aj c1a,.slice az ak aA,.bool aB,.slice aC n1b aG,.slice aF au aH,.bool aP,.slice aQ aK aS,.slice aU aN aY,.bool aV,.slice aW aO aX,.slice aZ aT bf]⟩ :: ⟨g2,48,(a0s aP aQ aK aS aU aN aY aV aW aO aX aZ aT bf)⟩ :: ⟨g1,48,(a0s ax ay aj c1a az ak aA aB aC n1b aG aF au aH)⟩ :: U) (FV (a0p lF kW lD kY kX lq kZ) (af*aI) (8+8+2) true :: FV (a0p nK ni nJ nD nC nI nG) (af+aI) (8+8+2) true :: FV (a0p kN jY kJ kC ku kG kE) (lC af ah aI aJ) (4*(8+8)+4*(8+8)+4) true :: FV (a0p jR jH jP jK jI jM jL) (jV af ah aI aJ) (4*(8+8)+4*(8+8)+4) true :: FV (a0p lZ lJ lX lQ lM lV lT) (af+aI) ((8+8)+(8+8)+2) true :: FV (a0p kV kP kU kR kQ kT kS) (ah+aJ) ((8+8)+(8+8)+2) true :: FV (a0p aV aW aO aX aZ aT bf) aJ 8 true :: FV (a0p aP aQ aK aS aU aN aY) aI 8 true :: FV (a0p aB aC n1b aG aF au aH) ah 8 true :: FV (a0p ax ay aj c1a az ak aA) af 8 true :: FV (a0p aV aW aO aX aZ aT bf) aJ bP true :: FV (a0p aP aQ aK aS aU aN aY) aI bM true :: FV (a0p aB aC n1b aG aF au aH) ah bD true :: FV (a0p ax ay aj c1a az ak aA) af bC true :: Ps) w) ?_ ?_
     ·skip
      refine JC.draw HS [] (by kernel_rfl) (fun Z5 HS => ?_)
      refine Da (a0p ax ay aj c1a az ak aA) 0 2 rfl HS.b0 rfl rfl aYp aYn ?_
      refine Da (a0p aP aQ aK aS aU aN aY) 1 0 rfl HS.b0 rfl rfl aYp aYn ?_
      refine Da (a0p ax ay aj c1a az ak aA) 3 2 rfl HS.b0 rfl rfl aYp aYn ?_
      refine Da (a0p aP aQ aK aS aU aN aY) 4 0 rfl HS.b0 rfl rfl aYp aYn ?_
      refine JR.any [2,6,7] (by kernel_rfl) rfl ?_
      refine ai.call rfl rfl rfl aYG (xu HT HB HS (HS.at_ 7 rfl) (HS.at_ 5 rfl) (by omega)) rfl (fun aeQ ae6 MZ => ?_) ?_
      ·skip
       obtain ⟨nK,ni,nJ,nD,nC,nI,nG,rfl,HS⟩:=MZ
       refine ⟨HS.b0,?_⟩
       refine JR.any [5,6,7] (by kernel_rfl) rfl ?_
       refine ai.call rfl rfl rfl aYv (iQ HT HB HS (HS.at_ 8 rfl) (HS.at_ 6 rfl) (by omega)) rfl (fun Lj LK zK => ?_) ?_
       ·skip
        obtain ⟨lF,kW,lD,kY,kX,lq,kZ,rfl,HS⟩:=zK
        refine ⟨HS.b0,?_⟩
        refine JR.any [6,7] (by kernel_rfl) rfl ?_
        refine ai.alloc (vs:=bU) HS rfl rfl aYs rfl rfl rfl (fun uN Z4 HS => ?_) ?_
        ·skip
         refine ⟨HS.b1,?_⟩
         refine jy (vs:=bU) 7 HS rfl aYs rfl (fun uO _ HS=>⟨HS.b2,?_⟩)
         refine bF 8 (a0q nK ni nJ nD nC nI nG) HS 1 rfl rfl rfl rfl aYn (fun _ HS=>⟨HS.b2,?_⟩)
         refine bF 9 (a0q lF kW lD kY kX lq kZ) HS 0 rfl rfl rfl rfl aYn (fun _ HS=>⟨HS.b2,?_⟩)
         exact JR.mt (nK,ni,nJ,nD,nC,nI,nG,lF,kW,lD,kY,kX,lq,kZ,uN,uO) HS
        refine ai.alloc (vs:=bU) HS rfl rfl aYs rfl rfl rfl (fun uO TT HS => ?_) ai.nil
        refine ⟨HS.b1,?_⟩
        refine jy (vs:=bU) 6 HS rfl aYs rfl (fun uN _ HS=>⟨HS.b2,?_⟩)
        refine bF 8 (a0q nK ni nJ nD nC nI nG) HS 0 rfl rfl rfl rfl aYn (fun _ HS=>⟨HS.b2,?_⟩)
        refine bF 9 (a0q lF kW lD kY kX lq kZ) HS 1 rfl rfl rfl rfl aYn (fun _ HS=>⟨HS.b2,?_⟩)
        exact JR.mt (nK,ni,nJ,nD,nC,nI,nG,lF,kW,lD,kY,kX,lq,kZ,uN,uO) (HS.perm (.swap _ _ _))
       refine ai.alloc (vs:=bU) HS rfl rfl aYs rfl rfl rfl (fun uN Z4 HS => ?_) ?_
       ·skip
        refine ⟨HS.b1,?_⟩
        refine JR.any [5,7] (by kernel_rfl) rfl ?_
        refine ai.call rfl rfl rfl aYv (iQ HT HB HS (HS.at_ 8 rfl) (HS.at_ 6 rfl) (by omega)) rfl (fun Lj LK zK => ?_) ?_
        ·skip
         obtain ⟨lF,kW,lD,kY,kX,lq,kZ,rfl,HS⟩:=zK
         refine ⟨HS.b1,?_⟩
         refine jy (vs:=bU) 7 HS rfl aYs rfl (fun uO _ HS=>⟨HS.b2,?_⟩)
         refine bF 8 (a0q nK ni nJ nD nC nI nG) HS 1 rfl rfl rfl rfl aYn (fun _ HS=>⟨HS.b2,?_⟩)
         refine bF 9 (a0q lF kW lD kY kX lq kZ) HS 0 rfl rfl rfl rfl aYn (fun _ HS=>⟨HS.b2,?_⟩)
         exact JR.mt (nK,ni,nJ,nD,nC,nI,nG,lF,kW,lD,kY,kX,lq,kZ,uN,uO) HS
        refine ai.alloc (vs:=bU) HS rfl rfl aYs rfl rfl rfl (fun uO TT HS => ?_) ai.nil
        refine ⟨HS.b2,?_⟩
        refine bJ 5 rfl rfl rfl aYv (iQ HT HB HS (HS.at_ 8 rfl) (HS.at_ 6 rfl) (by omega)) (fun Lj LK zK => ?_)
        obtain ⟨lF,kW,lD,kY,kX,lq,kZ,rfl,HS⟩:=zK
        refine ⟨HS.b2,?_⟩
        refine bF 8 (a0q nK ni nJ nD nC nI nG) HS 1 rfl rfl rfl rfl aYn (fun _ HS=>⟨HS.b2,?_⟩)
        refine bF 9 (a0q lF kW lD kY kX lq kZ) HS 0 rfl rfl rfl rfl aYn (fun _ HS=>⟨HS.b2,?_⟩)
        exact JR.mt (nK,ni,nJ,nD,nC,nI,nG,lF,kW,lD,kY,kX,lq,kZ,uN,uO) HS
       refine ai.alloc (vs:=bU) HS rfl rfl aYs rfl rfl rfl (fun uO TT HS => ?_) ai.nil
       refine ⟨HS.b1,?_⟩
       refine JR.any [5,6] (by kernel_rfl) rfl ?_
       refine ai.call rfl rfl rfl aYv (iQ HT HB HS (HS.at_ 8 rfl) (HS.at_ 6 rfl) (by omega)) rfl (fun Lj LK zK => ?_) ?_
       ·skip
        obtain ⟨lF,kW,lD,kY,kX,lq,kZ,rfl,HS⟩:=zK
        refine ⟨HS.b1,?_⟩
        refine jy (vs:=bU) 6 HS rfl aYs rfl (fun uN _ HS=>⟨HS.b2,?_⟩)
        refine bF 8 (a0q nK ni nJ nD nC nI nG) HS 0 rfl rfl rfl rfl aYn (fun _ HS=>⟨HS.b2,?_⟩)
        refine bF 9 (a0q lF kW lD kY kX lq kZ) HS 1 rfl rfl rfl rfl aYn (fun _ HS=>⟨HS.b2,?_⟩)
        exact JR.mt (nK,ni,nJ,nD,nC,nI,nG,lF,kW,lD,kY,kX,lq,kZ,uN,uO) (HS.perm (.swap _ _ _))
       refine ai.alloc (vs:=bU) HS rfl rfl aYs rfl rfl rfl (fun uN Z4 HS => ?_) ai.nil
       refine ⟨HS.b2,?_⟩
       refine bJ 5 rfl rfl rfl aYv (iQ HT HB HS (HS.at_ 8 rfl) (HS.at_ 6 rfl) (by omega)) (fun Lj LK zK => ?_)
       obtain ⟨lF,kW,lD,kY,kX,lq,kZ,rfl,HS⟩:=zK
       refine ⟨HS.b2,?_⟩
       refine bF 8 (a0q nK ni nJ nD nC nI nG) HS 0 rfl rfl rfl rfl aYn (fun _ HS=>⟨HS.b2,?_⟩)
       refine bF 9 (a0q lF kW lD kY kX lq kZ) HS 1 rfl rfl rfl rfl aYn (fun _ HS=>⟨HS.b2,?_⟩)
       exact JR.mt (nK,ni,nJ,nD,nC,nI,nG,lF,kW,lD,kY,kX,lq,kZ,uN,uO) (HS.perm (.swap _ _ _))
      refine ai.alloc (vs:=bU) HS rfl rfl aYs rfl rfl rfl (fun uN Z4 HS => ?_) ?_
      ·skip
       refine ⟨HS.b1,?_⟩
       refine JR.any [2,7] (by kernel_rfl) rfl ?_
       refine ai.call rfl rfl rfl aYG (xu HT HB HS (HS.at_ 7 rfl) (HS.at_ 5 rfl) (by omega)) rfl (fun aeQ ae6 MZ => ?_) ?_
       ·skip
        obtain ⟨nK,ni,nJ,nD,nC,nI,nG,rfl,HS⟩:=MZ
        refine ⟨HS.b1,?_⟩
        refine JR.any [5,7] (by kernel_rfl) rfl ?_
        refine ai.call rfl rfl rfl aYv (iQ HT HB HS (HS.at_ 8 rfl) (HS.at_ 6 rfl) (by omega)) rfl (fun Lj LK zK => ?_) ?_
        ·skip
         obtain ⟨lF,kW,lD,kY,kX,lq,kZ,rfl,HS⟩:=zK
         refine ⟨HS.b1,?_⟩
         refine jy (vs:=bU) 7 HS rfl aYs rfl (fun uO _ HS=>⟨HS.b2,?_⟩)
         refine bF 8 (a0q nK ni nJ nD nC nI nG) HS 1 rfl rfl rfl rfl aYn (fun _ HS=>⟨HS.b2,?_⟩)
         refine bF 9 (a0q lF kW lD kY kX lq kZ) HS 0 rfl rfl rfl rfl aYn (fun _ HS=>⟨HS.b2,?_⟩)
         exact JR.mt (nK,ni,nJ,nD,nC,nI,nG,lF,kW,lD,kY,kX,lq,kZ,uN,uO) HS
        refine ai.alloc (vs:=bU) HS rfl rfl aYs rfl rfl rfl (fun uO TT HS => ?_) ai.nil
        refine ⟨HS.b2,?_⟩
        refine bJ 5 rfl rfl rfl aYv (iQ HT HB HS (HS.at_ 8 rfl) (HS.at_ 6 rfl) (by omega)) (fun Lj LK zK => ?_)
        obtain ⟨lF,kW,lD,kY,kX,lq,kZ,rfl,HS⟩:=zK
        refine ⟨HS.b2,?_⟩
        refine bF 8 (a0q nK ni nJ nD nC nI nG) HS 1 rfl rfl rfl rfl aYn (fun _ HS=>⟨HS.b2,?_⟩)
        refine bF 9 (a0q lF kW lD kY kX lq kZ) HS 0 rfl rfl rfl rfl aYn (fun _ HS=>⟨HS.b2,?_⟩)
        exact JR.mt (nK,ni,nJ,nD,nC,nI,nG,lF,kW,lD,kY,kX,lq,kZ,uN,uO) HS
       refine ai.alloc (vs:=bU) HS rfl rfl aYs rfl rfl rfl (fun uO TT HS => ?_) ai.nil
       refine ⟨HS.b2,?_⟩
       refine bJ 2 rfl rfl rfl aYG (xu HT HB HS (HS.at_ 7 rfl) (HS.at_ 5 rfl) (by omega)) (fun aeQ ae6 MZ => ?_)
       obtain ⟨nK,ni,nJ,nD,nC,nI,nG,rfl,HS⟩:=MZ
       refine ⟨HS.b2,?_⟩
       refine bJ 5 rfl rfl rfl aYv (iQ HT HB HS (HS.at_ 8 rfl) (HS.at_ 6 rfl) (by omega)) (fun Lj LK zK => ?_)
       obtain ⟨lF,kW,lD,kY,kX,lq,kZ,rfl,HS⟩:=zK
       refine ⟨HS.b2,?_⟩
       refine bF 8 (a0q nK ni nJ nD nC nI nG) HS 1 rfl rfl rfl rfl aYn (fun _ HS=>⟨HS.b2,?_⟩)
       refine bF 9 (a0q lF kW lD kY kX lq kZ) HS 0 rfl rfl rfl rfl aYn (fun _ HS=>⟨HS.b2,?_⟩)
       exact JR.mt (nK,ni,nJ,nD,nC,nI,nG,lF,kW,lD,kY,kX,lq,kZ,uN,uO) HS
      refine ai.alloc (vs:=bU) HS rfl rfl aYs rfl rfl rfl (fun uO TT HS => ?_) ai.nil
      refine ⟨HS.b1,?_⟩
      refine JR.any [2,6] (by kernel_rfl) rfl ?_
      refine ai.call rfl rfl rfl aYG (xu HT HB HS (HS.at_ 7 rfl) (HS.at_ 5 rfl) (by omega)) rfl (fun aeQ ae6 MZ => ?_) ?_
      ·skip
       obtain ⟨nK,ni,nJ,nD,nC,nI,nG,rfl,HS⟩:=MZ
       refine ⟨HS.b1,?_⟩
       refine JR.any [5,6] (by kernel_rfl) rfl ?_
       refine ai.call rfl rfl rfl aYv (iQ HT HB HS (HS.at_ 8 rfl) (HS.at_ 6 rfl) (by omega)) rfl (fun Lj LK zK => ?_) ?_
       ·skip
        obtain ⟨lF,kW,lD,kY,kX,lq,kZ,rfl,HS⟩:=zK
        refine ⟨HS.b1,?_⟩
        refine jy (vs:=bU) 6 HS rfl aYs rfl (fun uN _ HS=>⟨HS.b2,?_⟩)
        refine bF 8 (a0q nK ni nJ nD nC nI nG) HS 0 rfl rfl rfl rfl aYn (fun _ HS=>⟨HS.b2,?_⟩)
        refine bF 9 (a0q lF kW lD kY kX lq kZ) HS 1 rfl rfl rfl rfl aYn (fun _ HS=>⟨HS.b2,?_⟩)
        exact JR.mt (nK,ni,nJ,nD,nC,nI,nG,lF,kW,lD,kY,kX,lq,kZ,uN,uO) (HS.perm (.swap _ _ _))
       refine ai.alloc (vs:=bU) HS rfl rfl aYs rfl rfl rfl (fun uN Z4 HS => ?_) ai.nil
       refine ⟨HS.b2,?_⟩
       refine bJ 5 rfl rfl rfl aYv (iQ HT HB HS (HS.at_ 8 rfl) (HS.at_ 6 rfl) (by omega)) (fun Lj LK zK => ?_)
       obtain ⟨lF,kW,lD,kY,kX,lq,kZ,rfl,HS⟩:=zK
       refine ⟨HS.b2,?_⟩
       refine bF 8 (a0q nK ni nJ nD nC nI nG) HS 0 rfl rfl rfl rfl aYn (fun _ HS=>⟨HS.b2,?_⟩)
       refine bF 9 (a0q lF kW lD kY kX lq kZ) HS 1 rfl rfl rfl rfl aYn (fun _ HS=>⟨HS.b2,?_⟩)
       exact JR.mt (nK,ni,nJ,nD,nC,nI,nG,lF,kW,lD,kY,kX,lq,kZ,uN,uO) (HS.perm (.swap _ _ _))
      refine ai.alloc (vs:=bU) HS rfl rfl aYs rfl rfl rfl (fun uN Z4 HS => ?_) ai.nil
      refine ⟨HS.b2,?_⟩
      refine bJ 2 rfl rfl rfl aYG (xu HT HB HS (HS.at_ 7 rfl) (HS.at_ 5 rfl) (by omega)) (fun aeQ ae6 MZ => ?_)
      obtain ⟨nK,ni,nJ,nD,nC,nI,nG,rfl,HS⟩:=MZ
      refine ⟨HS.b2,?_⟩
      refine bJ 5 rfl rfl rfl aYv (iQ HT HB HS (HS.at_ 8 rfl) (HS.at_ 6 rfl) (by omega)) (fun Lj LK zK => ?_)
      obtain ⟨lF,kW,lD,kY,kX,lq,kZ,rfl,HS⟩:=zK
      refine ⟨HS.b2,?_⟩
      refine bF 8 (a0q nK ni nJ nD nC nI nG) HS 0 rfl rfl rfl rfl aYn (fun _ HS=>⟨HS.b2,?_⟩)
      refine bF 9 (a0q lF kW lD kY kX lq kZ) HS 1 rfl rfl rfl rfl aYn (fun _ HS=>⟨HS.b2,?_⟩)
      exact JR.mt (nK,ni,nJ,nD,nC,nI,nG,lF,kW,lD,kY,kX,lq,kZ,uN,uO) (HS.perm (.swap _ _ _))
     ·skip
      rintro ⟨nK,ni,nJ,nD,nC,nI,nG,lF,kW,lD,kY,kX,lq,kZ,uN,uO⟩ aHz HS
      try dsimp only at HS ⊢
      refine JC.cut (ι:=Bool×Bool) (fun ⟨u24,v24⟩=>[(0,(a0r ax ay aj c1a az ak aA aB aC n1b aG aF au aH)),(1,(a0r aP aQ aK aS aU aN aY aV aW aO aX aZ aT bf)),(2,.pointer (some ⟨g1,0,none⟩)),(3,.pointer (some ⟨g2,0,none⟩)),(4,.bool false),(5,.pointer (some ⟨l9,0,none⟩)),(6,.pointer (some ⟨mD,0,none⟩)),(9,.bool false),(10,.bool false),(12,.pointer (some ⟨g17,0,none⟩)),(14,.pointer (some ⟨g20,0,none⟩)),(15,.pointer (some ⟨uN,0,none⟩)),(16,.pointer (some ⟨uO,0,none⟩)),(17,(a0r ax ay aj c1a az ak aA aB aC n1b aG aF au aH)),(18,(a0r aP aQ aK aS aU aN aY aV aW aO aX aZ aT bf)),(19,.slice (some ⟨g3,0,none⟩) 2 2),(20,.bool true),(21,.bool false),(22,.bool false),(23,(a0r ax ay aj c1a az ak aA aB aC n1b aG aF au aH)),(24,.bool true),(25,.bool false),(26,.bool false),(27,.bool false),(28,(a0r aP aQ aK aS aU aN aY aV aW aO aX aZ aT bf)),(29,.bool true),(30,.bool false),(31,.bool false),(32,.bool false),(33,.bool true),(34,.bool false),(35,.bool false),(43,.pointer (some ⟨g1,0,none⟩)),(44,(a0p ax ay aj c1a az ak aA)),(45,.pointer (some ⟨g1,3,none⟩)),(46,(a0p aB aC n1b aG aF au aH)),(47,.slice (some ⟨g16,0,none⟩) 2 2),(48,.int .i64 2),(49,.int .i64 0),(50,.bool true),(51,.pointer (some ⟨g16,0,none⟩)),(52,(a0p ax ay aj c1a az ak aA)),(53,.pointer (some ⟨g2,0,none⟩)),(54,(a0p aP aQ aK aS aU aN aY)),(55,.pointer (some ⟨g2,3,none⟩)),(56,(a0p aV aW aO aX aZ aT bf)),(57,.slice (some ⟨g19,0,none⟩) 2 2),(58,.int .i64 2),(59,.int .i64 0),(60,.bool true),(61,.pointer (some ⟨g19,0,none⟩)),(62,(a0p aP aQ aK aS aU aN aY)),(7,.bool u24),(8,.bool v24)]) (fun ⟨u24,v24⟩ w=>(u24=(false||decide (af+aI=af+aI))∧v24=(false||decide (af+aI=ah+aJ)))∧St W0 (⟨uO,24,(a0q lF kW lD kY kX lq kZ)⟩ :: ⟨uN,24,(a0q nK ni nJ nD nC nI nG)⟩ :: ⟨g20,24,(a0q aP aQ aK aS aU aN aY)⟩ :: ⟨g19,24,(a0s aP aQ aK aS aU aN aY aV aW aO aX aZ aT bf)⟩ :: ⟨g17,24,(a0q ax ay aj c1a az ak aA)⟩ :: ⟨g16,24,(a0s ax ay aj c1a az ak aA aB aC n1b aG aF au aH)⟩ :: ⟨mD,48,(a0s kN jY kJ kC ku kG kE jR jH jP jK jI jM jL)⟩ :: ⟨l9,48,(a0s lZ lJ lX lQ lM lV lT kV kP kU kR kQ kT kS)⟩ :: ⟨g3,48,[.bool ax,.slice ay aj c1a,.slice az ak aA,.bool aB,.slice aC n1b aG,.slice aF au aH,.bool aP,.slice aQ aK aS,.slice aU aN aY,.bool aV,.slice aW aO aX,.slice aZ aT bf]⟩ :: ⟨g2,48,(a0s aP aQ aK aS aU aN aY aV aW aO aX aZ aT bf)⟩ :: ⟨g1,48,(a0s ax ay aj c1a az ak aA aB aC n1b aG aF au aH)⟩ :: U) (FV (a0p lF kW lD kY kX lq kZ) (af*aI) (8+8+2) true :: FV (a0p nK ni nJ nD nC nI nG) (af+aI) (8+8+2) true :: FV (a0p kN jY kJ kC ku kG kE) (lC af ah aI aJ) (4*(8+8)+4*(8+8)+4) true :: FV (a0p jR jH jP jK jI jM jL) (jV af ah aI aJ) (4*(8+8)+4*(8+8)+4) true :: FV (a0p lZ lJ lX lQ lM lV lT) (af+aI) ((8+8)+(8+8)+2) true :: FV (a0p kV kP kU kR kQ kT kS) (ah+aJ) ((8+8)+(8+8)+2) true :: FV (a0p aV aW aO aX aZ aT bf) aJ 8 true :: FV (a0p aP aQ aK aS aU aN aY) aI 8 true :: FV (a0p aB aC n1b aG aF au aH) ah 8 true :: FV (a0p ax ay aj c1a az ak aA) af 8 true :: FV (a0p aV aW aO aX aZ aT bf) aJ bP true :: FV (a0p aP aQ aK aS aU aN aY) aI bM true :: FV (a0p aB aC n1b aG aF au aH) ah bD true :: FV (a0p ax ay aj c1a az ak aA) af bC true :: Ps) w) ?_ ?_
      ·skip
       refine JC.region ?_
       refine Lv (.bool false) (fun a ha=>run_move (ha.ev rfl)) ?_
       refine Lv (.bool false) (fun a ha=>run_move (ha.ev rfl)) ?_
       refine Lg (a0p nK ni nJ nD nC nI nG) (fun a ha=>gU (ha.ev rfl) aYp aYn (HS.box _ (.tail _ (.head _))) rfl rfl) ?_
       refine Lg (.pointer (some ⟨l9,0,none⟩)) (fun a ha=>bH (ha.ev rfl) aYr rfl aYn rfl rfl) ?_
       refine Lg (a0p lZ lJ lX lQ lM lV lT) (fun a ha=>gU (ha.ev rfl) aYp aYn (HS.box _ (.tail _ (.tail _ (.tail _ (.tail _ (.tail _ (.tail _ (.tail _ (.head _))))))))) rfl rfl) ?_
       refine JL.cZ rfl rfl rfl rfl rfl rfl aYD (vJ HT HB HS (HS.at_ 1 rfl) (HS.at_ 4 rfl) (by omega)) (fun v25 w25 af9 => ?_)
       obtain ⟨rfl,HS⟩:=af9
       refine Lg (.bool (decide ((af+aI)=(af+aI)))) (fun a ha=>rC (ha.ev rfl) (ha.ev rfl) (yR _ _)) ?_
       refine Lv (.bool (decide ((af+aI)=(af+aI)))) (fun a ha=>gB (ha.ev rfl) (ha.ev rfl)) ?_
       refine Lv (.bool false) (fun a ha=>run_move (ha.ev rfl)) ?_
       refine Lv (.bool false) (fun a ha=>run_move (ha.ev rfl)) ?_
       refine Lg (a0p nK ni nJ nD nC nI nG) (fun a ha=>gU (ha.ev rfl) aYp aYn (HS.box _ (.tail _ (.head _))) rfl rfl) ?_
       refine Lg (.pointer (some ⟨l9,3,none⟩)) (fun a ha=>bH (ha.ev rfl) aYr rfl aYn rfl rfl) ?_
       refine Lg (a0p kV kP kU kR kQ kT kS) (fun a ha=>gU (ha.ev rfl) aYp aYn (HS.box _ (.tail _ (.tail _ (.tail _ (.tail _ (.tail _ (.tail _ (.tail _ (.head _))))))))) rfl rfl) ?_
       refine JL.cZ rfl rfl rfl rfl rfl rfl aYD (vJ HT HB HS (HS.at_ 1 rfl) (HS.at_ 5 rfl) (by omega)) (fun v26 w26 Xa => ?_)
       obtain ⟨rfl,HS⟩:=Xa
       refine Lg (.bool (decide ((af+aI)=(ah+aJ)))) (fun a ha=>rC (ha.ev rfl) (ha.ev rfl) (yR _ _)) ?_
       refine Lv (.bool (decide ((af+aI)=(ah+aJ)))) (fun a ha=>gB (ha.ev rfl) (ha.ev rfl)) ?_
       refine Lv (.bool (decide ((af+aI)=(af+aI)))) (fun a ha=>run_assign (ha.ev rfl)) ?_
       refine Lv (.bool (decide ((af+aI)=(ah+aJ)))) (fun a ha=>run_assign (ha.ev rfl)) ?_
       exact JL.mt ((decide ((af+aI)=(af+aI))),(decide ((af+aI)=(ah+aJ)))) (⟨⟨rfl,rfl⟩,HS⟩)
      ·skip
       rintro ⟨u24,v24⟩ aX9 ⟨KA,HS⟩
       try dsimp only at HS ⊢
       try dsimp only at KA
       refine JC.IL (ι:=Bool×Bool) (fun ⟨u27,v27⟩=>[(0,(a0r ax ay aj c1a az ak aA aB aC n1b aG aF au aH)),(1,(a0r aP aQ aK aS aU aN aY aV aW aO aX aZ aT bf)),(2,.pointer (some ⟨g1,0,none⟩)),(3,.pointer (some ⟨g2,0,none⟩)),(4,.bool false),(5,.pointer (some ⟨l9,0,none⟩)),(6,.pointer (some ⟨mD,0,none⟩)),(7,.bool u24),(8,.bool v24),(12,.pointer (some ⟨g17,0,none⟩)),(14,.pointer (some ⟨g20,0,none⟩)),(15,.pointer (some ⟨uN,0,none⟩)),(16,.pointer (some ⟨uO,0,none⟩)),(17,(a0r ax ay aj c1a az ak aA aB aC n1b aG aF au aH)),(18,(a0r aP aQ aK aS aU aN aY aV aW aO aX aZ aT bf)),(19,.slice (some ⟨g3,0,none⟩) 2 2),(20,.bool true),(21,.bool false),(22,.bool false),(23,(a0r ax ay aj c1a az ak aA aB aC n1b aG aF au aH)),(24,.bool true),(25,.bool false),(26,.bool false),(27,.bool false),(28,(a0r aP aQ aK aS aU aN aY aV aW aO aX aZ aT bf)),(29,.bool true),(30,.bool false),(31,.bool false),(32,.bool false),(33,.bool true),(34,.bool false),(35,.bool false),(43,.pointer (some ⟨g1,0,none⟩)),(44,(a0p ax ay aj c1a az ak aA)),(45,.pointer (some ⟨g1,3,none⟩)),(46,(a0p aB aC n1b aG aF au aH)),(47,.slice (some ⟨g16,0,none⟩) 2 2),(48,.int .i64 2),(49,.int .i64 0),(50,.bool true),(51,.pointer (some ⟨g16,0,none⟩)),(52,(a0p ax ay aj c1a az ak aA)),(53,.pointer (some ⟨g2,0,none⟩)),(54,(a0p aP aQ aK aS aU aN aY)),(55,.pointer (some ⟨g2,3,none⟩)),(56,(a0p aV aW aO aX aZ aT bf)),(57,.slice (some ⟨g19,0,none⟩) 2 2),(58,.int .i64 2),(59,.int .i64 0),(60,.bool true),(61,.pointer (some ⟨g19,0,none⟩)),(62,(a0p aP aQ aK aS aU aN aY)),(9,.bool u27),(10,.bool v27)]) (fun ⟨u27,v27⟩ w=>(u27=(false||decide (af*aI=lC af ah aI aJ))∧v27=(false||decide (af*aI=jV af ah aI aJ)))∧St W0 (⟨uO,24,(a0q lF kW lD kY kX lq kZ)⟩ :: ⟨uN,24,(a0q nK ni nJ nD nC nI nG)⟩ :: ⟨g20,24,(a0q aP aQ aK aS aU aN aY)⟩ :: ⟨g19,24,(a0s aP aQ aK aS aU aN aY aV aW aO aX aZ aT bf)⟩ :: ⟨g17,24,(a0q ax ay aj c1a az ak aA)⟩ :: ⟨g16,24,(a0s ax ay aj c1a az ak aA aB aC n1b aG aF au aH)⟩ :: ⟨mD,48,(a0s kN jY kJ kC ku kG kE jR jH jP jK jI jM jL)⟩ :: ⟨l9,48,(a0s lZ lJ lX lQ lM lV lT kV kP kU kR kQ kT kS)⟩ :: ⟨g3,48,[.bool ax,.slice ay aj c1a,.slice az ak aA,.bool aB,.slice aC n1b aG,.slice aF au aH,.bool aP,.slice aQ aK aS,.slice aU aN aY,.bool aV,.slice aW aO aX,.slice aZ aT bf]⟩ :: ⟨g2,48,(a0s aP aQ aK aS aU aN aY aV aW aO aX aZ aT bf)⟩ :: ⟨g1,48,(a0s ax ay aj c1a az ak aA aB aC n1b aG aF au aH)⟩ :: U) (FV (a0p lF kW lD kY kX lq kZ) (af*aI) (8+8+2) true :: FV (a0p nK ni nJ nD nC nI nG) (af+aI) (8+8+2) true :: FV (a0p kN jY kJ kC ku kG kE) (lC af ah aI aJ) (4*(8+8)+4*(8+8)+4) true :: FV (a0p jR jH jP jK jI jM jL) (jV af ah aI aJ) (4*(8+8)+4*(8+8)+4) true :: FV (a0p lZ lJ lX lQ lM lV lT) (af+aI) ((8+8)+(8+8)+2) true :: FV (a0p kV kP kU kR kQ kT kS) (ah+aJ) ((8+8)+(8+8)+2) true :: FV (a0p aV aW aO aX aZ aT bf) aJ 8 true :: FV (a0p aP aQ aK aS aU aN aY) aI 8 true :: FV (a0p aB aC n1b aG aF au aH) ah 8 true :: FV (a0p ax ay aj c1a az ak aA) af 8 true :: FV (a0p aV aW aO aX aZ aT bf) aJ bP true :: FV (a0p aP aQ aK aS aU aN aY) aI bM true :: FV (a0p aB aC n1b aG aF au aH) ah bD true :: FV (a0p ax ay aj c1a az ak aA) af bC true :: Ps) w) ?_ ?_
       ·skip
        refine JC.region ?_
        refine Lv (.bool false) (fun a ha=>run_move (ha.ev rfl)) ?_
        refine Lv (.bool false) (fun a ha=>run_move (ha.ev rfl)) ?_
        refine Lg (a0p lF kW lD kY kX lq kZ) (fun a ha=>gU (ha.ev rfl) aYp aYn (HS.box _ (.head _)) rfl rfl) ?_
        refine Lg (.pointer (some ⟨mD,0,none⟩)) (fun a ha=>bH (ha.ev rfl) aYr rfl aYn rfl rfl) ?_
        refine Lg (a0p kN jY kJ kC ku kG kE) (fun a ha=>gU (ha.ev rfl) aYp aYn (HS.box _ (.tail _ (.tail _ (.tail _ (.tail _ (.tail _ (.tail _ (.head _)))))))) rfl rfl) ?_
        refine JL.cZ rfl rfl rfl rfl rfl rfl aYD (vJ HT HB HS (HS.at_ 0 rfl) (HS.at_ 2 rfl) (by omega)) (fun v28 Z8 Xc => ?_)
        obtain ⟨rfl,HS⟩:=Xc
        refine Lg (.bool (decide ((af*aI)=(lC af ah aI aJ)))) (fun a ha=>rC (ha.ev rfl) (ha.ev rfl) (yR _ _)) ?_
        refine Lv (.bool (decide ((af*aI)=(lC af ah aI aJ)))) (fun a ha=>gB (ha.ev rfl) (ha.ev rfl)) ?_
        refine Lv (.bool false) (fun a ha=>run_move (ha.ev rfl)) ?_
        refine Lv (.bool false) (fun a ha=>run_move (ha.ev rfl)) ?_
        refine Lg (a0p lF kW lD kY kX lq kZ) (fun a ha=>gU (ha.ev rfl) aYp aYn (HS.box _ (.head _)) rfl rfl) ?_
        refine Lg (.pointer (some ⟨mD,3,none⟩)) (fun a ha=>bH (ha.ev rfl) aYr rfl aYn rfl rfl) ?_
        refine Lg (a0p jR jH jP jK jI jM jL) (fun a ha=>gU (ha.ev rfl) aYp aYn (HS.box _ (.tail _ (.tail _ (.tail _ (.tail _ (.tail _ (.tail _ (.head _)))))))) rfl rfl) ?_
        refine JL.cZ rfl rfl rfl rfl rfl rfl aYD (vJ HT HB HS (HS.at_ 0 rfl) (HS.at_ 3 rfl) (by omega)) (fun v29 w29 af' => ?_)
        obtain ⟨rfl,HS⟩:=af'
        refine Lg (.bool (decide ((af*aI)=(jV af ah aI aJ)))) (fun a ha=>rC (ha.ev rfl) (ha.ev rfl) (yR _ _)) ?_
        refine Lv (.bool (decide ((af*aI)=(jV af ah aI aJ)))) (fun a ha=>gB (ha.ev rfl) (ha.ev rfl)) ?_
        refine Lv (.bool (decide ((af*aI)=(lC af ah aI aJ)))) (fun a ha=>run_assign (ha.ev rfl)) ?_
        refine Lv (.bool (decide ((af*aI)=(jV af ah aI aJ)))) (fun a ha=>run_assign (ha.ev rfl)) ?_
        exact JL.mt ((decide ((af*aI)=(lC af ah aI aJ))),(decide ((af*aI)=(jV af ah aI aJ)))) (⟨⟨rfl,rfl⟩,HS⟩)
       ·skip
        rintro ⟨u27,v27⟩ aX' ⟨KC,HS⟩
        try dsimp only at HS ⊢
        try dsimp only at KC
        refine JL.EH (fun _ _ h=>h) ?_
        refine JC.region ?_
        refine Lv (.int .i64 1) (fun a ha=>BX (ha.ev rfl) (ha.ev rfl) (by decide)) ?_
        refine Lv (.int .i64 1) (fun a ha=>run_move (ha.ev rfl)) ?_
        refine JL.again 39 (fun _ _ h=>h) ?_
        refine JC.seq ?_
        refine JC.region ?_
        refine Lv (.bool true) (fun a ha=>qX (ha.ev rfl) (ha.ev rfl) (by decide)) ?_
        refine jn ?_
        refine JC.seq ?_
        refine JC.iy rfl ?_
        refine JC.jF (fun _ _ h=>h) ?_
        refine JC.seq ?_
        refine JC.block ?_
        refine JC.seq ?_
        refine JC.region ?_
        refine Lv (.pointer (some ⟨g19,3,none⟩)) (fun a ha=>zC (ha.ev rfl) (ha.ev rfl) aYC aYn (j:=1) rfl (by decide) rfl) ?_
        refine JL.load (a0p aV aW aO aX aZ aT bf) HS 3 rfl rfl rfl aYp aYn rfl rfl ?_
        refine JL.alloc (vs:=bU) HS rfl aYs rfl rfl (fun EL w30 HS => ?_)
        refine JL.store HS rfl rfl (i:=0) rfl aYn rfl rfl rfl (vs':=(a0q aV aW aO aX aZ aT bf)) rfl rfl (fun w31 HS => ?_)
        refine jn ?_
        refine JC.cut (ι:=PT) (fun ⟨oZ,oH,oV,oL,oJ,oQ,oN,mZ,mM,mW,mP,mO,mV,mQ,vz,vC⟩=>[(0,(a0r ax ay aj c1a az ak aA aB aC n1b aG aF au aH)),(1,(a0r aP aQ aK aS aU aN aY aV aW aO aX aZ aT bf)),(2,.pointer (some ⟨g1,0,none⟩)),(3,.pointer (some ⟨g2,0,none⟩)),(4,.bool false),(5,.pointer (some ⟨l9,0,none⟩)),(6,.pointer (some ⟨mD,0,none⟩)),(7,.bool u24),(8,.bool v24),(9,.bool u27),(10,.bool v27),(12,.pointer (some ⟨g17,0,none⟩)),(14,.pointer (some ⟨EL,0,none⟩)),(15,.pointer (some ⟨vz,0,none⟩)),(16,.pointer (some ⟨vC,0,none⟩)),(17,(a0r ax ay aj c1a az ak aA aB aC n1b aG aF au aH)),(18,(a0r aP aQ aK aS aU aN aY aV aW aO aX aZ aT bf)),(19,.slice (some ⟨g3,0,none⟩) 2 2),(20,.bool true),(21,.bool false),(22,.bool false),(23,(a0r ax ay aj c1a az ak aA aB aC n1b aG aF au aH)),(24,.bool true),(25,.bool false),(26,.bool false),(27,.bool false),(28,(a0r aP aQ aK aS aU aN aY aV aW aO aX aZ aT bf)),(29,.bool true),(30,.bool false),(31,.bool false),(32,.bool false),(33,.bool true),(34,.bool false),(35,.bool false),(43,.pointer (some ⟨g1,0,none⟩)),(44,(a0p ax ay aj c1a az ak aA)),(45,.pointer (some ⟨g1,3,none⟩)),(46,(a0p aB aC n1b aG aF au aH)),(47,.slice (some ⟨g16,0,none⟩) 2 2),(48,.int .i64 2),(49,.int .i64 0),(50,.bool true),(51,.pointer (some ⟨g16,0,none⟩)),(52,(a0p ax ay aj c1a az ak aA)),(53,.pointer (some ⟨g2,0,none⟩)),(54,(a0p aP aQ aK aS aU aN aY)),(55,.pointer (some ⟨g2,3,none⟩)),(56,(a0p aV aW aO aX aZ aT bf)),(57,.slice (some ⟨g19,0,none⟩) 2 2),(58,.int .i64 2),(59,.int .i64 1),(60,.bool true),(61,.pointer (some ⟨g19,3,none⟩)),(62,(a0p aV aW aO aX aZ aT bf)),(101,.int .i64 1)]) (fun ⟨oZ,oH,oV,oL,oJ,oQ,oN,mZ,mM,mW,mP,mO,mV,mQ,vz,vC⟩ w=>St W0 (⟨vC,24,(a0q mZ mM mW mP mO mV mQ)⟩ :: ⟨vz,24,(a0q oZ oH oV oL oJ oQ oN)⟩ :: ⟨EL,24,(a0q aV aW aO aX aZ aT bf)⟩ :: ⟨uO,24,(a0q lF kW lD kY kX lq kZ)⟩ :: ⟨uN,24,(a0q nK ni nJ nD nC nI nG)⟩ :: ⟨g20,24,(a0q aP aQ aK aS aU aN aY)⟩ :: ⟨g19,24,(a0s aP aQ aK aS aU aN aY aV aW aO aX aZ aT bf)⟩ :: ⟨g17,24,(a0q ax ay aj c1a az ak aA)⟩ :: ⟨g16,24,(a0s ax ay aj c1a az ak aA aB aC n1b aG aF au aH)⟩ :: ⟨mD,48,(a0s kN jY kJ kC ku kG kE jR jH jP jK jI jM jL)⟩ :: ⟨l9,48,(a0s lZ lJ lX lQ lM lV lT kV kP kU kR kQ kT kS)⟩ :: ⟨g3,48,[.bool ax,.slice ay aj c1a,.slice az ak aA,.bool aB,.slice aC n1b aG,.slice aF au aH,.bool aP,.slice aQ aK aS,.slice aU aN aY,.bool aV,.slice aW aO aX,.slice aZ aT bf]⟩ :: ⟨g2,48,(a0s aP aQ aK aS aU aN aY aV aW aO aX aZ aT bf)⟩ :: ⟨g1,48,(a0s ax ay aj c1a az ak aA aB aC n1b aG aF au aH)⟩ :: U) (FV (a0p mZ mM mW mP mO mV mQ) (af*aJ) (8+8+2) true :: FV (a0p oZ oH oV oL oJ oQ oN) (af+aJ) (8+8+2) true :: FV (a0p lF kW lD kY kX lq kZ) (af*aI) (8+8+2) true :: FV (a0p nK ni nJ nD nC nI nG) (af+aI) (8+8+2) true :: FV (a0p kN jY kJ kC ku kG kE) (lC af ah aI aJ) (4*(8+8)+4*(8+8)+4) true :: FV (a0p jR jH jP jK jI jM jL) (jV af ah aI aJ) (4*(8+8)+4*(8+8)+4) true :: FV (a0p lZ lJ lX lQ lM lV lT) (af+aI) ((8+8)+(8+8)+2) true :: FV (a0p kV kP kU kR kQ kT kS) (ah+aJ) ((8+8)+(8+8)+2) true :: FV (a0p aV aW aO aX aZ aT bf) aJ 8 true :: FV (a0p aP aQ aK aS aU aN aY) aI 8 true :: FV (a0p aB aC n1b aG aF au aH) ah 8 true :: FV (a0p ax ay aj c1a az ak aA) af 8 true :: FV (a0p aV aW aO aX aZ aT bf) aJ bP true :: FV (a0p aP aQ aK aS aU aN aY) aI bM true :: FV (a0p aB aC n1b aG aF au aH) ah bD true :: FV (a0p ax ay aj c1a az ak aA) af bC true :: Ps) w) ?_ ?_
        ·skip
         refine JC.draw HS [] (by kernel_rfl) (fun w33 HS => ?_)
         refine Da (a0p ax ay aj c1a az ak aA) 0 5 rfl HS.b0 rfl rfl aYp aYn ?_
         refine Da (a0p aV aW aO aX aZ aT bf) 1 0 rfl HS.b0 rfl rfl aYp aYn ?_
         refine Da (a0p ax ay aj c1a az ak aA) 3 5 rfl HS.b0 rfl rfl aYp aYn ?_
         refine Da (a0p aV aW aO aX aZ aT bf) 4 0 rfl HS.b0 rfl rfl aYp aYn ?_
         refine JR.any [2,6,7] (by kernel_rfl) rfl ?_
         refine ai.call rfl rfl rfl aYG (xu HT HB HS (HS.at_ 9 rfl) (HS.at_ 6 rfl) (by omega)) rfl (fun aeR afa Na => ?_) ?_
         ·skip
          obtain ⟨oZ,oH,oV,oL,oJ,oQ,oN,rfl,HS⟩:=Na
          refine ⟨HS.b0,?_⟩
          refine JR.any [5,6,7] (by kernel_rfl) rfl ?_
          refine ai.call rfl rfl rfl aYv (iQ HT HB HS (HS.at_ 10 rfl) (HS.at_ 7 rfl) (by omega)) rfl (fun Ll LM zL => ?_) ?_
          ·skip
           obtain ⟨mZ,mM,mW,mP,mO,mV,mQ,rfl,HS⟩:=zL
           refine ⟨HS.b0,?_⟩
           refine JR.any [6,7] (by kernel_rfl) rfl ?_
           refine ai.alloc (vs:=bU) HS rfl rfl aYs rfl rfl rfl (fun vz Z9 HS => ?_) ?_
           ·skip
            refine ⟨HS.b1,?_⟩
            refine jy (vs:=bU) 7 HS rfl aYs rfl (fun vC _ HS=>⟨HS.b2,?_⟩)
            refine bF 8 (a0q oZ oH oV oL oJ oQ oN) HS 1 rfl rfl rfl rfl aYn (fun _ HS=>⟨HS.b2,?_⟩)
            refine bF 9 (a0q mZ mM mW mP mO mV mQ) HS 0 rfl rfl rfl rfl aYn (fun _ HS=>⟨HS.b2,?_⟩)
            exact JR.mt (oZ,oH,oV,oL,oJ,oQ,oN,mZ,mM,mW,mP,mO,mV,mQ,vz,vC) HS
           refine ai.alloc (vs:=bU) HS rfl rfl aYs rfl rfl rfl (fun vC aab HS => ?_) ai.nil
           refine ⟨HS.b1,?_⟩
           refine jy (vs:=bU) 6 HS rfl aYs rfl (fun vz _ HS=>⟨HS.b2,?_⟩)
           refine bF 8 (a0q oZ oH oV oL oJ oQ oN) HS 0 rfl rfl rfl rfl aYn (fun _ HS=>⟨HS.b2,?_⟩)
           refine bF 9 (a0q mZ mM mW mP mO mV mQ) HS 1 rfl rfl rfl rfl aYn (fun _ HS=>⟨HS.b2,?_⟩)
           exact JR.mt (oZ,oH,oV,oL,oJ,oQ,oN,mZ,mM,mW,mP,mO,mV,mQ,vz,vC) (HS.perm (.swap _ _ _))
          refine ai.alloc (vs:=bU) HS rfl rfl aYs rfl rfl rfl (fun vz Z9 HS => ?_) ?_
          ·skip
           refine ⟨HS.b1,?_⟩
           refine JR.any [5,7] (by kernel_rfl) rfl ?_
           refine ai.call rfl rfl rfl aYv (iQ HT HB HS (HS.at_ 10 rfl) (HS.at_ 7 rfl) (by omega)) rfl (fun Ll LM zL => ?_) ?_
           ·skip
            obtain ⟨mZ,mM,mW,mP,mO,mV,mQ,rfl,HS⟩:=zL
            refine ⟨HS.b1,?_⟩
            refine jy (vs:=bU) 7 HS rfl aYs rfl (fun vC _ HS=>⟨HS.b2,?_⟩)
            refine bF 8 (a0q oZ oH oV oL oJ oQ oN) HS 1 rfl rfl rfl rfl aYn (fun _ HS=>⟨HS.b2,?_⟩)
            refine bF 9 (a0q mZ mM mW mP mO mV mQ) HS 0 rfl rfl rfl rfl aYn (fun _ HS=>⟨HS.b2,?_⟩)
            exact JR.mt (oZ,oH,oV,oL,oJ,oQ,oN,mZ,mM,mW,mP,mO,mV,mQ,vz,vC) HS
           refine ai.alloc (vs:=bU) HS rfl rfl aYs rfl rfl rfl (fun vC aab HS => ?_) ai.nil
           refine ⟨HS.b2,?_⟩
           refine bJ 5 rfl rfl rfl aYv (iQ HT HB HS (HS.at_ 10 rfl) (HS.at_ 7 rfl) (by omega)) (fun Ll LM zL => ?_)
           obtain ⟨mZ,mM,mW,mP,mO,mV,mQ,rfl,HS⟩:=zL
           refine ⟨HS.b2,?_⟩
           refine bF 8 (a0q oZ oH oV oL oJ oQ oN) HS 1 rfl rfl rfl rfl aYn (fun _ HS=>⟨HS.b2,?_⟩)
           refine bF 9 (a0q mZ mM mW mP mO mV mQ) HS 0 rfl rfl rfl rfl aYn (fun _ HS=>⟨HS.b2,?_⟩)
           exact JR.mt (oZ,oH,oV,oL,oJ,oQ,oN,mZ,mM,mW,mP,mO,mV,mQ,vz,vC) HS
          refine ai.alloc (vs:=bU) HS rfl rfl aYs rfl rfl rfl (fun vC aab HS => ?_) ai.nil
          refine ⟨HS.b1,?_⟩
          refine JR.any [5,6] (by kernel_rfl) rfl ?_
          refine ai.call rfl rfl rfl aYv (iQ HT HB HS (HS.at_ 10 rfl) (HS.at_ 7 rfl) (by omega)) rfl (fun Ll LM zL => ?_) ?_
          ·skip
           obtain ⟨mZ,mM,mW,mP,mO,mV,mQ,rfl,HS⟩:=zL
           refine ⟨HS.b1,?_⟩
           refine jy (vs:=bU) 6 HS rfl aYs rfl (fun vz _ HS=>⟨HS.b2,?_⟩)
           refine bF 8 (a0q oZ oH oV oL oJ oQ oN) HS 0 rfl rfl rfl rfl aYn (fun _ HS=>⟨HS.b2,?_⟩)
           refine bF 9 (a0q mZ mM mW mP mO mV mQ) HS 1 rfl rfl rfl rfl aYn (fun _ HS=>⟨HS.b2,?_⟩)
           exact JR.mt (oZ,oH,oV,oL,oJ,oQ,oN,mZ,mM,mW,mP,mO,mV,mQ,vz,vC) (HS.perm (.swap _ _ _))
          refine ai.alloc (vs:=bU) HS rfl rfl aYs rfl rfl rfl (fun vz Z9 HS => ?_) ai.nil
          refine ⟨HS.b2,?_⟩
          refine bJ 5 rfl rfl rfl aYv (iQ HT HB HS (HS.at_ 10 rfl) (HS.at_ 7 rfl) (by omega)) (fun Ll LM zL => ?_)
          obtain ⟨mZ,mM,mW,mP,mO,mV,mQ,rfl,HS⟩:=zL
          refine ⟨HS.b2,?_⟩
          refine bF 8 (a0q oZ oH oV oL oJ oQ oN) HS 0 rfl rfl rfl rfl aYn (fun _ HS=>⟨HS.b2,?_⟩)
          refine bF 9 (a0q mZ mM mW mP mO mV mQ) HS 1 rfl rfl rfl rfl aYn (fun _ HS=>⟨HS.b2,?_⟩)
          exact JR.mt (oZ,oH,oV,oL,oJ,oQ,oN,mZ,mM,mW,mP,mO,mV,mQ,vz,vC) (HS.perm (.swap _ _ _))
         refine ai.alloc (vs:=bU) HS rfl rfl aYs rfl rfl rfl (fun vz Z9 HS => ?_) ?_
         ·skip
          refine ⟨HS.b1,?_⟩
          refine JR.any [2,7] (by kernel_rfl) rfl ?_
          refine ai.call rfl rfl rfl aYG (xu HT HB HS (HS.at_ 9 rfl) (HS.at_ 6 rfl) (by omega)) rfl (fun aeR afa Na => ?_) ?_
          ·skip
           obtain ⟨oZ,oH,oV,oL,oJ,oQ,oN,rfl,HS⟩:=Na
           refine ⟨HS.b1,?_⟩
           refine JR.any [5,7] (by kernel_rfl) rfl ?_
           refine ai.call rfl rfl rfl aYv (iQ HT HB HS (HS.at_ 10 rfl) (HS.at_ 7 rfl) (by omega)) rfl (fun Ll LM zL => ?_) ?_
           ·skip
            obtain ⟨mZ,mM,mW,mP,mO,mV,mQ,rfl,HS⟩:=zL
            refine ⟨HS.b1,?_⟩
            refine jy (vs:=bU) 7 HS rfl aYs rfl (fun vC _ HS=>⟨HS.b2,?_⟩)
            refine bF 8 (a0q oZ oH oV oL oJ oQ oN) HS 1 rfl rfl rfl rfl aYn (fun _ HS=>⟨HS.b2,?_⟩)
            refine bF 9 (a0q mZ mM mW mP mO mV mQ) HS 0 rfl rfl rfl rfl aYn (fun _ HS=>⟨HS.b2,?_⟩)
            exact JR.mt (oZ,oH,oV,oL,oJ,oQ,oN,mZ,mM,mW,mP,mO,mV,mQ,vz,vC) HS
           refine ai.alloc (vs:=bU) HS rfl rfl aYs rfl rfl rfl (fun vC aab HS => ?_) ai.nil
           refine ⟨HS.b2,?_⟩
           refine bJ 5 rfl rfl rfl aYv (iQ HT HB HS (HS.at_ 10 rfl) (HS.at_ 7 rfl) (by omega)) (fun Ll LM zL => ?_)
           obtain ⟨mZ,mM,mW,mP,mO,mV,mQ,rfl,HS⟩:=zL
           refine ⟨HS.b2,?_⟩
           refine bF 8 (a0q oZ oH oV oL oJ oQ oN) HS 1 rfl rfl rfl rfl aYn (fun _ HS=>⟨HS.b2,?_⟩)
           refine bF 9 (a0q mZ mM mW mP mO mV mQ) HS 0 rfl rfl rfl rfl aYn (fun _ HS=>⟨HS.b2,?_⟩)
           exact JR.mt (oZ,oH,oV,oL,oJ,oQ,oN,mZ,mM,mW,mP,mO,mV,mQ,vz,vC) HS
          refine ai.alloc (vs:=bU) HS rfl rfl aYs rfl rfl rfl (fun vC aab HS => ?_) ai.nil
          refine ⟨HS.b2,?_⟩
          refine bJ 2 rfl rfl rfl aYG (xu HT HB HS (HS.at_ 9 rfl) (HS.at_ 6 rfl) (by omega)) (fun aeR afa Na => ?_)
          obtain ⟨oZ,oH,oV,oL,oJ,oQ,oN,rfl,HS⟩:=Na
          refine ⟨HS.b2,?_⟩
          refine bJ 5 rfl rfl rfl aYv (iQ HT HB HS (HS.at_ 10 rfl) (HS.at_ 7 rfl) (by omega)) (fun Ll LM zL => ?_)
          obtain ⟨mZ,mM,mW,mP,mO,mV,mQ,rfl,HS⟩:=zL
          refine ⟨HS.b2,?_⟩
          refine bF 8 (a0q oZ oH oV oL oJ oQ oN) HS 1 rfl rfl rfl rfl aYn (fun _ HS=>⟨HS.b2,?_⟩)
          refine bF 9 (a0q mZ mM mW mP mO mV mQ) HS 0 rfl rfl rfl rfl aYn (fun _ HS=>⟨HS.b2,?_⟩)
          exact JR.mt (oZ,oH,oV,oL,oJ,oQ,oN,mZ,mM,mW,mP,mO,mV,mQ,vz,vC) HS
         refine ai.alloc (vs:=bU) HS rfl rfl aYs rfl rfl rfl (fun vC aab HS => ?_) ai.nil
         refine ⟨HS.b1,?_⟩
         refine JR.any [2,6] (by kernel_rfl) rfl ?_
         refine ai.call rfl rfl rfl aYG (xu HT HB HS (HS.at_ 9 rfl) (HS.at_ 6 rfl) (by omega)) rfl (fun aeR afa Na => ?_) ?_
         ·skip
          obtain ⟨oZ,oH,oV,oL,oJ,oQ,oN,rfl,HS⟩:=Na
          refine ⟨HS.b1,?_⟩
          refine JR.any [5,6] (by kernel_rfl) rfl ?_
          refine ai.call rfl rfl rfl aYv (iQ HT HB HS (HS.at_ 10 rfl) (HS.at_ 7 rfl) (by omega)) rfl (fun Ll LM zL => ?_) ?_
          ·skip
           obtain ⟨mZ,mM,mW,mP,mO,mV,mQ,rfl,HS⟩:=zL
           refine ⟨HS.b1,?_⟩
           refine jy (vs:=bU) 6 HS rfl aYs rfl (fun vz _ HS=>⟨HS.b2,?_⟩)
           refine bF 8 (a0q oZ oH oV oL oJ oQ oN) HS 0 rfl rfl rfl rfl aYn (fun _ HS=>⟨HS.b2,?_⟩)
           refine bF 9 (a0q mZ mM mW mP mO mV mQ) HS 1 rfl rfl rfl rfl aYn (fun _ HS=>⟨HS.b2,?_⟩)
           exact JR.mt (oZ,oH,oV,oL,oJ,oQ,oN,mZ,mM,mW,mP,mO,mV,mQ,vz,vC) (HS.perm (.swap _ _ _))
          refine ai.alloc (vs:=bU) HS rfl rfl aYs rfl rfl rfl (fun vz Z9 HS => ?_) ai.nil
          refine ⟨HS.b2,?_⟩
          refine bJ 5 rfl rfl rfl aYv (iQ HT HB HS (HS.at_ 10 rfl) (HS.at_ 7 rfl) (by omega)) (fun Ll LM zL => ?_)
          obtain ⟨mZ,mM,mW,mP,mO,mV,mQ,rfl,HS⟩:=zL
          refine ⟨HS.b2,?_⟩
          refine bF 8 (a0q oZ oH oV oL oJ oQ oN) HS 0 rfl rfl rfl rfl aYn (fun _ HS=>⟨HS.b2,?_⟩)
          refine bF 9 (a0q mZ mM mW mP mO mV mQ) HS 1 rfl rfl rfl rfl aYn (fun _ HS=>⟨HS.b2,?_⟩)
          exact JR.mt (oZ,oH,oV,oL,oJ,oQ,oN,mZ,mM,mW,mP,mO,mV,mQ,vz,vC) (HS.perm (.swap _ _ _))
         refine ai.alloc (vs:=bU) HS rfl rfl aYs rfl rfl rfl (fun vz Z9 HS => ?_) ai.nil
         refine ⟨HS.b2,?_⟩
         refine bJ 2 rfl rfl rfl aYG (xu HT HB HS (HS.at_ 9 rfl) (HS.at_ 6 rfl) (by omega)) (fun aeR afa Na => ?_)
         obtain ⟨oZ,oH,oV,oL,oJ,oQ,oN,rfl,HS⟩:=Na
         refine ⟨HS.b2,?_⟩
         refine bJ 5 rfl rfl rfl aYv (iQ HT HB HS (HS.at_ 10 rfl) (HS.at_ 7 rfl) (by omega)) (fun Ll LM zL => ?_)
         obtain ⟨mZ,mM,mW,mP,mO,mV,mQ,rfl,HS⟩:=zL
         refine ⟨HS.b2,?_⟩
         refine bF 8 (a0q oZ oH oV oL oJ oQ oN) HS 0 rfl rfl rfl rfl aYn (fun _ HS=>⟨HS.b2,?_⟩)
         refine bF 9 (a0q mZ mM mW mP mO mV mQ) HS 1 rfl rfl rfl rfl aYn (fun _ HS=>⟨HS.b2,?_⟩)
         exact JR.mt (oZ,oH,oV,oL,oJ,oQ,oN,mZ,mM,mW,mP,mO,mV,mQ,vz,vC) (HS.perm (.swap _ _ _))
        ·skip
         rintro ⟨oZ,oH,oV,oL,oJ,oQ,oN,mZ,mM,mW,mP,mO,mV,mQ,vz,vC⟩ aYb HS
         try dsimp only at HS ⊢
         refine JC.cut (ι:=Bool×Bool) (fun ⟨u34,v34⟩=>[(0,(a0r ax ay aj c1a az ak aA aB aC n1b aG aF au aH)),(1,(a0r aP aQ aK aS aU aN aY aV aW aO aX aZ aT bf)),(2,.pointer (some ⟨g1,0,none⟩)),(3,.pointer (some ⟨g2,0,none⟩)),(4,.bool false),(5,.pointer (some ⟨l9,0,none⟩)),(6,.pointer (some ⟨mD,0,none⟩)),(9,.bool u27),(10,.bool v27),(12,.pointer (some ⟨g17,0,none⟩)),(14,.pointer (some ⟨EL,0,none⟩)),(15,.pointer (some ⟨vz,0,none⟩)),(16,.pointer (some ⟨vC,0,none⟩)),(17,(a0r ax ay aj c1a az ak aA aB aC n1b aG aF au aH)),(18,(a0r aP aQ aK aS aU aN aY aV aW aO aX aZ aT bf)),(19,.slice (some ⟨g3,0,none⟩) 2 2),(20,.bool true),(21,.bool false),(22,.bool false),(23,(a0r ax ay aj c1a az ak aA aB aC n1b aG aF au aH)),(24,.bool true),(25,.bool false),(26,.bool false),(27,.bool false),(28,(a0r aP aQ aK aS aU aN aY aV aW aO aX aZ aT bf)),(29,.bool true),(30,.bool false),(31,.bool false),(32,.bool false),(33,.bool true),(34,.bool false),(35,.bool false),(43,.pointer (some ⟨g1,0,none⟩)),(44,(a0p ax ay aj c1a az ak aA)),(45,.pointer (some ⟨g1,3,none⟩)),(46,(a0p aB aC n1b aG aF au aH)),(47,.slice (some ⟨g16,0,none⟩) 2 2),(48,.int .i64 2),(49,.int .i64 0),(50,.bool true),(51,.pointer (some ⟨g16,0,none⟩)),(52,(a0p ax ay aj c1a az ak aA)),(53,.pointer (some ⟨g2,0,none⟩)),(54,(a0p aP aQ aK aS aU aN aY)),(55,.pointer (some ⟨g2,3,none⟩)),(56,(a0p aV aW aO aX aZ aT bf)),(57,.slice (some ⟨g19,0,none⟩) 2 2),(58,.int .i64 2),(59,.int .i64 1),(60,.bool true),(61,.pointer (some ⟨g19,3,none⟩)),(62,(a0p aV aW aO aX aZ aT bf)),(101,.int .i64 1),(7,.bool u34),(8,.bool v34)]) (fun ⟨u34,v34⟩ w=>(u34=(u24||decide (af+aJ=af+aI))∧v34=(v24||decide (af+aJ=ah+aJ)))∧St W0 (⟨vC,24,(a0q mZ mM mW mP mO mV mQ)⟩ :: ⟨vz,24,(a0q oZ oH oV oL oJ oQ oN)⟩ :: ⟨EL,24,(a0q aV aW aO aX aZ aT bf)⟩ :: ⟨uO,24,(a0q lF kW lD kY kX lq kZ)⟩ :: ⟨uN,24,(a0q nK ni nJ nD nC nI nG)⟩ :: ⟨g20,24,(a0q aP aQ aK aS aU aN aY)⟩ :: ⟨g19,24,(a0s aP aQ aK aS aU aN aY aV aW aO aX aZ aT bf)⟩ :: ⟨g17,24,(a0q ax ay aj c1a az ak aA)⟩ :: ⟨g16,24,(a0s ax ay aj c1a az ak aA aB aC n1b aG aF au aH)⟩ :: ⟨mD,48,(a0s kN jY kJ kC ku kG kE jR jH jP jK jI jM jL)⟩ :: ⟨l9,48,(a0s lZ lJ lX lQ lM lV lT kV kP kU kR kQ kT kS)⟩ :: ⟨g3,48,[.bool ax,.slice ay aj c1a,.slice az ak aA,.bool aB,.slice aC n1b aG,.slice aF au aH,.bool aP,.slice aQ aK aS,.slice aU aN aY,.bool aV,.slice aW aO aX,.slice aZ aT bf]⟩ :: ⟨g2,48,(a0s aP aQ aK aS aU aN aY aV aW aO aX aZ aT bf)⟩ :: ⟨g1,48,(a0s ax ay aj c1a az ak aA aB aC n1b aG aF au aH)⟩ :: U) (FV (a0p mZ mM mW mP mO mV mQ) (af*aJ) (8+8+2) true :: FV (a0p oZ oH oV oL oJ oQ oN) (af+aJ) (8+8+2) true :: FV (a0p lF kW lD kY kX lq kZ) (af*aI) (8+8+2) true :: FV (a0p nK ni nJ nD nC nI nG) (af+aI) (8+8+2) true :: FV (a0p kN jY kJ kC ku kG kE) (lC af ah aI aJ) (4*(8+8)+4*(8+8)+4) true :: FV (a0p jR jH jP jK jI jM jL) (jV af ah aI aJ) (4*(8+8)+4*(8+8)+4) true :: FV (a0p lZ lJ lX lQ lM lV lT) (af+aI) ((8+8)+(8+8)+2) true :: FV (a0p kV kP kU kR kQ kT kS) (ah+aJ) ((8+8)+(8+8)+2) true :: FV (a0p aV aW aO aX aZ aT bf) aJ 8 true :: FV (a0p aP aQ aK aS aU aN aY) aI 8 true :: FV (a0p aB aC n1b aG aF au aH) ah 8 true :: FV (a0p ax ay aj c1a az ak aA) af 8 true :: FV (a0p aV aW aO aX aZ aT bf) aJ bP true :: FV (a0p aP aQ aK aS aU aN aY) aI bM true :: FV (a0p aB aC n1b aG aF au aH) ah bD true :: FV (a0p ax ay aj c1a az ak aA) af bC true :: Ps) w) ?_ ?_
         ·skip
          refine JC.region ?_
          refine Lv (.bool u24) (fun a ha=>run_move (ha.ev rfl)) ?_
          cases u24
          ·skip
           refine Lv (.bool false) (fun a ha=>run_move (ha.ev rfl)) ?_
           refine Lg (a0p oZ oH oV oL oJ oQ oN) (fun a ha=>gU (ha.ev rfl) aYp aYn (HS.box _ (.tail _ (.head _))) rfl rfl) ?_
           refine Lg (.pointer (some ⟨l9,0,none⟩)) (fun a ha=>bH (ha.ev rfl) aYr rfl aYn rfl rfl) ?_
           refine Lg (a0p lZ lJ lX lQ lM lV lT) (fun a ha=>gU (ha.ev rfl) aYp aYn (HS.box _ (.tail _ (.tail _ (.tail _ (.tail _ (.tail _ (.tail _ (.tail _ (.tail _ (.tail _ (.tail _ (.head _)))))))))))) rfl rfl) ?_
           refine JL.cZ rfl rfl rfl rfl rfl rfl aYD (vJ HT HB HS (HS.at_ 1 rfl) (HS.at_ 6 rfl) (by omega)) (fun v36 w36 age => ?_)
           obtain ⟨rfl,HS⟩:=age
           refine Lg (.bool (decide ((af+aJ)=(af+aI)))) (fun a ha=>rC (ha.ev rfl) (ha.ev rfl) (yR _ _)) ?_
           refine Lv (.bool (decide ((af+aJ)=(af+aI)))) (fun a ha=>gB (ha.ev rfl) (ha.ev rfl)) ?_
           refine Lv (.bool v24) (fun a ha=>run_move (ha.ev rfl)) ?_
           cases v24
           ·skip
            refine Lv (.bool false) (fun a ha=>run_move (ha.ev rfl)) ?_
            refine Lg (a0p oZ oH oV oL oJ oQ oN) (fun a ha=>gU (ha.ev rfl) aYp aYn (HS.box _ (.tail _ (.head _))) rfl rfl) ?_
            refine Lg (.pointer (some ⟨l9,3,none⟩)) (fun a ha=>bH (ha.ev rfl) aYr rfl aYn rfl rfl) ?_
            refine Lg (a0p kV kP kU kR kQ kT kS) (fun a ha=>gU (ha.ev rfl) aYp aYn (HS.box _ (.tail _ (.tail _ (.tail _ (.tail _ (.tail _ (.tail _ (.tail _ (.tail _ (.tail _ (.tail _ (.head _)))))))))))) rfl rfl) ?_
            refine JL.cZ rfl rfl rfl rfl rfl rfl aYD (vJ HT HB HS (HS.at_ 1 rfl) (HS.at_ 7 rfl) (by omega)) (fun v38 w38 agh => ?_)
            obtain ⟨rfl,HS⟩:=agh
            refine Lg (.bool (decide ((af+aJ)=(ah+aJ)))) (fun a ha=>rC (ha.ev rfl) (ha.ev rfl) (yR _ _)) ?_
            refine Lv (.bool (decide ((af+aJ)=(ah+aJ)))) (fun a ha=>gB (ha.ev rfl) (ha.ev rfl)) ?_
            refine Lv (.bool (decide ((af+aJ)=(af+aI)))) (fun a ha=>run_assign (ha.ev rfl)) ?_
            refine Lv (.bool (decide ((af+aJ)=(ah+aJ)))) (fun a ha=>run_assign (ha.ev rfl)) ?_
            exact JL.mt ((decide ((af+aJ)=(af+aI))),(decide ((af+aJ)=(ah+aJ)))) (⟨⟨rfl,rfl⟩,HS⟩)
           ·skip
            refine Lv (.bool true) (fun a ha=>run_move (ha.ev rfl)) ?_
            refine Lp ?_
            refine Lp ?_
            refine Lp ?_
            refine Lp ?_
            refine Lp ?_
            refine Lv (.bool true) (fun a ha=>eY (ha.ev rfl) (ha.ev rfl)) ?_
            refine Lv (.bool (decide ((af+aJ)=(af+aI)))) (fun a ha=>run_assign (ha.ev rfl)) ?_
            refine Lv (.bool true) (fun a ha=>run_assign (ha.ev rfl)) ?_
            exact JL.mt ((decide ((af+aJ)=(af+aI))),true) (⟨⟨rfl,rfl⟩,HS⟩)
          ·skip
           refine Lv (.bool true) (fun a ha=>run_move (ha.ev rfl)) ?_
           refine Lp ?_
           refine Lp ?_
           refine Lp ?_
           refine Lp ?_
           refine Lp ?_
           refine Lv (.bool true) (fun a ha=>eY (ha.ev rfl) (ha.ev rfl)) ?_
           refine Lv (.bool v24) (fun a ha=>run_move (ha.ev rfl)) ?_
           cases v24
           ·skip
            refine Lv (.bool false) (fun a ha=>run_move (ha.ev rfl)) ?_
            refine Lg (a0p oZ oH oV oL oJ oQ oN) (fun a ha=>gU (ha.ev rfl) aYp aYn (HS.box _ (.tail _ (.head _))) rfl rfl) ?_
            refine Lg (.pointer (some ⟨l9,3,none⟩)) (fun a ha=>bH (ha.ev rfl) aYr rfl aYn rfl rfl) ?_
            refine Lg (a0p kV kP kU kR kQ kT kS) (fun a ha=>gU (ha.ev rfl) aYp aYn (HS.box _ (.tail _ (.tail _ (.tail _ (.tail _ (.tail _ (.tail _ (.tail _ (.tail _ (.tail _ (.tail _ (.head _)))))))))))) rfl rfl) ?_
            refine JL.cZ rfl rfl rfl rfl rfl rfl aYD (vJ HT HB HS (HS.at_ 1 rfl) (HS.at_ 7 rfl) (by omega)) (fun v40 w40 avq => ?_)
            obtain ⟨rfl,HS⟩:=avq
            refine Lg (.bool (decide ((af+aJ)=(ah+aJ)))) (fun a ha=>rC (ha.ev rfl) (ha.ev rfl) (yR _ _)) ?_
            refine Lv (.bool (decide ((af+aJ)=(ah+aJ)))) (fun a ha=>gB (ha.ev rfl) (ha.ev rfl)) ?_
            refine Lv (.bool true) (fun a ha=>run_assign (ha.ev rfl)) ?_
            refine Lv (.bool (decide ((af+aJ)=(ah+aJ)))) (fun a ha=>run_assign (ha.ev rfl)) ?_
            exact JL.mt (true,(decide ((af+aJ)=(ah+aJ)))) (⟨⟨rfl,rfl⟩,HS⟩)
           ·skip
            refine Lv (.bool true) (fun a ha=>run_move (ha.ev rfl)) ?_
            refine Lp ?_
            refine Lp ?_
            refine Lp ?_
            refine Lp ?_
            refine Lp ?_
            refine Lv (.bool true) (fun a ha=>eY (ha.ev rfl) (ha.ev rfl)) ?_
            refine Lv (.bool true) (fun a ha=>run_assign (ha.ev rfl)) ?_
            refine Lv (.bool true) (fun a ha=>run_assign (ha.ev rfl)) ?_
            exact JL.mt (true,true) (⟨⟨rfl,rfl⟩,HS⟩)
         ·skip
          rintro ⟨u34,v34⟩ aYc ⟨KD,HS⟩
          try dsimp only at HS ⊢
          try dsimp only at KD
          refine JC.IL (ι:=Bool×Bool) (fun ⟨u41,v41⟩=>[(0,(a0r ax ay aj c1a az ak aA aB aC n1b aG aF au aH)),(1,(a0r aP aQ aK aS aU aN aY aV aW aO aX aZ aT bf)),(2,.pointer (some ⟨g1,0,none⟩)),(3,.pointer (some ⟨g2,0,none⟩)),(4,.bool false),(5,.pointer (some ⟨l9,0,none⟩)),(6,.pointer (some ⟨mD,0,none⟩)),(7,.bool u34),(8,.bool v34),(12,.pointer (some ⟨g17,0,none⟩)),(14,.pointer (some ⟨EL,0,none⟩)),(15,.pointer (some ⟨vz,0,none⟩)),(16,.pointer (some ⟨vC,0,none⟩)),(17,(a0r ax ay aj c1a az ak aA aB aC n1b aG aF au aH)),(18,(a0r aP aQ aK aS aU aN aY aV aW aO aX aZ aT bf)),(19,.slice (some ⟨g3,0,none⟩) 2 2),(20,.bool true),(21,.bool false),(22,.bool false),(23,(a0r ax ay aj c1a az ak aA aB aC n1b aG aF au aH)),(24,.bool true),(25,.bool false),(26,.bool false),(27,.bool false),(28,(a0r aP aQ aK aS aU aN aY aV aW aO aX aZ aT bf)),(29,.bool true),(30,.bool false),(31,.bool false),(32,.bool false),(33,.bool true),(34,.bool false),(35,.bool false),(43,.pointer (some ⟨g1,0,none⟩)),(44,(a0p ax ay aj c1a az ak aA)),(45,.pointer (some ⟨g1,3,none⟩)),(46,(a0p aB aC n1b aG aF au aH)),(47,.slice (some ⟨g16,0,none⟩) 2 2),(48,.int .i64 2),(49,.int .i64 0),(50,.bool true),(51,.pointer (some ⟨g16,0,none⟩)),(52,(a0p ax ay aj c1a az ak aA)),(53,.pointer (some ⟨g2,0,none⟩)),(54,(a0p aP aQ aK aS aU aN aY)),(55,.pointer (some ⟨g2,3,none⟩)),(56,(a0p aV aW aO aX aZ aT bf)),(57,.slice (some ⟨g19,0,none⟩) 2 2),(58,.int .i64 2),(59,.int .i64 1),(60,.bool true),(61,.pointer (some ⟨g19,3,none⟩)),(62,(a0p aV aW aO aX aZ aT bf)),(101,.int .i64 1),(9,.bool u41),(10,.bool v41)]) (fun ⟨u41,v41⟩ w=>(u41=(u27||decide (af*aJ=lC af ah aI aJ))∧v41=(v27||decide (af*aJ=jV af ah aI aJ)))∧St W0 (⟨vC,24,(a0q mZ mM mW mP mO mV mQ)⟩ :: ⟨vz,24,(a0q oZ oH oV oL oJ oQ oN)⟩ :: ⟨EL,24,(a0q aV aW aO aX aZ aT bf)⟩ :: ⟨uO,24,(a0q lF kW lD kY kX lq kZ)⟩ :: ⟨uN,24,(a0q nK ni nJ nD nC nI nG)⟩ :: ⟨g20,24,(a0q aP aQ aK aS aU aN aY)⟩ :: ⟨g19,24,(a0s aP aQ aK aS aU aN aY aV aW aO aX aZ aT bf)⟩ :: ⟨g17,24,(a0q ax ay aj c1a az ak aA)⟩ :: ⟨g16,24,(a0s ax ay aj c1a az ak aA aB aC n1b aG aF au aH)⟩ :: ⟨mD,48,(a0s kN jY kJ kC ku kG kE jR jH jP jK jI jM jL)⟩ :: ⟨l9,48,(a0s lZ lJ lX lQ lM lV lT kV kP kU kR kQ kT kS)⟩ :: ⟨g3,48,[.bool ax,.slice ay aj c1a,.slice az ak aA,.bool aB,.slice aC n1b aG,.slice aF au aH,.bool aP,.slice aQ aK aS,.slice aU aN aY,.bool aV,.slice aW aO aX,.slice aZ aT bf]⟩ :: ⟨g2,48,(a0s aP aQ aK aS aU aN aY aV aW aO aX aZ aT bf)⟩ :: ⟨g1,48,(a0s ax ay aj c1a az ak aA aB aC n1b aG aF au aH)⟩ :: U) (FV (a0p mZ mM mW mP mO mV mQ) (af*aJ) (8+8+2) true :: FV (a0p oZ oH oV oL oJ oQ oN) (af+aJ) (8+8+2) true :: FV (a0p lF kW lD kY kX lq kZ) (af*aI) (8+8+2) true :: FV (a0p nK ni nJ nD nC nI nG) (af+aI) (8+8+2) true :: FV (a0p kN jY kJ kC ku kG kE) (lC af ah aI aJ) (4*(8+8)+4*(8+8)+4) true :: FV (a0p jR jH jP jK jI jM jL) (jV af ah aI aJ) (4*(8+8)+4*(8+8)+4) true :: FV (a0p lZ lJ lX lQ lM lV lT) (af+aI) ((8+8)+(8+8)+2) true :: FV (a0p kV kP kU kR kQ kT kS) (ah+aJ) ((8+8)+(8+8)+2) true :: FV (a0p aV aW aO aX aZ aT bf) aJ 8 true :: FV (a0p aP aQ aK aS aU aN aY) aI 8 true :: FV (a0p aB aC n1b aG aF au aH) ah 8 true :: FV (a0p ax ay aj c1a az ak aA) af 8 true :: FV (a0p aV aW aO aX aZ aT bf) aJ bP true :: FV (a0p aP aQ aK aS aU aN aY) aI bM true :: FV (a0p aB aC n1b aG aF au aH) ah bD true :: FV (a0p ax ay aj c1a az ak aA) af bC true :: Ps) w) ?_ ?_
          ·skip
           refine JC.region ?_
           refine Lv (.bool u27) (fun a ha=>run_move (ha.ev rfl)) ?_
           cases u27
           ·skip
            refine Lv (.bool false) (fun a ha=>run_move (ha.ev rfl)) ?_
            refine Lg (a0p mZ mM mW mP mO mV mQ) (fun a ha=>gU (ha.ev rfl) aYp aYn (HS.box _ (.head _)) rfl rfl) ?_
            refine Lg (.pointer (some ⟨mD,0,none⟩)) (fun a ha=>bH (ha.ev rfl) aYr rfl aYn rfl rfl) ?_
            refine Lg (a0p kN jY kJ kC ku kG kE) (fun a ha=>gU (ha.ev rfl) aYp aYn (HS.box _ (.tail _ (.tail _ (.tail _ (.tail _ (.tail _ (.tail _ (.tail _ (.tail _ (.tail _ (.head _))))))))))) rfl rfl) ?_
            refine JL.cZ rfl rfl rfl rfl rfl rfl aYD (vJ HT HB HS (HS.at_ 0 rfl) (HS.at_ 4 rfl) (by omega)) (fun v43 w43 agj => ?_)
            obtain ⟨rfl,HS⟩:=agj
            refine Lg (.bool (decide ((af*aJ)=(lC af ah aI aJ)))) (fun a ha=>rC (ha.ev rfl) (ha.ev rfl) (yR _ _)) ?_
            refine Lv (.bool (decide ((af*aJ)=(lC af ah aI aJ)))) (fun a ha=>gB (ha.ev rfl) (ha.ev rfl)) ?_
            refine Lv (.bool v27) (fun a ha=>run_move (ha.ev rfl)) ?_
            cases v27
            ·skip
             refine Lv (.bool false) (fun a ha=>run_move (ha.ev rfl)) ?_
             refine Lg (a0p mZ mM mW mP mO mV mQ) (fun a ha=>gU (ha.ev rfl) aYp aYn (HS.box _ (.head _)) rfl rfl) ?_
             refine Lg (.pointer (some ⟨mD,3,none⟩)) (fun a ha=>bH (ha.ev rfl) aYr rfl aYn rfl rfl) ?_
             refine Lg (a0p jR jH jP jK jI jM jL) (fun a ha=>gU (ha.ev rfl) aYp aYn (HS.box _ (.tail _ (.tail _ (.tail _ (.tail _ (.tail _ (.tail _ (.tail _ (.tail _ (.tail _ (.head _))))))))))) rfl rfl) ?_
             refine JL.cZ rfl rfl rfl rfl rfl rfl aYD (vJ HT HB HS (HS.at_ 0 rfl) (HS.at_ 5 rfl) (by omega)) (fun v45 w45 agk => ?_)
             obtain ⟨rfl,HS⟩:=agk
             refine Lg (.bool (decide ((af*aJ)=(jV af ah aI aJ)))) (fun a ha=>rC (ha.ev rfl) (ha.ev rfl) (yR _ _)) ?_
             refine Lv (.bool (decide ((af*aJ)=(jV af ah aI aJ)))) (fun a ha=>gB (ha.ev rfl) (ha.ev rfl)) ?_
             refine Lv (.bool (decide ((af*aJ)=(lC af ah aI aJ)))) (fun a ha=>run_assign (ha.ev rfl)) ?_
             refine Lv (.bool (decide ((af*aJ)=(jV af ah aI aJ)))) (fun a ha=>run_assign (ha.ev rfl)) ?_
             exact JL.mt ((decide ((af*aJ)=(lC af ah aI aJ))),(decide ((af*aJ)=(jV af ah aI aJ)))) (⟨⟨rfl,rfl⟩,HS⟩)
            ·skip
             refine Lv (.bool true) (fun a ha=>run_move (ha.ev rfl)) ?_
             refine Lp ?_
             refine Lp ?_
             refine Lp ?_
             refine Lp ?_
             refine Lp ?_
             refine Lv (.bool true) (fun a ha=>eY (ha.ev rfl) (ha.ev rfl)) ?_
             refine Lv (.bool (decide ((af*aJ)=(lC af ah aI aJ)))) (fun a ha=>run_assign (ha.ev rfl)) ?_
             refine Lv (.bool true) (fun a ha=>run_assign (ha.ev rfl)) ?_
             exact JL.mt ((decide ((af*aJ)=(lC af ah aI aJ))),true) (⟨⟨rfl,rfl⟩,HS⟩)
           ·skip
            refine Lv (.bool true) (fun a ha=>run_move (ha.ev rfl)) ?_
            refine Lp ?_
            refine Lp ?_
            refine Lp ?_
            refine Lp ?_
            refine Lp ?_
            refine Lv (.bool true) (fun a ha=>eY (ha.ev rfl) (ha.ev rfl)) ?_
            refine Lv (.bool v27) (fun a ha=>run_move (ha.ev rfl)) ?_
            cases v27
            ·skip
             refine Lv (.bool false) (fun a ha=>run_move (ha.ev rfl)) ?_
             refine Lg (a0p mZ mM mW mP mO mV mQ) (fun a ha=>gU (ha.ev rfl) aYp aYn (HS.box _ (.head _)) rfl rfl) ?_
             refine Lg (.pointer (some ⟨mD,3,none⟩)) (fun a ha=>bH (ha.ev rfl) aYr rfl aYn rfl rfl) ?_
             refine Lg (a0p jR jH jP jK jI jM jL) (fun a ha=>gU (ha.ev rfl) aYp aYn (HS.box _ (.tail _ (.tail _ (.tail _ (.tail _ (.tail _ (.tail _ (.tail _ (.tail _ (.tail _ (.head _))))))))))) rfl rfl) ?_
             refine JL.cZ rfl rfl rfl rfl rfl rfl aYD (vJ HT HB HS (HS.at_ 0 rfl) (HS.at_ 5 rfl) (by omega)) (fun v47 w47 agm => ?_)
             obtain ⟨rfl,HS⟩:=agm
             refine Lg (.bool (decide ((af*aJ)=(jV af ah aI aJ)))) (fun a ha=>rC (ha.ev rfl) (ha.ev rfl) (yR _ _)) ?_
             refine Lv (.bool (decide ((af*aJ)=(jV af ah aI aJ)))) (fun a ha=>gB (ha.ev rfl) (ha.ev rfl)) ?_
             refine Lv (.bool true) (fun a ha=>run_assign (ha.ev rfl)) ?_
             refine Lv (.bool (decide ((af*aJ)=(jV af ah aI aJ)))) (fun a ha=>run_assign (ha.ev rfl)) ?_
             exact JL.mt (true,(decide ((af*aJ)=(jV af ah aI aJ)))) (⟨⟨rfl,rfl⟩,HS⟩)
            ·skip
             refine Lv (.bool true) (fun a ha=>run_move (ha.ev rfl)) ?_
             refine Lp ?_
             refine Lp ?_
             refine Lp ?_
             refine Lp ?_
             refine Lp ?_
             refine Lv (.bool true) (fun a ha=>eY (ha.ev rfl) (ha.ev rfl)) ?_
             refine Lv (.bool true) (fun a ha=>run_assign (ha.ev rfl)) ?_
             refine Lv (.bool true) (fun a ha=>run_assign (ha.ev rfl)) ?_
             exact JL.mt (true,true) (⟨⟨rfl,rfl⟩,HS⟩)
          ·skip
           rintro ⟨u41,v41⟩ aYd ⟨KE,HS⟩
           try dsimp only at HS ⊢
           try dsimp only at KE
           refine JL.EH (fun _ _ h=>h) ?_
           refine JC.region ?_
           refine Lv (.int .i64 2) (fun a ha=>BX (ha.ev rfl) (ha.ev rfl) (by decide)) ?_
           refine Lv (.int .i64 2) (fun a ha=>run_move (ha.ev rfl)) ?_
           refine JL.again 38 (fun _ _ h=>h) ?_
           refine JC.seq ?_
           refine JC.region ?_
           refine Lv (.bool false) (fun a ha=>qX (ha.ev rfl) (ha.ev rfl) (by decide)) ?_
           refine jn ?_
           refine JC.seq ?_
           refine JC.jA rfl ?_
           refine JC.exit (fun _ _ h=>h) (fun _ _ h=>h) ?_
           refine JC.region ?_
           refine Lv (.int .i64 1) (fun a ha=>BX (ha.ev rfl) (ha.ev rfl) (by decide)) ?_
           refine Lv (.int .i64 1) (fun a ha=>run_move (ha.ev rfl)) ?_
           refine JL.again 39 (fun _ _ h=>h) ?_
           refine JC.seq ?_
           refine JC.region ?_
           refine Lv (.bool true) (fun a ha=>qX (ha.ev rfl) (ha.ev rfl) (by decide)) ?_
           refine jn ?_
           refine JC.seq ?_
           refine JC.iy rfl ?_
           refine JC.jF (fun _ _ h=>h) ?_
           refine JC.seq ?_
           refine JC.block ?_
           refine JC.seq ?_
           refine JC.region ?_
           refine Lv (.pointer (some ⟨g16,3,none⟩)) (fun a ha=>zC (ha.ev rfl) (ha.ev rfl) aYC aYn (j:=1) rfl (by decide) rfl) ?_
           refine JL.load (a0p aB aC n1b aG aF au aH) HS 8 rfl rfl rfl aYp aYn rfl rfl ?_
           refine JL.alloc (vs:=bU) HS rfl aYs rfl rfl (fun g48 w48 HS => ?_)
           refine JL.store HS rfl rfl (i:=0) rfl aYn rfl rfl rfl (vs':=(a0q aB aC n1b aG aF au aH)) rfl rfl (fun w49 HS => ?_)
           refine jn ?_
           refine JC.seq ?_
           refine JC.region ?_
           refine Lv (.pointer (some ⟨g2,0,none⟩)) (fun a ha=>bH (ha.ev rfl) aYr rfl aYn rfl rfl) ?_
           refine JL.load (a0p aP aQ aK aS aU aN aY) HS 13 rfl rfl rfl aYp aYn rfl rfl ?_
           refine Lv (.pointer (some ⟨g2,3,none⟩)) (fun a ha=>bH (ha.ev rfl) aYr rfl aYn rfl rfl) ?_
           refine JL.load (a0p aV aW aO aX aZ aT bf) HS 13 rfl rfl rfl aYp aYn rfl rfl ?_
           refine JL.buildSlice (ps:=[(0,(a0p aP aQ aK aS aU aN aY)),(1,(a0p aV aW aO aX aZ aT bf))]) (vs:=(a0s aP aQ aK aS aU aN aY aV aW aO aX aZ aT bf)) HS rfl (fun a ha=>by simp only [List.map_cons,List.map_nil,ha.ev (x := .tmp 54) (v:=(a0p aP aQ aK aS aU aN aY)) rfl,ha.ev (x := .tmp 56) (v:=(a0p aV aW aO aX aZ aT bf)) rfl]) aYC aYn aYs rfl rfl (by kernel_rfl) rfl (fun zO w50 HS => ?_)
           refine Lv (.int .i64 2) (fun a ha=>yV (ha.ev rfl) aYC) ?_
           refine Lv (.int .i64 0) (fun a ha=>run_move (ha.ev rfl)) ?_
           refine jn ?_
           refine JC.block ?_
           refine JC.Qr 40 ?_
           refine JC.seq ?_
           refine JC.region ?_
           refine Lv (.bool true) (fun a ha=>qX (ha.ev rfl) (ha.ev rfl) (by decide)) ?_
           refine jn ?_
           refine JC.seq ?_
           refine JC.iy rfl ?_
           refine JC.jF (fun _ _ h=>h) ?_
           refine JC.seq ?_
           refine JC.block ?_
           refine JC.seq ?_
           refine JC.region ?_
           refine Lv (.pointer (some ⟨zO,0,none⟩)) (fun a ha=>zC (ha.ev rfl) (ha.ev rfl) aYC aYn (j:=0) rfl (by decide) rfl) ?_
           refine JL.load (a0p aP aQ aK aS aU aN aY) HS 0 rfl rfl rfl aYp aYn rfl rfl ?_
           refine JL.alloc (vs:=bU) HS rfl aYs rfl rfl (fun Kv w51 HS => ?_)
           refine JL.store HS rfl rfl (i:=0) rfl aYn rfl rfl rfl (vs':=(a0q aP aQ aK aS aU aN aY)) rfl rfl (fun w52 HS => ?_)
           refine jn ?_
           refine JC.cut (ι:=PT) (fun ⟨rf,qg,qU,qB,qm,qN,qI,o5,oI,oW,oM,oK,oU,oO,vW,vX⟩=>[(0,(a0r ax ay aj c1a az ak aA aB aC n1b aG aF au aH)),(1,(a0r aP aQ aK aS aU aN aY aV aW aO aX aZ aT bf)),(2,.pointer (some ⟨g1,0,none⟩)),(3,.pointer (some ⟨g2,0,none⟩)),(4,.bool false),(5,.pointer (some ⟨l9,0,none⟩)),(6,.pointer (some ⟨mD,0,none⟩)),(7,.bool u34),(8,.bool v34),(9,.bool u41),(10,.bool v41),(12,.pointer (some ⟨g48,0,none⟩)),(14,.pointer (some ⟨Kv,0,none⟩)),(15,.pointer (some ⟨vW,0,none⟩)),(16,.pointer (some ⟨vX,0,none⟩)),(17,(a0r ax ay aj c1a az ak aA aB aC n1b aG aF au aH)),(18,(a0r aP aQ aK aS aU aN aY aV aW aO aX aZ aT bf)),(19,.slice (some ⟨g3,0,none⟩) 2 2),(20,.bool true),(21,.bool false),(22,.bool false),(23,(a0r ax ay aj c1a az ak aA aB aC n1b aG aF au aH)),(24,.bool true),(25,.bool false),(26,.bool false),(27,.bool false),(28,(a0r aP aQ aK aS aU aN aY aV aW aO aX aZ aT bf)),(29,.bool true),(30,.bool false),(31,.bool false),(32,.bool false),(33,.bool true),(34,.bool false),(35,.bool false),(43,.pointer (some ⟨g1,0,none⟩)),(44,(a0p ax ay aj c1a az ak aA)),(45,.pointer (some ⟨g1,3,none⟩)),(46,(a0p aB aC n1b aG aF au aH)),(47,.slice (some ⟨g16,0,none⟩) 2 2),(48,.int .i64 2),(49,.int .i64 1),(50,.bool true),(51,.pointer (some ⟨g16,3,none⟩)),(52,(a0p aB aC n1b aG aF au aH)),(53,.pointer (some ⟨g2,0,none⟩)),(54,(a0p aP aQ aK aS aU aN aY)),(55,.pointer (some ⟨g2,3,none⟩)),(56,(a0p aV aW aO aX aZ aT bf)),(57,.slice (some ⟨zO,0,none⟩) 2 2),(58,.int .i64 2),(59,.int .i64 0),(60,.bool true),(61,.pointer (some ⟨zO,0,none⟩)),(62,(a0p aP aQ aK aS aU aN aY)),(101,.int .i64 2),(102,.int .i64 1)]) (fun ⟨rf,qg,qU,qB,qm,qN,qI,o5,oI,oW,oM,oK,oU,oO,vW,vX⟩ w=>St W0 (⟨vX,24,(a0q o5 oI oW oM oK oU oO)⟩ :: ⟨vW,24,(a0q rf qg qU qB qm qN qI)⟩ :: ⟨Kv,24,(a0q aP aQ aK aS aU aN aY)⟩ :: ⟨zO,24,(a0s aP aQ aK aS aU aN aY aV aW aO aX aZ aT bf)⟩ :: ⟨g48,24,(a0q aB aC n1b aG aF au aH)⟩ :: ⟨vC,24,(a0q mZ mM mW mP mO mV mQ)⟩ :: ⟨vz,24,(a0q oZ oH oV oL oJ oQ oN)⟩ :: ⟨EL,24,(a0q aV aW aO aX aZ aT bf)⟩ :: ⟨uO,24,(a0q lF kW lD kY kX lq kZ)⟩ :: ⟨uN,24,(a0q nK ni nJ nD nC nI nG)⟩ :: ⟨g20,24,(a0q aP aQ aK aS aU aN aY)⟩ :: ⟨g19,24,(a0s aP aQ aK aS aU aN aY aV aW aO aX aZ aT bf)⟩ :: ⟨g17,24,(a0q ax ay aj c1a az ak aA)⟩ :: ⟨g16,24,(a0s ax ay aj c1a az ak aA aB aC n1b aG aF au aH)⟩ :: ⟨mD,48,(a0s kN jY kJ kC ku kG kE jR jH jP jK jI jM jL)⟩ :: ⟨l9,48,(a0s lZ lJ lX lQ lM lV lT kV kP kU kR kQ kT kS)⟩ :: ⟨g3,48,[.bool ax,.slice ay aj c1a,.slice az ak aA,.bool aB,.slice aC n1b aG,.slice aF au aH,.bool aP,.slice aQ aK aS,.slice aU aN aY,.bool aV,.slice aW aO aX,.slice aZ aT bf]⟩ :: ⟨g2,48,(a0s aP aQ aK aS aU aN aY aV aW aO aX aZ aT bf)⟩ :: ⟨g1,48,(a0s ax ay aj c1a az ak aA aB aC n1b aG aF au aH)⟩ :: U) (FV (a0p o5 oI oW oM oK oU oO) (ah*aI) (8+8+2) true :: FV (a0p rf qg qU qB qm qN qI) (ah+aI) (8+8+2) true :: FV (a0p mZ mM mW mP mO mV mQ) (af*aJ) (8+8+2) true :: FV (a0p oZ oH oV oL oJ oQ oN) (af+aJ) (8+8+2) true :: FV (a0p lF kW lD kY kX lq kZ) (af*aI) (8+8+2) true :: FV (a0p nK ni nJ nD nC nI nG) (af+aI) (8+8+2) true :: FV (a0p kN jY kJ kC ku kG kE) (lC af ah aI aJ) (4*(8+8)+4*(8+8)+4) true :: FV (a0p jR jH jP jK jI jM jL) (jV af ah aI aJ) (4*(8+8)+4*(8+8)+4) true :: FV (a0p lZ lJ lX lQ lM lV lT) (af+aI) ((8+8)+(8+8)+2) true :: FV (a0p kV kP kU kR kQ kT kS) (ah+aJ) ((8+8)+(8+8)+2) true :: FV (a0p aV aW aO aX aZ aT bf) aJ 8 true :: FV (a0p aP aQ aK aS aU aN aY) aI 8 true :: FV (a0p aB aC n1b aG aF au aH) ah 8 true :: FV (a0p ax ay aj c1a az ak aA) af 8 true :: FV (a0p aV aW aO aX aZ aT bf) aJ bP true :: FV (a0p aP aQ aK aS aU aN aY) aI bM true :: FV (a0p aB aC n1b aG aF au aH) ah bD true :: FV (a0p ax ay aj c1a az ak aA) af bC true :: Ps) w) ?_ ?_
           ·skip
            refine JC.draw HS [] (by kernel_rfl) (fun w54 HS => ?_)
            refine Da (a0p aB aC n1b aG aF au aH) 0 2 rfl HS.b0 rfl rfl aYp aYn ?_
            refine Da (a0p aP aQ aK aS aU aN aY) 1 0 rfl HS.b0 rfl rfl aYp aYn ?_
            refine Da (a0p aB aC n1b aG aF au aH) 3 2 rfl HS.b0 rfl rfl aYp aYn ?_
            refine Da (a0p aP aQ aK aS aU aN aY) 4 0 rfl HS.b0 rfl rfl aYp aYn ?_
            refine JR.any [2,6,7] (by kernel_rfl) rfl ?_
            refine ai.call rfl rfl rfl aYG (xu HT HB HS (HS.at_ 10 rfl) (HS.at_ 9 rfl) (by omega)) rfl (fun aeS afg Nb => ?_) ?_
            ·skip
             obtain ⟨rf,qg,qU,qB,qm,qN,qI,rfl,HS⟩:=Nb
             refine ⟨HS.b0,?_⟩
             refine JR.any [5,6,7] (by kernel_rfl) rfl ?_
             refine ai.call rfl rfl rfl aYv (iQ HT HB HS (HS.at_ 11 rfl) (HS.at_ 10 rfl) (by omega)) rfl (fun Lr LP zM => ?_) ?_
             ·skip
              obtain ⟨o5,oI,oW,oM,oK,oU,oO,rfl,HS⟩:=zM
              refine ⟨HS.b0,?_⟩
              refine JR.any [6,7] (by kernel_rfl) rfl ?_
              refine ai.alloc (vs:=bU) HS rfl rfl aYs rfl rfl rfl (fun vW aac HS => ?_) ?_
              ·skip
               refine ⟨HS.b1,?_⟩
               refine jy (vs:=bU) 7 HS rfl aYs rfl (fun vX _ HS=>⟨HS.b2,?_⟩)
               refine bF 8 (a0q rf qg qU qB qm qN qI) HS 1 rfl rfl rfl rfl aYn (fun _ HS=>⟨HS.b2,?_⟩)
               refine bF 9 (a0q o5 oI oW oM oK oU oO) HS 0 rfl rfl rfl rfl aYn (fun _ HS=>⟨HS.b2,?_⟩)
               exact JR.mt (rf,qg,qU,qB,qm,qN,qI,o5,oI,oW,oM,oK,oU,oO,vW,vX) HS
              refine ai.alloc (vs:=bU) HS rfl rfl aYs rfl rfl rfl (fun vX aad HS => ?_) ai.nil
              refine ⟨HS.b1,?_⟩
              refine jy (vs:=bU) 6 HS rfl aYs rfl (fun vW _ HS=>⟨HS.b2,?_⟩)
              refine bF 8 (a0q rf qg qU qB qm qN qI) HS 0 rfl rfl rfl rfl aYn (fun _ HS=>⟨HS.b2,?_⟩)
              refine bF 9 (a0q o5 oI oW oM oK oU oO) HS 1 rfl rfl rfl rfl aYn (fun _ HS=>⟨HS.b2,?_⟩)
              exact JR.mt (rf,qg,qU,qB,qm,qN,qI,o5,oI,oW,oM,oK,oU,oO,vW,vX) (HS.perm (.swap _ _ _))
             refine ai.alloc (vs:=bU) HS rfl rfl aYs rfl rfl rfl (fun vW aac HS => ?_) ?_
             ·skip
              refine ⟨HS.b1,?_⟩
              refine JR.any [5,7] (by kernel_rfl) rfl ?_
              refine ai.call rfl rfl rfl aYv (iQ HT HB HS (HS.at_ 11 rfl) (HS.at_ 10 rfl) (by omega)) rfl (fun Lr LP zM => ?_) ?_
              ·skip
               obtain ⟨o5,oI,oW,oM,oK,oU,oO,rfl,HS⟩:=zM
               refine ⟨HS.b1,?_⟩
               refine jy (vs:=bU) 7 HS rfl aYs rfl (fun vX _ HS=>⟨HS.b2,?_⟩)
               refine bF 8 (a0q rf qg qU qB qm qN qI) HS 1 rfl rfl rfl rfl aYn (fun _ HS=>⟨HS.b2,?_⟩)
               refine bF 9 (a0q o5 oI oW oM oK oU oO) HS 0 rfl rfl rfl rfl aYn (fun _ HS=>⟨HS.b2,?_⟩)
               exact JR.mt (rf,qg,qU,qB,qm,qN,qI,o5,oI,oW,oM,oK,oU,oO,vW,vX) HS
              refine ai.alloc (vs:=bU) HS rfl rfl aYs rfl rfl rfl (fun vX aad HS => ?_) ai.nil
              refine ⟨HS.b2,?_⟩
              refine bJ 5 rfl rfl rfl aYv (iQ HT HB HS (HS.at_ 11 rfl) (HS.at_ 10 rfl) (by omega)) (fun Lr LP zM => ?_)
              obtain ⟨o5,oI,oW,oM,oK,oU,oO,rfl,HS⟩:=zM
              refine ⟨HS.b2,?_⟩
              refine bF 8 (a0q rf qg qU qB qm qN qI) HS 1 rfl rfl rfl rfl aYn (fun _ HS=>⟨HS.b2,?_⟩)
              refine bF 9 (a0q o5 oI oW oM oK oU oO) HS 0 rfl rfl rfl rfl aYn (fun _ HS=>⟨HS.b2,?_⟩)
              exact JR.mt (rf,qg,qU,qB,qm,qN,qI,o5,oI,oW,oM,oK,oU,oO,vW,vX) HS
             refine ai.alloc (vs:=bU) HS rfl rfl aYs rfl rfl rfl (fun vX aad HS => ?_) ai.nil
             refine ⟨HS.b1,?_⟩
             refine JR.any [5,6] (by kernel_rfl) rfl ?_
             refine ai.call rfl rfl rfl aYv (iQ HT HB HS (HS.at_ 11 rfl) (HS.at_ 10 rfl) (by omega)) rfl (fun Lr LP zM => ?_) ?_
             ·skip
              obtain ⟨o5,oI,oW,oM,oK,oU,oO,rfl,HS⟩:=zM
              refine ⟨HS.b1,?_⟩
              refine jy (vs:=bU) 6 HS rfl aYs rfl (fun vW _ HS=>⟨HS.b2,?_⟩)
              refine bF 8 (a0q rf qg qU qB qm qN qI) HS 0 rfl rfl rfl rfl aYn (fun _ HS=>⟨HS.b2,?_⟩)
              refine bF 9 (a0q o5 oI oW oM oK oU oO) HS 1 rfl rfl rfl rfl aYn (fun _ HS=>⟨HS.b2,?_⟩)
              exact JR.mt (rf,qg,qU,qB,qm,qN,qI,o5,oI,oW,oM,oK,oU,oO,vW,vX) (HS.perm (.swap _ _ _))
             refine ai.alloc (vs:=bU) HS rfl rfl aYs rfl rfl rfl (fun vW aac HS => ?_) ai.nil
             refine ⟨HS.b2,?_⟩
             refine bJ 5 rfl rfl rfl aYv (iQ HT HB HS (HS.at_ 11 rfl) (HS.at_ 10 rfl) (by omega)) (fun Lr LP zM => ?_)
             obtain ⟨o5,oI,oW,oM,oK,oU,oO,rfl,HS⟩:=zM
             refine ⟨HS.b2,?_⟩
             refine bF 8 (a0q rf qg qU qB qm qN qI) HS 0 rfl rfl rfl rfl aYn (fun _ HS=>⟨HS.b2,?_⟩)
             refine bF 9 (a0q o5 oI oW oM oK oU oO) HS 1 rfl rfl rfl rfl aYn (fun _ HS=>⟨HS.b2,?_⟩)
             exact JR.mt (rf,qg,qU,qB,qm,qN,qI,o5,oI,oW,oM,oK,oU,oO,vW,vX) (HS.perm (.swap _ _ _))
            refine ai.alloc (vs:=bU) HS rfl rfl aYs rfl rfl rfl (fun vW aac HS => ?_) ?_
            ·skip
             refine ⟨HS.b1,?_⟩
             refine JR.any [2,7] (by kernel_rfl) rfl ?_
             refine ai.call rfl rfl rfl aYG (xu HT HB HS (HS.at_ 10 rfl) (HS.at_ 9 rfl) (by omega)) rfl (fun aeS afg Nb => ?_) ?_
             ·skip
              obtain ⟨rf,qg,qU,qB,qm,qN,qI,rfl,HS⟩:=Nb
              refine ⟨HS.b1,?_⟩
              refine JR.any [5,7] (by kernel_rfl) rfl ?_
              refine ai.call rfl rfl rfl aYv (iQ HT HB HS (HS.at_ 11 rfl) (HS.at_ 10 rfl) (by omega)) rfl (fun Lr LP zM => ?_) ?_
              ·skip
               obtain ⟨o5,oI,oW,oM,oK,oU,oO,rfl,HS⟩:=zM
               refine ⟨HS.b1,?_⟩
               refine jy (vs:=bU) 7 HS rfl aYs rfl (fun vX _ HS=>⟨HS.b2,?_⟩)
               refine bF 8 (a0q rf qg qU qB qm qN qI) HS 1 rfl rfl rfl rfl aYn (fun _ HS=>⟨HS.b2,?_⟩)
               refine bF 9 (a0q o5 oI oW oM oK oU oO) HS 0 rfl rfl rfl rfl aYn (fun _ HS=>⟨HS.b2,?_⟩)
               exact JR.mt (rf,qg,qU,qB,qm,qN,qI,o5,oI,oW,oM,oK,oU,oO,vW,vX) HS
              refine ai.alloc (vs:=bU) HS rfl rfl aYs rfl rfl rfl (fun vX aad HS => ?_) ai.nil
              refine ⟨HS.b2,?_⟩
              refine bJ 5 rfl rfl rfl aYv (iQ HT HB HS (HS.at_ 11 rfl) (HS.at_ 10 rfl) (by omega)) (fun Lr LP zM => ?_)
              obtain ⟨o5,oI,oW,oM,oK,oU,oO,rfl,HS⟩:=zM
              refine ⟨HS.b2,?_⟩
              refine bF 8 (a0q rf qg qU qB qm qN qI) HS 1 rfl rfl rfl rfl aYn (fun _ HS=>⟨HS.b2,?_⟩)
              refine bF 9 (a0q o5 oI oW oM oK oU oO) HS 0 rfl rfl rfl rfl aYn (fun _ HS=>⟨HS.b2,?_⟩)
              exact JR.mt (rf,qg,qU,qB,qm,qN,qI,o5,oI,oW,oM,oK,oU,oO,vW,vX) HS
             refine ai.alloc (vs:=bU) HS rfl rfl aYs rfl rfl rfl (fun vX aad HS => ?_) ai.nil
             refine ⟨HS.b2,?_⟩
             refine bJ 2 rfl rfl rfl aYG (xu HT HB HS (HS.at_ 10 rfl) (HS.at_ 9 rfl) (by omega)) (fun aeS afg Nb => ?_)
             obtain ⟨rf,qg,qU,qB,qm,qN,qI,rfl,HS⟩:=Nb
             refine ⟨HS.b2,?_⟩
             refine bJ 5 rfl rfl rfl aYv (iQ HT HB HS (HS.at_ 11 rfl) (HS.at_ 10 rfl) (by omega)) (fun Lr LP zM => ?_)
             obtain ⟨o5,oI,oW,oM,oK,oU,oO,rfl,HS⟩:=zM
             refine ⟨HS.b2,?_⟩
             refine bF 8 (a0q rf qg qU qB qm qN qI) HS 1 rfl rfl rfl rfl aYn (fun _ HS=>⟨HS.b2,?_⟩)
             refine bF 9 (a0q o5 oI oW oM oK oU oO) HS 0 rfl rfl rfl rfl aYn (fun _ HS=>⟨HS.b2,?_⟩)
             exact JR.mt (rf,qg,qU,qB,qm,qN,qI,o5,oI,oW,oM,oK,oU,oO,vW,vX) HS
            refine ai.alloc (vs:=bU) HS rfl rfl aYs rfl rfl rfl (fun vX aad HS => ?_) ai.nil
            refine ⟨HS.b1,?_⟩
            refine JR.any [2,6] (by kernel_rfl) rfl ?_
            refine ai.call rfl rfl rfl aYG (xu HT HB HS (HS.at_ 10 rfl) (HS.at_ 9 rfl) (by omega)) rfl (fun aeS afg Nb => ?_) ?_
            ·skip
             obtain ⟨rf,qg,qU,qB,qm,qN,qI,rfl,HS⟩:=Nb
             refine ⟨HS.b1,?_⟩
             refine JR.any [5,6] (by kernel_rfl) rfl ?_
             refine ai.call rfl rfl rfl aYv (iQ HT HB HS (HS.at_ 11 rfl) (HS.at_ 10 rfl) (by omega)) rfl (fun Lr LP zM => ?_) ?_
             ·skip
              obtain ⟨o5,oI,oW,oM,oK,oU,oO,rfl,HS⟩:=zM
              refine ⟨HS.b1,?_⟩
              refine jy (vs:=bU) 6 HS rfl aYs rfl (fun vW _ HS=>⟨HS.b2,?_⟩)
              refine bF 8 (a0q rf qg qU qB qm qN qI) HS 0 rfl rfl rfl rfl aYn (fun _ HS=>⟨HS.b2,?_⟩)
              refine bF 9 (a0q o5 oI oW oM oK oU oO) HS 1 rfl rfl rfl rfl aYn (fun _ HS=>⟨HS.b2,?_⟩)
              exact JR.mt (rf,qg,qU,qB,qm,qN,qI,o5,oI,oW,oM,oK,oU,oO,vW,vX) (HS.perm (.swap _ _ _))
             refine ai.alloc (vs:=bU) HS rfl rfl aYs rfl rfl rfl (fun vW aac HS => ?_) ai.nil
             refine ⟨HS.b2,?_⟩
             refine bJ 5 rfl rfl rfl aYv (iQ HT HB HS (HS.at_ 11 rfl) (HS.at_ 10 rfl) (by omega)) (fun Lr LP zM => ?_)
             obtain ⟨o5,oI,oW,oM,oK,oU,oO,rfl,HS⟩:=zM
             refine ⟨HS.b2,?_⟩
             refine bF 8 (a0q rf qg qU qB qm qN qI) HS 0 rfl rfl rfl rfl aYn (fun _ HS=>⟨HS.b2,?_⟩)
             refine bF 9 (a0q o5 oI oW oM oK oU oO) HS 1 rfl rfl rfl rfl aYn (fun _ HS=>⟨HS.b2,?_⟩)
             exact JR.mt (rf,qg,qU,qB,qm,qN,qI,o5,oI,oW,oM,oK,oU,oO,vW,vX) (HS.perm (.swap _ _ _))
            refine ai.alloc (vs:=bU) HS rfl rfl aYs rfl rfl rfl (fun vW aac HS => ?_) ai.nil
            refine ⟨HS.b2,?_⟩
            refine bJ 2 rfl rfl rfl aYG (xu HT HB HS (HS.at_ 10 rfl) (HS.at_ 9 rfl) (by omega)) (fun aeS afg Nb => ?_)
            obtain ⟨rf,qg,qU,qB,qm,qN,qI,rfl,HS⟩:=Nb
            refine ⟨HS.b2,?_⟩
            refine bJ 5 rfl rfl rfl aYv (iQ HT HB HS (HS.at_ 11 rfl) (HS.at_ 10 rfl) (by omega)) (fun Lr LP zM => ?_)
            obtain ⟨o5,oI,oW,oM,oK,oU,oO,rfl,HS⟩:=zM
            refine ⟨HS.b2,?_⟩
            refine bF 8 (a0q rf qg qU qB qm qN qI) HS 0 rfl rfl rfl rfl aYn (fun _ HS=>⟨HS.b2,?_⟩)
            refine bF 9 (a0q o5 oI oW oM oK oU oO) HS 1 rfl rfl rfl rfl aYn (fun _ HS=>⟨HS.b2,?_⟩)
            exact JR.mt (rf,qg,qU,qB,qm,qN,qI,o5,oI,oW,oM,oK,oU,oO,vW,vX) (HS.perm (.swap _ _ _))
           ·skip
            rintro ⟨rf,qg,qU,qB,qm,qN,qI,o5,oI,oW,oM,oK,oU,oO,vW,vX⟩ aYe HS
            try dsimp only at HS ⊢
            refine JC.cut (ι:=Bool×Bool) (fun ⟨u55,v55⟩=>[(0,(a0r ax ay aj c1a az ak aA aB aC n1b aG aF au aH)),(1,(a0r aP aQ aK aS aU aN aY aV aW aO aX aZ aT bf)),(2,.pointer (some ⟨g1,0,none⟩)),(3,.pointer (some ⟨g2,0,none⟩)),(4,.bool false),(5,.pointer (some ⟨l9,0,none⟩)),(6,.pointer (some ⟨mD,0,none⟩)),(9,.bool u41),(10,.bool v41),(12,.pointer (some ⟨g48,0,none⟩)),(14,.pointer (some ⟨Kv,0,none⟩)),(15,.pointer (some ⟨vW,0,none⟩)),(16,.pointer (some ⟨vX,0,none⟩)),(17,(a0r ax ay aj c1a az ak aA aB aC n1b aG aF au aH)),(18,(a0r aP aQ aK aS aU aN aY aV aW aO aX aZ aT bf)),(19,.slice (some ⟨g3,0,none⟩) 2 2),(20,.bool true),(21,.bool false),(22,.bool false),(23,(a0r ax ay aj c1a az ak aA aB aC n1b aG aF au aH)),(24,.bool true),(25,.bool false),(26,.bool false),(27,.bool false),(28,(a0r aP aQ aK aS aU aN aY aV aW aO aX aZ aT bf)),(29,.bool true),(30,.bool false),(31,.bool false),(32,.bool false),(33,.bool true),(34,.bool false),(35,.bool false),(43,.pointer (some ⟨g1,0,none⟩)),(44,(a0p ax ay aj c1a az ak aA)),(45,.pointer (some ⟨g1,3,none⟩)),(46,(a0p aB aC n1b aG aF au aH)),(47,.slice (some ⟨g16,0,none⟩) 2 2),(48,.int .i64 2),(49,.int .i64 1),(50,.bool true),(51,.pointer (some ⟨g16,3,none⟩)),(52,(a0p aB aC n1b aG aF au aH)),(53,.pointer (some ⟨g2,0,none⟩)),(54,(a0p aP aQ aK aS aU aN aY)),(55,.pointer (some ⟨g2,3,none⟩)),(56,(a0p aV aW aO aX aZ aT bf)),(57,.slice (some ⟨zO,0,none⟩) 2 2),(58,.int .i64 2),(59,.int .i64 0),(60,.bool true),(61,.pointer (some ⟨zO,0,none⟩)),(62,(a0p aP aQ aK aS aU aN aY)),(101,.int .i64 2),(102,.int .i64 1),(7,.bool u55),(8,.bool v55)]) (fun ⟨u55,v55⟩ w=>(u55=(u34||decide (ah+aI=af+aI))∧v55=(v34||decide (ah+aI=ah+aJ)))∧St W0 (⟨vX,24,(a0q o5 oI oW oM oK oU oO)⟩ :: ⟨vW,24,(a0q rf qg qU qB qm qN qI)⟩ :: ⟨Kv,24,(a0q aP aQ aK aS aU aN aY)⟩ :: ⟨zO,24,(a0s aP aQ aK aS aU aN aY aV aW aO aX aZ aT bf)⟩ :: ⟨g48,24,(a0q aB aC n1b aG aF au aH)⟩ :: ⟨vC,24,(a0q mZ mM mW mP mO mV mQ)⟩ :: ⟨vz,24,(a0q oZ oH oV oL oJ oQ oN)⟩ :: ⟨EL,24,(a0q aV aW aO aX aZ aT bf)⟩ :: ⟨uO,24,(a0q lF kW lD kY kX lq kZ)⟩ :: ⟨uN,24,(a0q nK ni nJ nD nC nI nG)⟩ :: ⟨g20,24,(a0q aP aQ aK aS aU aN aY)⟩ :: ⟨g19,24,(a0s aP aQ aK aS aU aN aY aV aW aO aX aZ aT bf)⟩ :: ⟨g17,24,(a0q ax ay aj c1a az ak aA)⟩ :: ⟨g16,24,(a0s ax ay aj c1a az ak aA aB aC n1b aG aF au aH)⟩ :: ⟨mD,48,(a0s kN jY kJ kC ku kG kE jR jH jP jK jI jM jL)⟩ :: ⟨l9,48,(a0s lZ lJ lX lQ lM lV lT kV kP kU kR kQ kT kS)⟩ :: ⟨g3,48,[.bool ax,.slice ay aj c1a,.slice az ak aA,.bool aB,.slice aC n1b aG,.slice aF au aH,.bool aP,.slice aQ aK aS,.slice aU aN aY,.bool aV,.slice aW aO aX,.slice aZ aT bf]⟩ :: ⟨g2,48,(a0s aP aQ aK aS aU aN aY aV aW aO aX aZ aT bf)⟩ :: ⟨g1,48,(a0s ax ay aj c1a az ak aA aB aC n1b aG aF au aH)⟩ :: U) (FV (a0p o5 oI oW oM oK oU oO) (ah*aI) (8+8+2) true :: FV (a0p rf qg qU qB qm qN qI) (ah+aI) (8+8+2) true :: FV (a0p mZ mM mW mP mO mV mQ) (af*aJ) (8+8+2) true :: FV (a0p oZ oH oV oL oJ oQ oN) (af+aJ) (8+8+2) true :: FV (a0p lF kW lD kY kX lq kZ) (af*aI) (8+8+2) true :: FV (a0p nK ni nJ nD nC nI nG) (af+aI) (8+8+2) true :: FV (a0p kN jY kJ kC ku kG kE) (lC af ah aI aJ) (4*(8+8)+4*(8+8)+4) true :: FV (a0p jR jH jP jK jI jM jL) (jV af ah aI aJ) (4*(8+8)+4*(8+8)+4) true :: FV (a0p lZ lJ lX lQ lM lV lT) (af+aI) ((8+8)+(8+8)+2) true :: FV (a0p kV kP kU kR kQ kT kS) (ah+aJ) ((8+8)+(8+8)+2) true :: FV (a0p aV aW aO aX aZ aT bf) aJ 8 true :: FV (a0p aP aQ aK aS aU aN aY) aI 8 true :: FV (a0p aB aC n1b aG aF au aH) ah 8 true :: FV (a0p ax ay aj c1a az ak aA) af 8 true :: FV (a0p aV aW aO aX aZ aT bf) aJ bP true :: FV (a0p aP aQ aK aS aU aN aY) aI bM true :: FV (a0p aB aC n1b aG aF au aH) ah bD true :: FV (a0p ax ay aj c1a az ak aA) af bC true :: Ps) w) ?_ ?_
            ·skip
             refine JC.region ?_
             refine Lv (.bool u34) (fun a ha=>run_move (ha.ev rfl)) ?_
             cases u34
             ·skip
              refine Lv (.bool false) (fun a ha=>run_move (ha.ev rfl)) ?_
              refine Lg (a0p rf qg qU qB qm qN qI) (fun a ha=>gU (ha.ev rfl) aYp aYn (HS.box _ (.tail _ (.head _))) rfl rfl) ?_
              refine Lg (.pointer (some ⟨l9,0,none⟩)) (fun a ha=>bH (ha.ev rfl) aYr rfl aYn rfl rfl) ?_
              refine Lg (a0p lZ lJ lX lQ lM lV lT) (fun a ha=>gU (ha.ev rfl) aYp aYn (HS.box _ (.tail _ (.tail _ (.tail _ (.tail _ (.tail _ (.tail _ (.tail _ (.tail _ (.tail _ (.tail _ (.tail _ (.tail _ (.tail _ (.tail _ (.tail _ (.head _))))))))))))))))) rfl rfl) ?_
              refine JL.cZ rfl rfl rfl rfl rfl rfl aYD (vJ HT HB HS (HS.at_ 1 rfl) (HS.at_ 8 rfl) (by omega)) (fun v57 w57 avP => ?_)
              obtain ⟨rfl,HS⟩:=avP
              refine Lg (.bool (decide ((ah+aI)=(af+aI)))) (fun a ha=>rC (ha.ev rfl) (ha.ev rfl) (yR _ _)) ?_
              refine Lv (.bool (decide ((ah+aI)=(af+aI)))) (fun a ha=>gB (ha.ev rfl) (ha.ev rfl)) ?_
              refine Lv (.bool v34) (fun a ha=>run_move (ha.ev rfl)) ?_
              cases v34
              ·skip
               refine Lv (.bool false) (fun a ha=>run_move (ha.ev rfl)) ?_
               refine Lg (a0p rf qg qU qB qm qN qI) (fun a ha=>gU (ha.ev rfl) aYp aYn (HS.box _ (.tail _ (.head _))) rfl rfl) ?_
               refine Lg (.pointer (some ⟨l9,3,none⟩)) (fun a ha=>bH (ha.ev rfl) aYr rfl aYn rfl rfl) ?_
               refine Lg (a0p kV kP kU kR kQ kT kS) (fun a ha=>gU (ha.ev rfl) aYp aYn (HS.box _ (.tail _ (.tail _ (.tail _ (.tail _ (.tail _ (.tail _ (.tail _ (.tail _ (.tail _ (.tail _ (.tail _ (.tail _ (.tail _ (.tail _ (.tail _ (.head _))))))))))))))))) rfl rfl) ?_
               refine JL.cZ rfl rfl rfl rfl rfl rfl aYD (vJ HT HB HS (HS.at_ 1 rfl) (HS.at_ 9 rfl) (by omega)) (fun v59 w59 avR => ?_)
               obtain ⟨rfl,HS⟩:=avR
               refine Lg (.bool (decide ((ah+aI)=(ah+aJ)))) (fun a ha=>rC (ha.ev rfl) (ha.ev rfl) (yR _ _)) ?_
               refine Lv (.bool (decide ((ah+aI)=(ah+aJ)))) (fun a ha=>gB (ha.ev rfl) (ha.ev rfl)) ?_
               refine Lv (.bool (decide ((ah+aI)=(af+aI)))) (fun a ha=>run_assign (ha.ev rfl)) ?_
               refine Lv (.bool (decide ((ah+aI)=(ah+aJ)))) (fun a ha=>run_assign (ha.ev rfl)) ?_
               exact JL.mt ((decide ((ah+aI)=(af+aI))),(decide ((ah+aI)=(ah+aJ)))) (⟨⟨rfl,rfl⟩,HS⟩)
              ·skip
               refine Lv (.bool true) (fun a ha=>run_move (ha.ev rfl)) ?_
               refine Lp ?_
               refine Lp ?_
               refine Lp ?_
               refine Lp ?_
               refine Lp ?_
               refine Lv (.bool true) (fun a ha=>eY (ha.ev rfl) (ha.ev rfl)) ?_
               refine Lv (.bool (decide ((ah+aI)=(af+aI)))) (fun a ha=>run_assign (ha.ev rfl)) ?_
               refine Lv (.bool true) (fun a ha=>run_assign (ha.ev rfl)) ?_
               exact JL.mt ((decide ((ah+aI)=(af+aI))),true) (⟨⟨rfl,rfl⟩,HS⟩)
             ·skip
              refine Lv (.bool true) (fun a ha=>run_move (ha.ev rfl)) ?_
              refine Lp ?_
              refine Lp ?_
              refine Lp ?_
              refine Lp ?_
              refine Lp ?_
              refine Lv (.bool true) (fun a ha=>eY (ha.ev rfl) (ha.ev rfl)) ?_
              refine Lv (.bool v34) (fun a ha=>run_move (ha.ev rfl)) ?_
              cases v34
              ·skip
               refine Lv (.bool false) (fun a ha=>run_move (ha.ev rfl)) ?_
               refine Lg (a0p rf qg qU qB qm qN qI) (fun a ha=>gU (ha.ev rfl) aYp aYn (HS.box _ (.tail _ (.head _))) rfl rfl) ?_
               refine Lg (.pointer (some ⟨l9,3,none⟩)) (fun a ha=>bH (ha.ev rfl) aYr rfl aYn rfl rfl) ?_
               refine Lg (a0p kV kP kU kR kQ kT kS) (fun a ha=>gU (ha.ev rfl) aYp aYn (HS.box _ (.tail _ (.tail _ (.tail _ (.tail _ (.tail _ (.tail _ (.tail _ (.tail _ (.tail _ (.tail _ (.tail _ (.tail _ (.tail _ (.tail _ (.tail _ (.head _))))))))))))))))) rfl rfl) ?_
               refine JL.cZ rfl rfl rfl rfl rfl rfl aYD (vJ HT HB HS (HS.at_ 1 rfl) (HS.at_ 9 rfl) (by omega)) (fun v61 w61 agv => ?_)
               obtain ⟨rfl,HS⟩:=agv
               refine Lg (.bool (decide ((ah+aI)=(ah+aJ)))) (fun a ha=>rC (ha.ev rfl) (ha.ev rfl) (yR _ _)) ?_
               refine Lv (.bool (decide ((ah+aI)=(ah+aJ)))) (fun a ha=>gB (ha.ev rfl) (ha.ev rfl)) ?_
               refine Lv (.bool true) (fun a ha=>run_assign (ha.ev rfl)) ?_
               refine Lv (.bool (decide ((ah+aI)=(ah+aJ)))) (fun a ha=>run_assign (ha.ev rfl)) ?_
               exact JL.mt (true,(decide ((ah+aI)=(ah+aJ)))) (⟨⟨rfl,rfl⟩,HS⟩)
              ·skip
               refine Lv (.bool true) (fun a ha=>run_move (ha.ev rfl)) ?_
               refine Lp ?_
               refine Lp ?_
               refine Lp ?_
               refine Lp ?_
               refine Lp ?_
               refine Lv (.bool true) (fun a ha=>eY (ha.ev rfl) (ha.ev rfl)) ?_
               refine Lv (.bool true) (fun a ha=>run_assign (ha.ev rfl)) ?_
               refine Lv (.bool true) (fun a ha=>run_assign (ha.ev rfl)) ?_
               exact JL.mt (true,true) (⟨⟨rfl,rfl⟩,HS⟩)
            ·skip
             rintro ⟨u55,v55⟩ aYf ⟨KF,HS⟩
             try dsimp only at HS ⊢
             try dsimp only at KF
             refine JC.IL (ι:=Bool×Bool) (fun ⟨u62,v62⟩=>[(0,(a0r ax ay aj c1a az ak aA aB aC n1b aG aF au aH)),(1,(a0r aP aQ aK aS aU aN aY aV aW aO aX aZ aT bf)),(2,.pointer (some ⟨g1,0,none⟩)),(3,.pointer (some ⟨g2,0,none⟩)),(4,.bool false),(5,.pointer (some ⟨l9,0,none⟩)),(6,.pointer (some ⟨mD,0,none⟩)),(7,.bool u55),(8,.bool v55),(12,.pointer (some ⟨g48,0,none⟩)),(14,.pointer (some ⟨Kv,0,none⟩)),(15,.pointer (some ⟨vW,0,none⟩)),(16,.pointer (some ⟨vX,0,none⟩)),(17,(a0r ax ay aj c1a az ak aA aB aC n1b aG aF au aH)),(18,(a0r aP aQ aK aS aU aN aY aV aW aO aX aZ aT bf)),(19,.slice (some ⟨g3,0,none⟩) 2 2),(20,.bool true),(21,.bool false),(22,.bool false),(23,(a0r ax ay aj c1a az ak aA aB aC n1b aG aF au aH)),(24,.bool true),(25,.bool false),(26,.bool false),(27,.bool false),(28,(a0r aP aQ aK aS aU aN aY aV aW aO aX aZ aT bf)),(29,.bool true),(30,.bool false),(31,.bool false),(32,.bool false),(33,.bool true),(34,.bool false),(35,.bool false),(43,.pointer (some ⟨g1,0,none⟩)),(44,(a0p ax ay aj c1a az ak aA)),(45,.pointer (some ⟨g1,3,none⟩)),(46,(a0p aB aC n1b aG aF au aH)),(47,.slice (some ⟨g16,0,none⟩) 2 2),(48,.int .i64 2),(49,.int .i64 1),(50,.bool true),(51,.pointer (some ⟨g16,3,none⟩)),(52,(a0p aB aC n1b aG aF au aH)),(53,.pointer (some ⟨g2,0,none⟩)),(54,(a0p aP aQ aK aS aU aN aY)),(55,.pointer (some ⟨g2,3,none⟩)),(56,(a0p aV aW aO aX aZ aT bf)),(57,.slice (some ⟨zO,0,none⟩) 2 2),(58,.int .i64 2),(59,.int .i64 0),(60,.bool true),(61,.pointer (some ⟨zO,0,none⟩)),(62,(a0p aP aQ aK aS aU aN aY)),(101,.int .i64 2),(102,.int .i64 1),(9,.bool u62),(10,.bool v62)]) (fun ⟨u62,v62⟩ w=>(u62=(u41||decide (ah*aI=lC af ah aI aJ))∧v62=(v41||decide (ah*aI=jV af ah aI aJ)))∧St W0 (⟨vX,24,(a0q o5 oI oW oM oK oU oO)⟩ :: ⟨vW,24,(a0q rf qg qU qB qm qN qI)⟩ :: ⟨Kv,24,(a0q aP aQ aK aS aU aN aY)⟩ :: ⟨zO,24,(a0s aP aQ aK aS aU aN aY aV aW aO aX aZ aT bf)⟩ :: ⟨g48,24,(a0q aB aC n1b aG aF au aH)⟩ :: ⟨vC,24,(a0q mZ mM mW mP mO mV mQ)⟩ :: ⟨vz,24,(a0q oZ oH oV oL oJ oQ oN)⟩ :: ⟨EL,24,(a0q aV aW aO aX aZ aT bf)⟩ :: ⟨uO,24,(a0q lF kW lD kY kX lq kZ)⟩ :: ⟨uN,24,(a0q nK ni nJ nD nC nI nG)⟩ :: ⟨g20,24,(a0q aP aQ aK aS aU aN aY)⟩ :: ⟨g19,24,(a0s aP aQ aK aS aU aN aY aV aW aO aX aZ aT bf)⟩ :: ⟨g17,24,(a0q ax ay aj c1a az ak aA)⟩ :: ⟨g16,24,(a0s ax ay aj c1a az ak aA aB aC n1b aG aF au aH)⟩ :: ⟨mD,48,(a0s kN jY kJ kC ku kG kE jR jH jP jK jI jM jL)⟩ :: ⟨l9,48,(a0s lZ lJ lX lQ lM lV lT kV kP kU kR kQ kT kS)⟩ :: ⟨g3,48,[.bool ax,.slice ay aj c1a,.slice az ak aA,.bool aB,.slice aC n1b aG,.slice aF au aH,.bool aP,.slice aQ aK aS,.slice aU aN aY,.bool aV,.slice aW aO aX,.slice aZ aT bf]⟩ :: ⟨g2,48,(a0s aP aQ aK aS aU aN aY aV aW aO aX aZ aT bf)⟩ :: ⟨g1,48,(a0s ax ay aj c1a az ak aA aB aC n1b aG aF au aH)⟩ :: U) (FV (a0p o5 oI oW oM oK oU oO) (ah*aI) (8+8+2) true :: FV (a0p rf qg qU qB qm qN qI) (ah+aI) (8+8+2) true :: FV (a0p mZ mM mW mP mO mV mQ) (af*aJ) (8+8+2) true :: FV (a0p oZ oH oV oL oJ oQ oN) (af+aJ) (8+8+2) true :: FV (a0p lF kW lD kY kX lq kZ) (af*aI) (8+8+2) true :: FV (a0p nK ni nJ nD nC nI nG) (af+aI) (8+8+2) true :: FV (a0p kN jY kJ kC ku kG kE) (lC af ah aI aJ) (4*(8+8)+4*(8+8)+4) true :: FV (a0p jR jH jP jK jI jM jL) (jV af ah aI aJ) (4*(8+8)+4*(8+8)+4) true :: FV (a0p lZ lJ lX lQ lM lV lT) (af+aI) ((8+8)+(8+8)+2) true :: FV (a0p kV kP kU kR kQ kT kS) (ah+aJ) ((8+8)+(8+8)+2) true :: FV (a0p aV aW aO aX aZ aT bf) aJ 8 true :: FV (a0p aP aQ aK aS aU aN aY) aI 8 true :: FV (a0p aB aC n1b aG aF au aH) ah 8 true :: FV (a0p ax ay aj c1a az ak aA) af 8 true :: FV (a0p aV aW aO aX aZ aT bf) aJ bP true :: FV (a0p aP aQ aK aS aU aN aY) aI bM true :: FV (a0p aB aC n1b aG aF au aH) ah bD true :: FV (a0p ax ay aj c1a az ak aA) af bC true :: Ps) w) ?_ ?_
             ·skip
              refine JC.region ?_
              refine Lv (.bool u41) (fun a ha=>run_move (ha.ev rfl)) ?_
              cases u41
              ·skip
               refine Lv (.bool false) (fun a ha=>run_move (ha.ev rfl)) ?_
               refine Lg (a0p o5 oI oW oM oK oU oO) (fun a ha=>gU (ha.ev rfl) aYp aYn (HS.box _ (.head _)) rfl rfl) ?_
               refine Lg (.pointer (some ⟨mD,0,none⟩)) (fun a ha=>bH (ha.ev rfl) aYr rfl aYn rfl rfl) ?_
               refine Lg (a0p kN jY kJ kC ku kG kE) (fun a ha=>gU (ha.ev rfl) aYp aYn (HS.box _ (.tail _ (.tail _ (.tail _ (.tail _ (.tail _ (.tail _ (.tail _ (.tail _ (.tail _ (.tail _ (.tail _ (.tail _ (.tail _ (.tail _ (.head _)))))))))))))))) rfl rfl) ?_
               refine JL.cZ rfl rfl rfl rfl rfl rfl aYD (vJ HT HB HS (HS.at_ 0 rfl) (HS.at_ 6 rfl) (by omega)) (fun v64 Bh agw => ?_)
               obtain ⟨rfl,HS⟩:=agw
               refine Lg (.bool (decide ((ah*aI)=(lC af ah aI aJ)))) (fun a ha=>rC (ha.ev rfl) (ha.ev rfl) (yR _ _)) ?_
               refine Lv (.bool (decide ((ah*aI)=(lC af ah aI aJ)))) (fun a ha=>gB (ha.ev rfl) (ha.ev rfl)) ?_
               refine Lv (.bool v41) (fun a ha=>run_move (ha.ev rfl)) ?_
               cases v41
               ·skip
                refine Lv (.bool false) (fun a ha=>run_move (ha.ev rfl)) ?_
                refine Lg (a0p o5 oI oW oM oK oU oO) (fun a ha=>gU (ha.ev rfl) aYp aYn (HS.box _ (.head _)) rfl rfl) ?_
                refine Lg (.pointer (some ⟨mD,3,none⟩)) (fun a ha=>bH (ha.ev rfl) aYr rfl aYn rfl rfl) ?_
                refine Lg (a0p jR jH jP jK jI jM jL) (fun a ha=>gU (ha.ev rfl) aYp aYn (HS.box _ (.tail _ (.tail _ (.tail _ (.tail _ (.tail _ (.tail _ (.tail _ (.tail _ (.tail _ (.tail _ (.tail _ (.tail _ (.tail _ (.tail _ (.head _)))))))))))))))) rfl rfl) ?_
                refine JL.cZ rfl rfl rfl rfl rfl rfl aYD (vJ HT HB HS (HS.at_ 0 rfl) (HS.at_ 7 rfl) (by omega)) (fun v66 w66 agx => ?_)
                obtain ⟨rfl,HS⟩:=agx
                refine Lg (.bool (decide ((ah*aI)=(jV af ah aI aJ)))) (fun a ha=>rC (ha.ev rfl) (ha.ev rfl) (yR _ _)) ?_
                refine Lv (.bool (decide ((ah*aI)=(jV af ah aI aJ)))) (fun a ha=>gB (ha.ev rfl) (ha.ev rfl)) ?_
                refine Lv (.bool (decide ((ah*aI)=(lC af ah aI aJ)))) (fun a ha=>run_assign (ha.ev rfl)) ?_
                refine Lv (.bool (decide ((ah*aI)=(jV af ah aI aJ)))) (fun a ha=>run_assign (ha.ev rfl)) ?_
                exact JL.mt ((decide ((ah*aI)=(lC af ah aI aJ))),(decide ((ah*aI)=(jV af ah aI aJ)))) (⟨⟨rfl,rfl⟩,HS⟩)
               ·skip
                refine Lv (.bool true) (fun a ha=>run_move (ha.ev rfl)) ?_
                refine Lp ?_
                refine Lp ?_
                refine Lp ?_
                refine Lp ?_
                refine Lp ?_
                refine Lv (.bool true) (fun a ha=>eY (ha.ev rfl) (ha.ev rfl)) ?_
                refine Lv (.bool (decide ((ah*aI)=(lC af ah aI aJ)))) (fun a ha=>run_assign (ha.ev rfl)) ?_
                refine Lv (.bool true) (fun a ha=>run_assign (ha.ev rfl)) ?_
                exact JL.mt ((decide ((ah*aI)=(lC af ah aI aJ))),true) (⟨⟨rfl,rfl⟩,HS⟩)
              ·skip
               refine Lv (.bool true) (fun a ha=>run_move (ha.ev rfl)) ?_
               refine Lp ?_
               refine Lp ?_
               refine Lp ?_
               refine Lp ?_
               refine Lp ?_
               refine Lv (.bool true) (fun a ha=>eY (ha.ev rfl) (ha.ev rfl)) ?_
               refine Lv (.bool v41) (fun a ha=>run_move (ha.ev rfl)) ?_
               cases v41
               ·skip
                refine Lv (.bool false) (fun a ha=>run_move (ha.ev rfl)) ?_
                refine Lg (a0p o5 oI oW oM oK oU oO) (fun a ha=>gU (ha.ev rfl) aYp aYn (HS.box _ (.head _)) rfl rfl) ?_
                refine Lg (.pointer (some ⟨mD,3,none⟩)) (fun a ha=>bH (ha.ev rfl) aYr rfl aYn rfl rfl) ?_
                refine Lg (a0p jR jH jP jK jI jM jL) (fun a ha=>gU (ha.ev rfl) aYp aYn (HS.box _ (.tail _ (.tail _ (.tail _ (.tail _ (.tail _ (.tail _ (.tail _ (.tail _ (.tail _ (.tail _ (.tail _ (.tail _ (.tail _ (.tail _ (.head _)))))))))))))))) rfl rfl) ?_
                refine JL.cZ rfl rfl rfl rfl rfl rfl aYD (vJ HT HB HS (HS.at_ 0 rfl) (HS.at_ 7 rfl) (by omega)) (fun v68 w68 agz => ?_)
                obtain ⟨rfl,HS⟩:=agz
                refine Lg (.bool (decide ((ah*aI)=(jV af ah aI aJ)))) (fun a ha=>rC (ha.ev rfl) (ha.ev rfl) (yR _ _)) ?_
                refine Lv (.bool (decide ((ah*aI)=(jV af ah aI aJ)))) (fun a ha=>gB (ha.ev rfl) (ha.ev rfl)) ?_
                refine Lv (.bool true) (fun a ha=>run_assign (ha.ev rfl)) ?_
                refine Lv (.bool (decide ((ah*aI)=(jV af ah aI aJ)))) (fun a ha=>run_assign (ha.ev rfl)) ?_
                exact JL.mt (true,(decide ((ah*aI)=(jV af ah aI aJ)))) (⟨⟨rfl,rfl⟩,HS⟩)
               ·skip
                refine Lv (.bool true) (fun a ha=>run_move (ha.ev rfl)) ?_
                refine Lp ?_
                refine Lp ?_
                refine Lp ?_
                refine Lp ?_
                refine Lp ?_
                refine Lv (.bool true) (fun a ha=>eY (ha.ev rfl) (ha.ev rfl)) ?_
                refine Lv (.bool true) (fun a ha=>run_assign (ha.ev rfl)) ?_
                refine Lv (.bool true) (fun a ha=>run_assign (ha.ev rfl)) ?_
                exact JL.mt (true,true) (⟨⟨rfl,rfl⟩,HS⟩)
             ·skip
              rintro ⟨u62,v62⟩ aYh ⟨KG,HS⟩
              try dsimp only at HS ⊢
              try dsimp only at KG
              refine JL.EH (fun _ _ h=>h) ?_
              refine JC.region ?_
              refine Lv (.int .i64 1) (fun a ha=>BX (ha.ev rfl) (ha.ev rfl) (by decide)) ?_
              refine Lv (.int .i64 1) (fun a ha=>run_move (ha.ev rfl)) ?_
              refine JL.again 39 (fun _ _ h=>h) ?_
              refine JC.seq ?_
              refine JC.region ?_
              refine Lv (.bool true) (fun a ha=>qX (ha.ev rfl) (ha.ev rfl) (by decide)) ?_
              refine jn ?_
              refine JC.seq ?_
              refine JC.iy rfl ?_
              refine JC.jF (fun _ _ h=>h) ?_
              refine JC.seq ?_
              refine JC.block ?_
              refine JC.seq ?_
              refine JC.region ?_
              refine Lv (.pointer (some ⟨zO,3,none⟩)) (fun a ha=>zC (ha.ev rfl) (ha.ev rfl) aYC aYn (j:=1) rfl (by decide) rfl) ?_
              refine JL.load (a0p aV aW aO aX aZ aT bf) HS 3 rfl rfl rfl aYp aYn rfl rfl ?_
              refine JL.alloc (vs:=bU) HS rfl aYs rfl rfl (fun RG w69 HS => ?_)
              refine JL.store HS rfl rfl (i:=0) rfl aYn rfl rfl rfl (vs':=(a0q aV aW aO aX aZ aT bf)) rfl rfl (fun w70 HS => ?_)
              refine jn ?_
              refine JC.cut (ι:=PT) (fun ⟨tZ,sZ,tX,tC,tq,tV,tH,ru,qi,qW,qE,qp,qP,qK,wS,wU⟩=>[(0,(a0r ax ay aj c1a az ak aA aB aC n1b aG aF au aH)),(1,(a0r aP aQ aK aS aU aN aY aV aW aO aX aZ aT bf)),(2,.pointer (some ⟨g1,0,none⟩)),(3,.pointer (some ⟨g2,0,none⟩)),(4,.bool false),(5,.pointer (some ⟨l9,0,none⟩)),(6,.pointer (some ⟨mD,0,none⟩)),(7,.bool u55),(8,.bool v55),(9,.bool u62),(10,.bool v62),(12,.pointer (some ⟨g48,0,none⟩)),(14,.pointer (some ⟨RG,0,none⟩)),(15,.pointer (some ⟨wS,0,none⟩)),(16,.pointer (some ⟨wU,0,none⟩)),(17,(a0r ax ay aj c1a az ak aA aB aC n1b aG aF au aH)),(18,(a0r aP aQ aK aS aU aN aY aV aW aO aX aZ aT bf)),(19,.slice (some ⟨g3,0,none⟩) 2 2),(20,.bool true),(21,.bool false),(22,.bool false),(23,(a0r ax ay aj c1a az ak aA aB aC n1b aG aF au aH)),(24,.bool true),(25,.bool false),(26,.bool false),(27,.bool false),(28,(a0r aP aQ aK aS aU aN aY aV aW aO aX aZ aT bf)),(29,.bool true),(30,.bool false),(31,.bool false),(32,.bool false),(33,.bool true),(34,.bool false),(35,.bool false),(43,.pointer (some ⟨g1,0,none⟩)),(44,(a0p ax ay aj c1a az ak aA)),(45,.pointer (some ⟨g1,3,none⟩)),(46,(a0p aB aC n1b aG aF au aH)),(47,.slice (some ⟨g16,0,none⟩) 2 2),(48,.int .i64 2),(49,.int .i64 1),(50,.bool true),(51,.pointer (some ⟨g16,3,none⟩)),(52,(a0p aB aC n1b aG aF au aH)),(53,.pointer (some ⟨g2,0,none⟩)),(54,(a0p aP aQ aK aS aU aN aY)),(55,.pointer (some ⟨g2,3,none⟩)),(56,(a0p aV aW aO aX aZ aT bf)),(57,.slice (some ⟨zO,0,none⟩) 2 2),(58,.int .i64 2),(59,.int .i64 1),(60,.bool true),(61,.pointer (some ⟨zO,3,none⟩)),(62,(a0p aV aW aO aX aZ aT bf)),(101,.int .i64 1),(102,.int .i64 1)]) (fun ⟨tZ,sZ,tX,tC,tq,tV,tH,ru,qi,qW,qE,qp,qP,qK,wS,wU⟩ w=>St W0 (⟨wU,24,(a0q ru qi qW qE qp qP qK)⟩ :: ⟨wS,24,(a0q tZ sZ tX tC tq tV tH)⟩ :: ⟨RG,24,(a0q aV aW aO aX aZ aT bf)⟩ :: ⟨vX,24,(a0q o5 oI oW oM oK oU oO)⟩ :: ⟨vW,24,(a0q rf qg qU qB qm qN qI)⟩ :: ⟨Kv,24,(a0q aP aQ aK aS aU aN aY)⟩ :: ⟨zO,24,(a0s aP aQ aK aS aU aN aY aV aW aO aX aZ aT bf)⟩ :: ⟨g48,24,(a0q aB aC n1b aG aF au aH)⟩ :: ⟨vC,24,(a0q mZ mM mW mP mO mV mQ)⟩ :: ⟨vz,24,(a0q oZ oH oV oL oJ oQ oN)⟩ :: ⟨EL,24,(a0q aV aW aO aX aZ aT bf)⟩ :: ⟨uO,24,(a0q lF kW lD kY kX lq kZ)⟩ :: ⟨uN,24,(a0q nK ni nJ nD nC nI nG)⟩ :: ⟨g20,24,(a0q aP aQ aK aS aU aN aY)⟩ :: ⟨g19,24,(a0s aP aQ aK aS aU aN aY aV aW aO aX aZ aT bf)⟩ :: ⟨g17,24,(a0q ax ay aj c1a az ak aA)⟩ :: ⟨g16,24,(a0s ax ay aj c1a az ak aA aB aC n1b aG aF au aH)⟩ :: ⟨mD,48,(a0s kN jY kJ kC ku kG kE jR jH jP jK jI jM jL)⟩ :: ⟨l9,48,(a0s lZ lJ lX lQ lM lV lT kV kP kU kR kQ kT kS)⟩ :: ⟨g3,48,[.bool ax,.slice ay aj c1a,.slice az ak aA,.bool aB,.slice aC n1b aG,.slice aF au aH,.bool aP,.slice aQ aK aS,.slice aU aN aY,.bool aV,.slice aW aO aX,.slice aZ aT bf]⟩ :: ⟨g2,48,(a0s aP aQ aK aS aU aN aY aV aW aO aX aZ aT bf)⟩ :: ⟨g1,48,(a0s ax ay aj c1a az ak aA aB aC n1b aG aF au aH)⟩ :: U) (FV (a0p ru qi qW qE qp qP qK) (ah*aJ) (8+8+2) true :: FV (a0p tZ sZ tX tC tq tV tH) (ah+aJ) (8+8+2) true :: FV (a0p o5 oI oW oM oK oU oO) (ah*aI) (8+8+2) true :: FV (a0p rf qg qU qB qm qN qI) (ah+aI) (8+8+2) true :: FV (a0p mZ mM mW mP mO mV mQ) (af*aJ) (8+8+2) true :: FV (a0p oZ oH oV oL oJ oQ oN) (af+aJ) (8+8+2) true :: FV (a0p lF kW lD kY kX lq kZ) (af*aI) (8+8+2) true :: FV (a0p nK ni nJ nD nC nI nG) (af+aI) (8+8+2) true :: FV (a0p kN jY kJ kC ku kG kE) (lC af ah aI aJ) (4*(8+8)+4*(8+8)+4) true :: FV (a0p jR jH jP jK jI jM jL) (jV af ah aI aJ) (4*(8+8)+4*(8+8)+4) true :: FV (a0p lZ lJ lX lQ lM lV lT) (af+aI) ((8+8)+(8+8)+2) true :: FV (a0p kV kP kU kR kQ kT kS) (ah+aJ) ((8+8)+(8+8)+2) true :: FV (a0p aV aW aO aX aZ aT bf) aJ 8 true :: FV (a0p aP aQ aK aS aU aN aY) aI 8 true :: FV (a0p aB aC n1b aG aF au aH) ah 8 true :: FV (a0p ax ay aj c1a az ak aA) af 8 true :: FV (a0p aV aW aO aX aZ aT bf) aJ bP true :: FV (a0p aP aQ aK aS aU aN aY) aI bM true :: FV (a0p aB aC n1b aG aF au aH) ah bD true :: FV (a0p ax ay aj c1a az ak aA) af bC true :: Ps) w) ?_ ?_
              ·skip
               refine JC.draw HS [] (by kernel_rfl) (fun w72 HS => ?_)
               refine Da (a0p aB aC n1b aG aF au aH) 0 5 rfl HS.b0 rfl rfl aYp aYn ?_
               refine Da (a0p aV aW aO aX aZ aT bf) 1 0 rfl HS.b0 rfl rfl aYp aYn ?_
               refine Da (a0p aB aC n1b aG aF au aH) 3 5 rfl HS.b0 rfl rfl aYp aYn ?_
               refine Da (a0p aV aW aO aX aZ aT bf) 4 0 rfl HS.b0 rfl rfl aYp aYn ?_
               refine JR.any [2,6,7] (by kernel_rfl) rfl ?_
               refine ai.call rfl rfl rfl aYG (xu HT HB HS (HS.at_ 12 rfl) (HS.at_ 10 rfl) (by omega)) rfl (fun aeU afi Nh => ?_) ?_
               ·skip
                obtain ⟨tZ,sZ,tX,tC,tq,tV,tH,rfl,HS⟩:=Nh
                refine ⟨HS.b0,?_⟩
                refine JR.any [5,6,7] (by kernel_rfl) rfl ?_
                refine ai.call rfl rfl rfl aYv (iQ HT HB HS (HS.at_ 13 rfl) (HS.at_ 11 rfl) (by omega)) rfl (fun Ls LQ zN => ?_) ?_
                ·skip
                 obtain ⟨ru,qi,qW,qE,qp,qP,qK,rfl,HS⟩:=zN
                 refine ⟨HS.b0,?_⟩
                 refine JR.any [6,7] (by kernel_rfl) rfl ?_
                 refine ai.alloc (vs:=bU) HS rfl rfl aYs rfl rfl rfl (fun wS aaf HS => ?_) ?_
                 ·skip
                  refine ⟨HS.b1,?_⟩
                  refine jy (vs:=bU) 7 HS rfl aYs rfl (fun wU _ HS=>⟨HS.b2,?_⟩)
                  refine bF 8 (a0q tZ sZ tX tC tq tV tH) HS 1 rfl rfl rfl rfl aYn (fun _ HS=>⟨HS.b2,?_⟩)
                  refine bF 9 (a0q ru qi qW qE qp qP qK) HS 0 rfl rfl rfl rfl aYn (fun _ HS=>⟨HS.b2,?_⟩)
                  exact JR.mt (tZ,sZ,tX,tC,tq,tV,tH,ru,qi,qW,qE,qp,qP,qK,wS,wU) HS
                 refine ai.alloc (vs:=bU) HS rfl rfl aYs rfl rfl rfl (fun wU aag HS => ?_) ai.nil
                 refine ⟨HS.b1,?_⟩
                 refine jy (vs:=bU) 6 HS rfl aYs rfl (fun wS _ HS=>⟨HS.b2,?_⟩)
                 refine bF 8 (a0q tZ sZ tX tC tq tV tH) HS 0 rfl rfl rfl rfl aYn (fun _ HS=>⟨HS.b2,?_⟩)
                 refine bF 9 (a0q ru qi qW qE qp qP qK) HS 1 rfl rfl rfl rfl aYn (fun _ HS=>⟨HS.b2,?_⟩)
                 exact JR.mt (tZ,sZ,tX,tC,tq,tV,tH,ru,qi,qW,qE,qp,qP,qK,wS,wU) (HS.perm (.swap _ _ _))
                refine ai.alloc (vs:=bU) HS rfl rfl aYs rfl rfl rfl (fun wS aaf HS => ?_) ?_
                ·skip
                 refine ⟨HS.b1,?_⟩
                 refine JR.any [5,7] (by kernel_rfl) rfl ?_
                 refine ai.call rfl rfl rfl aYv (iQ HT HB HS (HS.at_ 13 rfl) (HS.at_ 11 rfl) (by omega)) rfl (fun Ls LQ zN => ?_) ?_
                 ·skip
                  obtain ⟨ru,qi,qW,qE,qp,qP,qK,rfl,HS⟩:=zN
                  refine ⟨HS.b1,?_⟩
                  refine jy (vs:=bU) 7 HS rfl aYs rfl (fun wU _ HS=>⟨HS.b2,?_⟩)
                  refine bF 8 (a0q tZ sZ tX tC tq tV tH) HS 1 rfl rfl rfl rfl aYn (fun _ HS=>⟨HS.b2,?_⟩)
                  refine bF 9 (a0q ru qi qW qE qp qP qK) HS 0 rfl rfl rfl rfl aYn (fun _ HS=>⟨HS.b2,?_⟩)
                  exact JR.mt (tZ,sZ,tX,tC,tq,tV,tH,ru,qi,qW,qE,qp,qP,qK,wS,wU) HS
                 refine ai.alloc (vs:=bU) HS rfl rfl aYs rfl rfl rfl (fun wU aag HS => ?_) ai.nil
                 refine ⟨HS.b2,?_⟩
                 refine bJ 5 rfl rfl rfl aYv (iQ HT HB HS (HS.at_ 13 rfl) (HS.at_ 11 rfl) (by omega)) (fun Ls LQ zN => ?_)
                 obtain ⟨ru,qi,qW,qE,qp,qP,qK,rfl,HS⟩:=zN
                 refine ⟨HS.b2,?_⟩
                 refine bF 8 (a0q tZ sZ tX tC tq tV tH) HS 1 rfl rfl rfl rfl aYn (fun _ HS=>⟨HS.b2,?_⟩)
                 refine bF 9 (a0q ru qi qW qE qp qP qK) HS 0 rfl rfl rfl rfl aYn (fun _ HS=>⟨HS.b2,?_⟩)
                 exact JR.mt (tZ,sZ,tX,tC,tq,tV,tH,ru,qi,qW,qE,qp,qP,qK,wS,wU) HS
                refine ai.alloc (vs:=bU) HS rfl rfl aYs rfl rfl rfl (fun wU aag HS => ?_) ai.nil
                refine ⟨HS.b1,?_⟩
                refine JR.any [5,6] (by kernel_rfl) rfl ?_
                refine ai.call rfl rfl rfl aYv (iQ HT HB HS (HS.at_ 13 rfl) (HS.at_ 11 rfl) (by omega)) rfl (fun Ls LQ zN => ?_) ?_
                ·skip
                 obtain ⟨ru,qi,qW,qE,qp,qP,qK,rfl,HS⟩:=zN
                 refine ⟨HS.b1,?_⟩
                 refine jy (vs:=bU) 6 HS rfl aYs rfl (fun wS _ HS=>⟨HS.b2,?_⟩)
                 refine bF 8 (a0q tZ sZ tX tC tq tV tH) HS 0 rfl rfl rfl rfl aYn (fun _ HS=>⟨HS.b2,?_⟩)
                 refine bF 9 (a0q ru qi qW qE qp qP qK) HS 1 rfl rfl rfl rfl aYn (fun _ HS=>⟨HS.b2,?_⟩)
                 exact JR.mt (tZ,sZ,tX,tC,tq,tV,tH,ru,qi,qW,qE,qp,qP,qK,wS,wU) (HS.perm (.swap _ _ _))
                refine ai.alloc (vs:=bU) HS rfl rfl aYs rfl rfl rfl (fun wS aaf HS => ?_) ai.nil
                refine ⟨HS.b2,?_⟩
                refine bJ 5 rfl rfl rfl aYv (iQ HT HB HS (HS.at_ 13 rfl) (HS.at_ 11 rfl) (by omega)) (fun Ls LQ zN => ?_)
                obtain ⟨ru,qi,qW,qE,qp,qP,qK,rfl,HS⟩:=zN
                refine ⟨HS.b2,?_⟩
                refine bF 8 (a0q tZ sZ tX tC tq tV tH) HS 0 rfl rfl rfl rfl aYn (fun _ HS=>⟨HS.b2,?_⟩)
                refine bF 9 (a0q ru qi qW qE qp qP qK) HS 1 rfl rfl rfl rfl aYn (fun _ HS=>⟨HS.b2,?_⟩)
                exact JR.mt (tZ,sZ,tX,tC,tq,tV,tH,ru,qi,qW,qE,qp,qP,qK,wS,wU) (HS.perm (.swap _ _ _))
               refine ai.alloc (vs:=bU) HS rfl rfl aYs rfl rfl rfl (fun wS aaf HS => ?_) ?_
               ·skip
                refine ⟨HS.b1,?_⟩
                refine JR.any [2,7] (by kernel_rfl) rfl ?_
                refine ai.call rfl rfl rfl aYG (xu HT HB HS (HS.at_ 12 rfl) (HS.at_ 10 rfl) (by omega)) rfl (fun aeU afi Nh => ?_) ?_
                ·skip
                 obtain ⟨tZ,sZ,tX,tC,tq,tV,tH,rfl,HS⟩:=Nh
                 refine ⟨HS.b1,?_⟩
                 refine JR.any [5,7] (by kernel_rfl) rfl ?_
                 refine ai.call rfl rfl rfl aYv (iQ HT HB HS (HS.at_ 13 rfl) (HS.at_ 11 rfl) (by omega)) rfl (fun Ls LQ zN => ?_) ?_
                 ·skip
                  obtain ⟨ru,qi,qW,qE,qp,qP,qK,rfl,HS⟩:=zN
                  refine ⟨HS.b1,?_⟩
                  refine jy (vs:=bU) 7 HS rfl aYs rfl (fun wU _ HS=>⟨HS.b2,?_⟩)
                  refine bF 8 (a0q tZ sZ tX tC tq tV tH) HS 1 rfl rfl rfl rfl aYn (fun _ HS=>⟨HS.b2,?_⟩)
                  refine bF 9 (a0q ru qi qW qE qp qP qK) HS 0 rfl rfl rfl rfl aYn (fun _ HS=>⟨HS.b2,?_⟩)
                  exact JR.mt (tZ,sZ,tX,tC,tq,tV,tH,ru,qi,qW,qE,qp,qP,qK,wS,wU) HS
                 refine ai.alloc (vs:=bU) HS rfl rfl aYs rfl rfl rfl (fun wU aag HS => ?_) ai.nil
                 refine ⟨HS.b2,?_⟩
                 refine bJ 5 rfl rfl rfl aYv (iQ HT HB HS (HS.at_ 13 rfl) (HS.at_ 11 rfl) (by omega)) (fun Ls LQ zN => ?_)
                 obtain ⟨ru,qi,qW,qE,qp,qP,qK,rfl,HS⟩:=zN
                 refine ⟨HS.b2,?_⟩
                 refine bF 8 (a0q tZ sZ tX tC tq tV tH) HS 1 rfl rfl rfl rfl aYn (fun _ HS=>⟨HS.b2,?_⟩)
                 refine bF 9 (a0q ru qi qW qE qp qP qK) HS 0 rfl rfl rfl rfl aYn (fun _ HS=>⟨HS.b2,?_⟩)
                 exact JR.mt (tZ,sZ,tX,tC,tq,tV,tH,ru,qi,qW,qE,qp,qP,qK,wS,wU) HS
                refine ai.alloc (vs:=bU) HS rfl rfl aYs rfl rfl rfl (fun wU aag HS => ?_) ai.nil
                refine ⟨HS.b2,?_⟩
                refine bJ 2 rfl rfl rfl aYG (xu HT HB HS (HS.at_ 12 rfl) (HS.at_ 10 rfl) (by omega)) (fun aeU afi Nh => ?_)
                obtain ⟨tZ,sZ,tX,tC,tq,tV,tH,rfl,HS⟩:=Nh
                refine ⟨HS.b2,?_⟩
                refine bJ 5 rfl rfl rfl aYv (iQ HT HB HS (HS.at_ 13 rfl) (HS.at_ 11 rfl) (by omega)) (fun Ls LQ zN => ?_)
                obtain ⟨ru,qi,qW,qE,qp,qP,qK,rfl,HS⟩:=zN
                refine ⟨HS.b2,?_⟩
                refine bF 8 (a0q tZ sZ tX tC tq tV tH) HS 1 rfl rfl rfl rfl aYn (fun _ HS=>⟨HS.b2,?_⟩)
                refine bF 9 (a0q ru qi qW qE qp qP qK) HS 0 rfl rfl rfl rfl aYn (fun _ HS=>⟨HS.b2,?_⟩)
                exact JR.mt (tZ,sZ,tX,tC,tq,tV,tH,ru,qi,qW,qE,qp,qP,qK,wS,wU) HS
               refine ai.alloc (vs:=bU) HS rfl rfl aYs rfl rfl rfl (fun wU aag HS => ?_) ai.nil
               refine ⟨HS.b1,?_⟩
               refine JR.any [2,6] (by kernel_rfl) rfl ?_
               refine ai.call rfl rfl rfl aYG (xu HT HB HS (HS.at_ 12 rfl) (HS.at_ 10 rfl) (by omega)) rfl (fun aeU afi Nh => ?_) ?_
               ·skip
                obtain ⟨tZ,sZ,tX,tC,tq,tV,tH,rfl,HS⟩:=Nh
                refine ⟨HS.b1,?_⟩
                refine JR.any [5,6] (by kernel_rfl) rfl ?_
                refine ai.call rfl rfl rfl aYv (iQ HT HB HS (HS.at_ 13 rfl) (HS.at_ 11 rfl) (by omega)) rfl (fun Ls LQ zN => ?_) ?_
                ·skip
                 obtain ⟨ru,qi,qW,qE,qp,qP,qK,rfl,HS⟩:=zN
                 refine ⟨HS.b1,?_⟩
                 refine jy (vs:=bU) 6 HS rfl aYs rfl (fun wS _ HS=>⟨HS.b2,?_⟩)
                 refine bF 8 (a0q tZ sZ tX tC tq tV tH) HS 0 rfl rfl rfl rfl aYn (fun _ HS=>⟨HS.b2,?_⟩)
                 refine bF 9 (a0q ru qi qW qE qp qP qK) HS 1 rfl rfl rfl rfl aYn (fun _ HS=>⟨HS.b2,?_⟩)
                 exact JR.mt (tZ,sZ,tX,tC,tq,tV,tH,ru,qi,qW,qE,qp,qP,qK,wS,wU) (HS.perm (.swap _ _ _))
                refine ai.alloc (vs:=bU) HS rfl rfl aYs rfl rfl rfl (fun wS aaf HS => ?_) ai.nil
                refine ⟨HS.b2,?_⟩
                refine bJ 5 rfl rfl rfl aYv (iQ HT HB HS (HS.at_ 13 rfl) (HS.at_ 11 rfl) (by omega)) (fun Ls LQ zN => ?_)
                obtain ⟨ru,qi,qW,qE,qp,qP,qK,rfl,HS⟩:=zN
                refine ⟨HS.b2,?_⟩
                refine bF 8 (a0q tZ sZ tX tC tq tV tH) HS 0 rfl rfl rfl rfl aYn (fun _ HS=>⟨HS.b2,?_⟩)
                refine bF 9 (a0q ru qi qW qE qp qP qK) HS 1 rfl rfl rfl rfl aYn (fun _ HS=>⟨HS.b2,?_⟩)
                exact JR.mt (tZ,sZ,tX,tC,tq,tV,tH,ru,qi,qW,qE,qp,qP,qK,wS,wU) (HS.perm (.swap _ _ _))
               refine ai.alloc (vs:=bU) HS rfl rfl aYs rfl rfl rfl (fun wS aaf HS => ?_) ai.nil
               refine ⟨HS.b2,?_⟩
               refine bJ 2 rfl rfl rfl aYG (xu HT HB HS (HS.at_ 12 rfl) (HS.at_ 10 rfl) (by omega)) (fun aeU afi Nh => ?_)
               obtain ⟨tZ,sZ,tX,tC,tq,tV,tH,rfl,HS⟩:=Nh
               refine ⟨HS.b2,?_⟩
               refine bJ 5 rfl rfl rfl aYv (iQ HT HB HS (HS.at_ 13 rfl) (HS.at_ 11 rfl) (by omega)) (fun Ls LQ zN => ?_)
               obtain ⟨ru,qi,qW,qE,qp,qP,qK,rfl,HS⟩:=zN
               refine ⟨HS.b2,?_⟩
               refine bF 8 (a0q tZ sZ tX tC tq tV tH) HS 0 rfl rfl rfl rfl aYn (fun _ HS=>⟨HS.b2,?_⟩)
               refine bF 9 (a0q ru qi qW qE qp qP qK) HS 1 rfl rfl rfl rfl aYn (fun _ HS=>⟨HS.b2,?_⟩)
               exact JR.mt (tZ,sZ,tX,tC,tq,tV,tH,ru,qi,qW,qE,qp,qP,qK,wS,wU) (HS.perm (.swap _ _ _))
              ·skip
               rintro ⟨tZ,sZ,tX,tC,tq,tV,tH,ru,qi,qW,qE,qp,qP,qK,wS,wU⟩ aYi HS
               try dsimp only at HS ⊢
               refine JC.cut (ι:=Bool×Bool) (fun ⟨u73,v73⟩=>[(0,(a0r ax ay aj c1a az ak aA aB aC n1b aG aF au aH)),(1,(a0r aP aQ aK aS aU aN aY aV aW aO aX aZ aT bf)),(2,.pointer (some ⟨g1,0,none⟩)),(3,.pointer (some ⟨g2,0,none⟩)),(4,.bool false),(5,.pointer (some ⟨l9,0,none⟩)),(6,.pointer (some ⟨mD,0,none⟩)),(9,.bool u62),(10,.bool v62),(12,.pointer (some ⟨g48,0,none⟩)),(14,.pointer (some ⟨RG,0,none⟩)),(15,.pointer (some ⟨wS,0,none⟩)),(16,.pointer (some ⟨wU,0,none⟩)),(17,(a0r ax ay aj c1a az ak aA aB aC n1b aG aF au aH)),(18,(a0r aP aQ aK aS aU aN aY aV aW aO aX aZ aT bf)),(19,.slice (some ⟨g3,0,none⟩) 2 2),(20,.bool true),(21,.bool false),(22,.bool false),(23,(a0r ax ay aj c1a az ak aA aB aC n1b aG aF au aH)),(24,.bool true),(25,.bool false),(26,.bool false),(27,.bool false),(28,(a0r aP aQ aK aS aU aN aY aV aW aO aX aZ aT bf)),(29,.bool true),(30,.bool false),(31,.bool false),(32,.bool false),(33,.bool true),(34,.bool false),(35,.bool false),(43,.pointer (some ⟨g1,0,none⟩)),(44,(a0p ax ay aj c1a az ak aA)),(45,.pointer (some ⟨g1,3,none⟩)),(46,(a0p aB aC n1b aG aF au aH)),(47,.slice (some ⟨g16,0,none⟩) 2 2),(48,.int .i64 2),(49,.int .i64 1),(50,.bool true),(51,.pointer (some ⟨g16,3,none⟩)),(52,(a0p aB aC n1b aG aF au aH)),(53,.pointer (some ⟨g2,0,none⟩)),(54,(a0p aP aQ aK aS aU aN aY)),(55,.pointer (some ⟨g2,3,none⟩)),(56,(a0p aV aW aO aX aZ aT bf)),(57,.slice (some ⟨zO,0,none⟩) 2 2),(58,.int .i64 2),(59,.int .i64 1),(60,.bool true),(61,.pointer (some ⟨zO,3,none⟩)),(62,(a0p aV aW aO aX aZ aT bf)),(101,.int .i64 1),(102,.int .i64 1),(7,.bool u73),(8,.bool v73)]) (fun ⟨u73,v73⟩ w=>(u73=(u55||decide (ah+aJ=af+aI))∧v73=(v55||decide (ah+aJ=ah+aJ)))∧St W0 (⟨wU,24,(a0q ru qi qW qE qp qP qK)⟩ :: ⟨wS,24,(a0q tZ sZ tX tC tq tV tH)⟩ :: ⟨RG,24,(a0q aV aW aO aX aZ aT bf)⟩ :: ⟨vX,24,(a0q o5 oI oW oM oK oU oO)⟩ :: ⟨vW,24,(a0q rf qg qU qB qm qN qI)⟩ :: ⟨Kv,24,(a0q aP aQ aK aS aU aN aY)⟩ :: ⟨zO,24,(a0s aP aQ aK aS aU aN aY aV aW aO aX aZ aT bf)⟩ :: ⟨g48,24,(a0q aB aC n1b aG aF au aH)⟩ :: ⟨vC,24,(a0q mZ mM mW mP mO mV mQ)⟩ :: ⟨vz,24,(a0q oZ oH oV oL oJ oQ oN)⟩ :: ⟨EL,24,(a0q aV aW aO aX aZ aT bf)⟩ :: ⟨uO,24,(a0q lF kW lD kY kX lq kZ)⟩ :: ⟨uN,24,(a0q nK ni nJ nD nC nI nG)⟩ :: ⟨g20,24,(a0q aP aQ aK aS aU aN aY)⟩ :: ⟨g19,24,(a0s aP aQ aK aS aU aN aY aV aW aO aX aZ aT bf)⟩ :: ⟨g17,24,(a0q ax ay aj c1a az ak aA)⟩ :: ⟨g16,24,(a0s ax ay aj c1a az ak aA aB aC n1b aG aF au aH)⟩ :: ⟨mD,48,(a0s kN jY kJ kC ku kG kE jR jH jP jK jI jM jL)⟩ :: ⟨l9,48,(a0s lZ lJ lX lQ lM lV lT kV kP kU kR kQ kT kS)⟩ :: ⟨g3,48,[.bool ax,.slice ay aj c1a,.slice az ak aA,.bool aB,.slice aC n1b aG,.slice aF au aH,.bool aP,.slice aQ aK aS,.slice aU aN aY,.bool aV,.slice aW aO aX,.slice aZ aT bf]⟩ :: ⟨g2,48,(a0s aP aQ aK aS aU aN aY aV aW aO aX aZ aT bf)⟩ :: ⟨g1,48,(a0s ax ay aj c1a az ak aA aB aC n1b aG aF au aH)⟩ :: U) (FV (a0p ru qi qW qE qp qP qK) (ah*aJ) (8+8+2) true :: FV (a0p tZ sZ tX tC tq tV tH) (ah+aJ) (8+8+2) true :: FV (a0p o5 oI oW oM oK oU oO) (ah*aI) (8+8+2) true :: FV (a0p rf qg qU qB qm qN qI) (ah+aI) (8+8+2) true :: FV (a0p mZ mM mW mP mO mV mQ) (af*aJ) (8+8+2) true :: FV (a0p oZ oH oV oL oJ oQ oN) (af+aJ) (8+8+2) true :: FV (a0p lF kW lD kY kX lq kZ) (af*aI) (8+8+2) true :: FV (a0p nK ni nJ nD nC nI nG) (af+aI) (8+8+2) true :: FV (a0p kN jY kJ kC ku kG kE) (lC af ah aI aJ) (4*(8+8)+4*(8+8)+4) true :: FV (a0p jR jH jP jK jI jM jL) (jV af ah aI aJ) (4*(8+8)+4*(8+8)+4) true :: FV (a0p lZ lJ lX lQ lM lV lT) (af+aI) ((8+8)+(8+8)+2) true :: FV (a0p kV kP kU kR kQ kT kS) (ah+aJ) ((8+8)+(8+8)+2) true :: FV (a0p aV aW aO aX aZ aT bf) aJ 8 true :: FV (a0p aP aQ aK aS aU aN aY) aI 8 true :: FV (a0p aB aC n1b aG aF au aH) ah 8 true :: FV (a0p ax ay aj c1a az ak aA) af 8 true :: FV (a0p aV aW aO aX aZ aT bf) aJ bP true :: FV (a0p aP aQ aK aS aU aN aY) aI bM true :: FV (a0p aB aC n1b aG aF au aH) ah bD true :: FV (a0p ax ay aj c1a az ak aA) af bC true :: Ps) w) ?_ ?_
               ·skip
                refine JC.region ?_
                refine Lv (.bool u55) (fun a ha=>run_move (ha.ev rfl)) ?_
                cases u55
                ·skip
                 refine Lv (.bool false) (fun a ha=>run_move (ha.ev rfl)) ?_
                 refine Lg (a0p tZ sZ tX tC tq tV tH) (fun a ha=>gU (ha.ev rfl) aYp aYn (HS.box _ (.tail _ (.head _))) rfl rfl) ?_
                 refine Lg (.pointer (some ⟨l9,0,none⟩)) (fun a ha=>bH (ha.ev rfl) aYr rfl aYn rfl rfl) ?_
                 refine Lg (a0p lZ lJ lX lQ lM lV lT) (fun a ha=>gU (ha.ev rfl) aYp aYn (HS.box _ (.tail _ (.tail _ (.tail _ (.tail _ (.tail _ (.tail _ (.tail _ (.tail _ (.tail _ (.tail _ (.tail _ (.tail _ (.tail _ (.tail _ (.tail _ (.tail _ (.tail _ (.tail _ (.head _)))))))))))))))))))) rfl rfl) ?_
                 refine JL.cZ rfl rfl rfl rfl rfl rfl aYD (vJ HT HB HS (HS.at_ 1 rfl) (HS.at_ 10 rfl) (by omega)) (fun v75 w75 awi => ?_)
                 obtain ⟨rfl,HS⟩:=awi
                 refine Lg (.bool (decide ((ah+aJ)=(af+aI)))) (fun a ha=>rC (ha.ev rfl) (ha.ev rfl) (yR _ _)) ?_
                 refine Lv (.bool (decide ((ah+aJ)=(af+aI)))) (fun a ha=>gB (ha.ev rfl) (ha.ev rfl)) ?_
                 refine Lv (.bool v55) (fun a ha=>run_move (ha.ev rfl)) ?_
                 cases v55
                 ·skip
                  refine Lv (.bool false) (fun a ha=>run_move (ha.ev rfl)) ?_
                  refine Lg (a0p tZ sZ tX tC tq tV tH) (fun a ha=>gU (ha.ev rfl) aYp aYn (HS.box _ (.tail _ (.head _))) rfl rfl) ?_
                  refine Lg (.pointer (some ⟨l9,3,none⟩)) (fun a ha=>bH (ha.ev rfl) aYr rfl aYn rfl rfl) ?_
                  refine Lg (a0p kV kP kU kR kQ kT kS) (fun a ha=>gU (ha.ev rfl) aYp aYn (HS.box _ (.tail _ (.tail _ (.tail _ (.tail _ (.tail _ (.tail _ (.tail _ (.tail _ (.tail _ (.tail _ (.tail _ (.tail _ (.tail _ (.tail _ (.tail _ (.tail _ (.tail _ (.tail _ (.head _)))))))))))))))))))) rfl rfl) ?_
                  refine JL.cZ rfl rfl rfl rfl rfl rfl aYD (vJ HT HB HS (HS.at_ 1 rfl) (HS.at_ 11 rfl) (by omega)) (fun v77 w77 awk => ?_)
                  obtain ⟨rfl,HS⟩:=awk
                  refine Lg (.bool (decide ((ah+aJ)=(ah+aJ)))) (fun a ha=>rC (ha.ev rfl) (ha.ev rfl) (yR _ _)) ?_
                  refine Lv (.bool (decide ((ah+aJ)=(ah+aJ)))) (fun a ha=>gB (ha.ev rfl) (ha.ev rfl)) ?_
                  refine Lv (.bool (decide ((ah+aJ)=(af+aI)))) (fun a ha=>run_assign (ha.ev rfl)) ?_
                  refine Lv (.bool (decide ((ah+aJ)=(ah+aJ)))) (fun a ha=>run_assign (ha.ev rfl)) ?_
                  exact JL.mt ((decide ((ah+aJ)=(af+aI))),(decide ((ah+aJ)=(ah+aJ)))) (⟨⟨rfl,rfl⟩,HS⟩)
                 ·skip
                  refine Lv (.bool true) (fun a ha=>run_move (ha.ev rfl)) ?_
                  refine Lp ?_
                  refine Lp ?_
                  refine Lp ?_
                  refine Lp ?_
                  refine Lp ?_
                  refine Lv (.bool true) (fun a ha=>eY (ha.ev rfl) (ha.ev rfl)) ?_
                  refine Lv (.bool (decide ((ah+aJ)=(af+aI)))) (fun a ha=>run_assign (ha.ev rfl)) ?_
                  refine Lv (.bool true) (fun a ha=>run_assign (ha.ev rfl)) ?_
                  exact JL.mt ((decide ((ah+aJ)=(af+aI))),true) (⟨⟨rfl,rfl⟩,HS⟩)
                ·skip
                 refine Lv (.bool true) (fun a ha=>run_move (ha.ev rfl)) ?_
                 refine Lp ?_
                 refine Lp ?_
                 refine Lp ?_
                 refine Lp ?_
                 refine Lp ?_
                 refine Lv (.bool true) (fun a ha=>eY (ha.ev rfl) (ha.ev rfl)) ?_
                 refine Lv (.bool v55) (fun a ha=>run_move (ha.ev rfl)) ?_
                 cases v55
                 ·skip
                  refine Lv (.bool false) (fun a ha=>run_move (ha.ev rfl)) ?_
                  refine Lg (a0p tZ sZ tX tC tq tV tH) (fun a ha=>gU (ha.ev rfl) aYp aYn (HS.box _ (.tail _ (.head _))) rfl rfl) ?_
                  refine Lg (.pointer (some ⟨l9,3,none⟩)) (fun a ha=>bH (ha.ev rfl) aYr rfl aYn rfl rfl) ?_
                  refine Lg (a0p kV kP kU kR kQ kT kS) (fun a ha=>gU (ha.ev rfl) aYp aYn (HS.box _ (.tail _ (.tail _ (.tail _ (.tail _ (.tail _ (.tail _ (.tail _ (.tail _ (.tail _ (.tail _ (.tail _ (.tail _ (.tail _ (.tail _ (.tail _ (.tail _ (.tail _ (.tail _ (.head _)))))))))))))))))))) rfl rfl) ?_
                  refine JL.cZ rfl rfl rfl rfl rfl rfl aYD (vJ HT HB HS (HS.at_ 1 rfl) (HS.at_ 11 rfl) (by omega)) (fun v79 w79 agB => ?_)
                  obtain ⟨rfl,HS⟩:=agB
                  refine Lg (.bool (decide ((ah+aJ)=(ah+aJ)))) (fun a ha=>rC (ha.ev rfl) (ha.ev rfl) (yR _ _)) ?_
                  refine Lv (.bool (decide ((ah+aJ)=(ah+aJ)))) (fun a ha=>gB (ha.ev rfl) (ha.ev rfl)) ?_
                  refine Lv (.bool true) (fun a ha=>run_assign (ha.ev rfl)) ?_
                  refine Lv (.bool (decide ((ah+aJ)=(ah+aJ)))) (fun a ha=>run_assign (ha.ev rfl)) ?_
                  exact JL.mt (true,(decide ((ah+aJ)=(ah+aJ)))) (⟨⟨rfl,rfl⟩,HS⟩)
                 ·skip
                  refine Lv (.bool true) (fun a ha=>run_move (ha.ev rfl)) ?_
                  refine Lp ?_
                  refine Lp ?_
                  refine Lp ?_
                  refine Lp ?_
                  refine Lp ?_
                  refine Lv (.bool true) (fun a ha=>eY (ha.ev rfl) (ha.ev rfl)) ?_
                  refine Lv (.bool true) (fun a ha=>run_assign (ha.ev rfl)) ?_
                  refine Lv (.bool true) (fun a ha=>run_assign (ha.ev rfl)) ?_
                  exact JL.mt (true,true) (⟨⟨rfl,rfl⟩,HS⟩)
               ·skip
                rintro ⟨u73,v73⟩ aYj ⟨KH,HS⟩
                try dsimp only at HS ⊢
                try dsimp only at KH
                refine JC.IL (ι:=Bool×Bool) (fun ⟨u80,v80⟩=>[(0,(a0r ax ay aj c1a az ak aA aB aC n1b aG aF au aH)),(1,(a0r aP aQ aK aS aU aN aY aV aW aO aX aZ aT bf)),(2,.pointer (some ⟨g1,0,none⟩)),(3,.pointer (some ⟨g2,0,none⟩)),(4,.bool false),(5,.pointer (some ⟨l9,0,none⟩)),(6,.pointer (some ⟨mD,0,none⟩)),(7,.bool u73),(8,.bool v73),(12,.pointer (some ⟨g48,0,none⟩)),(14,.pointer (some ⟨RG,0,none⟩)),(15,.pointer (some ⟨wS,0,none⟩)),(16,.pointer (some ⟨wU,0,none⟩)),(17,(a0r ax ay aj c1a az ak aA aB aC n1b aG aF au aH)),(18,(a0r aP aQ aK aS aU aN aY aV aW aO aX aZ aT bf)),(19,.slice (some ⟨g3,0,none⟩) 2 2),(20,.bool true),(21,.bool false),(22,.bool false),(23,(a0r ax ay aj c1a az ak aA aB aC n1b aG aF au aH)),(24,.bool true),(25,.bool false),(26,.bool false),(27,.bool false),(28,(a0r aP aQ aK aS aU aN aY aV aW aO aX aZ aT bf)),(29,.bool true),(30,.bool false),(31,.bool false),(32,.bool false),(33,.bool true),(34,.bool false),(35,.bool false),(43,.pointer (some ⟨g1,0,none⟩)),(44,(a0p ax ay aj c1a az ak aA)),(45,.pointer (some ⟨g1,3,none⟩)),(46,(a0p aB aC n1b aG aF au aH)),(47,.slice (some ⟨g16,0,none⟩) 2 2),(48,.int .i64 2),(49,.int .i64 1),(50,.bool true),(51,.pointer (some ⟨g16,3,none⟩)),(52,(a0p aB aC n1b aG aF au aH)),(53,.pointer (some ⟨g2,0,none⟩)),(54,(a0p aP aQ aK aS aU aN aY)),(55,.pointer (some ⟨g2,3,none⟩)),(56,(a0p aV aW aO aX aZ aT bf)),(57,.slice (some ⟨zO,0,none⟩) 2 2),(58,.int .i64 2),(59,.int .i64 1),(60,.bool true),(61,.pointer (some ⟨zO,3,none⟩)),(62,(a0p aV aW aO aX aZ aT bf)),(101,.int .i64 1),(102,.int .i64 1),(9,.bool u80),(10,.bool v80)]) (fun ⟨u80,v80⟩ w=>(u80=(u62||decide (ah*aJ=lC af ah aI aJ))∧v80=(v62||decide (ah*aJ=jV af ah aI aJ)))∧St W0 (⟨wU,24,(a0q ru qi qW qE qp qP qK)⟩ :: ⟨wS,24,(a0q tZ sZ tX tC tq tV tH)⟩ :: ⟨RG,24,(a0q aV aW aO aX aZ aT bf)⟩ :: ⟨vX,24,(a0q o5 oI oW oM oK oU oO)⟩ :: ⟨vW,24,(a0q rf qg qU qB qm qN qI)⟩ :: ⟨Kv,24,(a0q aP aQ aK aS aU aN aY)⟩ :: ⟨zO,24,(a0s aP aQ aK aS aU aN aY aV aW aO aX aZ aT bf)⟩ :: ⟨g48,24,(a0q aB aC n1b aG aF au aH)⟩ :: ⟨vC,24,(a0q mZ mM mW mP mO mV mQ)⟩ :: ⟨vz,24,(a0q oZ oH oV oL oJ oQ oN)⟩ :: ⟨EL,24,(a0q aV aW aO aX aZ aT bf)⟩ :: ⟨uO,24,(a0q lF kW lD kY kX lq kZ)⟩ :: ⟨uN,24,(a0q nK ni nJ nD nC nI nG)⟩ :: ⟨g20,24,(a0q aP aQ aK aS aU aN aY)⟩ :: ⟨g19,24,(a0s aP aQ aK aS aU aN aY aV aW aO aX aZ aT bf)⟩ :: ⟨g17,24,(a0q ax ay aj c1a az ak aA)⟩ :: ⟨g16,24,(a0s ax ay aj c1a az ak aA aB aC n1b aG aF au aH)⟩ :: ⟨mD,48,(a0s kN jY kJ kC ku kG kE jR jH jP jK jI jM jL)⟩ :: ⟨l9,48,(a0s lZ lJ lX lQ lM lV lT kV kP kU kR kQ kT kS)⟩ :: ⟨g3,48,[.bool ax,.slice ay aj c1a,.slice az ak aA,.bool aB,.slice aC n1b aG,.slice aF au aH,.bool aP,.slice aQ aK aS,.slice aU aN aY,.bool aV,.slice aW aO aX,.slice aZ aT bf]⟩ :: ⟨g2,48,(a0s aP aQ aK aS aU aN aY aV aW aO aX aZ aT bf)⟩ :: ⟨g1,48,(a0s ax ay aj c1a az ak aA aB aC n1b aG aF au aH)⟩ :: U) (FV (a0p ru qi qW qE qp qP qK) (ah*aJ) (8+8+2) true :: FV (a0p tZ sZ tX tC tq tV tH) (ah+aJ) (8+8+2) true :: FV (a0p o5 oI oW oM oK oU oO) (ah*aI) (8+8+2) true :: FV (a0p rf qg qU qB qm qN qI) (ah+aI) (8+8+2) true :: FV (a0p mZ mM mW mP mO mV mQ) (af*aJ) (8+8+2) true :: FV (a0p oZ oH oV oL oJ oQ oN) (af+aJ) (8+8+2) true :: FV (a0p lF kW lD kY kX lq kZ) (af*aI) (8+8+2) true :: FV (a0p nK ni nJ nD nC nI nG) (af+aI) (8+8+2) true :: FV (a0p kN jY kJ kC ku kG kE) (lC af ah aI aJ) (4*(8+8)+4*(8+8)+4) true :: FV (a0p jR jH jP jK jI jM jL) (jV af ah aI aJ) (4*(8+8)+4*(8+8)+4) true :: FV (a0p lZ lJ lX lQ lM lV lT) (af+aI) ((8+8)+(8+8)+2) true :: FV (a0p kV kP kU kR kQ kT kS) (ah+aJ) ((8+8)+(8+8)+2) true :: FV (a0p aV aW aO aX aZ aT bf) aJ 8 true :: FV (a0p aP aQ aK aS aU aN aY) aI 8 true :: FV (a0p aB aC n1b aG aF au aH) ah 8 true :: FV (a0p ax ay aj c1a az ak aA) af 8 true :: FV (a0p aV aW aO aX aZ aT bf) aJ bP true :: FV (a0p aP aQ aK aS aU aN aY) aI bM true :: FV (a0p aB aC n1b aG aF au aH) ah bD true :: FV (a0p ax ay aj c1a az ak aA) af bC true :: Ps) w) ?_ ?_
                ·skip
                 refine JC.region ?_
                 refine Lv (.bool u62) (fun a ha=>run_move (ha.ev rfl)) ?_
                 cases u62
                 ·skip
                  refine Lv (.bool false) (fun a ha=>run_move (ha.ev rfl)) ?_
                  refine Lg (a0p ru qi qW qE qp qP qK) (fun a ha=>gU (ha.ev rfl) aYp aYn (HS.box _ (.head _)) rfl rfl) ?_
                  refine Lg (.pointer (some ⟨mD,0,none⟩)) (fun a ha=>bH (ha.ev rfl) aYr rfl aYn rfl rfl) ?_
                  refine Lg (a0p kN jY kJ kC ku kG kE) (fun a ha=>gU (ha.ev rfl) aYp aYn (HS.box _ (.tail _ (.tail _ (.tail _ (.tail _ (.tail _ (.tail _ (.tail _ (.tail _ (.tail _ (.tail _ (.tail _ (.tail _ (.tail _ (.tail _ (.tail _ (.tail _ (.tail _ (.head _))))))))))))))))))) rfl rfl) ?_
                  refine JL.cZ rfl rfl rfl rfl rfl rfl aYD (vJ HT HB HS (HS.at_ 0 rfl) (HS.at_ 8 rfl) (by omega)) (fun v82 w82 agD => ?_)
                  obtain ⟨rfl,HS⟩:=agD
                  refine Lg (.bool (decide ((ah*aJ)=(lC af ah aI aJ)))) (fun a ha=>rC (ha.ev rfl) (ha.ev rfl) (yR _ _)) ?_
                  refine Lv (.bool (decide ((ah*aJ)=(lC af ah aI aJ)))) (fun a ha=>gB (ha.ev rfl) (ha.ev rfl)) ?_
                  refine Lv (.bool v62) (fun a ha=>run_move (ha.ev rfl)) ?_
                  cases v62
                  ·skip
                   refine Lv (.bool false) (fun a ha=>run_move (ha.ev rfl)) ?_
                   refine Lg (a0p ru qi qW qE qp qP qK) (fun a ha=>gU (ha.ev rfl) aYp aYn (HS.box _ (.head _)) rfl rfl) ?_
                   refine Lg (.pointer (some ⟨mD,3,none⟩)) (fun a ha=>bH (ha.ev rfl) aYr rfl aYn rfl rfl) ?_
                   refine Lg (a0p jR jH jP jK jI jM jL) (fun a ha=>gU (ha.ev rfl) aYp aYn (HS.box _ (.tail _ (.tail _ (.tail _ (.tail _ (.tail _ (.tail _ (.tail _ (.tail _ (.tail _ (.tail _ (.tail _ (.tail _ (.tail _ (.tail _ (.tail _ (.tail _ (.tail _ (.head _))))))))))))))))))) rfl rfl) ?_
                   refine JL.cZ rfl rfl rfl rfl rfl rfl aYD (vJ HT HB HS (HS.at_ 0 rfl) (HS.at_ 9 rfl) (by omega)) (fun v84 w84 awo => ?_)
                   obtain ⟨rfl,HS⟩:=awo
                   refine Lg (.bool (decide ((ah*aJ)=(jV af ah aI aJ)))) (fun a ha=>rC (ha.ev rfl) (ha.ev rfl) (yR _ _)) ?_
                   refine Lv (.bool (decide ((ah*aJ)=(jV af ah aI aJ)))) (fun a ha=>gB (ha.ev rfl) (ha.ev rfl)) ?_
                   refine Lv (.bool (decide ((ah*aJ)=(lC af ah aI aJ)))) (fun a ha=>run_assign (ha.ev rfl)) ?_
                   refine Lv (.bool (decide ((ah*aJ)=(jV af ah aI aJ)))) (fun a ha=>run_assign (ha.ev rfl)) ?_
                   exact JL.mt ((decide ((ah*aJ)=(lC af ah aI aJ))),(decide ((ah*aJ)=(jV af ah aI aJ)))) (⟨⟨rfl,rfl⟩,HS⟩)
                  ·skip
                   refine Lv (.bool true) (fun a ha=>run_move (ha.ev rfl)) ?_
                   refine Lp ?_
                   refine Lp ?_
                   refine Lp ?_
                   refine Lp ?_
                   refine Lp ?_
                   refine Lv (.bool true) (fun a ha=>eY (ha.ev rfl) (ha.ev rfl)) ?_
                   refine Lv (.bool (decide ((ah*aJ)=(lC af ah aI aJ)))) (fun a ha=>run_assign (ha.ev rfl)) ?_
                   refine Lv (.bool true) (fun a ha=>run_assign (ha.ev rfl)) ?_
                   exact JL.mt ((decide ((ah*aJ)=(lC af ah aI aJ))),true) (⟨⟨rfl,rfl⟩,HS⟩)
                 ·skip
                  refine Lv (.bool true) (fun a ha=>run_move (ha.ev rfl)) ?_
                  refine Lp ?_
                  refine Lp ?_
                  refine Lp ?_
                  refine Lp ?_
                  refine Lp ?_
                  refine Lv (.bool true) (fun a ha=>eY (ha.ev rfl) (ha.ev rfl)) ?_
                  refine Lv (.bool v62) (fun a ha=>run_move (ha.ev rfl)) ?_
                  cases v62
                  ·skip
                   refine Lv (.bool false) (fun a ha=>run_move (ha.ev rfl)) ?_
                   refine Lg (a0p ru qi qW qE qp qP qK) (fun a ha=>gU (ha.ev rfl) aYp aYn (HS.box _ (.head _)) rfl rfl) ?_
                   refine Lg (.pointer (some ⟨mD,3,none⟩)) (fun a ha=>bH (ha.ev rfl) aYr rfl aYn rfl rfl) ?_
                   refine Lg (a0p jR jH jP jK jI jM jL) (fun a ha=>gU (ha.ev rfl) aYp aYn (HS.box _ (.tail _ (.tail _ (.tail _ (.tail _ (.tail _ (.tail _ (.tail _ (.tail _ (.tail _ (.tail _ (.tail _ (.tail _ (.tail _ (.tail _ (.tail _ (.tail _ (.tail _ (.head _))))))))))))))))))) rfl rfl) ?_
                   refine JL.cZ rfl rfl rfl rfl rfl rfl aYD (vJ HT HB HS (HS.at_ 0 rfl) (HS.at_ 9 rfl) (by omega)) (fun v86 w86 agE => ?_)
                   obtain ⟨rfl,HS⟩:=agE
                   refine Lg (.bool (decide ((ah*aJ)=(jV af ah aI aJ)))) (fun a ha=>rC (ha.ev rfl) (ha.ev rfl) (yR _ _)) ?_
                   refine Lv (.bool (decide ((ah*aJ)=(jV af ah aI aJ)))) (fun a ha=>gB (ha.ev rfl) (ha.ev rfl)) ?_
                   refine Lv (.bool true) (fun a ha=>run_assign (ha.ev rfl)) ?_
                   refine Lv (.bool (decide ((ah*aJ)=(jV af ah aI aJ)))) (fun a ha=>run_assign (ha.ev rfl)) ?_
                   exact JL.mt (true,(decide ((ah*aJ)=(jV af ah aI aJ)))) (⟨⟨rfl,rfl⟩,HS⟩)
                  ·skip
                   refine Lv (.bool true) (fun a ha=>run_move (ha.ev rfl)) ?_
                   refine Lp ?_
                   refine Lp ?_
                   refine Lp ?_
                   refine Lp ?_
                   refine Lp ?_
                   refine Lv (.bool true) (fun a ha=>eY (ha.ev rfl) (ha.ev rfl)) ?_
                   refine Lv (.bool true) (fun a ha=>run_assign (ha.ev rfl)) ?_
                   refine Lv (.bool true) (fun a ha=>run_assign (ha.ev rfl)) ?_
                   exact JL.mt (true,true) (⟨⟨rfl,rfl⟩,HS⟩)
                ·skip
                 rintro ⟨u80,v80⟩ aYk ⟨KI,HS⟩
                 try dsimp only at HS ⊢
                 try dsimp only at KI
                 refine JL.EH (fun _ _ h=>h) ?_
                 refine JC.region ?_
                 refine Lv (.int .i64 2) (fun a ha=>BX (ha.ev rfl) (ha.ev rfl) (by decide)) ?_
                 refine Lv (.int .i64 2) (fun a ha=>run_move (ha.ev rfl)) ?_
                 refine JL.again 38 (fun _ _ h=>h) ?_
                 refine JC.seq ?_
                 refine JC.region ?_
                 refine Lv (.bool false) (fun a ha=>qX (ha.ev rfl) (ha.ev rfl) (by decide)) ?_
                 refine jn ?_
                 refine JC.seq ?_
                 refine JC.jA rfl ?_
                 refine JC.exit (fun _ _ h=>h) (fun _ _ h=>h) ?_
                 refine JC.region ?_
                 refine Lv (.int .i64 2) (fun a ha=>BX (ha.ev rfl) (ha.ev rfl) (by decide)) ?_
                 refine Lv (.int .i64 2) (fun a ha=>run_move (ha.ev rfl)) ?_
                 refine JL.again 38 (fun _ _ h=>h) ?_
                 refine JC.seq ?_
                 refine JC.region ?_
                 refine Lv (.bool false) (fun a ha=>qX (ha.ev rfl) (ha.ev rfl) (by decide)) ?_
                 refine jn ?_
                 refine JC.seq ?_
                 refine JC.jA rfl ?_
                 refine JC.exit (fun _ _ h=>h) (fun _ _ h=>h) ?_
                 refine JC.seq ?_
                 have ht0:u73=true:=by simp only [Bool.false_or,Bool.or_assoc,KI.1,KI.2,KH.1,KH.2,KG.1,KG.2,KF.1,KF.2,KE.1,KE.2,KD.1,KD.2,KC.1,KC.2,KA.1,KA.2]; simp
                 have ht1:v73=true:=by simp only [Bool.false_or,Bool.or_assoc,KI.1,KI.2,KH.1,KH.2,KG.1,KG.2,KF.1,KF.2,KE.1,KE.2,KD.1,KD.2,KC.1,KC.2,KA.1,KA.2]; simp
                 have ht2:u80=true:=by simp only [Bool.false_or,Bool.or_assoc,KI.1,KI.2,KH.1,KH.2,KG.1,KG.2,KF.1,KF.2,KE.1,KE.2,KD.1,KD.2,KC.1,KC.2,KA.1,KA.2]; have:=ac5 (af*aI) (af*aJ) (ah*aI) (ah*aJ); simp only [lC] at *; simp only [Bool.or_eq_true,decide_eq_true_eq]; grind
                 have ht3:v80=true:=by simp only [Bool.false_or,Bool.or_assoc,KI.1,KI.2,KH.1,KH.2,KG.1,KG.2,KF.1,KF.2,KE.1,KE.2,KD.1,KD.2,KC.1,KC.2,KA.1,KA.2]; have:=acN (af*aI) (af*aJ) (ah*aI) (ah*aJ); simp only [jV] at *; simp only [Bool.or_eq_true,decide_eq_true_eq]; grind
                 clear KA KC KD KE KF KG KH KI
                 subst ht0
                 subst ht1
                 subst ht2
                 subst ht3
                 refine JC.region ?_
                 refine Lv (.bool true) (fun a ha=>run_move (ha.ev rfl)) ?_
                 refine Lv (.bool true) (fun a ha=>run_move (ha.ev rfl)) ?_
                 refine Lg (.bool true) (fun a ha=>run_move (ha.ev rfl)) ?_
                 refine Lv (.bool true) (fun a ha=>eY (ha.ev rfl) (ha.ev rfl)) ?_
                 refine Lv (.bool true) (fun a ha=>run_move (ha.ev rfl)) ?_
                 refine Lg (.bool true) (fun a ha=>run_move (ha.ev rfl)) ?_
                 refine Lv (.bool true) (fun a ha=>eY (ha.ev rfl) (ha.ev rfl)) ?_
                 refine Lv (.bool true) (fun a ha=>run_move (ha.ev rfl)) ?_
                 refine Lg (.bool true) (fun a ha=>run_move (ha.ev rfl)) ?_
                 refine Lv (.bool true) (fun a ha=>eY (ha.ev rfl) (ha.ev rfl)) ?_
                 refine Lv (.bool true) (fun a ha=>run_assign (ha.ev rfl)) ?_
                 refine jn ?_
                 refine JC.ret (fun a ha => ?_)
                 repeat (first | refine dh ?_ | refine df ?_)
                 refine fG (v := .bool true) ha Tryz.results9 (.tmp rfl) ⟨_,rfl,?_⟩
                 exact ⟨rfl,HS.gy 22 20 rfl rfl⟩
theorem az'  {ax:Bool} {ay:Option Addr} {aj c1a:Nat} {az:Option Addr} {ak aA:Nat} {af:Rat} {bC:Nat} {bu:Bool} {aB:Bool} {aC:Option Addr} {n1b aG:Nat} {aF:Option Addr} {au aH:Nat} {ah:Rat} {bD:Nat} {bn:Bool} {aP:Bool} {aQ:Option Addr} {aK aS:Nat} {aU:Option Addr} {aN aY:Nat} {aI:Rat} {bM:Nat} {bT:Bool} {aV:Bool} {aW:Option Addr} {aO aX:Nat} {aZ:Option Addr} {aT bf:Nat} {aJ:Rat} {bP:Nat} {bQ:Bool} (W:World) (ht:Tz W) (hb:Tab W) (_hx:Mx W) (f1a:fJ W ⟨(a0p ax ay aj c1a az ak aA),af,bC,bu⟩) (bI:fJ W ⟨(a0p aB aC n1b aG aF au aH),ah,bD,bn⟩) (fC:fJ W ⟨(a0p aP aQ aK aS aU aN aY),aI,bM,bT⟩) (fD:fJ W ⟨(a0p aV aW aO aX aZ aT bf),aJ,bP,bQ⟩)  :
  Calls Tryz.prog 9 #[(a0r ax ay aj c1a az ak aA aB aC n1b aG aF au aH),(a0r aP aQ aK aS aU aN aY aV aW aO aX aZ aT bf)] W fun e w'=>e = .returned (.bool true)∧Below W.heap.size W w':=law_true (aAb ht hb (St.init W) f1a bI fC fD)
end
end Go.Proofs.YtbihljnjaondcaaGreatDoor
