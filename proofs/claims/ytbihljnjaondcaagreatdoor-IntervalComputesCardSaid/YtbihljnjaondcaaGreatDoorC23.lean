/- Part of a proof, said shortly. -/
import Derived.Test.YtbihljnjaondcaaGreatDoorAlz
import Derived.Test.YtbihljnjaondcaaGreatDoorC22
import Derived.Test.YtbihljnjaondcaaGreatDoorC21
import Derived.Test.YtbihljnjaondcaaGreatDoorC20
import Derived.Test.YtbihljnjaondcaaGreatDoorC15
import Derived.Test.YtbihljnjaondcaaGreatDoorC16
import Derived.Test.YtbihljnjaondcaaGreatDoorC14
import Derived.Test.YtbihljnjaondcaaGreatDoorC13
import Derived.Test.YtbihljnjaondcaaGreatDoorC12
import Derived.Test.YtbihljnjaondcaaGreatDoorC11
import Derived.Test.YtbihljnjaondcaaGreatDoorC10
import Derived.Test.YtbihljnjaondcaaGreatDoorC6
import Derived.Test.YtbihljnjaondcaaGreatDoorC2
import Derived.Test.YtbihljnjaondcaaGreatDoorC1
import Derived.Test.YtbihljnjaondcaaGreatDoorC5
import Derived.Test.YtbihljnjaondcaaGreatDoorC4
import Derived.Test.YtbihljnjaondcaaGreatDoorC3
import Derived.Test.YtbihljnjaondcaaGreatDoorC9
import Derived.Test.YtbihljnjaondcaaGreatDoorC8
import Derived.Test.YtbihljnjaondcaaGreatDoorC7
import Derived.Test.YtbihljnjaondcaaGreatDoorC19
import Derived.Test.YtbihljnjaondcaaGreatDoorC18
import Derived.Test.YtbihljnjaondcaaGreatDoorC17
set_option maxRecDepth 100000
open Go.Proofs.YtbihljnjaondcaaGreatDoor (a0p a0q a0r a0s yw bU fO cO PS iy1 PT FX iy4 iy5 iy6 Yo iy8 iy9 aAJ)
set_option linter.unusedVariables false
set_option linter.unusedSimpArgs false
namespace Go.Proofs.YtbihljnjaondcaaGreatDoor
open Go Go.RowKit Lw bZ
section
variable {W0 w:World} {U:List Box} {Ps:List (World→Prop)}
variable {s1:Bool} {A1:Option Addr} {n1 c1:Nat} {B1:Option Addr} {m1 d1:Nat} {ax:Bool} {ay:Option Addr} {aj c1a:Nat} {az:Option Addr} {ak aA:Nat} {aB:Bool} {aC:Option Addr} {n1b aG:Nat} {aF:Option Addr} {au aH:Nat} {aP:Bool} {aQ:Option Addr} {aK aS:Nat} {aU:Option Addr} {aN aY:Nat} {aV:Bool} {aW:Option Addr} {aO aX:Nat} {aZ:Option Addr} {aT bf:Nat}
set_option maxHeartbeats 400000 in
theorem asQ (HT:Tz W0) (HB:Tab W0) {q1:Rat} {k1:Nat} (HS:St W0 U Ps w) (f1:FV (a0p s1 A1 n1 c1 B1 m1 d1) q1 k1 true w) (hq:q1≠0):bY Tryz.prog 189 [(a0p s1 A1 n1 c1 B1 m1 d1)] w (xY W0 U Ps ((q1)⁻¹) (k1)):=by
 have HS:=HS.add (FV.stable _ _ _ _) f1
 clear f1
 refine iL Tryz.func189 rfl Tryz.ntmps189 rfl ?_
 refine JC.seq ?_
 refine JC.region ?_
 refine JL.box (vs:=(a0q s1 A1 n1 c1 B1 m1 d1)) HS rfl rfl rfl rfl (fun g1 w1 HS => ?_)
 refine JL.alloc (vs:=bU) HS rfl aYs rfl rfl (fun g2 w2 HS => ?_)
 refine jn ?_
 refine JC.seq ?_
 refine JC.region ?_
 refine Lv (.pointer (some ⟨g1,0,none⟩)) (fun a ha=>bH (ha.ev rfl) aYx rfl aYK rfl rfl) ?_
 refine JL.xw (.bool s1) HS 1 rfl rfl rfl aYJ rfl ?_
 refine Lv (.pointer (some ⟨g1,2,none⟩)) (fun a ha=>bH (ha.ev rfl) aYx rfl aYL rfl rfl) ?_
 refine JL.xw (.slice B1 m1 d1) HS 1 rfl rfl rfl aYM rfl ?_
 refine Lv (.pointer (some ⟨g1,1,none⟩)) (fun a ha=>bH (ha.ev rfl) aYx rfl aYL rfl rfl) ?_
 refine JL.xw (.slice A1 n1 c1) HS 1 rfl rfl rfl aYM rfl ?_
 refine Lv (a0p s1 B1 m1 d1 A1 n1 c1) (fun a ha=>bZ.run_build (vs:=[(0,.bool s1),(1,.slice B1 m1 d1),(2,.slice A1 n1 c1)]) (by simp only [List.map_cons,List.map_nil,ha.ev (x := .tmp 4) (v := .bool s1) rfl,ha.ev (x := .tmp 6) (v := .slice B1 m1 d1) rfl,ha.ev (x := .tmp 8) (v := .slice A1 n1 c1) rfl]) aYx aYs Dh rfl) ?_
 refine JL.store HS rfl rfl (i:=0) rfl aYn rfl rfl rfl (vs':=(a0q s1 B1 m1 d1 A1 n1 c1)) rfl rfl (fun w3 HS => ?_)
 refine jn ?_
 refine JC.ret (fun a ha => ?_)
 repeat (first | refine dh ?_ | refine df ?_)
 refine fG (v:=(a0p s1 B1 m1 d1 A1 n1 c1)) ha Tryz.results189 (.agg rfl aYp aYn (HS.box _ (.head _)) rfl rfl) ⟨_,rfl,?_⟩
 have HS:=HS.pO 0 rfl (fun _ h=>h.inv hq)
 exact ⟨_,_,_,_,_,_,_,rfl,HS.out 2 2 0 rfl rfl rfl (fun _ h=>h.as rfl (by omega))⟩
set_option maxHeartbeats 400000 in
theorem aGK (HT:Tz W0) (HB:Tab W0) {af:Rat} {bC:Nat} {ah:Rat} {bD:Nat} (HS:St W0 U Ps w) (f1a:FV (a0p ax ay aj c1a az ak aA) af bC true w) (bI:FV (a0p aB aC n1b aG aF au aH) ah bD true w) (hqa:af≠0) (PL:ah≠0):bY Tryz.prog 135 [(a0r ax ay aj c1a az ak aA aB aC n1b aG aF au aH)] w (xG W0 U Ps ((ah)⁻¹) ((af)⁻¹) (bC+bD)):=by
 have HS:=HS.add (FV.stable _ _ _ _) f1a
 have HS:=HS.add (FV.stable _ _ _ _) bI
 clear f1a bI
 refine iL Tryz.func135 rfl Tryz.ntmps135 rfl ?_
 refine JC.seq ?_
 refine JC.region ?_
 refine JL.box (vs:=(a0s ax ay aj c1a az ak aA aB aC n1b aG aF au aH)) HS rfl rfl rfl rfl (fun g1 w1 HS => ?_)
 refine JL.alloc (vs:=cO) HS rfl aYt rfl rfl (fun g2 w2 HS => ?_)
 refine jn ?_
 refine JC.seq ?_
 refine JC.draw HS [7] (by kernel_rfl) (fun w3 HS => ?_)
 refine Dv (.pointer (some ⟨g1,3,none⟩)) 0 rfl HS.b0 (fun a ha w=>bH (ha.ev rfl) aYr rfl aYn rfl rfl) ?_
 refine Da (a0p aB aC n1b aG aF au aH) 1 1 rfl HS.b0 rfl rfl aYp aYn ?_
 refine Dv (.pointer (some ⟨g1,0,none⟩)) 3 rfl HS.b0 (fun a ha w=>bH (ha.ev rfl) aYr rfl aYn rfl rfl) ?_
 refine Da (a0p ax ay aj c1a az ak aA) 4 1 rfl HS.b0 rfl rfl aYp aYn ?_
 refine bJ 2 rfl rfl rfl Tryz.call189 (asQ HT HB HS (HS.at_ 0 rfl) PL) (fun aUS aW4 avu => ?_)
 obtain ⟨Zy,VY,YV,Xu,WB,YC,XO,rfl,HS⟩:=avu
 refine ⟨HS.b0,?_⟩
 refine bJ 5 rfl rfl rfl Tryz.call189 (asQ HT HB HS (HS.at_ 2 rfl) hqa) (fun aUU aG7 avw => ?_)
 obtain ⟨ZA,V5,YX,Xw,WE,YE,XQ,rfl,HS⟩:=avw
 refine ⟨HS.b0,?_⟩
 refine Dv (a0r Zy VY YV Xu WB YC XO ZA V5 YX Xw WE YE XQ) 6 rfl HS.b0 (fun a ha w=>bZ.run_build (vs:=[(0,(a0p Zy VY YV Xu WB YC XO)),(1,(a0p ZA V5 YX Xw WE YE XQ))]) (by simp only [List.map_cons,List.map_nil,ha.ev (x := .tmp 5) (v:=(a0p Zy VY YV Xu WB YC XO)) rfl,ha.ev (x := .tmp 8) (v:=(a0p ZA V5 YX Xw WE YE XQ)) rfl]) aYr aYt pV rfl) ?_
 refine bF 7 (a0s Zy VY YV Xu WB YC XO ZA V5 YX Xw WE YE XQ) HS 0 rfl rfl rfl rfl aYo (fun _ HS=>⟨(eX (s:=7) rfl rfl),?_⟩)
 refine JR.next (by kernel_rfl) (fun _ _ h=>h) ?_
 refine JC.ret (fun a ha => ?_)
 repeat (first | refine dh ?_ | refine df ?_)
 refine fG (v:=(a0r Zy VY YV Xu WB YC XO ZA V5 YX Xw WE YE XQ)) ha Tryz.results135 (.agg rfl aYq aYo (HS.box _ (.head _)) rfl rfl) ⟨_,rfl,?_⟩
 exact ⟨_,_,_,_,_,_,_,_,_,_,_,_,_,_,rfl,HS.tY 2 4 1 0 rfl rfl rfl (fun _ h=>h.as rfl (by omega)) rfl (fun _ h=>h.as rfl (by omega))⟩
set_option maxHeartbeats 2000000 in
theorem asV (HT:Tz W0) (HB:Tab W0) {af:Rat} {bC:Nat} {ah:Rat} {bD:Nat} {aI:Rat} {bM:Nat} {aJ:Rat} {bP:Nat} (HS:St W0 U Ps w) (f1a:FV (a0p ax ay aj c1a az ak aA) af bC true w) (bI:FV (a0p aB aC n1b aG aF au aH) ah bD true w) (fC:FV (a0p aP aQ aK aS aU aN aY) aI bM true w) (fD:FV (a0p aV aW aO aX aZ aT bf) aJ bP true w) (hk:bC+bD+(bM+bP)≤4000) (hab:af≤ah) (hcd:aI≤aJ) (h1:0≤af∨ah < 0):bY Tryz.prog 188 [(a0r ax ay aj c1a az ak aA aB aC n1b aG aF au aH),(a0r aP aQ aK aS aU aN aY aV aW aO aX aZ aT bf)] w (xG W0 U Ps (lC af ah aI aJ) (jV af ah aI aJ) ((bC+bD)+(bM+bP)+2)):=by
 have HS:=HS.add (FV.stable _ _ _ _) f1a
 have HS:=HS.add (FV.stable _ _ _ _) bI
 have HS:=HS.add (FV.stable _ _ _ _) fC
 have HS:=HS.add (FV.stable _ _ _ _) fD
 clear f1a bI fC fD
 have PI:=FV.neg (HS.at_ 3 rfl)
 have Yi:=FV.nz (HS.at_ 3 rfl)
 have anE:=FV.lens (HS.at_ 3 rfl)
 have Am:=FV.neg (HS.at_ 2 rfl)
 have hz1b:=FV.nz (HS.at_ 2 rfl)
 have anF:=FV.lens (HS.at_ 2 rfl)
 have anK:=FV.neg (HS.at_ 1 rfl)
 have aOx:=FV.nz (HS.at_ 1 rfl)
 have aN':=FV.lens (HS.at_ 1 rfl)
 have anL:=FV.neg (HS.at_ 0 rfl)
 have hz2b:=FV.nz (HS.at_ 0 rfl)
 have aOa:=FV.lens (HS.at_ 0 rfl)
 refine iL Tryz.func188 rfl Tryz.ntmps188 rfl ?_
 refine JC.seq ?_
 refine JC.region ?_
 refine JL.box (vs:=(a0s ax ay aj c1a az ak aA aB aC n1b aG aF au aH)) HS rfl rfl rfl rfl (fun g1 w1 HS => ?_)
 refine JL.box (vs:=(a0s aP aQ aK aS aU aN aY aV aW aO aX aZ aT bf)) HS rfl rfl rfl rfl (fun g2 w2 HS => ?_)
 refine JL.alloc (vs:=cO) HS rfl aYt rfl rfl (fun g3 w3 HS => ?_)
 refine jn ?_
 refine JC.cut (ι:=Nat×Nat) (fun ⟨BK,BM⟩=>[(0,(a0r ax ay aj c1a az ak aA aB aC n1b aG aF au aH)),(1,(a0r aP aQ aK aS aU aN aY aV aW aO aX aZ aT bf)),(2,.pointer (some ⟨g1,0,none⟩)),(3,.pointer (some ⟨g2,0,none⟩)),(4,.pointer (some ⟨g3,0,none⟩)),(5,.pointer (some ⟨BK,0,none⟩)),(6,.pointer (some ⟨BM,0,none⟩))]) (fun ⟨BK,BM⟩ w=>St W0 (⟨BM,24,(a0q aB aC n1b aG aF au aH)⟩ :: ⟨BK,24,(a0q ax ay aj c1a az ak aA)⟩ :: ⟨g3,48,cO⟩ :: ⟨g2,48,(a0s aP aQ aK aS aU aN aY aV aW aO aX aZ aT bf)⟩ :: ⟨g1,48,(a0s ax ay aj c1a az ak aA aB aC n1b aG aF au aH)⟩ :: U) (FV (a0p aV aW aO aX aZ aT bf) aJ bP true :: FV (a0p aP aQ aK aS aU aN aY) aI bM true :: FV (a0p aB aC n1b aG aF au aH) ah bD true :: FV (a0p ax ay aj c1a az ak aA) af bC true :: Ps) w) ?_ ?_
 ·skip
  refine JC.draw HS [] (by kernel_rfl) (fun w5 HS => ?_)
  refine Dv (.pointer (some ⟨g1,0,none⟩)) 0 rfl HS.b0 (fun a ha w=>bH (ha.ev rfl) aYr rfl aYn rfl rfl) ?_
  refine Da (a0p ax ay aj c1a az ak aA) 1 2 rfl HS.b0 rfl rfl aYp aYn ?_
  refine Dv (.pointer (some ⟨g1,3,none⟩)) 2 rfl HS.b0 (fun a ha w=>bH (ha.ev rfl) aYr rfl aYn rfl rfl) ?_
  refine Da (a0p aB aC n1b aG aF au aH) 3 2 rfl HS.b0 rfl rfl aYp aYn ?_
  refine JR.any [4,5] (by kernel_rfl) rfl ?_
  refine ai.alloc (vs:=bU) HS rfl rfl aYs rfl rfl rfl (fun BK aW6 HS => ?_) ?_
  ·skip
   refine ⟨HS.b1,?_⟩
   refine jy (vs:=bU) 5 HS rfl aYs rfl (fun BM _ HS=>⟨HS.b2,?_⟩)
   refine bF 6 (a0q ax ay aj c1a az ak aA) HS 1 rfl rfl rfl rfl aYn (fun _ HS=>⟨HS.b2,?_⟩)
   refine bF 7 (a0q aB aC n1b aG aF au aH) HS 0 rfl rfl rfl rfl aYn (fun _ HS=>⟨HS.b2,?_⟩)
   exact JR.mt (BK,BM) HS
  refine ai.alloc (vs:=bU) HS rfl rfl aYs rfl rfl rfl (fun BM aG7 HS => ?_) ai.nil
  refine ⟨HS.b1,?_⟩
  refine jy (vs:=bU) 4 HS rfl aYs rfl (fun BK _ HS=>⟨HS.b2,?_⟩)
  refine bF 6 (a0q ax ay aj c1a az ak aA) HS 0 rfl rfl rfl rfl aYn (fun _ HS=>⟨HS.b2,?_⟩)
  refine bF 7 (a0q aB aC n1b aG aF au aH) HS 1 rfl rfl rfl rfl aYn (fun _ HS=>⟨HS.b2,?_⟩)
  exact JR.mt (BK,BM) (HS.perm (.swap _ _ _))
 ·skip
  rintro ⟨BK,BM⟩ H8 HS
  try dsimp only at HS ⊢
  refine JC.cut (ι:=PS) (fun ⟨sN,AN,nN,cN,BN,mN,dN,sF,AF,nF,cF,BF,mF,dF⟩=>[(0,(a0r ax ay aj c1a az ak aA aB aC n1b aG aF au aH)),(1,(a0r aP aQ aK aS aU aN aY aV aW aO aX aZ aT bf)),(2,.pointer (some ⟨g1,0,none⟩)),(3,.pointer (some ⟨g2,0,none⟩)),(4,.pointer (some ⟨g3,0,none⟩)),(5,.pointer (some ⟨BK,0,none⟩)),(6,.pointer (some ⟨BM,0,none⟩))]) (fun ⟨sN,AN,nN,cN,BN,mN,dN,sF,AF,nF,cF,BF,mF,dF⟩ w=>St W0 (⟨BM,24,(a0q sF AF nF cF BF mF dF)⟩ :: ⟨BK,24,(a0q sN AN nN cN BN mN dN)⟩ :: ⟨g3,48,cO⟩ :: ⟨g2,48,(a0s aP aQ aK aS aU aN aY aV aW aO aX aZ aT bf)⟩ :: ⟨g1,48,(a0s ax ay aj c1a az ak aA aB aC n1b aG aF au aH)⟩ :: U) (FV (a0p sN AN nN cN BN mN dN) (EZ af ah) (bC+bD) true :: FV (a0p sF AF nF cF BF mF dF) (EI af ah) (bC+bD) true :: FV (a0p aV aW aO aX aZ aT bf) aJ bP true :: FV (a0p aP aQ aK aS aU aN aY) aI bM true :: FV (a0p aB aC n1b aG aF au aH) ah bD true :: FV (a0p ax ay aj c1a az ak aA) af bC true :: Ps) w) ?_ ?_
  ·skip
   refine JC.seq ?_
   refine JC.region ?_
   refine Lv (.pointer (some ⟨g1,3,none⟩)) (fun a ha=>bH (ha.ev rfl) aYr rfl aYn rfl rfl) ?_
   refine Lv (.pointer (some ⟨g1,3,none⟩)) (fun a ha=>bH (ha.ev rfl) aYx rfl aYK rfl rfl) ?_
   refine JL.xw (.bool aB) HS 4 rfl rfl rfl aYJ rfl ?_
   refine jn ?_
   cases aB
   ·skip
    refine JC.jA rfl ?_
    exact JC.mt (ax,ay,aj,c1a,az,ak,aA,false,aC,n1b,aG,aF,au,aH) ((HS.pO 2 rfl (fun _ h=>h.as (by unfold EI; rw [← Am]; rfl) (by omega))).pO 4 rfl (fun _ h=>h.as (by unfold EZ; rw [← Am]; rfl) (by omega)))
   ·skip
    refine JC.iy rfl ?_
    refine JC.draw HS [4,5] (by kernel_rfl) (fun w8 HS => ?_)
    refine Dv (.pointer (some ⟨g1,3,none⟩)) 0 rfl HS.b0 (fun a ha w=>bH (ha.ev rfl) aYr rfl aYn rfl rfl) ?_
    refine Da (a0p true aC n1b aG aF au aH) 1 4 rfl HS.b0 rfl rfl aYp aYn ?_
    refine Dv (.pointer (some ⟨g1,0,none⟩)) 2 rfl HS.b0 (fun a ha w=>bH (ha.ev rfl) aYr rfl aYn rfl rfl) ?_
    refine JR.any [3,4] (by kernel_rfl) rfl ?_
    refine ai.load (a0p ax ay aj c1a az ak aA) HS 4 rfl rfl rfl rfl aYp aYn rfl rfl rfl ?_ ?_
    ·skip
     refine ⟨HS.b0,?_⟩
     refine bF 4 (a0q true aC n1b aG aF au aH) HS 1 rfl rfl rfl rfl aYn (fun _ HS=>⟨(eX (s:=4) rfl rfl),?_⟩)
     refine bF 5 (a0q ax ay aj c1a az ak aA) HS 0 rfl rfl rfl rfl aYn (fun _ HS=>⟨(eX (s:=4) rfl rfl),?_⟩)
     exact JR.mt (true,aC,n1b,aG,aF,au,aH,ax,ay,aj,c1a,az,ak,aA) ((HS.pO 3 rfl (fun _ h=>h.as (by unfold EI; rw [← Am]; rfl) (by omega))).pO 3 rfl (fun _ h=>h.as (by unfold EZ; rw [← Am]; rfl) (by omega)))
    refine ai.store HS rfl rfl rfl 1 rfl aYn rfl rfl rfl (vs':=(a0q true aC n1b aG aF au aH)) rfl rfl rfl (fun Em HS => ?_) ai.nil
    refine ⟨(eX (s:=4) rfl rfl),?_⟩
    refine J1 3 (by kernel_rfl) ?_
    refine ai.load (a0p ax ay aj c1a az ak aA) HS 4 rfl rfl rfl rfl aYp aYn rfl rfl rfl ?_ ai.nil
    refine ⟨(eX (s:=4) rfl rfl),?_⟩
    refine bF 5 (a0q ax ay aj c1a az ak aA) HS 0 rfl rfl rfl rfl aYn (fun _ HS=>⟨(eX (s:=4) rfl rfl),?_⟩)
    exact JR.mt (true,aC,n1b,aG,aF,au,aH,ax,ay,aj,c1a,az,ak,aA) ((HS.pO 3 rfl (fun _ h=>h.as (by unfold EI; rw [← Am]; rfl) (by omega))).pO 3 rfl (fun _ h=>h.as (by unfold EZ; rw [← Am]; rfl) (by omega)))
  ·skip
   rintro ⟨sN,AN,nN,cN,BN,mN,dN,sF,AF,nF,cF,BF,mF,dF⟩ wm6 HS
   try dsimp only at HS ⊢
   refine JC.cut (ι:=Nat×Nat) (fun ⟨EJ,EK⟩=>[(0,(a0r ax ay aj c1a az ak aA aB aC n1b aG aF au aH)),(1,(a0r aP aQ aK aS aU aN aY aV aW aO aX aZ aT bf)),(2,.pointer (some ⟨g1,0,none⟩)),(3,.pointer (some ⟨g2,0,none⟩)),(4,.pointer (some ⟨g3,0,none⟩)),(5,.pointer (some ⟨BK,0,none⟩)),(6,.pointer (some ⟨BM,0,none⟩)),(7,.pointer (some ⟨EJ,0,none⟩)),(8,.pointer (some ⟨EK,0,none⟩))]) (fun ⟨EJ,EK⟩ w=>St W0 (⟨EK,24,(a0q sF AF nF cF BF mF dF)⟩ :: ⟨EJ,24,(a0q sN AN nN cN BN mN dN)⟩ :: ⟨BM,24,(a0q sF AF nF cF BF mF dF)⟩ :: ⟨BK,24,(a0q sN AN nN cN BN mN dN)⟩ :: ⟨g3,48,cO⟩ :: ⟨g2,48,(a0s aP aQ aK aS aU aN aY aV aW aO aX aZ aT bf)⟩ :: ⟨g1,48,(a0s ax ay aj c1a az ak aA aB aC n1b aG aF au aH)⟩ :: U) (FV (a0p sN AN nN cN BN mN dN) (EZ af ah) (bC+bD) true :: FV (a0p sF AF nF cF BF mF dF) (EI af ah) (bC+bD) true :: FV (a0p aV aW aO aX aZ aT bf) aJ bP true :: FV (a0p aP aQ aK aS aU aN aY) aI bM true :: FV (a0p aB aC n1b aG aF au aH) ah bD true :: FV (a0p ax ay aj c1a az ak aA) af bC true :: Ps) w) ?_ ?_
   ·skip
    refine JC.draw HS [] (by kernel_rfl) (fun Dp HS => ?_)
    refine Da (a0p sN AN nN cN BN mN dN) 0 1 rfl HS.b0 rfl rfl aYp aYn ?_
    refine Da (a0p sF AF nF cF BF mF dF) 1 0 rfl HS.b0 rfl rfl aYp aYn ?_
    refine JR.any [2,3] (by kernel_rfl) rfl ?_
    refine ai.alloc (vs:=bU) HS rfl rfl aYs rfl rfl rfl (fun EJ aVA HS => ?_) ?_
    ·skip
     refine ⟨HS.b1,?_⟩
     refine jy (vs:=bU) 3 HS rfl aYs rfl (fun EK _ HS=>⟨HS.b2,?_⟩)
     refine bF 4 (a0q sN AN nN cN BN mN dN) HS 1 rfl rfl rfl rfl aYn (fun _ HS=>⟨HS.b2,?_⟩)
     refine bF 5 (a0q sF AF nF cF BF mF dF) HS 0 rfl rfl rfl rfl aYn (fun _ HS=>⟨HS.b2,?_⟩)
     exact JR.mt (EJ,EK) HS
    refine ai.alloc (vs:=bU) HS rfl rfl aYs rfl rfl rfl (fun EK aVB HS => ?_) ai.nil
    refine ⟨HS.b1,?_⟩
    refine jy (vs:=bU) 2 HS rfl aYs rfl (fun EJ _ HS=>⟨HS.b2,?_⟩)
    refine bF 4 (a0q sN AN nN cN BN mN dN) HS 0 rfl rfl rfl rfl aYn (fun _ HS=>⟨HS.b2,?_⟩)
    refine bF 5 (a0q sF AF nF cF BF mF dF) HS 1 rfl rfl rfl rfl aYn (fun _ HS=>⟨HS.b2,?_⟩)
    exact JR.mt (EJ,EK) (HS.perm (.swap _ _ _))
   ·skip
    rintro ⟨EJ,EK⟩ aX1 HS
    try dsimp only at HS ⊢
    refine JC.cut (ι:=iy1) (fun ⟨sL,AL,nL,cL,BL,mL,dL⟩=>[(0,(a0r ax ay aj c1a az ak aA aB aC n1b aG aF au aH)),(1,(a0r aP aQ aK aS aU aN aY aV aW aO aX aZ aT bf)),(2,.pointer (some ⟨g1,0,none⟩)),(3,.pointer (some ⟨g2,0,none⟩)),(4,.pointer (some ⟨g3,0,none⟩)),(5,.pointer (some ⟨BK,0,none⟩)),(6,.pointer (some ⟨BM,0,none⟩)),(7,.pointer (some ⟨EJ,0,none⟩)),(8,.pointer (some ⟨EK,0,none⟩))]) (fun ⟨sL,AL,nL,cL,BL,mL,dL⟩ w=>St W0 (⟨EK,24,(a0q sF AF nF cF BF mF dF)⟩ :: ⟨EJ,24,(a0q sL AL nL cL BL mL dL)⟩ :: ⟨BM,24,(a0q sF AF nF cF BF mF dF)⟩ :: ⟨BK,24,(a0q sN AN nN cN BN mN dN)⟩ :: ⟨g3,48,cO⟩ :: ⟨g2,48,(a0s aP aQ aK aS aU aN aY aV aW aO aX aZ aT bf)⟩ :: ⟨g1,48,(a0s ax ay aj c1a az ak aA aB aC n1b aG aF au aH)⟩ :: U) (FV (a0p sL AL nL cL BL mL dL) (KL af ah aI) (bC+bD) true :: FV (a0p sN AN nN cN BN mN dN) (EZ af ah) (bC+bD) true :: FV (a0p sF AF nF cF BF mF dF) (EI af ah) (bC+bD) true :: FV (a0p aV aW aO aX aZ aT bf) aJ bP true :: FV (a0p aP aQ aK aS aU aN aY) aI bM true :: FV (a0p aB aC n1b aG aF au aH) ah bD true :: FV (a0p ax ay aj c1a az ak aA) af bC true :: Ps) w) ?_ ?_
    ·skip
     refine JC.seq ?_
     refine JC.region ?_
     refine Lv (.pointer (some ⟨g2,0,none⟩)) (fun a ha=>bH (ha.ev rfl) aYr rfl aYn rfl rfl) ?_
     refine Lv (.pointer (some ⟨g2,0,none⟩)) (fun a ha=>bH (ha.ev rfl) aYx rfl aYK rfl rfl) ?_
     refine JL.xw (.bool aP) HS 5 rfl rfl rfl aYJ rfl ?_
     refine jn ?_
     cases aP
     ·skip
      refine JC.jA rfl ?_
      exact JC.mt (sN,AN,nN,cN,BN,mN,dN) (HS.pO 0 rfl (fun _ h=>h.as (by unfold KL; rw [← anK]; rfl) (by omega)))
     ·skip
      refine JC.iy rfl ?_
      refine JC.region ?_
      refine JL.load (a0p sF AF nF cF BF mF dF) HS 2 rfl rfl rfl aYp aYn rfl rfl ?_
      refine JL.store HS rfl rfl (i:=1) rfl aYn rfl rfl rfl (vs':=(a0q sF AF nF cF BF mF dF)) rfl rfl (fun JX HS => ?_)
      exact JL.mt (sF,AF,nF,cF,BF,mF,dF) (HS.pO 1 rfl (fun _ h=>h.as (by unfold KL; rw [← anK]; rfl) (by omega)))
    ·skip
     rintro ⟨sL,AL,nL,cL,BL,mL,dL⟩ aX2 HS
     try dsimp only at HS ⊢
     refine JC.cut (ι:=iy1) (fun ⟨sH,AH,nH,cH,BH,mH,dH⟩=>[(0,(a0r ax ay aj c1a az ak aA aB aC n1b aG aF au aH)),(1,(a0r aP aQ aK aS aU aN aY aV aW aO aX aZ aT bf)),(2,.pointer (some ⟨g1,0,none⟩)),(3,.pointer (some ⟨g2,0,none⟩)),(4,.pointer (some ⟨g3,0,none⟩)),(5,.pointer (some ⟨BK,0,none⟩)),(6,.pointer (some ⟨BM,0,none⟩)),(7,.pointer (some ⟨EJ,0,none⟩)),(8,.pointer (some ⟨EK,0,none⟩))]) (fun ⟨sH,AH,nH,cH,BH,mH,dH⟩ w=>St W0 (⟨EK,24,(a0q sH AH nH cH BH mH dH)⟩ :: ⟨EJ,24,(a0q sL AL nL cL BL mL dL)⟩ :: ⟨BM,24,(a0q sF AF nF cF BF mF dF)⟩ :: ⟨BK,24,(a0q sN AN nN cN BN mN dN)⟩ :: ⟨g3,48,cO⟩ :: ⟨g2,48,(a0s aP aQ aK aS aU aN aY aV aW aO aX aZ aT bf)⟩ :: ⟨g1,48,(a0s ax ay aj c1a az ak aA aB aC n1b aG aF au aH)⟩ :: U) (FV (a0p sH AH nH cH BH mH dH) (NW af ah aJ) (bC+bD) true :: FV (a0p sL AL nL cL BL mL dL) (KL af ah aI) (bC+bD) true :: FV (a0p sN AN nN cN BN mN dN) (EZ af ah) (bC+bD) true :: FV (a0p sF AF nF cF BF mF dF) (EI af ah) (bC+bD) true :: FV (a0p aV aW aO aX aZ aT bf) aJ bP true :: FV (a0p aP aQ aK aS aU aN aY) aI bM true :: FV (a0p aB aC n1b aG aF au aH) ah bD true :: FV (a0p ax ay aj c1a az ak aA) af bC true :: Ps) w) ?_ ?_
     ·skip
      refine JC.seq ?_
      refine JC.region ?_
      refine Lv (.pointer (some ⟨g2,3,none⟩)) (fun a ha=>bH (ha.ev rfl) aYr rfl aYn rfl rfl) ?_
      refine Lv (.pointer (some ⟨g2,3,none⟩)) (fun a ha=>bH (ha.ev rfl) aYx rfl aYK rfl rfl) ?_
      refine JL.xw (.bool aV) HS 5 rfl rfl rfl aYJ rfl ?_
      refine jn ?_
      cases aV
      ·skip
       refine JC.jA rfl ?_
       exact JC.mt (sF,AF,nF,cF,BF,mF,dF) (HS.pO 2 rfl (fun _ h=>h.as (by unfold NW; rw [← anL]; rfl) (by omega)))
      ·skip
       refine JC.iy rfl ?_
       refine JC.region ?_
       refine JL.load (a0p sN AN nN cN BN mN dN) HS 3 rfl rfl rfl aYp aYn rfl rfl ?_
       refine JL.store HS rfl rfl (i:=0) rfl aYn rfl rfl rfl (vs':=(a0q sN AN nN cN BN mN dN)) rfl rfl (fun LH HS => ?_)
       exact JL.mt (sN,AN,nN,cN,BN,mN,dN) (HS.pO 1 rfl (fun _ h=>h.as (by unfold NW; rw [← anL]; rfl) (by omega)))
     ·skip
      rintro ⟨sH,AH,nH,cH,BH,mH,dH⟩ aX4 HS
      try dsimp only at HS ⊢
      refine JC.cut (ι:=PT) (fun ⟨pW,pI,pU,pK,pJ,pR,pM,oG,oh,oD,ou,oq,oC,oz,yg,yh⟩=>[(0,(a0r ax ay aj c1a az ak aA aB aC n1b aG aF au aH)),(1,(a0r aP aQ aK aS aU aN aY aV aW aO aX aZ aT bf)),(2,.pointer (some ⟨g1,0,none⟩)),(3,.pointer (some ⟨g2,0,none⟩)),(4,.pointer (some ⟨g3,0,none⟩)),(5,.pointer (some ⟨BK,0,none⟩)),(6,.pointer (some ⟨BM,0,none⟩)),(7,.pointer (some ⟨EJ,0,none⟩)),(8,.pointer (some ⟨EK,0,none⟩)),(9,.pointer (some ⟨yg,0,none⟩)),(10,.pointer (some ⟨yh,0,none⟩))]) (fun ⟨pW,pI,pU,pK,pJ,pR,pM,oG,oh,oD,ou,oq,oC,oz,yg,yh⟩ w=>St W0 (⟨yh,24,(a0q oG oh oD ou oq oC oz)⟩ :: ⟨yg,24,(a0q pW pI pU pK pJ pR pM)⟩ :: ⟨EK,24,(a0q sH AH nH cH BH mH dH)⟩ :: ⟨EJ,24,(a0q sL AL nL cL BL mL dL)⟩ :: ⟨BM,24,(a0q sF AF nF cF BF mF dF)⟩ :: ⟨BK,24,(a0q sN AN nN cN BN mN dN)⟩ :: ⟨g3,48,cO⟩ :: ⟨g2,48,(a0s aP aQ aK aS aU aN aY aV aW aO aX aZ aT bf)⟩ :: ⟨g1,48,(a0s ax ay aj c1a az ak aA aB aC n1b aG aF au aH)⟩ :: U) (FV (a0p oG oh oD ou oq oC oz) ((NW af ah aJ)*aJ) ((bC+bD)+bP+2) true :: FV (a0p pW pI pU pK pJ pR pM) ((KL af ah aI)*aI) ((bC+bD)+bM+2) true :: FV (a0p sH AH nH cH BH mH dH) (NW af ah aJ) (bC+bD) true :: FV (a0p sL AL nL cL BL mL dL) (KL af ah aI) (bC+bD) true :: FV (a0p sN AN nN cN BN mN dN) (EZ af ah) (bC+bD) true :: FV (a0p sF AF nF cF BF mF dF) (EI af ah) (bC+bD) true :: FV (a0p aV aW aO aX aZ aT bf) aJ bP true :: FV (a0p aP aQ aK aS aU aN aY) aI bM true :: FV (a0p aB aC n1b aG aF au aH) ah bD true :: FV (a0p ax ay aj c1a az ak aA) af bC true :: Ps) w) ?_ ?_
      ·skip
       refine JC.draw HS [] (by kernel_rfl) (fun O6 HS => ?_)
       refine Da (a0p sL AL nL cL BL mL dL) 0 1 rfl HS.b0 rfl rfl aYp aYn ?_
       refine Dv (.pointer (some ⟨g2,0,none⟩)) 1 rfl HS.b0 (fun a ha w=>bH (ha.ev rfl) aYr rfl aYn rfl rfl) ?_
       refine Da (a0p aP aQ aK aS aU aN aY) 2 5 rfl HS.b0 rfl rfl aYp aYn ?_
       refine Da (a0p sH AH nH cH BH mH dH) 4 0 rfl HS.b0 rfl rfl aYp aYn ?_
       refine Dv (.pointer (some ⟨g2,3,none⟩)) 5 rfl HS.b0 (fun a ha w=>bH (ha.ev rfl) aYr rfl aYn rfl rfl) ?_
       refine Da (a0p aV aW aO aX aZ aT bf) 6 5 rfl HS.b0 rfl rfl aYp aYn ?_
       refine JR.any [3,8,9] (by kernel_rfl) rfl ?_
       refine ai.call rfl rfl rfl aYv (iQ HT HB HS (HS.at_ 1 rfl) (HS.at_ 5 rfl) (by omega)) rfl (fun ZI ZV Ir => ?_) ?_
       ·skip
        obtain ⟨pW,pI,pU,pK,pJ,pR,pM,rfl,HS⟩:=Ir
        refine ⟨HS.b0,?_⟩
        refine JR.any [7,8,9] (by kernel_rfl) rfl ?_
        refine ai.call rfl rfl rfl aYv (iQ HT HB HS (HS.at_ 1 rfl) (HS.at_ 5 rfl) (by omega)) rfl (fun Lh LJ zJ => ?_) ?_
        ·skip
         obtain ⟨oG,oh,oD,ou,oq,oC,oz,rfl,HS⟩:=zJ
         refine ⟨HS.b0,?_⟩
         refine JR.any [8,9] (by kernel_rfl) rfl ?_
         refine ai.alloc (vs:=bU) HS rfl rfl aYs rfl rfl rfl (fun yg ZW HS => ?_) ?_
         ·skip
          refine ⟨HS.b1,?_⟩
          refine jy (vs:=bU) 9 HS rfl aYs rfl (fun yh _ HS=>⟨HS.b2,?_⟩)
          refine bF 10 (a0q pW pI pU pK pJ pR pM) HS 1 rfl rfl rfl rfl aYn (fun _ HS=>⟨HS.b2,?_⟩)
          refine bF 11 (a0q oG oh oD ou oq oC oz) HS 0 rfl rfl rfl rfl aYn (fun _ HS=>⟨HS.b2,?_⟩)
          exact JR.mt (pW,pI,pU,pK,pJ,pR,pM,oG,oh,oD,ou,oq,oC,oz,yg,yh) HS
         refine ai.alloc (vs:=bU) HS rfl rfl aYs rfl rfl rfl (fun yh VH HS => ?_) ai.nil
         refine ⟨HS.b1,?_⟩
         refine jy (vs:=bU) 8 HS rfl aYs rfl (fun yg _ HS=>⟨HS.b2,?_⟩)
         refine bF 10 (a0q pW pI pU pK pJ pR pM) HS 0 rfl rfl rfl rfl aYn (fun _ HS=>⟨HS.b2,?_⟩)
         refine bF 11 (a0q oG oh oD ou oq oC oz) HS 1 rfl rfl rfl rfl aYn (fun _ HS=>⟨HS.b2,?_⟩)
         exact JR.mt (pW,pI,pU,pK,pJ,pR,pM,oG,oh,oD,ou,oq,oC,oz,yg,yh) (HS.perm (.swap _ _ _))
        refine ai.alloc (vs:=bU) HS rfl rfl aYs rfl rfl rfl (fun yg ZW HS => ?_) ?_
        ·skip
         refine ⟨HS.b1,?_⟩
         refine JR.any [7,9] (by kernel_rfl) rfl ?_
         refine ai.call rfl rfl rfl aYv (iQ HT HB HS (HS.at_ 1 rfl) (HS.at_ 5 rfl) (by omega)) rfl (fun Lh LJ zJ => ?_) ?_
         ·skip
          obtain ⟨oG,oh,oD,ou,oq,oC,oz,rfl,HS⟩:=zJ
          refine ⟨HS.b1,?_⟩
          refine jy (vs:=bU) 9 HS rfl aYs rfl (fun yh _ HS=>⟨HS.b2,?_⟩)
          refine bF 10 (a0q pW pI pU pK pJ pR pM) HS 1 rfl rfl rfl rfl aYn (fun _ HS=>⟨HS.b2,?_⟩)
          refine bF 11 (a0q oG oh oD ou oq oC oz) HS 0 rfl rfl rfl rfl aYn (fun _ HS=>⟨HS.b2,?_⟩)
          exact JR.mt (pW,pI,pU,pK,pJ,pR,pM,oG,oh,oD,ou,oq,oC,oz,yg,yh) HS
         refine ai.alloc (vs:=bU) HS rfl rfl aYs rfl rfl rfl (fun yh VH HS => ?_) ai.nil
         refine ⟨HS.b2,?_⟩
         refine bJ 7 rfl rfl rfl aYv (iQ HT HB HS (HS.at_ 1 rfl) (HS.at_ 5 rfl) (by omega)) (fun Lh LJ zJ => ?_)
         obtain ⟨oG,oh,oD,ou,oq,oC,oz,rfl,HS⟩:=zJ
         refine ⟨HS.b2,?_⟩
         refine bF 10 (a0q pW pI pU pK pJ pR pM) HS 1 rfl rfl rfl rfl aYn (fun _ HS=>⟨HS.b2,?_⟩)
         refine bF 11 (a0q oG oh oD ou oq oC oz) HS 0 rfl rfl rfl rfl aYn (fun _ HS=>⟨HS.b2,?_⟩)
         exact JR.mt (pW,pI,pU,pK,pJ,pR,pM,oG,oh,oD,ou,oq,oC,oz,yg,yh) HS
        refine ai.alloc (vs:=bU) HS rfl rfl aYs rfl rfl rfl (fun yh VH HS => ?_) ai.nil
        refine ⟨HS.b1,?_⟩
        refine JR.any [7,8] (by kernel_rfl) rfl ?_
        refine ai.call rfl rfl rfl aYv (iQ HT HB HS (HS.at_ 1 rfl) (HS.at_ 5 rfl) (by omega)) rfl (fun Lh LJ zJ => ?_) ?_
        ·skip
         obtain ⟨oG,oh,oD,ou,oq,oC,oz,rfl,HS⟩:=zJ
         refine ⟨HS.b1,?_⟩
         refine jy (vs:=bU) 8 HS rfl aYs rfl (fun yg _ HS=>⟨HS.b2,?_⟩)
         refine bF 10 (a0q pW pI pU pK pJ pR pM) HS 0 rfl rfl rfl rfl aYn (fun _ HS=>⟨HS.b2,?_⟩)
         refine bF 11 (a0q oG oh oD ou oq oC oz) HS 1 rfl rfl rfl rfl aYn (fun _ HS=>⟨HS.b2,?_⟩)
         exact JR.mt (pW,pI,pU,pK,pJ,pR,pM,oG,oh,oD,ou,oq,oC,oz,yg,yh) (HS.perm (.swap _ _ _))
        refine ai.alloc (vs:=bU) HS rfl rfl aYs rfl rfl rfl (fun yg ZW HS => ?_) ai.nil
        refine ⟨HS.b2,?_⟩
        refine bJ 7 rfl rfl rfl aYv (iQ HT HB HS (HS.at_ 1 rfl) (HS.at_ 5 rfl) (by omega)) (fun Lh LJ zJ => ?_)
        obtain ⟨oG,oh,oD,ou,oq,oC,oz,rfl,HS⟩:=zJ
        refine ⟨HS.b2,?_⟩
        refine bF 10 (a0q pW pI pU pK pJ pR pM) HS 0 rfl rfl rfl rfl aYn (fun _ HS=>⟨HS.b2,?_⟩)
        refine bF 11 (a0q oG oh oD ou oq oC oz) HS 1 rfl rfl rfl rfl aYn (fun _ HS=>⟨HS.b2,?_⟩)
        exact JR.mt (pW,pI,pU,pK,pJ,pR,pM,oG,oh,oD,ou,oq,oC,oz,yg,yh) (HS.perm (.swap _ _ _))
       refine ai.alloc (vs:=bU) HS rfl rfl aYs rfl rfl rfl (fun yg ZW HS => ?_) ?_
       ·skip
        refine ⟨HS.b1,?_⟩
        refine JR.any [3,9] (by kernel_rfl) rfl ?_
        refine ai.call rfl rfl rfl aYv (iQ HT HB HS (HS.at_ 1 rfl) (HS.at_ 5 rfl) (by omega)) rfl (fun ZI ZV Ir => ?_) ?_
        ·skip
         obtain ⟨pW,pI,pU,pK,pJ,pR,pM,rfl,HS⟩:=Ir
         refine ⟨HS.b1,?_⟩
         refine JR.any [7,9] (by kernel_rfl) rfl ?_
         refine ai.call rfl rfl rfl aYv (iQ HT HB HS (HS.at_ 1 rfl) (HS.at_ 5 rfl) (by omega)) rfl (fun Lh LJ zJ => ?_) ?_
         ·skip
          obtain ⟨oG,oh,oD,ou,oq,oC,oz,rfl,HS⟩:=zJ
          refine ⟨HS.b1,?_⟩
          refine jy (vs:=bU) 9 HS rfl aYs rfl (fun yh _ HS=>⟨HS.b2,?_⟩)
          refine bF 10 (a0q pW pI pU pK pJ pR pM) HS 1 rfl rfl rfl rfl aYn (fun _ HS=>⟨HS.b2,?_⟩)
          refine bF 11 (a0q oG oh oD ou oq oC oz) HS 0 rfl rfl rfl rfl aYn (fun _ HS=>⟨HS.b2,?_⟩)
          exact JR.mt (pW,pI,pU,pK,pJ,pR,pM,oG,oh,oD,ou,oq,oC,oz,yg,yh) HS
         refine ai.alloc (vs:=bU) HS rfl rfl aYs rfl rfl rfl (fun yh VH HS => ?_) ai.nil
         refine ⟨HS.b2,?_⟩
         refine bJ 7 rfl rfl rfl aYv (iQ HT HB HS (HS.at_ 1 rfl) (HS.at_ 5 rfl) (by omega)) (fun Lh LJ zJ => ?_)
         obtain ⟨oG,oh,oD,ou,oq,oC,oz,rfl,HS⟩:=zJ
         refine ⟨HS.b2,?_⟩
         refine bF 10 (a0q pW pI pU pK pJ pR pM) HS 1 rfl rfl rfl rfl aYn (fun _ HS=>⟨HS.b2,?_⟩)
         refine bF 11 (a0q oG oh oD ou oq oC oz) HS 0 rfl rfl rfl rfl aYn (fun _ HS=>⟨HS.b2,?_⟩)
         exact JR.mt (pW,pI,pU,pK,pJ,pR,pM,oG,oh,oD,ou,oq,oC,oz,yg,yh) HS
        refine ai.alloc (vs:=bU) HS rfl rfl aYs rfl rfl rfl (fun yh VH HS => ?_) ai.nil
        refine ⟨HS.b2,?_⟩
        refine bJ 3 rfl rfl rfl aYv (iQ HT HB HS (HS.at_ 1 rfl) (HS.at_ 5 rfl) (by omega)) (fun ZI ZV Ir => ?_)
        obtain ⟨pW,pI,pU,pK,pJ,pR,pM,rfl,HS⟩:=Ir
        refine ⟨HS.b2,?_⟩
        refine bJ 7 rfl rfl rfl aYv (iQ HT HB HS (HS.at_ 1 rfl) (HS.at_ 5 rfl) (by omega)) (fun Lh LJ zJ => ?_)
        obtain ⟨oG,oh,oD,ou,oq,oC,oz,rfl,HS⟩:=zJ
        refine ⟨HS.b2,?_⟩
        refine bF 10 (a0q pW pI pU pK pJ pR pM) HS 1 rfl rfl rfl rfl aYn (fun _ HS=>⟨HS.b2,?_⟩)
        refine bF 11 (a0q oG oh oD ou oq oC oz) HS 0 rfl rfl rfl rfl aYn (fun _ HS=>⟨HS.b2,?_⟩)
        exact JR.mt (pW,pI,pU,pK,pJ,pR,pM,oG,oh,oD,ou,oq,oC,oz,yg,yh) HS
       refine ai.alloc (vs:=bU) HS rfl rfl aYs rfl rfl rfl (fun yh VH HS => ?_) ai.nil
       refine ⟨HS.b1,?_⟩
       refine JR.any [3,8] (by kernel_rfl) rfl ?_
       refine ai.call rfl rfl rfl aYv (iQ HT HB HS (HS.at_ 1 rfl) (HS.at_ 5 rfl) (by omega)) rfl (fun ZI ZV Ir => ?_) ?_
       ·skip
        obtain ⟨pW,pI,pU,pK,pJ,pR,pM,rfl,HS⟩:=Ir
        refine ⟨HS.b1,?_⟩
        refine JR.any [7,8] (by kernel_rfl) rfl ?_
        refine ai.call rfl rfl rfl aYv (iQ HT HB HS (HS.at_ 1 rfl) (HS.at_ 5 rfl) (by omega)) rfl (fun Lh LJ zJ => ?_) ?_
        ·skip
         obtain ⟨oG,oh,oD,ou,oq,oC,oz,rfl,HS⟩:=zJ
         refine ⟨HS.b1,?_⟩
         refine jy (vs:=bU) 8 HS rfl aYs rfl (fun yg _ HS=>⟨HS.b2,?_⟩)
         refine bF 10 (a0q pW pI pU pK pJ pR pM) HS 0 rfl rfl rfl rfl aYn (fun _ HS=>⟨HS.b2,?_⟩)
         refine bF 11 (a0q oG oh oD ou oq oC oz) HS 1 rfl rfl rfl rfl aYn (fun _ HS=>⟨HS.b2,?_⟩)
         exact JR.mt (pW,pI,pU,pK,pJ,pR,pM,oG,oh,oD,ou,oq,oC,oz,yg,yh) (HS.perm (.swap _ _ _))
        refine ai.alloc (vs:=bU) HS rfl rfl aYs rfl rfl rfl (fun yg ZW HS => ?_) ai.nil
        refine ⟨HS.b2,?_⟩
        refine bJ 7 rfl rfl rfl aYv (iQ HT HB HS (HS.at_ 1 rfl) (HS.at_ 5 rfl) (by omega)) (fun Lh LJ zJ => ?_)
        obtain ⟨oG,oh,oD,ou,oq,oC,oz,rfl,HS⟩:=zJ
        refine ⟨HS.b2,?_⟩
        refine bF 10 (a0q pW pI pU pK pJ pR pM) HS 0 rfl rfl rfl rfl aYn (fun _ HS=>⟨HS.b2,?_⟩)
        refine bF 11 (a0q oG oh oD ou oq oC oz) HS 1 rfl rfl rfl rfl aYn (fun _ HS=>⟨HS.b2,?_⟩)
        exact JR.mt (pW,pI,pU,pK,pJ,pR,pM,oG,oh,oD,ou,oq,oC,oz,yg,yh) (HS.perm (.swap _ _ _))
       refine ai.alloc (vs:=bU) HS rfl rfl aYs rfl rfl rfl (fun yg ZW HS => ?_) ai.nil
       refine ⟨HS.b2,?_⟩
       refine bJ 3 rfl rfl rfl aYv (iQ HT HB HS (HS.at_ 1 rfl) (HS.at_ 5 rfl) (by omega)) (fun ZI ZV Ir => ?_)
       obtain ⟨pW,pI,pU,pK,pJ,pR,pM,rfl,HS⟩:=Ir
       refine ⟨HS.b2,?_⟩
       refine bJ 7 rfl rfl rfl aYv (iQ HT HB HS (HS.at_ 1 rfl) (HS.at_ 5 rfl) (by omega)) (fun Lh LJ zJ => ?_)
       obtain ⟨oG,oh,oD,ou,oq,oC,oz,rfl,HS⟩:=zJ
       refine ⟨HS.b2,?_⟩
       refine bF 10 (a0q pW pI pU pK pJ pR pM) HS 0 rfl rfl rfl rfl aYn (fun _ HS=>⟨HS.b2,?_⟩)
       refine bF 11 (a0q oG oh oD ou oq oC oz) HS 1 rfl rfl rfl rfl aYn (fun _ HS=>⟨HS.b2,?_⟩)
       exact JR.mt (pW,pI,pU,pK,pJ,pR,pM,oG,oh,oD,ou,oq,oC,oz,yg,yh) (HS.perm (.swap _ _ _))
      ·skip
       rintro ⟨pW,pI,pU,pK,pJ,pR,pM,oG,oh,oD,ou,oq,oC,oz,yg,yh⟩ aX6 HS
       try dsimp only at HS ⊢
       refine JC.seq ?_
       refine JC.seq ?_
       refine JC.region ?_
       refine Lv (.pointer (some ⟨g1,3,none⟩)) (fun a ha=>bH (ha.ev rfl) aYr rfl aYn rfl rfl) ?_
       refine Lv (.pointer (some ⟨g1,3,none⟩)) (fun a ha=>bH (ha.ev rfl) aYx rfl aYK rfl rfl) ?_
       refine JL.xw (.bool aB) HS 8 rfl rfl rfl aYJ rfl ?_
       refine jn ?_
       cases aB
       ·skip
        refine JC.jA rfl ?_
        refine JC.jF (fun _ _ h=>h) ?_
        refine JC.seq ?_
        refine JC.region ?_
        refine JL.load (a0p pW pI pU pK pJ pR pM) HS 1 rfl rfl rfl aYp aYn rfl rfl ?_
        refine JL.load (a0p oG oh oD ou oq oC oz) HS 0 rfl rfl rfl aYp aYn rfl rfl ?_
        refine Lv (a0r pW pI pU pK pJ pR pM oG oh oD ou oq oC oz) (fun a ha=>bZ.run_build (vs:=[(0,(a0p pW pI pU pK pJ pR pM)),(1,(a0p oG oh oD ou oq oC oz))]) (by simp only [List.map_cons,List.map_nil,ha.ev (x := .tmp 45) (v:=(a0p pW pI pU pK pJ pR pM)) rfl,ha.ev (x := .tmp 46) (v:=(a0p oG oh oD ou oq oC oz)) rfl]) aYr aYt pV rfl) ?_
        refine JL.store HS rfl rfl (i:=6) rfl aYo rfl rfl rfl (vs':=(a0s pW pI pU pK pJ pR pM oG oh oD ou oq oC oz)) rfl rfl (fun VI HS => ?_)
        refine jn ?_
        refine JC.ret (fun a ha => ?_)
        repeat (first | refine dh ?_ | refine df ?_)
        refine fG (v:=(a0r pW pI pU pK pJ pR pM oG oh oD ou oq oC oz)) ha Tryz.results188 (.agg rfl aYq aYo (HS.box _ (.tail _ (.tail _ (.tail _ (.tail _ (.tail _ (.tail _ (.head _)))))))) rfl rfl) ⟨_,rfl,?_⟩
        exact ⟨_,_,_,_,_,_,_,_,_,_,_,_,_,_,rfl,HS.tY 9 10 1 0 rfl rfl rfl (fun _ h=>h.as (by rw [(aeK hab hcd h1).1]; simp only [KL,NW,EZ,EI,← Am]; cases rs aI <;> cases rs aJ <;> rfl) (by omega)) rfl (fun _ h=>h.as (by rw [(aeK hab hcd h1).2]; simp only [KL,NW,EZ,EI,← Am]; cases rs aI <;> cases rs aJ <;> rfl) (by omega))⟩
       ·skip
        refine JC.iy rfl ?_
        refine JC.region ?_
        refine JL.load (a0p oG oh oD ou oq oC oz) HS 0 rfl rfl rfl aYp aYn rfl rfl ?_
        refine JL.load (a0p pW pI pU pK pJ pR pM) HS 1 rfl rfl rfl aYp aYn rfl rfl ?_
        refine JL.store HS rfl rfl (i:=1) rfl aYn rfl rfl rfl (vs':=(a0q oG oh oD ou oq oC oz)) rfl rfl (fun ZZ HS => ?_)
        refine JL.store HS rfl rfl (i:=0) rfl aYn rfl rfl rfl (vs':=(a0q pW pI pU pK pJ pR pM)) rfl rfl (fun Z5 HS => ?_)
        refine jn ?_
        refine JC.seq ?_
        refine JC.region ?_
        refine JL.load (a0p oG oh oD ou oq oC oz) HS 1 rfl rfl rfl aYp aYn rfl rfl ?_
        refine JL.load (a0p pW pI pU pK pJ pR pM) HS 0 rfl rfl rfl aYp aYn rfl rfl ?_
        refine Lv (a0r oG oh oD ou oq oC oz pW pI pU pK pJ pR pM) (fun a ha=>bZ.run_build (vs:=[(0,(a0p oG oh oD ou oq oC oz)),(1,(a0p pW pI pU pK pJ pR pM))]) (by simp only [List.map_cons,List.map_nil,ha.ev (x := .tmp 45) (v:=(a0p oG oh oD ou oq oC oz)) rfl,ha.ev (x := .tmp 46) (v:=(a0p pW pI pU pK pJ pR pM)) rfl]) aYr aYt pV rfl) ?_
        refine JL.store HS rfl rfl (i:=6) rfl aYo rfl rfl rfl (vs':=(a0s oG oh oD ou oq oC oz pW pI pU pK pJ pR pM)) rfl rfl (fun Z7 HS => ?_)
        refine jn ?_
        refine JC.ret (fun a ha => ?_)
        repeat (first | refine dh ?_ | refine df ?_)
        refine fG (v:=(a0r oG oh oD ou oq oC oz pW pI pU pK pJ pR pM)) ha Tryz.results188 (.agg rfl aYq aYo (HS.box _ (.tail _ (.tail _ (.tail _ (.tail _ (.tail _ (.tail _ (.head _)))))))) rfl rfl) ⟨_,rfl,?_⟩
        exact ⟨_,_,_,_,_,_,_,_,_,_,_,_,_,_,rfl,HS.tY 9 10 0 1 rfl rfl rfl (fun _ h=>h.as (by rw [(aeK hab hcd h1).1]; simp only [KL,NW,EZ,EI,← Am]; cases rs aI <;> cases rs aJ <;> rfl) (by omega)) rfl (fun _ h=>h.as (by rw [(aeK hab hcd h1).2]; simp only [KL,NW,EZ,EI,← Am]; cases rs aI <;> cases rs aJ <;> rfl) (by omega))⟩
set_option maxHeartbeats 400000 in
theorem asR (HT:Tz W0) (HB:Tab W0) {af:Rat} {bC:Nat} {ah:Rat} {bD:Nat} {aI:Rat} {bM:Nat} {aJ:Rat} {bP:Nat} (HS:St W0 U Ps w) (f1a:FV (a0p ax ay aj c1a az ak aA) af bC true w) (bI:FV (a0p aB aC n1b aG aF au aH) ah bD true w) (fC:FV (a0p aP aQ aK aS aU aN aY) aI bM true w) (fD:FV (a0p aV aW aO aX aZ aT bf) aJ bP true w) (hk:bC+bD+(bM+bP)≤4000) (hab:af≤ah) (hcd:aI≤aJ):bY Tryz.prog 134 [(a0r ax ay aj c1a az ak aA aB aC n1b aG aF au aH),(a0r aP aQ aK aS aU aN aY aV aW aO aX aZ aT bf)] w (xG W0 U Ps (lC af ah aI aJ) (jV af ah aI aJ) ((bC+bD)+(bM+bP)+(bC+bD)+(bM+bP)+4)):=by
 have HS:=HS.add (FV.stable _ _ _ _) f1a
 have HS:=HS.add (FV.stable _ _ _ _) bI
 have HS:=HS.add (FV.stable _ _ _ _) fC
 have HS:=HS.add (FV.stable _ _ _ _) fD
 clear f1a bI fC fD
 refine iL Tryz.func134 rfl Tryz.ntmps134 rfl ?_
 refine JC.seq ?_
 refine JC.region ?_
 refine JL.box (vs:=(a0s ax ay aj c1a az ak aA aB aC n1b aG aF au aH)) HS rfl rfl rfl rfl (fun g1 w1 HS => ?_)
 refine JL.box (vs:=(a0s aP aQ aK aS aU aN aY aV aW aO aX aZ aT bf)) HS rfl rfl rfl rfl (fun g2 w2 HS => ?_)
 refine JL.alloc (vs:=cO) HS rfl aYt rfl rfl (fun g3 w3 HS => ?_)
 refine jn ?_
 refine JC.seq ?_
 refine JC.block ?_
 refine JC.seq ?_
 refine JC.region ?_
 refine JL.load (a0r ax ay aj c1a az ak aA aB aC n1b aG aF au aH) HS 2 rfl rfl rfl aYq aYo rfl rfl ?_
 refine JL.call rfl rfl Tryz.call187 (asO HT HB HS (HS.at_ 3 rfl) (HS.at_ 2 rfl) ) (fun v4 w4 HR4 => ?_)
 obtain ⟨rfl,HS⟩:=HR4
 refine Lv (.bool (Oz af ah)) (fun a ha=>run_assign (ha.ev rfl)) ?_
 refine jn ?_
 cases Ap:((Oz af ah))
 ·skip
  refine JC.jA rfl ?_
  refine JC.seq ?_
  refine JC.region ?_
  refine JL.load (a0r aP aQ aK aS aU aN aY aV aW aO aX aZ aT bf) HS 1 rfl rfl rfl aYq aYo rfl rfl ?_
  refine JL.call rfl rfl Tryz.call187 (asO HT HB HS (HS.at_ 1 rfl) (HS.at_ 0 rfl) ) (fun v6 w6 uk => ?_)
  obtain ⟨rfl,HS⟩:=uk
  refine Lv (.bool (Oz aI aJ)) (fun a ha=>run_assign (ha.ev rfl)) ?_
  refine jn ?_
  cases PR:((Oz aI aJ))
  ·skip
   refine JC.jA rfl ?_
   refine JC.Vy (fun _ _ h=>h) ?_
   refine JC.seq ?_
   refine JC.draw HS [23] (by kernel_rfl) (fun w8 HS => ?_)
   refine Dv (.pointer (some ⟨g1,0,none⟩)) 0 rfl HS.b0 (fun a ha w=>bH (ha.ev rfl) aYr rfl aYn rfl rfl) ?_
   refine Da (a0p ax ay aj c1a az ak aA) 1 2 rfl HS.b0 rfl rfl aYp aYn ?_
   refine Dv (.pointer (some ⟨g2,3,none⟩)) 2 rfl HS.b0 (fun a ha w=>bH (ha.ev rfl) aYr rfl aYn rfl rfl) ?_
   refine Da (a0p aV aW aO aX aZ aT bf) 3 1 rfl HS.b0 rfl rfl aYp aYn ?_
   refine Dv (.pointer (some ⟨g1,3,none⟩)) 5 rfl HS.b0 (fun a ha w=>bH (ha.ev rfl) aYr rfl aYn rfl rfl) ?_
   refine Da (a0p aB aC n1b aG aF au aH) 6 2 rfl HS.b0 rfl rfl aYp aYn ?_
   refine Dv (.pointer (some ⟨g2,0,none⟩)) 7 rfl HS.b0 (fun a ha w=>bH (ha.ev rfl) aYr rfl aYn rfl rfl) ?_
   refine Da (a0p aP aQ aK aS aU aN aY) 8 1 rfl HS.b0 rfl rfl aYp aYn ?_
   refine Dv (.pointer (some ⟨g1,0,none⟩)) 11 rfl HS.b0 (fun a ha w=>bH (ha.ev rfl) aYr rfl aYn rfl rfl) ?_
   refine Da (a0p ax ay aj c1a az ak aA) 12 2 rfl HS.b0 rfl rfl aYp aYn ?_
   refine Dv (.pointer (some ⟨g2,0,none⟩)) 13 rfl HS.b0 (fun a ha w=>bH (ha.ev rfl) aYr rfl aYn rfl rfl) ?_
   refine Da (a0p aP aQ aK aS aU aN aY) 14 1 rfl HS.b0 rfl rfl aYp aYn ?_
   refine Dv (.pointer (some ⟨g1,3,none⟩)) 16 rfl HS.b0 (fun a ha w=>bH (ha.ev rfl) aYr rfl aYn rfl rfl) ?_
   refine Da (a0p aB aC n1b aG aF au aH) 17 2 rfl HS.b0 rfl rfl aYp aYn ?_
   refine Dv (.pointer (some ⟨g2,3,none⟩)) 18 rfl HS.b0 (fun a ha w=>bH (ha.ev rfl) aYr rfl aYn rfl rfl) ?_
   refine Da (a0p aV aW aO aX aZ aT bf) 19 1 rfl HS.b0 rfl rfl aYp aYn ?_
   refine bJ 4 rfl rfl rfl aYv (iQ HT HB HS (HS.at_ 3 rfl) (HS.at_ 0 rfl) (by omega)) (fun Fp Em wO => ?_)
   obtain ⟨pG,nP,nU,nS,Gv,G6,GK,rfl,HS⟩:=wO
   refine ⟨HS.b0,?_⟩
   refine bJ 9 rfl rfl rfl aYv (iQ HT HB HS (HS.at_ 3 rfl) (HS.at_ 2 rfl) (by omega)) (fun aGD aHr agH => ?_)
   obtain ⟨Vu,Ue,U5,Uo,Ug,UY,Uu,rfl,HS⟩:=agH
   refine ⟨HS.b0,?_⟩
   refine bJ 10 rfl rfl rfl Tryz.call137 (ahr HT HB HS (HS.at_ 1 rfl) (HS.at_ 0 rfl) (by omega)) (fun aVw aXX aws => ?_)
   obtain ⟨ZG,Wj,Y2,XC,WM,YJ,XW,rfl,HS⟩:=aws
   refine ⟨HS.b0,?_⟩
   refine bJ 15 rfl rfl rfl aYv (iQ HT HB HS (HS.at_ 6 rfl) (HS.at_ 4 rfl) (by omega)) (fun aVx aXY awt => ?_)
   obtain ⟨aTf,aI2,aRn,aLX,aKn,aPW,aNn,rfl,HS⟩:=awt
   refine ⟨HS.b0,?_⟩
   refine bJ 20 rfl rfl rfl aYv (iQ HT HB HS (HS.at_ 6 rfl) (HS.at_ 4 rfl) (by omega)) (fun aVy aXZ awu => ?_)
   obtain ⟨aTg,aI3,aRo,aLY,aKo,aPX,aNo,rfl,HS⟩:=awu
   refine ⟨HS.b0,?_⟩
   refine bJ 21 rfl rfl rfl Tryz.call136 (ahq HT HB HS (HS.at_ 1 rfl) (HS.at_ 0 rfl) (by omega)) (fun aVz aX0 awv => ?_)
   obtain ⟨ZH,Wn,Y5,XD,WN,YK,XX,rfl,HS⟩:=awv
   refine ⟨HS.b0,?_⟩
   refine Dv (a0r ZG Wj Y2 XC WM YJ XW ZH Wn Y5 XD WN YK XX) 22 rfl HS.b0 (fun a ha w=>bZ.run_build (vs:=[(0,(a0p ZG Wj Y2 XC WM YJ XW)),(1,(a0p ZH Wn Y5 XD WN YK XX))]) (by simp only [List.map_cons,List.map_nil,ha.ev (x := .tmp 27) (v:=(a0p ZG Wj Y2 XC WM YJ XW)) rfl,ha.ev (x := .tmp 38) (v:=(a0p ZH Wn Y5 XD WN YK XX)) rfl]) aYr aYt pV rfl) ?_
   refine bF 23 (a0s ZG Wj Y2 XC WM YJ XW ZH Wn Y5 XD WN YK XX) HS 0 rfl rfl rfl rfl aYo (fun _ HS=>⟨(eX (s:=23) rfl rfl),?_⟩)
   refine JR.next (by kernel_rfl) (fun _ _ h=>h) ?_
   refine JC.ret (fun a ha => ?_)
   repeat (first | refine dh ?_ | refine df ?_)
   refine fG (v:=(a0r ZG Wj Y2 XC WM YJ XW ZH Wn Y5 XD WN YK XX)) ha Tryz.results134 (.agg rfl aYq aYo (HS.box _ (.head _)) rfl rfl) ⟨_,rfl,?_⟩
   exact ⟨_,_,_,_,_,_,_,_,_,_,_,_,_,_,rfl,HS.tY 3 10 3 0 rfl rfl rfl (fun _ h=>h.as (((ao4 (P7 (q:=af) (by assumption)).1 (P7 (q:=af) (by assumption)).2 (P7 (q:=aI) (by assumption)).1 (P7 (q:=aI) (by assumption)).2).1).symm) (by omega)) rfl (fun _ h=>h.as (((ao4 (P7 (q:=af) (by assumption)).1 (P7 (q:=af) (by assumption)).2 (P7 (q:=aI) (by assumption)).1 (P7 (q:=aI) (by assumption)).2).2).symm) (by omega))⟩
  ·skip
   refine JC.iy rfl ?_
   refine JC.seq ?_
   refine JC.region ?_
   refine JL.load (a0r aP aQ aK aS aU aN aY aV aW aO aX aZ aT bf) HS 1 rfl rfl rfl aYq aYo rfl rfl ?_
   refine JL.load (a0r ax ay aj c1a az ak aA aB aC n1b aG aF au aH) HS 2 rfl rfl rfl aYq aYo rfl rfl ?_
   refine JL.call rfl rfl Tryz.call188 (asV HT HB HS (HS.at_ 1 rfl) (HS.at_ 0 rfl) (HS.at_ 3 rfl) (HS.at_ 2 rfl) (by omega) hcd hab (apA (by assumption))) (fun v10 w10 FN => ?_)
   obtain ⟨TD,QF,SN,Rl,QJ,SC,Rx,TE,QG,SQ,Rn,QK,SE,Ry,rfl,HS⟩:=FN
   refine JL.store HS rfl rfl (i:=0) rfl aYo rfl rfl rfl (vs':=(a0s TD QF SN Rl QJ SC Rx TE QG SQ Rn QK SE Ry)) rfl rfl (fun Dp HS => ?_)
   refine jn ?_
   refine JC.ret (fun a ha => ?_)
   repeat (first | refine dh ?_ | refine df ?_)
   refine fG (v:=(a0r TD QF SN Rl QJ SC Rx TE QG SQ Rn QK SE Ry)) ha Tryz.results134 (.agg rfl aYq aYo (HS.box _ (.head _)) rfl rfl) ⟨_,rfl,?_⟩
   exact ⟨_,_,_,_,_,_,_,_,_,_,_,_,_,_,rfl,HS.tY 3 6 0 1 rfl rfl rfl (fun _ h=>h.as (aBb _ _ _ _) (by omega)) rfl (fun _ h=>h.as (aBa _ _ _ _) (by omega))⟩
 ·skip
  refine JC.iy rfl ?_
  refine JC.seq ?_
  refine JC.region ?_
  refine JL.load (a0r ax ay aj c1a az ak aA aB aC n1b aG aF au aH) HS 2 rfl rfl rfl aYq aYo rfl rfl ?_
  refine JL.load (a0r aP aQ aK aS aU aN aY aV aW aO aX aZ aT bf) HS 1 rfl rfl rfl aYq aYo rfl rfl ?_
  refine JL.call rfl rfl Tryz.call188 (asV HT HB HS (HS.at_ 3 rfl) (HS.at_ 2 rfl) (HS.at_ 1 rfl) (HS.at_ 0 rfl) (by omega) hab hcd (apA (by assumption))) (fun v12 w12 QS => ?_)
  obtain ⟨arz,aku,ao9,alK,akN,aoG,ame,arA,akv,apa,alM,akO,aoH,amf,rfl,HS⟩:=QS
  refine JL.store HS rfl rfl (i:=0) rfl aYo rfl rfl rfl (vs':=(a0s arz aku ao9 alK akN aoG ame arA akv apa alM akO aoH amf)) rfl rfl (fun Gl HS => ?_)
  refine jn ?_
  refine JC.ret (fun a ha => ?_)
  repeat (first | refine dh ?_ | refine df ?_)
  refine fG (v:=(a0r arz aku ao9 alK akN aoG ame arA akv apa alM akO aoH amf)) ha Tryz.results134 (.agg rfl aYq aYo (HS.box _ (.head _)) rfl rfl) ⟨_,rfl,?_⟩
  exact ⟨_,_,_,_,_,_,_,_,_,_,_,_,_,_,rfl,HS.tY 3 6 0 1 rfl rfl rfl (fun _ h=>h.as rfl (by omega)) rfl (fun _ h=>h.as rfl (by omega))⟩
set_option maxHeartbeats 400000 in
theorem ajV (HT:Tz W0) (HB:Tab W0) {af:Rat} {bC:Nat} {bu:Bool} {ah:Rat} {bD:Nat} {bn:Bool} {aI:Rat} {bM:Nat} {bT:Bool} {aJ:Rat} {bP:Nat} {bQ:Bool} (HS:St W0 U Ps w) (f1a:FV (a0p ax ay aj c1a az ak aA) af bC bu w) (bI:FV (a0p aB aC n1b aG aF au aH) ah bD bn w) (fC:FV (a0p aP aQ aK aS aU aN aY) aI bM bT w) (fD:FV (a0p aV aW aO aX aZ aT bf) aJ bP bQ w) (hk:bC+bD+(bM+bP)≤1000):bY Tryz.prog 62 [(a0r ax ay aj c1a az ak aA aB aC n1b aG aF au aH),(a0r aP aQ aK aS aU aN aY aV aW aO aX aZ aT bf)] w (xG W0 U Ps (lC (bV bu bn af ah) (bW bu bn af ah) (bV bT bQ aI aJ) (bW bT bQ aI aJ)) (jV (bV bu bn af ah) (bW bu bn af ah) (bV bT bQ aI aJ) (bW bT bQ aI aJ)) (4*(bC+bD)+4*(bM+bP)+4)):=by
 have HS:=HS.add (FV.stable _ _ _ _) f1a
 have HS:=HS.add (FV.stable _ _ _ _) bI
 have HS:=HS.add (FV.stable _ _ _ _) fC
 have HS:=HS.add (FV.stable _ _ _ _) fD
 clear f1a bI fC fD
 refine iL Tryz.func62 rfl Tryz.ntmps62 rfl ?_
 refine JC.seq ?_
 refine JC.region ?_
 refine JL.box (vs:=(a0s ax ay aj c1a az ak aA aB aC n1b aG aF au aH)) HS rfl rfl rfl rfl (fun g1 w1 HS => ?_)
 refine JL.box (vs:=(a0s aP aQ aK aS aU aN aY aV aW aO aX aZ aT bf)) HS rfl rfl rfl rfl (fun g2 w2 HS => ?_)
 refine JL.alloc (vs:=cO) HS rfl aYt rfl rfl (fun g3 w3 HS => ?_)
 refine jn ?_
 refine JC.seq ?_
 refine JC.draw HS [5] (by kernel_rfl) (fun w4 HS => ?_)
 refine Da (a0r ax ay aj c1a az ak aA aB aC n1b aG aF au aH) 0 2 rfl HS.b0 rfl rfl aYq aYo ?_
 refine Da (a0r aP aQ aK aS aU aN aY aV aW aO aX aZ aT bf) 2 1 rfl HS.b0 rfl rfl aYq aYo ?_
 refine bJ 1 rfl rfl rfl aYz (sO HT HB HS (HS.at_ 3 rfl) (HS.at_ 2 rfl) (by omega)) (fun aU4 aXf avH => ?_)
 obtain ⟨aS2,aIP,aQ7,aLH,aKb,aPJ,aNa,aS3,aIQ,aQ8,aLI,aKc,aPK,aNb,rfl,HS⟩:=avH
 refine ⟨HS.b0,?_⟩
 refine bJ 3 rfl rfl rfl aYz (sO HT HB HS (HS.at_ 3 rfl) (HS.at_ 2 rfl) (by omega)) (fun aGw aG9 agq => ?_)
 obtain ⟨ajk,afq,ait,ag2,afG,aij,ahc,ajl,afr,aiu,ag3,afH,aik,ahd,rfl,HS⟩:=agq
 refine ⟨HS.b0,?_⟩
 refine bJ 4 rfl rfl rfl Tryz.call134 (asR HT HB HS (HS.at_ 2 rfl) (HS.at_ 3 rfl) (HS.at_ 0 rfl) (HS.at_ 1 rfl) (by omega) (oP _ _ _ _) (oP _ _ _ _)) (fun aU5 aXg avI => ?_)
 obtain ⟨arC,akx,apc,alO,akP,aoI,amg,arD,aky,apd,alP,akQ,aoJ,amh,rfl,HS⟩:=avI
 refine ⟨HS.b0,?_⟩
 refine bF 5 (a0s arC akx apc alO akP aoI amg arD aky apd alP akQ aoJ amh) HS 0 rfl rfl rfl rfl aYo (fun _ HS=>⟨(eX (s:=5) rfl rfl),?_⟩)
 refine JR.next (by kernel_rfl) (fun _ _ h=>h) ?_
 refine JC.ret (fun a ha => ?_)
 repeat (first | refine dh ?_ | refine df ?_)
 refine fG (v:=(a0r arC akx apc alO akP aoI amg arD aky apd alP akQ aoJ amh)) ha Tryz.results62 (.agg rfl aYq aYo (HS.box _ (.head _)) rfl rfl) ⟨_,rfl,?_⟩
 exact ⟨_,_,_,_,_,_,_,_,_,_,_,_,_,_,rfl,HS.tY 3 10 0 1 rfl rfl rfl (fun _ h=>h.as rfl (by omega)) rfl (fun _ h=>h.as rfl (by omega))⟩
set_option maxHeartbeats 400000 in
theorem ajT (HT:Tz W0) (HB:Tab W0) {af:Rat} {bC:Nat} {bu:Bool} {ah:Rat} {bD:Nat} {bn:Bool} {aI:Rat} {bM:Nat} {bT:Bool} {aJ:Rat} {bP:Nat} {bQ:Bool} (HS:St W0 U Ps w) (f1a:FV (a0p ax ay aj c1a az ak aA) af bC bu w) (bI:FV (a0p aB aC n1b aG aF au aH) ah bD bn w) (fC:FV (a0p aP aQ aK aS aU aN aY) aI bM bT w) (fD:FV (a0p aV aW aO aX aZ aT bf) aJ bP bQ w) (hk:bC+bD+(bM+bP)≤1000) (hc:0 < (bV bT bQ aI aJ)∨(bW bT bQ aI aJ) < 0):bY Tryz.prog 52 [(a0r ax ay aj c1a az ak aA aB aC n1b aG aF au aH),(a0r aP aQ aK aS aU aN aY aV aW aO aX aZ aT bf)] w (yY W0 U Ps (lC (bV bu bn af ah) (bW bu bn af ah) ((bW bT bQ aI aJ))⁻¹ ((bV bT bQ aI aJ))⁻¹) (jV (bV bu bn af ah) (bW bu bn af ah) ((bW bT bQ aI aJ))⁻¹ ((bV bT bQ aI aJ))⁻¹) (4*(bC+bD)+8*(bM+bP)+4) (.nilIface)):=by
 have HS:=HS.add (FV.stable _ _ _ _) f1a
 have HS:=HS.add (FV.stable _ _ _ _) bI
 have HS:=HS.add (FV.stable _ _ _ _) fC
 have HS:=HS.add (FV.stable _ _ _ _) fD
 clear f1a bI fC fD
 refine iL Tryz.func52 rfl Tryz.ntmps52 rfl ?_
 refine JC.seq ?_
 refine JC.region ?_
 refine JL.box (vs:=(a0s ax ay aj c1a az ak aA aB aC n1b aG aF au aH)) HS rfl rfl rfl rfl (fun g1 w1 HS => ?_)
 refine JL.box (vs:=(a0s aP aQ aK aS aU aN aY aV aW aO aX aZ aT bf)) HS rfl rfl rfl rfl (fun g2 w2 HS => ?_)
 refine JL.alloc (vs:=cO) HS rfl aYt rfl rfl (fun g3 w3 HS => ?_)
 refine Lv (.nilIface) (fun a ha=>run_assign (ha.ev rfl)) ?_
 refine jn ?_
 refine JC.cut (ι:=FX) (fun ⟨eP,dR,eG,dW,dU,eu,dY,eU,dS,eH,dX,dV,eF,dZ,dP,di,dM,dB,dw,dJ,dG,dQ,dm,dO,dD,dA,dK,dI⟩=>[(0,(a0r ax ay aj c1a az ak aA aB aC n1b aG aF au aH)),(1,(a0r aP aQ aK aS aU aN aY aV aW aO aX aZ aT bf)),(2,.pointer (some ⟨g1,0,none⟩)),(3,.pointer (some ⟨g2,0,none⟩)),(4,.pointer (some ⟨g3,0,none⟩)),(5,.nilIface)]) (fun ⟨eP,dR,eG,dW,dU,eu,dY,eU,dS,eH,dX,dV,eF,dZ,dP,di,dM,dB,dw,dJ,dG,dQ,dm,dO,dD,dA,dK,dI⟩ w=>St W0 (⟨g3,48,cO⟩ :: ⟨g2,48,(a0s dP di dM dB dw dJ dG dQ dm dO dD dA dK dI)⟩ :: ⟨g1,48,(a0s eP dR eG dW dU eu dY eU dS eH dX dV eF dZ)⟩ :: U) (FV (a0p dP di dM dB dw dJ dG) (bV bT bQ aI aJ) (bM+bP) true :: FV (a0p dQ dm dO dD dA dK dI) (bW bT bQ aI aJ) (bM+bP) true :: FV (a0p eP dR eG dW dU eu dY) (bV bu bn af ah) (bC+bD) true :: FV (a0p eU dS eH dX dV eF dZ) (bW bu bn af ah) (bC+bD) true :: FV (a0p aV aW aO aX aZ aT bf) aJ bP bQ :: FV (a0p aP aQ aK aS aU aN aY) aI bM bT :: FV (a0p aB aC n1b aG aF au aH) ah bD bn :: FV (a0p ax ay aj c1a az ak aA) af bC bu :: Ps) w) ?_ ?_
 ·skip
  refine JC.draw HS [4,5] (by kernel_rfl) (fun w5 HS => ?_)
  refine Da (a0r ax ay aj c1a az ak aA aB aC n1b aG aF au aH) 0 2 rfl HS.b0 rfl rfl aYq aYo ?_
  refine JR.any [1,2] (by kernel_rfl) rfl ?_
  refine ai.call rfl rfl rfl aYz (sO HT HB HS (HS.at_ 3 rfl) (HS.at_ 2 rfl) (by omega)) rfl (fun yL yN pq => ?_) ?_
  ·skip
   obtain ⟨eP,dR,eG,dW,dU,eu,dY,eU,dS,eH,dX,dV,eF,dZ,rfl,HS⟩:=pq
   refine ⟨HS.b0,?_⟩
   refine J1 2 (by kernel_rfl) ?_
   refine ai.load (a0r aP aQ aK aS aU aN aY aV aW aO aX aZ aT bf) HS 1 rfl rfl rfl rfl aYq aYo rfl rfl rfl ?_ ai.nil
   refine ⟨HS.b0,?_⟩
   refine bJ 3 rfl rfl rfl aYz (sO HT HB HS (HS.at_ 3 rfl) (HS.at_ 2 rfl) (by omega)) (fun yM yO pz => ?_)
   obtain ⟨dP,di,dM,dB,dw,dJ,dG,dQ,dm,dO,dD,dA,dK,dI,rfl,HS⟩:=pz
   refine ⟨HS.b0,?_⟩
   refine bF 4 (a0s eP dR eG dW dU eu dY eU dS eH dX dV eF dZ) HS 2 rfl rfl rfl rfl aYo (fun _ HS=>⟨(eX (s:=4) rfl rfl),?_⟩)
   refine bF 5 (a0s dP di dM dB dw dJ dG dQ dm dO dD dA dK dI) HS 1 rfl rfl rfl rfl aYo (fun _ HS=>⟨(eX (s:=4) rfl rfl),?_⟩)
   exact JR.mt (eP,dR,eG,dW,dU,eu,dY,eU,dS,eH,dX,dV,eF,dZ,dP,di,dM,dB,dw,dJ,dG,dQ,dm,dO,dD,dA,dK,dI) HS
  refine ai.load (a0r aP aQ aK aS aU aN aY aV aW aO aX aZ aT bf) HS 1 rfl rfl rfl rfl aYq aYo rfl rfl rfl ?_ ai.nil
  refine ⟨HS.b0,?_⟩
  refine bJ 1 rfl rfl rfl aYz (sO HT HB HS (HS.at_ 3 rfl) (HS.at_ 2 rfl) (by omega)) (fun yL yN pq => ?_)
  obtain ⟨eP,dR,eG,dW,dU,eu,dY,eU,dS,eH,dX,dV,eF,dZ,rfl,HS⟩:=pq
  refine ⟨HS.b0,?_⟩
  refine bJ 3 rfl rfl rfl aYz (sO HT HB HS (HS.at_ 3 rfl) (HS.at_ 2 rfl) (by omega)) (fun yM yO pz => ?_)
  obtain ⟨dP,di,dM,dB,dw,dJ,dG,dQ,dm,dO,dD,dA,dK,dI,rfl,HS⟩:=pz
  refine ⟨HS.b0,?_⟩
  refine bF 4 (a0s eP dR eG dW dU eu dY eU dS eH dX dV eF dZ) HS 2 rfl rfl rfl rfl aYo (fun _ HS=>⟨(eX (s:=4) rfl rfl),?_⟩)
  refine bF 5 (a0s dP di dM dB dw dJ dG dQ dm dO dD dA dK dI) HS 1 rfl rfl rfl rfl aYo (fun _ HS=>⟨(eX (s:=4) rfl rfl),?_⟩)
  exact JR.mt (eP,dR,eG,dW,dU,eu,dY,eU,dS,eH,dX,dV,eF,dZ,dP,di,dM,dB,dw,dJ,dG,dQ,dm,dO,dD,dA,dK,dI) HS
 ·skip
  rintro ⟨eP,dR,eG,dW,dU,eu,dY,eU,dS,eH,dX,dV,eF,dZ,dP,di,dM,dB,dw,dJ,dG,dQ,dm,dO,dD,dA,dK,dI⟩ H8 HS
  try dsimp only at HS ⊢
  refine JC.seq ?_
  refine JC.seq ?_
  refine JC.region ?_
  refine JL.load (a0r dP di dM dB dw dJ dG dQ dm dO dD dA dK dI) HS 1 rfl rfl rfl aYq aYo rfl rfl ?_
  refine JL.call rfl rfl Tryz.call125 (ajY HT HB HS (HS.at_ 0 rfl) (HS.at_ 1 rfl) ) (fun v6 w6 uk => ?_)
  obtain ⟨rfl,HS⟩:=uk
  refine Lv (.bool false) (fun a ha=>rC (ha.ev rfl) (ha.ev rfl) (ar8.trans (decide_eq_false (by grind)))) ?_
  refine jn ?_
  refine JC.jA rfl ?_
  refine JC.jF (fun _ _ h=>h) ?_
  refine JC.seq ?_
  refine JC.draw HS [4] (by kernel_rfl) (fun w7 HS => ?_)
  refine Da (a0r eP dR eG dW dU eu dY eU dS eH dX dV eF dZ) 0 2 rfl HS.b0 rfl rfl aYq aYo ?_
  refine Da (a0r dP di dM dB dw dJ dG dQ dm dO dD dA dK dI) 1 1 rfl HS.b0 rfl rfl aYq aYo ?_
  refine bJ 2 rfl rfl rfl Tryz.call135 (aGK HT HB HS (HS.at_ 0 rfl) (HS.at_ 1 rfl) (EP (oP _ _ _ _) hc).1 (EP (oP _ _ _ _) hc).2) (fun aGB aHm agC => ?_)
  obtain ⟨aTc,aIZ,aRj,aLS,aKk,aPT,aNk,aTd,aI0,aRk,aLU,aKl,aPU,aNl,rfl,HS⟩:=agC
  refine ⟨HS.b0,?_⟩
  refine bJ 3 rfl rfl rfl Tryz.call134 (asR HT HB HS (HS.at_ 4 rfl) (HS.at_ 5 rfl) (HS.at_ 0 rfl) (HS.at_ 1 rfl) (by omega) (oP _ _ _ _) (EO (oP _ _ _ _) hc)) (fun aVt aXR awm => ?_)
  obtain ⟨arP,akH,apl,al0,akZ,aoS,amr,arQ,akI,apm,al1,ak0,aoT,ams,rfl,HS⟩:=awm
  refine ⟨HS.b0,?_⟩
  refine bF 4 (a0s arP akH apl al0 akZ aoS amr arQ akI apm al1 ak0 aoT ams) HS 0 rfl rfl rfl rfl aYo (fun _ HS=>⟨(eX (s:=4) rfl rfl),?_⟩)
  refine Dv (.nilIface) 5 rfl (eX (s:=4) rfl rfl) (fun a ha w=>run_assign (ha.ev rfl)) ?_
  refine JR.next (by kernel_rfl) (fun _ _ h=>h) ?_
  refine JC.ret (fun a ha => ?_)
  repeat (first | refine dh ?_ | refine df ?_)
  refine vI (v:=(a0r arP akH apl al0 akZ aoS amr arQ akI apm al1 ak0 aoT ams)) (v' := .nilIface) ha Tryz.results52 (.agg rfl aYq aYo (HS.box _ (.head _)) rfl rfl) (.tmp rfl) ⟨_,rfl,?_⟩
  exact ⟨_,_,_,_,_,_,_,_,_,_,_,_,_,_,rfl,HS.tY 3 12 0 1 rfl rfl rfl (fun _ h=>h.as rfl (by omega)) rfl (fun _ h=>h.as rfl (by omega))⟩
end
end Go.Proofs.YtbihljnjaondcaaGreatDoor
