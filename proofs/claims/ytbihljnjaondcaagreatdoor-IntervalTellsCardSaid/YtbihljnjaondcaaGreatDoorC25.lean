/- Part of a proof, said shortly. -/
import Derived.OpenShut
import Derived.Deep.Strs
import Derived.Test.YtbihljnjaondcaaGreatDoorAlz
import Derived.Test.YtbihljnjaondcaaGreatDoorC21
import Derived.Test.YtbihljnjaondcaaGreatDoorC20
import Derived.Test.YtbihljnjaondcaaGreatDoorC15
import Derived.Test.YtbihljnjaondcaaGreatDoorC16
import Derived.Test.YtbihljnjaondcaaGreatDoorC14
import Derived.Test.YtbihljnjaondcaaGreatDoorC13
import Derived.Test.YtbihljnjaondcaaGreatDoorC12
import Derived.Test.YtbihljnjaondcaaGreatDoorC11
import Derived.Test.YtbihljnjaondcaaGreatDoorC10
import Derived.Test.YtbihljnjaondcaaGreatDoorC6
import Derived.Test.YtbihljnjaondcaaGreatDoorC2
import Derived.Test.YtbihljnjaondcaaGreatDoorC1
import Derived.Test.YtbihljnjaondcaaGreatDoorC5
import Derived.Test.YtbihljnjaondcaaGreatDoorC4
import Derived.Test.YtbihljnjaondcaaGreatDoorC3
import Derived.Test.YtbihljnjaondcaaGreatDoorC9
import Derived.Test.YtbihljnjaondcaaGreatDoorC8
import Derived.Test.YtbihljnjaondcaaGreatDoorC7
import Derived.Test.YtbihljnjaondcaaGreatDoorC19
import Derived.Test.YtbihljnjaondcaaGreatDoorC18
import Derived.Test.YtbihljnjaondcaaGreatDoorC17
import Derived.Test.YtbihljnjaondcaaGreatDoorC22
import Derived.Test.YtbihljnjaondcaaGreatDoorC23
import Derived.Test.YtbihljnjaondcaaGreatDoorC24
set_option maxRecDepth 100000
open Go.Proofs.YtbihljnjaondcaaGreatDoor (a0p a0q a0r a0s yw bU fO cO PS iy1 PT FX iy4 iy5 iy6 Yo iy8 iy9 aAJ)
set_option linter.unusedVariables false
set_option linter.unusedSimpArgs false
namespace Go.Proofs.YtbihljnjaondcaaGreatDoor
open Go Go.RowKit Lw bZ
section
variable {W0 w:World} {U:List Box} {Ps:List (World→Prop)}
variable {ax:Bool} {ay:Option Addr} {aj c1a:Nat} {az:Option Addr} {ak aA:Nat} {aB:Bool} {aC:Option Addr} {n1b aG:Nat} {aF:Option Addr} {au aH:Nat}
set_option maxHeartbeats 400000 in
theorem KZ (HT:Tz W0) (HB:Tab W0) {af:Rat} {bC:Nat} {bu:Bool} {ah:Rat} {bD:Nat} {bn:Bool} (HS:St W0 U Ps w) (f1a:FV (a0p ax ay aj c1a az ak aA) af bC bu w) (bI:FV (a0p aB aC n1b aG aF au aH) ah bD bn w) (hk:bC+bD≤600):bY Tryz.prog 39 [(a0r ax ay aj c1a az ak aA aB aC n1b aG aF au aH)] w (iP W0 U Ps (.bool (okR bu bn af ah))):=by
 have HS:=HS.add (FV.stable _ _ _ _) f1a
 have HS:=HS.add (FV.stable _ _ _ _) bI
 clear f1a bI
 refine iL Tryz.func39 rfl Tryz.ntmps39 rfl ?_
 refine JC.seq ?_
 refine JC.region ?_
 refine JL.box (vs:=(a0s ax ay aj c1a az ak aA aB aC n1b aG aF au aH)) HS rfl rfl rfl rfl (fun g1 w1 HS => ?_)
 refine Lv (.bool false) (fun a ha=>run_assign (ha.ev rfl)) ?_
 refine jn ?_
 refine JC.seq ?_
 refine JC.region ?_
 refine Lv (.pointer (some ⟨g1,0,none⟩)) (fun a ha=>bH (ha.ev rfl) aYr rfl aYn rfl rfl) ?_
 refine JL.load (a0p ax ay aj c1a az ak aA) HS 0 rfl rfl rfl aYp aYn rfl rfl ?_
 refine JL.call rfl rfl Tryz.call130 (aqV HT HB HS (HS.at_ 1 rfl) (by omega)) (fun v2 w2 HR2 => ?_)
 obtain ⟨rfl,HS⟩:=HR2
 cases bu
 ·skip
  refine Lv (.bool false) (fun a ha=>run_move (ha.ev rfl)) ?_
  refine Lp ?_
  refine Lp ?_
  refine Lp ?_
  refine Lv (.bool false) (fun a ha=>gB (ha.ev rfl) (ha.ev rfl)) ?_
  refine Lv (.bool false) (fun a ha=>run_move (ha.ev rfl)) ?_
  refine Lp ?_
  refine Lp ?_
  refine Lp ?_
  refine Lp ?_
  refine Lp ?_
  refine Lp ?_
  refine Lv (.bool false) (fun a ha=>gB (ha.ev rfl) (ha.ev rfl)) ?_
  refine Lv (.bool false) (fun a ha=>run_assign (ha.ev rfl)) ?_
  refine jn ?_
  refine JC.ret (fun a ha => ?_)
  repeat (first | refine dh ?_ | refine df ?_)
  refine fG (v := .bool false) ha Tryz.results39 (.tmp rfl) ⟨_,rfl,?_⟩
  exact ⟨(by simp [okR]),HS.gy 1 2 rfl rfl⟩
 ·skip
  refine Lv (.bool true) (fun a ha=>run_move (ha.ev rfl)) ?_
  refine Lg (.pointer (some ⟨g1,3,none⟩)) (fun a ha=>bH (ha.ev rfl) aYr rfl aYn rfl rfl) ?_
  refine Lg (a0p aB aC n1b aG aF au aH) (fun a ha=>gU (ha.ev rfl) aYp aYn (HS.box _ (.head _)) rfl rfl) ?_
  refine JL.cZ rfl rfl rfl rfl rfl rfl Tryz.call130 (aqV HT HB HS (HS.at_ 0 rfl) (by omega)) (fun v4 w4 HR4 => ?_)
  obtain ⟨rfl,HS⟩:=HR4
  refine Lv (.bool bn) (fun a ha=>eY (ha.ev rfl) (ha.ev rfl)) ?_
  cases bn
  ·skip
   refine Lv (.bool false) (fun a ha=>run_move (ha.ev rfl)) ?_
   refine Lp ?_
   refine Lp ?_
   refine Lp ?_
   refine Lp ?_
   refine Lp ?_
   refine Lp ?_
   refine Lv (.bool false) (fun a ha=>gB (ha.ev rfl) (ha.ev rfl)) ?_
   refine Lv (.bool false) (fun a ha=>run_assign (ha.ev rfl)) ?_
   refine jn ?_
   refine JC.ret (fun a ha => ?_)
   repeat (first | refine dh ?_ | refine df ?_)
   refine fG (v := .bool false) ha Tryz.results39 (.tmp rfl) ⟨_,rfl,?_⟩
   exact ⟨(by simp [okR]),HS.gy 1 2 rfl rfl⟩
  ·skip
   refine Lv (.bool true) (fun a ha=>run_move (ha.ev rfl)) ?_
   refine Lg (.pointer (some ⟨g1,0,none⟩)) (fun a ha=>bH (ha.ev rfl) aYr rfl aYn rfl rfl) ?_
   refine Lg (a0p ax ay aj c1a az ak aA) (fun a ha=>gU (ha.ev rfl) aYp aYn (HS.box _ (.head _)) rfl rfl) ?_
   refine Lg (.pointer (some ⟨g1,3,none⟩)) (fun a ha=>bH (ha.ev rfl) aYr rfl aYn rfl rfl) ?_
   refine Lg (a0p aB aC n1b aG aF au aH) (fun a ha=>gU (ha.ev rfl) aYp aYn (HS.box _ (.head _)) rfl rfl) ?_
   refine JL.cZ rfl rfl rfl rfl rfl rfl aZd (Qb HT HB HS (HS.at_ 1 rfl) (HS.at_ 0 rfl) (by omega)) (fun v6 w6 uk => ?_)
   obtain ⟨rfl,HS⟩:=uk
   refine Lg (.bool (decide (af≤ah))) (fun a ha=>Qh (ha.ev rfl) (ha.ev rfl) (Ru _ _)) ?_
   refine Lv (.bool (decide (af≤ah))) (fun a ha=>eY (ha.ev rfl) (ha.ev rfl)) ?_
   refine Lv (.bool (decide (af≤ah))) (fun a ha=>run_assign (ha.ev rfl)) ?_
   refine jn ?_
   refine JC.ret (fun a ha => ?_)
   repeat (first | refine dh ?_ | refine df ?_)
   refine fG (v := .bool (decide (af≤ah))) ha Tryz.results39 (.tmp rfl) ⟨_,rfl,?_⟩
   exact ⟨(by simp [okR]),HS.gy 1 2 rfl rfl⟩
end
end Go.Proofs.YtbihljnjaondcaaGreatDoor
namespace Go.Proofs.YtbihljnjaondcaaGreatDoor
open Go Go.RowKit Lw bZ
section
variable {W0 w:World} {U:List Box} {Ps:List (World→Prop)}
set_option maxHeartbeats 400000 in
theorem Yl (HT:Tz W0) (HB:Tab W0) {z1:Int} {z2:Int}  (HS:St W0 U Ps w)  (h1 : -9223372036854775808≤z1) (h2:z1≤9223372036854775807) (h3 : -9223372036854775808≤z2) (h4:z2≤9223372036854775807):bY Tryz.prog 120 [.int .i64 z1,.int .i64 z2] w (xG W0 U Ps ((z1:Rat)) ((z2:Rat)) (6)):=by
 refine iL Tryz.func120 rfl Tryz.ntmps120 rfl ?_
 refine JC.seq ?_
 refine JC.region ?_
 refine JL.alloc (vs:=cO) HS rfl aYt rfl rfl (fun g1 w1 HS => ?_)
 refine jn ?_
 refine JC.seq ?_
 refine JC.region ?_
 refine Lv (.int .i64 z1) (fun a ha=>run_move (ha.ev rfl)) ?_
 refine JL.call rfl rfl aZr (Vm HT HB HS  (by omega) (by omega)) (fun v2 w2 HR2 => ?_)
 obtain ⟨s2,A2,n2,c2,B2,m2,d2,rfl,HS⟩:=HR2
 refine Lv (.int .i64 z2) (fun a ha=>run_move (ha.ev rfl)) ?_
 refine JL.call rfl rfl aZr (Vm HT HB HS  (by omega) (by omega)) (fun v3 w3 HR3 => ?_)
 obtain ⟨s3,A3,n3,c3,B3,m3,d3,rfl,HS⟩:=HR3
 refine Lv (a0r s2 A2 n2 c2 B2 m2 d2 s3 A3 n3 c3 B3 m3 d3) (fun a ha=>bZ.run_build (vs:=[(0,(a0p s2 A2 n2 c2 B2 m2 d2)),(1,(a0p s3 A3 n3 c3 B3 m3 d3))]) (by simp only [List.map_cons,List.map_nil,ha.ev (x := .tmp 6) (v:=(a0p s2 A2 n2 c2 B2 m2 d2)) rfl,ha.ev (x := .tmp 8) (v:=(a0p s3 A3 n3 c3 B3 m3 d3)) rfl]) aYr aYt pV rfl) ?_
 refine JL.store HS rfl rfl (i:=0) rfl aYo rfl rfl rfl (vs':=(a0s s2 A2 n2 c2 B2 m2 d2 s3 A3 n3 c3 B3 m3 d3)) rfl rfl (fun w4 HS => ?_)
 refine jn ?_
 refine JC.ret (fun a ha => ?_)
 repeat (first | refine dh ?_ | refine df ?_)
 refine fG (v:=(a0r s2 A2 n2 c2 B2 m2 d2 s3 A3 n3 c3 B3 m3 d3)) ha Tryz.results120 (.agg rfl aYq aYo (HS.box _ (.head _)) rfl rfl) ⟨_,rfl,?_⟩
 exact ⟨_,_,_,_,_,_,_,_,_,_,_,_,_,_,rfl,HS.tY 1 2 1 0 rfl rfl rfl (fun _ h=>h.as rfl (by omega)) rfl (fun _ h=>h.as rfl (by omega))⟩
set_option maxHeartbeats 4000000 in
theorem zh (HT:Tz W0) (HB:Tab W0)   (HS:St W0 U Ps w)   : bY Tryz.prog 32 [] w (iP W0 U Ps (.bool true)):=by
 refine iL Tryz.func32 rfl Tryz.ntmps32 rfl ?_
 refine JC.seq ?_
 refine JC.region ?_
 refine Lv (.bool false) (fun a ha=>run_assign (ha.ev rfl)) ?_
 refine jn ?_
 refine JC.seq ?_
 refine JC.region ?_
 refine JL.call rfl rfl aZI (Yl HT HB HS  (by decide +kernel) (by decide +kernel) (by decide +kernel) (by decide +kernel)) (fun v1 w1 HR1 => ?_)
 obtain ⟨ax,ay,aj,c1a,az,ak,aA,aB,aC,n1b,aG,aF,au,aH,rfl,HS⟩:=HR1
 refine JL.call rfl rfl aZI (Yl HT HB HS  (by decide +kernel) (by decide +kernel) (by decide +kernel) (by decide +kernel)) (fun v2 w2 HR2 => ?_)
 obtain ⟨aP,aQ,aK,aS,aU,aN,aY,aV,aW,aO,aX,aZ,aT,bf,rfl,HS⟩:=HR2
 refine JL.call rfl rfl aYX (ajT HT HB HS (HS.at_ 2 rfl) (HS.at_ 3 rfl) (HS.at_ 0 rfl) (HS.at_ 1 rfl) (by omega) (by decide +kernel)) (fun v3 w3 HR3 => ?_)
 obtain ⟨jS,jZ,kK,kD,kz,kH,kF,l7,lK,lY,lS,lN,lW,lU,rfl,HS⟩:=HR3
 refine Lv (.tuple #[(a0r jS jZ kK kD kz kH kF l7 lK lY lS lN lW lU),.nilIface]) (fun a ha=>run_move (ha.ev rfl)) ?_
 refine Lv (a0r jS jZ kK kD kz kH kF l7 lK lY lS lN lW lU) (fun a ha=>bK (ha.ev rfl) rfl) ?_
 refine Lv (.nilIface) (fun a ha=>bK (ha.ev rfl) rfl) ?_
 refine JL.alloc (vs:=cO) HS rfl aYt rfl rfl (fun g4 w4 HS => ?_)
 refine JL.store HS rfl rfl (i:=0) rfl aYo rfl rfl rfl (vs':=(a0s jS jZ kK kD kz kH kF l7 lK lY lS lN lW lU)) rfl rfl (fun w5 HS => ?_)
 refine Lv (.nilIface) (fun a ha=>run_assign (ha.ev rfl)) ?_
 refine jn ?_
 refine JC.seq ?_
 refine JC.region ?_
 refine JL.call rfl rfl aZI (Yl HT HB HS  (by decide +kernel) (by decide +kernel) (by decide +kernel) (by decide +kernel)) (fun v6 w6 uk => ?_)
 obtain ⟨ZE,V8,Y0,Xz,WJ,YH,XU,ZF,V9,n6b,XA,WL,YI,XV,rfl,HS⟩:=uk
 refine JL.call rfl rfl aY7 (ae3 (m2:=3) HT HB HS (HS.at_ 0 rfl) (HS.at_ 1 rfl) (by omega) (by decide) (by decide +kernel)) (fun v7 w7 wM => ?_)
 obtain ⟨Dj,Ce,n7a,CP,Cm,Dc,CV,Dk,Cf,n7b,CQ,B7b,Df,CW,rfl,HS⟩:=wM
 refine Lv (.tuple #[(a0r Dj Ce n7a CP Cm Dc CV Dk Cf n7b CQ B7b Df CW),.nilIface]) (fun a ha=>run_move (ha.ev rfl)) ?_
 refine Lv (a0r Dj Ce n7a CP Cm Dc CV Dk Cf n7b CQ B7b Df CW) (fun a ha=>bK (ha.ev rfl) rfl) ?_
 refine Lv (.nilIface) (fun a ha=>bK (ha.ev rfl) rfl) ?_
 refine JL.alloc (vs:=cO) HS rfl aYt rfl rfl (fun g8 w8 HS => ?_)
 refine JL.store HS rfl rfl (i:=0) rfl aYo rfl rfl rfl (vs':=(a0s Dj Ce n7a CP Cm Dc CV Dk Cf n7b CQ B7b Df CW)) rfl rfl (fun w9 HS => ?_)
 refine Lv (.nilIface) (fun a ha=>run_assign (ha.ev rfl)) ?_
 refine jn ?_
 refine JC.seq ?_
 refine JC.region ?_
 refine JL.call rfl rfl Tryz.call80 (ahp HT HB HS  (by decide +kernel) (by decide +kernel) (by decide +kernel) (by decide +kernel) (by decide)) (fun v10 w10 FN => ?_)
 obtain ⟨s10,zF,n10,c10,B10,m10,d10,rfl,HS⟩:=FN
 refine Lv (.tuple #[(a0p s10 zF n10 c10 B10 m10 d10),.nilIface]) (fun a ha=>run_move (ha.ev rfl)) ?_
 refine Lv (a0p s10 zF n10 c10 B10 m10 d10) (fun a ha=>bK (ha.ev rfl) rfl) ?_
 refine Lv (.nilIface) (fun a ha=>bK (ha.ev rfl) rfl) ?_
 refine JL.alloc (vs:=bU) HS rfl aYs rfl rfl (fun g11 Dp HS => ?_)
 refine JL.store HS rfl rfl (i:=0) rfl aYn rfl rfl rfl (vs':=(a0q s10 zF n10 c10 B10 m10 d10)) rfl rfl (fun w12 HS => ?_)
 refine Lv (.nilIface) (fun a ha=>run_assign (ha.ev rfl)) ?_
 refine jn ?_
 refine JC.cut (ι:=iy6) (fun ⟨Fb,Ep,EW,Ez,Eu,ER,EE,AQ,zY,AO,Ae,Ac,AA,Ah,AU,zZ,AP,Af,Ad,AB,Ai,Ku⟩=>[(0,.bool false),(1,.pointer (some ⟨g4,0,none⟩)),(2,.nilIface),(3,.pointer (some ⟨g8,0,none⟩)),(4,.nilIface),(5,.pointer (some ⟨g11,0,none⟩)),(6,.nilIface),(7,.pointer (some ⟨Ku,0,none⟩)),(8,.nilIface),(9,.tuple #[(a0r jS jZ kK kD kz kH kF l7 lK lY lS lN lW lU),.nilIface]),(10,(a0r ax ay aj c1a az ak aA aB aC n1b aG aF au aH)),(11,(a0r aP aQ aK aS aU aN aY aV aW aO aX aZ aT bf)),(12,.tuple #[(a0r jS jZ kK kD kz kH kF l7 lK lY lS lN lW lU),.nilIface]),(13,(a0r jS jZ kK kD kz kH kF l7 lK lY lS lN lW lU)),(14,.nilIface),(15,.tuple #[(a0r Dj Ce n7a CP Cm Dc CV Dk Cf n7b CQ B7b Df CW),.nilIface]),(16,(a0r ZE V8 Y0 Xz WJ YH XU ZF V9 n6b XA WL YI XV)),(17,.tuple #[(a0r Dj Ce n7a CP Cm Dc CV Dk Cf n7b CQ B7b Df CW),.nilIface]),(18,(a0r Dj Ce n7a CP Cm Dc CV Dk Cf n7b CQ B7b Df CW)),(19,.nilIface),(20,.tuple #[(a0p s10 zF n10 c10 B10 m10 d10),.nilIface]),(21,.tuple #[(a0p s10 zF n10 c10 B10 m10 d10),.nilIface]),(22,(a0p s10 zF n10 c10 B10 m10 d10)),(23,.nilIface)]) (fun ⟨Fb,Ep,EW,Ez,Eu,ER,EE,AQ,zY,AO,Ae,Ac,AA,Ah,AU,zZ,AP,Af,Ad,AB,Ai,Ku⟩ w=>St W0 (⟨Ku,48,(a0s AQ zY AO Ae Ac AA Ah AU zZ AP Af Ad AB Ai)⟩ :: ⟨g11,24,(a0q s10 zF n10 c10 B10 m10 d10)⟩ :: ⟨g8,48,(a0s Dj Ce n7a CP Cm Dc CV Dk Cf n7b CQ B7b Df CW)⟩ :: ⟨g4,48,(a0s jS jZ kK kD kz kH kF l7 lK lY lS lN lW lU)⟩ :: U) (FV (a0p AQ zY AO Ae Ac AA Ah) (NR (bV true true (Rat.divInt 1 3) ((Rat.divInt 1 3)+(Rat.divInt 1 3))) 2) (2*(2+(2+2+2))+60) true :: FV (a0p AU zZ AP Af Ad AB Ai) (-(NR (-(bW true true (Rat.divInt 1 3) ((Rat.divInt 1 3)+(Rat.divInt 1 3)))) 2)) (2*(2+(2+2+2))+60) true :: FV (a0p Fb Ep EW Ez Eu ER EE) ((Rat.divInt 1 3)+(Rat.divInt 1 3)) (2+2+2) true :: FV (a0p s10 zF n10 c10 B10 m10 d10) (Rat.divInt 1 3) 2 true :: FV (a0p Dj Ce n7a CP Cm Dc CV) (xe (bV true true (2:Rat) (2:Rat)) 3) (2*(6+6+(6+6))+200) true :: FV (a0p Dk Cf n7b CQ B7b Df CW) (vY (bW true true (2:Rat) (2:Rat)) 3) (2*(6+6+(6+6))+200) true :: FV (a0p ZE V8 Y0 Xz WJ YH XU) (2:Rat) 6 true :: FV (a0p ZF V9 n6b XA WL YI XV) (2:Rat) 6 true :: FV (a0p jS jZ kK kD kz kH kF) (lC (bV true true (1:Rat) (2:Rat)) (bW true true (1:Rat) (2:Rat)) ((bW true true (2:Rat) (4:Rat)))⁻¹ ((bV true true (2:Rat) (4:Rat)))⁻¹) (4*(6+6)+8*(6+6)+4) true :: FV (a0p l7 lK lY lS lN lW lU) (jV (bV true true (1:Rat) (2:Rat)) (bW true true (1:Rat) (2:Rat)) ((bW true true (2:Rat) (4:Rat)))⁻¹ ((bV true true (2:Rat) (4:Rat)))⁻¹) (4*(6+6)+8*(6+6)+4) true :: FV (a0p aP aQ aK aS aU aN aY) (2:Rat) 6 true :: FV (a0p aV aW aO aX aZ aT bf) (4:Rat) 6 true :: FV (a0p ax ay aj c1a az ak aA) (1:Rat) 6 true :: FV (a0p aB aC n1b aG aF au aH) (2:Rat) 6 true :: Ps) w) ?_ ?_
 ·skip
  refine JC.draw HS [] (by kernel_rfl) (fun JX HS => ?_)
  refine Da (a0p s10 zF n10 c10 B10 m10 d10) 0 0 rfl HS.b0 rfl rfl aYp aYn ?_
  refine Da (a0p s10 zF n10 c10 B10 m10 d10) 1 0 rfl HS.b0 rfl rfl aYp aYn ?_
  refine Da (a0p s10 zF n10 c10 B10 m10 d10) 2 0 rfl HS.b0 rfl rfl aYp aYn ?_
  refine JR.any [3,9] (by kernel_rfl) rfl ?_
  refine ai.call rfl rfl rfl aYG (xu HT HB HS (HS.at_ 0 rfl) (HS.at_ 0 rfl) (by omega)) rfl (fun aGk aGZ afW => ?_) ?_
  ·skip
   obtain ⟨Fb,Ep,EW,Ez,Eu,ER,EE,rfl,HS⟩:=afW
   refine ⟨HS.b0,?_⟩
   refine Dv (a0r s10 zF n10 c10 B10 m10 d10 Fb Ep EW Ez Eu ER EE) 4 rfl HS.b0 (fun a ha w=>bZ.run_build (vs:=[(0,(a0p s10 zF n10 c10 B10 m10 d10)),(1,(a0p Fb Ep EW Ez Eu ER EE))]) (by simp only [List.map_cons,List.map_nil,ha.ev (x := .tmp 25) (v:=(a0p s10 zF n10 c10 B10 m10 d10)) rfl,ha.ev (x := .tmp 28) (v:=(a0p Fb Ep EW Ez Eu ER EE)) rfl]) aYr aYt pV rfl) ?_
   refine JR.any [5,9] (by kernel_rfl) rfl ?_
   refine ai.call rfl rfl rfl aZ6 (ae1 (m2:=2) HT HB HS (HS.at_ 1 rfl) (HS.at_ 0 rfl) (by omega) (by decide)) rfl (fun asw asY WX => ?_) ?_
   ·skip
    obtain ⟨AQ,zY,AO,Ae,Ac,AA,Ah,AU,zZ,AP,Af,Ad,AB,Ai,rfl,HS⟩:=WX
    refine ⟨HS.b0,?_⟩
    refine Dv (.tuple #[(a0r AQ zY AO Ae Ac AA Ah AU zZ AP Af Ad AB Ai),.nilIface]) 6 rfl HS.b0 (fun a ha w=>run_move (ha.ev rfl)) ?_
    refine Dv (a0r AQ zY AO Ae Ac AA Ah AU zZ AP Af Ad AB Ai) 7 rfl HS.b0 (fun a ha w=>bK (ha.ev rfl) rfl) ?_
    refine Dv (.nilIface) 8 rfl HS.b0 (fun a ha w=>bK (ha.ev rfl) rfl) ?_
    refine jy (vs:=cO) 9 HS rfl aYt rfl (fun Ku _ HS=>⟨HS.b1,?_⟩)
    refine bF 10 (a0s AQ zY AO Ae Ac AA Ah AU zZ AP Af Ad AB Ai) HS 0 rfl rfl rfl rfl aYo (fun _ HS=>⟨HS.b1,?_⟩)
    refine Dv (.nilIface) 11 rfl HS.b1 (fun a ha w=>run_assign (ha.ev rfl)) ?_
    exact JR.mt (Fb,Ep,EW,Ez,Eu,ER,EE,AQ,zY,AO,Ae,Ac,AA,Ah,AU,zZ,AP,Af,Ad,AB,Ai,Ku) HS
   refine ai.alloc (vs:=cO) HS rfl rfl aYt rfl rfl rfl (fun Ku aG0 HS => ?_) ai.nil
   refine ⟨HS.b1,?_⟩
   refine bJ 5 rfl rfl rfl aZ6 (ae1 (m2:=2) HT HB HS (HS.at_ 1 rfl) (HS.at_ 0 rfl) (by omega) (by decide)) (fun asw asY WX => ?_)
   obtain ⟨AQ,zY,AO,Ae,Ac,AA,Ah,AU,zZ,AP,Af,Ad,AB,Ai,rfl,HS⟩:=WX
   refine ⟨HS.b1,?_⟩
   refine Dv (.tuple #[(a0r AQ zY AO Ae Ac AA Ah AU zZ AP Af Ad AB Ai),.nilIface]) 6 rfl HS.b1 (fun a ha w=>run_move (ha.ev rfl)) ?_
   refine Dv (a0r AQ zY AO Ae Ac AA Ah AU zZ AP Af Ad AB Ai) 7 rfl HS.b1 (fun a ha w=>bK (ha.ev rfl) rfl) ?_
   refine Dv (.nilIface) 8 rfl HS.b1 (fun a ha w=>bK (ha.ev rfl) rfl) ?_
   refine bF 10 (a0s AQ zY AO Ae Ac AA Ah AU zZ AP Af Ad AB Ai) HS 0 rfl rfl rfl rfl aYo (fun _ HS=>⟨HS.b1,?_⟩)
   refine Dv (.nilIface) 11 rfl HS.b1 (fun a ha w=>run_assign (ha.ev rfl)) ?_
   exact JR.mt (Fb,Ep,EW,Ez,Eu,ER,EE,AQ,zY,AO,Ae,Ac,AA,Ah,AU,zZ,AP,Af,Ad,AB,Ai,Ku) HS
  refine ai.alloc (vs:=cO) HS rfl rfl aYt rfl rfl rfl (fun Ku aG0 HS => ?_) ai.nil
  refine ⟨HS.b1,?_⟩
  refine bJ 3 rfl rfl rfl aYG (xu HT HB HS (HS.at_ 0 rfl) (HS.at_ 0 rfl) (by omega)) (fun aGk aGZ afW => ?_)
  obtain ⟨Fb,Ep,EW,Ez,Eu,ER,EE,rfl,HS⟩:=afW
  refine ⟨HS.b1,?_⟩
  refine Dv (a0r s10 zF n10 c10 B10 m10 d10 Fb Ep EW Ez Eu ER EE) 4 rfl HS.b1 (fun a ha w=>bZ.run_build (vs:=[(0,(a0p s10 zF n10 c10 B10 m10 d10)),(1,(a0p Fb Ep EW Ez Eu ER EE))]) (by simp only [List.map_cons,List.map_nil,ha.ev (x := .tmp 25) (v:=(a0p s10 zF n10 c10 B10 m10 d10)) rfl,ha.ev (x := .tmp 28) (v:=(a0p Fb Ep EW Ez Eu ER EE)) rfl]) aYr aYt pV rfl) ?_
  refine bJ 5 rfl rfl rfl aZ6 (ae1 (m2:=2) HT HB HS (HS.at_ 1 rfl) (HS.at_ 0 rfl) (by omega) (by decide)) (fun asw asY WX => ?_)
  obtain ⟨AQ,zY,AO,Ae,Ac,AA,Ah,AU,zZ,AP,Af,Ad,AB,Ai,rfl,HS⟩:=WX
  refine ⟨HS.b1,?_⟩
  refine Dv (.tuple #[(a0r AQ zY AO Ae Ac AA Ah AU zZ AP Af Ad AB Ai),.nilIface]) 6 rfl HS.b1 (fun a ha w=>run_move (ha.ev rfl)) ?_
  refine Dv (a0r AQ zY AO Ae Ac AA Ah AU zZ AP Af Ad AB Ai) 7 rfl HS.b1 (fun a ha w=>bK (ha.ev rfl) rfl) ?_
  refine Dv (.nilIface) 8 rfl HS.b1 (fun a ha w=>bK (ha.ev rfl) rfl) ?_
  refine bF 10 (a0s AQ zY AO Ae Ac AA Ah AU zZ AP Af Ad AB Ai) HS 0 rfl rfl rfl rfl aYo (fun _ HS=>⟨HS.b1,?_⟩)
  refine Dv (.nilIface) 11 rfl HS.b1 (fun a ha w=>run_assign (ha.ev rfl)) ?_
  exact JR.mt (Fb,Ep,EW,Ez,Eu,ER,EE,AQ,zY,AO,Ae,Ac,AA,Ah,AU,zZ,AP,Af,Ad,AB,Ai,Ku) HS
 ·skip
  rintro ⟨Fb,Ep,EW,Ez,Eu,ER,EE,AQ,zY,AO,Ae,Ac,AA,Ah,AU,zZ,AP,Af,Ad,AB,Ai,Ku⟩ aX3 HS
  try dsimp only at HS ⊢
  refine JC.seq ?_
  refine JC.region ?_
  refine Lv (.nilIface) (fun a ha=>run_move (ha.ev rfl)) ?_
  refine Lv (.bool true) (fun a ha=>Fa (ha.ev rfl) rfl aYA) ?_
  refine Lv (.bool true) (fun a ha=>run_move (ha.ev rfl)) ?_
  refine Lg (.nilIface) (fun a ha=>run_move (ha.ev rfl)) ?_
  refine Lg (.bool true) (fun a ha=>Fa (ha.ev rfl) rfl aYA) ?_
  refine Lv (.bool true) (fun a ha=>eY (ha.ev rfl) (ha.ev rfl)) ?_
  refine Lv (.bool true) (fun a ha=>run_move (ha.ev rfl)) ?_
  refine Lg (.nilIface) (fun a ha=>run_move (ha.ev rfl)) ?_
  refine Lg (.bool true) (fun a ha=>Fa (ha.ev rfl) rfl aYA) ?_
  refine Lv (.bool true) (fun a ha=>eY (ha.ev rfl) (ha.ev rfl)) ?_
  refine Lv (.bool true) (fun a ha=>run_move (ha.ev rfl)) ?_
  refine Lg (.nilIface) (fun a ha=>run_move (ha.ev rfl)) ?_
  refine Lg (.bool true) (fun a ha=>Fa (ha.ev rfl) rfl aYA) ?_
  refine Lv (.bool true) (fun a ha=>eY (ha.ev rfl) (ha.ev rfl)) ?_
  refine Lv (.bool true) (fun a ha=>run_move (ha.ev rfl)) ?_
  refine JL.cZ rfl rfl rfl rfl rfl rfl aZI (Yl HT HB HS  (by decide +kernel) (by decide +kernel) (by decide +kernel) (by decide +kernel)) (fun v15 J4 Ip => ?_)
  obtain ⟨aRH,aHH,aP2,aKy,aI7,aOC,aL2,aRI,aHI,aP3,aKz,aI8,aOD,aL3,rfl,HS⟩:=Ip
  refine JL.cZ rfl rfl rfl rfl rfl rfl aZI (Yl HT HB HS  (by decide +kernel) (by decide +kernel) (by decide +kernel) (by decide +kernel)) (fun v16 w16 Iq => ?_)
  obtain ⟨BZ,Bl,BU,BC,Bq,BR,BD,zD,yX,zk,c16b,yZ,zi,zf,rfl,HS⟩:=Iq
  refine JL.cZ rfl rfl rfl rfl rfl rfl aYT (ajV HT HB HS (HS.at_ 2 rfl) (HS.at_ 3 rfl) (HS.at_ 0 rfl) (HS.at_ 1 rfl) (by omega)) (fun v17 LH WZ => ?_)
  obtain ⟨Zt,VT,YQ,Xo,Ws,Yx,XJ,Zu,VU,YR,Xp,Wu,Yy,XK,rfl,HS⟩:=WZ
  refine JL.cZ rfl rfl rfl rfl rfl rfl aZJ (ZQ HT HB HS (HS.at_ 0 rfl) (HS.at_ 1 rfl) (by omega)) (fun v18 QA af2 => ?_)
  obtain ⟨rfl,HS⟩:=af2
  refine Lg (.bool true) (fun a ha=>Zp (ha.ev rfl) (ha.ev rfl) (by decide +kernel)) ?_
  refine Lv (.bool true) (fun a ha=>eY (ha.ev rfl) (ha.ev rfl)) ?_
  refine Lv (.bool true) (fun a ha=>run_move (ha.ev rfl)) ?_
  refine Lg (a0r jS jZ kK kD kz kH kF l7 lK lY lS lN lW lU) (fun a ha=>gU (ha.ev rfl) aYq aYo (HS.box _ (.tail _ (.tail _ (.tail _ (.head _))))) rfl rfl) ?_
  refine JL.cZ rfl rfl rfl rfl rfl rfl aZJ (ZQ HT HB HS (HS.at_ 14 rfl) (HS.at_ 15 rfl) (by omega)) (fun v19 O6 Q7 => ?_)
  obtain ⟨rfl,HS⟩:=Q7
  refine Lg (.bool true) (fun a ha=>Zp (ha.ev rfl) (ha.ev rfl) (by decide +kernel)) ?_
  refine Lv (.bool true) (fun a ha=>eY (ha.ev rfl) (ha.ev rfl)) ?_
  refine Lv (.bool true) (fun a ha=>run_move (ha.ev rfl)) ?_
  refine Lg (a0r Dj Ce n7a CP Cm Dc CV Dk Cf n7b CQ B7b Df CW) (fun a ha=>gU (ha.ev rfl) aYq aYo (HS.box _ (.tail _ (.tail _ (.head _)))) rfl rfl) ?_
  refine JL.cZ rfl rfl rfl rfl rfl rfl aZJ (ZQ HT HB HS (HS.at_ 10 rfl) (HS.at_ 11 rfl) (by omega)) (fun v20 O7 MX => ?_)
  obtain ⟨rfl,HS⟩:=MX
  refine Lg (.bool true) (fun a ha=>Zp (ha.ev rfl) (ha.ev rfl) (by decide +kernel)) ?_
  refine Lv (.bool true) (fun a ha=>eY (ha.ev rfl) (ha.ev rfl)) ?_
  refine Lv (.bool true) (fun a ha=>run_move (ha.ev rfl)) ?_
  refine Lg (a0r AQ zY AO Ae Ac AA Ah AU zZ AP Af Ad AB Ai) (fun a ha=>gU (ha.ev rfl) aYq aYo (HS.box _ (.head _)) rfl rfl) ?_
  refine JL.cZ rfl rfl rfl rfl rfl rfl aZJ (ZQ HT HB HS (HS.at_ 6 rfl) (HS.at_ 7 rfl) (by omega)) (fun v21 VI af4 => ?_)
  obtain ⟨rfl,HS⟩:=af4
  refine Lg (.bool true) (fun a ha=>Zp (ha.ev rfl) (ha.ev rfl) (by decide +kernel)) ?_
  refine Lv (.bool true) (fun a ha=>eY (ha.ev rfl) (ha.ev rfl)) ?_
  refine Lv (.bool true) (fun a ha=>run_assign (ha.ev rfl)) ?_
  refine jn ?_
  refine JC.ret (fun a ha => ?_)
  repeat (first | refine dh ?_ | refine df ?_)
  refine fG (v := .bool true) ha Tryz.results32 (.tmp rfl) ⟨_,rfl,?_⟩
  exact ⟨rfl,HS.gy 4 20 rfl rfl⟩
end
end Go.Proofs.YtbihljnjaondcaaGreatDoor
namespace Go.Proofs.YtbihljnjaondcaaGreatDoor
open Go Go.ChangeShapes Go.WideShapes Go.ChangeAt Go.RowKit Go.Joins Lw
theorem axB:Tryz.prog.cellsOf 48=6:=by kernel_rfl
theorem axk {α:Type} {cs:Array α} (h:cs.size=6) : ∃ a b c d e f,cs = #[a,b,c,d,e,f]:=by
 obtain ⟨l⟩:=cs
 match l,h with
 | [a,b,c,d,e,f],_=>exact ⟨a,b,c,d,e,f,rfl⟩
theorem aqz {H:Type} {enc:TypeId×Value→H} {W:World} {m:Nat} {c0 c1 c2:Value} {y:DataW H×List MemPlace}
  (h:DataW.trod enc Tryz.prog W 0 (fun _=>true) true m 24 [c0,c1,c2]=some y) :
  ∃ s A n c B m c' k q b,c0 = .bool s∧c1 = .slice A n c∧c2 = .slice B m c'∧fJ W ⟨(a0p s A n c B m c'),q,k,b⟩:=by
 obtain ⟨y0,y1,y2,n,_,_,h0,h1,h2⟩:=Deep.trod_struct3 Tryz.underlying24 h
 obtain ⟨s,e0,_⟩:=DataW.trod_bool aYU (show DataW.trod enc Tryz.prog W 0 (fun _=>true) true n 4 [c0]=some y0 from h0)
 injection e0 with e0
 obtain ⟨A,n1,c,l,rfl,a1,a2,a3⟩:=afj (show DataW.trod enc Tryz.prog W 0 (fun _=>true) true n 22 [c1]=some y1 from h1)
 obtain ⟨B,m1,c',l',rfl,g1,g2,g3⟩:=afj (show DataW.trod enc Tryz.prog W 0 (fun _=>true) true n 22 [c2]=some y2 from h2)
 subst e0
 exact ⟨s,A,n1,c,B,m1,c',max n1 m1,qv s l l',fV s l l',rfl,rfl,rfl,s,A,n1,c,B,m1,c',l,l',rfl,a1,g1,a2,g2,Nat.le_max_left _ _,Nat.le_max_right _ _,a3,g3,rfl,rfl⟩
theorem Hl {H:Type} {enc:TypeId×Value→H} {W:World} {base:Nat} {v:Value} {d:DataW H} {p:List MemPlace}
  (hv:Value.okWide Tryz.prog W .any base 48 v) (h:DataW.Trod enc Tryz.prog W 0 (fun _=>true) true 48 v d p) :
  ∃ s A n c B m e k q b s' A' n' c' B' m' e' k' q' b',v=(a0r s A n c B m e s' A' n' c' B' m' e')∧fJ W ⟨(a0p s A n c B m e),q,k,b⟩∧fJ W ⟨(a0p s' A' n' c' B' m' e'),q',k',b'⟩:=by
 obtain ⟨cs,rfl,hsz⟩:=okWide_struct Tryz.underlying48 hv
 obtain ⟨c0,c1,c2,c3,c4,c5,rfl⟩:=axk (hsz.trans axB)
 obtain ⟨fuel,hf⟩:=h
 obtain ⟨y0,y1,n,_,_,h0,h1⟩:=trod_struct2 Tryz.underlying48 hf
 rw [al4] at h0 h1
 obtain ⟨s,A,n1,c,B,m,e,k,q,b,rfl,rfl,rfl,f1⟩:=aqz (show DataW.trod enc Tryz.prog W 0 (fun _=>true) true n 24 [c0,c1,c2]=some y0 from h0)
 obtain ⟨s',A',n1',c',B',m',e',k',q',b',rfl,rfl,rfl,f2⟩:=aqz (show DataW.trod enc Tryz.prog W 0 (fun _=>true) true n 24 [c3,c4,c5]=some y1 from h1)
 exact ⟨s,A,n1,c,B,m,e,k,q,b,s',A',n1',c',B',m',e',k',q',b',rfl,f1,f2⟩
end Go.Proofs.YtbihljnjaondcaaGreatDoor
