/- Part of a proof, said shortly. -/
import Derived.Test.YtbihljnjaondcaaGreatDoorAlz
import Derived.Test.YtbihljnjaondcaaGreatDoorC22
import Derived.Test.YtbihljnjaondcaaGreatDoorS21
import Derived.Test.YtbihljnjaondcaaGreatDoorC21
import Derived.Test.YtbihljnjaondcaaGreatDoorC20
import Derived.Test.YtbihljnjaondcaaGreatDoorS7
import Derived.Test.YtbihljnjaondcaaGreatDoorS4
import Derived.Test.YtbihljnjaondcaaGreatDoorS5
import Derived.Test.YtbihljnjaondcaaGreatDoorS6
import Derived.Test.YtbihljnjaondcaaGreatDoorS11
import Derived.Test.YtbihljnjaondcaaGreatDoorS20
import Derived.Test.YtbihljnjaondcaaGreatDoorC15
import Derived.Test.YtbihljnjaondcaaGreatDoorS1
import Derived.Test.YtbihljnjaondcaaGreatDoorC16
import Derived.Test.YtbihljnjaondcaaGreatDoorC14
import Derived.Test.YtbihljnjaondcaaGreatDoorC13
import Derived.Test.YtbihljnjaondcaaGreatDoorC12
import Derived.Test.YtbihljnjaondcaaGreatDoorC11
import Derived.Test.YtbihljnjaondcaaGreatDoorC10
import Derived.Test.YtbihljnjaondcaaGreatDoorC6
import Derived.Test.YtbihljnjaondcaaGreatDoorC2
import Derived.Test.YtbihljnjaondcaaGreatDoorC1
import Derived.Test.YtbihljnjaondcaaGreatDoorC5
import Derived.Test.YtbihljnjaondcaaGreatDoorC4
import Derived.Test.YtbihljnjaondcaaGreatDoorC3
import Derived.Test.YtbihljnjaondcaaGreatDoorC9
import Derived.Test.YtbihljnjaondcaaGreatDoorC8
import Derived.Test.YtbihljnjaondcaaGreatDoorC7
import Derived.Test.YtbihljnjaondcaaGreatDoorC19
import Derived.Test.YtbihljnjaondcaaGreatDoorC18
import Derived.Test.YtbihljnjaondcaaGreatDoorC17
set_option maxRecDepth 100000
open Go.Proofs.YtbihljnjaondcaaGreatDoor (a0p a0q a0r a0s yw bU fO cO PS iy1 PT FX iy4 iy5 iy6 Yo iy8 iy9 aAJ)
set_option linter.unusedVariables false
set_option linter.unusedSimpArgs false
namespace Go.Proofs.YtbihljnjaondcaaGreatDoor
open Go Go.RowKit Lw bZ
section
variable {W0 w:World} {U:List Box} {Ps:List (World→Prop)}
variable {ax:Bool} {ay:Option Addr} {aj c1a:Nat} {az:Option Addr} {ak aA:Nat} {aB:Bool} {aC:Option Addr} {n1b aG:Nat} {aF:Option Addr} {au aH:Nat}
theorem ahF:false=rs (Rat.divInt 1 2)∧rn (Rat.divInt 1 2)=[1]∧rd (Rat.divInt 1 2)=[2]:=by decide +kernel
set_option maxHeartbeats 400000 in
theorem asL (HT:Tz W0) (HB:Tab W0) {af:Rat} {bC:Nat} {bu:Bool} {ah:Rat} {bD:Nat} {bn:Bool} (HS:St W0 U Ps w) (f1a:FV (a0p ax ay aj c1a az ak aA) af bC bu w) (bI:FV (a0p aB aC n1b aG aF au aH) ah bD bn w) (hk:bC+bD≤900):bY Tryz.prog 48 [(a0r ax ay aj c1a az ak aA aB aC n1b aG aF au aH)] w (xY W0 U Ps (((bV bu bn af ah)+(bW bu bn af ah))*Rat.divInt 1 2) ((bC+bD)+(bC+bD)+8)):=by
 have HS:=HS.add (FV.stable _ _ _ _) f1a
 have HS:=HS.add (FV.stable _ _ _ _) bI
 clear f1a bI
 refine iL Tryz.func48 rfl Tryz.ntmps48 rfl ?_
 refine JC.seq ?_
 refine JC.region ?_
 refine JL.box (vs:=(a0s ax ay aj c1a az ak aA aB aC n1b aG aF au aH)) HS rfl rfl rfl rfl (fun g1 w1 HS => ?_)
 refine JL.alloc (vs:=bU) HS rfl aYs rfl rfl (fun g2 w2 HS => ?_)
 refine jn ?_
 refine JC.seq ?_
 refine JC.region ?_
 refine JL.load (a0r ax ay aj c1a az ak aA aB aC n1b aG aF au aH) HS 1 rfl rfl rfl aYq aYo rfl rfl ?_
 refine JL.call rfl rfl aYz (sO HT HB HS (HS.at_ 1 rfl) (HS.at_ 0 rfl) (by omega)) (fun v3 w3 HR3 => ?_)
 obtain ⟨jS,jZ,kK,kD,kz,kH,kF,l7,lK,lY,lS,lN,lW,lU,rfl,HS⟩:=HR3
 refine JL.store HS rfl rfl (i:=1) rfl aYo rfl rfl rfl (vs':=(a0s jS jZ kK kD kz kH kF l7 lK lY lS lN lW lU)) rfl rfl (fun w4 HS => ?_)
 refine jn ?_
 refine JC.seq ?_
 refine JC.region ?_
 refine JL.words (ps:=[(0,.int .u32 1)]) (ns:=[1]) HS rfl (fun a ha=>by simp only [List.map_cons,List.map_nil,ha.ev (x := .const (.int .u32 1)) (v := .int .u32 1) rfl]) aYS aZA aZB rfl rfl (by kernel_rfl) ((Cb.2 ⟨by decide,Bj⟩)) rfl (fun g5 w5 HS => ?_)
 refine JL.words (ps:=[(0,.int .u32 2)]) (ns:=[2]) HS rfl (fun a ha=>by simp only [List.map_cons,List.map_nil,ha.ev (x := .const (.int .u32 2)) (v := .int .u32 2) rfl]) aYS aZA aZB rfl rfl (by kernel_rfl) ((Cb.2 ⟨by decide,Bj⟩)) rfl (fun g6 w6 HS => ?_)
 refine Lv (.agg #[.bool false,.slice (some ⟨g5,0,none⟩) 1 1,.slice (some ⟨g6,0,none⟩) 1 1]) (fun a ha=>bZ.run_build (vs:=[(1,.slice (some ⟨g5,0,none⟩) 1 1),(2,.slice (some ⟨g6,0,none⟩) 1 1)]) (by simp only [List.map_cons,List.map_nil,ha.ev (x := .tmp 6) (v := .slice (some ⟨g5,0,none⟩) 1 1) rfl,ha.ev (x := .tmp 7) (v := .slice (some ⟨g6,0,none⟩) 1 1) rfl]) aYx aYs Dh rfl) ?_
 refine JL.alloc (vs:=bU) HS rfl aYs rfl rfl (fun g7 w7 HS => ?_)
 refine JL.store HS rfl rfl (i:=0) rfl aYn rfl rfl rfl (vs':=[.bool false,.slice (some ⟨g5,0,none⟩) 1 1,.slice (some ⟨g6,0,none⟩) 1 1]) rfl rfl (fun w8 HS => ?_)
 refine jn ?_
 refine JC.seq ?_
 refine JC.draw HS [7] (by kernel_rfl) (fun w9 HS => ?_)
 refine Dv (.pointer (some ⟨g1,0,none⟩)) 0 rfl HS.b0 (fun a ha w=>bH (ha.ev rfl) aYr rfl aYn rfl rfl) ?_
 refine Da (a0p jS jZ kK kD kz kH kF) 1 2 rfl HS.b0 rfl rfl aYp aYn ?_
 refine Dv (.pointer (some ⟨g1,3,none⟩)) 2 rfl HS.b0 (fun a ha w=>bH (ha.ev rfl) aYr rfl aYn rfl rfl) ?_
 refine Da (a0p l7 lK lY lS lN lW lU) 3 2 rfl HS.b0 rfl rfl aYp aYn ?_
 refine Da (.agg #[.bool false,.slice (some ⟨g5,0,none⟩) 1 1,.slice (some ⟨g6,0,none⟩) 1 1]) 5 0 rfl HS.b0 rfl rfl aYp aYn ?_
 refine bJ 4 rfl rfl rfl aYG (xu HT HB HS (HS.at_ 2 rfl) (HS.at_ 3 rfl) (by omega)) (fun aTh aVC atQ => ?_)
 obtain ⟨aRB,aHD,aPY,aKu,aI4,aOz,aLZ,rfl,HS⟩:=atQ
 refine ⟨HS.b0,?_⟩
 have HS:=HS.add (FV.stable _ _ _ _) (FV.mk (q:=Rat.divInt 1 2) (k:=1) ahF.1 (ahF.2.1 ▸ (HS.at_ 2 rfl)) (ahF.2.2 ▸ (HS.at_ 1 rfl)) (by omega) (by omega))
 refine bJ 6 rfl rfl rfl aYv (iQ HT HB HS (HS.at_ 1 rfl) (HS.at_ 0 rfl) (by omega)) (fun aTi aVD atT => ?_)
 obtain ⟨arw,akr,ao6,alH,akK,aoD,amb,rfl,HS⟩:=atT
 refine ⟨HS.b0,?_⟩
 refine bF 7 (a0q arw akr ao6 alH akK aoD amb) HS 1 rfl rfl rfl rfl aYn (fun _ HS=>⟨(eX (s:=7) rfl rfl),?_⟩)
 refine JR.next (by kernel_rfl) (fun _ _ h=>h) ?_
 refine JC.ret (fun a ha => ?_)
 repeat (first | refine dh ?_ | refine df ?_)
 refine fG (v:=(a0p arw akr ao6 alH akK aoD amb)) ha Tryz.results48 (.agg rfl aYp aYn (HS.box _ (.tail _ (.head _))) rfl rfl) ⟨_,rfl,?_⟩
 exact ⟨_,_,_,_,_,_,_,rfl,HS.out 3 9 0 rfl rfl rfl (fun _ h=>h.as rfl (by omega))⟩
end
end Go.Proofs.YtbihljnjaondcaaGreatDoor
