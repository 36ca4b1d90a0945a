/- Part of a proof, said shortly. -/
import Derived.Test.YtbihljnjaondcaaGreatDoorAlz
import Derived.Test.YtbihljnjaondcaaGreatDoorC22
import Derived.Test.YtbihljnjaondcaaGreatDoorC21
import Derived.Test.YtbihljnjaondcaaGreatDoorC20
import Derived.Test.YtbihljnjaondcaaGreatDoorS7
import Derived.Test.YtbihljnjaondcaaGreatDoorS4
import Derived.Test.YtbihljnjaondcaaGreatDoorS6
import Derived.Test.YtbihljnjaondcaaGreatDoorC15
import Derived.Test.YtbihljnjaondcaaGreatDoorS1
import Derived.Test.YtbihljnjaondcaaGreatDoorC16
import Derived.Test.YtbihljnjaondcaaGreatDoorC14
import Derived.Test.YtbihljnjaondcaaGreatDoorC13
import Derived.Test.YtbihljnjaondcaaGreatDoorC12
import Derived.Test.YtbihljnjaondcaaGreatDoorC11
import Derived.Test.YtbihljnjaondcaaGreatDoorC10
import Derived.Test.YtbihljnjaondcaaGreatDoorC6
import Derived.Test.YtbihljnjaondcaaGreatDoorC2
import Derived.Test.YtbihljnjaondcaaGreatDoorC1
import Derived.Test.YtbihljnjaondcaaGreatDoorC5
import Derived.Test.YtbihljnjaondcaaGreatDoorC4
import Derived.Test.YtbihljnjaondcaaGreatDoorC3
import Derived.Test.YtbihljnjaondcaaGreatDoorC9
import Derived.Test.YtbihljnjaondcaaGreatDoorC8
import Derived.Test.YtbihljnjaondcaaGreatDoorC7
import Derived.Test.YtbihljnjaondcaaGreatDoorC19
import Derived.Test.YtbihljnjaondcaaGreatDoorC18
import Derived.Test.YtbihljnjaondcaaGreatDoorC17
set_option maxRecDepth 100000
open Go.Proofs.YtbihljnjaondcaaGreatDoor (a0p a0q a0r a0s yw bU fO cO PS iy1 PT FX iy4 iy5 iy6 Yo iy8 iy9 aAJ)
set_option linter.unusedVariables false
set_option linter.unusedSimpArgs false
namespace Go.Proofs.YtbihljnjaondcaaGreatDoor
open Go Go.RowKit Lw bZ
section
variable {W0 w:World} {U:List Box} {Ps:List (World→Prop)}
variable {ax:Bool} {ay:Option Addr} {aj c1a:Nat} {az:Option Addr} {ak aA:Nat} {aB:Bool} {aC:Option Addr} {n1b aG:Nat} {aF:Option Addr} {au aH:Nat} {s2:Bool} {A2:Option Addr} {n2 c2:Nat} {B2:Option Addr} {m2 d2:Nat}
set_option maxHeartbeats 400000 in
theorem aeZ (HT:Tz W0) (HB:Tab W0) {af:Rat} {bC:Nat} {bu:Bool} {ah:Rat} {bD:Nat} {bn:Bool} {q2:Rat} {k2:Nat} {b2:Bool} (HS:St W0 U Ps w) (f1a:FV (a0p ax ay aj c1a az ak aA) af bC bu w) (bI:FV (a0p aB aC n1b aG aF au aH) ah bD bn w) (f2:FV (a0p s2 A2 n2 c2 B2 m2 d2) q2 k2 b2 w) (hk:bC+bD+k2≤1000):bY Tryz.prog 42 [(a0r ax ay aj c1a az ak aA aB aC n1b aG aF au aH),(a0p s2 A2 n2 c2 B2 m2 d2)] w (iP W0 U Ps (.bool (decide ((bV bu bn af ah)≤q2)&&decide (q2≤(bW bu bn af ah))))):=by
 have HS:=HS.add (FV.stable _ _ _ _) f1a
 have HS:=HS.add (FV.stable _ _ _ _) bI
 have HS:=HS.add (FV.stable _ _ _ _) f2
 clear f1a bI f2
 refine iL Tryz.func42 rfl Tryz.ntmps42 rfl ?_
 refine JC.seq ?_
 refine JC.region ?_
 refine JL.box (vs:=(a0s ax ay aj c1a az ak aA aB aC n1b aG aF au aH)) HS rfl rfl rfl rfl (fun g1 w1 HS => ?_)
 refine JL.box (vs:=(a0q s2 A2 n2 c2 B2 m2 d2)) HS rfl rfl rfl rfl (fun g2 w2 HS => ?_)
 refine Lv (.bool false) (fun a ha=>run_assign (ha.ev rfl)) ?_
 refine jn ?_
 refine JC.seq ?_
 refine JC.region ?_
 refine JL.load (a0r ax ay aj c1a az ak aA aB aC n1b aG aF au aH) HS 1 rfl rfl rfl aYq aYo rfl rfl ?_
 refine JL.call rfl rfl aYz (sO HT HB HS (HS.at_ 2 rfl) (HS.at_ 1 rfl) (by omega)) (fun v3 w3 HR3 => ?_)
 obtain ⟨jS,jZ,kK,kD,kz,kH,kF,l7,lK,lY,lS,lN,lW,lU,rfl,HS⟩:=HR3
 refine JL.store HS rfl rfl (i:=1) rfl aYo rfl rfl rfl (vs':=(a0s jS jZ kK kD kz kH kF l7 lK lY lS lN lW lU)) rfl rfl (fun w4 HS => ?_)
 refine jn ?_
 refine JC.seq ?_
 refine JC.region ?_
 refine Lv (.pointer (some ⟨g1,0,none⟩)) (fun a ha=>bH (ha.ev rfl) aYr rfl aYn rfl rfl) ?_
 refine JL.load (a0p jS jZ kK kD kz kH kF) HS 1 rfl rfl rfl aYp aYn rfl rfl ?_
 refine JL.load (a0p s2 A2 n2 c2 B2 m2 d2) HS 0 rfl rfl rfl aYp aYn rfl rfl ?_
 refine JL.call rfl rfl aYD (vJ HT HB HS (HS.at_ 0 rfl) (HS.at_ 2 rfl) (by omega)) (fun v5 w5 vk => ?_)
 obtain ⟨rfl,HS⟩:=vk
 refine Lv (.bool (decide ((bV bu bn af ah)≤q2))) (fun a ha=>Qh (ha.ev rfl) (ha.ev rfl) (Ru _ _)) ?_
 cases EN:((decide ((bV bu bn af ah)≤q2)))
 ·skip
  refine Lv (.bool false) (fun a ha=>run_move (ha.ev rfl)) ?_
  refine Lp ?_
  refine Lp ?_
  refine Lp ?_
  refine Lp ?_
  refine Lp ?_
  refine Lv (.bool false) (fun a ha=>gB (ha.ev rfl) (ha.ev rfl)) ?_
  refine Lv (.bool false) (fun a ha=>run_assign (ha.ev rfl)) ?_
  refine jn ?_
  refine JC.ret (fun a ha => ?_)
  repeat (first | refine dh ?_ | refine df ?_)
  refine fG (v := .bool false) ha Tryz.results42 (.tmp rfl) ⟨_,rfl,?_⟩
  exact ⟨rfl,HS.gy 2 5 rfl rfl⟩
 ·skip
  refine Lv (.bool true) (fun a ha=>run_move (ha.ev rfl)) ?_
  refine Lg (a0p s2 A2 n2 c2 B2 m2 d2) (fun a ha=>gU (ha.ev rfl) aYp aYn (HS.box _ (.head _)) rfl rfl) ?_
  refine Lg (.pointer (some ⟨g1,3,none⟩)) (fun a ha=>bH (ha.ev rfl) aYr rfl aYn rfl rfl) ?_
  refine Lg (a0p l7 lK lY lS lN lW lU) (fun a ha=>gU (ha.ev rfl) aYp aYn (HS.box _ (.tail _ (.head _))) rfl rfl) ?_
  refine JL.cZ rfl rfl rfl rfl rfl rfl aYD (vJ HT HB HS (HS.at_ 2 rfl) (HS.at_ 1 rfl) (by omega)) (fun v7 w7 wM => ?_)
  obtain ⟨rfl,HS⟩:=wM
  refine Lg (.bool (decide (q2≤(bW bu bn af ah)))) (fun a ha=>Qh (ha.ev rfl) (ha.ev rfl) (Ru _ _)) ?_
  refine Lv (.bool (decide (q2≤(bW bu bn af ah)))) (fun a ha=>eY (ha.ev rfl) (ha.ev rfl)) ?_
  refine Lv (.bool (decide (q2≤(bW bu bn af ah)))) (fun a ha=>run_assign (ha.ev rfl)) ?_
  refine jn ?_
  refine JC.ret (fun a ha => ?_)
  repeat (first | refine dh ?_ | refine df ?_)
  refine fG (v := .bool (decide (q2≤(bW bu bn af ah)))) ha Tryz.results42 (.tmp rfl) ⟨_,rfl,?_⟩
  exact ⟨rfl,HS.gy 2 5 rfl rfl⟩
end
end Go.Proofs.YtbihljnjaondcaaGreatDoor
