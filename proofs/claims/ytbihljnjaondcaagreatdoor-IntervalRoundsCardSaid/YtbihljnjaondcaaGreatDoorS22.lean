/- Part of a proof, said shortly. -/
import Derived.Test.YtbihljnjaondcaaGreatDoorAlz
import Derived.Test.YtbihljnjaondcaaGreatDoorC21
import Derived.Test.YtbihljnjaondcaaGreatDoorS13
import Derived.Test.YtbihljnjaondcaaGreatDoorC20
import Derived.Test.YtbihljnjaondcaaGreatDoorC15
import Derived.Test.YtbihljnjaondcaaGreatDoorS1
import Derived.Test.YtbihljnjaondcaaGreatDoorC16
import Derived.Test.YtbihljnjaondcaaGreatDoorC14
import Derived.Test.YtbihljnjaondcaaGreatDoorC13
import Derived.Test.YtbihljnjaondcaaGreatDoorC12
import Derived.Test.YtbihljnjaondcaaGreatDoorC11
import Derived.Test.YtbihljnjaondcaaGreatDoorC10
import Derived.Test.YtbihljnjaondcaaGreatDoorC6
import Derived.Test.YtbihljnjaondcaaGreatDoorC2
import Derived.Test.YtbihljnjaondcaaGreatDoorC1
import Derived.Test.YtbihljnjaondcaaGreatDoorC5
import Derived.Test.YtbihljnjaondcaaGreatDoorC4
import Derived.Test.YtbihljnjaondcaaGreatDoorC3
import Derived.Test.YtbihljnjaondcaaGreatDoorC9
import Derived.Test.YtbihljnjaondcaaGreatDoorC8
import Derived.Test.YtbihljnjaondcaaGreatDoorC7
import Derived.Test.YtbihljnjaondcaaGreatDoorC19
import Derived.Test.YtbihljnjaondcaaGreatDoorC18
import Derived.Test.YtbihljnjaondcaaGreatDoorC17
import Derived.Test.YtbihljnjaondcaaGreatDoorC24
import Derived.Test.YtbihljnjaondcaaGreatDoorC22
set_option maxRecDepth 100000
open Go.Proofs.YtbihljnjaondcaaGreatDoor (a0p a0q a0r a0s yw bU fO cO PS iy1 PT FX iy4 iy5 iy6 Yo iy8 iy9 aAJ)
set_option linter.unusedVariables false
set_option linter.unusedSimpArgs false
namespace Lw
open Go Go.RowKit bZ
theorem FV.aFJ {s:Bool} {A B:Option Addr} {n c m d k:Nat} {q:Rat} {w:World} (h:FV (a0p s A n c B m d) q k true w) (hq:q < 0):s=true:=h.neg.trans (E8.2 hq)
end Lw
namespace Go.Proofs.YtbihljnjaondcaaGreatDoor
open Go Go.RowKit Lw bZ
section
variable {W0 w:World} {U:List Box} {Ps:List (World→Prop)}
variable {ax:Bool} {ay:Option Addr} {aj c1a:Nat} {az:Option Addr} {ak aA:Nat} {aB:Bool} {aC:Option Addr} {n1b aG:Nat} {aF:Option Addr} {au aH:Nat}
set_option maxHeartbeats 400000 in
theorem ajX (HT:Tz W0) (HB:Tab W0) {m2:Nat} {af:Rat} {bC:Nat} {bu:Bool} {ah:Rat} {bD:Nat} {bn:Bool} (HS:St W0 U Ps w) (f1a:FV (a0p ax ay aj c1a az ak aA) af bC bu w) (bI:FV (a0p aB aC n1b aG aF au aH) ah bD bn w) (hk:bC+bD≤900) (hm:m2≤256) (hc:(bV bu bn af ah) < 0):bY Tryz.prog 67 [(a0r ax ay aj c1a az ak aA aB aC n1b aG aF au aH),.int .i64 (m2:Int)] w (iP W0 U Ps (.tuple #[fO,.iface 74 (.int .i64 3)])):=by
 have HS:=HS.add (FV.stable _ _ _ _) f1a
 have HS:=HS.add (FV.stable _ _ _ _) bI
 clear f1a bI
 refine iL aZ3 rfl aZ4 rfl ?_
 refine JC.seq ?_
 refine JC.region ?_
 refine JL.box (vs:=(a0s ax ay aj c1a az ak aA aB aC n1b aG aF au aH)) HS rfl rfl rfl rfl (fun g1 w1 HS => ?_)
 refine JL.alloc (vs:=cO) HS rfl aYt rfl rfl (fun g2 w2 HS => ?_)
 refine Lv (.nilIface) (fun a ha=>run_assign (ha.ev rfl)) ?_
 refine jn ?_
 refine JC.seq ?_
 refine JC.seq ?_
 refine JC.region ?_
 refine Lv (.int .i64 (m2:Int)) (fun a ha=>run_move (ha.ev rfl)) ?_
 refine Lv (.bool false) (fun a ha=>qX (ha.ev rfl) (ha.ev rfl) (decide_eq_false (by omega))) ?_
 refine Lv (.bool false) (fun a ha=>run_move (ha.ev rfl)) ?_
 refine Lg (.int .i64 (m2:Int)) (fun a ha=>run_move (ha.ev rfl)) ?_
 refine Lg (.bool false) (fun a ha=>wH (ha.ev rfl) (ha.ev rfl) (decide_eq_false (by omega))) ?_
 refine Lv (.bool false) (fun a ha=>gB (ha.ev rfl) (ha.ev rfl)) ?_
 refine jn ?_
 refine JC.jA rfl ?_
 refine JC.jF (fun _ _ h=>h) ?_
 refine JC.seq ?_
 refine JC.region ?_
 refine JL.load (a0r ax ay aj c1a az ak aA aB aC n1b aG aF au aH) HS 1 rfl rfl rfl aYq aYo rfl rfl ?_
 refine JL.call rfl rfl aYz (sO HT HB HS (HS.at_ 1 rfl) (HS.at_ 0 rfl) (by omega)) (fun v3 w3 HR3 => ?_)
 obtain ⟨jS,jZ,kK,kD,kz,kH,kF,l7,lK,lY,lS,lN,lW,lU,rfl,HS⟩:=HR3
 refine JL.store HS rfl rfl (i:=1) rfl aYo rfl rfl rfl (vs':=(a0s jS jZ kK kD kz kH kF l7 lK lY lS lN lW lU)) rfl rfl (fun w4 HS => ?_)
 refine jn ?_
 refine JC.seq ?_
 refine JC.seq ?_
 refine JC.region ?_
 refine Lv (.pointer (some ⟨g1,0,none⟩)) (fun a ha=>bH (ha.ev rfl) aYr rfl aYn rfl rfl) ?_
 refine Lv (.pointer (some ⟨g1,0,none⟩)) (fun a ha=>bH (ha.ev rfl) aYx rfl aYK rfl rfl) ?_
 refine JL.xw (.bool jS) HS 1 rfl rfl rfl aYJ rfl ?_
 refine jn ?_
 obtain rfl:jS=true:=FV.aFJ (HS.at_ 0 rfl) hc
 refine JC.iy rfl ?_
 refine JC.seq ?_
 refine JC.region ?_
 refine Lv fO (fun a ha=>bZ.run_build (vs:=[]) (by simp only [List.map_cons,List.map_nil]) aYr aYt pV rfl) ?_
 refine Lv (.iface 74 (.int .i64 3)) (fun a ha=>OH (ha.ev rfl) (by kernel_rfl)) ?_
 refine JL.store HS rfl rfl (i:=0) rfl aYo rfl rfl rfl (vs':=cO) rfl rfl (fun w5 HS => ?_)
 refine Lv (.iface 74 (.int .i64 3)) (fun a ha=>run_assign (ha.ev rfl)) ?_
 refine jn ?_
 refine JC.ret (fun a ha => ?_)
 repeat (first | refine dh ?_ | refine df ?_)
 refine vI (v:=fO) (v' := .iface 74 (.int .i64 3)) ha Tryz.results67 (.agg rfl aYq aYo (HS.box _ (.head _)) rfl rfl) (.tmp rfl) ⟨_,rfl,?_⟩
 exact ⟨rfl,HS.gy 2 4 rfl rfl⟩
end
end Go.Proofs.YtbihljnjaondcaaGreatDoor
