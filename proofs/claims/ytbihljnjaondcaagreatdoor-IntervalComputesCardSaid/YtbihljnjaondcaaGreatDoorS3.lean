/- Part of a proof, said shortly. -/
import Derived.Test.YtbihljnjaondcaaGreatDoorAlz
import Derived.Test.YtbihljnjaondcaaGreatDoorC25
import Derived.Test.YtbihljnjaondcaaGreatDoorC22
import Derived.Test.YtbihljnjaondcaaGreatDoorC21
import Derived.Test.YtbihljnjaondcaaGreatDoorC20
import Derived.Test.YtbihljnjaondcaaGreatDoorC15
import Derived.Test.YtbihljnjaondcaaGreatDoorC16
import Derived.Test.YtbihljnjaondcaaGreatDoorC14
import Derived.Test.YtbihljnjaondcaaGreatDoorC13
import Derived.Test.YtbihljnjaondcaaGreatDoorC12
import Derived.Test.YtbihljnjaondcaaGreatDoorC11
import Derived.Test.YtbihljnjaondcaaGreatDoorC10
import Derived.Test.YtbihljnjaondcaaGreatDoorC6
import Derived.Test.YtbihljnjaondcaaGreatDoorC2
import Derived.Test.YtbihljnjaondcaaGreatDoorC1
import Derived.Test.YtbihljnjaondcaaGreatDoorC5
import Derived.Test.YtbihljnjaondcaaGreatDoorC4
import Derived.Test.YtbihljnjaondcaaGreatDoorC3
import Derived.Test.YtbihljnjaondcaaGreatDoorC9
import Derived.Test.YtbihljnjaondcaaGreatDoorC8
import Derived.Test.YtbihljnjaondcaaGreatDoorC7
import Derived.Test.YtbihljnjaondcaaGreatDoorC19
import Derived.Test.YtbihljnjaondcaaGreatDoorC18
import Derived.Test.YtbihljnjaondcaaGreatDoorC17
import Derived.Test.YtbihljnjaondcaaGreatDoorC23
import Derived.Test.YtbihljnjaondcaaGreatDoorC24
set_option maxRecDepth 100000
open Go.Proofs.YtbihljnjaondcaaGreatDoor (a0p a0q a0r a0s yw bU fO cO PS iy1 PT FX iy4 iy5 iy6 Yo iy8 iy9 aAJ)
set_option linter.unusedVariables false
set_option linter.unusedSimpArgs false
namespace Go.Proofs.YtbihljnjaondcaaGreatDoor
open Go Go.RowKit Lw bZ
section
variable {W0 w:World} {U:List Box} {Ps:List (World→Prop)}
variable {ax:Bool} {ay:Option Addr} {aj c1a:Nat} {az:Option Addr} {ak aA:Nat} {aB:Bool} {aC:Option Addr} {n1b aG:Nat} {aF:Option Addr} {au aH:Nat} {aP:Bool} {aQ:Option Addr} {aK aS:Nat} {aU:Option Addr} {aN aY:Nat} {aV:Bool} {aW:Option Addr} {aO aX:Nat} {aZ:Option Addr} {aT bf:Nat}
set_option maxHeartbeats 400000 in
theorem Ym (HT:Tz W0) (HB:Tab W0) {g:Nat} (HS:St W0 (⟨g,48,[.bool ax,.slice ay aj c1a,.slice az ak aA,.bool aB,.slice aC n1b aG,.slice aF au aH,.bool aP,.slice aQ aK aS,.slice aU aN aY,.bool aV,.slice aW aO aX,.slice aZ aT bf]⟩ :: U) Ps w):bY Tryz.prog 31 [.slice (some ⟨g,0,none⟩) 2 2] w (iP W0 (⟨g,48,[.bool ax,.slice ay aj c1a,.slice az ak aA,.bool aB,.slice aC n1b aG,.slice aF au aH,.bool aP,.slice aQ aK aS,.slice aU aN aY,.bool aV,.slice aW aO aX,.slice aZ aT bf]⟩ :: U) Ps (.bool (decide (aj≤8∧ak≤8∧n1b≤8∧au≤8∧aK≤8∧aN≤8∧aO≤8∧aT≤8)))):=by
 refine iL Tryz.func31 rfl Tryz.ntmps31 rfl ?_
 refine JC.seq ?_
 refine JC.region ?_
 refine Lv (.bool false) (fun a ha=>run_assign (ha.ev rfl)) ?_
 refine jn ?_
 refine JC.seq ?_
 refine JC.seq ?_
 refine JC.region ?_
 refine Lv (.slice (some ⟨g,0,none⟩) 2 2) (fun a ha=>run_move (ha.ev rfl)) ?_
 refine Lv (.int .i64 2) (fun a ha=>yV (ha.ev rfl) aY0) ?_
 refine Lv (.int .i64 0) (fun a ha=>run_move (ha.ev rfl)) ?_
 refine jn ?_
 refine JC.block ?_
 refine JC.Qr 40 ?_
 refine JC.seq ?_
 refine JC.region ?_
 refine Lv (.bool true) (fun a ha=>qX (ha.ev rfl) (ha.ev rfl) (by decide)) ?_
 refine jn ?_
 refine JC.seq ?_
 refine JC.iy rfl ?_
 refine JC.jF (fun _ _ h=>h) ?_
 refine JC.seq ?_
 refine JC.block ?_
 refine JC.seq ?_
 refine JC.region ?_
 refine Lv (.pointer (some ⟨g,0,none⟩)) (fun a ha=>zC (ha.ev rfl) (ha.ev rfl) aY0 aYo (j:=0) rfl (by decide) rfl) ?_
 refine JL.load (a0r ax ay aj c1a az ak aA aB aC n1b aG aF au aH) HS 0 rfl rfl rfl aYq aYo rfl rfl ?_
 refine JL.alloc (vs:=cO) HS rfl aYt rfl rfl (fun g1 w1 HS => ?_)
 refine JL.store HS rfl rfl (i:=0) rfl aYo rfl rfl rfl (vs':=(a0s ax ay aj c1a az ak aA aB aC n1b aG aF au aH)) rfl rfl (fun w2 HS => ?_)
 refine jn ?_
 refine JC.seq ?_
 refine JC.region ?_
 refine Lv (.pointer (some ⟨g1,0,none⟩)) (fun a ha=>bH (ha.ev rfl) aYr rfl aYn rfl rfl) ?_
 refine Lv (.pointer (some ⟨g1,1,none⟩)) (fun a ha=>bH (ha.ev rfl) aYx rfl aYL rfl rfl) ?_
 refine JL.xw (.slice ay aj c1a) HS 0 rfl rfl rfl aYM rfl ?_
 refine Lv (.int .i64 (aj:Int)) (fun a ha=>yV (ha.ev rfl) aYS) ?_
 refine Lv (.bool (decide ((aj:Int) > 8))) (fun a ha=>wH (ha.ev rfl) (ha.ev rfl) rfl) ?_
 cases UN:(decide ((aj:Int) > 8))
 ·skip
  have hd3:=of_decide_eq_false UN
  refine Lv (.bool false) (fun a ha=>run_move (ha.ev rfl)) ?_
  refine Lg (.pointer (some ⟨g1,0,none⟩)) (fun a ha=>bH (ha.ev rfl) aYr rfl aYn rfl rfl) ?_
  refine Lg (.pointer (some ⟨g1,2,none⟩)) (fun a ha=>bH (ha.ev rfl) aYx rfl aYL rfl rfl) ?_
  refine Lg (.slice az ak aA) (fun a ha=>Ef (ha.ev rfl) aYM (HS.box _ (.head _)) rfl) ?_
  refine Lg (.int .i64 (ak:Int)) (fun a ha=>yV (ha.ev rfl) aYS) ?_
  refine Lg (.bool (decide ((ak:Int) > 8))) (fun a ha=>wH (ha.ev rfl) (ha.ev rfl) rfl) ?_
  refine Lv (.bool (decide ((ak:Int) > 8))) (fun a ha=>gB (ha.ev rfl) (ha.ev rfl)) ?_
  cases GR:(decide ((ak:Int) > 8))
  ·skip
   have hd4:=of_decide_eq_false GR
   refine Lv (.bool false) (fun a ha=>run_move (ha.ev rfl)) ?_
   refine Lg (.pointer (some ⟨g1,3,none⟩)) (fun a ha=>bH (ha.ev rfl) aYr rfl aYn rfl rfl) ?_
   refine Lg (.pointer (some ⟨g1,4,none⟩)) (fun a ha=>bH (ha.ev rfl) aYx rfl aYL rfl rfl) ?_
   refine Lg (.slice aC n1b aG) (fun a ha=>Ef (ha.ev rfl) aYM (HS.box _ (.head _)) rfl) ?_
   refine Lg (.int .i64 (n1b:Int)) (fun a ha=>yV (ha.ev rfl) aYS) ?_
   refine Lg (.bool (decide ((n1b:Int) > 8))) (fun a ha=>wH (ha.ev rfl) (ha.ev rfl) rfl) ?_
   refine Lv (.bool (decide ((n1b:Int) > 8))) (fun a ha=>gB (ha.ev rfl) (ha.ev rfl)) ?_
   cases Ap:(decide ((n1b:Int) > 8))
   ·skip
    have hd5:=of_decide_eq_false Ap
    refine Lv (.bool false) (fun a ha=>run_move (ha.ev rfl)) ?_
    refine Lg (.pointer (some ⟨g1,3,none⟩)) (fun a ha=>bH (ha.ev rfl) aYr rfl aYn rfl rfl) ?_
    refine Lg (.pointer (some ⟨g1,5,none⟩)) (fun a ha=>bH (ha.ev rfl) aYx rfl aYL rfl rfl) ?_
    refine Lg (.slice aF au aH) (fun a ha=>Ef (ha.ev rfl) aYM (HS.box _ (.head _)) rfl) ?_
    refine Lg (.int .i64 (au:Int)) (fun a ha=>yV (ha.ev rfl) aYS) ?_
    refine Lg (.bool (decide ((au:Int) > 8))) (fun a ha=>wH (ha.ev rfl) (ha.ev rfl) rfl) ?_
    refine Lv (.bool (decide ((au:Int) > 8))) (fun a ha=>gB (ha.ev rfl) (ha.ev rfl)) ?_
    refine jn ?_
    cases EN:(decide ((au:Int) > 8))
    ·skip
     have hd6:=of_decide_eq_false EN
     refine JC.jA rfl ?_
     refine JC.Vy (fun _ _ h=>h) ?_
     refine JC.region ?_
     refine Lv (.int .i64 1) (fun a ha=>BX (ha.ev rfl) (ha.ev rfl) (by decide)) ?_
     refine Lv (.int .i64 1) (fun a ha=>run_move (ha.ev rfl)) ?_
     refine JL.again 39 (fun _ _ h=>h) ?_
     refine JC.seq ?_
     refine JC.region ?_
     refine Lv (.bool true) (fun a ha=>qX (ha.ev rfl) (ha.ev rfl) (by decide)) ?_
     refine jn ?_
     refine JC.seq ?_
     refine JC.iy rfl ?_
     refine JC.jF (fun _ _ h=>h) ?_
     refine JC.seq ?_
     refine JC.block ?_
     refine JC.seq ?_
     refine JC.region ?_
     refine Lv (.pointer (some ⟨g,6,none⟩)) (fun a ha=>zC (ha.ev rfl) (ha.ev rfl) aY0 aYo (j:=1) rfl (by decide) rfl) ?_
     refine JL.load (a0r aP aQ aK aS aU aN aY aV aW aO aX aZ aT bf) HS 1 rfl rfl rfl aYq aYo rfl rfl ?_
     refine JL.alloc (vs:=cO) HS rfl aYt rfl rfl (fun g7 w7 HS => ?_)
     refine JL.store HS rfl rfl (i:=0) rfl aYo rfl rfl rfl (vs':=(a0s aP aQ aK aS aU aN aY aV aW aO aX aZ aT bf)) rfl rfl (fun w8 HS => ?_)
     refine jn ?_
     refine JC.seq ?_
     refine JC.region ?_
     refine Lv (.pointer (some ⟨g7,0,none⟩)) (fun a ha=>bH (ha.ev rfl) aYr rfl aYn rfl rfl) ?_
     refine Lv (.pointer (some ⟨g7,1,none⟩)) (fun a ha=>bH (ha.ev rfl) aYx rfl aYL rfl rfl) ?_
     refine JL.xw (.slice aQ aK aS) HS 0 rfl rfl rfl aYM rfl ?_
     refine Lv (.int .i64 (aK:Int)) (fun a ha=>yV (ha.ev rfl) aYS) ?_
     refine Lv (.bool (decide ((aK:Int) > 8))) (fun a ha=>wH (ha.ev rfl) (ha.ev rfl) rfl) ?_
     cases KJ:(decide ((aK:Int) > 8))
     ·skip
      have hd9:=of_decide_eq_false KJ
      refine Lv (.bool false) (fun a ha=>run_move (ha.ev rfl)) ?_
      refine Lg (.pointer (some ⟨g7,0,none⟩)) (fun a ha=>bH (ha.ev rfl) aYr rfl aYn rfl rfl) ?_
      refine Lg (.pointer (some ⟨g7,2,none⟩)) (fun a ha=>bH (ha.ev rfl) aYx rfl aYL rfl rfl) ?_
      refine Lg (.slice aU aN aY) (fun a ha=>Ef (ha.ev rfl) aYM (HS.box _ (.head _)) rfl) ?_
      refine Lg (.int .i64 (aN:Int)) (fun a ha=>yV (ha.ev rfl) aYS) ?_
      refine Lg (.bool (decide ((aN:Int) > 8))) (fun a ha=>wH (ha.ev rfl) (ha.ev rfl) rfl) ?_
      refine Lv (.bool (decide ((aN:Int) > 8))) (fun a ha=>gB (ha.ev rfl) (ha.ev rfl)) ?_
      cases acR:(decide ((aN:Int) > 8))
      ·skip
       have hd10:=of_decide_eq_false acR
       refine Lv (.bool false) (fun a ha=>run_move (ha.ev rfl)) ?_
       refine Lg (.pointer (some ⟨g7,3,none⟩)) (fun a ha=>bH (ha.ev rfl) aYr rfl aYn rfl rfl) ?_
       refine Lg (.pointer (some ⟨g7,4,none⟩)) (fun a ha=>bH (ha.ev rfl) aYx rfl aYL rfl rfl) ?_
       refine Lg (.slice aW aO aX) (fun a ha=>Ef (ha.ev rfl) aYM (HS.box _ (.head _)) rfl) ?_
       refine Lg (.int .i64 (aO:Int)) (fun a ha=>yV (ha.ev rfl) aYS) ?_
       refine Lg (.bool (decide ((aO:Int) > 8))) (fun a ha=>wH (ha.ev rfl) (ha.ev rfl) rfl) ?_
       refine Lv (.bool (decide ((aO:Int) > 8))) (fun a ha=>gB (ha.ev rfl) (ha.ev rfl)) ?_
       cases acS:(decide ((aO:Int) > 8))
       ·skip
        have hd11:=of_decide_eq_false acS
        refine Lv (.bool false) (fun a ha=>run_move (ha.ev rfl)) ?_
        refine Lg (.pointer (some ⟨g7,3,none⟩)) (fun a ha=>bH (ha.ev rfl) aYr rfl aYn rfl rfl) ?_
        refine Lg (.pointer (some ⟨g7,5,none⟩)) (fun a ha=>bH (ha.ev rfl) aYx rfl aYL rfl rfl) ?_
        refine Lg (.slice aZ aT bf) (fun a ha=>Ef (ha.ev rfl) aYM (HS.box _ (.head _)) rfl) ?_
        refine Lg (.int .i64 (aT:Int)) (fun a ha=>yV (ha.ev rfl) aYS) ?_
        refine Lg (.bool (decide ((aT:Int) > 8))) (fun a ha=>wH (ha.ev rfl) (ha.ev rfl) rfl) ?_
        refine Lv (.bool (decide ((aT:Int) > 8))) (fun a ha=>gB (ha.ev rfl) (ha.ev rfl)) ?_
        refine jn ?_
        cases Sj:(decide ((aT:Int) > 8))
        ·skip
         have azD:=of_decide_eq_false Sj
         refine JC.jA rfl ?_
         refine JC.Vy (fun _ _ h=>h) ?_
         refine JC.region ?_
         refine Lv (.int .i64 2) (fun a ha=>BX (ha.ev rfl) (ha.ev rfl) (by decide)) ?_
         refine Lv (.int .i64 2) (fun a ha=>run_move (ha.ev rfl)) ?_
         refine JL.again 38 (fun _ _ h=>h) ?_
         refine JC.seq ?_
         refine JC.region ?_
         refine Lv (.bool false) (fun a ha=>qX (ha.ev rfl) (ha.ev rfl) (by decide)) ?_
         refine jn ?_
         refine JC.seq ?_
         refine JC.jA rfl ?_
         refine JC.exit (fun _ _ h=>h) (fun _ _ h=>h) ?_
         refine JC.seq ?_
         refine JC.region ?_
         refine Lv (.bool true) (fun a ha=>run_assign (ha.ev rfl)) ?_
         refine jn ?_
         refine JC.ret (fun a ha => ?_)
         repeat (first | refine dh ?_ | refine df ?_)
         refine fG (v := .bool true) ha Tryz.results31 (.tmp rfl) ⟨_,rfl,?_⟩
         exact ⟨(congrArg Value.bool (decide_eq_true (by omega)).symm),HS.gy 2 0 rfl rfl⟩
        ·skip
         have azD:=of_decide_eq_true Sj
         refine JC.iy rfl ?_
         refine JC.seq ?_
         refine JC.region ?_
         refine Lv (.bool false) (fun a ha=>run_assign (ha.ev rfl)) ?_
         refine jn ?_
         refine JC.ret (fun a ha => ?_)
         repeat (first | refine dh ?_ | refine df ?_)
         refine fG (v := .bool false) ha Tryz.results31 (.tmp rfl) ⟨_,rfl,?_⟩
         exact ⟨(congrArg Value.bool (decide_eq_false (by omega)).symm),HS.gy 2 0 rfl rfl⟩
       ·skip
        have hd11:=of_decide_eq_true acS
        refine Lv (.bool true) (fun a ha=>run_move (ha.ev rfl)) ?_
        refine Lp ?_
        refine Lp ?_
        refine Lp ?_
        refine Lp ?_
        refine Lp ?_
        refine Lv (.bool true) (fun a ha=>eY (ha.ev rfl) (ha.ev rfl)) ?_
        refine jn ?_
        refine JC.iy rfl ?_
        refine JC.seq ?_
        refine JC.region ?_
        refine Lv (.bool false) (fun a ha=>run_assign (ha.ev rfl)) ?_
        refine jn ?_
        refine JC.ret (fun a ha => ?_)
        repeat (first | refine dh ?_ | refine df ?_)
        refine fG (v := .bool false) ha Tryz.results31 (.tmp rfl) ⟨_,rfl,?_⟩
        exact ⟨(congrArg Value.bool (decide_eq_false (by omega)).symm),HS.gy 2 0 rfl rfl⟩
      ·skip
       have hd10:=of_decide_eq_true acR
       refine Lv (.bool true) (fun a ha=>run_move (ha.ev rfl)) ?_
       refine Lp ?_
       refine Lp ?_
       refine Lp ?_
       refine Lp ?_
       refine Lp ?_
       refine Lv (.bool true) (fun a ha=>eY (ha.ev rfl) (ha.ev rfl)) ?_
       refine Lv (.bool true) (fun a ha=>run_move (ha.ev rfl)) ?_
       refine Lp ?_
       refine Lp ?_
       refine Lp ?_
       refine Lp ?_
       refine Lp ?_
       refine Lv (.bool true) (fun a ha=>eY (ha.ev rfl) (ha.ev rfl)) ?_
       refine jn ?_
       refine JC.iy rfl ?_
       refine JC.seq ?_
       refine JC.region ?_
       refine Lv (.bool false) (fun a ha=>run_assign (ha.ev rfl)) ?_
       refine jn ?_
       refine JC.ret (fun a ha => ?_)
       repeat (first | refine dh ?_ | refine df ?_)
       refine fG (v := .bool false) ha Tryz.results31 (.tmp rfl) ⟨_,rfl,?_⟩
       exact ⟨(congrArg Value.bool (decide_eq_false (by omega)).symm),HS.gy 2 0 rfl rfl⟩
     ·skip
      have hd9:=of_decide_eq_true KJ
      refine Lv (.bool true) (fun a ha=>run_move (ha.ev rfl)) ?_
      refine Lp ?_
      refine Lp ?_
      refine Lp ?_
      refine Lp ?_
      refine Lp ?_
      refine Lv (.bool true) (fun a ha=>eY (ha.ev rfl) (ha.ev rfl)) ?_
      refine Lv (.bool true) (fun a ha=>run_move (ha.ev rfl)) ?_
      refine Lp ?_
      refine Lp ?_
      refine Lp ?_
      refine Lp ?_
      refine Lp ?_
      refine Lv (.bool true) (fun a ha=>eY (ha.ev rfl) (ha.ev rfl)) ?_
      refine Lv (.bool true) (fun a ha=>run_move (ha.ev rfl)) ?_
      refine Lp ?_
      refine Lp ?_
      refine Lp ?_
      refine Lp ?_
      refine Lp ?_
      refine Lv (.bool true) (fun a ha=>eY (ha.ev rfl) (ha.ev rfl)) ?_
      refine jn ?_
      refine JC.iy rfl ?_
      refine JC.seq ?_
      refine JC.region ?_
      refine Lv (.bool false) (fun a ha=>run_assign (ha.ev rfl)) ?_
      refine jn ?_
      refine JC.ret (fun a ha => ?_)
      repeat (first | refine dh ?_ | refine df ?_)
      refine fG (v := .bool false) ha Tryz.results31 (.tmp rfl) ⟨_,rfl,?_⟩
      exact ⟨(congrArg Value.bool (decide_eq_false (by omega)).symm),HS.gy 2 0 rfl rfl⟩
    ·skip
     have hd6:=of_decide_eq_true EN
     refine JC.iy rfl ?_
     refine JC.seq ?_
     refine JC.region ?_
     refine Lv (.bool false) (fun a ha=>run_assign (ha.ev rfl)) ?_
     refine jn ?_
     refine JC.ret (fun a ha => ?_)
     repeat (first | refine dh ?_ | refine df ?_)
     refine fG (v := .bool false) ha Tryz.results31 (.tmp rfl) ⟨_,rfl,?_⟩
     exact ⟨(congrArg Value.bool (decide_eq_false (by omega)).symm),HS.gy 1 0 rfl rfl⟩
   ·skip
    have hd5:=of_decide_eq_true Ap
    refine Lv (.bool true) (fun a ha=>run_move (ha.ev rfl)) ?_
    refine Lp ?_
    refine Lp ?_
    refine Lp ?_
    refine Lp ?_
    refine Lp ?_
    refine Lv (.bool true) (fun a ha=>eY (ha.ev rfl) (ha.ev rfl)) ?_
    refine jn ?_
    refine JC.iy rfl ?_
    refine JC.seq ?_
    refine JC.region ?_
    refine Lv (.bool false) (fun a ha=>run_assign (ha.ev rfl)) ?_
    refine jn ?_
    refine JC.ret (fun a ha => ?_)
    repeat (first | refine dh ?_ | refine df ?_)
    refine fG (v := .bool false) ha Tryz.results31 (.tmp rfl) ⟨_,rfl,?_⟩
    exact ⟨(congrArg Value.bool (decide_eq_false (by omega)).symm),HS.gy 1 0 rfl rfl⟩
  ·skip
   have hd4:=of_decide_eq_true GR
   refine Lv (.bool true) (fun a ha=>run_move (ha.ev rfl)) ?_
   refine Lp ?_
   refine Lp ?_
   refine Lp ?_
   refine Lp ?_
   refine Lp ?_
   refine Lv (.bool true) (fun a ha=>eY (ha.ev rfl) (ha.ev rfl)) ?_
   refine Lv (.bool true) (fun a ha=>run_move (ha.ev rfl)) ?_
   refine Lp ?_
   refine Lp ?_
   refine Lp ?_
   refine Lp ?_
   refine Lp ?_
   refine Lv (.bool true) (fun a ha=>eY (ha.ev rfl) (ha.ev rfl)) ?_
   refine jn ?_
   refine JC.iy rfl ?_
   refine JC.seq ?_
   refine JC.region ?_
   refine Lv (.bool false) (fun a ha=>run_assign (ha.ev rfl)) ?_
   refine jn ?_
   refine JC.ret (fun a ha => ?_)
   repeat (first | refine dh ?_ | refine df ?_)
   refine fG (v := .bool false) ha Tryz.results31 (.tmp rfl) ⟨_,rfl,?_⟩
   exact ⟨(congrArg Value.bool (decide_eq_false (by omega)).symm),HS.gy 1 0 rfl rfl⟩
 ·skip
  have hd3:=of_decide_eq_true UN
  refine Lv (.bool true) (fun a ha=>run_move (ha.ev rfl)) ?_
  refine Lp ?_
  refine Lp ?_
  refine Lp ?_
  refine Lp ?_
  refine Lp ?_
  refine Lv (.bool true) (fun a ha=>eY (ha.ev rfl) (ha.ev rfl)) ?_
  refine Lv (.bool true) (fun a ha=>run_move (ha.ev rfl)) ?_
  refine Lp ?_
  refine Lp ?_
  refine Lp ?_
  refine Lp ?_
  refine Lp ?_
  refine Lv (.bool true) (fun a ha=>eY (ha.ev rfl) (ha.ev rfl)) ?_
  refine Lv (.bool true) (fun a ha=>run_move (ha.ev rfl)) ?_
  refine Lp ?_
  refine Lp ?_
  refine Lp ?_
  refine Lp ?_
  refine Lp ?_
  refine Lv (.bool true) (fun a ha=>eY (ha.ev rfl) (ha.ev rfl)) ?_
  refine jn ?_
  refine JC.iy rfl ?_
  refine JC.seq ?_
  refine JC.region ?_
  refine Lv (.bool false) (fun a ha=>run_assign (ha.ev rfl)) ?_
  refine jn ?_
  refine JC.ret (fun a ha => ?_)
  repeat (first | refine dh ?_ | refine df ?_)
  refine fG (v := .bool false) ha Tryz.results31 (.tmp rfl) ⟨_,rfl,?_⟩
  exact ⟨(congrArg Value.bool (decide_eq_false (by omega)).symm),HS.gy 1 0 rfl rfl⟩
end
end Go.Proofs.YtbihljnjaondcaaGreatDoor
