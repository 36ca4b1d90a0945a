/- Part of a proof, said shortly. -/
import Derived.Test.YtbihljnjaondcaaGreatDoorAlz
import Derived.Test.YtbihljnjaondcaaGreatDoorC21
import Derived.Test.YtbihljnjaondcaaGreatDoorC20
import Derived.Test.YtbihljnjaondcaaGreatDoorC15
import Derived.Test.YtbihljnjaondcaaGreatDoorC16
import Derived.Test.YtbihljnjaondcaaGreatDoorC14
import Derived.Test.YtbihljnjaondcaaGreatDoorC13
import Derived.Test.YtbihljnjaondcaaGreatDoorC12
import Derived.Test.YtbihljnjaondcaaGreatDoorC11
import Derived.Test.YtbihljnjaondcaaGreatDoorC10
import Derived.Test.YtbihljnjaondcaaGreatDoorC6
import Derived.Test.YtbihljnjaondcaaGreatDoorC2
import Derived.Test.YtbihljnjaondcaaGreatDoorC1
import Derived.Test.YtbihljnjaondcaaGreatDoorC5
import Derived.Test.YtbihljnjaondcaaGreatDoorC4
import Derived.Test.YtbihljnjaondcaaGreatDoorC3
import Derived.Test.YtbihljnjaondcaaGreatDoorC9
import Derived.Test.YtbihljnjaondcaaGreatDoorC8
import Derived.Test.YtbihljnjaondcaaGreatDoorC7
import Derived.Test.YtbihljnjaondcaaGreatDoorC19
import Derived.Test.YtbihljnjaondcaaGreatDoorC18
import Derived.Test.YtbihljnjaondcaaGreatDoorC17
set_option maxRecDepth 100000
open Go.Proofs.YtbihljnjaondcaaGreatDoor (a0p a0q a0r a0s yw bU fO cO PS iy1 PT FX iy4 iy5 iy6 Yo iy8 iy9 aAJ)
set_option linter.unusedVariables false
set_option linter.unusedSimpArgs false
namespace Go.Proofs.YtbihljnjaondcaaGreatDoor
open Go Go.RowKit Lw bZ
section
variable {W0 w:World} {U:List Box} {Ps:List (World→Prop)}
variable {s1:Bool} {A1:Option Addr} {n1 c1:Nat} {B1:Option Addr} {m1 d1:Nat} {ax:Bool} {ay:Option Addr} {aj c1a:Nat} {az:Option Addr} {ak aA:Nat} {aB:Bool} {aC:Option Addr} {n1b aG:Nat} {aF:Option Addr} {au aH:Nat} {s2:Bool} {A2:Option Addr} {n2 c2:Nat} {B2:Option Addr} {m2 d2:Nat}
theorem aAh (n:Nat):(((n:Int))==0)=decide (n=0):=by
 by_cases h:n=0
 ·subst h; rfl
 ·rw [decide_eq_false h]; simp; omega
set_option maxHeartbeats 400000 in
theorem Qy (HT:Tz W0) (HB:Tab W0) {q1:Rat} {k1:Nat} {b1:Bool} (HS:St W0 U Ps w) (f1:FV (a0p s1 A1 n1 c1 B1 m1 d1) q1 k1 b1 w):bY Tryz.prog 126 [(a0p s1 A1 n1 c1 B1 m1 d1)] w (iP W0 U Ps (.bool (decide (n1=0)))):=by
 have HS:=HS.add (FV.stable _ _ _ _) f1
 clear f1
 refine iL Tryz.func126 rfl Tryz.ntmps126 rfl ?_
 refine JC.seq ?_
 refine JC.region ?_
 refine JL.box (vs:=(a0q s1 A1 n1 c1 B1 m1 d1)) HS rfl rfl rfl rfl (fun g1 w1 HS => ?_)
 refine Lv (.bool false) (fun a ha=>run_assign (ha.ev rfl)) ?_
 refine jn ?_
 refine JC.seq ?_
 refine JC.region ?_
 refine Lv (.pointer (some ⟨g1,1,none⟩)) (fun a ha=>bH (ha.ev rfl) aYx rfl aYL rfl rfl) ?_
 refine JL.xw (.slice A1 n1 c1) HS 0 rfl rfl rfl aYM rfl ?_
 refine Lv (.int .i64 (n1:Int)) (fun a ha=>yV (ha.ev rfl) aYS) ?_
 refine Lv (.bool (decide (n1=0))) (fun a ha=>rC (ha.ev rfl) (ha.ev rfl) (aAh _)) ?_
 refine Lv (.bool (decide (n1=0))) (fun a ha=>run_assign (ha.ev rfl)) ?_
 refine jn ?_
 refine JC.ret (fun a ha => ?_)
 repeat (first | refine dh ?_ | refine df ?_)
 refine fG (v := .bool (decide (n1=0))) ha Tryz.results126 (.tmp rfl) ⟨_,rfl,?_⟩
 exact ⟨rfl,HS.gy 1 1 rfl rfl⟩
set_option maxHeartbeats 400000 in
theorem TQ (HT:Tz W0) (HB:Tab W0) {q1:Rat} {k1:Nat} {q2:Rat} {k2:Nat} (HS:St W0 U Ps w) (f1:FV (a0p s1 A1 n1 c1 B1 m1 d1) q1 k1 true w) (f2:FV (a0p s2 A2 n2 c2 B2 m2 d2) q2 k2 true w) (hk:k1+k2≤40000):bY Tryz.prog 129 [(a0p s1 A1 n1 c1 B1 m1 d1),(a0p s2 A2 n2 c2 B2 m2 d2)] w (iP W0 U Ps (.bool (decide (q1≤q2)))):=by
 have HS:=HS.add (FV.stable _ _ _ _) f1
 have HS:=HS.add (FV.stable _ _ _ _) f2
 clear f1 f2
 have hn1:=FV.neg (HS.at_ 1 rfl)
 have hz1:=FV.nz (HS.at_ 1 rfl)
 have hl1:=FV.lens (HS.at_ 1 rfl)
 have hn2:=FV.neg (HS.at_ 0 rfl)
 have hz2:=FV.nz (HS.at_ 0 rfl)
 have hl2:=FV.lens (HS.at_ 0 rfl)
 refine iL Tryz.func129 rfl Tryz.ntmps129 rfl ?_
 refine JC.seq ?_
 refine JC.region ?_
 refine JL.box (vs:=(a0q s1 A1 n1 c1 B1 m1 d1)) HS rfl rfl rfl rfl (fun g1 w1 HS => ?_)
 refine JL.box (vs:=(a0q s2 A2 n2 c2 B2 m2 d2)) HS rfl rfl rfl rfl (fun g2 w2 HS => ?_)
 refine Lv (.bool false) (fun a ha=>run_assign (ha.ev rfl)) ?_
 refine jn ?_
 refine JC.seq ?_
 refine JC.block ?_
 refine JC.seq ?_
 refine JC.region ?_
 refine Lv (.pointer (some ⟨g1,0,none⟩)) (fun a ha=>bH (ha.ev rfl) aYx rfl aYK rfl rfl) ?_
 refine JL.xw (.bool s1) HS 1 rfl rfl rfl aYJ rfl ?_
 refine Lv (.pointer (some ⟨g2,0,none⟩)) (fun a ha=>bH (ha.ev rfl) aYx rfl aYK rfl rfl) ?_
 refine JL.xw (.bool s2) HS 0 rfl rfl rfl aYJ rfl ?_
 refine Lv (.bool (s1 != s2)) (fun a ha=>TC (ha.ev rfl) (ha.ev rfl) aY1 rfl) ?_
 refine Lv (.bool (s1 != s2)) (fun a ha=>run_assign (ha.ev rfl)) ?_
 refine jn ?_
 cases UN:((s1 != s2))
 ·skip
  refine JC.jA rfl ?_
  refine JC.seq ?_
  refine JC.region ?_
  refine JL.load (a0p s1 A1 n1 c1 B1 m1 d1) HS 1 rfl rfl rfl aYp aYn rfl rfl ?_
  refine JL.call rfl rfl aZc (Qy HT HB HS (HS.at_ 1 rfl) ) (fun v4 w4 HR4 => ?_)
  obtain ⟨rfl,HS⟩:=HR4
  cases Ap:((decide (n1=0)))
  ·skip
   have hq1:q1≠0:=fun e=>absurd (hz1.2 e) (of_decide_eq_false Ap)
   refine Lv (.bool false) (fun a ha=>run_move (ha.ev rfl)) ?_
   refine Lg (a0p s2 A2 n2 c2 B2 m2 d2) (fun a ha=>gU (ha.ev rfl) aYp aYn (HS.box _ (.head _)) rfl rfl) ?_
   refine JL.cZ rfl rfl rfl rfl rfl rfl aZc (Qy HT HB HS (HS.at_ 0 rfl) ) (fun v6 w6 uk => ?_)
   obtain ⟨rfl,HS⟩:=uk
   refine Lv (.bool (decide (n2=0))) (fun a ha=>gB (ha.ev rfl) (ha.ev rfl)) ?_
   refine Lv (.bool (decide (n2=0))) (fun a ha=>run_assign (ha.ev rfl)) ?_
   refine jn ?_
   cases PR:((decide (n2=0)))
   ·skip
    have hq2:q2≠0:=fun e=>absurd (hz2.2 e) (of_decide_eq_false PR)
    refine JC.jA rfl ?_
    refine JC.Vy (fun _ _ h=>h) ?_
    refine JC.seq ?_
    refine JC.region ?_
    refine Lv (.pointer (some ⟨g1,0,none⟩)) (fun a ha=>bH (ha.ev rfl) aYx rfl aYK rfl rfl) ?_
    refine JL.xw (.bool s1) HS 1 rfl rfl rfl aYJ rfl ?_
    refine Lv (.pointer (some ⟨g1,1,none⟩)) (fun a ha=>bH (ha.ev rfl) aYx rfl aYL rfl rfl) ?_
    refine JL.xw (.slice A1 n1 c1) HS 1 rfl rfl rfl aYM rfl ?_
    refine Lv (.agg #[.bool s1,.slice A1 n1 c1]) (fun a ha=>bZ.run_build (vs:=[(0,.bool s1),(1,.slice A1 n1 c1)]) (by simp only [List.map_cons,List.map_nil,ha.ev (x := .tmp 25) (v := .bool s1) rfl,ha.ev (x := .tmp 27) (v := .slice A1 n1 c1) rfl]) aZZ aYw adX rfl) ?_
    refine Lv (.pointer (some ⟨g2,2,none⟩)) (fun a ha=>bH (ha.ev rfl) aYx rfl aYL rfl rfl) ?_
    refine JL.xw (.slice B2 m2 d2) HS 0 rfl rfl rfl aYM rfl ?_
    refine Lv (.agg #[.bool false,.slice B2 m2 d2]) (fun a ha=>bZ.run_build (vs:=[(1,.slice B2 m2 d2)]) (by simp only [List.map_cons,List.map_nil,ha.ev (x := .tmp 30) (v := .slice B2 m2 d2) rfl]) aZZ aYw adX rfl) ?_
    have HS:=HS.pO 1 rfl (fun _ h=>h.apw)
    have HS:=HS.pO 1 rfl (fun _ h=>h.amw hq2)
    refine JL.call rfl rfl aYP (Aw HT HB HS (HS.at_ 1 rfl) (HS.at_ 0 rfl) (by omega)) (fun v8 w8 CJ => ?_)
    obtain ⟨s8,A8,n8,c8,rfl,HS⟩:=CJ
    refine JL.alloc (vs:=[.bool false,.slice none 0 0]) HS rfl aYw rfl rfl (fun g9 w9 HS => ?_)
    refine JL.store HS rfl rfl (i:=0) rfl aYu rfl rfl rfl (vs':=[.bool s8,.slice A8 n8 c8]) rfl rfl (fun w10 HS => ?_)
    refine jn ?_
    refine JC.seq ?_
    refine JC.region ?_
    refine Lv (.pointer (some ⟨g2,0,none⟩)) (fun a ha=>bH (ha.ev rfl) aYx rfl aYK rfl rfl) ?_
    refine JL.xw (.bool s2) HS 1 rfl rfl rfl aYJ rfl ?_
    refine Lv (.pointer (some ⟨g2,1,none⟩)) (fun a ha=>bH (ha.ev rfl) aYx rfl aYL rfl rfl) ?_
    refine JL.xw (.slice A2 n2 c2) HS 1 rfl rfl rfl aYM rfl ?_
    refine Lv (.agg #[.bool s2,.slice A2 n2 c2]) (fun a ha=>bZ.run_build (vs:=[(0,.bool s2),(1,.slice A2 n2 c2)]) (by simp only [List.map_cons,List.map_nil,ha.ev (x := .tmp 34) (v := .bool s2) rfl,ha.ev (x := .tmp 36) (v := .slice A2 n2 c2) rfl]) aZZ aYw adX rfl) ?_
    refine Lv (.pointer (some ⟨g1,2,none⟩)) (fun a ha=>bH (ha.ev rfl) aYx rfl aYL rfl rfl) ?_
    refine JL.xw (.slice B1 m1 d1) HS 2 rfl rfl rfl aYM rfl ?_
    refine Lv (.agg #[.bool false,.slice B1 m1 d1]) (fun a ha=>bZ.run_build (vs:=[(1,.slice B1 m1 d1)]) (by simp only [List.map_cons,List.map_nil,ha.ev (x := .tmp 39) (v := .slice B1 m1 d1) rfl]) aZZ aYw adX rfl) ?_
    have HS:=HS.pO 3 rfl (fun _ h=>h.apw)
    have HS:=HS.pO 5 rfl (fun _ h=>h.amw hq1)
    refine JL.call rfl rfl aYP (Aw HT HB HS (HS.at_ 1 rfl) (HS.at_ 0 rfl) (by omega)) (fun v11 Dp DV => ?_)
    obtain ⟨s11,xE,n11,c11,rfl,HS⟩:=DV
    refine JL.alloc (vs:=[.bool false,.slice none 0 0]) HS rfl aYw rfl rfl (fun g12 w12 HS => ?_)
    refine JL.store HS rfl rfl (i:=0) rfl aYu rfl rfl rfl (vs':=[.bool s11,.slice xE n11 c11]) rfl rfl (fun Gl HS => ?_)
    refine jn ?_
    refine JC.seq ?_
    refine JC.region ?_
    refine JL.load (.agg #[.bool s8,.slice A8 n8 c8]) HS 1 rfl rfl rfl aYy aYu rfl rfl ?_
    refine JL.load (.agg #[.bool s11,.slice xE n11 c11]) HS 0 rfl rfl rfl aYy aYu rfl rfl ?_
    refine JL.call rfl rfl Tryz.call112 (ah7 HT HB HS (HS.at_ 3 rfl) (HS.at_ 0 rfl) (by omega)) (fun v14 JX Io => ?_)
    obtain ⟨rfl,HS⟩:=Io
    refine Lv (.bool (decide ((q1.num*(q2.den:Int))≤(q2.num*(q1.den:Int))))) (fun a ha=>Qh (ha.ev rfl) (ha.ev rfl) (axO _ _)) ?_
    refine Lv (.bool (decide ((q1.num*(q2.den:Int))≤(q2.num*(q1.den:Int))))) (fun a ha=>run_assign (ha.ev rfl)) ?_
    refine jn ?_
    refine JC.ret (fun a ha => ?_)
    repeat (first | refine dh ?_ | refine df ?_)
    refine fG (v := .bool (decide ((q1.num*(q2.den:Int))≤(q2.num*(q1.den:Int))))) ha Tryz.results129 (.tmp rfl) ⟨_,rfl,?_⟩
    exact ⟨(congrArg Value.bool aBM),HS.gy 4 8 rfl rfl⟩
   ·skip
    refine JC.iy rfl ?_
    refine JC.seq ?_
    refine JC.region ?_
    refine JL.load (a0p s1 A1 n1 c1 B1 m1 d1) HS 1 rfl rfl rfl aYp aYn rfl rfl ?_
    refine JL.call rfl rfl aZc (Qy HT HB HS (HS.at_ 1 rfl) ) (fun v15 J4 Ip => ?_)
    obtain ⟨rfl,HS⟩:=Ip
    rw [Ap]
    refine Lv (.bool false) (fun a ha=>run_assign (ha.ev rfl)) ?_
    refine jn ?_
    refine JC.ret (fun a ha => ?_)
    repeat (first | refine dh ?_ | refine df ?_)
    refine fG (v := .bool false) ha Tryz.results129 (.tmp rfl) ⟨_,rfl,?_⟩
    exact ⟨(congrArg Value.bool (aBL hn1 hn2 (by assumption) (fun e=>absurd (hz1.2 e) (of_decide_eq_false (by assumption))) (hz2.1 (of_decide_eq_true (by assumption)))).symm),HS.gy 2 2 rfl rfl⟩
  ·skip
   refine Lv (.bool true) (fun a ha=>run_move (ha.ev rfl)) ?_
   refine Lp ?_
   refine Lp ?_
   refine Lv (.bool true) (fun a ha=>eY (ha.ev rfl) (ha.ev rfl)) ?_
   refine Lv (.bool true) (fun a ha=>run_assign (ha.ev rfl)) ?_
   refine jn ?_
   refine JC.iy rfl ?_
   refine JC.seq ?_
   refine JC.region ?_
   refine JL.load (a0p s1 A1 n1 c1 B1 m1 d1) HS 1 rfl rfl rfl aYp aYn rfl rfl ?_
   refine JL.call rfl rfl aZc (Qy HT HB HS (HS.at_ 1 rfl) ) (fun v16 w16 Iq => ?_)
   obtain ⟨rfl,HS⟩:=Iq
   rw [Ap]
   refine Lv (.bool true) (fun a ha=>run_assign (ha.ev rfl)) ?_
   refine jn ?_
   refine JC.ret (fun a ha => ?_)
   repeat (first | refine dh ?_ | refine df ?_)
   refine fG (v := .bool true) ha Tryz.results129 (.tmp rfl) ⟨_,rfl,?_⟩
   exact ⟨(congrArg Value.bool (aBK hn1 hn2 (by assumption) (hz1.1 (of_decide_eq_true (by assumption)))).symm),HS.gy 2 2 rfl rfl⟩
 ·skip
  refine JC.iy rfl ?_
  refine JC.seq ?_
  refine JC.region ?_
  refine Lv (.pointer (some ⟨g1,0,none⟩)) (fun a ha=>bH (ha.ev rfl) aYx rfl aYK rfl rfl) ?_
  refine JL.xw (.bool s1) HS 1 rfl rfl rfl aYJ rfl ?_
  refine Lv (.bool s1) (fun a ha=>run_assign (ha.ev rfl)) ?_
  refine jn ?_
  refine JC.ret (fun a ha => ?_)
  repeat (first | refine dh ?_ | refine df ?_)
  refine fG (v := .bool s1) ha Tryz.results129 (.tmp rfl) ⟨_,rfl,?_⟩
  exact ⟨(congrArg Value.bool (aBJ hn1 hn2 (by assumption)).symm),HS.gy 2 2 rfl rfl⟩
set_option maxHeartbeats 400000 in
theorem asX (HT:Tz W0) (HB:Tab W0) {af:Rat} {bC:Nat} {bu:Bool} {ah:Rat} {bD:Nat} {bn:Bool} (HS:St W0 U Ps w) (f1a:FV (a0p ax ay aj c1a az ak aA) af bC bu w) (bI:FV (a0p aB aC n1b aG aF au aH) ah bD bn w) (hk:bC+bD≤40000):bY Tryz.prog 38 [(a0r ax ay aj c1a az ak aA aB aC n1b aG aF au aH)] w (iP W0 U Ps (.bool (okR bu bn af ah))):=by
 have HS:=HS.add (FV.stable _ _ _ _) f1a
 have HS:=HS.add (FV.stable _ _ _ _) bI
 clear f1a bI
 refine iL Tryz.func38 rfl Tryz.ntmps38 rfl ?_
 refine JC.seq ?_
 refine JC.region ?_
 refine JL.box (vs:=(a0s ax ay aj c1a az ak aA aB aC n1b aG aF au aH)) HS rfl rfl rfl rfl (fun g1 w1 HS => ?_)
 refine Lv (.bool false) (fun a ha=>run_assign (ha.ev rfl)) ?_
 refine jn ?_
 refine JC.seq ?_
 refine JC.region ?_
 refine Lv (.pointer (some ⟨g1,0,none⟩)) (fun a ha=>bH (ha.ev rfl) aYr rfl aYn rfl rfl) ?_
 refine JL.load (a0p ax ay aj c1a az ak aA) HS 0 rfl rfl rfl aYp aYn rfl rfl ?_
 refine JL.call rfl rfl Tryz.call113 (ahs HT HB HS (HS.at_ 1 rfl) (by omega)) (fun v2 w2 HR2 => ?_)
 obtain ⟨rfl,HS⟩:=HR2
 cases bu
 ·skip
  refine Lv (.bool false) (fun a ha=>run_move (ha.ev rfl)) ?_
  refine Lp ?_
  refine Lp ?_
  refine Lp ?_
  refine Lv (.bool false) (fun a ha=>gB (ha.ev rfl) (ha.ev rfl)) ?_
  refine Lv (.bool false) (fun a ha=>run_move (ha.ev rfl)) ?_
  refine Lp ?_
  refine Lp ?_
  refine Lp ?_
  refine Lp ?_
  refine Lp ?_
  refine Lv (.bool false) (fun a ha=>gB (ha.ev rfl) (ha.ev rfl)) ?_
  refine Lv (.bool false) (fun a ha=>run_assign (ha.ev rfl)) ?_
  refine jn ?_
  refine JC.ret (fun a ha => ?_)
  repeat (first | refine dh ?_ | refine df ?_)
  refine fG (v := .bool false) ha Tryz.results38 (.tmp rfl) ⟨_,rfl,?_⟩
  exact ⟨(by simp [okR]),HS.gy 1 2 rfl rfl⟩
 ·skip
  refine Lv (.bool true) (fun a ha=>run_move (ha.ev rfl)) ?_
  refine Lg (.pointer (some ⟨g1,3,none⟩)) (fun a ha=>bH (ha.ev rfl) aYr rfl aYn rfl rfl) ?_
  refine Lg (a0p aB aC n1b aG aF au aH) (fun a ha=>gU (ha.ev rfl) aYp aYn (HS.box _ (.head _)) rfl rfl) ?_
  refine JL.cZ rfl rfl rfl rfl rfl rfl Tryz.call113 (ahs HT HB HS (HS.at_ 0 rfl) (by omega)) (fun v4 w4 HR4 => ?_)
  obtain ⟨rfl,HS⟩:=HR4
  refine Lv (.bool bn) (fun a ha=>eY (ha.ev rfl) (ha.ev rfl)) ?_
  cases bn
  ·skip
   refine Lv (.bool false) (fun a ha=>run_move (ha.ev rfl)) ?_
   refine Lp ?_
   refine Lp ?_
   refine Lp ?_
   refine Lp ?_
   refine Lp ?_
   refine Lv (.bool false) (fun a ha=>gB (ha.ev rfl) (ha.ev rfl)) ?_
   refine Lv (.bool false) (fun a ha=>run_assign (ha.ev rfl)) ?_
   refine jn ?_
   refine JC.ret (fun a ha => ?_)
   repeat (first | refine dh ?_ | refine df ?_)
   refine fG (v := .bool false) ha Tryz.results38 (.tmp rfl) ⟨_,rfl,?_⟩
   exact ⟨(by simp [okR]),HS.gy 1 2 rfl rfl⟩
  ·skip
   refine Lv (.bool true) (fun a ha=>run_move (ha.ev rfl)) ?_
   refine Lg (.pointer (some ⟨g1,0,none⟩)) (fun a ha=>bH (ha.ev rfl) aYr rfl aYn rfl rfl) ?_
   refine Lg (a0p ax ay aj c1a az ak aA) (fun a ha=>gU (ha.ev rfl) aYp aYn (HS.box _ (.head _)) rfl rfl) ?_
   refine Lg (.pointer (some ⟨g1,3,none⟩)) (fun a ha=>bH (ha.ev rfl) aYr rfl aYn rfl rfl) ?_
   refine Lg (a0p aB aC n1b aG aF au aH) (fun a ha=>gU (ha.ev rfl) aYp aYn (HS.box _ (.head _)) rfl rfl) ?_
   refine JL.cZ rfl rfl rfl rfl rfl rfl aZg (TQ HT HB HS (HS.at_ 1 rfl) (HS.at_ 0 rfl) (by omega)) (fun v6 w6 uk => ?_)
   obtain ⟨rfl,HS⟩:=uk
   refine Lv (.bool (decide (af≤ah))) (fun a ha=>eY (ha.ev rfl) (ha.ev rfl)) ?_
   refine Lv (.bool (decide (af≤ah))) (fun a ha=>run_assign (ha.ev rfl)) ?_
   refine jn ?_
   refine JC.ret (fun a ha => ?_)
   repeat (first | refine dh ?_ | refine df ?_)
   refine fG (v := .bool (decide (af≤ah))) ha Tryz.results38 (.tmp rfl) ⟨_,rfl,?_⟩
   exact ⟨(by simp [okR]),HS.gy 1 2 rfl rfl⟩
set_option maxHeartbeats 400000 in
theorem sO (HT:Tz W0) (HB:Tab W0) {af:Rat} {bC:Nat} {bu:Bool} {ah:Rat} {bD:Nat} {bn:Bool} (HS:St W0 U Ps w) (f1a:FV (a0p ax ay aj c1a az ak aA) af bC bu w) (bI:FV (a0p aB aC n1b aG aF au aH) ah bD bn w) (hk:bC+bD≤40000):bY Tryz.prog 124 [(a0r ax ay aj c1a az ak aA aB aC n1b aG aF au aH)] w (xG W0 U Ps ((bV bu bn af ah)) ((bW bu bn af ah)) (bC+bD)):=by
 have HS:=HS.add (FV.stable _ _ _ _) f1a
 have HS:=HS.add (FV.stable _ _ _ _) bI
 clear f1a bI
 refine iL Tryz.func124 rfl Tryz.ntmps124 rfl ?_
 refine JC.seq ?_
 refine JC.region ?_
 refine JL.box (vs:=(a0s ax ay aj c1a az ak aA aB aC n1b aG aF au aH)) HS rfl rfl rfl rfl (fun g1 w1 HS => ?_)
 refine JL.alloc (vs:=cO) HS rfl aYt rfl rfl (fun g2 w2 HS => ?_)
 refine jn ?_
 refine JC.seq ?_
 refine JC.seq ?_
 refine JC.region ?_
 refine JL.load (a0r ax ay aj c1a az ak aA aB aC n1b aG aF au aH) HS 1 rfl rfl rfl aYq aYo rfl rfl ?_
 refine JL.call rfl rfl Tryz.call38 (asX HT HB HS (HS.at_ 1 rfl) (HS.at_ 0 rfl) (by omega)) (fun v3 w3 HR3 => ?_)
 obtain ⟨rfl,HS⟩:=HR3
 refine Lv (.bool (!(okR bu bn af ah))) (fun a ha=>sU (ha.ev rfl)) ?_
 refine jn ?_
 cases GR:((okR bu bn af ah))
 ·skip
  refine JC.iy rfl ?_
  refine JC.seq ?_
  refine JC.region ?_
  refine Lv fO (fun a ha=>bZ.run_build (vs:=[]) (by simp only [List.map_cons,List.map_nil]) aYr aYt pV rfl) ?_
  refine JL.store HS rfl rfl (i:=0) rfl aYo rfl rfl rfl (vs':=cO) rfl rfl (fun w5 HS => ?_)
  refine jn ?_
  refine JC.ret (fun a ha => ?_)
  repeat (first | refine dh ?_ | refine df ?_)
  refine fG (v:=fO) ha Tryz.results124 (.agg rfl aYq aYo (HS.box _ (.head _)) rfl rfl) ⟨_,rfl,?_⟩
  exact ⟨_,_,_,_,_,_,_,_,_,_,_,_,_,_,rfl,(HS.add (FV.stable _ _ _ _) (FV.zero 0 _)).tY 2 3 0 0 rfl rfl rfl (fun _ h=>h.as ((aib (by assumption)).symm) (by omega)) rfl (fun _ h=>h.as ((aic (by assumption)).symm) (by omega))⟩
 ·skip
  have hok:=KN GR
  obtain ⟨rfl,rfl,hle⟩:=hok
  refine JC.jA rfl ?_
  refine JC.jF (fun _ _ h=>h) ?_
  refine JC.seq ?_
  refine JC.region ?_
  refine JL.load (a0r ax ay aj c1a az ak aA aB aC n1b aG aF au aH) HS 1 rfl rfl rfl aYq aYo rfl rfl ?_
  refine JL.store HS rfl rfl (i:=0) rfl aYo rfl rfl rfl (vs':=(a0s ax ay aj c1a az ak aA aB aC n1b aG aF au aH)) rfl rfl (fun w6 HS => ?_)
  refine jn ?_
  refine JC.ret (fun a ha => ?_)
  repeat (first | refine dh ?_ | refine df ?_)
  refine fG (v:=(a0r ax ay aj c1a az ak aA aB aC n1b aG aF au aH)) ha Tryz.results124 (.agg rfl aYq aYo (HS.box _ (.head _)) rfl rfl) ⟨_,rfl,?_⟩
  exact ⟨_,_,_,_,_,_,_,_,_,_,_,_,_,_,rfl,HS.tY 2 2 1 0 rfl rfl rfl (fun _ h=>h.as ((aid (by assumption)).symm) (by omega)) rfl (fun _ h=>h.as ((aie (by assumption)).symm) (by omega))⟩
set_option maxHeartbeats 400000 in
theorem ajY (HT:Tz W0) (HB:Tab W0) {af:Rat} {bC:Nat} {ah:Rat} {bD:Nat} (HS:St W0 U Ps w) (f1a:FV (a0p ax ay aj c1a az ak aA) af bC true w) (bI:FV (a0p aB aC n1b aG aF au aH) ah bD true w):bY Tryz.prog 125 [(a0r ax ay aj c1a az ak aA aB aC n1b aG aF au aH)] w (iP W0 U Ps (.int .i64 (rG af ah))):=by
 have HS:=HS.add (FV.stable _ _ _ _) f1a
 have HS:=HS.add (FV.stable _ _ _ _) bI
 clear f1a bI
 have PI:=FV.neg (HS.at_ 1 rfl)
 have Yi:=FV.nz (HS.at_ 1 rfl)
 have anE:=FV.lens (HS.at_ 1 rfl)
 have Am:=FV.neg (HS.at_ 0 rfl)
 have hz1b:=FV.nz (HS.at_ 0 rfl)
 have anF:=FV.lens (HS.at_ 0 rfl)
 refine iL Tryz.func125 rfl Tryz.ntmps125 rfl ?_
 refine JC.seq ?_
 refine JC.region ?_
 refine JL.box (vs:=(a0s ax ay aj c1a az ak aA aB aC n1b aG aF au aH)) HS rfl rfl rfl rfl (fun g1 w1 HS => ?_)
 refine Lv (.int .i64 0) (fun a ha=>run_assign (ha.ev rfl)) ?_
 refine jn ?_
 refine JC.seq ?_
 refine JC.block ?_
 refine JC.seq ?_
 refine JC.region ?_
 refine Lv (.pointer (some ⟨g1,3,none⟩)) (fun a ha=>bH (ha.ev rfl) aYr rfl aYn rfl rfl) ?_
 refine Lv (.pointer (some ⟨g1,3,none⟩)) (fun a ha=>bH (ha.ev rfl) aYx rfl aYK rfl rfl) ?_
 refine JL.xw (.bool aB) HS 0 rfl rfl rfl aYJ rfl ?_
 refine Lv (.bool aB) (fun a ha=>run_assign (ha.ev rfl)) ?_
 refine jn ?_
 cases aB
 ·skip
  refine JC.jA rfl ?_
  refine JC.seq ?_
  refine JC.region ?_
  refine Lv (.pointer (some ⟨g1,0,none⟩)) (fun a ha=>bH (ha.ev rfl) aYr rfl aYn rfl rfl) ?_
  refine Lv (.pointer (some ⟨g1,0,none⟩)) (fun a ha=>bH (ha.ev rfl) aYx rfl aYK rfl rfl) ?_
  refine JL.xw (.bool ax) HS 0 rfl rfl rfl aYJ rfl ?_
  refine Lv (.bool ax) (fun a ha=>run_move (ha.ev rfl)) ?_
  cases ax
  ·skip
   refine Lg (.pointer (some ⟨g1,0,none⟩)) (fun a ha=>bH (ha.ev rfl) aYr rfl aYn rfl rfl) ?_
   refine Lg (a0p false ay aj c1a az ak aA) (fun a ha=>gU (ha.ev rfl) aYp aYn (HS.box _ (.head _)) rfl rfl) ?_
   refine JL.cZ rfl rfl rfl rfl rfl rfl aZc (Qy HT HB HS (HS.at_ 1 rfl) ) (fun v4 w4 HR4 => ?_)
   obtain ⟨rfl,HS⟩:=HR4
   refine Lv (.bool (decide (aj=0))) (fun a ha=>gB (ha.ev rfl) (ha.ev rfl)) ?_
   refine Lv (.bool (decide (aj=0))) (fun a ha=>run_assign (ha.ev rfl)) ?_
   refine jn ?_
   cases Ap:((decide (aj=0)))
   ·skip
    refine JC.jA rfl ?_
    refine JC.Vy (fun _ _ h=>h) ?_
    refine JC.seq ?_
    refine JC.region ?_
    refine Lv (.int .i64 1) (fun a ha=>run_assign (ha.ev rfl)) ?_
    refine jn ?_
    refine JC.ret (fun a ha => ?_)
    repeat (first | refine dh ?_ | refine df ?_)
    refine fG (v := .int .i64 1) ha Tryz.results125 (.tmp rfl) ⟨_,rfl,?_⟩
    exact ⟨(congrArg (Value.int .i64) (aFw Am PI (fun e=>absurd (Yi.2 e) (of_decide_eq_false (by assumption)))).symm),HS.gy 1 2 rfl rfl⟩
   ·skip
    refine JC.iy rfl ?_
    refine JC.seq ?_
    refine JC.region ?_
    refine Lv (.int .i64 0) (fun a ha=>run_assign (ha.ev rfl)) ?_
    refine jn ?_
    refine JC.ret (fun a ha => ?_)
    repeat (first | refine dh ?_ | refine df ?_)
    refine fG (v := .int .i64 0) ha Tryz.results125 (.tmp rfl) ⟨_,rfl,?_⟩
    exact ⟨(congrArg (Value.int .i64) (by first | exact (ar6 Am PI).symm | exact (ar7 Am (Yi.1 (of_decide_eq_true (by assumption)))).symm)),HS.gy 1 2 rfl rfl⟩
  ·skip
   refine Lp ?_
   refine Lp ?_
   refine Lp ?_
   refine Lv (.bool true) (fun a ha=>eY (ha.ev rfl) (ha.ev rfl)) ?_
   refine Lv (.bool true) (fun a ha=>run_assign (ha.ev rfl)) ?_
   refine jn ?_
   refine JC.iy rfl ?_
   refine JC.seq ?_
   refine JC.region ?_
   refine Lv (.int .i64 0) (fun a ha=>run_assign (ha.ev rfl)) ?_
   refine jn ?_
   refine JC.ret (fun a ha => ?_)
   repeat (first | refine dh ?_ | refine df ?_)
   refine fG (v := .int .i64 0) ha Tryz.results125 (.tmp rfl) ⟨_,rfl,?_⟩
   exact ⟨(congrArg (Value.int .i64) (by first | exact (ar6 Am PI).symm | exact (ar7 Am (Yi.1 (of_decide_eq_true (by assumption)))).symm)),HS.gy 1 2 rfl rfl⟩
 ·skip
  refine JC.iy rfl ?_
  refine JC.seq ?_
  refine JC.region ?_
  refine Lv (.int .i64 (-1)) (fun a ha=>run_assign (ha.ev rfl)) ?_
  refine jn ?_
  refine JC.ret (fun a ha => ?_)
  repeat (first | refine dh ?_ | refine df ?_)
  refine fG (v := .int .i64 (-1)) ha Tryz.results125 (.tmp rfl) ⟨_,rfl,?_⟩
  exact ⟨(congrArg (Value.int .i64) (aFv Am).symm),HS.gy 1 2 rfl rfl⟩
set_option maxHeartbeats 400000 in
theorem asO (HT:Tz W0) (HB:Tab W0) {af:Rat} {bC:Nat} {ah:Rat} {bD:Nat} (HS:St W0 U Ps w) (f1a:FV (a0p ax ay aj c1a az ak aA) af bC true w) (bI:FV (a0p aB aC n1b aG aF au aH) ah bD true w):bY Tryz.prog 187 [(a0r ax ay aj c1a az ak aA aB aC n1b aG aF au aH)] w (iP W0 U Ps (.bool (Oz af ah))):=by
 have HS:=HS.add (FV.stable _ _ _ _) f1a
 have HS:=HS.add (FV.stable _ _ _ _) bI
 clear f1a bI
 have PI:=FV.neg (HS.at_ 1 rfl)
 have Yi:=FV.nz (HS.at_ 1 rfl)
 have anE:=FV.lens (HS.at_ 1 rfl)
 have Am:=FV.neg (HS.at_ 0 rfl)
 have hz1b:=FV.nz (HS.at_ 0 rfl)
 have anF:=FV.lens (HS.at_ 0 rfl)
 refine iL Tryz.func187 rfl Tryz.ntmps187 rfl ?_
 refine JC.seq ?_
 refine JC.region ?_
 refine JL.box (vs:=(a0s ax ay aj c1a az ak aA aB aC n1b aG aF au aH)) HS rfl rfl rfl rfl (fun g1 w1 HS => ?_)
 refine Lv (.bool false) (fun a ha=>run_assign (ha.ev rfl)) ?_
 refine jn ?_
 refine JC.seq ?_
 refine JC.region ?_
 refine Lv (.pointer (some ⟨g1,0,none⟩)) (fun a ha=>bH (ha.ev rfl) aYr rfl aYn rfl rfl) ?_
 refine Lv (.pointer (some ⟨g1,0,none⟩)) (fun a ha=>bH (ha.ev rfl) aYx rfl aYK rfl rfl) ?_
 refine JL.xw (.bool ax) HS 0 rfl rfl rfl aYJ rfl ?_
 refine Lv (.bool (!ax)) (fun a ha=>sU (ha.ev rfl)) ?_
 cases ax
 ·skip
  refine Lv (.bool true) (fun a ha=>run_move (ha.ev rfl)) ?_
  refine Lp ?_
  refine Lp ?_
  refine Lp ?_
  refine Lv (.bool true) (fun a ha=>eY (ha.ev rfl) (ha.ev rfl)) ?_
  refine Lv (.bool true) (fun a ha=>run_assign (ha.ev rfl)) ?_
  refine jn ?_
  refine JC.ret (fun a ha => ?_)
  repeat (first | refine dh ?_ | refine df ?_)
  refine fG (v := .bool true) ha Tryz.results187 (.tmp rfl) ⟨_,rfl,?_⟩
  exact ⟨(congrArg Value.bool (by first | exact (aBH PI).symm | exact (apz PI Am).symm)),HS.gy 1 2 rfl rfl⟩
 ·skip
  refine Lv (.bool false) (fun a ha=>run_move (ha.ev rfl)) ?_
  refine Lg (.pointer (some ⟨g1,3,none⟩)) (fun a ha=>bH (ha.ev rfl) aYr rfl aYn rfl rfl) ?_
  refine Lg (.pointer (some ⟨g1,3,none⟩)) (fun a ha=>bH (ha.ev rfl) aYx rfl aYK rfl rfl) ?_
  refine Lg (.bool aB) (fun a ha=>Ef (ha.ev rfl) aYJ (HS.box _ (.head _)) rfl) ?_
  refine Lv (.bool aB) (fun a ha=>gB (ha.ev rfl) (ha.ev rfl)) ?_
  refine Lv (.bool aB) (fun a ha=>run_assign (ha.ev rfl)) ?_
  refine jn ?_
  refine JC.ret (fun a ha => ?_)
  repeat (first | refine dh ?_ | refine df ?_)
  refine fG (v := .bool aB) ha Tryz.results187 (.tmp rfl) ⟨_,rfl,?_⟩
  exact ⟨(congrArg Value.bool (apz PI Am).symm),HS.gy 1 2 rfl rfl⟩
end
end Go.Proofs.YtbihljnjaondcaaGreatDoor
namespace Go.Proofs.YtbihljnjaondcaaGreatDoor
open Go Go.RowKit Lw bZ
section
variable {W0 w:World} {U:List Box} {Ps:List (World→Prop)}
variable {ax:Bool} {ay:Option Addr} {aj c1a:Nat} {az:Option Addr} {ak aA:Nat} {aB:Bool} {aC:Option Addr} {n1b aG:Nat} {aF:Option Addr} {au aH:Nat}
theorem amQ (HT:Tz W0) (HB:Tab W0) (HS:St W0 U Ps w) {s1:Bool} {A1:Option Addr} {n1 c1:Nat} {B1:Option Addr} {m1 d1:Nat} {q1:Rat} {k1:Nat} {b1:Bool} {m2:Nat} (f1:FV (a0p s1 A1 n1 c1 B1 m1 d1) q1 k1 b1 w) (hk:k1≤8000) (hm:m2≤256) :
  bY Tryz.prog 15 [(a0p s1 A1 n1 c1 B1 m1 d1),.int .i64 (m2:Int)] w (Bo W0 U Ps (NR q1 m2) (2*k1+60) .nilIface):=ayG HT HB HS f1 hk hm
set_option maxHeartbeats 400000 in
theorem ae1 (HT:Tz W0) (HB:Tab W0) {m2:Nat} {af:Rat} {bC:Nat} {bu:Bool} {ah:Rat} {bD:Nat} {bn:Bool} (HS:St W0 U Ps w) (f1a:FV (a0p ax ay aj c1a az ak aA) af bC bu w) (bI:FV (a0p aB aC n1b aG aF au aH) ah bD bn w) (hk:bC+bD≤900) (hm:m2≤256):bY Tryz.prog 66 [(a0r ax ay aj c1a az ak aA aB aC n1b aG aF au aH),.int .i64 (m2:Int)] w (yY W0 U Ps (NR (bV bu bn af ah) m2) (-(NR (-(bW bu bn af ah)) m2)) (2*(bC+bD)+60) (.nilIface)):=by
 have HS:=HS.add (FV.stable _ _ _ _) f1a
 have HS:=HS.add (FV.stable _ _ _ _) bI
 clear f1a bI
 refine iL Tryz.func66 rfl Tryz.ntmps66 rfl ?_
 refine JC.seq ?_
 refine JC.region ?_
 refine JL.box (vs:=(a0s ax ay aj c1a az ak aA aB aC n1b aG aF au aH)) HS rfl rfl rfl rfl (fun g1 w1 HS => ?_)
 refine JL.alloc (vs:=cO) HS rfl aYt rfl rfl (fun g2 w2 HS => ?_)
 refine Lv (.nilIface) (fun a ha=>run_assign (ha.ev rfl)) ?_
 refine jn ?_
 refine JC.seq ?_
 refine JC.seq ?_
 refine JC.region ?_
 refine Lv (.int .i64 (m2:Int)) (fun a ha=>run_move (ha.ev rfl)) ?_
 refine Lv (.bool false) (fun a ha=>qX (ha.ev rfl) (ha.ev rfl) (decide_eq_false (by omega))) ?_
 refine Lv (.bool false) (fun a ha=>run_move (ha.ev rfl)) ?_
 refine Lg (.int .i64 (m2:Int)) (fun a ha=>run_move (ha.ev rfl)) ?_
 refine Lg (.bool false) (fun a ha=>wH (ha.ev rfl) (ha.ev rfl) (decide_eq_false (by omega))) ?_
 refine Lv (.bool false) (fun a ha=>gB (ha.ev rfl) (ha.ev rfl)) ?_
 refine jn ?_
 refine JC.jA rfl ?_
 refine JC.jF (fun _ _ h=>h) ?_
 refine JC.seq ?_
 refine JC.region ?_
 refine JL.load (a0r ax ay aj c1a az ak aA aB aC n1b aG aF au aH) HS 1 rfl rfl rfl aYq aYo rfl rfl ?_
 refine JL.call rfl rfl aYz (sO HT HB HS (HS.at_ 1 rfl) (HS.at_ 0 rfl) (by omega)) (fun v3 w3 HR3 => ?_)
 obtain ⟨jS,jZ,kK,kD,kz,kH,kF,l7,lK,lY,lS,lN,lW,lU,rfl,HS⟩:=HR3
 refine JL.store HS rfl rfl (i:=1) rfl aYo rfl rfl rfl (vs':=(a0s jS jZ kK kD kz kH kF l7 lK lY lS lN lW lU)) rfl rfl (fun w4 HS => ?_)
 refine jn ?_
 refine JC.seq ?_
 refine JC.region ?_
 refine Lv (.pointer (some ⟨g1,0,none⟩)) (fun a ha=>bH (ha.ev rfl) aYr rfl aYn rfl rfl) ?_
 refine JL.load (a0p jS jZ kK kD kz kH kF) HS 1 rfl rfl rfl aYp aYn rfl rfl ?_
 refine Lv (.int .i64 (m2:Int)) (fun a ha=>run_move (ha.ev rfl)) ?_
 refine JL.call rfl rfl Tryz.call15 (amQ HT HB HS (HS.at_ 0 rfl) (by omega) (by omega)) (fun v5 w5 vk => ?_)
 obtain ⟨s5,A5,n5,c5,B5,m5,d5,rfl,HS⟩:=vk
 refine Lv (.tuple #[(a0p s5 A5 n5 c5 B5 m5 d5),.nilIface]) (fun a ha=>run_move (ha.ev rfl)) ?_
 refine Lv (a0p s5 A5 n5 c5 B5 m5 d5) (fun a ha=>bK (ha.ev rfl) rfl) ?_
 refine Lv (.nilIface) (fun a ha=>bK (ha.ev rfl) rfl) ?_
 refine JL.alloc (vs:=bU) HS rfl aYs rfl rfl (fun g6 w6 HS => ?_)
 refine JL.store HS rfl rfl (i:=0) rfl aYn rfl rfl rfl (vs':=(a0q s5 A5 n5 c5 B5 m5 d5)) rfl rfl (fun w7 HS => ?_)
 refine Lv (.nilIface) (fun a ha=>run_assign (ha.ev rfl)) ?_
 refine jn ?_
 refine JC.seq ?_
 refine JC.region ?_
 refine Lv (.pointer (some ⟨g1,3,none⟩)) (fun a ha=>bH (ha.ev rfl) aYr rfl aYn rfl rfl) ?_
 refine JL.load (a0p l7 lK lY lS lN lW lU) HS 2 rfl rfl rfl aYp aYn rfl rfl ?_
 refine JL.call rfl rfl aZH (X5 HT HB HS (HS.at_ 2 rfl) (by omega)) (fun v8 w8 CJ => ?_)
 obtain ⟨s8,A8,n8,c8,B8,m8,d8,rfl,HS⟩:=CJ
 refine Lv (.int .i64 (m2:Int)) (fun a ha=>run_move (ha.ev rfl)) ?_
 refine JL.call rfl rfl Tryz.call15 (amQ HT HB HS (HS.at_ 0 rfl) (by omega) (by omega)) (fun v9 w9 Iy => ?_)
 obtain ⟨s9,A9,n9,c9,B9,m9,d9,rfl,HS⟩:=Iy
 refine Lv (.tuple #[(a0p s9 A9 n9 c9 B9 m9 d9),.nilIface]) (fun a ha=>run_move (ha.ev rfl)) ?_
 refine Lv (a0p s9 A9 n9 c9 B9 m9 d9) (fun a ha=>bK (ha.ev rfl) rfl) ?_
 refine Lv (.nilIface) (fun a ha=>bK (ha.ev rfl) rfl) ?_
 refine JL.alloc (vs:=bU) HS rfl aYs rfl rfl (fun g10 w10 HS => ?_)
 refine JL.store HS rfl rfl (i:=0) rfl aYn rfl rfl rfl (vs':=(a0q s9 A9 n9 c9 B9 m9 d9)) rfl rfl (fun Dp HS => ?_)
 refine Lv (.nilIface) (fun a ha=>run_assign (ha.ev rfl)) ?_
 refine jn ?_
 refine JC.seq ?_
 refine JC.draw HS [4] (by kernel_rfl) (fun w12 HS => ?_)
 refine Da (a0p s5 A5 n5 c5 B5 m5 d5) 0 1 rfl HS.b0 rfl rfl aYp aYn ?_
 refine Da (a0p s9 A9 n9 c9 B9 m9 d9) 1 0 rfl HS.b0 rfl rfl aYp aYn ?_
 refine bJ 2 rfl rfl rfl aZH (X5 HT HB HS (HS.at_ 0 rfl) (by omega)) (fun aTo aVI atY => ?_)
 obtain ⟨Zq,VR,YP,Xn,Wq,Yw,XI,rfl,HS⟩:=atY
 refine ⟨HS.b0,?_⟩
 refine Dv (a0r s5 A5 n5 c5 B5 m5 d5 Zq VR YP Xn Wq Yw XI) 3 rfl HS.b0 (fun a ha w=>bZ.run_build (vs:=[(0,(a0p s5 A5 n5 c5 B5 m5 d5)),(1,(a0p Zq VR YP Xn Wq Yw XI))]) (by simp only [List.map_cons,List.map_nil,ha.ev (x := .tmp 35) (v:=(a0p s5 A5 n5 c5 B5 m5 d5)) rfl,ha.ev (x := .tmp 37) (v:=(a0p Zq VR YP Xn Wq Yw XI)) rfl]) aYr aYt pV rfl) ?_
 refine bF 4 (a0s s5 A5 n5 c5 B5 m5 d5 Zq VR YP Xn Wq Yw XI) HS 2 rfl rfl rfl rfl aYo (fun _ HS=>⟨(eX (s:=4) rfl rfl),?_⟩)
 refine Dv (.nilIface) 5 rfl (eX (s:=4) rfl rfl) (fun a ha w=>run_assign (ha.ev rfl)) ?_
 refine JR.next (by kernel_rfl) (fun _ _ h=>h) ?_
 refine JC.ret (fun a ha => ?_)
 repeat (first | refine dh ?_ | refine df ?_)
 refine vI (v:=(a0r s5 A5 n5 c5 B5 m5 d5 Zq VR YP Xn Wq Yw XI)) (v' := .nilIface) ha Tryz.results66 (.agg rfl aYq aYo (HS.box _ (.tail _ (.tail _ (.head _)))) rfl rfl) (.tmp rfl) ⟨_,rfl,?_⟩
 exact ⟨_,_,_,_,_,_,_,_,_,_,_,_,_,_,rfl,HS.tY 4 8 3 0 rfl rfl rfl (fun _ h=>h.as rfl (by omega)) rfl (fun _ h=>h.as rfl (by omega))⟩
set_option maxHeartbeats 400000 in
theorem ZQ (HT:Tz W0) (HB:Tab W0) {af:Rat} {bC:Nat} {bu:Bool} {ah:Rat} {bD:Nat} {bn:Bool} (HS:St W0 U Ps w) (f1a:FV (a0p ax ay aj c1a az ak aA) af bC bu w) (bI:FV (a0p aB aC n1b aG aF au aH) ah bD bn w) (hk:bC+bD≤900):bY Tryz.prog 50 [(a0r ax ay aj c1a az ak aA aB aC n1b aG aF au aH)] w (iP W0 U Ps (.string ⟨(ara (bV bu bn af ah) (bW bu bn af ah)).toArray⟩)):=by
 have HS:=HS.add (FV.stable _ _ _ _) f1a
 have HS:=HS.add (FV.stable _ _ _ _) bI
 clear f1a bI
 refine iL Tryz.func50 rfl Tryz.ntmps50 rfl ?_
 refine JC.seq ?_
 refine JC.region ?_
 refine JL.box (vs:=(a0s ax ay aj c1a az ak aA aB aC n1b aG aF au aH)) HS rfl rfl rfl rfl (fun g1 w1 HS => ?_)
 refine Lv (.string ⟨([]).toArray⟩) (fun a ha=>run_assign (ha.ev rfl)) ?_
 refine jn ?_
 refine JC.seq ?_
 refine JC.region ?_
 refine JL.load (a0r ax ay aj c1a az ak aA aB aC n1b aG aF au aH) HS 0 rfl rfl rfl aYq aYo rfl rfl ?_
 refine JL.call rfl rfl aYz (sO HT HB HS (HS.at_ 1 rfl) (HS.at_ 0 rfl) (by omega)) (fun v2 w2 HR2 => ?_)
 obtain ⟨aP,aQ,aK,aS,aU,aN,aY,aV,aW,aO,aX,aZ,aT,bf,rfl,HS⟩:=HR2
 refine JL.store HS rfl rfl (i:=0) rfl aYo rfl rfl rfl (vs':=(a0s aP aQ aK aS aU aN aY aV aW aO aX aZ aT bf)) rfl rfl (fun w3 HS => ?_)
 refine jn ?_
 refine JC.seq ?_
 refine JC.draw HS [] (by kernel_rfl) (fun w4 HS => ?_)
 refine Dv (.pointer (some ⟨g1,0,none⟩)) 0 rfl HS.b0 (fun a ha w=>bH (ha.ev rfl) aYr rfl aYn rfl rfl) ?_
 refine Da (a0p aP aQ aK aS aU aN aY) 1 0 rfl HS.b0 rfl rfl aYp aYn ?_
 refine Dv (.pointer (some ⟨g1,3,none⟩)) 4 rfl HS.b0 (fun a ha w=>bH (ha.ev rfl) aYr rfl aYn rfl rfl) ?_
 refine Da (a0p aV aW aO aX aZ aT bf) 5 0 rfl HS.b0 rfl rfl aYp aYn ?_
 refine bJ 2 rfl rfl rfl Tryz.call29 (amZ HT HB HS (HS.at_ 0 rfl) (by omega)) (fun ajQ aki Q8 => ?_)
 obtain ⟨rfl,HS⟩:=Q8
 refine ⟨HS.b0,?_⟩
 refine Dv (.string ⟨((wJ (bV bu bn af ah))++[46,46]).toArray⟩) 3 rfl HS.b0 (fun a ha w=>Vq (ha.ev rfl) (ha.ev rfl) (by first | (have:=P8 (HS.at_ 0 rfl); have:=P8 (HS.at_ 1 rfl); simp only [List.length_append,List.length_cons,List.length_nil]; omega)) rfl) ?_
 refine bJ 6 rfl rfl rfl Tryz.call29 (amZ HT HB HS (HS.at_ 1 rfl) (by omega)) (fun aGx aG' agr => ?_)
 obtain ⟨rfl,HS⟩:=agr
 refine ⟨HS.b0,?_⟩
 refine Dv (.string ⟨(((wJ (bV bu bn af ah))++[46,46])++(wJ (bW bu bn af ah))).toArray⟩) 7 rfl HS.b0 (fun a ha w=>Vq (ha.ev rfl) (ha.ev rfl) (by first | (have:=P8 (HS.at_ 0 rfl); have:=P8 (HS.at_ 1 rfl); simp only [List.length_append,List.length_cons,List.length_nil]; omega)) rfl) ?_
 refine Dv (.string ⟨(((wJ (bV bu bn af ah))++[46,46])++(wJ (bW bu bn af ah))).toArray⟩) 8 rfl HS.b0 (fun a ha w=>run_assign (ha.ev rfl)) ?_
 refine JR.next (by kernel_rfl) (fun _ _ h=>h) ?_
 refine JC.ret (fun a ha => ?_)
 repeat (first | refine dh ?_ | refine df ?_)
 refine fG (v := .string ⟨(((wJ (bV bu bn af ah))++[46,46])++(wJ (bW bu bn af ah))).toArray⟩) ha Tryz.results50 (.tmp rfl) ⟨_,rfl,?_⟩
 exact ⟨rfl,HS.gy 1 4 rfl rfl⟩
end
end Go.Proofs.YtbihljnjaondcaaGreatDoor
