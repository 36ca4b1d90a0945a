/- Part of a proof, said shortly. -/
import Derived.WalkKit
import Derived.Below
import Derived.Laws.Cells
import Derived.OrdersHeld
import Derived.Deep.LoopGhost
import Derived.Test.YtbihljnjaondcaaGreatDoorAlz
import Derived.Test.YtbihljnjaondcaaGreatDoorC15
import Derived.Test.YtbihljnjaondcaaGreatDoorS1
import Derived.Test.YtbihljnjaondcaaGreatDoorS9
import Derived.Test.YtbihljnjaondcaaGreatDoorS33
import Derived.Test.YtbihljnjaondcaaGreatDoorC20
import Derived.Test.YtbihljnjaondcaaGreatDoorS4
import Derived.Test.YtbihljnjaondcaaGreatDoorS5
import Derived.Test.YtbihljnjaondcaaGreatDoorS6
import Derived.Test.YtbihljnjaondcaaGreatDoorS11
import Derived.Test.YtbihljnjaondcaaGreatDoorS18
import Derived.Test.YtbihljnjaondcaaGreatDoorS20
import Derived.Test.YtbihljnjaondcaaGreatDoorS26
import Derived.Test.YtbihljnjaondcaaGreatDoorC16
import Derived.Test.YtbihljnjaondcaaGreatDoorC14
import Derived.Test.YtbihljnjaondcaaGreatDoorC13
import Derived.Test.YtbihljnjaondcaaGreatDoorC12
import Derived.Test.YtbihljnjaondcaaGreatDoorC11
import Derived.Test.YtbihljnjaondcaaGreatDoorC10
import Derived.Test.YtbihljnjaondcaaGreatDoorC6
import Derived.Test.YtbihljnjaondcaaGreatDoorC2
import Derived.Test.YtbihljnjaondcaaGreatDoorC1
import Derived.Test.YtbihljnjaondcaaGreatDoorC5
import Derived.Test.YtbihljnjaondcaaGreatDoorC4
import Derived.Test.YtbihljnjaondcaaGreatDoorC3
import Derived.Test.YtbihljnjaondcaaGreatDoorC9
import Derived.Test.YtbihljnjaondcaaGreatDoorC8
import Derived.Test.YtbihljnjaondcaaGreatDoorC7
import Derived.Test.YtbihljnjaondcaaGreatDoorS7
import Derived.Test.YtbihljnjaondcaaGreatDoorC19
import Derived.Test.YtbihljnjaondcaaGreatDoorC18
import Derived.Test.YtbihljnjaondcaaGreatDoorC17
import Derived.Test.YtbihljnjaondcaaGreatDoorC21
import Derived.Test.YtbihljnjaondcaaGreatDoorS31
import Derived.Test.YtbihljnjaondcaaGreatDoorS14
import Derived.Test.YtbihljnjaondcaaGreatDoorC22
import Derived.Test.YtbihljnjaondcaaGreatDoorS21
import Derived.Test.YtbihljnjaondcaaGreatDoorS29
import Derived.Test.YtbihljnjaondcaaGreatDoorC25
import Derived.Test.YtbihljnjaondcaaGreatDoorS3
import Derived.Test.YtbihljnjaondcaaGreatDoorS12
import Derived.Test.YtbihljnjaondcaaGreatDoorC23
import Derived.Test.YtbihljnjaondcaaGreatDoorC24
set_option maxRecDepth 100000
open Go.Proofs.YtbihljnjaondcaaGreatDoor (a0p a0q a0r a0s yw bU fO cO PS iy1 PT FX iy4 iy5 iy6 Yo iy8 iy9 aAJ)
set_option linter.unusedVariables false
set_option linter.unusedSimpArgs false
namespace bZ
open Go Go.RowKit
section
variable {P:Program} {ρ:Operand→Value} {w:World} {dst:Option Tmp} {ty:TypeId} {pos:String} {fB:Array Edge} {gd:Option (Nat×Bool)}
theorem aek {t t':TypeId} {x y:Operand} {a b c:Bool} (hx:ρ x = .bool a) (hy:ρ y = .bool b) (hu : ∀ w,(underlying t).run P w = .ok .bool w) (h:(a==b)=c) :
  (execOp ρ ⟨dst,.binOp .eql t x y t',ty,pos,fB,gd⟩).run P w = .ok (.value (.bool c)) w:=by
 subst h
 simp [execOp,hx,hy,eqGuard,binOp,amL hu]
end
end bZ
namespace Go.Proofs.YtbihljnjaondcaaGreatDoor
open Go Go.RowKit Lw bZ
section
variable {W0 w w':World} {U:List Box} {Ps:List (World→Prop)} {v v':Value} {q r:Rat} {x y:Int} {k k':Nat} {b b':Bool} {f:FuncId} {vs:List Value} {L:List En} {M:List Qn}
theorem aDT (HT:Tz W0) (HB:Tab W0) (HS:St W0 U Ps w) {s1:Bool} {A1:Option Addr} {n1 c1:Nat} {x1:Int} {k1:Nat} {s2:Bool} {A2:Option Addr} {n2 c2:Nat} {x2:Int} {k2:Nat} (f1:FI (.agg #[.bool s1,.slice A1 n1 c1]) x1 k1 w) (f2:FI (.agg #[.bool s2,.slice A2 n2 c2]) x2 k2 w) (hk:k1≤10000∧k2≤10000):bY Tryz.prog 118 [.agg #[.bool s1,.slice A1 n1 c1],.agg #[.bool s2,.slice A2 n2 c2]] w (iP W0 U Ps (.int .i64 (vP x1 x2))) :=
 GN HS (aqC (((St.start HS HT HB).push f2).push f1) (.head _) (.tail _ (.head _)) hk)
end
end Go.Proofs.YtbihljnjaondcaaGreatDoor
namespace Lw
open Go Go.RowKit bZ
def okS (q r:Rat):Bool:=(rG q r != 0)||(decide (q=0)&&decide (r=0))
theorem aBE {q r:Rat} (h:(rG q r != 0)=true):true=okS q r:=by unfold okS; rw [h]; rfl
theorem aBF {q r:Rat} {n:Nat} (h:(rG q r != 0)=false) (hz:n=0↔q=0) (hn:decide (n=0)=false):false=okS q r:=by
 have e:decide (q=0)=false:=decide_eq_false fun e=>of_decide_eq_false hn (hz.2 e)
 unfold okS; rw [h,e]; rfl
theorem aBG {q r:Rat} {n m:Nat} (h:(rG q r != 0)=false) (hz:n=0↔q=0) (hn:decide (n=0)=true) (hz':m=0↔r=0):decide (m=0)=okS q r:=by
 have e:decide (q=0)=true:=decide_eq_true (hz.1 (of_decide_eq_true hn))
 unfold okS; rw [h,e,decide_eq_decide.2 hz']; rfl
theorem aEQ {q r:Rat} (h:q≤r) (hs:(nM q != nM r)=true):Value.tuple #[.int .i64 0,.bool false]=Value.tuple #[.int .i64 (rG q r),.bool (okS q r)]:=by
 have e:nM q≠nM r:=by simpa using hs
 have e1:rG q r=0:=by
  unfold rG; unfold nM at e
  split
  ·exact absurd (by rw [if_pos (show q < 0 by grind),if_pos (by assumption)]) e
  ·split
   ·rfl
   ·exact absurd (by rw [if_neg (show ¬ q < 0 by grind),if_pos (show 0 < q by grind),if_neg (show ¬ r < 0 by grind),if_pos (show 0 < r by grind)]) e
 have e2:okS q r=false:=by
  unfold okS
  rw [e1]
  by_cases h1:q=0
  ·by_cases h2:r=0
   ·exact absurd (by rw [h1,h2]) e
   ·rw [decide_eq_false h2]; simp
  ·rw [decide_eq_false h1]; simp
 rw [e1,e2]
theorem aER {q r:Rat} (h:q≤r) (hs:(nM q != nM r)=false):Value.tuple #[.int .i64 (nM q),.bool true]=Value.tuple #[.int .i64 (rG q r),.bool (okS q r)]:=by
 have e:nM q=nM r:=by simpa using hs
 have e1:rG q r=nM q:=by
  unfold rG; rw [e]; unfold nM at e ⊢
  split
  ·rfl
  ·rw [if_neg (show ¬ r < 0 by assumption)] at e
   by_cases h1:q < 0
   ·rw [if_pos h1] at e
    split at e <;> omega
   ·rw [if_neg h1] at e
    by_cases h2:0 < q
    ·rw [if_neg (show ¬ q≤0 by grind),if_pos (show 0 < r by grind)]
    ·rw [if_neg h2] at e
     rw [if_pos (show q≤0 by grind)]
     split at e
     ·omega
     ·rw [if_neg (by assumption)]
 have e2:okS q r=true:=by
  unfold okS
  rw [e1]
  by_cases h1:nM q=0
  ·have h2:nM r=0:=e ▸ h1
   have z : ∀ x:Rat,nM x=0→x=0:=fun x hx=>by
    unfold nM at hx
    split at hx
    ·omega
    ·split at hx
     ·omega
     ·grind
   rw [decide_eq_true (z q h1),decide_eq_true (z r h2)]
   simp
  ·have:(nM q != 0)=true:=by simpa using h1
   rw [this]; rfl
 rw [e1,e2]
theorem aAm {a b c d:Rat} (h:a≤b) (h1:(decide (c≤a)&&decide (a≤d))=false):false=(decide (c≤a)&&decide (b≤d)):=by
 by_cases e:c≤a
 ·rw [decide_eq_true e] at h1 ⊢
  simp only [Bool.true_and,decide_eq_false_iff_not] at h1 ⊢
  exact (decide_eq_false (by grind)).symm
 ·rw [decide_eq_false e]; rfl
theorem aAn {a b c d:Rat} (h:a≤b) (h1:(decide (c≤a)&&decide (a≤d))=true):(decide (c≤b)&&decide (b≤d))=(decide (c≤a)&&decide (b≤d)):=by
 simp only [Bool.and_eq_true,decide_eq_true_eq] at h1
 rw [decide_eq_true h1.1,decide_eq_true (show c≤b by grind)]
end Lw
namespace Go.Proofs.YtbihljnjaondcaaGreatDoor
open Go Go.RowKit Lw bZ
section
variable {W0 w:World} {U:List Box} {Ps:List (World→Prop)}
variable {s1:Bool} {A1:Option Addr} {n1 c1:Nat} {B1:Option Addr} {m1 d1:Nat} {s2:Bool} {A2:Option Addr} {n2 c2:Nat} {B2:Option Addr} {m2 d2:Nat}
set_option maxHeartbeats 400000 in
theorem aGT (HT:Tz W0) (HB:Tab W0) {q1:Rat} {k1:Nat} {b1:Bool} (HS:St W0 U Ps w) (f1:FV (a0p s1 A1 n1 c1 B1 m1 d1) q1 k1 b1 w) (hk:k1≤40000):bY Tryz.prog 40 [(a0p s1 A1 n1 c1 B1 m1 d1)] w (xG W0 U Ps (q1) (q1) (k1)):=by
 have HS:=HS.add (FV.stable _ _ _ _) f1
 clear f1
 refine iL Tryz.func40 rfl Tryz.ntmps40 rfl ?_
 refine JC.seq ?_
 refine JC.region ?_
 refine JL.box (vs:=(a0q s1 A1 n1 c1 B1 m1 d1)) HS rfl rfl rfl rfl (fun g1 w1 HS => ?_)
 refine JL.alloc (vs:=cO) HS rfl aYt rfl rfl (fun g2 w2 HS => ?_)
 refine jn ?_
 refine JC.seq ?_
 refine JC.draw HS [5] (by kernel_rfl) (fun w3 HS => ?_)
 refine Da (a0p s1 A1 n1 c1 B1 m1 d1) 0 1 rfl HS.b0 rfl rfl aYp aYn ?_
 refine Da (a0p s1 A1 n1 c1 B1 m1 d1) 2 1 rfl HS.b0 rfl rfl aYp aYn ?_
 refine bJ 1 rfl rfl rfl aZ8 (ae2 HT HB HS (HS.at_ 0 rfl) (by omega)) (fun yL yN pq => ?_)
 obtain ⟨Zx,VX,YU,Xt,WA,YB,XN,rfl,HS⟩:=pq
 refine ⟨HS.b0,?_⟩
 refine bJ 3 rfl rfl rfl aZ8 (ae2 HT HB HS (HS.at_ 1 rfl) (by omega)) (fun yM yO pz => ?_)
 obtain ⟨Zz,VZ,YW,Xv,WC,YD,XP,rfl,HS⟩:=pz
 refine ⟨HS.b0,?_⟩
 refine Dv (a0r Zx VX YU Xt WA YB XN Zz VZ YW Xv WC YD XP) 4 rfl HS.b0 (fun a ha w=>bZ.run_build (vs:=[(0,(a0p Zx VX YU Xt WA YB XN)),(1,(a0p Zz VZ YW Xv WC YD XP))]) (by simp only [List.map_cons,List.map_nil,ha.ev (x := .tmp 4) (v:=(a0p Zx VX YU Xt WA YB XN)) rfl,ha.ev (x := .tmp 6) (v:=(a0p Zz VZ YW Xv WC YD XP)) rfl]) aYr aYt pV rfl) ?_
 refine bF 5 (a0s Zx VX YU Xt WA YB XN Zz VZ YW Xv WC YD XP) HS 0 rfl rfl rfl rfl aYo (fun _ HS=>⟨(eX (s:=5) rfl rfl),?_⟩)
 refine JR.next (by kernel_rfl) (fun _ _ h=>h) ?_
 refine JC.ret (fun a ha => ?_)
 repeat (first | refine dh ?_ | refine df ?_)
 refine fG (v:=(a0r Zx VX YU Xt WA YB XN Zz VZ YW Xv WC YD XP)) ha Tryz.results40 (.agg rfl aYq aYo (HS.box _ (.head _)) rfl rfl) ⟨_,rfl,?_⟩
 exact ⟨_,_,_,_,_,_,_,_,_,_,_,_,_,_,rfl,HS.tY 2 3 1 0 rfl rfl rfl (fun _ h=>h.as rfl (by omega)) rfl (fun _ h=>h.as rfl (by omega))⟩
set_option maxHeartbeats 400000 in
theorem aGL (HT:Tz W0) (HB:Tab W0) {q1:Rat} {k1:Nat} {b1:Bool} {q2:Rat} {k2:Nat} {b2:Bool} (HS:St W0 U Ps w) (f1:FV (a0p s1 A1 n1 c1 B1 m1 d1) q1 k1 b1 w) (f2:FV (a0p s2 A2 n2 c2 B2 m2 d2) q2 k2 b2 w) (hk:k1+k2≤4000) (hc:q2 < q1):bY Tryz.prog 33 [(a0p s1 A1 n1 c1 B1 m1 d1),(a0p s2 A2 n2 c2 B2 m2 d2)] w (iP W0 U Ps (.tuple #[fO,.iface 74 (.int .i64 3)])):=by
 have HS:=HS.add (FV.stable _ _ _ _) f1
 have HS:=HS.add (FV.stable _ _ _ _) f2
 clear f1 f2
 refine iL Tryz.func33 rfl Tryz.ntmps33 rfl ?_
 refine JC.seq ?_
 refine JC.region ?_
 refine JL.box (vs:=(a0q s1 A1 n1 c1 B1 m1 d1)) HS rfl rfl rfl rfl (fun g1 w1 HS => ?_)
 refine JL.box (vs:=(a0q s2 A2 n2 c2 B2 m2 d2)) HS rfl rfl rfl rfl (fun g2 w2 HS => ?_)
 refine JL.alloc (vs:=cO) HS rfl aYt rfl rfl (fun g3 w3 HS => ?_)
 refine Lv (.nilIface) (fun a ha=>run_assign (ha.ev rfl)) ?_
 refine jn ?_
 refine JC.seq ?_
 refine JC.seq ?_
 refine JC.region ?_
 refine JL.load (a0p s1 A1 n1 c1 B1 m1 d1) HS 2 rfl rfl rfl aYp aYn rfl rfl ?_
 refine JL.load (a0p s2 A2 n2 c2 B2 m2 d2) HS 1 rfl rfl rfl aYp aYn rfl rfl ?_
 refine JL.call rfl rfl aYD (vJ HT HB HS (HS.at_ 1 rfl) (HS.at_ 0 rfl) (by omega)) (fun v4 w4 HR4 => ?_)
 obtain ⟨rfl,HS⟩:=HR4
 refine Lv (.bool true) (fun a ha=>wH (ha.ev rfl) (ha.ev rfl) ((Kr _ _).trans (decide_eq_true hc))) ?_
 refine jn ?_
 refine JC.iy rfl ?_
 refine JC.seq ?_
 refine JC.region ?_
 refine Lv fO (fun a ha=>bZ.run_build (vs:=[]) (by simp only [List.map_cons,List.map_nil]) aYr aYt pV rfl) ?_
 refine Lv (.iface 74 (.int .i64 3)) (fun a ha=>OH (ha.ev rfl) (by kernel_rfl)) ?_
 refine JL.store HS rfl rfl (i:=0) rfl aYo rfl rfl rfl (vs':=cO) rfl rfl (fun w5 HS => ?_)
 refine Lv (.iface 74 (.int .i64 3)) (fun a ha=>run_assign (ha.ev rfl)) ?_
 refine jn ?_
 refine JC.ret (fun a ha => ?_)
 repeat (first | refine dh ?_ | refine df ?_)
 refine vI (v:=fO) (v' := .iface 74 (.int .i64 3)) ha Tryz.results33 (.agg rfl aYq aYo (HS.box _ (.head _)) rfl rfl) (.tmp rfl) ⟨_,rfl,?_⟩
 exact ⟨rfl,HS.gy 3 2 rfl rfl⟩
end
end Go.Proofs.YtbihljnjaondcaaGreatDoor
namespace Go.Proofs.YtbihljnjaondcaaGreatDoor
open Go Go.RowKit Lw bZ
section
variable {W0 w:World} {U:List Box} {Ps:List (World→Prop)}
variable {ax:Bool} {ay:Option Addr} {aj c1a:Nat} {az:Option Addr} {ak aA:Nat} {aB:Bool} {aC:Option Addr} {n1b aG:Nat} {aF:Option Addr} {au aH:Nat}
set_option maxHeartbeats 400000 in
theorem aGY (HT:Tz W0) (HB:Tab W0) {af:Rat} {bC:Nat} {bu:Bool} {ah:Rat} {bD:Nat} {bn:Bool} (HS:St W0 U Ps w) (f1a:FV (a0p ax ay aj c1a az ak aA) af bC bu w) (bI:FV (a0p aB aC n1b aG aF au aH) ah bD bn w) (hk:bC+bD≤900):bY Tryz.prog 46 [(a0r ax ay aj c1a az ak aA aB aC n1b aG aF au aH)] w (xY W0 U Ps ((bW bu bn af ah) - (bV bu bn af ah)) ((bC+bD)+(bC+bD)+2)):=by
 have HS:=HS.add (FV.stable _ _ _ _) f1a
 have HS:=HS.add (FV.stable _ _ _ _) bI
 clear f1a bI
 refine iL Tryz.func46 rfl Tryz.ntmps46 rfl ?_
 refine JC.seq ?_
 refine JC.region ?_
 refine JL.box (vs:=(a0s ax ay aj c1a az ak aA aB aC n1b aG aF au aH)) HS rfl rfl rfl rfl (fun g1 w1 HS => ?_)
 refine JL.alloc (vs:=bU) HS rfl aYs rfl rfl (fun g2 w2 HS => ?_)
 refine jn ?_
 refine JC.seq ?_
 refine JC.region ?_
 refine JL.load (a0r ax ay aj c1a az ak aA aB aC n1b aG aF au aH) HS 1 rfl rfl rfl aYq aYo rfl rfl ?_
 refine JL.call rfl rfl aYz (sO HT HB HS (HS.at_ 1 rfl) (HS.at_ 0 rfl) (by omega)) (fun v3 w3 HR3 => ?_)
 obtain ⟨jS,jZ,kK,kD,kz,kH,kF,l7,lK,lY,lS,lN,lW,lU,rfl,HS⟩:=HR3
 refine JL.store HS rfl rfl (i:=1) rfl aYo rfl rfl rfl (vs':=(a0s jS jZ kK kD kz kH kF l7 lK lY lS lN lW lU)) rfl rfl (fun w4 HS => ?_)
 refine jn ?_
 refine JC.seq ?_
 refine JC.region ?_
 refine Lv (.pointer (some ⟨g1,3,none⟩)) (fun a ha=>bH (ha.ev rfl) aYr rfl aYn rfl rfl) ?_
 refine JL.load (a0p l7 lK lY lS lN lW lU) HS 1 rfl rfl rfl aYp aYn rfl rfl ?_
 refine Lv (.pointer (some ⟨g1,0,none⟩)) (fun a ha=>bH (ha.ev rfl) aYr rfl aYn rfl rfl) ?_
 refine JL.load (a0p jS jZ kK kD kz kH kF) HS 1 rfl rfl rfl aYp aYn rfl rfl ?_
 refine JL.call rfl rfl aZs (UD HT HB HS (HS.at_ 1 rfl) (HS.at_ 0 rfl) (by omega)) (fun v5 w5 vk => ?_)
 obtain ⟨s5,A5,n5,c5,B5,m5,d5,rfl,HS⟩:=vk
 refine JL.store HS rfl rfl (i:=0) rfl aYn rfl rfl rfl (vs':=(a0q s5 A5 n5 c5 B5 m5 d5)) rfl rfl (fun w6 HS => ?_)
 refine jn ?_
 refine JC.ret (fun a ha => ?_)
 repeat (first | refine dh ?_ | refine df ?_)
 refine fG (v:=(a0p s5 A5 n5 c5 B5 m5 d5)) ha Tryz.results46 (.agg rfl aYp aYn (HS.box _ (.head _)) rfl rfl) ⟨_,rfl,?_⟩
 exact ⟨_,_,_,_,_,_,_,rfl,HS.out 2 5 0 rfl rfl rfl (fun _ h=>h.as rfl (by omega))⟩
set_option maxHeartbeats 400000 in
theorem aGX (HT:Tz W0) (HB:Tab W0) {af:Rat} {bC:Nat} {bu:Bool} {ah:Rat} {bD:Nat} {bn:Bool} (HS:St W0 U Ps w) (f1a:FV (a0p ax ay aj c1a az ak aA) af bC bu w) (bI:FV (a0p aB aC n1b aG aF au aH) ah bD bn w) (hk:bC+bD≤900):bY Tryz.prog 35 [(a0r ax ay aj c1a az ak aA aB aC n1b aG aF au aH)] w (iP W0 U Ps (.tuple #[.int .i64 (rG (bV bu bn af ah) (bW bu bn af ah)),.bool (okS (bV bu bn af ah) (bW bu bn af ah))])):=by
 have HS:=HS.add (FV.stable _ _ _ _) f1a
 have HS:=HS.add (FV.stable _ _ _ _) bI
 clear f1a bI
 refine iL Tryz.func35 rfl Tryz.ntmps35 rfl ?_
 refine JC.seq ?_
 refine JC.region ?_
 refine JL.box (vs:=(a0s ax ay aj c1a az ak aA aB aC n1b aG aF au aH)) HS rfl rfl rfl rfl (fun g1 w1 HS => ?_)
 refine Lv (.int .i64 0) (fun a ha=>run_assign (ha.ev rfl)) ?_
 refine Lv (.bool false) (fun a ha=>run_assign (ha.ev rfl)) ?_
 refine jn ?_
 refine JC.seq ?_
 refine JC.region ?_
 refine JL.load (a0r ax ay aj c1a az ak aA aB aC n1b aG aF au aH) HS 0 rfl rfl rfl aYq aYo rfl rfl ?_
 refine JL.call rfl rfl aYz (sO HT HB HS (HS.at_ 1 rfl) (HS.at_ 0 rfl) (by omega)) (fun v2 w2 HR2 => ?_)
 obtain ⟨aP,aQ,aK,aS,aU,aN,aY,aV,aW,aO,aX,aZ,aT,bf,rfl,HS⟩:=HR2
 refine JL.store HS rfl rfl (i:=0) rfl aYo rfl rfl rfl (vs':=(a0s aP aQ aK aS aU aN aY aV aW aO aX aZ aT bf)) rfl rfl (fun w3 HS => ?_)
 refine jn ?_
 refine JC.seq ?_
 refine JC.region ?_
 refine JL.load (a0r aP aQ aK aS aU aN aY aV aW aO aX aZ aT bf) HS 0 rfl rfl rfl aYq aYo rfl rfl ?_
 refine JL.call rfl rfl Tryz.call125 (ajY HT HB HS (HS.at_ 0 rfl) (HS.at_ 1 rfl) ) (fun v4 w4 HR4 => ?_)
 obtain ⟨rfl,HS⟩:=HR4
 refine Lv (.int .i64 (rG (bV bu bn af ah) (bW bu bn af ah))) (fun a ha=>run_assign (ha.ev rfl)) ?_
 refine jn ?_
 refine JC.seq ?_
 refine JC.region ?_
 refine Lv (.int .i64 (rG (bV bu bn af ah) (bW bu bn af ah))) (fun a ha=>run_move (ha.ev rfl)) ?_
 refine Lv (.int .i64 (rG (bV bu bn af ah) (bW bu bn af ah))) (fun a ha=>run_move (ha.ev rfl)) ?_
 refine Lv (.bool ((rG (bV bu bn af ah) (bW bu bn af ah)) != 0)) (fun a ha=>ael (ha.ev rfl) (ha.ev rfl) rfl) ?_
 cases Ap:((rG (bV bu bn af ah) (bW bu bn af ah)) != 0)
 ·skip
  refine Lv (.bool false) (fun a ha=>run_move (ha.ev rfl)) ?_
  refine Lg (.pointer (some ⟨g1,0,none⟩)) (fun a ha=>bH (ha.ev rfl) aYr rfl aYn rfl rfl) ?_
  refine Lg (a0p aP aQ aK aS aU aN aY) (fun a ha=>gU (ha.ev rfl) aYp aYn (HS.box _ (.head _)) rfl rfl) ?_
  refine JL.cZ rfl rfl rfl rfl rfl rfl aZc (Qy HT HB HS (HS.at_ 0 rfl) ) (fun v6 w6 uk => ?_)
  obtain ⟨rfl,HS⟩:=uk
  cases PR:((decide (aK=0)))
  ·skip
   refine Lg (.bool false) (fun a ha=>run_move (ha.ev rfl)) ?_
   refine Lp ?_
   refine Lp ?_
   refine Lp ?_
   refine Lg (.bool false) (fun a ha=>gB (ha.ev rfl) (ha.ev rfl)) ?_
   refine Lv (.bool false) (fun a ha=>gB (ha.ev rfl) (ha.ev rfl)) ?_
   refine Lv (.int .i64 (rG (bV bu bn af ah) (bW bu bn af ah))) (fun a ha=>run_assign (ha.ev rfl)) ?_
   refine Lv (.bool false) (fun a ha=>run_assign (ha.ev rfl)) ?_
   refine jn ?_
   refine JC.ret (fun a ha => ?_)
   repeat (first | refine dh ?_ | refine df ?_)
   refine vI (v := .int .i64 (rG (bV bu bn af ah) (bW bu bn af ah))) (v' := .bool false) ha Tryz.results35 (.tmp rfl) (.tmp rfl) ⟨_,rfl,?_⟩
   exact ⟨(congrArg (fun b=>Value.tuple #[.int .i64 (rG (bV bu bn af ah) (bW bu bn af ah)),.bool b]) (aBF (by assumption) (FV.nz (HS.at_ 0 rfl)) (by assumption))),HS.gy 1 4 rfl rfl⟩
  ·skip
   refine Lg (.bool true) (fun a ha=>run_move (ha.ev rfl)) ?_
   refine Lg (.pointer (some ⟨g1,3,none⟩)) (fun a ha=>bH (ha.ev rfl) aYr rfl aYn rfl rfl) ?_
   refine Lg (a0p aV aW aO aX aZ aT bf) (fun a ha=>gU (ha.ev rfl) aYp aYn (HS.box _ (.head _)) rfl rfl) ?_
   refine JL.cZ rfl rfl rfl rfl rfl rfl aZc (Qy HT HB HS (HS.at_ 1 rfl) ) (fun v8 w8 CJ => ?_)
   obtain ⟨rfl,HS⟩:=CJ
   refine Lg (.bool (decide (aO=0))) (fun a ha=>eY (ha.ev rfl) (ha.ev rfl)) ?_
   refine Lv (.bool (decide (aO=0))) (fun a ha=>gB (ha.ev rfl) (ha.ev rfl)) ?_
   refine Lv (.int .i64 (rG (bV bu bn af ah) (bW bu bn af ah))) (fun a ha=>run_assign (ha.ev rfl)) ?_
   refine Lv (.bool (decide (aO=0))) (fun a ha=>run_assign (ha.ev rfl)) ?_
   refine jn ?_
   refine JC.ret (fun a ha => ?_)
   repeat (first | refine dh ?_ | refine df ?_)
   refine vI (v := .int .i64 (rG (bV bu bn af ah) (bW bu bn af ah))) (v' := .bool (decide (aO=0))) ha Tryz.results35 (.tmp rfl) (.tmp rfl) ⟨_,rfl,?_⟩
   exact ⟨(congrArg (fun b=>Value.tuple #[.int .i64 (rG (bV bu bn af ah) (bW bu bn af ah)),.bool b]) (aBG (by assumption) (FV.nz (HS.at_ 0 rfl)) (by assumption) (FV.nz (HS.at_ 1 rfl)))),HS.gy 1 4 rfl rfl⟩
 ·skip
  refine Lv (.bool true) (fun a ha=>run_move (ha.ev rfl)) ?_
  refine Lp ?_
  refine Lp ?_
  refine Lp ?_
  refine Lp ?_
  refine AX ?_
  refine AX ?_
  refine AX ?_
  refine Lp ?_
  refine Lv (.bool true) (fun a ha=>eY (ha.ev rfl) (ha.ev rfl)) ?_
  refine Lv (.int .i64 (rG (bV bu bn af ah) (bW bu bn af ah))) (fun a ha=>run_assign (ha.ev rfl)) ?_
  refine Lv (.bool true) (fun a ha=>run_assign (ha.ev rfl)) ?_
  refine jn ?_
  refine JC.ret (fun a ha => ?_)
  repeat (first | refine dh ?_ | refine df ?_)
  refine vI (v := .int .i64 (rG (bV bu bn af ah) (bW bu bn af ah))) (v' := .bool true) ha Tryz.results35 (.tmp rfl) (.tmp rfl) ⟨_,rfl,?_⟩
  exact ⟨(congrArg (fun b=>Value.tuple #[.int .i64 (rG (bV bu bn af ah) (bW bu bn af ah)),.bool b]) (aBE (by assumption))),HS.gy 1 4 rfl rfl⟩
end
end Go.Proofs.YtbihljnjaondcaaGreatDoor
namespace Go.Proofs.YtbihljnjaondcaaGreatDoor
open Go Go.RowKit Lw bZ
section
variable {W0 w:World} {U:List Box} {Ps:List (World→Prop)}
variable {s1:Bool} {A1:Option Addr} {n1 c1:Nat} {B1:Option Addr} {m1 d1:Nat}
set_option maxHeartbeats 1600000 in
theorem aES (HT:Tz W0) (HB:Tab W0) {g:Nat} {q1:Rat} {k1:Nat} {b1:Bool} (HS:St W0 (⟨g,24,(a0q s1 A1 n1 c1 B1 m1 d1)⟩ :: U) Ps w) (f1:FV (a0p s1 A1 n1 c1 B1 m1 d1) q1 k1 b1 w) (hk:k1+(k1)≤780):bY Tryz.prog 123 [.slice (some ⟨g,0,none⟩) 1 1] w (xG W0 (⟨g,24,(a0q s1 A1 n1 c1 B1 m1 d1)⟩ :: U) Ps (q1) (q1) (k1+(k1)+12)):=by
 have HS:=HS.add (FV.stable _ _ _ _) f1
 clear f1
 refine iL Tryz.func123 rfl Tryz.ntmps123 rfl ?_
 refine JC.seq ?_
 refine JC.region ?_
 refine JL.alloc (vs:=cO) HS rfl aYt rfl rfl (fun g1 w1 HS => ?_)
 refine jn ?_
 refine JC.cut (ι:=Yo) (fun ⟨jq,iT,jl,ja,iW,jh,jd,iO,iH,n2009,iJ,iI,iM,iK,gZ⟩=>[(0,.slice (some ⟨g,0,none⟩) 1 1),(2,.pointer (some ⟨g1,0,none⟩)),(3,.pointer (some ⟨gZ,0,none⟩))]) (fun ⟨jq,iT,jl,ja,iW,jh,jd,iO,iH,n2009,iJ,iI,iM,iK,gZ⟩ w=>St W0 (⟨gZ,48,(a0s jq iT jl ja iW jh jd iO iH n2009 iJ iI iM iK)⟩ :: ⟨g1,48,cO⟩ :: ⟨g,24,(a0q s1 A1 n1 c1 B1 m1 d1)⟩ :: U) (FV (a0p iO iH n2009 iJ iI iM iK) (q1+0) (k1+0+2) true :: FV (a0p jq iT jl ja iW jh jd) (q1+0) (k1+0+2) true :: FV (a0p s1 A1 n1 c1 B1 m1 d1) q1 k1 b1 :: Ps) w) ?_ ?_
 ·skip
  refine JC.draw HS [] (by kernel_rfl) (fun w3 HS => ?_)
  refine Dv (.slice (some ⟨g,0,none⟩) 1 1) 0 rfl HS.b0 (fun a ha w=>run_move (ha.ev rfl)) ?_
  refine Dv (.pointer (some ⟨g,0,none⟩)) 1 rfl HS.b0 (fun a ha w=>zC (ha.ev rfl) (ha.ev rfl) aYC aYn (j:=0) rfl (by decide) rfl) ?_
  refine Da (a0p s1 A1 n1 c1 B1 m1 d1) 2 1 rfl HS.b0 rfl rfl aYp aYn ?_
  refine Dv yw 3 rfl HS.b0 (fun a ha w=>bZ.run_build (vs:=[]) (by simp only [List.map_cons,List.map_nil]) aYx aYs Dh rfl) ?_
  refine Dv (.slice (some ⟨g,0,none⟩) 1 1) 5 rfl HS.b0 (fun a ha w=>run_move (ha.ev rfl)) ?_
  refine Dv (.pointer (some ⟨g,0,none⟩)) 6 rfl HS.b0 (fun a ha w=>zC (ha.ev rfl) (ha.ev rfl) aYC aYn (j:=0) rfl (by decide) rfl) ?_
  refine Da (a0p s1 A1 n1 c1 B1 m1 d1) 7 1 rfl HS.b0 rfl rfl aYp aYn ?_
  refine Dv yw 8 rfl HS.b0 (fun a ha w=>bZ.run_build (vs:=[]) (by simp only [List.map_cons,List.map_nil]) aYx aYs Dh rfl) ?_
  refine JR.any [4,11] (by kernel_rfl) rfl ?_
  refine ai.call rfl rfl rfl aYR (Bf HT HB HS (HS.at_ 0 rfl) (FV.zero 0 _) (by omega)) rfl (fun ZJ ZX Iu => ?_) ?_
  ·skip
   obtain ⟨jq,iT,jl,ja,iW,jh,jd,rfl,HS⟩:=Iu
   refine ⟨HS.b0,?_⟩
   refine JR.any [9,11] (by kernel_rfl) rfl ?_
   refine ai.call rfl rfl rfl aYR (Bf HT HB HS (HS.at_ 1 rfl) (FV.zero 0 _) (by omega)) rfl (fun Qs QB CB => ?_) ?_
   ·skip
    obtain ⟨iO,iH,n2009,iJ,iI,iM,iK,rfl,HS⟩:=CB
    refine ⟨HS.b0,?_⟩
    refine Dv (a0r jq iT jl ja iW jh jd iO iH n2009 iJ iI iM iK) 10 rfl HS.b0 (fun a ha w=>bZ.run_build (vs:=[(0,(a0p jq iT jl ja iW jh jd)),(1,(a0p iO iH n2009 iJ iI iM iK))]) (by simp only [List.map_cons,List.map_nil,ha.ev (x := .tmp 10) (v:=(a0p jq iT jl ja iW jh jd)) rfl,ha.ev (x := .tmp 15) (v:=(a0p iO iH n2009 iJ iI iM iK)) rfl]) aYr aYt pV rfl) ?_
    refine jy (vs:=cO) 11 HS rfl aYt rfl (fun gZ _ HS=>⟨HS.b1,?_⟩)
    refine bF 12 (a0s jq iT jl ja iW jh jd iO iH n2009 iJ iI iM iK) HS 0 rfl rfl rfl rfl aYo (fun _ HS=>⟨HS.b1,?_⟩)
    exact JR.mt (jq,iT,jl,ja,iW,jh,jd,iO,iH,n2009,iJ,iI,iM,iK,gZ) HS
   refine ai.alloc (vs:=cO) HS rfl rfl aYt rfl rfl rfl (fun gZ ZY HS => ?_) ai.nil
   refine ⟨HS.b1,?_⟩
   refine bJ 9 rfl rfl rfl aYR (Bf HT HB HS (HS.at_ 1 rfl) (FV.zero 0 _) (by omega)) (fun Qs QB CB => ?_)
   obtain ⟨iO,iH,n2009,iJ,iI,iM,iK,rfl,HS⟩:=CB
   refine ⟨HS.b1,?_⟩
   refine Dv (a0r jq iT jl ja iW jh jd iO iH n2009 iJ iI iM iK) 10 rfl HS.b1 (fun a ha w=>bZ.run_build (vs:=[(0,(a0p jq iT jl ja iW jh jd)),(1,(a0p iO iH n2009 iJ iI iM iK))]) (by simp only [List.map_cons,List.map_nil,ha.ev (x := .tmp 10) (v:=(a0p jq iT jl ja iW jh jd)) rfl,ha.ev (x := .tmp 15) (v:=(a0p iO iH n2009 iJ iI iM iK)) rfl]) aYr aYt pV rfl) ?_
   refine bF 12 (a0s jq iT jl ja iW jh jd iO iH n2009 iJ iI iM iK) HS 0 rfl rfl rfl rfl aYo (fun _ HS=>⟨HS.b1,?_⟩)
   exact JR.mt (jq,iT,jl,ja,iW,jh,jd,iO,iH,n2009,iJ,iI,iM,iK,gZ) HS
  refine ai.alloc (vs:=cO) HS rfl rfl aYt rfl rfl rfl (fun gZ ZY HS => ?_) ai.nil
  refine ⟨HS.b1,?_⟩
  refine bJ 4 rfl rfl rfl aYR (Bf HT HB HS (HS.at_ 0 rfl) (FV.zero 0 _) (by omega)) (fun ZJ ZX Iu => ?_)
  obtain ⟨jq,iT,jl,ja,iW,jh,jd,rfl,HS⟩:=Iu
  refine ⟨HS.b1,?_⟩
  refine bJ 9 rfl rfl rfl aYR (Bf HT HB HS (HS.at_ 1 rfl) (FV.zero 0 _) (by omega)) (fun Qs QB CB => ?_)
  obtain ⟨iO,iH,n2009,iJ,iI,iM,iK,rfl,HS⟩:=CB
  refine ⟨HS.b1,?_⟩
  refine Dv (a0r jq iT jl ja iW jh jd iO iH n2009 iJ iI iM iK) 10 rfl HS.b1 (fun a ha w=>bZ.run_build (vs:=[(0,(a0p jq iT jl ja iW jh jd)),(1,(a0p iO iH n2009 iJ iI iM iK))]) (by simp only [List.map_cons,List.map_nil,ha.ev (x := .tmp 10) (v:=(a0p jq iT jl ja iW jh jd)) rfl,ha.ev (x := .tmp 15) (v:=(a0p iO iH n2009 iJ iI iM iK)) rfl]) aYr aYt pV rfl) ?_
  refine bF 12 (a0s jq iT jl ja iW jh jd iO iH n2009 iJ iI iM iK) HS 0 rfl rfl rfl rfl aYo (fun _ HS=>⟨HS.b1,?_⟩)
  exact JR.mt (jq,iT,jl,ja,iW,jh,jd,iO,iH,n2009,iJ,iI,iM,iK,gZ) HS
 ·skip
  rintro ⟨jq,iT,jl,ja,iW,jh,jd,iO,iH,n2009,iJ,iI,iM,iK,gZ⟩ ati HS
  try dsimp only at HS ⊢
  refine JC.seq ?_
  refine JC.seq ?_
  refine JC.region ?_
  refine Lv (.slice (some ⟨g,0,none⟩) 1 1) (fun a ha=>run_move (ha.ev rfl)) ?_
  refine Lv (.int .i64 1) (fun a ha=>yV (ha.ev rfl) aYC) ?_
  refine Lv (.int .i64 0) (fun a ha=>run_move (ha.ev rfl)) ?_
  refine jn ?_
  refine JC.block ?_
  refine JC.Qr 40 ?_
  refine JC.seq ?_
  refine JC.region ?_
  refine Lv (.bool true) (fun a ha=>qX (ha.ev rfl) (ha.ev rfl) (by decide)) ?_
  refine jn ?_
  refine JC.seq ?_
  refine JC.iy rfl ?_
  refine JC.jF (fun _ _ h=>h) ?_
  refine JC.seq ?_
  refine JC.block ?_
  refine JC.seq ?_
  refine JC.region ?_
  refine Lv (.pointer (some ⟨g,0,none⟩)) (fun a ha=>zC (ha.ev rfl) (ha.ev rfl) aYC aYn (j:=0) rfl (by decide) rfl) ?_
  refine JL.load (a0p s1 A1 n1 c1 B1 m1 d1) HS 2 rfl rfl rfl aYp aYn rfl rfl ?_
  refine JL.alloc (vs:=bU) HS rfl aYs rfl rfl (fun g4 w4 HS => ?_)
  refine JL.store HS rfl rfl (i:=0) rfl aYn rfl rfl rfl (vs':=(a0q s1 A1 n1 c1 B1 m1 d1)) rfl rfl (fun w5 HS => ?_)
  refine jn ?_
  refine JC.IL (ι:=PS) (fun ⟨jw,iV,jo,jc,iZ,jk,jf,rq,qh,qV,qC,qo,qO,qJ⟩=>[(0,.slice (some ⟨g,0,none⟩) 1 1),(2,.pointer (some ⟨g1,0,none⟩)),(3,.pointer (some ⟨gZ,0,none⟩)),(5,.pointer (some ⟨g4,0,none⟩)),(17,.slice (some ⟨g,0,none⟩) 1 1),(18,.int .i64 1),(19,.int .i64 0),(20,.bool true),(21,.pointer (some ⟨g,0,none⟩)),(22,(a0p s1 A1 n1 c1 B1 m1 d1))]) (fun ⟨jw,iV,jo,jc,iZ,jk,jf,rq,qh,qV,qC,qo,qO,qJ⟩ w=>St W0 (⟨g4,24,(a0q s1 A1 n1 c1 B1 m1 d1)⟩ :: ⟨gZ,48,(a0s jw iV jo jc iZ jk jf rq qh qV qC qo qO qJ)⟩ :: ⟨g1,48,cO⟩ :: ⟨g,24,(a0q s1 A1 n1 c1 B1 m1 d1)⟩ :: U) (FV (a0p rq qh qV qC qo qO qJ) (gX (q1+0) q1) ((k1+0+2)+k1+2) true :: FV (a0p jw iV jo jc iZ jk jf) (gY (q1+0) q1) ((k1+0+2)+k1+2) true :: FV (a0p iO iH n2009 iJ iI iM iK) (q1+0) (k1+0+2) true :: FV (a0p jq iT jl ja iW jh jd) (q1+0) (k1+0+2) true :: FV (a0p s1 A1 n1 c1 B1 m1 d1) q1 k1 b1 :: Ps) w) ?_ ?_
  ·skip
   refine JC.draw HS [9,11] (by kernel_rfl) (fun w8 HS => ?_)
   refine Dv (.pointer (some ⟨gZ,0,none⟩)) 0 rfl HS.b0 (fun a ha w=>bH (ha.ev rfl) aYr rfl aYn rfl rfl) ?_
   refine Da (a0p jq iT jl ja iW jh jd) 1 1 rfl HS.b0 rfl rfl aYp aYn ?_
   refine Da (a0p s1 A1 n1 c1 B1 m1 d1) 2 0 rfl HS.b0 rfl rfl aYp aYn ?_
   refine Dv (.pointer (some ⟨gZ,3,none⟩)) 4 rfl HS.b0 (fun a ha w=>bH (ha.ev rfl) aYr rfl aYn rfl rfl) ?_
   refine Da (a0p iO iH n2009 iJ iI iM iK) 5 1 rfl HS.b0 rfl rfl aYp aYn ?_
   refine JR.any [3,6] (by kernel_rfl) rfl ?_
   refine ai.call rfl rfl rfl aYB (vg HT HB HS (HS.at_ 1 rfl) (HS.at_ 2 rfl) (by omega)) rfl (fun Qu QC CG => ?_) ?_
   ·skip
    obtain ⟨jw,iV,jo,jc,iZ,jk,jf,rfl,HS⟩:=CG
    refine ⟨HS.b0,?_⟩
    refine Dv (.pointer (some ⟨gZ,0,none⟩)) 8 rfl HS.b0 (fun a ha w=>bH (ha.ev rfl) aYr rfl aYn rfl rfl) ?_
    refine J1 6 (by kernel_rfl) ?_
    refine ai.load (a0p s1 A1 n1 c1 B1 m1 d1) HS 0 rfl rfl rfl rfl aYp aYn rfl rfl rfl ?_ ai.nil
    refine ⟨HS.b0,?_⟩
    refine bJ 7 rfl rfl rfl aYI (yK HT HB HS (HS.at_ 1 rfl) (HS.at_ 3 rfl) (by omega)) (fun VD QD FO => ?_)
    obtain ⟨rq,qh,qV,qC,qo,qO,qJ,rfl,HS⟩:=FO
    refine ⟨HS.b0,?_⟩
    refine bF 9 (a0s jw iV jo jc iZ jk jf iO iH n2009 iJ iI iM iK) HS 1 rfl rfl rfl rfl aYn (fun _ HS=>⟨(eX (s:=9) rfl rfl),?_⟩)
    refine Dv (.pointer (some ⟨gZ,3,none⟩)) 10 rfl (eX (s:=9) rfl rfl) (fun a ha w=>bH (ha.ev rfl) aYr rfl aYn rfl rfl) ?_
    refine bF 11 (a0s jw iV jo jc iZ jk jf rq qh qV qC qo qO qJ) HS 1 rfl rfl rfl rfl aYn (fun _ HS=>⟨(eX (s:=9) rfl rfl),?_⟩)
    exact JR.mt (jw,iV,jo,jc,iZ,jk,jf,rq,qh,qV,qC,qo,qO,qJ) HS
   refine ai.load (a0p s1 A1 n1 c1 B1 m1 d1) HS 0 rfl rfl rfl rfl aYp aYn rfl rfl rfl ?_ ai.nil
   refine ⟨HS.b0,?_⟩
   refine bJ 3 rfl rfl rfl aYB (vg HT HB HS (HS.at_ 1 rfl) (HS.at_ 2 rfl) (by omega)) (fun Qu QC CG => ?_)
   obtain ⟨jw,iV,jo,jc,iZ,jk,jf,rfl,HS⟩:=CG
   refine ⟨HS.b0,?_⟩
   refine Dv (.pointer (some ⟨gZ,0,none⟩)) 8 rfl HS.b0 (fun a ha w=>bH (ha.ev rfl) aYr rfl aYn rfl rfl) ?_
   refine bJ 7 rfl rfl rfl aYI (yK HT HB HS (HS.at_ 1 rfl) (HS.at_ 3 rfl) (by omega)) (fun VD QD FO => ?_)
   obtain ⟨rq,qh,qV,qC,qo,qO,qJ,rfl,HS⟩:=FO
   refine ⟨HS.b0,?_⟩
   refine bF 9 (a0s jw iV jo jc iZ jk jf iO iH n2009 iJ iI iM iK) HS 1 rfl rfl rfl rfl aYn (fun _ HS=>⟨(eX (s:=9) rfl rfl),?_⟩)
   refine Dv (.pointer (some ⟨gZ,3,none⟩)) 10 rfl (eX (s:=9) rfl rfl) (fun a ha w=>bH (ha.ev rfl) aYr rfl aYn rfl rfl) ?_
   refine bF 11 (a0s jw iV jo jc iZ jk jf rq qh qV qC qo qO qJ) HS 1 rfl rfl rfl rfl aYn (fun _ HS=>⟨(eX (s:=9) rfl rfl),?_⟩)
   exact JR.mt (jw,iV,jo,jc,iZ,jk,jf,rq,qh,qV,qC,qo,qO,qJ) HS
  ·skip
   rintro ⟨jw,iV,jo,jc,iZ,jk,jf,rq,qh,qV,qC,qo,qO,qJ⟩ akp HS
   try dsimp only at HS ⊢
   refine JL.EH (fun _ _ h=>h) ?_
   refine JC.region ?_
   refine Lv (.int .i64 1) (fun a ha=>BX (ha.ev rfl) (ha.ev rfl) (by decide)) ?_
   refine Lv (.int .i64 1) (fun a ha=>run_move (ha.ev rfl)) ?_
   refine JL.again 39 (fun _ _ h=>h) ?_
   refine JC.seq ?_
   refine JC.region ?_
   refine Lv (.bool false) (fun a ha=>qX (ha.ev rfl) (ha.ev rfl) (by decide)) ?_
   refine jn ?_
   refine JC.seq ?_
   refine JC.jA rfl ?_
   refine JC.exit (fun _ _ h=>h) (fun _ _ h=>h) ?_
   refine JC.seq ?_
   refine JC.region ?_
   refine JL.load (a0r jw iV jo jc iZ jk jf rq qh qV qC qo qO qJ) HS 1 rfl rfl rfl aYq aYo rfl rfl ?_
   refine JL.store HS rfl rfl (i:=2) rfl aYo rfl rfl rfl (vs':=(a0s jw iV jo jc iZ jk jf rq qh qV qC qo qO qJ)) rfl rfl (fun w9 HS => ?_)
   refine jn ?_
   refine JC.ret (fun a ha => ?_)
   repeat (first | refine dh ?_ | refine df ?_)
   refine fG (v:=(a0r jw iV jo jc iZ jk jf rq qh qV qC qo qO qJ)) ha Tryz.results123 (.agg rfl aYq aYo (HS.box _ (.tail _ (.tail _ (.head _)))) rfl rfl) ⟨_,rfl,?_⟩
   exact ⟨_,_,_,_,_,_,_,_,_,_,_,_,_,_,rfl,HS.tY 3 5 1 0 rfl rfl rfl (fun _ h=>h.as (ajC _) (by omega)) rfl (fun _ h=>h.as (ajB _) (by omega))⟩
end
end Go.Proofs.YtbihljnjaondcaaGreatDoor
namespace Go.Proofs.YtbihljnjaondcaaGreatDoor
open Go Go.RowKit Lw bZ
section
variable {W0 w:World} {U:List Box} {Ps:List (World→Prop)}
variable {s1:Bool} {A1:Option Addr} {n1 c1:Nat} {B1:Option Addr} {m1 d1:Nat} {ax:Bool} {ay:Option Addr} {aj c1a:Nat} {az:Option Addr} {ak aA:Nat} {aB:Bool} {aC:Option Addr} {n1b aG:Nat} {aF:Option Addr} {au aH:Nat} {s2:Bool} {A2:Option Addr} {n2 c2:Nat} {B2:Option Addr} {m2 d2:Nat} {aP:Bool} {aQ:Option Addr} {aK aS:Nat} {aU:Option Addr} {aN aY:Nat} {aV:Bool} {aW:Option Addr} {aO aX:Nat} {aZ:Option Addr} {aT bf:Nat}
set_option maxHeartbeats 400000 in
theorem aE7 (HT:Tz W0) (HB:Tab W0) {q1:Rat} {k1:Nat} {b1:Bool} {q2:Rat} {k2:Nat} {b2:Bool} (HS:St W0 U Ps w) (f1:FV (a0p s1 A1 n1 c1 B1 m1 d1) q1 k1 b1 w) (f2:FV (a0p s2 A2 n2 c2 B2 m2 d2) q2 k2 b2 w) (hk:k1+k2≤200) (hc:q2 < q1):bY Tryz.prog 34 [(a0p s1 A1 n1 c1 B1 m1 d1),(a0p s2 A2 n2 c2 B2 m2 d2)] w (iP W0 U Ps (.tuple #[fO,.int .i64 3])):=by
 have HS:=HS.add (FV.stable _ _ _ _) f1
 have HS:=HS.add (FV.stable _ _ _ _) f2
 clear f1 f2
 refine iL Tryz.func34 rfl Tryz.ntmps34 rfl ?_
 refine JC.seq ?_
 refine JC.region ?_
 refine JL.box (vs:=(a0q s1 A1 n1 c1 B1 m1 d1)) HS rfl rfl rfl rfl (fun g1 w1 HS => ?_)
 refine JL.box (vs:=(a0q s2 A2 n2 c2 B2 m2 d2)) HS rfl rfl rfl rfl (fun g2 w2 HS => ?_)
 refine JL.alloc (vs:=cO) HS rfl aYt rfl rfl (fun g3 w3 HS => ?_)
 refine Lv (.int .i64 0) (fun a ha=>run_assign (ha.ev rfl)) ?_
 refine jn ?_
 refine JC.seq ?_
 refine JC.seq ?_
 refine JC.region ?_
 refine JL.load (a0p s1 A1 n1 c1 B1 m1 d1) HS 2 rfl rfl rfl aYp aYn rfl rfl ?_
 refine JL.load (a0p s2 A2 n2 c2 B2 m2 d2) HS 1 rfl rfl rfl aYp aYn rfl rfl ?_
 refine JL.call rfl rfl aZd (Qb HT HB HS (HS.at_ 1 rfl) (HS.at_ 0 rfl) (by omega)) (fun v4 w4 HR4 => ?_)
 obtain ⟨rfl,HS⟩:=HR4
 refine Lv (.bool true) (fun a ha=>wH (ha.ev rfl) (ha.ev rfl) ((Kr _ _).trans (decide_eq_true hc))) ?_
 refine jn ?_
 refine JC.iy rfl ?_
 refine JC.seq ?_
 refine JC.region ?_
 refine Lv fO (fun a ha=>bZ.run_build (vs:=[]) (by simp only [List.map_cons,List.map_nil]) aYr aYt pV rfl) ?_
 refine JL.store HS rfl rfl (i:=0) rfl aYo rfl rfl rfl (vs':=cO) rfl rfl (fun w5 HS => ?_)
 refine Lv (.int .i64 3) (fun a ha=>run_assign (ha.ev rfl)) ?_
 refine jn ?_
 refine JC.ret (fun a ha => ?_)
 repeat (first | refine dh ?_ | refine df ?_)
 refine vI (v:=fO) (v' := .int .i64 3) ha Tryz.results34 (.agg rfl aYq aYo (HS.box _ (.head _)) rfl rfl) (.tmp rfl) ⟨_,rfl,?_⟩
 exact ⟨rfl,HS.gy 3 2 rfl rfl⟩
set_option maxHeartbeats 400000 in
theorem aE6 (HT:Tz W0) (HB:Tab W0) {q1:Rat} {k1:Nat} {b1:Bool} {q2:Rat} {k2:Nat} {b2:Bool} (HS:St W0 U Ps w) (f1:FV (a0p s1 A1 n1 c1 B1 m1 d1) q1 k1 b1 w) (f2:FV (a0p s2 A2 n2 c2 B2 m2 d2) q2 k2 b2 w) (hk:k1+k2≤200) (hc:q1≤q2):bY Tryz.prog 34 [(a0p s1 A1 n1 c1 B1 m1 d1),(a0p s2 A2 n2 c2 B2 m2 d2)] w (yY W0 U Ps (q1) (q2) (k1+(k1+k2)+12) (.int .i64 0)):=by
 have HS:=HS.add (FV.stable _ _ _ _) f1
 have HS:=HS.add (FV.stable _ _ _ _) f2
 clear f1 f2
 refine iL Tryz.func34 rfl Tryz.ntmps34 rfl ?_
 refine JC.seq ?_
 refine JC.region ?_
 refine JL.box (vs:=(a0q s1 A1 n1 c1 B1 m1 d1)) HS rfl rfl rfl rfl (fun g1 w1 HS => ?_)
 refine JL.box (vs:=(a0q s2 A2 n2 c2 B2 m2 d2)) HS rfl rfl rfl rfl (fun g2 w2 HS => ?_)
 refine JL.alloc (vs:=cO) HS rfl aYt rfl rfl (fun g3 w3 HS => ?_)
 refine Lv (.int .i64 0) (fun a ha=>run_assign (ha.ev rfl)) ?_
 refine jn ?_
 refine JC.seq ?_
 refine JC.seq ?_
 refine JC.region ?_
 refine JL.load (a0p s1 A1 n1 c1 B1 m1 d1) HS 2 rfl rfl rfl aYp aYn rfl rfl ?_
 refine JL.load (a0p s2 A2 n2 c2 B2 m2 d2) HS 1 rfl rfl rfl aYp aYn rfl rfl ?_
 refine JL.call rfl rfl aZd (Qb HT HB HS (HS.at_ 1 rfl) (HS.at_ 0 rfl) (by omega)) (fun v4 w4 HR4 => ?_)
 obtain ⟨rfl,HS⟩:=HR4
 refine Lv (.bool false) (fun a ha=>wH (ha.ev rfl) (ha.ev rfl) ((Kr _ _).trans (decide_eq_false (show ¬ q2 < q1 by grind)))) ?_
 refine jn ?_
 refine JC.jA rfl ?_
 refine JC.jF (fun _ _ h=>h) ?_
 refine JC.seq ?_
 refine JC.region ?_
 refine JL.load (a0p s1 A1 n1 c1 B1 m1 d1) HS 2 rfl rfl rfl aYp aYn rfl rfl ?_
 refine JL.load (a0p s2 A2 n2 c2 B2 m2 d2) HS 1 rfl rfl rfl aYp aYn rfl rfl ?_
 refine JL.buildSlice (ps:=[(0,(a0p s1 A1 n1 c1 B1 m1 d1)),(1,(a0p s2 A2 n2 c2 B2 m2 d2))]) (vs:=(a0s s1 A1 n1 c1 B1 m1 d1 s2 A2 n2 c2 B2 m2 d2)) HS rfl (fun a ha=>by simp only [List.map_cons,List.map_nil,ha.ev (x := .tmp 11) (v:=(a0p s1 A1 n1 c1 B1 m1 d1)) rfl,ha.ev (x := .tmp 12) (v:=(a0p s2 A2 n2 c2 B2 m2 d2)) rfl]) aYC aYn aYs rfl rfl (by kernel_rfl) rfl (fun g5 w5 HS => ?_)
 refine JL.call rfl rfl aZi (aei HT HB HS (HS.at_ 1 rfl) (HS.at_ 0 rfl) (by omega)) (fun v6 w6 uk => ?_)
 obtain ⟨ZE,V8,Y0,Xz,WJ,YH,XU,ZF,V9,n6b,XA,WL,YI,XV,rfl,HS⟩:=uk
 refine JL.store HS rfl rfl (i:=1) rfl aYo rfl rfl rfl (vs':=(a0s ZE V8 Y0 Xz WJ YH XU ZF V9 n6b XA WL YI XV)) rfl rfl (fun w7 HS => ?_)
 refine Lv (.int .i64 0) (fun a ha=>run_assign (ha.ev rfl)) ?_
 refine jn ?_
 refine JC.ret (fun a ha => ?_)
 repeat (first | refine dh ?_ | refine df ?_)
 refine vI (v:=(a0r ZE V8 Y0 Xz WJ YH XU ZF V9 n6b XA WL YI XV)) (v' := .int .i64 0) ha Tryz.results34 (.agg rfl aYq aYo (HS.box _ (.tail _ (.head _))) rfl rfl) (.tmp rfl) ⟨_,rfl,?_⟩
 exact ⟨_,_,_,_,_,_,_,_,_,_,_,_,_,_,rfl,HS.tY 4 4 0 1 rfl rfl rfl (fun _ h=>h.as (adx hc) (by omega)) rfl (fun _ h=>h.as (YL hc) (by omega))⟩
set_option maxHeartbeats 400000 in
theorem aFb (HT:Tz W0) (HB:Tab W0) {q1:Rat} {k1:Nat} {b1:Bool} (HS:St W0 U Ps w) (f1:FV (a0p s1 A1 n1 c1 B1 m1 d1) q1 k1 b1 w) (hk:k1≤200):bY Tryz.prog 41 [(a0p s1 A1 n1 c1 B1 m1 d1)] w (xG W0 U Ps (q1) (q1) (k1+k1+12)):=by
 have HS:=HS.add (FV.stable _ _ _ _) f1
 clear f1
 refine iL Tryz.func41 rfl Tryz.ntmps41 rfl ?_
 refine JC.seq ?_
 refine JC.region ?_
 refine JL.box (vs:=(a0q s1 A1 n1 c1 B1 m1 d1)) HS rfl rfl rfl rfl (fun g1 w1 HS => ?_)
 refine JL.alloc (vs:=cO) HS rfl aYt rfl rfl (fun g2 w2 HS => ?_)
 refine jn ?_
 refine JC.seq ?_
 refine JC.region ?_
 refine JL.load (a0p s1 A1 n1 c1 B1 m1 d1) HS 1 rfl rfl rfl aYp aYn rfl rfl ?_
 refine JL.buildSlice (ps:=[(0,(a0p s1 A1 n1 c1 B1 m1 d1))]) (vs:=(a0q s1 A1 n1 c1 B1 m1 d1)) HS rfl (fun a ha=>by simp only [List.map_cons,List.map_nil,ha.ev (x := .tmp 3) (v:=(a0p s1 A1 n1 c1 B1 m1 d1)) rfl]) aYC aYn aYs rfl rfl (by kernel_rfl) rfl (fun g3 w3 HS => ?_)
 refine JL.call rfl rfl aZi (aES HT HB HS (HS.at_ 0 rfl) (by omega)) (fun v4 w4 HR4 => ?_)
 obtain ⟨uY,uP,uV,uT,Ci,CZ,CS,uZ,uQ,n4b,uU,Cj,C9,CU,rfl,HS⟩:=HR4
 refine JL.store HS rfl rfl (i:=1) rfl aYo rfl rfl rfl (vs':=(a0s uY uP uV uT Ci CZ CS uZ uQ n4b uU Cj C9 CU)) rfl rfl (fun w5 HS => ?_)
 refine jn ?_
 refine JC.ret (fun a ha => ?_)
 repeat (first | refine dh ?_ | refine df ?_)
 refine fG (v:=(a0r uY uP uV uT Ci CZ CS uZ uQ n4b uU Cj C9 CU)) ha Tryz.results41 (.agg rfl aYq aYo (HS.box _ (.tail _ (.head _))) rfl rfl) ⟨_,rfl,?_⟩
 exact ⟨_,_,_,_,_,_,_,_,_,_,_,_,_,_,rfl,HS.tY 3 3 0 1 rfl rfl rfl (fun _ h=>h.as rfl (by omega)) rfl (fun _ h=>h.as rfl (by omega))⟩
set_option maxHeartbeats 400000 in
theorem aE5 (HT:Tz W0) (HB:Tab W0) {af:Rat} {bC:Nat} {bu:Bool} {ah:Rat} {bD:Nat} {bn:Bool} {aI:Rat} {bM:Nat} {bT:Bool} {aJ:Rat} {bP:Nat} {bQ:Bool} (HS:St W0 U Ps w) (f1a:FV (a0p ax ay aj c1a az ak aA) af bC bu w) (bI:FV (a0p aB aC n1b aG aF au aH) ah bD bn w) (fC:FV (a0p aP aQ aK aS aU aN aY) aI bM bT w) (fD:FV (a0p aV aW aO aX aZ aT bf) aJ bP bQ w) (hk:bC+bD+(bM+bP)≤60):bY Tryz.prog 45 [(a0r ax ay aj c1a az ak aA aB aC n1b aG aF au aH),(a0r aP aQ aK aS aU aN aY aV aW aO aX aZ aT bf)] w (iP W0 U Ps (.bool (decide ((bV bT bQ aI aJ)≤(bV bu bn af ah))&&decide ((bW bu bn af ah)≤(bW bT bQ aI aJ))))):=by
 have HS:=HS.add (FV.stable _ _ _ _) f1a
 have HS:=HS.add (FV.stable _ _ _ _) bI
 have HS:=HS.add (FV.stable _ _ _ _) fC
 have HS:=HS.add (FV.stable _ _ _ _) fD
 clear f1a bI fC fD
 refine iL Tryz.func45 rfl Tryz.ntmps45 rfl ?_
 refine JC.seq ?_
 refine JC.region ?_
 refine JL.box (vs:=(a0s ax ay aj c1a az ak aA aB aC n1b aG aF au aH)) HS rfl rfl rfl rfl (fun g1 w1 HS => ?_)
 refine JL.box (vs:=(a0s aP aQ aK aS aU aN aY aV aW aO aX aZ aT bf)) HS rfl rfl rfl rfl (fun g2 w2 HS => ?_)
 refine Lv (.bool false) (fun a ha=>run_assign (ha.ev rfl)) ?_
 refine jn ?_
 refine JC.seq ?_
 refine JC.region ?_
 refine JL.load (a0r ax ay aj c1a az ak aA aB aC n1b aG aF au aH) HS 1 rfl rfl rfl aYq aYo rfl rfl ?_
 refine JL.call rfl rfl aYE (vT HT HB HS (HS.at_ 3 rfl) (HS.at_ 2 rfl) (by omega)) (fun v3 w3 HR3 => ?_)
 obtain ⟨jS,jZ,kK,kD,kz,kH,kF,l7,lK,lY,lS,lN,lW,lU,rfl,HS⟩:=HR3
 refine JL.store HS rfl rfl (i:=1) rfl aYo rfl rfl rfl (vs':=(a0s jS jZ kK kD kz kH kF l7 lK lY lS lN lW lU)) rfl rfl (fun w4 HS => ?_)
 refine jn ?_
 refine JC.seq ?_
 refine JC.region ?_
 refine JL.load (a0r aP aQ aK aS aU aN aY aV aW aO aX aZ aT bf) HS 0 rfl rfl rfl aYq aYo rfl rfl ?_
 refine Lv (.pointer (some ⟨g1,0,none⟩)) (fun a ha=>bH (ha.ev rfl) aYr rfl aYn rfl rfl) ?_
 refine JL.load (a0p jS jZ kK kD kz kH kF) HS 1 rfl rfl rfl aYp aYn rfl rfl ?_
 refine JL.call rfl rfl aZK (aen HT HB HS (HS.at_ 3 rfl) (HS.at_ 2 rfl) (HS.at_ 0 rfl) (by omega)) (fun v5 w5 vk => ?_)
 obtain ⟨rfl,HS⟩:=vk
 cases EN:((decide ((bV bT bQ aI aJ)≤(bV bu bn af ah))&&decide ((bV bu bn af ah)≤(bW bT bQ aI aJ))))
 ·skip
  refine Lv (.bool false) (fun a ha=>run_move (ha.ev rfl)) ?_
  refine Lp ?_
  refine Lp ?_
  refine Lp ?_
  refine Lp ?_
  refine Lv (.bool false) (fun a ha=>gB (ha.ev rfl) (ha.ev rfl)) ?_
  refine Lv (.bool false) (fun a ha=>run_assign (ha.ev rfl)) ?_
  refine jn ?_
  refine JC.ret (fun a ha => ?_)
  repeat (first | refine dh ?_ | refine df ?_)
  refine fG (v := .bool false) ha Tryz.results45 (.tmp rfl) ⟨_,rfl,?_⟩
  exact ⟨(congrArg Value.bool (aAm (oP _ _ _ _) (by assumption))),HS.gy 2 6 rfl rfl⟩
 ·skip
  refine Lv (.bool true) (fun a ha=>run_move (ha.ev rfl)) ?_
  refine Lg (a0r aP aQ aK aS aU aN aY aV aW aO aX aZ aT bf) (fun a ha=>gU (ha.ev rfl) aYq aYo (HS.box _ (.head _)) rfl rfl) ?_
  refine Lg (.pointer (some ⟨g1,3,none⟩)) (fun a ha=>bH (ha.ev rfl) aYr rfl aYn rfl rfl) ?_
  refine Lg (a0p l7 lK lY lS lN lW lU) (fun a ha=>gU (ha.ev rfl) aYp aYn (HS.box _ (.tail _ (.head _))) rfl rfl) ?_
  refine JL.cZ rfl rfl rfl rfl rfl rfl aZK (aen HT HB HS (HS.at_ 3 rfl) (HS.at_ 2 rfl) (HS.at_ 1 rfl) (by omega)) (fun v7 w7 wM => ?_)
  obtain ⟨rfl,HS⟩:=wM
  refine Lv (.bool (decide ((bV bT bQ aI aJ)≤(bW bu bn af ah))&&decide ((bW bu bn af ah)≤(bW bT bQ aI aJ)))) (fun a ha=>eY (ha.ev rfl) (ha.ev rfl)) ?_
  refine Lv (.bool (decide ((bV bT bQ aI aJ)≤(bW bu bn af ah))&&decide ((bW bu bn af ah)≤(bW bT bQ aI aJ)))) (fun a ha=>run_assign (ha.ev rfl)) ?_
  refine jn ?_
  refine JC.ret (fun a ha => ?_)
  repeat (first | refine dh ?_ | refine df ?_)
  refine fG (v := .bool (decide ((bV bT bQ aI aJ)≤(bW bu bn af ah))&&decide ((bW bu bn af ah)≤(bW bT bQ aI aJ)))) ha Tryz.results45 (.tmp rfl) ⟨_,rfl,?_⟩
  exact ⟨(congrArg Value.bool (aAn (oP _ _ _ _) (by assumption))),HS.gy 2 6 rfl rfl⟩
set_option maxHeartbeats 400000 in
theorem aFk (HT:Tz W0) (HB:Tab W0) {af:Rat} {bC:Nat} {bu:Bool} {ah:Rat} {bD:Nat} {bn:Bool} (HS:St W0 U Ps w) (f1a:FV (a0p ax ay aj c1a az ak aA) af bC bu w) (bI:FV (a0p aB aC n1b aG aF au aH) ah bD bn w) (hk:bC+bD≤300):bY Tryz.prog 47 [(a0r ax ay aj c1a az ak aA aB aC n1b aG aF au aH)] w (xY W0 U Ps ((bW bu bn af ah) - (bV bu bn af ah)) ((bC+bD)+((bC+bD)+1)+2)):=by
 have HS:=HS.add (FV.stable _ _ _ _) f1a
 have HS:=HS.add (FV.stable _ _ _ _) bI
 clear f1a bI
 refine iL Tryz.func47 rfl Tryz.ntmps47 rfl ?_
 refine JC.seq ?_
 refine JC.region ?_
 refine JL.box (vs:=(a0s ax ay aj c1a az ak aA aB aC n1b aG aF au aH)) HS rfl rfl rfl rfl (fun g1 w1 HS => ?_)
 refine JL.alloc (vs:=bU) HS rfl aYs rfl rfl (fun g2 w2 HS => ?_)
 refine jn ?_
 refine JC.seq ?_
 refine JC.region ?_
 refine JL.load (a0r ax ay aj c1a az ak aA aB aC n1b aG aF au aH) HS 1 rfl rfl rfl aYq aYo rfl rfl ?_
 refine JL.call rfl rfl aYE (vT HT HB HS (HS.at_ 1 rfl) (HS.at_ 0 rfl) (by omega)) (fun v3 w3 HR3 => ?_)
 obtain ⟨jS,jZ,kK,kD,kz,kH,kF,l7,lK,lY,lS,lN,lW,lU,rfl,HS⟩:=HR3
 refine JL.store HS rfl rfl (i:=1) rfl aYo rfl rfl rfl (vs':=(a0s jS jZ kK kD kz kH kF l7 lK lY lS lN lW lU)) rfl rfl (fun w4 HS => ?_)
 refine jn ?_
 refine JC.seq ?_
 refine JC.region ?_
 refine Lv (.pointer (some ⟨g1,3,none⟩)) (fun a ha=>bH (ha.ev rfl) aYr rfl aYn rfl rfl) ?_
 refine JL.load (a0p l7 lK lY lS lN lW lU) HS 1 rfl rfl rfl aYp aYn rfl rfl ?_
 refine Lv (.pointer (some ⟨g1,0,none⟩)) (fun a ha=>bH (ha.ev rfl) aYr rfl aYn rfl rfl) ?_
 refine JL.load (a0p jS jZ kK kD kz kH kF) HS 1 rfl rfl rfl aYp aYn rfl rfl ?_
 refine JL.call rfl rfl Tryz.call131 (aqS HT HB HS (HS.at_ 1 rfl) (HS.at_ 0 rfl) (by omega)) (fun v5 w5 vk => ?_)
 obtain ⟨s5,A5,n5,c5,B5,m5,d5,rfl,HS⟩:=vk
 refine JL.store HS rfl rfl (i:=0) rfl aYn rfl rfl rfl (vs':=(a0q s5 A5 n5 c5 B5 m5 d5)) rfl rfl (fun w6 HS => ?_)
 refine jn ?_
 refine JC.ret (fun a ha => ?_)
 repeat (first | refine dh ?_ | refine df ?_)
 refine fG (v:=(a0p s5 A5 n5 c5 B5 m5 d5)) ha Tryz.results47 (.agg rfl aYp aYn (HS.box _ (.head _)) rfl rfl) ⟨_,rfl,?_⟩
 exact ⟨_,_,_,_,_,_,_,rfl,HS.out 2 5 0 rfl rfl rfl (fun _ h=>h.as rfl (by omega))⟩
set_option maxHeartbeats 400000 in
theorem aE' (HT:Tz W0) (HB:Tab W0) {af:Rat} {bC:Nat} {bu:Bool} {ah:Rat} {bD:Nat} {bn:Bool} (HS:St W0 U Ps w) (f1a:FV (a0p ax ay aj c1a az ak aA) af bC bu w) (bI:FV (a0p aB aC n1b aG aF au aH) ah bD bn w) (hk:bC+bD≤300):bY Tryz.prog 49 [(a0r ax ay aj c1a az ak aA aB aC n1b aG aF au aH)] w (xY W0 U Ps (((bV bu bn af ah)+(bW bu bn af ah))*Rat.divInt 1 2) (6+((bC+bD)+(bC+bD)+2)+2)):=by
 have HS:=HS.add (FV.stable _ _ _ _) f1a
 have HS:=HS.add (FV.stable _ _ _ _) bI
 clear f1a bI
 refine iL Tryz.func49 rfl Tryz.ntmps49 rfl ?_
 refine JC.seq ?_
 refine JC.region ?_
 refine JL.box (vs:=(a0s ax ay aj c1a az ak aA aB aC n1b aG aF au aH)) HS rfl rfl rfl rfl (fun g1 w1 HS => ?_)
 refine JL.alloc (vs:=bU) HS rfl aYs rfl rfl (fun g2 w2 HS => ?_)
 refine jn ?_
 refine JC.seq ?_
 refine JC.region ?_
 refine JL.load (a0r ax ay aj c1a az ak aA aB aC n1b aG aF au aH) HS 1 rfl rfl rfl aYq aYo rfl rfl ?_
 refine JL.call rfl rfl aYE (vT HT HB HS (HS.at_ 1 rfl) (HS.at_ 0 rfl) (by omega)) (fun v3 w3 HR3 => ?_)
 obtain ⟨jS,jZ,kK,kD,kz,kH,kF,l7,lK,lY,lS,lN,lW,lU,rfl,HS⟩:=HR3
 refine JL.store HS rfl rfl (i:=1) rfl aYo rfl rfl rfl (vs':=(a0s jS jZ kK kD kz kH kF l7 lK lY lS lN lW lU)) rfl rfl (fun w4 HS => ?_)
 refine jn ?_
 refine JC.seq ?_
 refine JC.region ?_
 refine JL.call rfl rfl Tryz.call132 (aqM HT HB HS  (by omega) (by omega) (by omega) (by omega) (by decide)) (fun v5 w5 vk => ?_)
 obtain ⟨s5,A5,n5,c5,B5,m5,d5,rfl,HS⟩:=vk
 refine Lv (.tuple #[(a0p s5 A5 n5 c5 B5 m5 d5),.int .i64 0]) (fun a ha=>run_move (ha.ev rfl)) ?_
 refine Lv (a0p s5 A5 n5 c5 B5 m5 d5) (fun a ha=>bK (ha.ev rfl) rfl) ?_
 refine Lv (.int .i64 0) (fun a ha=>bK (ha.ev rfl) rfl) ?_
 refine JL.alloc (vs:=bU) HS rfl aYs rfl rfl (fun g6 w6 HS => ?_)
 refine JL.store HS rfl rfl (i:=0) rfl aYn rfl rfl rfl (vs':=(a0q s5 A5 n5 c5 B5 m5 d5)) rfl rfl (fun w7 HS => ?_)
 refine Lv (.int .i64 0) (fun a ha=>run_assign (ha.ev rfl)) ?_
 refine jn ?_
 refine JC.seq ?_
 refine JC.draw HS [7] (by kernel_rfl) (fun w8 HS => ?_)
 refine Da (a0p s5 A5 n5 c5 B5 m5 d5) 0 0 rfl HS.b0 rfl rfl aYp aYn ?_
 refine Dv (.pointer (some ⟨g1,0,none⟩)) 1 rfl HS.b0 (fun a ha w=>bH (ha.ev rfl) aYr rfl aYn rfl rfl) ?_
 refine Da (a0p jS jZ kK kD kz kH kF) 2 2 rfl HS.b0 rfl rfl aYp aYn ?_
 refine Dv (.pointer (some ⟨g1,3,none⟩)) 3 rfl HS.b0 (fun a ha w=>bH (ha.ev rfl) aYr rfl aYn rfl rfl) ?_
 refine Da (a0p l7 lK lY lS lN lW lU) 4 2 rfl HS.b0 rfl rfl aYp aYn ?_
 refine bJ 5 rfl rfl rfl aYR (Bf HT HB HS (HS.at_ 1 rfl) (HS.at_ 2 rfl) (by omega)) (fun aVu aXW awq => ?_)
 obtain ⟨aTe,aI1,aRl,aLV,aKm,aPV,aNm,rfl,HS⟩:=awq
 refine ⟨HS.b0,?_⟩
 refine bJ 6 rfl rfl rfl aZe (Qc HT HB HS (HS.at_ 1 rfl) (HS.at_ 0 rfl) (by omega)) (fun Bg Bi uo => ?_)
 obtain ⟨arS,akJ,apn,al2,ak1,aoU,amu,rfl,HS⟩:=uo
 refine ⟨HS.b0,?_⟩
 refine bF 7 (a0q arS akJ apn al2 ak1 aoU amu) HS 1 rfl rfl rfl rfl aYn (fun _ HS=>⟨(eX (s:=7) rfl rfl),?_⟩)
 refine JR.next (by kernel_rfl) (fun _ _ h=>h) ?_
 refine JC.ret (fun a ha => ?_)
 repeat (first | refine dh ?_ | refine df ?_)
 refine fG (v:=(a0p arS akJ apn al2 ak1 aoU amu)) ha Tryz.results49 (.agg rfl aYp aYn (HS.box _ (.tail _ (.head _))) rfl rfl) ⟨_,rfl,?_⟩
 exact ⟨_,_,_,_,_,_,_,rfl,HS.out 3 7 0 rfl rfl rfl (fun _ h=>h.as (Rat.mul_comm _ _) (by omega))⟩
set_option maxHeartbeats 400000 in
theorem aFg (HT:Tz W0) (HB:Tab W0) {af:Rat} {bC:Nat} {bu:Bool} {ah:Rat} {bD:Nat} {bn:Bool} (HS:St W0 U Ps w) (f1a:FV (a0p ax ay aj c1a az ak aA) af bC bu w) (bI:FV (a0p aB aC n1b aG aF au aH) ah bD bn w) (hk:bC+bD≤600):bY Tryz.prog 36 [(a0r ax ay aj c1a az ak aA aB aC n1b aG aF au aH)] w (iP W0 U Ps (.tuple #[.int .i64 (rG (bV bu bn af ah) (bW bu bn af ah)),.bool (okS (bV bu bn af ah) (bW bu bn af ah))])):=by
 have HS:=HS.add (FV.stable _ _ _ _) f1a
 have HS:=HS.add (FV.stable _ _ _ _) bI
 clear f1a bI
 refine iL Tryz.func36 rfl Tryz.ntmps36 rfl ?_
 refine JC.seq ?_
 refine JC.region ?_
 refine JL.box (vs:=(a0s ax ay aj c1a az ak aA aB aC n1b aG aF au aH)) HS rfl rfl rfl rfl (fun g1 w1 HS => ?_)
 refine Lv (.int .i64 0) (fun a ha=>run_assign (ha.ev rfl)) ?_
 refine Lv (.bool false) (fun a ha=>run_assign (ha.ev rfl)) ?_
 refine jn ?_
 refine JC.seq ?_
 refine JC.region ?_
 refine JL.load (a0r ax ay aj c1a az ak aA aB aC n1b aG aF au aH) HS 0 rfl rfl rfl aYq aYo rfl rfl ?_
 refine JL.call rfl rfl aYE (vT HT HB HS (HS.at_ 1 rfl) (HS.at_ 0 rfl) (by omega)) (fun v2 w2 HR2 => ?_)
 obtain ⟨aP,aQ,aK,aS,aU,aN,aY,aV,aW,aO,aX,aZ,aT,bf,rfl,HS⟩:=HR2
 refine JL.store HS rfl rfl (i:=0) rfl aYo rfl rfl rfl (vs':=(a0s aP aQ aK aS aU aN aY aV aW aO aX aZ aT bf)) rfl rfl (fun w3 HS => ?_)
 refine jn ?_
 refine JC.seq ?_
 refine JC.draw HS [] (by kernel_rfl) (fun w4 HS => ?_)
 refine Dv (.pointer (some ⟨g1,0,none⟩)) 0 rfl HS.b0 (fun a ha w=>bH (ha.ev rfl) aYr rfl aYn rfl rfl) ?_
 refine Da (a0p aP aQ aK aS aU aN aY) 1 0 rfl HS.b0 rfl rfl aYp aYn ?_
 refine Dv (.pointer (some ⟨g1,3,none⟩)) 3 rfl HS.b0 (fun a ha w=>bH (ha.ev rfl) aYr rfl aYn rfl rfl) ?_
 refine Da (a0p aV aW aO aX aZ aT bf) 4 0 rfl HS.b0 rfl rfl aYp aYn ?_
 refine bJ 2 rfl rfl rfl a0k (aec HT HB HS (HS.at_ 0 rfl) (by omega)) (fun ajQ aki Q8 => ?_)
 obtain ⟨rfl,HS⟩:=Q8
 refine ⟨HS.b0,?_⟩
 refine bJ 5 rfl rfl rfl a0k (aec HT HB HS (HS.at_ 1 rfl) (by omega)) (fun aU6 aXh avJ => ?_)
 obtain ⟨rfl,HS⟩:=avJ
 refine ⟨HS.b0,?_⟩
 refine Dv (.int .i64 (nM (bV bu bn af ah))) 6 rfl HS.b0 (fun a ha w=>run_assign (ha.ev rfl)) ?_
 refine Dv (.int .i64 (nM (bW bu bn af ah))) 7 rfl HS.b0 (fun a ha w=>run_assign (ha.ev rfl)) ?_
 refine JR.next (by kernel_rfl) (fun _ _ h=>h) ?_
 refine JC.seq ?_
 refine JC.seq ?_
 refine JC.region ?_
 refine Lv (.int .i64 (nM (bV bu bn af ah))) (fun a ha=>run_move (ha.ev rfl)) ?_
 refine Lv (.int .i64 (nM (bW bu bn af ah))) (fun a ha=>run_move (ha.ev rfl)) ?_
 refine Lv (.bool ((nM (bV bu bn af ah)) != (nM (bW bu bn af ah)))) (fun a ha=>ael (ha.ev rfl) (ha.ev rfl) rfl) ?_
 refine jn ?_
 cases EN:((nM (bV bu bn af ah)) != (nM (bW bu bn af ah)))
 ·skip
  refine JC.jA rfl ?_
  refine JC.jF (fun _ _ h=>h) ?_
  refine JC.seq ?_
  refine JC.region ?_
  refine Lv (.int .i64 (nM (bV bu bn af ah))) (fun a ha=>run_move (ha.ev rfl)) ?_
  refine Lv (.int .i64 (nM (bV bu bn af ah))) (fun a ha=>run_assign (ha.ev rfl)) ?_
  refine Lv (.bool true) (fun a ha=>run_assign (ha.ev rfl)) ?_
  refine jn ?_
  refine JC.ret (fun a ha => ?_)
  repeat (first | refine dh ?_ | refine df ?_)
  refine vI (v := .int .i64 (nM (bV bu bn af ah))) (v' := .bool true) ha Tryz.results36 (.tmp rfl) (.tmp rfl) ⟨_,rfl,?_⟩
  exact ⟨(aER (oP _ _ _ _) (by assumption)),HS.gy 1 4 rfl rfl⟩
 ·skip
  refine JC.iy rfl ?_
  refine JC.seq ?_
  refine JC.region ?_
  refine Lv (.int .i64 0) (fun a ha=>run_assign (ha.ev rfl)) ?_
  refine Lv (.bool false) (fun a ha=>run_assign (ha.ev rfl)) ?_
  refine jn ?_
  refine JC.ret (fun a ha => ?_)
  repeat (first | refine dh ?_ | refine df ?_)
  refine vI (v := .int .i64 0) (v' := .bool false) ha Tryz.results36 (.tmp rfl) (.tmp rfl) ⟨_,rfl,?_⟩
  exact ⟨(aEQ (oP _ _ _ _) (by assumption)),HS.gy 1 4 rfl rfl⟩
end
end Go.Proofs.YtbihljnjaondcaaGreatDoor
namespace Lw
open Go
def DT (n:Nat):List UInt8:=if n=0 then [] else Lib.decDigits n
theorem atr {n:Nat} (h:n≠0):DT n=Lib.decDigits n:=if_neg h
theorem att {M:Nat} (h:M≠0):DT M=DT (M / 10)++[UInt8.ofNat (48+M % 10)]:=by
 unfold DT
 rw [if_neg h]
 by_cases h1:M < 10
 ·rw [if_pos (by omega),Lib.decDigits,dif_pos h1,Nat.mod_eq_of_lt h1]; rfl
 ·rw [if_neg (by omega),Lib.decDigits,dif_neg h1]
def Tk (N k r:Nat) (S:List UInt8) (Z:Nat):Prop:=DT (N*10 ^ (9 - k)+r)++S=DT Z∧r < 10 ^ (9 - k)
theorem aFR {N:Nat} {S:List UInt8} {Z:Nat} (h:DT N++S=DT Z):Tk (N / 1000000000) 0 (N % 1000000000) S Z:=by
 refine ⟨?_,?_⟩
 ·rw [show N / 1000000000*10 ^ (9 - 0)+N % 1000000000=N by simp only [Nat.sub_zero,Nat.reducePow]; omega]; exact h
 ·simp only [Nat.sub_zero,Nat.reducePow]; omega
theorem aFS {N k r:Nat} {S:List UInt8} {Z:Nat} (h:Tk N k r S Z) (hk:k < 9) (h0:r≠0∨N≠0):Tk N (k+1) (r / 10) (UInt8.ofNat (48+r % 10) :: S) Z:=by
 have hp:10 ^ (9 - k)=10 ^ (9 - (k+1))*10:=by rw [← Nat.pow_succ]; congr 1; omega
 have h1:0 < 10 ^ (9 - (k+1)):=Nat.pow_pos (by omega)
 obtain ⟨h2,h3⟩:=h
 unfold Tk
 rw [hp] at h3 h2
 generalize 10 ^ (9 - (k+1))=P at *
 have hN:N*(P*10)=N*P*10:=(Nat.mul_assoc _ _ _).symm
 rw [hN] at h2
 have hne:N*P*10+r≠0:=by
  rcases h0 with h0 | h0
  ·omega
  ·have:0 < N*P:=Nat.mul_pos (by omega) h1
   omega
 rw [att hne,show (N*P*10+r) / 10=N*P+r / 10 by omega,show (N*P*10+r) % 10=r % 10 by omega,List.append_assoc,List.singleton_append] at h2
 refine ⟨h2,?_⟩
 omega
theorem asi {N k r:Nat} {S:List UInt8} {Z:Nat} (h:Tk N k r S Z) (hk:k≤9) (h0:k=9∨(r=0∧N=0)):DT N++S=DT Z:=by
 obtain ⟨h2,h3⟩:=h
 rcases h0 with rfl | ⟨rfl,rfl⟩
 ·have:r=0:=by simpa using h3
  subst this
  simpa using h2
 ·simpa using h2
theorem asf {d:Nat} (h:d < 10):(ByteArray.mk #[48,49,50,51,52,53,54,55,56,57]).extract d (d+1)=⟨[UInt8.ofNat (48+d)].toArray⟩:=by
 have:d=0∨d=1∨d=2∨d=3∨d=4∨d=5∨d=6∨d=7∨d=8∨d=9:=by omega
 rcases this with h | h | h | h | h | h | h | h | h | h <;> subst h <;> rfl
theorem ayk (n z:Nat) (h:z < pw n):(DT z).length≤10*n+1:=by
 unfold DT
 split
 ·simp
 ·have h1:pw n≤10 ^ (10*n):=by
   rw [Nat.pow_mul]; exact Nat.pow_le_pow_left (by decide) n
  refine ace (10*n) z (Nat.lt_of_lt_of_le h (Nat.le_trans h1 (Nat.pow_le_pow_right (by omega) (by omega))))
theorem agZ (b:UInt8) (S:List UInt8):(ByteArray.mk [b].toArray++ByteArray.mk S.toArray)=⟨(b :: S).toArray⟩:=by
 apply ByteArray.ext
 rw [ByteArray.data_append]
 simp
end Lw
namespace Go.Proofs.YtbihljnjaondcaaGreatDoor
open Go Go.RowKit Lw
set_option maxRecDepth 100000 in
set_option maxHeartbeats 6400000 in
theorem aD5 (s:Bool) (A:Option Addr) (ns:List Nat) (n c B:Nat) (w:World) (h:Rd w B A ns) (hB:B≤w.heap.size) (hn:ns.length=n) (hl:n≤10000) (hc:n≤c) :
  Calls Tryz.prog 119 #[.agg #[.bool s,.slice A n c]] w fun e w'=>e = .returned (.string ⟨(Lib.itoa (zv s ns)).toArray⟩)∧Below w.heap.size w w':=by
 have hlz:=Cc (s:=s) h.gW
 rw [hn] at hlz
 have hk:=fun W hR hB'=>adv s A ns n c B W hR hB' hn (by omega) hc
 have hk':=fun W hR hB'=>ad8 s A ns n c B W hR hB' hn (by omega)
 generalize zv s ns=z at *
 have Hk:=Lib.hid hk
 have Xg:=Lib.hid hk'
 have HL:Hid ((DT z.natAbs).length≤10*n+1):=Lib.hid (ayk n _ (Dz hlz))
 clear hk hk' hn
 go_enter Tryz.func119,Tryz.ntmps119
 go_wp2_with fail
 refine (Hk.out _ (h.alloc hB _) (by simp; omega)).mono ?_
 rintro e w1 ⟨A1,c1,rfl,hc1,hr1,hb1⟩
 obtain ⟨t1,hs1,hb2⟩:=box1 hb1
 obtain ⟨c10,c11,f10,f11⟩:=t1.facts
 obtain ⟨n1,hn1⟩ : ∃ n1,n1=(mg z).length:=⟨_,rfl⟩
 rw [← hn1] at hlz hc1 ⊢
 have Nl:=Lib.hid hn1
 clear hn1
 have hs1':=hs1
 by_cases h0:n1=0
 ·have HZ:Hid (Lib.itoa z=[48]):=Lib.hid (by
   have e:=PX.1 (by rw [← Nl.out]; exact h0)
   rw [e,Yn rfl]
   rw [show (0:Int).natAbs=0 from rfl,Lib.decDigits,dif_pos (by omega)]; rfl)
  subst h0
  go_wp2_with fail
  go_ret
  rw [HZ.out]
  exact ⟨rfl,hb2⟩
 ·have hbq:((n1:Int)==0)=false:=by rw [beq_eq_false_iff_ne]; omega
  go_wp2_with fail
  go_loopg [3,4] z.natAbs (fun M mv sv wr => ∃ (A':Option Addr) (n' c':Nat) (S:List UInt8) (T:ByteArray),mv = .slice A' n' c'∧n'≤c'∧n'≤n∧Hid ((bg M).length=n')∧Rd wr wr.heap.size A' (bg M)∧sv = .string T∧Hid (T=⟨S.toArray⟩)∧T.size≤100001∧Hid (DT M++S=DT z.natAbs)∧Below w1.heap.size w1 wr)
  case atStart=>exact ⟨A1,n1,c1,[],ByteArray.empty,rfl,hc1,hlz,Lib.hid Nl.out.symm,hr1.more (by omega),rfl,Lib.hid rfl,by simp,Lib.hid (List.append_nil _),Below.refl _ _⟩
  case round =>
   obtain ⟨A',n',c',S,T,rfl,hc',hnn,hlen,hr,rfl,hTS,hTl,hv,PE⟩:=hrel
   have hbw:=fK hb2 PE (by omega)
   have azV:=hbw.size
   by_cases hn0:n'=0
   ·have hz0:Hid (z.natAbs≠0):=Lib.hid (fun e=>h0 (by rw [Nl.out]; unfold mg; rw [e]; rfl))
    have HT:Hid (T=⟨(Lib.decDigits z.natAbs).toArray⟩):=Lib.hid (by
     have e0:gk=0:=xP.1 (List.eq_nil_of_length_eq_zero (by rw [hlen.out]; exact hn0))
     have e1:=hv.out
     rw [e0,atr hz0.out] at e1
     rw [hTS.out,← e1]; rfl)
    subst hn0
    clear hlen hr hTS hv
    obtain ⟨c10,c11,f10,f11⟩:=(t1.next PE).facts
    go_wp2_with fail
    refine (Xg.out _ (h.below (hbw.mono hB)) (by omega)).mono ?_
    rintro e w2 ⟨rfl,hb3⟩
    have hb4:=fK hbw hb3 (Nat.le_refl _)
    cases hsg:sg z
    ·have HI:=Lib.hid (Yn hsg)
     go_wp2_with fail
     go_ret
     exact ⟨by rw [HT.out,HI.out,List.nil_append]; rfl,hb4⟩
    ·have HI:=Lib.hid (itoa_neg hsg)
     go_wp2_with fail
     go_ret
     exact ⟨by rw [HT.out,HI.out]; exact congrArg (fun b=>Ending.returned (Value.string b)) (agZ 45 (Lib.decDigits z.natAbs)),hb4⟩
   ·have hQn:(bg (gk / 1000000000)).length≤n:=by
     have h1:=Dz (Nat.le_of_eq hlen.out)
     have h2:=xQ (n:=gk / 1000000000) (k:=n') (Nat.lt_of_le_of_lt (Nat.div_le_self _ _) h1)
     omega
    have hM0:gk≠0:=fun e=>hn0 (by rw [← hlen.out,e]; rfl)
    have ahz:Hid (gk / 1000000000 < gk):=Lib.hid (by omega)
    clear hM0
    go_wp2_with (at_make; refine Eo _ rfl _ _ _ rfl 99 aYN Az _ _ _ _ n' rfl rfl (by omega) (by omega) (by omega) ?_; intro w3 hblk hbel hsz)
    go_loopw [5,7] (fun rv iv wi => ∃ (i':Int) (r:Nat) (ds:List Nat),-1≤i'∧i' < n'∧r≤999999999∧iv = .int .i64 i'∧rv = .int .u64 r∧fH wi wr.heap.size 99 ds∧Hid (ds.length=n')∧fQ ds∧Hid (val (ds.drop (i'+1).toNat)=val ((bg gk).drop (i'+1).toNat) / 1000000000∧r=val ((bg gk).drop (i'+1).toNat) % 1000000000)∧Below wr.heap.size wr wi) (fun _ i _=>(intOf i+1).toNat)
    case atStart=>exact ⟨(n':Int) - 1,0,_,by omega,by omega,by omega,rfl,rfl,hblk,Lib.hid (by simp),Fv _,Lib.hid (by rw [show ((n':Int) - 1+1).toNat=n' by omega,List.drop_of_length_le (by simp),List.drop_of_length_le (by rw [hlen.out]; exact Nat.le_refl _)]; simp [val]),hbel⟩
    case round =>
     obtain ⟨i',r,ds,hi,hin,hrx,rfl,rfl,hb5,hdl,hdw,hvv,hbi⟩:=hrel
     clear hblk hbel hsz
     have an0:=hbi.size
     have hri:=hr.below hbi
     by_cases hi0:i' < 0
     ·have HV:Hid (val ds=gk / 1000000000∧r=gk % 1000000000):=Lib.hid (by have:=hvv.out; rwa [show (i'+1).toNat=0 by omega,List.drop_zero,List.drop_zero,fA] at this)
      have HK:Hid (Tk (gk / 1000000000) 0 r S z.natAbs):=Lib.hid (by rw [HV.out.2]; exact aFR hv.out)
      clear hvv hri hv
      go_wp2_with fail
      refine (Vk _ ds n' n' _ _ (hb5.rd hdw) (Nat.le_refl _) hdl.out (by omega)).mono ?_
      rintro e w4 ⟨g4,c4,rfl,hc4,hg4,UH,hb6⟩
      rw [HV.out.1] at hc4 UH ⊢
      have I7:=fK (fK PE hbi (by omega)) hb6 (by omega)
      have hr4:=UH.rd (mJ _)
      obtain ⟨Q,hQ⟩ : ∃ Q,Q=gk / 1000000000:=⟨_,rfl⟩
      rw [← hQ] at hc4 hr4 HK hQn ahz ⊢
      obtain ⟨n4,hn4⟩ : ∃ n4,n4=(bg Q).length:=⟨_,rfl⟩
      rw [← hn4] at hc4 hQn ⊢
      have Hn4:=Lib.hid hn4
      have HQ:=Lib.hid hQ
      clear hQ hn4 UH hb5 hr hb6
      go_wp2_with fail
      go_loopw [4,5,8] (fun sv rv kv wi2 => ∃ (k2 r2:Nat) (S2:List UInt8) (T2:ByteArray),k2≤9∧r2≤999999999∧kv = .int .i64 k2∧rv = .int .u64 r2∧sv = .string T2∧Hid (T2=⟨S2.toArray⟩)∧Hid (Tk Q k2 r2 S2 z.natAbs)∧wi2=w4) (fun _ _ k _=>9 - (intOf k).toNat)
      case atStart=>exact ⟨0,r,S,T,by omega,hrx,rfl,rfl,rfl,hTS,HK,rfl⟩
      case round =>
       obtain ⟨k2,r2,S2,T2,hk2,hr2,rfl,rfl,rfl,hT2,hK2,rfl⟩:=hrel
       have ann:T2.size≤100001:=by
        have h1:=congrArg List.length hK2.out.1
        rw [List.length_append] at h1
        have h2:=HL.out
        rw [hT2.out]
        simp only [ByteArray.size,List.size_toArray]
        omega
       obtain ⟨d,hd⟩ : ∃ d,d=r2 % 10:=⟨_,rfl⟩
       have hd10:d < 10:=by omega
       have hdi:(r2:Int) % 10=(d:Int):=by omega
       have HD:=Lib.hid hd
       clear hd
       by_cases hk9:k2 < 9
       ·by_cases hq0:r2=0∧n4=0
        ·have HE:Hid (DT Q++S2=DT z.natAbs):=Lib.hid (asi hK2.out hk2 (.inr ⟨hq0.1,xP.1 (List.eq_nil_of_length_eq_zero (by rw [← Hn4.out]; exact hq0.2))⟩))
         obtain ⟨e1,e2⟩:=hq0
         go_wp2_with fail
         go_roundg Q
         case measure=>exact ahz.out
         case rel=>exact ⟨_,0,c4,S2,T2,rfl,by omega,by omega,Lib.hid (by rw [← Hn4.out]; exact e2),hr4,rfl,hT2,ann,HE,I7⟩
        ·have HN:Hid (Tk Q (k2+1) (r2 / 10) (UInt8.ofNat (48+d) :: S2) z.natAbs):=Lib.hid (by
          rw [HD.out]
          refine aFS hK2.out hk9 ?_
          rcases Classical.em (r2=0) with e | e
          ·right
           intro e2
           exact hq0 ⟨e,by rw [Hn4.out,e2]; rfl⟩
          ·exact .inl e)
         by_cases hr0:r2=0
         ·have aOc:0 < n4:=by omega
          clear hq0
          obtain rfl:=hr0
          obtain rfl:d=0:=by omega
          have HT2:Hid ((ByteArray.mk #[48,49,50,51,52,53,54,55,56,57]).extract 0 1++T2=⟨(UInt8.ofNat (48+0) :: S2).toArray⟩):=Lib.hid (by rw [show (1:Nat)=0+1 from rfl,asf hd10,hT2.out]; exact agZ _ _)
          go_wp2_with fail
          go_roundw
          case rel=>exact ⟨k2+1,0,_,_,by omega,by omega,by go_num,by go_num,rfl,HT2,HN,trivial⟩
          case measure=>simp [intOf]; omega
         ·have hr1:0 < r2:=by omega
          clear hq0
          have HT2:Hid ((ByteArray.mk #[48,49,50,51,52,53,54,55,56,57]).extract d (d+1)++T2=⟨(UInt8.ofNat (48+d) :: S2).toArray⟩):=Lib.hid (by rw [asf hd10,hT2.out]; exact agZ _ _)
          go_wp2_with fail
          go_roundw
          case rel=>exact ⟨k2+1,r2 / 10,_,_,by omega,by omega,by go_num,by go_num,rfl,HT2,HN,trivial⟩
          case measure=>simp [intOf]; omega
       ·have HE:Hid (DT Q++S2=DT z.natAbs):=Lib.hid (asi hK2.out hk2 (.inl (by omega)))
        go_wp2_with fail
        go_roundg Q
        case measure=>exact ahz.out
        case rel=>exact ⟨_,n4,c4,S2,T2,rfl,hc4,hQn,Lib.hid Hn4.out.symm,hr4,rfl,hT2,ann,HE,I7⟩
     ·obtain ⟨j,rfl⟩:=Int.eq_ofNat_of_zero_le (show 0≤i' by omega)
      obtain ⟨b,off,rfl,hb',hcell,hlt⟩:=hri.at_ (k:=j) (by rw [hlen.out]; omega)
      have hcc:=hb5.cell (i:=j) (by rw [hdl.out]; omega)
      have hfr:=hb5.frozen j
      have Nk:=Lib.hid (fun v=>hb5.Gi (i:=j) v (by rw [hdl.out]; omega))
      have hst:=amI (x:=1000000000) (r:=r) (d:=dg (bg gk) j) (H:=val ((bg gk).drop (j+1))) (by omega) (by have:=hvv.out.2; rwa [show ((j:Int)+1).toNat=j+1 by omega] at this) hlt
      have HDD:=Lib.hid (VE (bg gk) (k:=j) (by rw [hlen.out]; omega))
      obtain ⟨d,hd⟩ : ∃ d,d=dg (bg gk) j:=⟨_,rfl⟩
      rw [← hd] at hcell hlt hst HDD
      obtain ⟨D,hD⟩ : ∃ D,D=d+4294967296*r:=⟨_,rfl⟩
      rw [← hD] at hst
      have hO:bits .or .u64 ((r:Int)*4294967296) (d:Int)=(D:Int):=by rw [hD]; exact SV (by omega) hlt
      obtain ⟨q,hq⟩ : ∃ q,q=D / 1000000000:=⟨_,rfl⟩
      obtain ⟨r',hr'⟩ : ∃ r',r'=D % 1000000000:=⟨_,rfl⟩
      rw [← hq,← hr'] at hst
      have zg:q < 4294967296:=hst.1
      have hDl:D≤18446744073709551615:=by omega
      have hqi:(D:Int) / 1000000000=(q:Int):=by omega
      have aOi:(D:Int) % 1000000000=(r':Int):=by omega
      have azS:r'≤999999999:=by omega
      have HST:=Lib.hid hst.2
      clear hst hd hD hq hr'
      go_wp2_with fail
      go_roundw
      case rel =>
       refine ⟨(j:Int) - 1,r',ds.set j q,by omega,by omega,azS,by go_num,by go_num,Nk.out q,Lib.hid (by rw [List.length_set]; exact hdl.out),yP hdw _ zg,Lib.hid ?_,hbi.setCell (Nat.le_refl _) _⟩
       have hv1:=hvv.out
       rw [show ((j:Int)+1).toNat=j+1 by omega] at hv1
       rw [show ((j:Int) - 1+1).toNat=j by omega,VE (ds.set j q) (k:=j) (by rw [List.length_set,hdl.out]; omega),BG (l:=ds) (k:=j) _ (by rw [hdl.out]; omega),if_pos rfl,ahk _ (by omega),hv1.1,HDD.out]
       exact HST.out
      case measure=>simp [intOf]
end Go.Proofs.YtbihljnjaondcaaGreatDoor
namespace Lw
open Go Go.RowKit
theorem axX {N k:Nat} (h:N < pw k) (hk:k≤100):(Lib.decDigits N).length≤1001:=by
 have h1:pw k≤(10 ^ 10) ^ k:=by unfold pw; exact Nat.pow_le_pow_left (by decide) k
 rw [← Nat.pow_mul] at h1
 have h2:10 ^ (10*k)≤10 ^ (10*k+1):=Nat.pow_le_pow_right (by omega) (by omega)
 have h3:=ace (10*k) N (by omega)
 omega
theorem aAI {z:Int} {k:Nat} (h:z.natAbs < pw k) (hk:k≤100):(Lib.itoa z).length≤1002:=by
 have:=axX h hk
 cases hs:sg z
 ·rw [Yn hs]; simp; omega
 ·rw [itoa_neg hs]; simp; omega
end Lw
namespace Go.Proofs.YtbihljnjaondcaaGreatDoor
open Go Go.RowKit Lw
section
variable {W0 w:World} {bs:List Bx} {L:List En} {ts:List Bt} {M:List Qn} {s:Bool} {A A':Option Addr} {n c n' c' k:Nat} {q:Rat} {b:Bool}
theorem bG.k2 {g:Nat} {x y:Value} (h:bG W0 w (⟨g,x,y⟩ :: bs) L ts M):w.cell? ⟨g,0,none⟩=some x∧w.cell? ⟨g,1,none⟩=some y:=⟨(h.c2 (.head _)).1,(h.c2 (.head _)).2.1⟩
end
end Go.Proofs.YtbihljnjaondcaaGreatDoor
namespace Go.Proofs.YtbihljnjaondcaaGreatDoor
open Go Go.RowKit Lw bZ
section
variable {W0 w:World} {U:List Box} {Ps:List (World→Prop)}
variable {s1:Bool} {A1:Option Addr} {n1 c1:Nat} {B1:Option Addr} {m1 d1:Nat} {ax:Bool} {ay:Option Addr} {aj c1a:Nat} {az:Option Addr} {ak aA:Nat} {aB:Bool} {aC:Option Addr} {n1b aG:Nat} {aF:Option Addr} {au aH:Nat}
theorem FI.aeL {v:Value} {z:Int} {k:Nat} {w:World} (h:FI v z k w) (hk:k≤100):(Lib.itoa z).length≤1002:=aAI (pF.lt h) hk
theorem aET (HS:St W0 U Ps w) {s1:Bool} {A1:Option Addr} {n1 c1:Nat} {x1:Int} {k1:Nat} (f1:FI (.agg #[.bool s1,.slice A1 n1 c1]) x1 k1 w) (hk:k1≤10000):bY Tryz.prog 119 [.agg #[.bool s1,.slice A1 n1 c1]] w (iP W0 U Ps (.string ⟨(Lib.itoa x1).toArray⟩)):=by
 obtain ⟨s,A,n,c,ns,B,he,h1,h2,h3,h4,h5,h6,-⟩:=f1
 injection he with he
 obtain ⟨rfl,rfl,rfl,rfl⟩:s1=s∧A1=A∧n1=n∧c1=c:=by simpa using he
 have hz:zv s1 ns=x1:=h6
 have hk':n1≤k1:=h4
 rw [← hz]
 refine Calls.mono (aD5 s1 A1 ns n1 c1 B w h1 h2 h3 (by omega) h5) fun e w' hh => ?_
 obtain ⟨rfl,hb⟩:=hh
 exact ⟨_,rfl,rfl,HS.next hb⟩
theorem aji (_:Tz W0) (_:Tab W0) (HS:St W0 U Ps w) {s1:Bool} {A1:Option Addr} {n1 c1:Nat} {x1:Int} {k1:Nat} (f1:FI (.agg #[.bool s1,.slice A1 n1 c1]) x1 k1 w) (hk:k1≤10000):bY Tryz.prog 119 [.agg #[.bool s1,.slice A1 n1 c1]] w (iP W0 U Ps (.string ⟨(Lib.itoa x1).toArray⟩)):=aET HS f1 hk
theorem aDv {q:Rat} (h:decide ((q.den:Int)=1)=true):Lib.itoa q.num=wJ q:=by
 have h:=of_decide_eq_true h
 unfold wJ; rw [if_pos (by omega)]
theorem aDw {q:Rat} (h:decide ((q.den:Int)=1)=false):(Lib.itoa q.num++[47])++Lib.itoa (q.den:Int)=wJ q:=by
 have h:=of_decide_eq_false h
 unfold wJ; rw [if_neg (by omega),List.append_assoc]
set_option maxHeartbeats 400000 in
theorem aqU (HT:Tz W0) (HB:Tab W0) {q1:Rat} {k1:Nat} {b1:Bool} (HS:St W0 U Ps w) (f1:FV (a0p s1 A1 n1 c1 B1 m1 d1) q1 k1 b1 w) (hk:k1≤60):bY Tryz.prog 30 [(a0p s1 A1 n1 c1 B1 m1 d1)] w (iP W0 U Ps (.string ⟨(wJ q1).toArray⟩)):=by
 have HS:=HS.add (FV.stable _ _ _ _) f1
 clear f1
 refine iL Tryz.func30 rfl Tryz.ntmps30 rfl ?_
 refine JC.seq ?_
 refine JC.region ?_
 refine JL.box (vs:=(a0q s1 A1 n1 c1 B1 m1 d1)) HS rfl rfl rfl rfl (fun g1 w1 HS => ?_)
 refine Lv (.string ⟨([]).toArray⟩) (fun a ha=>run_assign (ha.ev rfl)) ?_
 refine jn ?_
 refine JC.seq ?_
 refine JC.region ?_
 refine JL.load (a0p s1 A1 n1 c1 B1 m1 d1) HS 0 rfl rfl rfl aYp aYn rfl rfl ?_
 refine JL.call rfl rfl Tryz.call98 (aqP HT HB HS (HS.at_ 0 rfl) (by omega)) (fun v2 w2 HR2 => ?_)
 obtain ⟨aP,aQ,aK,aS,aV,aW,aO,aX,rfl,HS⟩:=HR2
 refine Lv (.tuple #[.agg #[.bool aP,.slice aQ aK aS],.agg #[.bool aV,.slice aW aO aX]]) (fun a ha=>run_move (ha.ev rfl)) ?_
 refine Lv (.agg #[.bool aP,.slice aQ aK aS]) (fun a ha=>bK (ha.ev rfl) rfl) ?_
 refine Lv (.agg #[.bool aV,.slice aW aO aX]) (fun a ha=>bK (ha.ev rfl) rfl) ?_
 refine JL.alloc (vs:=[.bool false,.slice none 0 0]) HS rfl aYw rfl rfl (fun g3 w3 HS => ?_)
 refine JL.alloc (vs:=[.bool false,.slice none 0 0]) HS rfl aYw rfl rfl (fun g4 w4 HS => ?_)
 refine JL.store HS rfl rfl (i:=1) rfl aYu rfl rfl rfl (vs':=[.bool aP,.slice aQ aK aS]) rfl rfl (fun w5 HS => ?_)
 refine JL.store HS rfl rfl (i:=0) rfl aYu rfl rfl rfl (vs':=[.bool aV,.slice aW aO aX]) rfl rfl (fun w6 HS => ?_)
 refine jn ?_
 refine JC.seq ?_
 refine JC.seq ?_
 refine JC.draw HS [] (by kernel_rfl) (fun w7 HS => ?_)
 refine Da (.agg #[.bool aV,.slice aW aO aX]) 0 0 rfl HS.b0 rfl rfl aYy aYu ?_
 refine bJ 1 rfl rfl rfl Tryz.call96 (aqO HT HB HS  ) (fun aVs aXQ awl => ?_)
 obtain ⟨aTb,aIY,aRi,aLR,rfl,HS⟩:=awl
 refine ⟨HS.b0,?_⟩
 refine bJ 2 rfl rfl rfl Tryz.call118 (aDT HT HB HS (HS.at_ 2 rfl) (HS.at_ 0 rfl) (by omega)) (fun aGB aHm agC => ?_)
 obtain ⟨rfl,HS⟩:=agC
 refine ⟨HS.b0,?_⟩
 refine Dv (.bool (decide ((q1.den:Int)=1))) 3 rfl HS.b0 (fun a ha w=>rC (ha.ev rfl) (ha.ev rfl) (ag' _ _)) ?_
 refine JR.next (by kernel_rfl) (fun _ _ h=>h) ?_
 cases KJ:((decide ((q1.den:Int)=1)))
 ·skip
  refine JC.jA rfl ?_
  refine JC.jF (fun _ _ h=>h) ?_
  refine JC.seq ?_
  refine JC.draw HS [] (by kernel_rfl) (fun w10 HS => ?_)
  refine Da (.agg #[.bool aP,.slice aQ aK aS]) 0 1 rfl HS.b0 rfl rfl aYy aYu ?_
  refine Da (.agg #[.bool aV,.slice aW aO aX]) 3 0 rfl HS.b0 rfl rfl aYy aYu ?_
  refine bJ 1 rfl rfl rfl Tryz.call119 (aji HT HB HS (HS.at_ 1 rfl) (by omega)) (fun aTj aVE atU => ?_)
  obtain ⟨rfl,HS⟩:=atU
  refine ⟨HS.b0,?_⟩
  refine Dv (.string ⟨((Lib.itoa q1.num)++[47]).toArray⟩) 2 rfl HS.b0 (fun a ha w=>Vq (ha.ev rfl) (ha.ev rfl) (by have:=FI.aeL (HS.at_ 1 rfl) (by omega); have:=FI.aeL (HS.at_ 2 rfl) (by omega); simp only [List.length_append,List.length_cons,List.length_nil]; omega) rfl) ?_
  refine bJ 4 rfl rfl rfl Tryz.call119 (aji HT HB HS (HS.at_ 2 rfl) (by omega)) (fun aTl aVF atV => ?_)
  obtain ⟨rfl,HS⟩:=atV
  refine ⟨HS.b0,?_⟩
  refine Dv (.string ⟨(((Lib.itoa q1.num)++[47])++(Lib.itoa (q1.den:Int))).toArray⟩) 5 rfl HS.b0 (fun a ha w=>Vq (ha.ev rfl) (ha.ev rfl) (by have:=FI.aeL (HS.at_ 1 rfl) (by omega); have:=FI.aeL (HS.at_ 2 rfl) (by omega); simp only [List.length_append,List.length_cons,List.length_nil]; omega) rfl) ?_
  refine Dv (.string ⟨(((Lib.itoa q1.num)++[47])++(Lib.itoa (q1.den:Int))).toArray⟩) 6 rfl HS.b0 (fun a ha w=>run_assign (ha.ev rfl)) ?_
  refine JR.next (by kernel_rfl) (fun _ _ h=>h) ?_
  refine JC.ret (fun a ha => ?_)
  repeat (first | refine dh ?_ | refine df ?_)
  refine fG (v := .string ⟨(((Lib.itoa q1.num)++[47])++(Lib.itoa (q1.den:Int))).toArray⟩) ha Tryz.results30 (.tmp rfl) ⟨_,rfl,?_⟩
  exact ⟨(congrArg (fun l:List UInt8=>Value.string ⟨l.toArray⟩) (aDw (by assumption))),HS.gy 3 4 rfl rfl⟩
 ·skip
  refine JC.iy rfl ?_
  refine JC.seq ?_
  refine JC.region ?_
  refine JL.load (.agg #[.bool aP,.slice aQ aK aS]) HS 1 rfl rfl rfl aYy aYu rfl rfl ?_
  refine JL.call rfl rfl Tryz.call119 (aji HT HB HS (HS.at_ 1 rfl) (by omega)) (fun v12 w12 QS => ?_)
  obtain ⟨rfl,HS⟩:=QS
  refine Lv (.string ⟨(Lib.itoa q1.num).toArray⟩) (fun a ha=>run_assign (ha.ev rfl)) ?_
  refine jn ?_
  refine JC.ret (fun a ha => ?_)
  repeat (first | refine dh ?_ | refine df ?_)
  refine fG (v := .string ⟨(Lib.itoa q1.num).toArray⟩) ha Tryz.results30 (.tmp rfl) ⟨_,rfl,?_⟩
  exact ⟨(congrArg (fun l:List UInt8=>Value.string ⟨l.toArray⟩) (aDv (by assumption))),HS.gy 3 4 rfl rfl⟩
set_option maxHeartbeats 400000 in
theorem aFi (HT:Tz W0) (HB:Tab W0) {af:Rat} {bC:Nat} {bu:Bool} {ah:Rat} {bD:Nat} {bn:Bool} (HS:St W0 U Ps w) (f1a:FV (a0p ax ay aj c1a az ak aA) af bC bu w) (bI:FV (a0p aB aC n1b aG aF au aH) ah bD bn w) (hk:bC+bD≤60):bY Tryz.prog 51 [(a0r ax ay aj c1a az ak aA aB aC n1b aG aF au aH)] w (iP W0 U Ps (.string ⟨(ara (bV bu bn af ah) (bW bu bn af ah)).toArray⟩)):=by
 have HS:=HS.add (FV.stable _ _ _ _) f1a
 have HS:=HS.add (FV.stable _ _ _ _) bI
 clear f1a bI
 refine iL Tryz.func51 rfl Tryz.ntmps51 rfl ?_
 refine JC.seq ?_
 refine JC.region ?_
 refine JL.box (vs:=(a0s ax ay aj c1a az ak aA aB aC n1b aG aF au aH)) HS rfl rfl rfl rfl (fun g1 w1 HS => ?_)
 refine Lv (.string ⟨([]).toArray⟩) (fun a ha=>run_assign (ha.ev rfl)) ?_
 refine jn ?_
 refine JC.seq ?_
 refine JC.region ?_
 refine JL.load (a0r ax ay aj c1a az ak aA aB aC n1b aG aF au aH) HS 0 rfl rfl rfl aYq aYo rfl rfl ?_
 refine JL.call rfl rfl aYE (vT HT HB HS (HS.at_ 1 rfl) (HS.at_ 0 rfl) (by omega)) (fun v2 w2 HR2 => ?_)
 obtain ⟨aP,aQ,aK,aS,aU,aN,aY,aV,aW,aO,aX,aZ,aT,bf,rfl,HS⟩:=HR2
 refine JL.store HS rfl rfl (i:=0) rfl aYo rfl rfl rfl (vs':=(a0s aP aQ aK aS aU aN aY aV aW aO aX aZ aT bf)) rfl rfl (fun w3 HS => ?_)
 refine jn ?_
 refine JC.seq ?_
 refine JC.draw HS [] (by kernel_rfl) (fun w4 HS => ?_)
 refine Dv (.pointer (some ⟨g1,0,none⟩)) 0 rfl HS.b0 (fun a ha w=>bH (ha.ev rfl) aYr rfl aYn rfl rfl) ?_
 refine Da (a0p aP aQ aK aS aU aN aY) 1 0 rfl HS.b0 rfl rfl aYp aYn ?_
 refine Dv (.pointer (some ⟨g1,3,none⟩)) 4 rfl HS.b0 (fun a ha w=>bH (ha.ev rfl) aYr rfl aYn rfl rfl) ?_
 refine Da (a0p aV aW aO aX aZ aT bf) 5 0 rfl HS.b0 rfl rfl aYp aYn ?_
 refine bJ 2 rfl rfl rfl Tryz.call30 (aqU HT HB HS (HS.at_ 0 rfl) (by omega)) (fun ajQ aki Q8 => ?_)
 obtain ⟨rfl,HS⟩:=Q8
 refine ⟨HS.b0,?_⟩
 refine Dv (.string ⟨((wJ (bV bu bn af ah))++[46,46]).toArray⟩) 3 rfl HS.b0 (fun a ha w=>Vq (ha.ev rfl) (ha.ev rfl) (by first | (have:=P8 (HS.at_ 0 rfl); have:=P8 (HS.at_ 1 rfl); simp only [List.length_append,List.length_cons,List.length_nil]; omega)) rfl) ?_
 refine bJ 6 rfl rfl rfl Tryz.call30 (aqU HT HB HS (HS.at_ 1 rfl) (by omega)) (fun aGx aG' agr => ?_)
 obtain ⟨rfl,HS⟩:=agr
 refine ⟨HS.b0,?_⟩
 refine Dv (.string ⟨(((wJ (bV bu bn af ah))++[46,46])++(wJ (bW bu bn af ah))).toArray⟩) 7 rfl HS.b0 (fun a ha w=>Vq (ha.ev rfl) (ha.ev rfl) (by first | (have:=P8 (HS.at_ 0 rfl); have:=P8 (HS.at_ 1 rfl); simp only [List.length_append,List.length_cons,List.length_nil]; omega)) rfl) ?_
 refine Dv (.string ⟨(((wJ (bV bu bn af ah))++[46,46])++(wJ (bW bu bn af ah))).toArray⟩) 8 rfl HS.b0 (fun a ha w=>run_assign (ha.ev rfl)) ?_
 refine JR.next (by kernel_rfl) (fun _ _ h=>h) ?_
 refine JC.ret (fun a ha => ?_)
 repeat (first | refine dh ?_ | refine df ?_)
 refine fG (v := .string ⟨(((wJ (bV bu bn af ah))++[46,46])++(wJ (bW bu bn af ah))).toArray⟩) ha Tryz.results51 (.tmp rfl) ⟨_,rfl,?_⟩
 exact ⟨rfl,HS.gy 1 4 rfl rfl⟩
end
end Go.Proofs.YtbihljnjaondcaaGreatDoor
namespace Go.Proofs.YtbihljnjaondcaaGreatDoor
open Go Go.RowKit Lw bZ
section
variable {W0 w:World} {U:List Box} {Ps:List (World→Prop)}
variable {ax:Bool} {ay:Option Addr} {aj c1a:Nat} {az:Option Addr} {ak aA:Nat} {aB:Bool} {aC:Option Addr} {n1b aG:Nat} {aF:Option Addr} {au aH:Nat} {aP:Bool} {aQ:Option Addr} {aK aS:Nat} {aU:Option Addr} {aN aY:Nat} {aV:Bool} {aW:Option Addr} {aO aX:Nat} {aZ:Option Addr} {aT bf:Nat}
def atp (f f':FuncId) (q1 q2:Rat) (b1 b2:Bool) (l h:Rat) (er er':Value):Prop := ∀ {W0 w:World} {U:List Box} {Ps:List (World→Prop)} {s1:Bool} {A1:Option Addr} {n1 c1:Nat} {B1:Option Addr} {m1 d1:Nat} {s2:Bool} {A2:Option Addr} {n2 c2:Nat} {B2:Option Addr} {m2 d2:Nat},Tz W0→Tab W0→St W0 U Ps w→FV (a0p s1 A1 n1 c1 B1 m1 d1) q1 8 b1 w→FV (a0p s2 A2 n2 c2 B2 m2 d2) q2 8 b2 w→bY Tryz.prog f [(a0p s1 A1 n1 c1 B1 m1 d1),(a0p s2 A2 n2 c2 B2 m2 d2)] w (yY W0 U Ps l h 3000 er)∧bY Tryz.prog f' [(a0p s1 A1 n1 c1 B1 m1 d1),(a0p s2 A2 n2 c2 B2 m2 d2)] w (yY W0 U Ps l h 3000 er')
theorem aAk (q1 q2:Rat) (b1 b2:Bool) : ∃ (l h:Rat) (er:Value) (code:Int),y9 er code∧atp 33 34 q1 q2 b1 b2 l h er (.int .i64 code):=by
 by_cases h0:q2 < q1
 ·exact ⟨0,0,_,3,y9.err 3,fun HT HB HS f1 f2=>⟨DL (aGL HT HB HS f1 f2 (by omega) h0),DL (aE7 HT HB HS f1 f2 (by omega) h0)⟩⟩
 exact ⟨_,_,.nilIface,0,y9.nil_,fun HT HB HS f1 f2=>⟨Jf (O5 HT HB HS f1 f2 (by omega) (by grind)) (by omega),Jf (aE6 HT HB HS f1 f2 (by omega) (by grind)) (by omega)⟩⟩
set_option maxHeartbeats 4000000 in
theorem aAH (HT:Tz W0) (HB:Tab W0) {af:Rat} {bC:Nat} {bu:Bool} {ah:Rat} {bD:Nat} {bn:Bool} {aI:Rat} {bM:Nat} {bT:Bool} {aJ:Rat} {bP:Nat} {bQ:Bool} (HS:St W0 U Ps w) (f1a:FV (a0p ax ay aj c1a az ak aA) af bC bu w) (bI:FV (a0p aB aC n1b aG aF au aH) ah bD bn w) (fC:FV (a0p aP aQ aK aS aU aN aY) aI bM bT w) (fD:FV (a0p aV aW aO aX aZ aT bf) aJ bP bQ w):bY Tryz.prog 5 [(a0r ax ay aj c1a az ak aA aB aC n1b aG aF au aH),(a0r aP aQ aK aS aU aN aY aV aW aO aX aZ aT bf)] w (iP W0 U Ps (.bool true)):=by
 have HS:=HS.add (FV.stable _ _ _ _) f1a
 have HS:=HS.add (FV.stable _ _ _ _) bI
 have HS:=HS.add (FV.stable _ _ _ _) fC
 have HS:=HS.add (FV.stable _ _ _ _) fD
 clear f1a bI fC fD
 refine iL a0o rfl Tryz.ntmps5 rfl ?_
 refine JC.seq ?_
 refine JC.region ?_
 refine JL.box (vs:=(a0s ax ay aj c1a az ak aA aB aC n1b aG aF au aH)) HS rfl rfl rfl rfl (fun g1 w1 HS => ?_)
 refine JL.box (vs:=(a0s aP aQ aK aS aU aN aY aV aW aO aX aZ aT bf)) HS rfl rfl rfl rfl (fun g2 w2 HS => ?_)
 refine Lv (.bool false) (fun a ha=>run_assign (ha.ev rfl)) ?_
 refine jn ?_
 refine JC.seq ?_
 refine JC.seq ?_
 refine JC.region ?_
 refine JL.load (a0r ax ay aj c1a az ak aA aB aC n1b aG aF au aH) HS 1 rfl rfl rfl aYq aYo rfl rfl ?_
 refine JL.load (a0r aP aQ aK aS aU aN aY aV aW aO aX aZ aT bf) HS 0 rfl rfl rfl aYq aYo rfl rfl ?_
 refine JL.buildSlice (ps:=[(0,(a0r ax ay aj c1a az ak aA aB aC n1b aG aF au aH)),(1,(a0r aP aQ aK aS aU aN aY aV aW aO aX aZ aT bf))]) (vs:=[.bool ax,.slice ay aj c1a,.slice az ak aA,.bool aB,.slice aC n1b aG,.slice aF au aH,.bool aP,.slice aQ aK aS,.slice aU aN aY,.bool aV,.slice aW aO aX,.slice aZ aT bf]) HS rfl (fun a ha=>by simp only [List.map_cons,List.map_nil,ha.ev (x := .tmp 13) (v:=(a0r ax ay aj c1a az ak aA aB aC n1b aG aF au aH)) rfl,ha.ev (x := .tmp 14) (v:=(a0r aP aQ aK aS aU aN aY aV aW aO aX aZ aT bf)) rfl]) aY0 aYo aYt rfl rfl (by kernel_rfl) rfl (fun g3 w3 HS => ?_)
 refine JL.call rfl rfl aZh (Ym HT HB HS) (fun v4 w4 HR4 => ?_)
 obtain ⟨rfl,HS⟩:=HR4
 refine Lv (.bool (!(decide (aj≤8∧ak≤8∧n1b≤8∧au≤8∧aK≤8∧aN≤8∧aO≤8∧aT≤8)))) (fun a ha=>sU (ha.ev rfl)) ?_
 cases Ap:((decide (aj≤8∧ak≤8∧n1b≤8∧au≤8∧aK≤8∧aN≤8∧aO≤8∧aT≤8)))
 ·skip
  refine Lv (.bool true) (fun a ha=>run_move (ha.ev rfl)) ?_
  refine Lp ?_
  refine Lp ?_
  refine Lv (.bool true) (fun a ha=>eY (ha.ev rfl) (ha.ev rfl)) ?_
  refine jn ?_
  refine JC.iy rfl ?_
  refine JC.seq ?_
  refine JC.region ?_
  refine JL.call rfl rfl aYO (zh HT HB HS  ) (fun v6 w6 uk => ?_)
  obtain ⟨rfl,HS⟩:=uk
  refine Lv (.bool true) (fun a ha=>run_assign (ha.ev rfl)) ?_
  refine jn ?_
  refine JC.ret (fun a ha => ?_)
  repeat (first | refine dh ?_ | refine df ?_)
  refine fG (v := .bool true) ha Tryz.results5 (.tmp rfl) ⟨_,rfl,?_⟩
  exact ⟨rfl,HS.gy 3 4 rfl rfl⟩
 ·skip
  have hfew:=of_decide_eq_true Ap
  have HS:=HS.pO 3 rfl (fun _ h=>(fJ.cut (K:=8) h (by omega) (by omega):FV _ _ 8 _ _))
  have HS:=HS.pO 3 rfl (fun _ h=>(fJ.cut (K:=8) h (by omega) (by omega):FV _ _ 8 _ _))
  have HS:=HS.pO 3 rfl (fun _ h=>(fJ.cut (K:=8) h (by omega) (by omega):FV _ _ 8 _ _))
  have HS:=HS.pO 3 rfl (fun _ h=>(fJ.cut (K:=8) h (by omega) (by omega):FV _ _ 8 _ _))
  obtain ⟨lm,hm,em,cm,hm1,wm⟩:=aAk af aJ bu bQ
  refine Lv (.bool false) (fun a ha=>run_move (ha.ev rfl)) ?_
  refine JL.cZ rfl rfl rfl rfl rfl rfl aYO (zh HT HB HS  ) (fun v7 w7 wM => ?_)
  obtain ⟨rfl,HS⟩:=wM
  refine Lg (.bool false) (fun a ha=>sU (b:=true) (ha.ev rfl)) ?_
  refine Lv (.bool false) (fun a ha=>gB (ha.ev rfl) (ha.ev rfl)) ?_
  refine jn ?_
  refine JC.jA rfl ?_
  refine JC.jF (fun _ _ h=>h) ?_
  refine JC.seq ?_
  refine JC.region ?_
  refine Lv (.pointer (some ⟨g1,0,none⟩)) (fun a ha=>bH (ha.ev rfl) aYr rfl aYn rfl rfl) ?_
  refine JL.load (a0p ax ay aj c1a az ak aA) HS 2 rfl rfl rfl aYp aYn rfl rfl ?_
  refine Lv (.pointer (some ⟨g2,3,none⟩)) (fun a ha=>bH (ha.ev rfl) aYr rfl aYn rfl rfl) ?_
  refine JL.load (a0p aV aW aO aX aZ aT bf) HS 1 rfl rfl rfl aYp aYn rfl rfl ?_
  refine JL.call rfl rfl aY9 ((wm HT HB HS (HS.at_ 3 rfl) (HS.at_ 0 rfl)).1) (fun v8 w8 CJ => ?_)
  obtain ⟨OX,MB,Ox,Nz,MQ,Oi,NI,OY,MC,Oy,NC,MR,Oj,NJ,rfl,HS⟩:=CJ
  refine Lv (.tuple #[(a0r OX MB Ox Nz MQ Oi NI OY MC Oy NC MR Oj NJ),em]) (fun a ha=>run_move (ha.ev rfl)) ?_
  refine Lv (a0r OX MB Ox Nz MQ Oi NI OY MC Oy NC MR Oj NJ) (fun a ha=>bK (ha.ev rfl) rfl) ?_
  refine Lv (em) (fun a ha=>bK (ha.ev rfl) rfl) ?_
  refine JL.alloc (vs:=cO) HS rfl aYt rfl rfl (fun g9 w9 HS => ?_)
  refine JL.store HS rfl rfl (i:=0) rfl aYo rfl rfl rfl (vs':=(a0s OX MB Ox Nz MQ Oi NI OY MC Oy NC MR Oj NJ)) rfl rfl (fun w10 HS => ?_)
  refine Lv (em) (fun a ha=>run_assign (ha.ev rfl)) ?_
  refine jn ?_
  refine JC.seq ?_
  refine JC.region ?_
  refine Lv (.pointer (some ⟨g1,0,none⟩)) (fun a ha=>bH (ha.ev rfl) aYr rfl aYn rfl rfl) ?_
  refine JL.load (a0p ax ay aj c1a az ak aA) HS 3 rfl rfl rfl aYp aYn rfl rfl ?_
  refine Lv (.pointer (some ⟨g2,3,none⟩)) (fun a ha=>bH (ha.ev rfl) aYr rfl aYn rfl rfl) ?_
  refine JL.load (a0p aV aW aO aX aZ aT bf) HS 2 rfl rfl rfl aYp aYn rfl rfl ?_
  refine JL.call rfl rfl Tryz.call34 ((wm HT HB HS (HS.at_ 5 rfl) (HS.at_ 2 rfl)).2) (fun v11 Dp DV => ?_)
  obtain ⟨OI,LV,Oo,Nq,MF,Ob,ND,OJ,LW,Oq,Nr,MG,Oc,NE,rfl,HS⟩:=DV
  refine Lv (.tuple #[(a0r OI LV Oo Nq MF Ob ND OJ LW Oq Nr MG Oc NE),.int .i64 cm]) (fun a ha=>run_move (ha.ev rfl)) ?_
  refine Lv (a0r OI LV Oo Nq MF Ob ND OJ LW Oq Nr MG Oc NE) (fun a ha=>bK (ha.ev rfl) rfl) ?_
  refine Lv (.int .i64 cm) (fun a ha=>bK (ha.ev rfl) rfl) ?_
  refine JL.alloc (vs:=cO) HS rfl aYt rfl rfl (fun g12 w12 HS => ?_)
  refine JL.store HS rfl rfl (i:=0) rfl aYo rfl rfl rfl (vs':=(a0s OI LV Oo Nq MF Ob ND OJ LW Oq Nr MG Oc NE)) rfl rfl (fun Gl HS => ?_)
  refine Lv (.int .i64 cm) (fun a ha=>run_assign (ha.ev rfl)) ?_
  refine jn ?_
  refine JC.seq ?_
  refine JC.region ?_
  refine JL.load (a0r ax ay aj c1a az ak aA aB aC n1b aG aF au aH) HS 4 rfl rfl rfl aYq aYo rfl rfl ?_
  refine JL.call rfl rfl Tryz.call35 (aGX HT HB HS (HS.at_ 7 rfl) (HS.at_ 6 rfl) (by omega)) (fun v14 JX Io => ?_)
  obtain ⟨rfl,HS⟩:=Io
  refine Lv (.tuple #[.int .i64 (rG (bV bu bn af ah) (bW bu bn af ah)),.bool (okS (bV bu bn af ah) (bW bu bn af ah))]) (fun a ha=>run_move (ha.ev rfl)) ?_
  refine Lv (.int .i64 (rG (bV bu bn af ah) (bW bu bn af ah))) (fun a ha=>bK (ha.ev rfl) rfl) ?_
  refine Lv (.bool (okS (bV bu bn af ah) (bW bu bn af ah))) (fun a ha=>bK (ha.ev rfl) rfl) ?_
  refine Lv (.int .i64 (rG (bV bu bn af ah) (bW bu bn af ah))) (fun a ha=>run_assign (ha.ev rfl)) ?_
  refine Lv (.bool (okS (bV bu bn af ah) (bW bu bn af ah))) (fun a ha=>run_assign (ha.ev rfl)) ?_
  refine jn ?_
  refine JC.seq ?_
  refine JC.region ?_
  refine JL.load (a0r ax ay aj c1a az ak aA aB aC n1b aG aF au aH) HS 4 rfl rfl rfl aYq aYo rfl rfl ?_
  refine JL.call rfl rfl Tryz.call36 (aFg HT HB HS (HS.at_ 7 rfl) (HS.at_ 6 rfl) (by omega)) (fun v15 J4 Ip => ?_)
  obtain ⟨rfl,HS⟩:=Ip
  refine Lv (.tuple #[.int .i64 (rG (bV bu bn af ah) (bW bu bn af ah)),.bool (okS (bV bu bn af ah) (bW bu bn af ah))]) (fun a ha=>run_move (ha.ev rfl)) ?_
  refine Lv (.int .i64 (rG (bV bu bn af ah) (bW bu bn af ah))) (fun a ha=>bK (ha.ev rfl) rfl) ?_
  refine Lv (.bool (okS (bV bu bn af ah) (bW bu bn af ah))) (fun a ha=>bK (ha.ev rfl) rfl) ?_
  refine Lv (.int .i64 (rG (bV bu bn af ah) (bW bu bn af ah))) (fun a ha=>run_assign (ha.ev rfl)) ?_
  refine Lv (.bool (okS (bV bu bn af ah) (bW bu bn af ah))) (fun a ha=>run_assign (ha.ev rfl)) ?_
  refine jn ?_
  refine JC.seq ?_
  refine JC.draw HS [] (by kernel_rfl) (fun w16 HS => ?_)
  refine Dv (em) 0 rfl HS.b0 (fun a ha w=>run_move (ha.ev rfl)) ?_
  refine Dv (.int .i64 cm) 2 rfl HS.b0 (fun a ha w=>run_move (ha.ev rfl)) ?_
  refine bJ 1 rfl rfl rfl aZt (hm1 _ _ _ _ HS) (fun aTr aVL at6 => ?_)
  obtain ⟨rfl,HS⟩:=at6
  refine ⟨HS.b0,?_⟩
  refine Dv (.bool true) 3 rfl HS.b0 (fun a ha w=>rC (ha.ev rfl) (ha.ev rfl) (by simp)) ?_
  refine Dv (.bool true) 4 rfl HS.b0 (fun a ha w=>run_move (ha.ev rfl)) ?_
  refine fM (a0r OX MB Ox Nz MQ Oi NI OY MC Oy NC MR Oj NJ) 5 1 (by kernel_rfl) rfl (fun _ _ _ h=>h) rfl rfl rfl rfl rfl HS.b0 rfl rfl aYq aYo rfl rfl ?_
  refine fM (a0r OI LV Oo Nq MF Ob ND OJ LW Oq Nr MG Oc NE) 6 0 (by kernel_rfl) rfl (fun _ _ _ h=>h) rfl rfl rfl rfl rfl HS.b0 rfl rfl aYq aYo rfl rfl ?_
  refine J1 7 (by kernel_rfl) ?_
  refine ai.cZ rfl rfl rfl rfl rfl rfl rfl aY2 (JM HT HB HS (HS.at_ 2 rfl) (HS.at_ 3 rfl) (HS.at_ 0 rfl) (HS.at_ 1 rfl) (by omega) rfl rfl) rfl (fun asy as2 W9 => ?_) ai.nil
  obtain ⟨rfl,HS⟩:=W9
  refine ⟨HS.b0,?_⟩
  refine Dv (.bool true) 8 rfl HS.b0 (fun a ha w=>eY (ha.ev rfl) (ha.ev rfl)) ?_
  refine Dv (.bool true) 9 rfl HS.b0 (fun a ha w=>run_move (ha.ev rfl)) ?_
  refine fM (a0r ax ay aj c1a az ak aA aB aC n1b aG aF au aH) 10 4 (by kernel_rfl) rfl (fun _ _ _ h=>h) rfl rfl rfl rfl rfl HS.b0 rfl rfl aYq aYo rfl rfl ?_
  refine fM (a0r ax ay aj c1a az ak aA aB aC n1b aG aF au aH) 12 4 (by kernel_rfl) rfl (fun _ _ _ h=>h) rfl rfl rfl rfl rfl HS.b0 rfl rfl aYq aYo rfl rfl ?_
  refine J1 11 (by kernel_rfl) ?_
  refine ai.cZ rfl rfl rfl rfl rfl rfl rfl Tryz.call38 (asX HT HB HS (HS.at_ 7 rfl) (HS.at_ 6 rfl) (by omega)) rfl (fun aTt aVM at7 => ?_) ai.nil
  obtain ⟨rfl,HS⟩:=at7
  refine ⟨HS.b0,?_⟩
  refine J1 13 (by kernel_rfl) ?_
  refine ai.cZ rfl rfl rfl rfl rfl rfl rfl aY5 (KZ HT HB HS (HS.at_ 7 rfl) (HS.at_ 6 rfl) (by omega)) rfl (fun ajN aj2 QZ => ?_) ai.nil
  obtain ⟨rfl,HS⟩:=QZ
  refine ⟨HS.b0,?_⟩
  refine Dg (.bool true) 14 rfl HS.b0 (fun a ha w=>aek (ha.ev rfl) (ha.ev rfl) aY1 (by simp)) ?_
  refine Dv (.bool true) 15 rfl HS.b0 (fun a ha w=>eY (ha.ev rfl) (ha.ev rfl)) ?_
  refine Dv (.bool true) 16 rfl HS.b0 (fun a ha w=>run_move (ha.ev rfl)) ?_
  refine Dg (.pointer (some ⟨g1,0,none⟩)) 17 rfl HS.b0 (fun a ha w=>bH (ha.ev rfl) aYr rfl aYn rfl rfl) ?_
  refine fM (a0p ax ay aj c1a az ak aA) 18 4 (by kernel_rfl) rfl (fun _ _ _ h=>h) rfl rfl rfl rfl rfl HS.b0 rfl rfl aYp aYn rfl rfl ?_
  refine Dg (.pointer (some ⟨g1,0,none⟩)) 20 rfl HS.b0 (fun a ha w=>bH (ha.ev rfl) aYr rfl aYn rfl rfl) ?_
  refine fM (a0p ax ay aj c1a az ak aA) 21 4 (by kernel_rfl) rfl (fun _ _ _ h=>h) rfl rfl rfl rfl rfl HS.b0 rfl rfl aYp aYn rfl rfl ?_
  refine J1 19 (by kernel_rfl) ?_
  refine ai.cZ rfl rfl rfl rfl rfl rfl rfl Tryz.call40 (aGT HT HB HS (HS.at_ 7 rfl) (by omega)) rfl (fun aTu aVN aua => ?_) ai.nil
  obtain ⟨aRJ,aHJ,aP4,aKA,aI9,aOE,aL4,aRK,aHK,aP5,aKB,aI',aOF,aL5,rfl,HS⟩:=aua
  refine ⟨HS.b0,?_⟩
  refine J1 22 (by kernel_rfl) ?_
  refine ai.cZ rfl rfl rfl rfl rfl rfl rfl Tryz.call41 (aFb HT HB HS (HS.at_ 9 rfl) (by omega)) rfl (fun aTv aVO aub => ?_) ai.nil
  obtain ⟨aRL,aHL,aP6,aKC,aJa,aOG,aL6,aRN,aHM,aP7,aKD,aJb,aOH,aL7,rfl,HS⟩:=aub
  refine ⟨HS.b0,?_⟩
  refine J1 23 (by kernel_rfl) ?_
  refine ai.cZ rfl rfl rfl rfl rfl rfl rfl aY2 (JM HT HB HS (HS.at_ 2 rfl) (HS.at_ 3 rfl) (HS.at_ 0 rfl) (HS.at_ 1 rfl) (by omega) rfl rfl) rfl (fun aTw aVP auc => ?_) ai.nil
  obtain ⟨rfl,HS⟩:=auc
  refine ⟨HS.b0,?_⟩
  refine Dv (.bool true) 24 rfl HS.b0 (fun a ha w=>eY (ha.ev rfl) (ha.ev rfl)) ?_
  refine Dv (.bool true) 25 rfl HS.b0 (fun a ha w=>run_move (ha.ev rfl)) ?_
  refine fM (a0r ax ay aj c1a az ak aA aB aC n1b aG aF au aH) 26 4 (by kernel_rfl) rfl (fun _ _ _ h=>h) rfl rfl rfl rfl rfl HS.b0 rfl rfl aYq aYo rfl rfl ?_
  refine Dg (.pointer (some ⟨g2,0,none⟩)) 27 rfl HS.b0 (fun a ha w=>bH (ha.ev rfl) aYr rfl aYn rfl rfl) ?_
  refine fM (a0p aP aQ aK aS aU aN aY) 28 3 (by kernel_rfl) rfl (fun _ _ _ h=>h) rfl rfl rfl rfl rfl HS.b0 rfl rfl aYp aYn rfl rfl ?_
  refine fM (a0r ax ay aj c1a az ak aA aB aC n1b aG aF au aH) 30 4 (by kernel_rfl) rfl (fun _ _ _ h=>h) rfl rfl rfl rfl rfl HS.b0 rfl rfl aYq aYo rfl rfl ?_
  refine Dg (.pointer (some ⟨g2,0,none⟩)) 31 rfl HS.b0 (fun a ha w=>bH (ha.ev rfl) aYr rfl aYn rfl rfl) ?_
  refine fM (a0p aP aQ aK aS aU aN aY) 32 3 (by kernel_rfl) rfl (fun _ _ _ h=>h) rfl rfl rfl rfl rfl HS.b0 rfl rfl aYp aYn rfl rfl ?_
  refine J1 29 (by kernel_rfl) ?_
  refine ai.cZ rfl rfl rfl rfl rfl rfl rfl aYF (aeZ HT HB HS (HS.at_ 11 rfl) (HS.at_ 10 rfl) (HS.at_ 9 rfl) (by omega)) rfl (fun aTx aVQ aud => ?_) ai.nil
  obtain ⟨rfl,HS⟩:=aud
  refine ⟨HS.b0,?_⟩
  refine J1 33 (by kernel_rfl) ?_
  refine ai.cZ rfl rfl rfl rfl rfl rfl rfl aZK (aen HT HB HS (HS.at_ 11 rfl) (HS.at_ 10 rfl) (HS.at_ 9 rfl) (by omega)) rfl (fun aTy aVR aue => ?_) ai.nil
  obtain ⟨rfl,HS⟩:=aue
  refine ⟨HS.b0,?_⟩
  refine Dg (.bool true) 34 rfl HS.b0 (fun a ha w=>aek (ha.ev rfl) (ha.ev rfl) aY1 (by simp)) ?_
  refine Dv (.bool true) 35 rfl HS.b0 (fun a ha w=>eY (ha.ev rfl) (ha.ev rfl)) ?_
  refine Dv (.bool true) 36 rfl HS.b0 (fun a ha w=>run_move (ha.ev rfl)) ?_
  refine fM (a0r ax ay aj c1a az ak aA aB aC n1b aG aF au aH) 37 4 (by kernel_rfl) rfl (fun _ _ _ h=>h) rfl rfl rfl rfl rfl HS.b0 rfl rfl aYq aYo rfl rfl ?_
  refine fM (a0r aP aQ aK aS aU aN aY aV aW aO aX aZ aT bf) 38 3 (by kernel_rfl) rfl (fun _ _ _ h=>h) rfl rfl rfl rfl rfl HS.b0 rfl rfl aYq aYo rfl rfl ?_
  refine fM (a0r ax ay aj c1a az ak aA aB aC n1b aG aF au aH) 40 4 (by kernel_rfl) rfl (fun _ _ _ h=>h) rfl rfl rfl rfl rfl HS.b0 rfl rfl aYq aYo rfl rfl ?_
  refine fM (a0r aP aQ aK aS aU aN aY aV aW aO aX aZ aT bf) 41 3 (by kernel_rfl) rfl (fun _ _ _ h=>h) rfl rfl rfl rfl rfl HS.b0 rfl rfl aYq aYo rfl rfl ?_
  refine J1 39 (by kernel_rfl) ?_
  refine ai.cZ rfl rfl rfl rfl rfl rfl rfl aY' (asH HT HB HS (HS.at_ 11 rfl) (HS.at_ 10 rfl) (HS.at_ 9 rfl) (HS.at_ 8 rfl) (by omega)) rfl (fun aTz aVS auf => ?_) ai.nil
  obtain ⟨rfl,HS⟩:=auf
  refine ⟨HS.b0,?_⟩
  refine J1 42 (by kernel_rfl) ?_
  refine ai.cZ rfl rfl rfl rfl rfl rfl rfl Tryz.call45 (aE5 HT HB HS (HS.at_ 11 rfl) (HS.at_ 10 rfl) (HS.at_ 9 rfl) (HS.at_ 8 rfl) (by omega)) rfl (fun aTA aVT aug => ?_) ai.nil
  obtain ⟨rfl,HS⟩:=aug
  refine ⟨HS.b0,?_⟩
  refine Dg (.bool true) 43 rfl HS.b0 (fun a ha w=>aek (ha.ev rfl) (ha.ev rfl) aY1 (by simp)) ?_
  refine Dv (.bool true) 44 rfl HS.b0 (fun a ha w=>eY (ha.ev rfl) (ha.ev rfl)) ?_
  refine Dv (.bool true) 45 rfl HS.b0 (fun a ha w=>run_move (ha.ev rfl)) ?_
  refine fM (a0r ax ay aj c1a az ak aA aB aC n1b aG aF au aH) 46 4 (by kernel_rfl) rfl (fun _ _ _ h=>h) rfl rfl rfl rfl rfl HS.b0 rfl rfl aYq aYo rfl rfl ?_
  refine fM (a0r ax ay aj c1a az ak aA aB aC n1b aG aF au aH) 48 4 (by kernel_rfl) rfl (fun _ _ _ h=>h) rfl rfl rfl rfl rfl HS.b0 rfl rfl aYq aYo rfl rfl ?_
  refine J1 47 (by kernel_rfl) ?_
  refine ai.cZ rfl rfl rfl rfl rfl rfl rfl Tryz.call46 (aGY HT HB HS (HS.at_ 11 rfl) (HS.at_ 10 rfl) (by omega)) rfl (fun aTB aVU auh => ?_) ai.nil
  obtain ⟨aRO,aHN,aP8,aKE,aJc,aOI,aL8,rfl,HS⟩:=auh
  refine ⟨HS.b0,?_⟩
  refine J1 49 (by kernel_rfl) ?_
  refine ai.cZ rfl rfl rfl rfl rfl rfl rfl Tryz.call47 (aFk HT HB HS (HS.at_ 12 rfl) (HS.at_ 11 rfl) (by omega)) rfl (fun aTC aVV aui => ?_) ai.nil
  obtain ⟨aRP,aHO,aP9,aKF,aJd,aOJ,aL9,rfl,HS⟩:=aui
  refine ⟨HS.b0,?_⟩
  refine J1 50 (by kernel_rfl) ?_
  refine ai.cZ rfl rfl rfl rfl rfl rfl rfl aZ7 (aeb HT HB HS (HS.at_ 1 rfl) (HS.at_ 0 rfl) (by omega) rfl) rfl (fun aTD aVW auj => ?_) ai.nil
  obtain ⟨rfl,HS⟩:=auj
  refine ⟨HS.b0,?_⟩
  refine Dv (.bool true) 51 rfl HS.b0 (fun a ha w=>eY (ha.ev rfl) (ha.ev rfl)) ?_
  refine Dv (.bool true) 52 rfl HS.b0 (fun a ha w=>run_move (ha.ev rfl)) ?_
  refine fM (a0r ax ay aj c1a az ak aA aB aC n1b aG aF au aH) 53 4 (by kernel_rfl) rfl (fun _ _ _ h=>h) rfl rfl rfl rfl rfl HS.b0 rfl rfl aYq aYo rfl rfl ?_
  refine fM (a0r ax ay aj c1a az ak aA aB aC n1b aG aF au aH) 55 4 (by kernel_rfl) rfl (fun _ _ _ h=>h) rfl rfl rfl rfl rfl HS.b0 rfl rfl aYq aYo rfl rfl ?_
  refine J1 54 (by kernel_rfl) ?_
  refine ai.cZ rfl rfl rfl rfl rfl rfl rfl Tryz.call48 (asL HT HB HS (HS.at_ 13 rfl) (HS.at_ 12 rfl) (by omega)) rfl (fun aTE aVX auk => ?_) ai.nil
  obtain ⟨aRQ,aHP,aP',aKG,aJe,aOK,aMa,rfl,HS⟩:=auk
  refine ⟨HS.b0,?_⟩
  refine J1 56 (by kernel_rfl) ?_
  refine ai.cZ rfl rfl rfl rfl rfl rfl rfl Tryz.call49 (aE' HT HB HS (HS.at_ 14 rfl) (HS.at_ 13 rfl) (by omega)) rfl (fun aTF aVY aul => ?_) ai.nil
  obtain ⟨aRS,aHQ,aQa,aKH,aJf,aOL,aMb,rfl,HS⟩:=aul
  refine ⟨HS.b0,?_⟩
  refine J1 57 (by kernel_rfl) ?_
  refine ai.cZ rfl rfl rfl rfl rfl rfl rfl aZ7 (aeb HT HB HS (HS.at_ 1 rfl) (HS.at_ 0 rfl) (by omega) rfl) rfl (fun aTG aVZ aum => ?_) ai.nil
  obtain ⟨rfl,HS⟩:=aum
  refine ⟨HS.b0,?_⟩
  refine Dv (.bool true) 58 rfl HS.b0 (fun a ha w=>eY (ha.ev rfl) (ha.ev rfl)) ?_
  refine Dv (.bool true) 59 rfl HS.b0 (fun a ha w=>run_move (ha.ev rfl)) ?_
  refine Dg (.int .i64 (rG (bV bu bn af ah) (bW bu bn af ah))) 60 rfl HS.b0 (fun a ha w=>run_move (ha.ev rfl)) ?_
  refine Dg (.int .i64 (rG (bV bu bn af ah) (bW bu bn af ah))) 61 rfl HS.b0 (fun a ha w=>run_move (ha.ev rfl)) ?_
  refine Dg (.bool true) 62 rfl HS.b0 (fun a ha w=>rC (ha.ev rfl) (ha.ev rfl) (by simp)) ?_
  refine Dv (.bool true) 63 rfl HS.b0 (fun a ha w=>eY (ha.ev rfl) (ha.ev rfl)) ?_
  refine Dv (.bool true) 64 rfl HS.b0 (fun a ha w=>run_move (ha.ev rfl)) ?_
  refine Dg (.bool (okS (bV bu bn af ah) (bW bu bn af ah))) 65 rfl HS.b0 (fun a ha w=>run_move (ha.ev rfl)) ?_
  refine Dg (.bool (okS (bV bu bn af ah) (bW bu bn af ah))) 66 rfl HS.b0 (fun a ha w=>run_move (ha.ev rfl)) ?_
  refine Dg (.bool true) 67 rfl HS.b0 (fun a ha w=>aek (ha.ev rfl) (ha.ev rfl) aY1 (by simp)) ?_
  refine Dv (.bool true) 68 rfl HS.b0 (fun a ha w=>eY (ha.ev rfl) (ha.ev rfl)) ?_
  refine Dv (.bool true) 69 rfl HS.b0 (fun a ha w=>run_move (ha.ev rfl)) ?_
  refine fM (a0r ax ay aj c1a az ak aA aB aC n1b aG aF au aH) 70 4 (by kernel_rfl) rfl (fun _ _ _ h=>h) rfl rfl rfl rfl rfl HS.b0 rfl rfl aYq aYo rfl rfl ?_
  refine fM (a0r ax ay aj c1a az ak aA aB aC n1b aG aF au aH) 72 4 (by kernel_rfl) rfl (fun _ _ _ h=>h) rfl rfl rfl rfl rfl HS.b0 rfl rfl aYq aYo rfl rfl ?_
  refine J1 71 (by kernel_rfl) ?_
  refine ai.cZ rfl rfl rfl rfl rfl rfl rfl aZJ (ZQ HT HB HS (HS.at_ 15 rfl) (HS.at_ 14 rfl) (by omega)) rfl (fun aTH aV1 aun => ?_) ai.nil
  obtain ⟨rfl,HS⟩:=aun
  refine ⟨HS.b0,?_⟩
  refine J1 73 (by kernel_rfl) ?_
  refine ai.cZ rfl rfl rfl rfl rfl rfl rfl Tryz.call51 (aFi HT HB HS (HS.at_ 15 rfl) (HS.at_ 14 rfl) (by omega)) rfl (fun aTI aV2 auo => ?_) ai.nil
  obtain ⟨rfl,HS⟩:=auo
  refine ⟨HS.b0,?_⟩
  refine Dg (.bool true) 74 rfl HS.b0 (fun a ha w=>Zp (ha.ev rfl) (ha.ev rfl) (by simp)) ?_
  refine Dv (.bool true) 75 rfl HS.b0 (fun a ha w=>eY (ha.ev rfl) (ha.ev rfl)) ?_
  refine Dv (.bool true) 76 rfl HS.b0 (fun a ha w=>run_assign (ha.ev rfl)) ?_
  refine JR.next (by kernel_rfl) (fun _ _ h=>h) ?_
  refine JC.ret (fun a ha => ?_)
  repeat (first | refine dh ?_ | refine df ?_)
  refine fG (v := .bool true) ha Tryz.results5 (.tmp rfl) ⟨_,rfl,?_⟩
  exact ⟨rfl,HS.gy 5 20 rfl rfl⟩
theorem aAG  {ax:Bool} {ay:Option Addr} {aj c1a:Nat} {az:Option Addr} {ak aA:Nat} {af:Rat} {bC:Nat} {bu:Bool} {aB:Bool} {aC:Option Addr} {n1b aG:Nat} {aF:Option Addr} {au aH:Nat} {ah:Rat} {bD:Nat} {bn:Bool} {aP:Bool} {aQ:Option Addr} {aK aS:Nat} {aU:Option Addr} {aN aY:Nat} {aI:Rat} {bM:Nat} {bT:Bool} {aV:Bool} {aW:Option Addr} {aO aX:Nat} {aZ:Option Addr} {aT bf:Nat} {aJ:Rat} {bP:Nat} {bQ:Bool} (W:World) (ht:Tz W) (hb:Tab W) (_hx:Mx W) (f1a:fJ W ⟨(a0p ax ay aj c1a az ak aA),af,bC,bu⟩) (bI:fJ W ⟨(a0p aB aC n1b aG aF au aH),ah,bD,bn⟩) (fC:fJ W ⟨(a0p aP aQ aK aS aU aN aY),aI,bM,bT⟩) (fD:fJ W ⟨(a0p aV aW aO aX aZ aT bf),aJ,bP,bQ⟩)  :
  Calls Tryz.prog 5 #[(a0r ax ay aj c1a az ak aA aB aC n1b aG aF au aH),(a0r aP aQ aK aS aU aN aY aV aW aO aX aZ aT bf)] W fun e w'=>e = .returned (.bool true)∧Below W.heap.size W w':=law_true (aAH ht hb (St.init W) f1a bI fC fD)
end
end Go.Proofs.YtbihljnjaondcaaGreatDoor
