/- Part of a proof, said shortly. -/
import Derived.WalkKit
import Derived.Below
import Derived.Laws.Cells
import Derived.OrdersHeld
import Derived.LoopN
import Derived.OpenShut
import Derived.Deep.Strs
import Derived.Test.YtbihljnjaondcaaGreatDoorAlz
import Derived.Test.YtbihljnjaondcaaGreatDoorC15
import Derived.Test.YtbihljnjaondcaaGreatDoorS1
import Derived.Test.YtbihljnjaondcaaGreatDoorS19
import Derived.Test.YtbihljnjaondcaaGreatDoorC21
import Derived.Test.YtbihljnjaondcaaGreatDoorS20
import Derived.Test.YtbihljnjaondcaaGreatDoorC20
import Derived.Test.YtbihljnjaondcaaGreatDoorS5
import Derived.Test.YtbihljnjaondcaaGreatDoorC16
import Derived.Test.YtbihljnjaondcaaGreatDoorS4
import Derived.Test.YtbihljnjaondcaaGreatDoorS6
import Derived.Test.YtbihljnjaondcaaGreatDoorC14
import Derived.Test.YtbihljnjaondcaaGreatDoorC13
import Derived.Test.YtbihljnjaondcaaGreatDoorC12
import Derived.Test.YtbihljnjaondcaaGreatDoorC11
import Derived.Test.YtbihljnjaondcaaGreatDoorC10
import Derived.Test.YtbihljnjaondcaaGreatDoorC6
import Derived.Test.YtbihljnjaondcaaGreatDoorC2
import Derived.Test.YtbihljnjaondcaaGreatDoorC1
import Derived.Test.YtbihljnjaondcaaGreatDoorC5
import Derived.Test.YtbihljnjaondcaaGreatDoorC4
import Derived.Test.YtbihljnjaondcaaGreatDoorC3
import Derived.Test.YtbihljnjaondcaaGreatDoorC9
import Derived.Test.YtbihljnjaondcaaGreatDoorC8
import Derived.Test.YtbihljnjaondcaaGreatDoorC7
import Derived.Test.YtbihljnjaondcaaGreatDoorC19
import Derived.Test.YtbihljnjaondcaaGreatDoorC18
import Derived.Test.YtbihljnjaondcaaGreatDoorC17
import Derived.Test.YtbihljnjaondcaaGreatDoorC25
import Derived.Test.YtbihljnjaondcaaGreatDoorS10
import Derived.Test.YtbihljnjaondcaaGreatDoorS2
import Derived.Test.YtbihljnjaondcaaGreatDoorS13
import Derived.Test.YtbihljnjaondcaaGreatDoorS11
import Derived.Test.YtbihljnjaondcaaGreatDoorS15
import Derived.Test.YtbihljnjaondcaaGreatDoorS3
import Derived.Test.YtbihljnjaondcaaGreatDoorC22
import Derived.Test.YtbihljnjaondcaaGreatDoorS8
import Derived.Test.YtbihljnjaondcaaGreatDoorS17
import Derived.Test.YtbihljnjaondcaaGreatDoorC23
import Derived.Test.YtbihljnjaondcaaGreatDoorC24
set_option maxRecDepth 100000
open Go.Proofs.YtbihljnjaondcaaGreatDoor (a0p a0q a0r a0s yw bU fO cO PS iy1 PT FX iy4 iy5 iy6 Yo iy8 iy9 aAJ)
set_option linter.unusedVariables false
set_option linter.unusedSimpArgs false
namespace bZ
open Go Go.RowKit
section
variable {P:Program} {ρ:Operand→Value} {w:World} {dst:Option Tmp} {ty:TypeId} {pos:String} {fB:Array Edge} {gd:Option (Nat×Bool)}
theorem Qg {t t' u:TypeId} {x:Operand} {v:Value} {ms:Array (String×TypeId)} (hx:ρ x = .iface u v) (hc:ρ (.const .nilIface) = .nilIface) (hu : ∀ w,(underlying t).run P w = .ok (.interface ms) w) :
  (execOp ρ ⟨dst,.binOp .eql t x (.const .nilIface) t',ty,pos,fB,gd⟩).run P w = .ok (.value (.bool false)) w:=by
 simp [execOp,hx,hc,eqGuard,binOp,acn (P:=P) hu (.inr (.inr ⟨rfl,⟨u,v,rfl⟩,rfl⟩))]
end
end bZ
namespace bZ
open Go Go.RowKit
section
variable {P:Program} {ρ:Operand→Value} {w:World} {dst:Option Tmp} {ty:TypeId} {pos:String} {fB:Array Edge} {gd:Option (Nat×Bool)}
theorem KY {t et:TypeId} {x y:Operand} {k:IntKind} {i:Int} {g off n size j:Nat} {v:Value} (hx:ρ x = .pointer (some ⟨g,off,none⟩)) (hy:ρ y = .int k i) (hu : ∀ w,(underlying t).run P w = .ok (.array n et) w) (hs : ∀ w,(Go.sizeOf et).run P w = .ok size w)
  (hi:i=(j:Int)) (hj:j < n) (hv:Value.pointer (some ⟨g,off+j*size,none⟩)=v):(execOp ρ ⟨dst,.indexAddr t x y,ty,pos,fB,gd⟩).run P w = .ok (.value v) w:=by
 subst hi hv
 have e:(⟨g,off,none⟩:Addr).add (j*size)=⟨g,off+j*size,none⟩:=by unfold Addr.add; split <;> simp_all
 simp [execOp,hx,hy,Instr.indexAt,asIntOf,Instr.sureAddr,hu,hs,e]
 intro h; omega
end
end bZ
namespace Lw
theorem SI {a b c d u v:Rat} (h1:a≤u) (h2:u≤b) (h3:c≤v) (h4:v≤d):lC a b c d≤u*v∧u*v≤jV a b c d:=by
 have e1:=UT (a*c) (a*d) (b*c) (b*d)
 have e2:=UR (a*c) (a*d) (b*c) (b*d)
 unfold lC jV
 have ha:(0≤a→a*c≤a*v∧a*v≤a*d)∧(a≤0→a*d≤a*v∧a*v≤a*c):=⟨fun h=>⟨yE h h3,yE h h4⟩,fun h=>⟨EU h h4,EU h h3⟩⟩
 have hb:(0≤b→b*c≤b*v∧b*v≤b*d)∧(b≤0→b*d≤b*v∧b*v≤b*c):=⟨fun h=>⟨yE h h3,yE h h4⟩,fun h=>⟨EU h h4,EU h h3⟩⟩
 have hv:(0≤v→v*a≤v*u∧v*u≤v*b)∧(v≤0→v*b≤v*u∧v*u≤v*a):=⟨fun h=>⟨yE h h1,yE h h2⟩,fun h=>⟨EU h h2,EU h h1⟩⟩
 rw [Rat.mul_comm v a,Rat.mul_comm v b,Rat.mul_comm v u] at hv
 have t1:0≤a∨a≤0:=by grind
 have t2:0≤b∨b≤0:=by grind
 have t3:0≤v∨v≤0:=by grind
 generalize a*c=x1 at *
 generalize a*d=x2 at *
 generalize b*c=x3 at *
 generalize b*d=x4 at *
 generalize a*v=y1 at *
 generalize b*v=y2 at *
 generalize u*v=y3 at *
 generalize Be x1 x2 x3 x4=l at *
 generalize hi4 x1 x2 x3 x4=k at *
 rcases t1 with t1 | t1 <;> rcases t2 with t2 | t2 <;> rcases t3 with t3 | t3
 all_goals
  simp only [t1,t2,t3,true_implies] at ha hb hv
  grind
theorem Om {a b c d:Rat} (h1:a≤b) (h2:c≤d):lC a b c d≤jV a b c d:=by
 have:=SI (a:=a) (b:=b) (c:=c) (d:=d) (u:=a) (v:=c) (by grind) (by grind) (by grind) (by grind)
 grind
end Lw
namespace Go.Proofs.YtbihljnjaondcaaGreatDoor
open Go Go.ChangeShapes Go.WideShapes Go.ChangeAt Go.RowKit Go.Joins Lw
theorem al5:Tryz.prog.cellsOf 5=1:=by kernel_rfl
end Go.Proofs.YtbihljnjaondcaaGreatDoor
namespace Lw
open Go
theorem VK {a b:Rat} {z:Int} (h:a≤b) (h0:0≤z) (h1:z≤255):a≤a+Rat.divInt z 255*(b - a)∧a+Rat.divInt z 255*(b - a)≤b:=by
 have e0:(0:Rat)≤Rat.divInt z 255:=Rat.divInt_nonneg h0 (by decide)
 have e1:Rat.divInt z 255≤1:=by
  have:=PD (a:=255) (b:=255) (c:=z) (d:=255) (by decide) (by decide)
  have h2:¬ Rat.divInt 255 255 < Rat.divInt z 255:=fun e=>by have:=this.1 e; omega
  have h3:Rat.divInt 255 255=1:=by decide +kernel
  rw [h3] at h2
  grind
 have h2:(0:Rat)≤b - a:=by grind
 have h3:=Rat.mul_nonneg e0 h2
 have h4:=yE h2 e1
 rw [Rat.mul_comm (b - a),Rat.mul_one] at h4
 grind
theorem ah2 {a b c d:Rat} (h1:a≤b):gY a c≤gX b d:=by
 have:=Ol a c
 have:=PU b d
 grind
end Lw
namespace Go.Proofs.YtbihljnjaondcaaGreatDoor
open Go Go.RowKit Lw bZ
section
variable {W0 w:World} {U:List Box} {Ps:List (World→Prop)}
variable {ax:Bool} {ay:Option Addr} {aj c1a:Nat} {az:Option Addr} {ak aA:Nat} {aB:Bool} {aC:Option Addr} {n1b aG:Nat} {aF:Option Addr} {au aH:Nat} {aP:Bool} {aQ:Option Addr} {aK aS:Nat} {aU:Option Addr} {aN aY:Nat} {aV:Bool} {aW:Option Addr} {aO aX:Nat} {aZ:Option Addr} {aT bf:Nat}
theorem ajZ (HT:Tz W0) (HB:Tab W0) (HS:St W0 U Ps w) {af:Rat} {bC:Nat} {ah:Rat} {bD:Nat} {aI:Rat} {bM:Nat} {aJ:Rat} {bP:Nat} (f1a:FV (a0p ax ay aj c1a az ak aA) af bC true w) (bI:FV (a0p aB aC n1b aG aF au aH) ah bD true w) (fC:FV (a0p aP aQ aK aS aU aN aY) aI bM true w) (fD:FV (a0p aV aW aO aX aZ aT bf) aJ bP true w) (hk:bC+bD+(bM+bP)≤1000) (fE:af≤ah) (gV:aI≤aJ):bY Tryz.prog 60 [(a0r ax ay aj c1a az ak aA aB aC n1b aG aF au aH),(a0r aP aQ aK aS aU aN aY aV aW aO aX aZ aT bf)] w (xG W0 U Ps (af - aJ) (ah - aI) ((bC+bD)+(bM+bP)+2)):=by
 have h:=asW HT HB HS f1a bI fC fD hk
 simp only [vG fE,vF fE,vG gV,vF gV] at h
 exact h
theorem ajU (HT:Tz W0) (HB:Tab W0) (HS:St W0 U Ps w) {af:Rat} {bC:Nat} {ah:Rat} {bD:Nat} {aI:Rat} {bM:Nat} {aJ:Rat} {bP:Nat} (f1a:FV (a0p ax ay aj c1a az ak aA) af bC true w) (bI:FV (a0p aB aC n1b aG aF au aH) ah bD true w) (fC:FV (a0p aP aQ aK aS aU aN aY) aI bM true w) (fD:FV (a0p aV aW aO aX aZ aT bf) aJ bP true w) (hk:bC+bD+(bM+bP)≤1000) (fE:af≤ah) (gV:aI≤aJ):bY Tryz.prog 64 [(a0r ax ay aj c1a az ak aA aB aC n1b aG aF au aH),(a0r aP aQ aK aS aU aN aY aV aW aO aX aZ aT bf)] w (xG W0 U Ps (gY af aI) (gX ah aJ) ((bC+bD)+(bM+bP))):=by
 have h:=asG HT HB HS f1a bI fC fD hk
 simp only [vG fE,vF fE,vG gV,vF gV] at h
 exact h
theorem TP (HT:Tz W0) (HB:Tab W0) (HS:St W0 U Ps w) {af:Rat} {bC:Nat} {ah:Rat} {bD:Nat} {aI:Rat} {bM:Nat} {aJ:Rat} {bP:Nat} (f1a:FV (a0p ax ay aj c1a az ak aA) af bC true w) (bI:FV (a0p aB aC n1b aG aF au aH) ah bD true w) (fC:FV (a0p aP aQ aK aS aU aN aY) aI bM true w) (fD:FV (a0p aV aW aO aX aZ aT bf) aJ bP true w) (hk:bC+bD+(bM+bP)≤1000) (hc:0 < aI∨aJ < 0) (fE:af≤ah) (gV:aI≤aJ):bY Tryz.prog 52 [(a0r ax ay aj c1a az ak aA aB aC n1b aG aF au aH),(a0r aP aQ aK aS aU aN aY aV aW aO aX aZ aT bf)] w (yY W0 U Ps (lC af ah (aJ)⁻¹ (aI)⁻¹) (jV af ah (aJ)⁻¹ (aI)⁻¹) (4*(bC+bD)+8*(bM+bP)+4) (.nilIface)):=by
 have h:=ajT HT HB HS f1a bI fC fD hk (by simp only [vG fE,vF fE,vG gV,vF gV]; exact hc)
 simp only [vG fE,vF fE,vG gV,vF gV] at h
 exact h
theorem VG (HT:Tz W0) (HB:Tab W0) (HS:St W0 U Ps w) {af:Rat} {bC:Nat} {ah:Rat} {bD:Nat} {aI:Rat} {bM:Nat} {aJ:Rat} {bP:Nat} (f1a:FV (a0p ax ay aj c1a az ak aA) af bC true w) (bI:FV (a0p aB aC n1b aG aF au aH) ah bD true w) (fC:FV (a0p aP aQ aK aS aU aN aY) aI bM true w) (fD:FV (a0p aV aW aO aX aZ aT bf) aJ bP true w) (hk:bC+bD+(bM+bP)≤1000) (hc:aI≤0∧0≤aJ) (fE:af≤ah) (gV:aI≤aJ):bY Tryz.prog 52 [(a0r ax ay aj c1a az ak aA aB aC n1b aG aF au aH),(a0r aP aQ aK aS aU aN aY aV aW aO aX aZ aT bf)] w (iP W0 U Ps (.tuple #[fO,.iface 74 (.int .i64 8)])):=by
 have h:=asF HT HB HS f1a bI fC fD hk (by simp only [vG fE,vF fE,vG gV,vF gV]; exact hc)
 exact h
set_option maxHeartbeats 400000 in
theorem xR (HT:Tz W0) (HB:Tab W0) {z2:Int} {af:Rat} {bC:Nat} {bu:Bool} {ah:Rat} {bD:Nat} {bn:Bool} (HS:St W0 U Ps w) (f1a:FV (a0p ax ay aj c1a az ak aA) af bC bu w) (bI:FV (a0p aB aC n1b aG aF au aH) ah bD bn w) (hk:bC+bD≤300) (h0:0≤z2) (h1:z2≤255):bY Tryz.prog 70 [(a0r ax ay aj c1a az ak aA aB aC n1b aG aF au aH),.int .u8 z2] w (xY W0 U Ps (af+Rat.divInt z2 255*(ah - af)) (bC+(6+(bD+(bC+1)+2)+2)+2)):=by
 have HS:=HS.add (FV.stable _ _ _ _) f1a
 have HS:=HS.add (FV.stable _ _ _ _) bI
 clear f1a bI
 refine iL Tryz.func70 rfl Tryz.ntmps70 rfl ?_
 refine JC.seq ?_
 refine JC.region ?_
 refine JL.box (vs:=(a0s ax ay aj c1a az ak aA aB aC n1b aG aF au aH)) HS rfl rfl rfl rfl (fun g1 w1 HS => ?_)
 refine JL.alloc (vs:=bU) HS rfl aYs rfl rfl (fun g2 w2 HS => ?_)
 refine jn ?_
 refine JC.seq ?_
 refine JC.region ?_
 refine Lv (.int .u8 z2) (fun a ha=>run_move (ha.ev rfl)) ?_
 refine Lv (.int .i64 z2) (fun a ha=>arc (ha.ev rfl) Tryz.runUnderlying5 Tryz.runUnderlying3 (by rw [IntKind.wrap_i64]; omega)) ?_
 refine JL.call rfl rfl Tryz.call132 (aqM HT HB HS  (by omega) (by omega) (by omega) (by omega) (by decide)) (fun v3 w3 HR3 => ?_)
 obtain ⟨s3,A3,n3,c3,B3,m3,d3,rfl,HS⟩:=HR3
 refine Lv (.tuple #[(a0p s3 A3 n3 c3 B3 m3 d3),.int .i64 0]) (fun a ha=>run_move (ha.ev rfl)) ?_
 refine Lv (a0p s3 A3 n3 c3 B3 m3 d3) (fun a ha=>bK (ha.ev rfl) rfl) ?_
 refine Lv (.int .i64 0) (fun a ha=>bK (ha.ev rfl) rfl) ?_
 refine JL.alloc (vs:=bU) HS rfl aYs rfl rfl (fun g4 w4 HS => ?_)
 refine JL.store HS rfl rfl (i:=0) rfl aYn rfl rfl rfl (vs':=(a0q s3 A3 n3 c3 B3 m3 d3)) rfl rfl (fun w5 HS => ?_)
 refine Lv (.int .i64 0) (fun a ha=>run_assign (ha.ev rfl)) ?_
 refine jn ?_
 refine JC.seq ?_
 refine JC.draw HS [10] (by kernel_rfl) (fun w6 HS => ?_)
 refine Dv (.pointer (some ⟨g1,0,none⟩)) 0 rfl HS.b0 (fun a ha w=>bH (ha.ev rfl) aYr rfl aYn rfl rfl) ?_
 refine Da (a0p ax ay aj c1a az ak aA) 1 2 rfl HS.b0 rfl rfl aYp aYn ?_
 refine Da (a0p s3 A3 n3 c3 B3 m3 d3) 2 0 rfl HS.b0 rfl rfl aYp aYn ?_
 refine Dv (.pointer (some ⟨g1,3,none⟩)) 3 rfl HS.b0 (fun a ha w=>bH (ha.ev rfl) aYr rfl aYn rfl rfl) ?_
 refine Da (a0p aB aC n1b aG aF au aH) 4 2 rfl HS.b0 rfl rfl aYp aYn ?_
 refine Dv (.pointer (some ⟨g1,0,none⟩)) 5 rfl HS.b0 (fun a ha w=>bH (ha.ev rfl) aYr rfl aYn rfl rfl) ?_
 refine Da (a0p ax ay aj c1a az ak aA) 6 2 rfl HS.b0 rfl rfl aYp aYn ?_
 refine bJ 7 rfl rfl rfl Tryz.call131 (aqS HT HB HS (HS.at_ 1 rfl) (HS.at_ 2 rfl) (by omega)) (fun VD QD FO => ?_)
 obtain ⟨rq,qh,qV,qC,qo,qO,qJ,rfl,HS⟩:=FO
 refine ⟨HS.b0,?_⟩
 refine bJ 8 rfl rfl rfl aZe (Qc HT HB HS (HS.at_ 1 rfl) (HS.at_ 0 rfl) (by omega)) (fun aVl aXB av8 => ?_)
 obtain ⟨aTa,aIX,aRh,aLQ,aKj,aPS,aNj,rfl,HS⟩:=av8
 refine ⟨HS.b0,?_⟩
 refine bJ 9 rfl rfl rfl aYR (Bf HT HB HS (HS.at_ 4 rfl) (HS.at_ 0 rfl) (by omega)) (fun ZK aae Iw => ?_)
 obtain ⟨xC,xh,xy,xm,xk,xx,xn,rfl,HS⟩:=Iw
 refine ⟨HS.b0,?_⟩
 refine bF 10 (a0q xC xh xy xm xk xx xn) HS 1 rfl rfl rfl rfl aYn (fun _ HS=>⟨(eX (s:=10) rfl rfl),?_⟩)
 refine JR.next (by kernel_rfl) (fun _ _ h=>h) ?_
 refine JC.ret (fun a ha => ?_)
 repeat (first | refine dh ?_ | refine df ?_)
 refine fG (v:=(a0p xC xh xy xm xk xx xn)) ha Tryz.results70 (.agg rfl aYp aYn (HS.box _ (.tail _ (.head _))) rfl rfl) ⟨_,rfl,?_⟩
 exact ⟨_,_,_,_,_,_,_,rfl,HS.out 3 6 0 rfl rfl rfl (fun _ h=>h.as rfl (by omega))⟩
end
end Go.Proofs.YtbihljnjaondcaaGreatDoor
