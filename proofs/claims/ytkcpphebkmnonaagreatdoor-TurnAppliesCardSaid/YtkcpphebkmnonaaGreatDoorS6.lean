/- Part of a proof, said shortly. -/
import Derived.Lib.TrailingZeros
import Derived.Test.YtkcpphebkmnonaaGreatDoorAlz
import Derived.Test.YtkcpphebkmnonaaGreatDoorC4
import Derived.Test.YtkcpphebkmnonaaGreatDoorS3
import Derived.Test.YtkcpphebkmnonaaGreatDoorC1
import Derived.Test.YtkcpphebkmnonaaGreatDoorC10
import Derived.Test.YtkcpphebkmnonaaGreatDoorC9
import Derived.Test.YtkcpphebkmnonaaGreatDoorC8
import Derived.Test.YtkcpphebkmnonaaGreatDoorC5
import Derived.Test.YtkcpphebkmnonaaGreatDoorC2
import Derived.Test.YtkcpphebkmnonaaGreatDoorC3
import Derived.Test.YtkcpphebkmnonaaGreatDoorC7
import Derived.Test.YtkcpphebkmnonaaGreatDoorC6
import Derived.Test.YtkcpphebkmnonaaGreatDoorC12
import Derived.Test.YtkcpphebkmnonaaGreatDoorC15
import Derived.Test.YtkcpphebkmnonaaGreatDoorC11
import Derived.Test.YtkcpphebkmnonaaGreatDoorC14
import Derived.Test.YtkcpphebkmnonaaGreatDoorC13
import Derived.Test.YtkcpphebkmnonaaGreatDoorC16
import Derived.Test.YtkcpphebkmnonaaGreatDoorS1
namespace Lw
theorem ajy{n:Int}{d g:Nat}(h1 h2 h3 h4):(Rat.maybeNormalize n d g h1 h2 h3 h4).num=n/(g:Int)/\(Rat.maybeNormalize n d g h1 h2 h3 h4).den=d/g:=by
 simp_all
theorem ajw(a b:Rat)(g g1:Nat)(hg:g=a.den.gcd b.den)(hg1:g1=(a.num*((b.den/g:Nat):Int)+b.num*((a.den/g:Nat):Int)).natAbs.gcd g) :
  (a+b).num=(a.num*((b.den/g:Nat):Int)+b.num*((a.den/g:Nat):Int))/(g1:Int)/\(a+b).den=(a.den/g)*(b.den/g1):=by
 show (Rat.add a b).num=_/\(Rat.add a b).den=_;unfold Rat.add;simp only []
 split
 ·rename_i h
  rw [<- hg] at h;rw [h] at hg1 ⊢;rw [Nat.gcd_one_right] at hg1;subst hg1;simp only [avC];exact ⟨by simp,trivial⟩
 ·rename_i h
  have hm:=ajy (n:=a.num*((b.den/a.den.gcd b.den:Nat):Int)+b.num*((a.den/a.den.gcd b.den:Nat):Int)) (d:=a.den/a.den.gcd b.den*b.den)
   (g:=(a.num*((b.den/a.den.gcd b.den:Nat):Int)+b.num*((a.den/a.den.gcd b.den:Nat):Int)).natAbs.gcd (a.den.gcd b.den))
  subst hg;subst hg1;have hd : ∀ t:Nat,(t.gcd (a.den.gcd b.den)) ∣ b.den:=fun t=>avJ (avb t _) (avb _ _);refine ⟨(hm _ _ _ _).1,?_⟩;rw [(hm _ _ _ _).2,Nat.mul_div_assoc _ (hd _)]
end Lw
namespace Lw
theorem ac7(a b:Rat){g D E S g1:Int}(hg:g=(Nat.gcd a.den b.den:Nat))(hD:D=(a.den:Int)/g)(hE:E=(b.den:Int)/g)(hS:S=a.num*E+b.num*D)(hg1:g1=(Nat.gcd S.natAbs g.natAbs:Nat)) :
  (a+b).num=S/g1/\((a+b).den:Int)=D*((b.den:Int)/g1)/\g≠0/\g1≠0:=by
 have rU:0<Nat.gcd a.den b.den:=Nat.gcd_pos_of_pos_left _ a.den_pos;have h:=ajw a b _ _ rfl rfl;obtain ⟨G,hG⟩ : ∃ G,G=Nat.gcd a.den b.den:=⟨_,rfl⟩;rw [<- hG] at h hg rU;subst hg;rw [<- au0] at hD hE;subst hD hE hS;rw [auy] at hg1;subst hg1;refine ⟨h.1,?_,af,?_⟩
 ·rw [h.2,auT,au0,au0]
 ·have:=Nat.gcd_pos_of_pos_right (a.num*((b.den/G:Nat):Int)+b.num*((a.den/G:Nat):Int)).natAbs rU
  omega
end Lw
namespace Go.Proofs.BGQ
open Go Go.RowKit Lw
section
variable {W0 w:World} {bs:List Bx} {L:List En} {ts:List Bt} {M:List Qn} {s s':Bool} {A A' B B':Option Addr} {n c n' c' m d m' d' k k':Nat} {q r:Rat} {x y:Int}
set_option maxRecDepth 100000 in
set_option maxHeartbeats 4000000 in
theorem ah7(HE:bu W0 w bs L ts M)(h:⟨.agg #[.bool s,.slice A n c,.slice A' n' c'],q,k,true⟩∈M)(h':⟨.agg #[.bool s',.slice B m d,.slice B' m' d'],r,k',true⟩∈M)(hk:k+k'<=8000) :
  Calls Tryz.prog 82 #[.agg #[.bool s,.slice A n c,.slice A' n' c'],.agg #[.bool s',.slice B m d,.slice B' m' d']] w (dA W0 bs L ts M (q+r) (k+k'+2)):=by
 suffices hs:Calls Tryz.prog 82 #[.agg #[.bool s,.slice A n c,.slice A' n' c'],.agg #[.bool s',.slice B m d,.slice B' m' d']] w (dA w [] L [] M (q+r) (k+k'+2)) from hs.mono fun _ _ hh=>dA.of HE hh
 have H1:=((HE.here.bY (.bool s) (.slice A n c) (.slice A' n' c')).bY (.bool s') (.slice B m d) (.slice B' m' d')).bY (.bool false) (.slice none 0 0) (.slice none 0 0);simp only [World.size_alloc] at H1;have HP:=Lib.hid (Su (HE.fr _ h).lt (HE.fr _ h').lt)
 by_cases hb:(jM q&&jM r)=true
 ·have hb2:jM q=true/\jM r=true:=by simpa using hb
  obtain ⟨z1,z2⟩:=xK hb2.1;obtain ⟨z3,z4⟩:=xK hb2.2;have HB:=Lib.hid hb;have p1:=yU (a:=q.num) (b:=(r.den:Int)) z1 af;have p2:=yU (a:=r.num) (b:=(q.den:Int)) z3 af;have p3:=yU (a:=(q.den:Int)) (b:=(r.den:Int)) af af;have p4:=Int.mul_pos (den_pos q) (den_pos r);have y1:IntKind.i64.wrap (q.num*(r.den:Int))=q.num*(r.den:Int):=nH af af;have y2:IntKind.i64.wrap (r.num*(q.den:Int))=r.num*(q.den:Int):=nH af af;have y3:IntKind.i64.wrap (q.num*(r.den:Int)+r.num*(q.den:Int))=q.num*(r.den:Int)+r.num*(q.den:Int):=nH af af;have y4:IntKind.i64.wrap ((q.den:Int)*(r.den:Int))=(q.den:Int)*(r.den:Int):=nH af af;have HS:=Lib.hid (show (-9223372036854775808<=q.num*(r.den:Int)+r.num*(q.den:Int)/\q.num*(r.den:Int)+r.num*(q.den:Int)<=9223372036854775807)/\0<(q.den:Int)*(r.den:Int)/\(q.den:Int)*(r.den:Int)<=9223372036854775807 from ⟨⟨af,af⟩,p4,af⟩);clear p1 p2 p3 p4;clear hb hb2 z1 z2 z3 z4
  go_enter Tryz.func82,Tryz.ntmps82
  have HE:=H1;clear H1;obtain ⟨q0,q1,q2,q3,q4,q5⟩:=HE.c3 ak;obtain ⟨q6,q7,q8,q9,q10,q11⟩:=HE.c3 au;obtain ⟨q12,q13,dO,dP,q16,dQ⟩:=HE.c3 ay
  go_wp2_with fail
  refine (BI HE h h' af).mono ?_;clear HE;rw [HB.out,OT];rintro e w1 ⟨rfl,HE⟩;clear q0 q1 q2 q3 q4 q5 q6 q7 q8 q9 q10 q11 q12 q13 dO dP q16 dQ;have TA:=(Two.new w1 131 (.int .i64 q.num) (.int .i64 (q.den:Int))).alloc (.cells #[.int .i64 r.num,.int .i64 (r.den:Int)] 131);have TB:=Two.new (w1.alloc (.cells #[.int .i64 q.num,.int .i64 (q.den:Int)] 131)) 131 (.int .i64 r.num) (.int .i64 (r.den:Int));replace HE:=(HE.alloc (.cells #[.int .i64 q.num,.int .i64 (q.den:Int)] 131)).alloc (.cells #[.int .i64 r.num,.int .i64 (r.den:Int)] 131);simp only [World.size_alloc] at TA TB;obtain ⟨u0,u1,u2,u3⟩:=TA.facts;obtain ⟨v0,v1,v2,v3⟩:=TB.facts;obtain ⟨eu,eF,fM,fO,q22,q23⟩:=HE.c3 ak;obtain ⟨q24,fU,gJ,gK,gX,gY⟩:=HE.c3 au;obtain ⟨q30,gZ,q32,iI,iJ,q35⟩:=HE.c3 ay
  go_wp2_with fail
  refine (Yt HE HS.out.1.1 HS.out.1.2 HS.out.2.1 HS.out.2.2).mono ?_;rintro e w2 ⟨sx,Ax,nx,cx,Ay,ny,cy,rfl,HE⟩;rw [<- Le] at HE;clear u0 u1 u2 u3 v0 v1 v2 v3 TA TB;clear eu eF fM fO q22 q23 q24 fU gJ gK gX gY q30 gZ q32 iI iJ q35;obtain ⟨jd,q37,jy,jX,jY,jZ⟩:=HE.c3 ak;obtain ⟨kP,kQ,mF,mG,mJ,mM⟩:=HE.c3 au;obtain ⟨oz,oC,oD,oG,oH,oI⟩:=HE.c3 ay
  go_wp2_with fail
  have HF:=HE.iG (D:=Ax) (m:=nx) (d:=cx) ak sx (.slice Ay ny cy);refine bodyPost_ret (v := .agg #[.bool sx,.slice Ax nx cx,.slice Ay ny cy]) (by simp [results,Tryz.results82,go_sem,jd,q37,jy]) rfl ?_;exact ⟨_,_,_,_,_,_,_,rfl,HF.bare.hd (·.weak af)⟩
 ·have HB:=Lib.hid (Bool.eq_false_iff.2 hb)
  obtain ⟨g,hg⟩ : ∃ g:Int,g=(Nat.gcd (q.den:Int).natAbs (r.den:Int).natAbs:Nat):=⟨_,rfl⟩;have HG:=Lib.hid hg;rw [auy,auy] at hg;obtain ⟨S,hS⟩ : ∃ S:Int,S=q.num*((r.den:Int)/g)+r.num*((q.den:Int)/g):=⟨_,rfl⟩;have HS:=Lib.hid hS;obtain ⟨g1,hg1⟩ : ∃ g1:Int,g1=(Nat.gcd S.natAbs g.natAbs:Nat):=⟨_,rfl⟩;have HG1:=Lib.hid hg1;have hl:=ac7 q r hg rfl rfl hS hg1;have HL:=Lib.hid (show (q+r).num=S/g1/\((q+r).den:Int)=(q.den:Int)/g*((r.den:Int)/g1)/\0<g/\0<g1 from ⟨hl.1,hl.2.1,af,af⟩);clear hg hS hg1 hl;clear hb
  go_enter Tryz.func82,Tryz.ntmps82
  have HE:=H1;clear H1;obtain ⟨q0,q1,q2,q3,q4,q5⟩:=HE.c3 ak;obtain ⟨q6,q7,q8,q9,q10,q11⟩:=HE.c3 au;obtain ⟨q12,q13,dO,dP,q16,dQ⟩:=HE.c3 ay
  go_wp2_with fail
  refine (BI HE h h' af).mono ?_;clear HE;rw [HB.out,OQ];rintro e w1 ⟨rfl,HE⟩;clear q0 q1 q2 q3 q4 q5 q6 q7 q8 q9 q10 q11 q12 q13 dO dP q16 dQ;have TA:=(Two.new w1 131 (.int .i64 0) (.int .i64 0)).alloc (.cells #[.int .i64 0,.int .i64 0] 131);have TB:=Two.new (w1.alloc (.cells #[.int .i64 0,.int .i64 0] 131)) 131 (.int .i64 0) (.int .i64 0);replace HE:=(HE.alloc (.cells #[.int .i64 0,.int .i64 0] 131)).alloc (.cells #[.int .i64 0,.int .i64 0] 131);simp only [World.size_alloc] at TA TB;clear TA TB;obtain ⟨eu,eF,fM,fO,q22,q23⟩:=HE.c3 ak;obtain ⟨q24,fU,gJ,gK,gX,gY⟩:=HE.c3 au;obtain ⟨q30,gZ,q32,iI,iJ,q35⟩:=HE.c3 ay
  go_wp2_with fail
  refine (y8 HE h).mono ?_;clear HE;rintro e w2 ⟨s1,D1,m1,d1,s2,D2,m2,d2,rfl,HE⟩;clear eu eF fM fO q22 q23 q24 fU gJ gK gX gY q30 gZ q32 iI iJ q35;replace HE:=(HE.bI (.bool s1) (.slice D1 m1 d1)).bI (.bool s2) (.slice D2 m2 d2);simp only [World.size_alloc] at HE;obtain ⟨jd,q37,jy,jX⟩:=HE.c2 ak;obtain ⟨jY,jZ,kP,kQ⟩:=HE.c2 au;obtain ⟨mF,mG,mJ,mM,oz,oC⟩:=HE.c3 ak;obtain ⟨oD,oG,oH,oI,qE,qF⟩:=HE.c3 au;obtain ⟨qG,qH,qI,qJ,qK,qL⟩:=HE.c3 ay
  go_wp2_with fail
  refine (y8 HE h').mono ?_;clear HE;rintro e w3 ⟨s3,D3,m3,d3,s4,D4,m4,d4,rfl,HE⟩;have GV:=Lib.hid (HE.uM ak);clear jd q37 jy jX jY jZ kP kQ mF mG mJ mM oz oC oD oG oH oI qE qF qG qH qI qJ qK qL;replace HE:=(HE.bI (.bool s3) (.slice D3 m3 d3)).bI (.bool s4) (.slice D4 m4 d4);simp only [World.size_alloc] at HE;obtain ⟨qM,qN,qO,qP⟩:=HE.c2 ak;obtain ⟨qQ,qR,qU,qV⟩:=HE.c2 au;obtain ⟨qW,qX,sJ,sK⟩:=HE.c2 ay;obtain ⟨sN,sO,sQ,sS⟩:=HE.c2 az;obtain ⟨zh,zi,zk,zl,zn,zo⟩:=HE.c3 ak;obtain ⟨zq,zu,Bg,Bh,Bi,Bj⟩:=HE.c3 au;obtain ⟨Bl,Bo,Bq,Bv,E8,Fa⟩:=HE.c3 ay
  go_wp2_with fail
  refine (H8 HE (by repeat (first | exact aZ | assumption | refine .tail _ ?_)) (by repeat (first | exact aZ | assumption | refine .tail _ ?_)) af).mono ?_;clear HE;rintro e w4 ⟨s5,D5,m5,d5,rfl,HE⟩;rw [<- HG.out] at HE;clear qM qN qO qP qQ qR qU qV qW qX sJ sK sN sO sQ sS zh zi zk zl zn zo zq zu Bg Bh Bi Bj Bl Bo Bq Bv E8 Fa;have Rx:=Lib.hid (HE.uM ak);replace HE:=HE.bI (.bool s5) (.slice D5 m5 d5);obtain ⟨Fb,Fe,Ff,Fg⟩:=HE.c2 ak;obtain ⟨Jf,Jg,Jh,Ji⟩:=HE.c2 au;obtain ⟨Jj,Jm,Jo,Jp⟩:=HE.c2 ay;obtain ⟨NI,NJ,NK,NL⟩:=HE.c2 az;obtain ⟨NM,NP,NQ,NR⟩:=HE.c2 aA;obtain ⟨NS,NT,NU,NV,NW,NY⟩:=HE.c3 ak;obtain ⟨NZ,N7,N8,N9,Oa,Ob⟩:=HE.c3 au;obtain ⟨Oc,Oe,Og,Oh,Oi,Oj⟩:=HE.c3 ay
  go_wp2_with fail
  refine (Dz HE (by repeat (first | exact aZ | assumption | refine .tail _ ?_)) (by repeat (first | exact aZ | assumption | refine .tail _ ?_)) af HL.out.2.2.1).mono ?_;clear HE;rintro e w5 ⟨s6,D6,m6,d6,rfl,HE⟩;have CW:=Lib.hid (HE.uM ak);clear Fb Fe Ff Fg Jf Jg Jh Ji Jj Jm Jo Jp NI NJ NK NL NM NP NQ NR NS NT NU NV NW NY NZ N7 N8 N9 Oa Ob Oc Oe Og Oh Oi Oj;obtain ⟨Ol,Om,Oo,Oq⟩:=HE.c2 ak;obtain ⟨XC,XD,XE,XF⟩:=HE.c2 au;obtain ⟨XG,XH,XI,XJ⟩:=HE.c2 ay;obtain ⟨XK,XL,XM,XN⟩:=HE.c2 az;obtain ⟨XO,XP,XQ,XR⟩:=HE.c2 aA;obtain ⟨XT,XU,XV,XW,XX,XY⟩:=HE.c3 ak;obtain ⟨XZ,X0,X5,X6,X7,X8⟩:=HE.c3 au;obtain ⟨X9,Ya,Yb,Yc,Yd,Ye⟩:=HE.c3 ay;have HE2:=HE.jr az [⟨w4.heap.size,.bool s5,.slice D5 m5 d5⟩,⟨w3.heap.size+1,.bool s4,.slice D4 m4 d4⟩,⟨w3.heap.size,.bool s3,.slice D3 m3 d3⟩,⟨w2.heap.size,.bool s1,.slice D1 m1 d1⟩] (fun b hb=>by simp only [List.mem_cons,List.not_mem_nil,or_false] at hb;rcases hb with rfl | rfl | rfl | rfl <;> exact ⟨(by repeat (first | exact aZ | assumption | refine .tail _ ?_)),by dsimp only;have:=GV.out;have:=Rx.out;omega⟩) s6 (.slice D6 m6 d6)
  go_wp2_with fail
  clear Ol Om Oo Oq XC XD XE XF XG XH XI XJ XK XL XM XN XO XP XQ XR XT XU XV XW XX XY XZ X0 X5 X6 X7 X8 X9 Ya Yb Yc Yd Ye;replace HE:=HE2;clear HE2;have hsz:((w5.setCell ⟨w2.heap.size+1,0,none⟩ (.bool s6)).setCell ⟨w2.heap.size+1,1,none⟩ (.slice D6 m6 d6)).heap.size=w5.heap.size:=by simp
  have HSZ:=Lib.hid hsz;clear hsz;generalize (w5.setCell ⟨w2.heap.size+1,0,none⟩ (.bool s6)).setCell ⟨w2.heap.size+1,1,none⟩ (.slice D6 m6 d6)=W5 at *;have hS : ∀ v,Below W5.heap.size W5 v->(fun w'=>w'.cell? ⟨w2.heap.size,0,none⟩=some (.bool s1)/\w'.cell? ⟨w2.heap.size,1,none⟩=some (.slice D1 m1 d1)/\w'.cell? ⟨w3.heap.size,0,none⟩=some (.bool s3)/\w'.cell? ⟨w3.heap.size,1,none⟩=some (.slice D3 m3 d3)/\w'.cell? ⟨w3.heap.size+1,0,none⟩=some (.bool s4)/\w'.cell? ⟨w3.heap.size+1,1,none⟩=some (.slice D4 m4 d4)/\w'.cell? ⟨w4.heap.size,0,none⟩=some (.bool s5)/\w'.cell? ⟨w4.heap.size,1,none⟩=some (.slice D5 m5 d5)/\w'.cell? ⟨w2.heap.size+1,0,none⟩=some (.bool s6)/\w'.cell? ⟨w2.heap.size+1,1,none⟩=some (.slice D6 m6 d6)) v:=fun v hv=>bu.c5 (HE.next hv);have HR:=HE.here
  go_cut [13] (fun sl wx => ∃ (gm:Nat) (sx:Bool) (Ax:Option Addr) (nx cx:Nat),sl = .pointer (some ⟨gm,0,none⟩)/\bu W5 wx [⟨gm,.bool sx,.slice Ax nx cx⟩] (⟨.agg #[.bool sx,.slice Ax nx cx],S,(2*(k+k')+14),true⟩::⟨.agg #[.bool s6,.slice D6 m6 d6],(q.den:Int)/g,k+2+1,true⟩::⟨.agg #[.bool s5,.slice D5 m5 d5],g,k+2+(k'+2)+2,true⟩::⟨.agg #[.bool s3,.slice D3 m3 d3],r.num,k'+2,true⟩::⟨.agg #[.bool s4,.slice D4 m4 d4],(r.den:Int),k'+2,true⟩::⟨.agg #[.bool s1,.slice D1 m1 d1],q.num,k+2,true⟩::⟨.agg #[.bool s2,.slice D2 m2 d2],(q.den:Int),k+2,true⟩::L) [] M)
  case first =>
   go_region_held3 (fun w'=>w'.cell? ⟨w2.heap.size,0,none⟩=some (.bool s1)/\w'.cell? ⟨w2.heap.size,1,none⟩=some (.slice D1 m1 d1)/\w'.cell? ⟨w3.heap.size,0,none⟩=some (.bool s3)/\w'.cell? ⟨w3.heap.size,1,none⟩=some (.slice D3 m3 d3)/\w'.cell? ⟨w3.heap.size+1,0,none⟩=some (.bool s4)/\w'.cell? ⟨w3.heap.size+1,1,none⟩=some (.slice D4 m4 d4)/\w'.cell? ⟨w4.heap.size,0,none⟩=some (.bool s5)/\w'.cell? ⟨w4.heap.size,1,none⟩=some (.slice D5 m5 d5)/\w'.cell? ⟨w2.heap.size+1,0,none⟩=some (.bool s6)/\w'.cell? ⟨w2.heap.size+1,1,none⟩=some (.slice D6 m6 d6)) (first | exact hS _ HR.below | exact hS _ HR.drew.below | exact hS _ (bu.bI HR (.bool false) (.slice none 0 0)).below | exact hS _ (bu.bI HR.drew (.bool false) (.slice none 0 0)).below | exact hS _ (bu.bI HR (.bool false) (.slice none 0 0)).drew.below | exact hS _ HK.below)
    (first
     | (go_at_call 131;refine (Dz (by with_reducible first | exact HR | exact HR.drew | exact bu.bI HR (.bool false) (.slice none 0 0) | exact bu.bI HR.drew (.bool false) (.slice none 0 0) | exact (bu.bI HR (.bool false) (.slice none 0 0)).drew) (by repeat (first | exact aZ | assumption | refine .tail _ ?_)) (by repeat (first | exact aZ | assumption | refine .tail _ ?_)) af HL.out.2.2.1).mono ?_;rintro e wn ⟨sx,Ax,nx,cx,rfl,HR⟩)
     | (go_at_call 69;refine (AB (by with_reducible first | exact HR | exact HR.drew | exact bu.bI HR (.bool false) (.slice none 0 0) | exact bu.bI HR.drew (.bool false) (.slice none 0 0) | exact (bu.bI HR (.bool false) (.slice none 0 0)).drew) (by repeat (first | exact aZ | assumption | refine .tail _ ?_)) (by repeat (first | exact aZ | assumption | refine .tail _ ?_)) af).mono ?_;rintro e wn ⟨sx,Ax,nx,cx,rfl,HR⟩)
     | (go_at_call 70;refine (VO (by with_reducible first | exact HR | exact HR.drew | exact bu.bI HR (.bool false) (.slice none 0 0) | exact bu.bI HR.drew (.bool false) (.slice none 0 0) | exact (bu.bI HR (.bool false) (.slice none 0 0)).drew) (by repeat (first | exact aZ | assumption | refine .tail _ ?_)) (by repeat (first | exact aZ | assumption | refine .tail _ ?_)) af).mono ?_;rintro e w6 ⟨sx,Ax,nx,cx,rfl,HR⟩;rw [<- HS.out] at HR;first | (have HK:=HR.jr ak [] (fun _ hb=>by simp at hb) sx (.slice Ax nx cx);obtain ⟨z0,z1,z2,z3⟩:=HR.c2 ak) | (have HK:=HR.bI (.bool sx) (.slice Ax nx cx))))
   all_goals
    go_wp2_with fail
    go_meet
    exact ⟨_,sx,Ax,nx,cx,rfl,(HK.hdi (K:=(2*(k+k')+14)) (·.weak af)).pick (fun _ he=>by rcases List.mem_cons.1 he with rfl | he;exact ak;exact .tail _ (.tail _ (.tail _ (.tail _ (he))))) (fun _ he=>he)⟩
  case rest =>
   clear HR hS;obtain ⟨gm,sx,Ax,nx,cx,rfl,HR⟩:=hcut;have HL6:=Lib.hid (HR.lo _ ak);replace HE:=HE.join HR;clear HR;simp only [List.cons_append,avH] at HE;obtain ⟨Yf,Yg,Yh,Yi⟩:=HE.c2 ak;obtain ⟨Yj,Yk,Yl,Ym⟩:=HE.c2 au;obtain ⟨Yn,Yo,Yp,Yq⟩:=HE.c2 ay;obtain ⟨aid,aie,aif,aih⟩:=HE.c2 az;obtain ⟨aii,aij,aik,ail⟩:=HE.c2 aA;obtain ⟨aim,ain,aio,aip⟩:=HE.c2 aB;obtain ⟨aiq,air,ais,ait,aiu,aiv⟩:=HE.c3 ak;obtain ⟨aiw,aix,aiy,aiz,aiA,aiB⟩:=HE.c3 au;obtain ⟨aiC,aiD,aiE,aiF,aiH,aiI⟩:=HE.c3 ay
   go_wp2_with fail
   refine (H8 HE (by repeat (first | exact aZ | assumption | refine .tail _ ?_)) (by repeat (first | exact aZ | assumption | refine .tail _ ?_)) af).mono ?_;clear HE;rintro e w7 ⟨s7,D7,m7,d7,rfl,HE⟩;rw [<- HG1.out] at HE;clear Yf Yg Yh Yi Yj Yk Yl Ym Yn Yo Yp Yq aid aie aif aih aii aij aik ail aim ain aio aip aiq air ais ait aiu aiv aiw aix aiy aiz aiA aiB aiC aiD aiE aiF aiH aiI;obtain ⟨aiJ,aiK,aiL,aiM⟩:=HE.c2 ak;obtain ⟨aiN,aiO,aiP,aiQ⟩:=HE.c2 au;obtain ⟨aiR,aiS,aiT,aiU⟩:=HE.c2 ay;obtain ⟨aiV,aiW,aiX,aiY⟩:=HE.c2 az;obtain ⟨aiZ,ai0,ai1,ai2⟩:=HE.c2 aA;obtain ⟨ai3,ai4,ai5,ai6⟩:=HE.c2 aB;obtain ⟨ai7,ai8,ai9,ai',aja,ajb⟩:=HE.c3 ak;obtain ⟨ajc,ajd,aje,ajf,ajg,ajh⟩:=HE.c3 au;obtain ⟨aji,ajj,ajk,ajl,ajm,ajn⟩:=HE.c3 ay;have HE2:=HE.jr ay [⟨gm,.bool sx,.slice Ax nx cx⟩,⟨w2.heap.size+1,.bool s6,.slice D6 m6 d6⟩,⟨w3.heap.size+1,.bool s4,.slice D4 m4 d4⟩,⟨w3.heap.size,.bool s3,.slice D3 m3 d3⟩,⟨w2.heap.size,.bool s1,.slice D1 m1 d1⟩] (fun b hb=>by simp only [List.mem_cons,List.not_mem_nil,or_false] at hb;rcases hb with rfl | rfl | rfl | rfl | rfl <;> exact ⟨(by repeat (first | exact aZ | assumption | refine .tail _ ?_)),by have h1:=GV.out;have h2:=Rx.out;have h3:=HL6.out;have h4:=HSZ.out;have h5:=CW.out;dsimp only at h3 ⊢;omega⟩) s7 (.slice D7 m7 d7)
   go_wp2_with fail
   clear aiJ aiK aiL aiM aiN aiO aiP aiQ aiR aiS aiT aiU aiV aiW aiX aiY aiZ ai0 ai1 ai2 ai3 ai4 ai5 ai6 ai7 ai8 ai9 ai' aja ajb ajc ajd aje ajf ajg ajh aji ajj ajk ajl ajm ajn;replace HE:=HE2;clear HE2
   go_region_held3 (fun w'=>w'.cell? ⟨w2.heap.size,0,none⟩=some (.bool s1)/\w'.cell? ⟨w2.heap.size,1,none⟩=some (.slice D1 m1 d1)/\w'.cell? ⟨w3.heap.size,0,none⟩=some (.bool s3)/\w'.cell? ⟨w3.heap.size,1,none⟩=some (.slice D3 m3 d3)/\w'.cell? ⟨w3.heap.size+1,0,none⟩=some (.bool s4)/\w'.cell? ⟨w3.heap.size+1,1,none⟩=some (.slice D4 m4 d4)/\w'.cell? ⟨w2.heap.size+1,0,none⟩=some (.bool s6)/\w'.cell? ⟨w2.heap.size+1,1,none⟩=some (.slice D6 m6 d6)/\w'.cell? ⟨gm,0,none⟩=some (.bool sx)/\w'.cell? ⟨gm,1,none⟩=some (.slice Ax nx cx)/\w'.cell? ⟨w4.heap.size,0,none⟩=some (.bool s7)/\w'.cell? ⟨w4.heap.size,1,none⟩=some (.slice D7 m7 d7)) (with_reducible first | exact bu.c6 HE | exact bu.c6 HE.drew | exact bu.c6 HK)
    (first
     | (go_at_call 131;refine (Dz (by with_reducible first | exact HE | exact HE.drew) (by repeat (first | exact aZ | assumption | refine .tail _ ?_)) (by repeat (first | exact aZ | assumption | refine .tail _ ?_)) af HL.out.2.2.2).mono ?_;rintro e wn ⟨sx,Ax,nx,cx,rfl,HE⟩)
     | (go_at_call 69;refine (AB (by with_reducible first | exact HE | exact HE.drew) (by repeat (first | exact aZ | assumption | refine .tail _ ?_)) (by repeat (first | exact aZ | assumption | refine .tail _ ?_)) af).mono ?_;rintro e wn ⟨sx,Ax,nx,cx,rfl,HE⟩)
     | (go_at_call 120;refine (Nu (by with_reducible first | exact HE | exact HE.drew) (by repeat (first | exact aZ | assumption | refine .tail _ ?_)) (by repeat (first | exact aZ | assumption | refine .tail _ ?_)) HL.out.1 HL.out.2.1).mono ?_;rintro e w8 ⟨sx,Ax,nx,cx,Ay,ny,cy,rfl,HE⟩;have HK:=HE.iG (D:=Ax) (m:=nx) (d:=cx) ak sx (.slice Ay ny cy);obtain ⟨z0,z1,z2,z3,z4,z5⟩:=HE.c3 ak))
   go_wp2_with fail
   refine bodyPost_ret (v := .agg #[.bool sx,.slice Ax nx cx,.slice Ay ny cy]) (by simp [results,Tryz.results82,go_sem,z0,z1,z2]) rfl ?_;have HF:=HK.bare.hd (fun hh=>bV.tight hh HP.out.1 HP.out.2);exact ⟨_,_,_,_,_,_,_,rfl,HF.pick (fun _ he => .tail _ (.tail _ (.tail _ (.tail _ (.tail _ (.tail _ (.tail _ (.tail _ (.tail _ (.tail _ (.tail _ (he)))))))))))) (fun _ he=>he)⟩
end
section
variable {W0 w:World} {bs:List Bx} {L:List En} {ts:List Bt} {M:List Qn} {s s':Bool} {A A' B B':Option Addr} {n c n' c' m d m' d' k k':Nat} {q r:Rat} {x y:Int} {b b':Bool}
set_option maxRecDepth 100000 in
set_option maxHeartbeats 2400000 in
theorem ae2(HE:bu W0 w bs L ts M)(h:⟨.agg #[.bool s,.slice A n c,.slice A' n' c'],q,k,b⟩∈M)(h':⟨.agg #[.bool s',.slice B m d,.slice B' m' d'],r,k',b'⟩∈M)(hk:k+k'<=8000) :
  Calls Tryz.prog 44 #[.agg #[.bool s,.slice A n c,.slice A' n' c'],.agg #[.bool s',.slice B m d,.slice B' m' d']] w (dA W0 bs L ts M (q+r) (k+k'+2)):=by
 refine Calls.mono (R:=(dA w [] L [] M (q+r) (k+k'+2))) ?_ fun _ _ hh=>dA.of HE hh;replace HE:=(HE.here.bY (.bool s) (.slice A n c) (.slice A' n' c')).bY (.bool s') (.slice B m d) (.slice B' m' d');replace HE:=HE.bY (.bool false) (.slice none 0 0) (.slice none 0 0);simp only [World.size_alloc] at HE;obtain ⟨q0,q1,q2,q3,q4,q5⟩:=HE.c3 ak;obtain ⟨q6,q7,q8,q9,q10,q11⟩:=HE.c3 au;obtain ⟨q12,q13,dO,dP,q16,dQ⟩:=HE.c3 ay;have TA:=HE.fH ay;have TB:=HE.fH au
 go_enter Tryz.func44,Tryz.ntmps44
 go_wp2_with fail
 go_region_held3 (fun w'=>w'.cell? ⟨w.heap.size,0,none⟩=some (.bool s)/\w'.cell? ⟨w.heap.size,1,none⟩=some (.slice A n c)/\w'.cell? ⟨w.heap.size,2,none⟩=some (.slice A' n' c')/\w'.cell? ⟨w.heap.size+1,0,none⟩=some (.bool s')/\w'.cell? ⟨w.heap.size+1,1,none⟩=some (.slice B m d)/\w'.cell? ⟨w.heap.size+1,2,none⟩=some (.slice B' m' d')) (with_reducible first | exact bW.cc TA TB | exact bW.cc TA.drew TB.drew | exact bW.cc UA UB)
  (first
   | (go_at_call 83;refine (wW (by with_reducible first | exact HE | exact HE.drew) (by repeat (first | exact aZ | assumption | refine .tail _ ?_)) af).mono ?_;rintro e wn ⟨sx,Ax,nx,cx,Ay,ny,cy,rfl,HE⟩;have TA:=HE.fH ay;have TB:=HE.fH au)
   | (go_at_call 82;refine (ah7 (by with_reducible first | exact HE | exact HE.drew) (by repeat (first | exact aZ | assumption | refine .tail _ ?_)) (by repeat (first | exact aZ | assumption | refine .tail _ ?_)) af).mono ?_;rintro e wn ⟨sx,Ax,nx,cx,Ay,ny,cy,rfl,HE⟩;have TA:=HE.fH ay;have TB:=HE.fH au;have UA:=TA.wK (g':=w.heap.size+1+1) af (.bool sx) (.slice Ax nx cx) (.slice Ay ny cy);have UB:=TB.wK (g':=w.heap.size+1+1) af (.bool sx) (.slice Ax nx cx) (.slice Ay ny cy);obtain ⟨z0,z1,z2,z3,z4,z5⟩:=HE.c3 ak))
 go_wp2_with fail
 refine bodyPost_ret (v := .agg #[.bool sx,.slice Ax nx cx,.slice Ay ny cy]) (by simp [results,Tryz.results44,go_sem,z0,z1,z2]) rfl ?_;have HK:=(HE.iG (D:=Ax) (m:=nx) (d:=cx) ak sx (.slice Ay ny cy)).bare;skip;exact ⟨_,_,_,_,_,_,_,rfl,HK.pick (fun _ he=>he) (fun _ he=>by rcases List.mem_cons.1 he with rfl | he;exact ak;exact .tail _ (.tail _ (.tail _ (he))))⟩
set_option maxRecDepth 100000 in
set_option maxHeartbeats 2400000 in
theorem afa(HE:bu W0 w bs L ts M)(h:⟨.agg #[.bool s,.slice A n c,.slice A' n' c'],q,k,b⟩∈M)(h':⟨.agg #[.bool s',.slice B m d,.slice B' m' d'],r,k',b'⟩∈M)(hk:k+k'<=8000) :
  Calls Tryz.prog 45 #[.agg #[.bool s,.slice A n c,.slice A' n' c'],.agg #[.bool s',.slice B m d,.slice B' m' d']] w (dA W0 bs L ts M (q*r) (k+k'+2)):=by
 refine Calls.mono (R:=(dA w [] L [] M (q*r) (k+k'+2))) ?_ fun _ _ hh=>dA.of HE hh;replace HE:=(HE.here.bY (.bool s) (.slice A n c) (.slice A' n' c')).bY (.bool s') (.slice B m d) (.slice B' m' d');replace HE:=HE.bY (.bool false) (.slice none 0 0) (.slice none 0 0);simp only [World.size_alloc] at HE;obtain ⟨q0,q1,q2,q3,q4,q5⟩:=HE.c3 ak;obtain ⟨q6,q7,q8,q9,q10,q11⟩:=HE.c3 au;obtain ⟨q12,q13,dO,dP,q16,dQ⟩:=HE.c3 ay;have TA:=HE.fH ay;have TB:=HE.fH au
 go_enter Tryz.func45,Tryz.ntmps45
 go_wp2_with fail
 go_region_held3 (fun w'=>w'.cell? ⟨w.heap.size,0,none⟩=some (.bool s)/\w'.cell? ⟨w.heap.size,1,none⟩=some (.slice A n c)/\w'.cell? ⟨w.heap.size,2,none⟩=some (.slice A' n' c')/\w'.cell? ⟨w.heap.size+1,0,none⟩=some (.bool s')/\w'.cell? ⟨w.heap.size+1,1,none⟩=some (.slice B m d)/\w'.cell? ⟨w.heap.size+1,2,none⟩=some (.slice B' m' d')) (with_reducible first | exact bW.cc TA TB | exact bW.cc TA.drew TB.drew | exact bW.cc UA UB)
  (first
   | (go_at_call 83;refine (wW (by with_reducible first | exact HE | exact HE.drew) (by repeat (first | exact aZ | assumption | refine .tail _ ?_)) af).mono ?_;rintro e wn ⟨sx,Ax,nx,cx,Ay,ny,cy,rfl,HE⟩;have TA:=HE.fH ay;have TB:=HE.fH au)
   | (go_at_call 84;refine (ZJ (by with_reducible first | exact HE | exact HE.drew) (by repeat (first | exact aZ | assumption | refine .tail _ ?_)) (by repeat (first | exact aZ | assumption | refine .tail _ ?_)) af).mono ?_;rintro e wn ⟨sx,Ax,nx,cx,Ay,ny,cy,rfl,HE⟩;have TA:=HE.fH ay;have TB:=HE.fH au;have UA:=TA.wK (g':=w.heap.size+1+1) af (.bool sx) (.slice Ax nx cx) (.slice Ay ny cy);have UB:=TB.wK (g':=w.heap.size+1+1) af (.bool sx) (.slice Ax nx cx) (.slice Ay ny cy);obtain ⟨z0,z1,z2,z3,z4,z5⟩:=HE.c3 ak))
 go_wp2_with fail
 refine bodyPost_ret (v := .agg #[.bool sx,.slice Ax nx cx,.slice Ay ny cy]) (by simp [results,Tryz.results45,go_sem,z0,z1,z2]) rfl ?_;have HK:=(HE.iG (D:=Ax) (m:=nx) (d:=cx) ak sx (.slice Ay ny cy)).bare;skip;exact ⟨_,_,_,_,_,_,_,rfl,HK.pick (fun _ he=>he) (fun _ he=>by rcases List.mem_cons.1 he with rfl | he;exact ak;exact .tail _ (.tail _ (.tail _ (he))))⟩
end
section
variable {W0 w:World} {bs:List Bx} {L:List En} {ts:List Bt} {M:List Qn} {v v':Value} {q r:Rat} {k k':Nat} {b b':Bool}
theorem ae3(HE:bu W0 w bs L ts M)(h:⟨v,q,k,b⟩∈M)(h':⟨v',r,k',b'⟩∈M)(hk:k+k'<=8000) :
  Calls Tryz.prog 44 #[v,v'] w (kH W0 bs L ts M (q+r) (k+k'+2)):=by
 obtain ⟨s,A,n,c,A',n',c',e1⟩:=(HE.fr _ h).shape;obtain ⟨t,B,m,d,B',m',d',e2⟩:=(HE.fr _ h').shape;dsimp only at e1 e2;subst e1 e2;exact (ae2 HE h h' hk).mono fun _ _ hh=>kH.of hh
theorem afb(HE:bu W0 w bs L ts M)(h:⟨v,q,k,b⟩∈M)(h':⟨v',r,k',b'⟩∈M)(hk:k+k'<=8000) :
  Calls Tryz.prog 45 #[v,v'] w (kH W0 bs L ts M (q*r) (k+k'+2)):=by
 obtain ⟨s,A,n,c,A',n',c',e1⟩:=(HE.fr _ h).shape;obtain ⟨t,B,m,d,B',m',d',e2⟩:=(HE.fr _ h').shape;dsimp only at e1 e2;subst e1 e2;exact (afa HE h h' hk).mono fun _ _ hh=>kH.of hh
end
open bG
section
variable {W0 w w':World} {U:List Box} {Ps:List (World->Prop)} {v v':Value} {q r:Rat} {x y:Int} {k k':Nat} {b b':Bool} {f:FuncId} {vs:List Value} {L:List En} {M:List Qn}
theorem LW(HT:Tz W0)(HB:Tab W0)(HS:St W0 U Ps w){s1:Bool}{A1:Option Addr}{n1 c1:Nat}{B1:Option Addr}{m1 d1:Nat}{q1:Rat}{k1:Nat}{b1:Bool}{s2:Bool}{A2:Option Addr}{n2 c2:Nat}{B2:Option Addr}{m2 d2:Nat}{q2:Rat}{k2:Nat}{b2:Bool}(f1:FV (aup s1 A1 n1 c1 B1 m1 d1) q1 k1 b1 w)(f2:FV (aup s2 A2 n2 c2 B2 m2 d2) q2 k2 b2 w)(hk:k1+k2<=8000):bF Tryz.prog 44 [(aup s1 A1 n1 c1 B1 m1 d1),(aup s2 A2 n2 c2 B2 m2 d2)] w (lJ W0 U Ps (q1+q2) (k1+k2+2)) :=
 wM HS (ae3 (((St.start HS HT HB).cons f2).cons f1) ak au hk)
theorem Af(HT:Tz W0)(HB:Tab W0)(HS:St W0 U Ps w){s1:Bool}{A1:Option Addr}{n1 c1:Nat}{B1:Option Addr}{m1 d1:Nat}{q1:Rat}{k1:Nat}{b1:Bool}{s2:Bool}{A2:Option Addr}{n2 c2:Nat}{B2:Option Addr}{m2 d2:Nat}{q2:Rat}{k2:Nat}{b2:Bool}(f1:FV (aup s1 A1 n1 c1 B1 m1 d1) q1 k1 b1 w)(f2:FV (aup s2 A2 n2 c2 B2 m2 d2) q2 k2 b2 w)(hk:k1+k2<=8000):bF Tryz.prog 45 [(aup s1 A1 n1 c1 B1 m1 d1),(aup s2 A2 n2 c2 B2 m2 d2)] w (lJ W0 U Ps (q1*q2) (k1+k2+2)) :=
 wM HS (afb (((St.start HS HT HB).cons f2).cons f1) ak au hk)
end
end Go.Proofs.BGQ
namespace Lw
theorem LH{a:Tn}(ha:tok a):tC a*tC a+tS a*tS a=1:=by
 have h:=Rp.self ha;have h1:=h.cos;have h2:=h.sin;have h3:=h.norm
 revert h1 h2 h3
 generalize (if a.1 then (0:Rat) else 1)=x;generalize (if a.1 then (1:Rat) else a.2)=y;intro h1 h2 h3;refine AX (fQ h3 h3) ?_;have e:(x*x+y*y)*(x*x+y*y)*(tC a*tC a+tS a*tS a)=((x*x+y*y)*tC a)*((x*x+y*y)*tC a)+((x*x+y*y)*tS a)*((x*x+y*y)*tS a):=by grind
 rw [e,h1,h2];grind
end Lw
