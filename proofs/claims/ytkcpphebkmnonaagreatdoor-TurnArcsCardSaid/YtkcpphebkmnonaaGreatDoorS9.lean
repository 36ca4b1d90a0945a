/- Part of a proof, said shortly. -/
import Derived.WalkKit
import Derived.Below
import Derived.Laws.Cells
import Derived.OrdersHeld
import Derived.Test.YtkcpphebkmnonaaGreatDoorAlz
import Derived.Test.YtkcpphebkmnonaaGreatDoorC11
import Derived.Test.YtkcpphebkmnonaaGreatDoorS2
import Derived.Test.YtkcpphebkmnonaaGreatDoorC16
import Derived.Test.YtkcpphebkmnonaaGreatDoorS5
import Derived.Test.YtkcpphebkmnonaaGreatDoorC15
import Derived.Test.YtkcpphebkmnonaaGreatDoorC12
import Derived.Test.YtkcpphebkmnonaaGreatDoorC10
import Derived.Test.YtkcpphebkmnonaaGreatDoorC9
import Derived.Test.YtkcpphebkmnonaaGreatDoorC8
import Derived.Test.YtkcpphebkmnonaaGreatDoorC5
import Derived.Test.YtkcpphebkmnonaaGreatDoorC2
import Derived.Test.YtkcpphebkmnonaaGreatDoorC1
import Derived.Test.YtkcpphebkmnonaaGreatDoorC4
import Derived.Test.YtkcpphebkmnonaaGreatDoorC3
import Derived.Test.YtkcpphebkmnonaaGreatDoorC7
import Derived.Test.YtkcpphebkmnonaaGreatDoorC6
import Derived.Test.YtkcpphebkmnonaaGreatDoorC14
import Derived.Test.YtkcpphebkmnonaaGreatDoorC13
import Derived.Test.YtkcpphebkmnonaaGreatDoorS1
import Derived.Test.YtkcpphebkmnonaaGreatDoorS4
import Derived.Test.YtkcpphebkmnonaaGreatDoorC17
namespace bG
open Go Go.RowKit
section
variable {P:Program} {ρ:Operand->Value} {w:World} {dst:Option Tmp} {ty:TypeId} {pos:String} {bD:Array Edge} {gd:Option (Nat×Bool)}
theorem OE{t t':TypeId}{x y:Operand}{k:IntKind}{a b:Int}{c:Bool}(hx:ρ x = .int k a)(hy:ρ y = .int k b)(h:decide (a<=b)=c):(execOp ρ ⟨dst,.binOp .leq t x y t',ty,pos,bD,gd⟩).run P w = .ok (.value (.bool c)) w :=
 FC hx hy (by rw [<- h];rfl) (.inr (.inl rfl))
end
end bG
namespace Lw
open Go Go.RowKit bG
def JM(u1:Bool)(q1:Rat)(u2:Bool)(q2:Rat)(u3:Bool)(q3:Rat):Bool:=decide (fP u1 q1 u2 q2=0)||decide (fP (cO u3 q3 u1 (-q1)) (dL u3 q3 u1 (-q1)) (cO u2 q2 u1 (-q1)) (dL u2 q2 u1 (-q1))<=0)
end Lw
namespace Go.Proofs.BGQ
open Go Go.RowKit Lw bG
section
variable {W0 w:World} {U:List Box} {Ps:List (World->Prop)}
set_option maxRecDepth 100000 in
set_option maxHeartbeats 400000 in
theorem akm(HT:Tz W0)(HB:Tab W0){s1:Bool}{A1:Option Addr}{n1 c1:Nat}{B1:Option Addr}{m1 d1:Nat}{q1:Rat}{k1:Nat}{u1:Bool}{s2:Bool}{A2:Option Addr}{n2 c2:Nat}{B2:Option Addr}{m2 d2:Nat}{q2:Rat}{k2:Nat}{u2:Bool}{s3:Bool}{A3:Option Addr}{n3 c3:Nat}{B3:Option Addr}{m3 d3:Nat}{q3:Rat}{k3:Nat}{u3:Bool}(HS:St W0 U Ps w)(f1:FV (.agg #[.bool s1,.slice A1 n1 c1,.slice B1 m1 d1]) q1 k1 true w)(f2:FV (.agg #[.bool s2,.slice A2 n2 c2,.slice B2 m2 d2]) q2 k2 true w)(f3:FV (.agg #[.bool s3,.slice A3 n3 c3,.slice B3 m3 d3]) q3 k3 true w)(hk:k1+k2<=60/\k1+k3<=60)(t1:u1=true->q1=0)(t2:u2=true->q2=0)(t3:u3=true->q3=0):bF Tryz.prog 42 [.agg #[.bool s1,.slice A1 n1 c1,.slice B1 m1 d1,.bool u1],.agg #[.bool s2,.slice A2 n2 c2,.slice B2 m2 d2,.bool u2],.agg #[.bool s3,.slice A3 n3 c3,.slice B3 m3 d3,.bool u3]] w (dI W0 U Ps (.bool (JM u1 q1 u2 q2 u3 q3))):=by
 have HS:=HS.add (FV.stable _ _ _ _) f1;have HS:=HS.add (FV.stable _ _ _ _) f2;have HS:=HS.add (FV.stable _ _ _ _) f3;clear f1 f2 f3;refine df Tryz.func42 rfl Tryz.ntmps42 rfl<|Js<|JL.box (vs:=[.bool s1,.slice A1 n1 c1,.slice B1 m1 d1,.bool u1]) HS rfl rfl rfl rfl (fun g21 di HS => ?_);refine JL.box (vs:=[.bool s2,.slice A2 n2 c2,.slice B2 m2 d2,.bool u2]) HS rfl rfl rfl rfl (fun g22 dw HS => ?_);refine JL.box (vs:=[.bool s3,.slice A3 n3 c3,.slice B3 m3 d3,.bool u3]) HS rfl rfl rfl rfl (fun g23 dR HS => ?_);refine La rfl<|Jn<|JC.seq<|Js<|JL.load (.agg #[.bool s1,.slice A1 n1 c1,.slice B1 m1 d1,.bool u1]) HS 2 rfl rfl rfl asQ asO rfl rfl<|JL.load (.agg #[.bool s2,.slice A2 n2 c2,.slice B2 m2 d2,.bool u2]) HS 1 rfl rfl rfl asQ asO rfl rfl<|JL.call rfl rfl Tryz.call39 (OC HT HB HS (HS.at_ 2 rfl) (HS.at_ 1 rfl) af)<|?_;rintro v24 dY ⟨rfl,HS⟩;refine Lz (.bool (decide ((fP u1 q1 u2 q2)=0))) (fun a ha=>jA (ha.ev rfl) (ha.ev rfl) rfl)<|Jn<|?_
 cases Ey:((decide ((fP u1 q1 u2 q2)=0)))
 ·skip
  refine JC.bJ rfl<|Jk<|JC.seq<|JC.draw HS [] ah (fun fA HS => ?_);refine Da (.agg #[.bool s3,.slice A3 n3 c3,.slice B3 m3 d3,.bool u3]) 0 0 rfl HS.b0 rfl rfl asQ asO<|Da (.agg #[.bool s1,.slice A1 n1 c1,.slice B1 m1 d1,.bool u1]) 1 2 rfl HS.b0 rfl rfl asQ asO<|Da (.agg #[.bool s2,.slice A2 n2 c2,.slice B2 m2 d2,.bool u2]) 4 1 rfl HS.b0 rfl rfl asQ asO<|Da (.agg #[.bool s1,.slice A1 n1 c1,.slice B1 m1 d1,.bool u1]) 5 2 rfl HS.b0 rfl rfl asQ asO<|cZ 2 rfl rfl rfl Tryz.call24 (OD HT HB HS (HS.at_ 2 rfl) af)<|?_;rintro Pv PI ⟨BG,zM,AY,zY,zN,AU,Ad,rfl,HS⟩;refine ⟨HS.b0,?_⟩;refine cZ 3 rfl rfl rfl aty (zB HT HB HS (HS.at_ 1 rfl) (HS.at_ 0 rfl) af t3 (F6 t1))<|?_;rintro Px PK ⟨oJ,nJ,oq,nO,nM,og,nP,rfl,HS⟩;refine ⟨HS.b0,?_⟩;refine cZ 6 rfl rfl rfl Tryz.call24 (OD HT HB HS (HS.at_ 4 rfl) af)<|?_;rintro aac aam ⟨Y1,Qi,WY,SK,QM,Wv,TU,rfl,HS⟩;refine ⟨HS.b0,?_⟩;refine cZ 7 rfl rfl rfl aty (zB HT HB HS (HS.at_ 4 rfl) (HS.at_ 0 rfl) af t2 (F6 t1))<|?_;rintro al6 aan ⟨aky,aaV,ahz,adK,aba,ag',aej,rfl,HS⟩;refine ⟨HS.b0,?_⟩;refine cZ 8 rfl rfl rfl Tryz.call39 (OC HT HB HS (HS.at_ 2 rfl) (HS.at_ 0 rfl) af)<|?_;rintro al7 aao ⟨rfl,HS⟩;refine ⟨HS.b0,?_⟩;refine Dv (.bool (decide ((fP (cO u3 q3 u1 (-q1)) (dL u3 q3 u1 (-q1)) (cO u2 q2 u1 (-q1)) (dL u2 q2 u1 (-q1)))<=0))) 9 rfl HS.b0 (fun a ha w=>OE (ha.ev rfl) (ha.ev rfl) rfl)<|Ds 10 rfl HS.b0 rfl<|JR.next ah (fun _ _ h=>h)<|Ja Tryz.results42 (.tmp rfl)<|?_;exact ⟨(congrArg Value.bool (by simp_all [JM])),HS.o0 3 7⟩
 ·skip
  refine JC.bH rfl<|Js<|La rfl<|Jn<|Ja Tryz.results42 (.tmp rfl)<|?_;exact ⟨(congrArg Value.bool (by simp_all [JM])),HS.o0 3 3⟩
end
end Go.Proofs.BGQ
namespace Lw
theorem JO{a:Tn}(ha:tok a):tok (tN a):=(Rp.neg (Rp.self ha)).ok
theorem ak6{a:Tn}(ha:tok a):tA a (false,0)=a:=(Rp.add (Rp.self ha) Rp.one).uniq (Rp.self ha) (by grind)
theorem ZG{a x:Tn}(ha:tok a)(hx:tok x):tA (tA x (tN a)) a=x:=by
 rw [OX hx (JO ha) ha,OY (JO ha) ha,BK ha,ak6 hx]
theorem OZ{a x y:Tn}(ha:tok a)(hx:tok x)(hy:tok y)(h:tA x (tN a)=tA y (tN a)):x=y:=by
 rw [<- ZG ha hx,h,ZG ha hy]
def jh(a b:Tn):Int:=fP a.1 a.2 b.1 b.2
theorem BM{a b:Tn}(ha:tok a)(hb:tok b):jh a b=0↔a=b:=by
 obtain ⟨u,q⟩:=a;obtain ⟨u',q'⟩:=b;unfold jh fP ig eU;unfold tok at ha hb
 cases u <;> cases u' <;> simp only [Prod.mk.injEq] <;> grind
theorem ali(a b:Tn):jh b a = -jh a b:=by
 obtain ⟨u,q⟩:=a;obtain ⟨u',q'⟩:=b;unfold jh fP ig eU
 cases u <;> cases u' <;> simp only <;> grind
def tI(a b x:Tn):Bool:=JM a.1 a.2 b.1 b.2 x.1 x.2
theorem ak8(a b x:Tn):tI a b x=(decide (jh a b=0)||decide (jh (tA x (tN a)) (tA b (tN a))<=0)):=rfl
end Lw
namespace Lw
def pI(a b x:Tn):Bool:=if jh a b<0 then decide (jh a x<=0)&&decide (jh x b<=0) else decide (jh a x<=0)||decide (jh x b<=0)
def dt(x y z t:Rat):Rat:=x*t-y*z
def jq(x1 y1 x2 y2 x3 y3:Rat):Rat:=dt x1 y1 x2 y2*dt x2 y2 x3 y3*dt x3 y3 x1 y1
theorem FY{c p:Rat}(h:c≠0):c*c*p<0↔p<0:=by
 have h2:0<c*c:=by
  have:=zH c;rcases Rat.le_iff_lt_or_eq.1 this with h3 | h3
  ·exact h3
  ·exact absurd h3.symm (fQ h h)
 constructor
 ·intro h3
  by_cases hp:p<0
  ·exact hp
  ·have:=Rat.mul_nonneg (Rat.le_of_lt h2) (Rat.not_lt.1 hp)
   grind
 ·intro h3
  have:=avE h2 (show 0 < -p by grind);grind
theorem Zn{a b:Rat}(ha:a≠0)(hb:b≠0):a*b<0↔¬ (a<0↔b<0):=by
 by_cases h1:a<0 <;> by_cases h2:b<0
 ·have:=avE (show 0 < -a by grind) (show 0 < -b by grind)
  simp only [h1,h2,iff_self,not_true,iff_false];grind
 ·have:=avE (show 0 < -a by grind) (show 0<b by grind)
  simp only [h1,h2,true_iff,not_false_iff,iff_true];grind
 ·have:=avE (show 0<a by grind) (show 0 < -b by grind)
  simp only [h1,h2,not_false_iff,iff_true];grind
 ·have:=avE (show 0<a by grind) (show 0<b by grind)
  simp only [h1,h2,iff_self,not_true,iff_false];grind
theorem sg3{a b c:Rat}(ha:a≠0)(hb:b≠0)(hc:c≠0):a*b*c<0↔¬ (¬ (a<0↔b<0)↔c<0):=by
 rw [Zn (fQ ha hb) hc,Zn ha hb]
theorem Xw{a b x:Tn}{x1 y1 x2 y2 x3 y3:Rat}(ha:Rp a x1 y1)(hx:Rp x x2 y2)(hb:Rp b x3 y3)(h1:a≠x)(h2:x≠b)(h3:b≠a):pI a b x=decide (jq x1 y1 x2 y2 x3 y3<0):=by
 obtain ⟨u,q⟩:=a;obtain ⟨u',q'⟩:=x;obtain ⟨u2,q2⟩:=b;rcases ha with ⟨a1,a2,a3,a4⟩ | ⟨a1,a2,a3⟩ <;> rcases hx with ⟨b1,b2,b3,b4⟩ | ⟨b1,b2,b3⟩ <;> rcases hb with ⟨c1,c2,c3,c4⟩ | ⟨c1,c2,c3⟩ <;> simp only at a1 a2 a3 b1 b2 b3 c1 c2 c3 <;> subst a1 b1 c1
 ·exact absurd (by rw [a2,b2]) h1
 ·exact absurd (by rw [a2,b2]) h1
 ·exact absurd (by rw [a2,c2]) h3
 ·have e:jq x1 y1 x2 y2 x3 y3=(y1*x2*x3)*(y1*x2*x3)*(q'-q2):=by unfold jq dt;grind
  have n:jq x1 y1 x2 y2 x3 y3<0↔q'-q2<0:=e ▸ FY (p:=q'-q2) (fQ (fQ a4 b2) c2);have h4:q'≠q2:=fun e=>h2 (by rw [e]);rw [show decide (jq x1 y1 x2 y2 x3 y3<0)=decide (q'-q2<0) from decide_eq_decide.2 n];unfold pI jh fP ig eU;simp only;grind
 ·exact absurd (by rw [b2,c2]) h2
 ·have e:jq x1 y1 x2 y2 x3 y3=(x1*y2*x3)*(x1*y2*x3)*(q2-q):=by unfold jq dt;grind
  have n:jq x1 y1 x2 y2 x3 y3<0↔q2-q<0:=e ▸ FY (p:=q2-q) (fQ (fQ a2 b4) c2);have h4:q2≠q:=fun e=>h3 (by rw [e]);rw [show decide (jq x1 y1 x2 y2 x3 y3<0)=decide (q2-q<0) from decide_eq_decide.2 n];unfold pI jh fP ig eU;simp only;grind
 ·have e:jq x1 y1 x2 y2 x3 y3=(x1*x2*y3)*(x1*x2*y3)*(q-q'):=by unfold jq dt;grind
  have n:jq x1 y1 x2 y2 x3 y3<0↔q-q'<0:=e ▸ FY (p:=q-q') (fQ (fQ a2 b2) c4);have h4:q≠q':=fun e=>h1 (by rw [e]);rw [show decide (jq x1 y1 x2 y2 x3 y3<0)=decide (q-q'<0) from decide_eq_decide.2 n];unfold pI jh fP ig eU;simp only;grind
 ·have e:jq x1 y1 x2 y2 x3 y3=(x1*x2*x3)*(x1*x2*x3)*((q'-q)*(q2-q')*(q-q2)):=by unfold jq dt;grind
  have n:jq x1 y1 x2 y2 x3 y3<0↔(q'-q)*(q2-q')*(q-q2)<0:=e ▸ FY (p:=(q'-q)*(q2-q')*(q-q2)) (fQ (fQ a2 b2) c2);have h4:q≠q':=fun e=>h1 (by rw [e]);have h5:q'≠q2:=fun e=>h2 (by rw [e]);have h6:q2≠q:=fun e=>h3 (by rw [e]);have s:=sg3 (a:=q'-q) (b:=q2-q') (c:=q-q2) (by grind) (by grind) (by grind);have d1:q'-q<0↔q'<q:=by grind
  have d2:q2-q'<0↔q2<q':=by grind
  have d3:q-q2<0↔q<q2:=by grind
  rw [d1,d2,d3] at s;rw [show decide (jq x1 y1 x2 y2 x3 y3<0)=decide (¬ (¬ (q'<q↔q2<q')↔q<q2)) from decide_eq_decide.2 (n.trans s)];clear e n s d1 d2 d3 a3 b3 c3 a2 b2 c2;unfold pI jh fP ig eU;simp only;grind
theorem ah3{a b x:Tn}(ha:tok a)(hb:tok b)(hx:tok x):pI a b x=tI a b x:=by
 rw [ak8]
 by_cases h1:a=b
 ·subst h1
  have e:=(BM ha ha).2 rfl;rw [decide_eq_true e,Bool.true_or];unfold pI;rw [if_neg af,ali a x]
  by_cases h:jh a x<=0
  ·rw [decide_eq_true h];rfl
  ·rw [decide_eq_false h,decide_eq_true af];rfl
 rw [decide_eq_false (mt (BM ha hb).1 h1),Bool.false_or];have z:tok (false,0):=fun h=>by cases h
 have hd:=F7 hb (JO ha);have he:=F7 hx (JO ha);have n0:tA b (tN a)≠(false,0):=fun e=>h1 (OZ ha ha hb (by rw [e,BK ha]))
 have lo : ∀ {d:Tn},tok d->jh (false,0) d<=0:=fun {d} hd=>by
  obtain ⟨u,q⟩:=d;unfold jh fP ig eU
  cases u <;> simp only <;> grind
 have Wn:jh (false,0) (tA b (tN a))<0:=by
  have:=lo hd;have:=mt (BM z hd).1 (Ne.symm n0);omega
 have key : ∀ {e:Tn},tok e->pI (false,0) (tA b (tN a)) e=decide (jh e (tA b (tN a))<=0):=fun {e} he=>by
  unfold pI;rw [if_pos Wn,decide_eq_true (lo he),Bool.true_and]
 rw [<- key he]
 by_cases h2:a=x
 ·subst h2
  rw [BK ha,key z,decide_eq_true (Int.le_of_lt Wn)];unfold pI;have e:=(BM ha ha).2 rfl;rw [e]
  split
  ·rw [decide_eq_true (p:=jh a b<=0) af];rfl
  ·rfl
 by_cases h3:x=b
 ·subst h3
  rw [key hd,(BM hd hd).2 rfl];unfold pI;have e:=(BM hx hx).2 rfl;rw [e]
  split
  ·rw [decide_eq_true (p:=jh a x<=0) af];rfl
  ·exact Bool.or_true _
 have ra:=Rp.self ha;have rb:=Rp.self hb;have rx:=Rp.self hx;generalize (if a.1 then (0:Rat) else 1)=x1 at ra;generalize (if a.1 then (1:Rat) else a.2)=y1 at ra;generalize (if b.1 then (0:Rat) else 1)=x3 at rb;generalize (if b.1 then (1:Rat) else b.2)=y3 at rb;generalize (if x.1 then (0:Rat) else 1)=x2 at rx;generalize (if x.1 then (1:Rat) else x.2)=y2 at rx;rw [Xw ra rx rb h2 h3 (Ne.symm h1)];have m2:tA x (tN a)≠(false,0):=fun e=>h2 (OZ ha ha hx (by rw [e,BK ha]));have m3:tA x (tN a)≠tA b (tN a):=fun e=>h3 (OZ ha hx hb e);have N:=Rp.norm ra;rw [Xw (a:=(false,0)) (x1:=x1*x1+y1*y1) (y1:=0) (.inr ⟨rfl,N,by simp⟩) (Rp.sub ra rx) (Rp.sub ra rb) (Ne.symm m2) m3 n0];apply decide_eq_decide.2;have e:jq (x1*x1+y1*y1) 0 (x2*x1+y2*y1) (y2*x1-x2*y1) (x3*x1+y3*y1) (y3*x1-x3*y1)=(x1*x1+y1*y1)*(x1*x1+y1*y1)*((x1*x1+y1*y1)*jq x1 y1 x2 y2 x3 y3):=by unfold jq dt;grind
 rw [e,FY N]
 have N2:0<x1*x1+y1*y1:=by
  have:=zH x1;have:=zH y1;grind
 constructor
 ·intro h;have:=avE N2 (show 0 < -jq x1 y1 x2 y2 x3 y3 by grind);grind
 ·intro h
  by_cases hp:jq x1 y1 x2 y2 x3 y3<0
  ·exact hp
  ·have:=Rat.mul_nonneg (Rat.le_of_lt N2) (Rat.not_lt.1 hp);grind
end Lw
namespace Go.Proofs.BGQ
open Go Go.RowKit Lw bG
section
variable {W0 w:World} {U:List Box} {Ps:List (World->Prop)}
theorem I9(u1:Bool)(q1:Rat)(u2:Bool)(q2:Rat)(u3:Bool)(q3:Rat):pI (u1,q1) (u2,q2) (u3,q3)=if decide (fP u1 q1 u2 q2<0)=true then decide (fP u1 q1 u3 q3<=0)&&decide (fP u3 q3 u2 q2<=0) else decide (fP u1 q1 u3 q3<=0)||decide (fP u3 q3 u2 q2<=0):=by
 unfold pI jh
 by_cases h:fP u1 q1 u2 q2<0
 ·rw [if_pos h,if_pos (decide_eq_true h)]
 ·rw [if_neg h,if_neg (by rw [decide_eq_false h];decide)]
set_option maxRecDepth 100000 in
set_option maxHeartbeats 400000 in
theorem alI(HT:Tz W0)(HB:Tab W0){g:Nat}{u1:Bool}{u2:Bool}{u3:Bool}{s1:Bool}{A1:Option Addr}{n1 c1:Nat}{B1:Option Addr}{m1 d1:Nat}{q1:Rat}{k1:Nat}{b1:Bool}{s2:Bool}{A2:Option Addr}{n2 c2:Nat}{B2:Option Addr}{m2 d2:Nat}{q2:Rat}{k2:Nat}{b2:Bool}{s3:Bool}{A3:Option Addr}{n3 c3:Nat}{B3:Option Addr}{m3 d3:Nat}{q3:Rat}{k3:Nat}{b3:Bool}(HS:St W0 (⟨g,26,[.bool s1,.slice A1 n1 c1,.slice B1 m1 d1,.bool u1,.bool s2,.slice A2 n2 c2,.slice B2 m2 d2,.bool u2,.bool s3,.slice A3 n3 c3,.slice B3 m3 d3,.bool u3]⟩::U) Ps w)(f1:FV (.agg #[.bool s1,.slice A1 n1 c1,.slice B1 m1 d1]) q1 k1 b1 w)(f2:FV (.agg #[.bool s2,.slice A2 n2 c2,.slice B2 m2 d2]) q2 k2 b2 w)(f3:FV (.agg #[.bool s3,.slice A3 n3 c3,.slice B3 m3 d3]) q3 k3 b3 w)(hk1:k1<=1000)(hk2:k2<=1000)(hk3:k3<=1000)(hg1:bT b1 u1 q1)(hg2:bT b2 u2 q2)(hg3:bT b3 u3 q3):bF Tryz.prog 49 [.slice (some ⟨g,0,none⟩) 3 3] w (dI W0 (⟨g,26,[.bool s1,.slice A1 n1 c1,.slice B1 m1 d1,.bool u1,.bool s2,.slice A2 n2 c2,.slice B2 m2 d2,.bool u2,.bool s3,.slice A3 n3 c3,.slice B3 m3 d3,.bool u3]⟩::U) Ps (.nilIface)):=by
 have HS:=HS.add (FV.stable _ _ _ _) f1;have HS:=HS.add (FV.stable _ _ _ _) f2;have HS:=HS.add (FV.stable _ _ _ _) f3;clear f1 f2 f3;refine df atD rfl atE rfl<|Js<|La rfl<|Jn<|JC.seq<|Js<|Lm rfl<|Ll rfl asX<|Lm rfl<|Jn<|JC.block<|JC.lU 40<|Js<|Lz (.bool true) (fun a ha=>dG (ha.ev rfl) (ha.ev rfl) ai)<|Jn<|JC.seq<|JC.bH rfl<|Jk<|JC.seq<|JC.block<|Js<|Lz (.pointer (some ⟨g,0,none⟩)) (fun a ha=>eY (ha.ev rfl) (ha.ev rfl) asX asO (j:=0) rfl ai rfl)<|JL.load (.agg #[.bool s1,.slice A1 n1 c1,.slice B1 m1 d1,.bool u1]) HS 0 rfl rfl rfl asQ asO rfl rfl<|JL.alloc (vs:=[.bool false,.slice none 0 0,.slice none 0 0,.bool false]) HS rfl asU rfl rfl (fun g21 di HS => ?_);refine JL.store HS rfl rfl (i:=0) rfl asO rfl rfl rfl (vs':=[.bool s1,.slice A1 n1 c1,.slice B1 m1 d1,.bool u1]) rfl rfl (fun dw HS => ?_);refine Jn<|Js<|JL.load (.agg #[.bool s1,.slice A1 n1 c1,.slice B1 m1 d1,.bool u1]) HS 0 rfl rfl rfl asQ asO rfl rfl<|JL.call rfl rfl atd (o7 HT HB HS (HS.at_ 2 rfl) af hg1)<|?_;rintro v23 dR ⟨rfl,HS⟩;refine La rfl<|Jn<|Js<|Lm rfl<|Lz (.bool false) (fun a ha=>fG (ha.ev rfl) rfl asY)<|Jn<|JC.bJ rfl<|JC.dX (fun _ _ h=>h)<|JC.region<|Lz (.int .i64 1) (fun a ha=>fF (ha.ev rfl) (ha.ev rfl) ai)<|Lm rfl<|JL.again 39 (fun _ _ h=>h)<|Js<|Lz (.bool true) (fun a ha=>dG (ha.ev rfl) (ha.ev rfl) ai)<|Jn<|JC.seq<|JC.bH rfl<|Jk<|JC.seq<|JC.block<|Js<|Lz (.pointer (some ⟨g,4,none⟩)) (fun a ha=>eY (ha.ev rfl) (ha.ev rfl) asX asO (j:=1) rfl ai rfl)<|JL.load (.agg #[.bool s2,.slice A2 n2 c2,.slice B2 m2 d2,.bool u2]) HS 1 rfl rfl rfl asQ asO rfl rfl<|JL.alloc (vs:=[.bool false,.slice none 0 0,.slice none 0 0,.bool false]) HS rfl asU rfl rfl (fun g24 dY HS => ?_);refine JL.store HS rfl rfl (i:=0) rfl asO rfl rfl rfl (vs':=[.bool s2,.slice A2 n2 c2,.slice B2 m2 d2,.bool u2]) rfl rfl (fun dV HS => ?_);refine Jn<|Js<|JL.load (.agg #[.bool s2,.slice A2 n2 c2,.slice B2 m2 d2,.bool u2]) HS 0 rfl rfl rfl asQ asO rfl rfl<|JL.call rfl rfl atd (o7 HT HB HS (HS.at_ 1 rfl) af hg2)<|?_;rintro v26 fA ⟨rfl,HS⟩;refine La rfl<|Jn<|Js<|Lm rfl<|Lz (.bool false) (fun a ha=>fG (ha.ev rfl) rfl asY)<|Jn<|JC.bJ rfl<|JC.dX (fun _ _ h=>h)<|JC.region<|Lz (.int .i64 2) (fun a ha=>fF (ha.ev rfl) (ha.ev rfl) ai)<|Lm rfl<|JL.again 38 (fun _ _ h=>h)<|Js<|Lz (.bool true) (fun a ha=>dG (ha.ev rfl) (ha.ev rfl) ai)<|Jn<|JC.seq<|JC.bH rfl<|Jk<|JC.seq<|JC.block<|Js<|Lz (.pointer (some ⟨g,8,none⟩)) (fun a ha=>eY (ha.ev rfl) (ha.ev rfl) asX asO (j:=2) rfl ai rfl)<|JL.load (.agg #[.bool s3,.slice A3 n3 c3,.slice B3 m3 d3,.bool u3]) HS 2 rfl rfl rfl asQ asO rfl rfl<|JL.alloc (vs:=[.bool false,.slice none 0 0,.slice none 0 0,.bool false]) HS rfl asU rfl rfl (fun D8 lH HS => ?_)
 refine JL.store HS rfl rfl (i:=0) rfl asO rfl rfl rfl (vs':=[.bool s3,.slice A3 n3 c3,.slice B3 m3 d3,.bool u3]) rfl rfl (fun kE HS => ?_);refine Jn<|Js<|JL.load (.agg #[.bool s3,.slice A3 n3 c3,.slice B3 m3 d3,.bool u3]) HS 0 rfl rfl rfl asQ asO rfl rfl<|JL.call rfl rfl atd (o7 HT HB HS (HS.at_ 0 rfl) af hg3)<|?_;rintro v29 jk ⟨rfl,HS⟩;refine La rfl<|Jn<|Js<|Lm rfl<|Lz (.bool false) (fun a ha=>fG (ha.ev rfl) rfl asY)<|Jn<|JC.bJ rfl<|JC.dX (fun _ _ h=>h)<|JC.region<|Lz (.int .i64 3) (fun a ha=>fF (ha.ev rfl) (ha.ev rfl) ai)<|Lm rfl<|JL.again 37 (fun _ _ h=>h)<|Js<|Lz (.bool false) (fun a ha=>dG (ha.ev rfl) (ha.ev rfl) ai)<|Jn<|JC.seq<|JC.bJ rfl<|JC.exit (fun _ _ h=>h) (fun _ _ h=>h)<|Js<|La rfl<|Jn<|Ja Tryz.results49 (.tmp rfl)<|?_;exact ⟨rfl,HS.o0 3 3⟩
set_option maxRecDepth 100000 in
set_option maxHeartbeats 400000 in
theorem alH(HT:Tz W0)(HB:Tab W0){g:Nat}{u1:Bool}{u2:Bool}{u3:Bool}{s1:Bool}{A1:Option Addr}{n1 c1:Nat}{B1:Option Addr}{m1 d1:Nat}{q1:Rat}{k1:Nat}{b1:Bool}{s2:Bool}{A2:Option Addr}{n2 c2:Nat}{B2:Option Addr}{m2 d2:Nat}{q2:Rat}{k2:Nat}{b2:Bool}{s3:Bool}{A3:Option Addr}{n3 c3:Nat}{B3:Option Addr}{m3 d3:Nat}{q3:Rat}{k3:Nat}{b3:Bool}(HS:St W0 (⟨g,26,[.bool s1,.slice A1 n1 c1,.slice B1 m1 d1,.bool u1,.bool s2,.slice A2 n2 c2,.slice B2 m2 d2,.bool u2,.bool s3,.slice A3 n3 c3,.slice B3 m3 d3,.bool u3]⟩::U) Ps w)(f1:FV (.agg #[.bool s1,.slice A1 n1 c1,.slice B1 m1 d1]) q1 k1 b1 w)(f2:FV (.agg #[.bool s2,.slice A2 n2 c2,.slice B2 m2 d2]) q2 k2 b2 w)(f3:FV (.agg #[.bool s3,.slice A3 n3 c3,.slice B3 m3 d3]) q3 k3 b3 w)(hk1:k1<=1000)(hk2:k2<=1000)(hk3:k3<=1000)(hg:¬ (bT b1 u1 q1/\bT b2 u2 q2/\bT b3 u3 q3)):bF Tryz.prog 49 [.slice (some ⟨g,0,none⟩) 3 3] w (dI W0 (⟨g,26,[.bool s1,.slice A1 n1 c1,.slice B1 m1 d1,.bool u1,.bool s2,.slice A2 n2 c2,.slice B2 m2 d2,.bool u2,.bool s3,.slice A3 n3 c3,.slice B3 m3 d3,.bool u3]⟩::U) Ps (.iface 88 (.int .i64 2))):=by
 have HS:=HS.add (FV.stable _ _ _ _) f1;have HS:=HS.add (FV.stable _ _ _ _) f2;have HS:=HS.add (FV.stable _ _ _ _) f3;clear f1 f2 f3;refine df atD rfl atE rfl<|Js<|La rfl<|Jn<|JC.seq<|Js<|Lm rfl<|Ll rfl asX<|Lm rfl<|Jn<|JC.block<|JC.lU 40<|Js<|Lz (.bool true) (fun a ha=>dG (ha.ev rfl) (ha.ev rfl) ai)<|Jn<|JC.seq<|JC.bH rfl<|Jk<|JC.seq<|JC.block<|Js<|Lz (.pointer (some ⟨g,0,none⟩)) (fun a ha=>eY (ha.ev rfl) (ha.ev rfl) asX asO (j:=0) rfl ai rfl)<|JL.load (.agg #[.bool s1,.slice A1 n1 c1,.slice B1 m1 d1,.bool u1]) HS 0 rfl rfl rfl asQ asO rfl rfl<|JL.alloc (vs:=[.bool false,.slice none 0 0,.slice none 0 0,.bool false]) HS rfl asU rfl rfl (fun g21 di HS => ?_);refine JL.store HS rfl rfl (i:=0) rfl asO rfl rfl rfl (vs':=[.bool s1,.slice A1 n1 c1,.slice B1 m1 d1,.bool u1]) rfl rfl (fun dw HS => ?_);refine Jn<|Js<|JL.load (.agg #[.bool s1,.slice A1 n1 c1,.slice B1 m1 d1,.bool u1]) HS 0 rfl rfl rfl asQ asO rfl rfl<|?_
 by_cases iV:bT b1 u1 q1
 ·skip
  refine JL.call rfl rfl atd (o7 HT HB HS (HS.at_ 2 rfl) af iV)<|?_;rintro v24 dY ⟨rfl,HS⟩;refine La rfl<|Jn<|Js<|Lm rfl<|Lz (.bool false) (fun a ha=>fG (ha.ev rfl) rfl asY)<|Jn<|JC.bJ rfl<|JC.dX (fun _ _ h=>h)<|JC.region<|Lz (.int .i64 1) (fun a ha=>fF (ha.ev rfl) (ha.ev rfl) ai)<|Lm rfl<|JL.again 39 (fun _ _ h=>h)<|Js<|Lz (.bool true) (fun a ha=>dG (ha.ev rfl) (ha.ev rfl) ai)<|Jn<|JC.seq<|JC.bH rfl<|Jk<|JC.seq<|JC.block<|Js<|Lz (.pointer (some ⟨g,4,none⟩)) (fun a ha=>eY (ha.ev rfl) (ha.ev rfl) asX asO (j:=1) rfl ai rfl)<|JL.load (.agg #[.bool s2,.slice A2 n2 c2,.slice B2 m2 d2,.bool u2]) HS 1 rfl rfl rfl asQ asO rfl rfl<|JL.alloc (vs:=[.bool false,.slice none 0 0,.slice none 0 0,.bool false]) HS rfl asU rfl rfl (fun kM dV HS => ?_);refine JL.store HS rfl rfl (i:=0) rfl asO rfl rfl rfl (vs':=[.bool s2,.slice A2 n2 c2,.slice B2 m2 d2,.bool u2]) rfl rfl (fun fA HS => ?_);refine Jn<|Js<|JL.load (.agg #[.bool s2,.slice A2 n2 c2,.slice B2 m2 d2,.bool u2]) HS 0 rfl rfl rfl asQ asO rfl rfl<|?_
  by_cases hc27:bT b2 u2 q2
  ·skip
   refine JL.call rfl rfl atd (o7 HT HB HS (HS.at_ 1 rfl) af hc27)<|?_;rintro v28 kE ⟨rfl,HS⟩;refine La rfl<|Jn<|Js<|Lm rfl<|Lz (.bool false) (fun a ha=>fG (ha.ev rfl) rfl asY)<|Jn<|JC.bJ rfl<|JC.dX (fun _ _ h=>h)<|JC.region<|Lz (.int .i64 2) (fun a ha=>fF (ha.ev rfl) (ha.ev rfl) ai)<|Lm rfl<|JL.again 38 (fun _ _ h=>h)<|Js<|Lz (.bool true) (fun a ha=>dG (ha.ev rfl) (ha.ev rfl) ai)<|Jn<|JC.seq<|JC.bH rfl<|Jk<|JC.seq<|JC.block<|Js<|Lz (.pointer (some ⟨g,8,none⟩)) (fun a ha=>eY (ha.ev rfl) (ha.ev rfl) asX asO (j:=2) rfl ai rfl)<|JL.load (.agg #[.bool s3,.slice A3 n3 c3,.slice B3 m3 d3,.bool u3]) HS 2 rfl rfl rfl asQ asO rfl rfl<|JL.alloc (vs:=[.bool false,.slice none 0 0,.slice none 0 0,.bool false]) HS rfl asU rfl rfl (fun wL jk HS => ?_);refine JL.store HS rfl rfl (i:=0) rfl asO rfl rfl rfl (vs':=[.bool s3,.slice A3 n3 c3,.slice B3 m3 d3,.bool u3]) rfl rfl (fun lI HS => ?_);refine Jn<|Js<|JL.load (.agg #[.bool s3,.slice A3 n3 c3,.slice B3 m3 d3,.bool u3]) HS 0 rfl rfl rfl asQ asO rfl rfl<|?_
   by_cases hc31:bT b3 u3 q3
   ·skip
    refine JL.call rfl rfl atd (o7 HT HB HS (HS.at_ 0 rfl) af hc31)<|?_;rintro v32 w32 ⟨rfl,HS⟩;refine La rfl<|Jn<|Js<|Lm rfl<|Lz (.bool false) (fun a ha=>fG (ha.ev rfl) rfl asY)<|Jn<|JC.bJ rfl<|JC.dX (fun _ _ h=>h)<|JC.region<|Lz (.int .i64 3) (fun a ha=>fF (ha.ev rfl) (ha.ev rfl) ai)<|Lm rfl<|JL.again 37 (fun _ _ h=>h)<|Js<|Lz (.bool false) (fun a ha=>dG (ha.ev rfl) (ha.ev rfl) ai)<|Jn<|JC.seq<|JC.bJ rfl<|JC.exit (fun _ _ h=>h) (fun _ _ h=>h)<|Js<|La rfl<|Jn<|Ja Tryz.results49 (.tmp rfl)<|?_;exact ⟨(absurd ⟨iV,hc27,hc31⟩ hg),HS.o0 3 3⟩
   ·skip
    refine JL.call rfl rfl atd (BP HT HB HS (HS.at_ 0 rfl) af hc31)<|?_;rintro v33 o8 ⟨rfl,HS⟩;refine La rfl<|Jn<|Js<|Lm rfl<|Lz (.bool true) (fun a ha=>o5 (ha.ev rfl) rfl asY)<|Jn<|JC.bH rfl<|Js<|Lm rfl<|La rfl<|Jn<|Ja Tryz.results49 (.tmp rfl)<|?_;exact ⟨rfl,HS.o0 3 3⟩
  ·skip
   refine JL.call rfl rfl atd (BP HT HB HS (HS.at_ 1 rfl) af hc27)<|?_;rintro v34 vz ⟨rfl,HS⟩;refine La rfl<|Jn<|Js<|Lm rfl<|Lz (.bool true) (fun a ha=>o5 (ha.ev rfl) rfl asY)<|Jn<|JC.bH rfl<|Js<|Lm rfl<|La rfl<|Jn<|Ja Tryz.results49 (.tmp rfl)<|?_;exact ⟨rfl,HS.o0 2 3⟩
 ·skip
  refine JL.call rfl rfl atd (BP HT HB HS (HS.at_ 2 rfl) af iV)<|?_;rintro v35 zK ⟨rfl,HS⟩;refine La rfl<|Jn<|Js<|Lm rfl<|Lz (.bool true) (fun a ha=>o5 (ha.ev rfl) rfl asY)<|Jn<|JC.bH rfl<|Js<|Lm rfl<|La rfl<|Jn<|Ja Tryz.results49 (.tmp rfl)<|?_;exact ⟨rfl,HS.o0 1 3⟩
set_option maxRecDepth 100000 in
set_option maxHeartbeats 400000 in
theorem alA(HT:Tz W0)(HB:Tab W0){s1:Bool}{A1:Option Addr}{n1 c1:Nat}{B1:Option Addr}{m1 d1:Nat}{q1:Rat}{k1:Nat}{b1:Bool}{u1:Bool}{s2:Bool}{A2:Option Addr}{n2 c2:Nat}{B2:Option Addr}{m2 d2:Nat}{q2:Rat}{k2:Nat}{b2:Bool}{u2:Bool}{s3:Bool}{A3:Option Addr}{n3 c3:Nat}{B3:Option Addr}{m3 d3:Nat}{q3:Rat}{k3:Nat}{b3:Bool}{u3:Bool}(HS:St W0 U Ps w)(f1:FV (.agg #[.bool s1,.slice A1 n1 c1,.slice B1 m1 d1]) q1 k1 b1 w)(f2:FV (.agg #[.bool s2,.slice A2 n2 c2,.slice B2 m2 d2]) q2 k2 b2 w)(f3:FV (.agg #[.bool s3,.slice A3 n3 c3,.slice B3 m3 d3]) q3 k3 b3 w)(hk1:k1<=200)(hk2:k2<=200)(hk3:k3<=200)(hg1:bT b1 u1 q1)(hg2:bT b2 u2 q2)(hg3:bT b3 u3 q3):bF Tryz.prog 41 [.agg #[.bool s1,.slice A1 n1 c1,.slice B1 m1 d1,.bool u1],.agg #[.bool s2,.slice A2 n2 c2,.slice B2 m2 d2,.bool u2],.agg #[.bool s3,.slice A3 n3 c3,.slice B3 m3 d3,.bool u3]] w (dI W0 U Ps (.tuple #[.bool (pI (u1,q1) (u2,q2) (u3,q3)),.nilIface])):=by
 have HS:=HS.add (FV.stable _ _ _ _) f1;have HS:=HS.add (FV.stable _ _ _ _) f2;have HS:=HS.add (FV.stable _ _ _ _) f3;clear f1 f2 f3;obtain ⟨rfl,t1⟩:=hg1;have hg1:bT true u1 q1:=⟨rfl,t1⟩;obtain ⟨rfl,t2⟩:=hg2;have hg2:bT true u2 q2:=⟨rfl,t2⟩;obtain ⟨rfl,t3⟩:=hg3;have hg3:bT true u3 q3:=⟨rfl,t3⟩;refine df Tryz.func41 rfl Tryz.ntmps41 rfl<|Js<|JL.box (vs:=[.bool s1,.slice A1 n1 c1,.slice B1 m1 d1,.bool u1]) HS rfl rfl rfl rfl (fun g21 di HS => ?_);refine JL.box (vs:=[.bool s2,.slice A2 n2 c2,.slice B2 m2 d2,.bool u2]) HS rfl rfl rfl rfl (fun g22 dw HS => ?_);refine JL.box (vs:=[.bool s3,.slice A3 n3 c3,.slice B3 m3 d3,.bool u3]) HS rfl rfl rfl rfl (fun g23 dR HS => ?_);refine La rfl<|La rfl<|Jn<|JC.seq<|Js<|JL.load (.agg #[.bool s1,.slice A1 n1 c1,.slice B1 m1 d1,.bool u1]) HS 2 rfl rfl rfl asQ asO rfl rfl<|JL.load (.agg #[.bool s2,.slice A2 n2 c2,.slice B2 m2 d2,.bool u2]) HS 1 rfl rfl rfl asQ asO rfl rfl<|JL.load (.agg #[.bool s3,.slice A3 n3 c3,.slice B3 m3 d3,.bool u3]) HS 0 rfl rfl rfl asQ asO rfl rfl<|JL.buildSlice (vs:=[.bool s1,.slice A1 n1 c1,.slice B1 m1 d1,.bool u1,.bool s2,.slice A2 n2 c2,.slice B2 m2 d2,.bool u2,.bool s3,.slice A3 n3 c3,.slice B3 m3 d3,.bool u3]) HS rfl (fun a ha=>ha.dm rfl) asX asO asU rfl rfl ah rfl (fun g24 dY HS => ?_);refine JL.call rfl rfl atj (alI HT HB HS (HS.at_ 2 rfl) (HS.at_ 1 rfl) (HS.at_ 0 rfl) af af af hg1 hg2 hg3)<|?_;rintro v25 dV ⟨rfl,HS⟩;refine La rfl<|Jn<|Js<|Lm rfl<|Lz (.bool false) (fun a ha=>fG (ha.ev rfl) rfl asY)<|Jn<|JC.bJ rfl<|Jk<|JC.seq<|JC.draw HS [] ah (fun fA HS => ?_);refine Da (.agg #[.bool s1,.slice A1 n1 c1,.slice B1 m1 d1,.bool u1]) 0 3 rfl HS.b0 rfl rfl asQ asO<|Da (.agg #[.bool s3,.slice A3 n3 c3,.slice B3 m3 d3,.bool u3]) 1 1 rfl HS.b0 rfl rfl asQ asO<|Da (.agg #[.bool s3,.slice A3 n3 c3,.slice B3 m3 d3,.bool u3]) 4 1 rfl HS.b0 rfl rfl asQ asO<|Da (.agg #[.bool s2,.slice A2 n2 c2,.slice B2 m2 d2,.bool u2]) 5 2 rfl HS.b0 rfl rfl asQ asO<|cZ 2 rfl rfl rfl aue (JX HT HB HS (HS.at_ 2 rfl) (HS.at_ 0 rfl) af)<|?_
 rintro Pv PI ⟨rfl,HS⟩;refine ⟨HS.b0,?_⟩;refine Dv (.bool (decide ((fP u1 q1 u3 q3)<=0))) 3 rfl HS.b0 (fun a ha w=>OE (ha.ev rfl) (ha.ev rfl) rfl)<|cZ 6 rfl rfl rfl aue (JX HT HB HS (HS.at_ 0 rfl) (HS.at_ 1 rfl) af)<|?_;rintro aac aam ⟨rfl,HS⟩;refine ⟨HS.b0,?_⟩;refine Dv (.bool (decide ((fP u3 q3 u2 q2)<=0))) 7 rfl HS.b0 (fun a ha w=>OE (ha.ev rfl) (ha.ev rfl) rfl)<|Ds 8 rfl HS.b0 rfl<|Ds 9 rfl HS.b0 rfl<|JR.next ah (fun _ _ h=>h)<|JC.seq<|Js<|JL.load (.agg #[.bool s1,.slice A1 n1 c1,.slice B1 m1 d1,.bool u1]) HS 3 rfl rfl rfl asQ asO rfl rfl<|JL.load (.agg #[.bool s2,.slice A2 n2 c2,.slice B2 m2 d2,.bool u2]) HS 2 rfl rfl rfl asQ asO rfl rfl<|JL.call rfl rfl aue (JX HT HB HS (HS.at_ 2 rfl) (HS.at_ 1 rfl) af)<|?_;rintro v28 kE ⟨rfl,HS⟩;refine Lb rfl rfl<|Jn<|?_
 cases IB:((decide ((fP u1 q1 u2 q2)<0)))
 ·skip
  refine JC.bJ rfl<|Jk<|Js<|Lm rfl<|?_
  cases VA:((decide ((fP u1 q1 u3 q3)<=0)))
  ·skip
   refine Lm rfl<|fD rfl<|Lf rfl rfl<|La rfl<|La rfl<|Jn<|Jb Tryz.results41 (.tmp rfl) (.tmp rfl)<|?_;exact ⟨(congrArg (fun z=>Value.tuple #[.bool z,.nilIface]) (by rw [I9,IB,VA];rfl)),HS.o0 4 3⟩
  ·skip
   refine Lm rfl<|Lq<|Lt rfl rfl<|La rfl<|La rfl<|Jn<|Jb Tryz.results41 (.tmp rfl) (.tmp rfl)<|?_;exact ⟨(congrArg (fun z=>Value.tuple #[.bool z,.nilIface]) (by rw [I9,IB,VA];rfl)),HS.o0 4 3⟩
 ·skip
  refine JC.bH rfl<|Js<|Lm rfl<|?_
  cases wS:((decide ((fP u1 q1 u3 q3)<=0)))
  ·skip
   refine Lm rfl<|Lq<|Lf rfl rfl<|La rfl<|La rfl<|Jn<|Jb Tryz.results41 (.tmp rfl) (.tmp rfl)<|?_;exact ⟨(congrArg (fun z=>Value.tuple #[.bool z,.nilIface]) (by rw [I9,IB,wS];rfl)),HS.o0 4 3⟩
  ·skip
   refine Lm rfl<|fD rfl<|Lt rfl rfl<|La rfl<|La rfl<|Jn<|Jb Tryz.results41 (.tmp rfl) (.tmp rfl)<|?_;exact ⟨(congrArg (fun z=>Value.tuple #[.bool z,.nilIface]) (by rw [I9,IB,wS];rfl)),HS.o0 4 3⟩
set_option maxRecDepth 100000 in
set_option maxHeartbeats 400000 in
theorem O9(HT:Tz W0)(HB:Tab W0){s1:Bool}{A1:Option Addr}{n1 c1:Nat}{B1:Option Addr}{m1 d1:Nat}{q1:Rat}{k1:Nat}{b1:Bool}{u1:Bool}{s2:Bool}{A2:Option Addr}{n2 c2:Nat}{B2:Option Addr}{m2 d2:Nat}{q2:Rat}{k2:Nat}{b2:Bool}{u2:Bool}{s3:Bool}{A3:Option Addr}{n3 c3:Nat}{B3:Option Addr}{m3 d3:Nat}{q3:Rat}{k3:Nat}{b3:Bool}{u3:Bool}(HS:St W0 U Ps w)(f1:FV (.agg #[.bool s1,.slice A1 n1 c1,.slice B1 m1 d1]) q1 k1 b1 w)(f2:FV (.agg #[.bool s2,.slice A2 n2 c2,.slice B2 m2 d2]) q2 k2 b2 w)(f3:FV (.agg #[.bool s3,.slice A3 n3 c3,.slice B3 m3 d3]) q3 k3 b3 w)(hk1:k1<=200)(hk2:k2<=200)(hk3:k3<=200)(hg:¬ (bT b1 u1 q1/\bT b2 u2 q2/\bT b3 u3 q3)):bF Tryz.prog 41 [.agg #[.bool s1,.slice A1 n1 c1,.slice B1 m1 d1,.bool u1],.agg #[.bool s2,.slice A2 n2 c2,.slice B2 m2 d2,.bool u2],.agg #[.bool s3,.slice A3 n3 c3,.slice B3 m3 d3,.bool u3]] w (dI W0 U Ps (.tuple #[.bool false,.iface 88 (.int .i64 2)])):=by
 have HS:=HS.add (FV.stable _ _ _ _) f1;have HS:=HS.add (FV.stable _ _ _ _) f2;have HS:=HS.add (FV.stable _ _ _ _) f3;clear f1 f2 f3;refine df Tryz.func41 rfl Tryz.ntmps41 rfl<|Js<|JL.box (vs:=[.bool s1,.slice A1 n1 c1,.slice B1 m1 d1,.bool u1]) HS rfl rfl rfl rfl (fun g21 di HS => ?_);refine JL.box (vs:=[.bool s2,.slice A2 n2 c2,.slice B2 m2 d2,.bool u2]) HS rfl rfl rfl rfl (fun g22 dw HS => ?_);refine JL.box (vs:=[.bool s3,.slice A3 n3 c3,.slice B3 m3 d3,.bool u3]) HS rfl rfl rfl rfl (fun g23 dR HS => ?_);refine La rfl<|La rfl<|Jn<|JC.seq<|Js<|JL.load (.agg #[.bool s1,.slice A1 n1 c1,.slice B1 m1 d1,.bool u1]) HS 2 rfl rfl rfl asQ asO rfl rfl<|JL.load (.agg #[.bool s2,.slice A2 n2 c2,.slice B2 m2 d2,.bool u2]) HS 1 rfl rfl rfl asQ asO rfl rfl<|JL.load (.agg #[.bool s3,.slice A3 n3 c3,.slice B3 m3 d3,.bool u3]) HS 0 rfl rfl rfl asQ asO rfl rfl<|JL.buildSlice (vs:=[.bool s1,.slice A1 n1 c1,.slice B1 m1 d1,.bool u1,.bool s2,.slice A2 n2 c2,.slice B2 m2 d2,.bool u2,.bool s3,.slice A3 n3 c3,.slice B3 m3 d3,.bool u3]) HS rfl (fun a ha=>ha.dm rfl) asX asO asU rfl rfl ah rfl (fun g24 dY HS => ?_);refine JL.call rfl rfl atj (alH HT HB HS (HS.at_ 2 rfl) (HS.at_ 1 rfl) (HS.at_ 0 rfl) af af af hg)<|?_;rintro v25 dV ⟨rfl,HS⟩;refine La rfl<|Jn<|Js<|Lm rfl<|Lz (.bool true) (fun a ha=>o5 (ha.ev rfl) rfl asY)<|Jn<|JC.bH rfl<|Js<|Lm rfl<|La rfl<|La rfl<|Jn<|Jb Tryz.results41 (.tmp rfl) (.tmp rfl)<|?_;exact ⟨rfl,HS.o0 4 3⟩
end
section
variable {W0 w:World} {U:List Box} {Ps:List (World->Prop)}
set_option maxRecDepth 100000 in
set_option maxHeartbeats 4000000 in
theorem alF(HT:Tz W0)(HB:Tab W0){s1:Bool}{A1:Option Addr}{n1 c1:Nat}{B1:Option Addr}{m1 d1:Nat}{q1:Rat}{k1:Nat}{b1:Bool}{u1:Bool}{s2:Bool}{A2:Option Addr}{n2 c2:Nat}{B2:Option Addr}{m2 d2:Nat}{q2:Rat}{k2:Nat}{b2:Bool}{u2:Bool}{s3:Bool}{A3:Option Addr}{n3 c3:Nat}{B3:Option Addr}{m3 d3:Nat}{q3:Rat}{k3:Nat}{b3:Bool}{u3:Bool}(HS:St W0 U Ps w)(f1:FV (.agg #[.bool s1,.slice A1 n1 c1,.slice B1 m1 d1]) q1 k1 b1 w)(f2:FV (.agg #[.bool s2,.slice A2 n2 c2,.slice B2 m2 d2]) q2 k2 b2 w)(f3:FV (.agg #[.bool s3,.slice A3 n3 c3,.slice B3 m3 d3]) q3 k3 b3 w)  : bF Tryz.prog 6 [.agg #[.bool s1,.slice A1 n1 c1,.slice B1 m1 d1,.bool u1],.agg #[.bool s2,.slice A2 n2 c2,.slice B2 m2 d2,.bool u2],.agg #[.bool s3,.slice A3 n3 c3,.slice B3 m3 d3,.bool u3]] w (dI W0 U Ps (.bool true)):=by
 have HS:=HS.add (FV.stable _ _ _ _) f1;have HS:=HS.add (FV.stable _ _ _ _) f2;have HS:=HS.add (FV.stable _ _ _ _) f3;clear f1 f2 f3;refine df auf rfl Tryz.ntmps6 rfl<|Js<|JL.box (vs:=[.bool s1,.slice A1 n1 c1,.slice B1 m1 d1,.bool u1]) HS rfl rfl rfl rfl (fun g21 di HS => ?_);refine JL.box (vs:=[.bool s2,.slice A2 n2 c2,.slice B2 m2 d2,.bool u2]) HS rfl rfl rfl rfl (fun g22 dw HS => ?_);refine JL.box (vs:=[.bool s3,.slice A3 n3 c3,.slice B3 m3 d3,.bool u3]) HS rfl rfl rfl rfl (fun g23 dR HS => ?_);refine La rfl<|Jn<|JC.seq<|Js<|JL.call rfl rfl atr (tq HT HB HS  )<|?_;rintro v24 dY ⟨rfl,HS⟩;refine Lz (.bool false) (fun a ha=>jK (b:=true) (ha.ev rfl))<|Lm rfl<|bz (.pointer (some ⟨g21,0,none⟩)) (fun a ha=>dF (ha.ev rfl) asV rfl asR rfl rfl)<|bz (.agg #[.bool s1,.slice A1 n1 c1,.slice B1 m1 d1]) (fun a ha=>eG (ha.ev rfl) asT asR (HS.box _ ay) rfl rfl)<|bz (.pointer (some ⟨g22,0,none⟩)) (fun a ha=>dF (ha.ev rfl) asV rfl asR rfl rfl)<|bz (.agg #[.bool s2,.slice A2 n2 c2,.slice B2 m2 d2]) (fun a ha=>eG (ha.ev rfl) asT asR (HS.box _ au) rfl rfl)<|bz (.pointer (some ⟨g23,0,none⟩)) (fun a ha=>dF (ha.ev rfl) asV rfl asR rfl rfl)<|bz (.agg #[.bool s3,.slice A3 n3 c3,.slice B3 m3 d3]) (fun a ha=>eG (ha.ev rfl) asT asR (HS.box _ ak) rfl rfl)<|JL.zX (vs:=[.bool s1,.slice A1 n1 c1,.slice B1 m1 d1,.bool s2,.slice A2 n2 c2,.slice B2 m2 d2,.bool s3,.slice A3 n3 c3,.slice B3 m3 d3]) HS rfl rfl rfl rfl rfl (fun a ha=>ha.dm rfl) atl asR as1 rfl rfl ah rfl (fun kM dV HS => ?_);refine JL.dN rfl rfl rfl rfl rfl rfl aug (ZX HT HB HS)<|?_;rintro v26 fA ⟨rfl,HS⟩;refine bz (.bool (!(decide (n1<=6/\m1<=6/\n2<=6/\m2<=6/\n3<=6/\m3<=6)))) (fun a ha=>jK (ha.ev rfl))<|Lf rfl rfl<|Jn<|?_
 cases nX:((decide (n1<=6/\m1<=6/\n2<=6/\m2<=6/\n3<=6/\m3<=6)))
 ·skip
  refine JC.bH rfl<|Js<|JL.call rfl rfl atr (tq HT HB HS  )<|?_;rintro v28 kE ⟨rfl,HS⟩;refine La rfl<|Jn<|Ja Tryz.results6 (.tmp rfl)<|?_;exact ⟨rfl,HS.o0 4 3⟩
 ·skip
  have hfew:=of_decide_eq_true nX;have HS:=HS.lC 2 rfl (fun _ h=>(bV.cut (K:=6) h af af:FV _ _ 6 _ _));have HS:=HS.lC 2 rfl (fun _ h=>(bV.cut (K:=6) h af af:FV _ _ 6 _ _));have HS:=HS.lC 2 rfl (fun _ h=>(bV.cut (K:=6) h af af:FV _ _ 6 _ _));refine JC.bJ rfl<|Jk<|?_
  by_cases hc29:bT b1 u1 q1
  ·skip
   by_cases lN:bT b2 u2 q2
   ·skip
    by_cases hc31:bT b3 u3 q3
    ·skip
     refine JC.seq<|?_;obtain ⟨rfl,t1⟩:=hc29;obtain ⟨rfl,t2⟩:=lN;obtain ⟨rfl,t3⟩:=hc31;refine JC.region<|JL.load (.agg #[.bool s1,.slice A1 n1 c1,.slice B1 m1 d1,.bool u1]) HS 3 rfl rfl rfl asQ asO rfl rfl<|JL.load (.agg #[.bool s2,.slice A2 n2 c2,.slice B2 m2 d2,.bool u2]) HS 2 rfl rfl rfl asQ asO rfl rfl<|JL.load (.agg #[.bool s3,.slice A3 n3 c3,.slice B3 m3 d3,.bool u3]) HS 1 rfl rfl rfl asQ asO rfl rfl<|JL.call rfl rfl auh (alA HT HB HS (HS.at_ 2 rfl) (HS.at_ 1 rfl) (HS.at_ 0 rfl) af af af ⟨rfl,t1⟩ ⟨rfl,t2⟩ ⟨rfl,t3⟩)<|?_;rintro v32 w32 ⟨rfl,HS⟩;refine Lm rfl<|Lx rfl rfl<|Lx rfl rfl<|La rfl<|La rfl<|Jn<|JC.seq<|Js<|JL.load (.agg #[.bool s1,.slice A1 n1 c1,.slice B1 m1 d1,.bool u1]) HS 3 rfl rfl rfl asQ asO rfl rfl<|JL.load (.agg #[.bool s2,.slice A2 n2 c2,.slice B2 m2 d2,.bool u2]) HS 2 rfl rfl rfl asQ asO rfl rfl<|JL.load (.agg #[.bool s3,.slice A3 n3 c3,.slice B3 m3 d3,.bool u3]) HS 1 rfl rfl rfl asQ asO rfl rfl<|JL.buildSlice (vs:=[.bool s1,.slice A1 n1 c1,.slice B1 m1 d1,.bool u1,.bool s2,.slice A2 n2 c2,.slice B2 m2 d2,.bool u2,.bool s3,.slice A3 n3 c3,.slice B3 m3 d3,.bool u3]) HS rfl (fun a ha=>ha.dm rfl) asX asO asU rfl rfl ah rfl (fun uk o8 HS => ?_);refine Ll rfl asX<|Lm rfl<|Jn<|JC.block<|JC.lU 40<|Js<|Lz (.bool true) (fun a ha=>dG (ha.ev rfl) (ha.ev rfl) ai)<|Jn<|JC.seq<|JC.bH rfl<|Jk<|JC.seq<|JC.block<|Js<|Lz (.pointer (some ⟨uk,0,none⟩)) (fun a ha=>eY (ha.ev rfl) (ha.ev rfl) asX asO (j:=0) rfl ai rfl)<|JL.load (.agg #[.bool s1,.slice A1 n1 c1,.slice B1 m1 d1,.bool u1]) HS 0 rfl rfl rfl asQ asO rfl rfl<|JL.alloc (vs:=[.bool false,.slice none 0 0,.slice none 0 0,.bool false]) HS rfl asU rfl rfl (fun g34 vz HS => ?_);refine JL.store HS rfl rfl (i:=0) rfl asO rfl rfl rfl (vs':=[.bool s1,.slice A1 n1 c1,.slice B1 m1 d1,.bool u1]) rfl rfl (fun zK HS => ?_);refine Jn<|Js<|JL.load (.agg #[.bool s1,.slice A1 n1 c1,.slice B1 m1 d1,.bool u1]) HS 0 rfl rfl rfl asQ asO rfl rfl<|JL.call rfl rfl as5 (kR HT HB HS (HS.at_ 2 rfl) af ⟨rfl,t1⟩)<|?_;rintro v36 J6 ⟨rfl,HS⟩
     refine La rfl<|Jn<|Js<|Lm rfl<|Lz (.bool false) (fun a ha=>eH (ha.ev rfl) (ha.ev rfl) ai)<|Jn<|JC.bJ rfl<|JC.dX (fun _ _ h=>h)<|JC.region<|Lz (.int .i64 1) (fun a ha=>fF (ha.ev rfl) (ha.ev rfl) ai)<|Lm rfl<|JL.again 39 (fun _ _ h=>h)<|Js<|Lz (.bool true) (fun a ha=>dG (ha.ev rfl) (ha.ev rfl) ai)<|Jn<|JC.seq<|JC.bH rfl<|Jk<|JC.seq<|JC.block<|Js<|Lz (.pointer (some ⟨uk,4,none⟩)) (fun a ha=>eY (ha.ev rfl) (ha.ev rfl) asX asO (j:=1) rfl ai rfl)<|JL.load (.agg #[.bool s2,.slice A2 n2 c2,.slice B2 m2 d2,.bool u2]) HS 1 rfl rfl rfl asQ asO rfl rfl<|JL.alloc (vs:=[.bool false,.slice none 0 0,.slice none 0 0,.bool false]) HS rfl asU rfl rfl (fun g37 PL HS => ?_);refine JL.store HS rfl rfl (i:=0) rfl asO rfl rfl rfl (vs':=[.bool s2,.slice A2 n2 c2,.slice B2 m2 d2,.bool u2]) rfl rfl (fun PM HS => ?_);refine Jn<|Js<|JL.load (.agg #[.bool s2,.slice A2 n2 c2,.slice B2 m2 d2,.bool u2]) HS 0 rfl rfl rfl asQ asO rfl rfl<|JL.call rfl rfl as5 (kR HT HB HS (HS.at_ 1 rfl) af ⟨rfl,t2⟩)<|?_;rintro v39 PN ⟨rfl,HS⟩;refine La rfl<|Jn<|Js<|Lm rfl<|Lz (.bool false) (fun a ha=>eH (ha.ev rfl) (ha.ev rfl) ai)<|Jn<|JC.bJ rfl<|JC.dX (fun _ _ h=>h)<|JC.region<|Lz (.int .i64 2) (fun a ha=>fF (ha.ev rfl) (ha.ev rfl) ai)<|Lm rfl<|JL.again 38 (fun _ _ h=>h)<|Js<|Lz (.bool true) (fun a ha=>dG (ha.ev rfl) (ha.ev rfl) ai)<|Jn<|JC.seq<|JC.bH rfl<|Jk<|JC.seq<|JC.block<|Js<|Lz (.pointer (some ⟨uk,8,none⟩)) (fun a ha=>eY (ha.ev rfl) (ha.ev rfl) asX asO (j:=2) rfl ai rfl)<|JL.load (.agg #[.bool s3,.slice A3 n3 c3,.slice B3 m3 d3,.bool u3]) HS 2 rfl rfl rfl asQ asO rfl rfl<|JL.alloc (vs:=[.bool false,.slice none 0 0,.slice none 0 0,.bool false]) HS rfl asU rfl rfl (fun g40 PO HS => ?_);refine JL.store HS rfl rfl (i:=0) rfl asO rfl rfl rfl (vs':=[.bool s3,.slice A3 n3 c3,.slice B3 m3 d3,.bool u3]) rfl rfl (fun PR HS => ?_);refine Jn<|Js<|JL.load (.agg #[.bool s3,.slice A3 n3 c3,.slice B3 m3 d3,.bool u3]) HS 0 rfl rfl rfl asQ asO rfl rfl<|JL.call rfl rfl as5 (kR HT HB HS (HS.at_ 0 rfl) af ⟨rfl,t3⟩)<|?_;rintro v42 PS ⟨rfl,HS⟩
     refine La rfl<|Jn<|Js<|Lm rfl<|Lz (.bool false) (fun a ha=>eH (ha.ev rfl) (ha.ev rfl) ai)<|Jn<|JC.bJ rfl<|JC.dX (fun _ _ h=>h)<|JC.region<|Lz (.int .i64 3) (fun a ha=>fF (ha.ev rfl) (ha.ev rfl) ai)<|Lm rfl<|JL.again 37 (fun _ _ h=>h)<|Js<|Lz (.bool false) (fun a ha=>dG (ha.ev rfl) (ha.ev rfl) ai)<|Jn<|JC.seq<|JC.bJ rfl<|JC.exit (fun _ _ h=>h) (fun _ _ h=>h)<|Js<|Lm rfl<|Lz (.bool true) (fun a ha=>xy (ha.ev rfl) rfl asY)<|Lm rfl<|fD rfl<|bz (.agg #[.bool s1,.slice A1 n1 c1,.slice B1 m1 d1,.bool u1]) (fun a ha=>eG (ha.ev rfl) asQ asO (HS.box _ aF) rfl rfl)<|bz (.agg #[.bool s2,.slice A2 n2 c2,.slice B2 m2 d2,.bool u2]) (fun a ha=>eG (ha.ev rfl) asQ asO (HS.box _ aC) rfl rfl)<|bz (.agg #[.bool s3,.slice A3 n3 c3,.slice B3 m3 d3,.bool u3]) (fun a ha=>eG (ha.ev rfl) asQ asO (HS.box _ aB) rfl rfl)<|JL.dN rfl rfl rfl rfl rfl rfl Tryz.call42 (akm HT HB HS (HS.at_ 2 rfl) (HS.at_ 1 rfl) (HS.at_ 0 rfl) af t1 t2 t3)<|?_;rintro v43 PT ⟨rfl,HS⟩;refine bz (.bool true) (fun a ha=>YQ (ha.ev rfl) (ha.ev rfl) Tryz.runUnderlying4 (beq_iff_eq.2 (ah3 (a:=(u1,q1)) (b:=(u2,q2)) (x:=(u3,q3)) t1 t2 t3)))<|Lt rfl rfl<|La rfl<|Jn<|Ja Tryz.results6 (.tmp rfl)<|?_;exact ⟨rfl,HS.o0 8 6⟩
    ·skip
     refine JC.seq<|?_;obtain ⟨rfl,t1⟩:=hc29;obtain ⟨rfl,t2⟩:=lN;refine JC.region<|JL.load (.agg #[.bool s1,.slice A1 n1 c1,.slice B1 m1 d1,.bool u1]) HS 3 rfl rfl rfl asQ asO rfl rfl<|JL.load (.agg #[.bool s2,.slice A2 n2 c2,.slice B2 m2 d2,.bool u2]) HS 2 rfl rfl rfl asQ asO rfl rfl<|JL.load (.agg #[.bool s3,.slice A3 n3 c3,.slice B3 m3 d3,.bool u3]) HS 1 rfl rfl rfl asQ asO rfl rfl<|JL.call rfl rfl auh (O9 HT HB HS (HS.at_ 2 rfl) (HS.at_ 1 rfl) (HS.at_ 0 rfl) af af af (fun h=>hc31 h.2.2))<|?_;rintro v44 w44 ⟨rfl,HS⟩;refine Lm rfl<|Lx rfl rfl<|Lx rfl rfl<|La rfl<|La rfl<|Jn<|JC.seq<|Js<|JL.load (.agg #[.bool s1,.slice A1 n1 c1,.slice B1 m1 d1,.bool u1]) HS 3 rfl rfl rfl asQ asO rfl rfl<|JL.load (.agg #[.bool s2,.slice A2 n2 c2,.slice B2 m2 d2,.bool u2]) HS 2 rfl rfl rfl asQ asO rfl rfl<|JL.load (.agg #[.bool s3,.slice A3 n3 c3,.slice B3 m3 d3,.bool u3]) HS 1 rfl rfl rfl asQ asO rfl rfl<|JL.buildSlice (vs:=[.bool s1,.slice A1 n1 c1,.slice B1 m1 d1,.bool u1,.bool s2,.slice A2 n2 c2,.slice B2 m2 d2,.bool u2,.bool s3,.slice A3 n3 c3,.slice B3 m3 d3,.bool u3]) HS rfl (fun a ha=>ha.dm rfl) asX asO asU rfl rfl ah rfl (fun D9 PU HS => ?_);refine Ll rfl asX<|Lm rfl<|Jn<|JC.block<|JC.lU 40<|Js<|Lz (.bool true) (fun a ha=>dG (ha.ev rfl) (ha.ev rfl) ai)<|Jn<|JC.seq<|JC.bH rfl<|Jk<|JC.seq<|JC.block<|Js<|Lz (.pointer (some ⟨D9,0,none⟩)) (fun a ha=>eY (ha.ev rfl) (ha.ev rfl) asX asO (j:=0) rfl ai rfl)<|JL.load (.agg #[.bool s1,.slice A1 n1 c1,.slice B1 m1 d1,.bool u1]) HS 0 rfl rfl rfl asQ asO rfl rfl<|JL.alloc (vs:=[.bool false,.slice none 0 0,.slice none 0 0,.bool false]) HS rfl asU rfl rfl (fun g46 w46 HS => ?_);refine JL.store HS rfl rfl (i:=0) rfl asO rfl rfl rfl (vs':=[.bool s1,.slice A1 n1 c1,.slice B1 m1 d1,.bool u1]) rfl rfl (fun PV HS => ?_);refine Jn<|Js<|JL.load (.agg #[.bool s1,.slice A1 n1 c1,.slice B1 m1 d1,.bool u1]) HS 0 rfl rfl rfl asQ asO rfl rfl<|JL.call rfl rfl as5 (kR HT HB HS (HS.at_ 2 rfl) af ⟨rfl,t1⟩)<|?_;rintro v48 PW ⟨rfl,HS⟩;refine La rfl<|Jn<|Js<|Lm rfl<|Lz (.bool false) (fun a ha=>eH (ha.ev rfl) (ha.ev rfl) ai)<|Jn<|JC.bJ rfl<|JC.dX (fun _ _ h=>h)<|JC.region<|Lz (.int .i64 1) (fun a ha=>fF (ha.ev rfl) (ha.ev rfl) ai)<|Lm rfl<|JL.again 39 (fun _ _ h=>h)<|Js<|Lz (.bool true) (fun a ha=>dG (ha.ev rfl) (ha.ev rfl) ai)<|Jn<|JC.seq<|JC.bH rfl<|Jk<|JC.seq<|JC.block<|Js<|Lz (.pointer (some ⟨D9,4,none⟩)) (fun a ha=>eY (ha.ev rfl) (ha.ev rfl) asX asO (j:=1) rfl ai rfl)<|JL.load (.agg #[.bool s2,.slice A2 n2 c2,.slice B2 m2 d2,.bool u2]) HS 1 rfl rfl rfl asQ asO rfl rfl<|JL.alloc (vs:=[.bool false,.slice none 0 0,.slice none 0 0,.bool false]) HS rfl asU rfl rfl (fun g49 w49 HS => ?_)
     refine JL.store HS rfl rfl (i:=0) rfl asO rfl rfl rfl (vs':=[.bool s2,.slice A2 n2 c2,.slice B2 m2 d2,.bool u2]) rfl rfl (fun PX HS => ?_);refine Jn<|Js<|JL.load (.agg #[.bool s2,.slice A2 n2 c2,.slice B2 m2 d2,.bool u2]) HS 0 rfl rfl rfl asQ asO rfl rfl<|JL.call rfl rfl as5 (kR HT HB HS (HS.at_ 1 rfl) af ⟨rfl,t2⟩)<|?_;rintro v51 PY ⟨rfl,HS⟩;refine La rfl<|Jn<|Js<|Lm rfl<|Lz (.bool false) (fun a ha=>eH (ha.ev rfl) (ha.ev rfl) ai)<|Jn<|JC.bJ rfl<|JC.dX (fun _ _ h=>h)<|JC.region<|Lz (.int .i64 2) (fun a ha=>fF (ha.ev rfl) (ha.ev rfl) ai)<|Lm rfl<|JL.again 38 (fun _ _ h=>h)<|Js<|Lz (.bool true) (fun a ha=>dG (ha.ev rfl) (ha.ev rfl) ai)<|Jn<|JC.seq<|JC.bH rfl<|Jk<|JC.seq<|JC.block<|Js<|Lz (.pointer (some ⟨D9,8,none⟩)) (fun a ha=>eY (ha.ev rfl) (ha.ev rfl) asX asO (j:=2) rfl ai rfl)<|JL.load (.agg #[.bool s3,.slice A3 n3 c3,.slice B3 m3 d3,.bool u3]) HS 2 rfl rfl rfl asQ asO rfl rfl<|JL.alloc (vs:=[.bool false,.slice none 0 0,.slice none 0 0,.bool false]) HS rfl asU rfl rfl (fun g52 PZ HS => ?_);refine JL.store HS rfl rfl (i:=0) rfl asO rfl rfl rfl (vs':=[.bool s3,.slice A3 n3 c3,.slice B3 m3 d3,.bool u3]) rfl rfl (fun w53 HS => ?_);refine Jn<|Js<|JL.load (.agg #[.bool s3,.slice A3 n3 c3,.slice B3 m3 d3,.bool u3]) HS 0 rfl rfl rfl asQ asO rfl rfl<|JL.call rfl rfl as5 (sU HT HB HS (HS.at_ 0 rfl) af hc31)<|?_;rintro v54 w54 ⟨rfl,HS⟩;refine La rfl<|Jn<|Js<|Lm rfl<|Lz (.bool true) (fun a ha=>eH (ha.ev rfl) (ha.ev rfl) ai)<|Jn<|JC.bH rfl<|Js<|Lm rfl<|Lz (.bool true) (fun a ha=>jK (b:=false) (ha.ev rfl))<|Lm rfl<|fD rfl<|JL.dN rfl rfl rfl rfl rfl rfl att (sF HS 2)<|?_;rintro v55 w55 ⟨rfl,HS⟩;refine fD rfl<|bz (.bool true) (fun a ha=>jA (ha.ev rfl) (ha.ev rfl) ai)<|Lt rfl rfl<|La rfl<|Jn<|Ja Tryz.results6 (.tmp rfl)<|?_;exact ⟨rfl,HS.o0 8 6⟩
   ·skip
    refine JC.seq<|?_;obtain ⟨rfl,t1⟩:=hc29;refine JC.region<|JL.load (.agg #[.bool s1,.slice A1 n1 c1,.slice B1 m1 d1,.bool u1]) HS 3 rfl rfl rfl asQ asO rfl rfl<|JL.load (.agg #[.bool s2,.slice A2 n2 c2,.slice B2 m2 d2,.bool u2]) HS 2 rfl rfl rfl asQ asO rfl rfl<|JL.load (.agg #[.bool s3,.slice A3 n3 c3,.slice B3 m3 d3,.bool u3]) HS 1 rfl rfl rfl asQ asO rfl rfl<|JL.call rfl rfl auh (O9 HT HB HS (HS.at_ 2 rfl) (HS.at_ 1 rfl) (HS.at_ 0 rfl) af af af (fun h=>lN h.2.1))<|?_;rintro v56 w56 ⟨rfl,HS⟩;refine Lm rfl<|Lx rfl rfl<|Lx rfl rfl<|La rfl<|La rfl<|Jn<|JC.seq<|Js<|JL.load (.agg #[.bool s1,.slice A1 n1 c1,.slice B1 m1 d1,.bool u1]) HS 3 rfl rfl rfl asQ asO rfl rfl<|JL.load (.agg #[.bool s2,.slice A2 n2 c2,.slice B2 m2 d2,.bool u2]) HS 2 rfl rfl rfl asQ asO rfl rfl<|JL.load (.agg #[.bool s3,.slice A3 n3 c3,.slice B3 m3 d3,.bool u3]) HS 1 rfl rfl rfl asQ asO rfl rfl<|JL.buildSlice (vs:=[.bool s1,.slice A1 n1 c1,.slice B1 m1 d1,.bool u1,.bool s2,.slice A2 n2 c2,.slice B2 m2 d2,.bool u2,.bool s3,.slice A3 n3 c3,.slice B3 m3 d3,.bool u3]) HS rfl (fun a ha=>ha.dm rfl) asX asO asU rfl rfl ah rfl (fun L9 w57 HS => ?_);refine Ll rfl asX<|Lm rfl<|Jn<|JC.block<|JC.lU 40<|Js<|Lz (.bool true) (fun a ha=>dG (ha.ev rfl) (ha.ev rfl) ai)<|Jn<|JC.seq<|JC.bH rfl<|Jk<|JC.seq<|JC.block<|Js<|Lz (.pointer (some ⟨L9,0,none⟩)) (fun a ha=>eY (ha.ev rfl) (ha.ev rfl) asX asO (j:=0) rfl ai rfl)<|JL.load (.agg #[.bool s1,.slice A1 n1 c1,.slice B1 m1 d1,.bool u1]) HS 0 rfl rfl rfl asQ asO rfl rfl<|JL.alloc (vs:=[.bool false,.slice none 0 0,.slice none 0 0,.bool false]) HS rfl asU rfl rfl (fun Mc w58 HS => ?_);refine JL.store HS rfl rfl (i:=0) rfl asO rfl rfl rfl (vs':=[.bool s1,.slice A1 n1 c1,.slice B1 m1 d1,.bool u1]) rfl rfl (fun w59 HS => ?_);refine Jn<|Js<|JL.load (.agg #[.bool s1,.slice A1 n1 c1,.slice B1 m1 d1,.bool u1]) HS 0 rfl rfl rfl asQ asO rfl rfl<|JL.call rfl rfl as5 (kR HT HB HS (HS.at_ 2 rfl) af ⟨rfl,t1⟩)<|?_;rintro v60 w60 ⟨rfl,HS⟩;refine La rfl<|Jn<|Js<|Lm rfl<|Lz (.bool false) (fun a ha=>eH (ha.ev rfl) (ha.ev rfl) ai)<|Jn<|JC.bJ rfl<|JC.dX (fun _ _ h=>h)<|JC.region<|Lz (.int .i64 1) (fun a ha=>fF (ha.ev rfl) (ha.ev rfl) ai)<|Lm rfl<|JL.again 39 (fun _ _ h=>h)<|Js<|Lz (.bool true) (fun a ha=>dG (ha.ev rfl) (ha.ev rfl) ai)<|Jn<|JC.seq<|JC.bH rfl<|Jk<|JC.seq<|JC.block<|Js<|Lz (.pointer (some ⟨L9,4,none⟩)) (fun a ha=>eY (ha.ev rfl) (ha.ev rfl) asX asO (j:=1) rfl ai rfl)<|JL.load (.agg #[.bool s2,.slice A2 n2 c2,.slice B2 m2 d2,.bool u2]) HS 1 rfl rfl rfl asQ asO rfl rfl<|JL.alloc (vs:=[.bool false,.slice none 0 0,.slice none 0 0,.bool false]) HS rfl asU rfl rfl (fun g61 w61 HS => ?_)
    refine JL.store HS rfl rfl (i:=0) rfl asO rfl rfl rfl (vs':=[.bool s2,.slice A2 n2 c2,.slice B2 m2 d2,.bool u2]) rfl rfl (fun w62 HS => ?_);refine Jn<|Js<|JL.load (.agg #[.bool s2,.slice A2 n2 c2,.slice B2 m2 d2,.bool u2]) HS 0 rfl rfl rfl asQ asO rfl rfl<|JL.call rfl rfl as5 (sU HT HB HS (HS.at_ 1 rfl) af lN)<|?_;rintro v63 w63 ⟨rfl,HS⟩;refine La rfl<|Jn<|Js<|Lm rfl<|Lz (.bool true) (fun a ha=>eH (ha.ev rfl) (ha.ev rfl) ai)<|Jn<|JC.bH rfl<|Js<|Lm rfl<|Lz (.bool true) (fun a ha=>jK (b:=false) (ha.ev rfl))<|Lm rfl<|fD rfl<|JL.dN rfl rfl rfl rfl rfl rfl att (sF HS 2)<|?_;rintro v64 nH ⟨rfl,HS⟩;refine fD rfl<|bz (.bool true) (fun a ha=>jA (ha.ev rfl) (ha.ev rfl) ai)<|Lt rfl rfl<|La rfl<|Jn<|Ja Tryz.results6 (.tmp rfl)<|?_;exact ⟨rfl,HS.o0 7 6⟩
  ·skip
   refine Js<|JL.load (.agg #[.bool s1,.slice A1 n1 c1,.slice B1 m1 d1,.bool u1]) HS 3 rfl rfl rfl asQ asO rfl rfl<|JL.load (.agg #[.bool s2,.slice A2 n2 c2,.slice B2 m2 d2,.bool u2]) HS 2 rfl rfl rfl asQ asO rfl rfl<|JL.load (.agg #[.bool s3,.slice A3 n3 c3,.slice B3 m3 d3,.bool u3]) HS 1 rfl rfl rfl asQ asO rfl rfl<|JL.call rfl rfl auh (O9 HT HB HS (HS.at_ 2 rfl) (HS.at_ 1 rfl) (HS.at_ 0 rfl) af af af (fun h=>hc29 h.1))<|?_;rintro v65 w65 ⟨rfl,HS⟩;refine Lm rfl<|Lx rfl rfl<|Lx rfl rfl<|La rfl<|La rfl<|Jn<|JC.seq<|Js<|JL.load (.agg #[.bool s1,.slice A1 n1 c1,.slice B1 m1 d1,.bool u1]) HS 3 rfl rfl rfl asQ asO rfl rfl<|JL.load (.agg #[.bool s2,.slice A2 n2 c2,.slice B2 m2 d2,.bool u2]) HS 2 rfl rfl rfl asQ asO rfl rfl<|JL.load (.agg #[.bool s3,.slice A3 n3 c3,.slice B3 m3 d3,.bool u3]) HS 1 rfl rfl rfl asQ asO rfl rfl<|JL.buildSlice (vs:=[.bool s1,.slice A1 n1 c1,.slice B1 m1 d1,.bool u1,.bool s2,.slice A2 n2 c2,.slice B2 m2 d2,.bool u2,.bool s3,.slice A3 n3 c3,.slice B3 m3 d3,.bool u3]) HS rfl (fun a ha=>ha.dm rfl) asX asO asU rfl rfl ah rfl (fun g66 w66 HS => ?_);refine Ll rfl asX<|Lm rfl<|Jn<|JC.block<|JC.lU 40<|Js<|Lz (.bool true) (fun a ha=>dG (ha.ev rfl) (ha.ev rfl) ai)<|Jn<|JC.seq<|JC.bH rfl<|Jk<|JC.seq<|JC.block<|Js<|Lz (.pointer (some ⟨g66,0,none⟩)) (fun a ha=>eY (ha.ev rfl) (ha.ev rfl) asX asO (j:=0) rfl ai rfl)<|JL.load (.agg #[.bool s1,.slice A1 n1 c1,.slice B1 m1 d1,.bool u1]) HS 0 rfl rfl rfl asQ asO rfl rfl<|JL.alloc (vs:=[.bool false,.slice none 0 0,.slice none 0 0,.bool false]) HS rfl asU rfl rfl (fun g67 w67 HS => ?_);refine JL.store HS rfl rfl (i:=0) rfl asO rfl rfl rfl (vs':=[.bool s1,.slice A1 n1 c1,.slice B1 m1 d1,.bool u1]) rfl rfl (fun w68 HS => ?_);refine Jn<|Js<|JL.load (.agg #[.bool s1,.slice A1 n1 c1,.slice B1 m1 d1,.bool u1]) HS 0 rfl rfl rfl asQ asO rfl rfl<|JL.call rfl rfl as5 (sU HT HB HS (HS.at_ 2 rfl) af hc29)<|?_;rintro v69 w69 ⟨rfl,HS⟩;refine La rfl<|Jn<|Js<|Lm rfl<|Lz (.bool true) (fun a ha=>eH (ha.ev rfl) (ha.ev rfl) ai)<|Jn<|JC.bH rfl<|Js<|Lm rfl<|Lz (.bool true) (fun a ha=>jK (b:=false) (ha.ev rfl))<|Lm rfl<|fD rfl<|JL.dN rfl rfl rfl rfl rfl rfl att (sF HS 2)<|?_
   rintro v70 w70 ⟨rfl,HS⟩;refine fD rfl<|bz (.bool true) (fun a ha=>jA (ha.ev rfl) (ha.ev rfl) ai)<|Lt rfl rfl<|La rfl<|Jn<|Ja Tryz.results6 (.tmp rfl)<|?_;exact ⟨rfl,HS.o0 6 6⟩
theorem alE  {s1:Bool} {A1:Option Addr} {n1 c1:Nat} {B1:Option Addr} {m1 d1:Nat} {q1:Rat} {k1:Nat} {b1:Bool} {u1:Bool} {s2:Bool} {A2:Option Addr} {n2 c2:Nat} {B2:Option Addr} {m2 d2:Nat} {q2:Rat} {k2:Nat} {b2:Bool} {u2:Bool} {s3:Bool} {A3:Option Addr} {n3 c3:Nat} {B3:Option Addr} {m3 d3:Nat} {q3:Rat} {k3:Nat} {b3:Bool} {u3:Bool} (W:World) (ht:Tz W) (hb:Tab W) (_hx:Mx W) (f1:bV W ⟨.agg #[.bool s1,.slice A1 n1 c1,.slice B1 m1 d1],q1,k1,b1⟩) (f2:bV W ⟨.agg #[.bool s2,.slice A2 n2 c2,.slice B2 m2 d2],q2,k2,b2⟩) (f3:bV W ⟨.agg #[.bool s3,.slice A3 n3 c3,.slice B3 m3 d3],q3,k3,b3⟩)  :
  Calls Tryz.prog 6 #[.agg #[.bool s1,.slice A1 n1 c1,.slice B1 m1 d1,.bool u1],.agg #[.bool s2,.slice A2 n2 c2,.slice B2 m2 d2,.bool u2],.agg #[.bool s3,.slice A3 n3 c3,.slice B3 m3 d3,.bool u3]] W fun e w'=>e = .returned (.bool true)/\Below W.heap.size W w':=law_true (alF ht hb (St.init W) f1 f2 f3)
end
end Go.Proofs.BGQ
