/- Part of a proof, said shortly. -/
import Derived.Test.YtkcpphebkmnonaaGreatDoorAlz
import Derived.Test.YtkcpphebkmnonaaGreatDoorC16
import Derived.Test.YtkcpphebkmnonaaGreatDoorS1
import Derived.Test.YtkcpphebkmnonaaGreatDoorS6
import Derived.Test.YtkcpphebkmnonaaGreatDoorC15
import Derived.Test.YtkcpphebkmnonaaGreatDoorS8
import Derived.Test.YtkcpphebkmnonaaGreatDoorC11
import Derived.Test.YtkcpphebkmnonaaGreatDoorC12
import Derived.Test.YtkcpphebkmnonaaGreatDoorC10
import Derived.Test.YtkcpphebkmnonaaGreatDoorS3
import Derived.Test.YtkcpphebkmnonaaGreatDoorC9
import Derived.Test.YtkcpphebkmnonaaGreatDoorC8
import Derived.Test.YtkcpphebkmnonaaGreatDoorC5
import Derived.Test.YtkcpphebkmnonaaGreatDoorC2
import Derived.Test.YtkcpphebkmnonaaGreatDoorC1
import Derived.Test.YtkcpphebkmnonaaGreatDoorC4
import Derived.Test.YtkcpphebkmnonaaGreatDoorC3
import Derived.Test.YtkcpphebkmnonaaGreatDoorC7
import Derived.Test.YtkcpphebkmnonaaGreatDoorC6
import Derived.Test.YtkcpphebkmnonaaGreatDoorC14
import Derived.Test.YtkcpphebkmnonaaGreatDoorC13
import Derived.Test.YtkcpphebkmnonaaGreatDoorC17
namespace Lw
theorem H9{a b:Tn}(ha:tok a)(hb:tok b):tC (tA a b)=tC a*tC b-tS a*tS b/\tS (tA a b)=tS a*tC b+tC a*tS b:=by
 have h:=Rp.self ha;have g:=Rp.self hb
 revert h g
 generalize (if a.1 then (0:Rat) else 1)=x;generalize (if a.1 then (1:Rat) else a.2)=y;generalize (if b.1 then (0:Rat) else 1)=z;generalize (if b.1 then (1:Rat) else b.2)=t;intro h g;have h1:=h.cos;have h2:=h.sin;have g1:=g.cos;have g2:=g.sin;have k1:=(Rp.add h g).cos;have k2:=(Rp.add h g).sin;have n:(x*z-y*t)*(x*z-y*t)+(x*t+z*y)*(x*t+z*y)=(x*x+y*y)*(z*z+t*t):=by grind
 have n0:=fQ h.norm g.norm;rw [n] at k1 k2;constructor
 ·refine AX n0 ?_
  rw [k1];have e:(x*x+y*y)*(z*z+t*t)*(tC a*tC b-tS a*tS b)=((x*x+y*y)*tC a)*((z*z+t*t)*tC b)-((x*x+y*y)*tS a)*((z*z+t*t)*tS b):=by grind
  rw [e,h1,h2,g1,g2];grind
 ·refine AX n0 ?_
  rw [k2];have e:(x*x+y*y)*(z*z+t*t)*(tS a*tC b+tC a*tS b)=((x*x+y*y)*tS a)*((z*z+t*t)*tC b)+((x*x+y*y)*tC a)*((z*z+t*t)*tS b):=by grind
  rw [e,h1,h2,g1,g2];grind
end Lw
namespace Go.Proofs.BGQ
open Go Go.RowKit Lw bG
section
variable {W0 w:World} {U:List Box} {Ps:List (World->Prop)}
theorem adh{a b:Tn}(ha:tok a)(hb:tok b)(x y:Rat):tC (tA a b)*x-tS (tA a b)*y=tC b*(tC a*x-tS a*y)-tS b*(tS a*x+tC a*y):=by
 rw [(H9 ha hb).1,(H9 ha hb).2];grind
theorem adi{a b:Tn}(ha:tok a)(hb:tok b)(x y:Rat):tS (tA a b)*x+tC (tA a b)*y=tS b*(tC a*x-tS a*y)+tC b*(tS a*x+tC a*y):=by
 rw [(H9 ha hb).1,(H9 ha hb).2];grind
theorem adg{a:Tn}(ha:tok a)(x y:Rat):x*x+y*y=(tC a*x-tS a*y)*(tC a*x-tS a*y)+(tS a*x+tC a*y)*(tS a*x+tC a*y):=by
 have h:=LH ha;have e:(tC a*x-tS a*y)*(tC a*x-tS a*y)+(tS a*x+tC a*y)*(tS a*x+tC a*y)=(tC a*tC a+tS a*tS a)*(x*x+y*y):=by grind
 rw [e,h,Rat.one_mul]
set_option maxRecDepth 100000 in
set_option maxHeartbeats 400000 in
theorem alK(HT:Tz W0)(HB:Tab W0){g:Nat}{u1:Bool}{u2:Bool}{s1:Bool}{A1:Option Addr}{n1 c1:Nat}{B1:Option Addr}{m1 d1:Nat}{q1:Rat}{k1:Nat}{b1:Bool}{s2:Bool}{A2:Option Addr}{n2 c2:Nat}{B2:Option Addr}{m2 d2:Nat}{q2:Rat}{k2:Nat}{b2:Bool}(HS:St W0 (⟨g,26,[.bool s1,.slice A1 n1 c1,.slice B1 m1 d1,.bool u1,.bool s2,.slice A2 n2 c2,.slice B2 m2 d2,.bool u2]⟩::U) Ps w)(f1:FV (.agg #[.bool s1,.slice A1 n1 c1,.slice B1 m1 d1]) q1 k1 b1 w)(f2:FV (.agg #[.bool s2,.slice A2 n2 c2,.slice B2 m2 d2]) q2 k2 b2 w)(hk1:k1<=900)(hk2:k2<=900)(hg1:bT b1 u1 q1)(hg2:bT b2 u2 q2):bF Tryz.prog 43 [.slice (some ⟨g,0,none⟩) 2 2] w (dI W0 (⟨g,26,[.bool s1,.slice A1 n1 c1,.slice B1 m1 d1,.bool u1,.bool s2,.slice A2 n2 c2,.slice B2 m2 d2,.bool u2]⟩::U) Ps (.bool true)):=by
 have HS:=HS.add (FV.stable _ _ _ _) f1;have HS:=HS.add (FV.stable _ _ _ _) f2;clear f1 f2;refine df aui rfl auj rfl<|Js<|La rfl<|Jn<|JC.seq<|Js<|Lm rfl<|Ll rfl asX<|Lm rfl<|Jn<|JC.block<|JC.lU 40<|Js<|Lz (.bool true) (fun a ha=>dG (ha.ev rfl) (ha.ev rfl) ai)<|Jn<|JC.seq<|JC.bH rfl<|Jk<|JC.seq<|JC.block<|Js<|Lz (.pointer (some ⟨g,0,none⟩)) (fun a ha=>eY (ha.ev rfl) (ha.ev rfl) asX asO (j:=0) rfl ai rfl)<|JL.load (.agg #[.bool s1,.slice A1 n1 c1,.slice B1 m1 d1,.bool u1]) HS 0 rfl rfl rfl asQ asO rfl rfl<|JL.alloc (vs:=[.bool false,.slice none 0 0,.slice none 0 0,.bool false]) HS rfl asU rfl rfl (fun g21 di HS => ?_);refine JL.store HS rfl rfl (i:=0) rfl asO rfl rfl rfl (vs':=[.bool s1,.slice A1 n1 c1,.slice B1 m1 d1,.bool u1]) rfl rfl (fun dw HS => ?_);refine Jn<|Js<|JL.load (.agg #[.bool s1,.slice A1 n1 c1,.slice B1 m1 d1,.bool u1]) HS 0 rfl rfl rfl asQ asO rfl rfl<|JL.call rfl rfl as5 (kR HT HB HS (HS.at_ 1 rfl) af hg1)<|?_;rintro v23 dR ⟨rfl,HS⟩;refine Lz (.bool false) (fun a ha=>eH (ha.ev rfl) (ha.ev rfl) ai)<|Jn<|JC.bJ rfl<|JC.dX (fun _ _ h=>h)<|JC.region<|Lz (.int .i64 1) (fun a ha=>fF (ha.ev rfl) (ha.ev rfl) ai)<|Lm rfl<|JL.again 39 (fun _ _ h=>h)<|Js<|Lz (.bool true) (fun a ha=>dG (ha.ev rfl) (ha.ev rfl) ai)<|Jn<|JC.seq<|JC.bH rfl<|Jk<|JC.seq<|JC.block<|Js<|Lz (.pointer (some ⟨g,4,none⟩)) (fun a ha=>eY (ha.ev rfl) (ha.ev rfl) asX asO (j:=1) rfl ai rfl)<|JL.load (.agg #[.bool s2,.slice A2 n2 c2,.slice B2 m2 d2,.bool u2]) HS 1 rfl rfl rfl asQ asO rfl rfl<|JL.alloc (vs:=[.bool false,.slice none 0 0,.slice none 0 0,.bool false]) HS rfl asU rfl rfl (fun g24 dY HS => ?_);refine JL.store HS rfl rfl (i:=0) rfl asO rfl rfl rfl (vs':=[.bool s2,.slice A2 n2 c2,.slice B2 m2 d2,.bool u2]) rfl rfl (fun dV HS => ?_);refine Jn<|Js<|JL.load (.agg #[.bool s2,.slice A2 n2 c2,.slice B2 m2 d2,.bool u2]) HS 0 rfl rfl rfl asQ asO rfl rfl<|JL.call rfl rfl as5 (kR HT HB HS (HS.at_ 0 rfl) af hg2)<|?_;rintro v26 fA ⟨rfl,HS⟩;refine Lz (.bool false) (fun a ha=>eH (ha.ev rfl) (ha.ev rfl) ai)<|Jn<|JC.bJ rfl<|JC.dX (fun _ _ h=>h)<|JC.region<|Lz (.int .i64 2) (fun a ha=>fF (ha.ev rfl) (ha.ev rfl) ai)<|Lm rfl<|JL.again 38 (fun _ _ h=>h)<|Js<|Lz (.bool false) (fun a ha=>dG (ha.ev rfl) (ha.ev rfl) ai)<|Jn<|JC.seq<|JC.bJ rfl<|JC.exit (fun _ _ h=>h) (fun _ _ h=>h)<|Js<|La rfl<|Jn<|Ja Tryz.results43 (.tmp rfl)<|?_
 exact ⟨rfl,HS.o0 2 2⟩
set_option maxRecDepth 100000 in
set_option maxHeartbeats 400000 in
theorem alJ(HT:Tz W0)(HB:Tab W0){g:Nat}{u1:Bool}{u2:Bool}{s1:Bool}{A1:Option Addr}{n1 c1:Nat}{B1:Option Addr}{m1 d1:Nat}{q1:Rat}{k1:Nat}{b1:Bool}{s2:Bool}{A2:Option Addr}{n2 c2:Nat}{B2:Option Addr}{m2 d2:Nat}{q2:Rat}{k2:Nat}{b2:Bool}(HS:St W0 (⟨g,26,[.bool s1,.slice A1 n1 c1,.slice B1 m1 d1,.bool u1,.bool s2,.slice A2 n2 c2,.slice B2 m2 d2,.bool u2]⟩::U) Ps w)(f1:FV (.agg #[.bool s1,.slice A1 n1 c1,.slice B1 m1 d1]) q1 k1 b1 w)(f2:FV (.agg #[.bool s2,.slice A2 n2 c2,.slice B2 m2 d2]) q2 k2 b2 w)(hk1:k1<=900)(hk2:k2<=900)(hg:¬ (bT b1 u1 q1/\bT b2 u2 q2)):bF Tryz.prog 43 [.slice (some ⟨g,0,none⟩) 2 2] w (dI W0 (⟨g,26,[.bool s1,.slice A1 n1 c1,.slice B1 m1 d1,.bool u1,.bool s2,.slice A2 n2 c2,.slice B2 m2 d2,.bool u2]⟩::U) Ps (.bool false)):=by
 have HS:=HS.add (FV.stable _ _ _ _) f1;have HS:=HS.add (FV.stable _ _ _ _) f2;clear f1 f2;refine df aui rfl auj rfl<|Js<|La rfl<|Jn<|JC.seq<|Js<|Lm rfl<|Ll rfl asX<|Lm rfl<|Jn<|JC.block<|JC.lU 40<|Js<|Lz (.bool true) (fun a ha=>dG (ha.ev rfl) (ha.ev rfl) ai)<|Jn<|JC.seq<|JC.bH rfl<|Jk<|JC.seq<|JC.block<|Js<|Lz (.pointer (some ⟨g,0,none⟩)) (fun a ha=>eY (ha.ev rfl) (ha.ev rfl) asX asO (j:=0) rfl ai rfl)<|JL.load (.agg #[.bool s1,.slice A1 n1 c1,.slice B1 m1 d1,.bool u1]) HS 0 rfl rfl rfl asQ asO rfl rfl<|JL.alloc (vs:=[.bool false,.slice none 0 0,.slice none 0 0,.bool false]) HS rfl asU rfl rfl (fun g21 di HS => ?_);refine JL.store HS rfl rfl (i:=0) rfl asO rfl rfl rfl (vs':=[.bool s1,.slice A1 n1 c1,.slice B1 m1 d1,.bool u1]) rfl rfl (fun dw HS => ?_);refine Jn<|Js<|JL.load (.agg #[.bool s1,.slice A1 n1 c1,.slice B1 m1 d1,.bool u1]) HS 0 rfl rfl rfl asQ asO rfl rfl<|?_
 by_cases iV:bT b1 u1 q1
 ·skip
  refine JL.call rfl rfl as5 (kR HT HB HS (HS.at_ 1 rfl) af iV)<|?_;rintro v24 dY ⟨rfl,HS⟩;refine Lz (.bool false) (fun a ha=>eH (ha.ev rfl) (ha.ev rfl) ai)<|Jn<|JC.bJ rfl<|JC.dX (fun _ _ h=>h)<|JC.region<|Lz (.int .i64 1) (fun a ha=>fF (ha.ev rfl) (ha.ev rfl) ai)<|Lm rfl<|JL.again 39 (fun _ _ h=>h)<|Js<|Lz (.bool true) (fun a ha=>dG (ha.ev rfl) (ha.ev rfl) ai)<|Jn<|JC.seq<|JC.bH rfl<|Jk<|JC.seq<|JC.block<|Js<|Lz (.pointer (some ⟨g,4,none⟩)) (fun a ha=>eY (ha.ev rfl) (ha.ev rfl) asX asO (j:=1) rfl ai rfl)<|JL.load (.agg #[.bool s2,.slice A2 n2 c2,.slice B2 m2 d2,.bool u2]) HS 1 rfl rfl rfl asQ asO rfl rfl<|JL.alloc (vs:=[.bool false,.slice none 0 0,.slice none 0 0,.bool false]) HS rfl asU rfl rfl (fun kM dV HS => ?_);refine JL.store HS rfl rfl (i:=0) rfl asO rfl rfl rfl (vs':=[.bool s2,.slice A2 n2 c2,.slice B2 m2 d2,.bool u2]) rfl rfl (fun fA HS => ?_);refine Jn<|Js<|JL.load (.agg #[.bool s2,.slice A2 n2 c2,.slice B2 m2 d2,.bool u2]) HS 0 rfl rfl rfl asQ asO rfl rfl<|?_
  by_cases hc27:bT b2 u2 q2
  ·skip
   refine JL.call rfl rfl as5 (kR HT HB HS (HS.at_ 0 rfl) af hc27)<|?_;rintro v28 kE ⟨rfl,HS⟩;refine Lz (.bool false) (fun a ha=>eH (ha.ev rfl) (ha.ev rfl) ai)<|Jn<|JC.bJ rfl<|JC.dX (fun _ _ h=>h)<|JC.region<|Lz (.int .i64 2) (fun a ha=>fF (ha.ev rfl) (ha.ev rfl) ai)<|Lm rfl<|JL.again 38 (fun _ _ h=>h)<|Js<|Lz (.bool false) (fun a ha=>dG (ha.ev rfl) (ha.ev rfl) ai)<|Jn<|JC.seq<|JC.bJ rfl<|JC.exit (fun _ _ h=>h) (fun _ _ h=>h)<|Js<|La rfl<|Jn<|Ja Tryz.results43 (.tmp rfl)<|?_;exact ⟨(absurd ⟨iV,hc27⟩ hg),HS.o0 2 2⟩
  ·skip
   refine JL.call rfl rfl as5 (sU HT HB HS (HS.at_ 0 rfl) af hc27)<|?_;rintro v29 jk ⟨rfl,HS⟩;refine Lz (.bool true) (fun a ha=>eH (ha.ev rfl) (ha.ev rfl) ai)<|Jn<|JC.bH rfl<|Js<|La rfl<|Jn<|Ja Tryz.results43 (.tmp rfl)<|?_;exact ⟨rfl,HS.o0 2 2⟩
 ·skip
  refine JL.call rfl rfl as5 (sU HT HB HS (HS.at_ 1 rfl) af iV)<|?_;rintro v30 lI ⟨rfl,HS⟩;refine Lz (.bool true) (fun a ha=>eH (ha.ev rfl) (ha.ev rfl) ai)<|Jn<|JC.bH rfl<|Js<|La rfl<|Jn<|Ja Tryz.results43 (.tmp rfl)<|?_;exact ⟨rfl,HS.o0 1 2⟩
end
section
variable {W0 w:World} {U:List Box} {Ps:List (World->Prop)}
set_option maxRecDepth 100000 in
set_option maxHeartbeats 4000000 in
theorem alD(HT:Tz W0)(HB:Tab W0){s1:Bool}{A1:Option Addr}{n1 c1:Nat}{B1:Option Addr}{m1 d1:Nat}{q1:Rat}{k1:Nat}{b1:Bool}{u1:Bool}{s2:Bool}{A2:Option Addr}{n2 c2:Nat}{B2:Option Addr}{m2 d2:Nat}{q2:Rat}{k2:Nat}{b2:Bool}{u2:Bool}{iK:Bool}{iw:Option Addr}{gB iE:Nat}{iC:Option Addr}{gu iT:Nat}{je:Rat}{uH:Nat}{tX:Bool}{iL:Bool}{iy:Option Addr}{gG iF:Nat}{iD:Option Addr}{gy iU:Nat}{jf:Rat}{uI:Nat}{tY:Bool}(HS:St W0 U Ps w)(f1:FV (.agg #[.bool s1,.slice A1 n1 c1,.slice B1 m1 d1]) q1 k1 b1 w)(f2:FV (.agg #[.bool s2,.slice A2 n2 c2,.slice B2 m2 d2]) q2 k2 b2 w)(nS:FV (.agg #[.bool iK,.slice iw gB iE,.slice iC gu iT]) je uH tX w)(nT:FV (.agg #[.bool iL,.slice iy gG iF,.slice iD gy iU]) jf uI tY w)  : bF Tryz.prog 8 [.agg #[.bool s1,.slice A1 n1 c1,.slice B1 m1 d1,.bool u1],.agg #[.bool s2,.slice A2 n2 c2,.slice B2 m2 d2,.bool u2],.agg #[.bool iK,.slice iw gB iE,.slice iC gu iT,.bool iL,.slice iy gG iF,.slice iD gy iU]] w (dI W0 U Ps (.bool true)):=by
 have HS:=HS.add (FV.stable _ _ _ _) f1;have HS:=HS.add (FV.stable _ _ _ _) f2;have HS:=HS.add (FV.stable _ _ _ _) nS;have HS:=HS.add (FV.stable _ _ _ _) nT;clear f1 f2 nS nT;refine df aum rfl Tryz.ntmps8 rfl<|Js<|JL.box (vs:=[.bool s1,.slice A1 n1 c1,.slice B1 m1 d1,.bool u1]) HS rfl rfl rfl rfl (fun g21 di HS => ?_);refine JL.box (vs:=[.bool s2,.slice A2 n2 c2,.slice B2 m2 d2,.bool u2]) HS rfl rfl rfl rfl (fun g22 dw HS => ?_);refine JL.box (vs:=[.bool iK,.slice iw gB iE,.slice iC gu iT,.bool iL,.slice iy gG iF,.slice iD gy iU]) HS rfl rfl rfl rfl (fun g23 dR HS => ?_);refine La rfl<|Jn<|JC.seq<|Js<|JL.call rfl rfl atr (tq HT HB HS  )<|?_;rintro v24 dY ⟨rfl,HS⟩;refine Lz (.bool false) (fun a ha=>jK (b:=true) (ha.ev rfl))<|Lm rfl<|bz (.pointer (some ⟨g21,0,none⟩)) (fun a ha=>dF (ha.ev rfl) asV rfl asR rfl rfl)<|bz (.agg #[.bool s1,.slice A1 n1 c1,.slice B1 m1 d1]) (fun a ha=>eG (ha.ev rfl) asT asR (HS.box _ ay) rfl rfl)<|bz (.pointer (some ⟨g22,0,none⟩)) (fun a ha=>dF (ha.ev rfl) asV rfl asR rfl rfl)<|bz (.agg #[.bool s2,.slice A2 n2 c2,.slice B2 m2 d2]) (fun a ha=>eG (ha.ev rfl) asT asR (HS.box _ au) rfl rfl)<|bz (.pointer (some ⟨g23,0,none⟩)) (fun a ha=>dF (ha.ev rfl) as2 rfl asR rfl rfl)<|bz (.agg #[.bool iK,.slice iw gB iE,.slice iC gu iT]) (fun a ha=>eG (ha.ev rfl) asT asR (HS.box _ ak) rfl rfl)<|bz (.pointer (some ⟨g23,3,none⟩)) (fun a ha=>dF (ha.ev rfl) as2 rfl asR rfl rfl)<|bz (.agg #[.bool iL,.slice iy gG iF,.slice iD gy iU]) (fun a ha=>eG (ha.ev rfl) asT asR (HS.box _ ak) rfl rfl)<|JL.zX (vs:=[.bool s1,.slice A1 n1 c1,.slice B1 m1 d1,.bool s2,.slice A2 n2 c2,.slice B2 m2 d2,.bool iK,.slice iw gB iE,.slice iC gu iT,.bool iL,.slice iy gG iF,.slice iD gy iU]) HS rfl rfl rfl rfl rfl (fun a ha=>ha.dm rfl) atl asR as1 rfl rfl ah rfl (fun kM dV HS => ?_);refine JL.dN rfl rfl rfl rfl rfl rfl aug (ZY HT HB HS)<|?_;rintro v26 fA ⟨rfl,HS⟩;refine bz (.bool (!(decide (n1<=6/\m1<=6/\n2<=6/\m2<=6/\gB<=6/\gu<=6/\gG<=6/\gy<=6)))) (fun a ha=>jK (ha.ev rfl))<|Lf rfl rfl<|?_
 cases nX:((decide (n1<=6/\m1<=6/\n2<=6/\m2<=6/\gB<=6/\gu<=6/\gG<=6/\gy<=6)))
 ·skip
  refine Lm rfl<|Lq<|Lq<|Lq<|Lq<|Lq<|Lt rfl rfl<|Jn<|JC.bH rfl<|Js<|JL.call rfl rfl atr (tq HT HB HS  )<|?_;rintro v28 kE ⟨rfl,HS⟩;refine La rfl<|Jn<|Ja Tryz.results8 (.tmp rfl)<|?_;exact ⟨rfl,HS.o0 4 4⟩
 ·skip
  have hfew:=of_decide_eq_true nX;have HS:=HS.lC 3 rfl (fun _ h=>(bV.cut (K:=6) h af af:FV _ _ 6 _ _));have HS:=HS.lC 3 rfl (fun _ h=>(bV.cut (K:=6) h af af:FV _ _ 6 _ _));have HS:=HS.lC 3 rfl (fun _ h=>(bV.cut (K:=6) h af af:FV _ _ 6 _ _));have HS:=HS.lC 3 rfl (fun _ h=>(bV.cut (K:=6) h af af:FV _ _ 6 _ _));refine Lm rfl<|bz (.agg #[.bool s1,.slice A1 n1 c1,.slice B1 m1 d1,.bool u1]) (fun a ha=>eG (ha.ev rfl) asQ asO (HS.box _ az) rfl rfl)<|bz (.agg #[.bool s2,.slice A2 n2 c2,.slice B2 m2 d2,.bool u2]) (fun a ha=>eG (ha.ev rfl) asQ asO (HS.box _ ay) rfl rfl)<|JL.zX (vs:=[.bool s1,.slice A1 n1 c1,.slice B1 m1 d1,.bool u1,.bool s2,.slice A2 n2 c2,.slice B2 m2 d2,.bool u2]) HS rfl rfl rfl rfl rfl (fun a ha=>ha.dm rfl) asX asO asU rfl rfl ah rfl (fun wL jk HS => ?_)
  by_cases lN:bT b1 u1 q1/\bT b2 u2 q2
  ·skip
   obtain ⟨⟨rfl,t1⟩,⟨rfl,t2⟩⟩:=lN;refine JL.dN rfl rfl rfl rfl rfl rfl aul (alK HT HB HS (HS.at_ 3 rfl) (HS.at_ 2 rfl) af af ⟨rfl,t1⟩ ⟨rfl,t2⟩)<|?_;rintro v31 oL ⟨rfl,HS⟩;refine bz (.bool false) (fun a ha=>jK (b:=true) (ha.ev rfl))<|Lf rfl rfl<|Jn<|JC.bJ rfl<|Jk<|Js<|JL.load (.agg #[.bool s1,.slice A1 n1 c1,.slice B1 m1 d1,.bool u1]) HS 4 rfl rfl rfl asQ asO rfl rfl<|JL.load (.agg #[.bool s2,.slice A2 n2 c2,.slice B2 m2 d2,.bool u2]) HS 3 rfl rfl rfl asQ asO rfl rfl<|JL.call rfl rfl atq (vw HT HB HS (HS.at_ 3 rfl) (HS.at_ 2 rfl) af af ⟨rfl,t1⟩ ⟨rfl,t2⟩)<|?_;rintro v32 w32 ⟨xC,vG,n32,c32,vU,m32,d32,rfl,HS⟩;refine Lm rfl<|Lx rfl rfl<|Lx rfl rfl<|JL.alloc (vs:=[.bool false,.slice none 0 0,.slice none 0 0,.bool false]) HS rfl asU rfl rfl (fun uk o8 HS => ?_);refine JL.store HS rfl rfl (i:=0) rfl asO rfl rfl rfl (vs':=[.bool xC,.slice vG n32 c32,.slice vU m32 d32,.bool (cO u1 q1 u2 q2)]) rfl rfl (fun vz HS => ?_);refine La rfl<|Jn<|Js<|JL.load (.agg #[.bool xC,.slice vG n32 c32,.slice vU m32 d32,.bool (cO u1 q1 u2 q2)]) HS 0 rfl rfl rfl asQ asO rfl rfl<|JL.load (.agg #[.bool iK,.slice iw gB iE,.slice iC gu iT,.bool iL,.slice iy gG iF,.slice iD gy iU]) HS 3 rfl rfl rfl atm as6 rfl rfl<|JL.call rfl rfl atN (F8 HT HB HS (HS.at_ 0 rfl) (HS.at_ 2 rfl) (HS.at_ 1 rfl) af af af ⟨rfl,(F7 (a:=(u1,q1)) (b:=(u2,q2)) t1 t2)⟩)<|?_;rintro v35 zK ⟨s35a,Qr,n35a,Tc,QW,WC,Ud,s35b,Qs,n35b,Td,QX,WE,Ue,rfl,HS⟩;refine Lm rfl<|Lx rfl rfl<|Lx rfl rfl<|JL.alloc (vs:=[.bool false,.slice none 0 0,.slice none 0 0,.bool false,.slice none 0 0,.slice none 0 0]) HS rfl atg rfl rfl (fun Ak J6 HS => ?_);refine JL.store HS rfl rfl (i:=0) rfl as6 rfl rfl rfl (vs':=[.bool s35a,.slice Qr n35a Tc,.slice QW WC Ud,.bool s35b,.slice Qs n35b Td,.slice QX WE Ue]) rfl rfl (fun PL HS => ?_);refine La rfl<|Jn<|Js<|JL.load (.agg #[.bool s1,.slice A1 n1 c1,.slice B1 m1 d1,.bool u1]) HS 6 rfl rfl rfl asQ asO rfl rfl<|JL.load (.agg #[.bool iK,.slice iw gB iE,.slice iC gu iT,.bool iL,.slice iy gG iF,.slice iD gy iU]) HS 4 rfl rfl rfl atm as6 rfl rfl<|JL.call rfl rfl atN (F8 HT HB HS (HS.at_ 6 rfl) (HS.at_ 4 rfl) (HS.at_ 3 rfl) af af af ⟨rfl,t1⟩)<|?_
   rintro v38 PM ⟨zF,xY,yX,yw,x8,yQ,yA,zG,xZ,yY,yx,x9,yR,yB,rfl,HS⟩;refine Lm rfl<|Lx rfl rfl<|Lx rfl rfl<|JL.alloc (vs:=[.bool false,.slice none 0 0,.slice none 0 0,.bool false,.slice none 0 0,.slice none 0 0]) HS rfl atg rfl rfl (fun Am PN HS => ?_);refine JL.store HS rfl rfl (i:=0) rfl as6 rfl rfl rfl (vs':=[.bool zF,.slice xY yX yw,.slice x8 yQ yA,.bool zG,.slice xZ yY yx,.slice x9 yR yB]) rfl rfl (fun PO HS => ?_);refine La rfl<|Jn<|Js<|JL.load (.agg #[.bool s2,.slice A2 n2 c2,.slice B2 m2 d2,.bool u2]) HS 6 rfl rfl rfl asQ asO rfl rfl<|JL.load (.agg #[.bool zF,.slice xY yX yw,.slice x8 yQ yA,.bool zG,.slice xZ yY yx,.slice x9 yR yB]) HS 0 rfl rfl rfl atm as6 rfl rfl<|JL.call rfl rfl atN (F8 HT HB HS (HS.at_ 7 rfl) (HS.at_ 0 rfl) (HS.at_ 1 rfl) af af af ⟨rfl,t2⟩)<|?_;rintro v41 PR ⟨Zd,Qw,Xf,Tj,Q5,WG,Uf,Ze,Qx,Xg,Tm,Q7,WH,Ug,rfl,HS⟩;refine Lm rfl<|Lx rfl rfl<|Lx rfl rfl<|JL.alloc (vs:=[.bool false,.slice none 0 0,.slice none 0 0,.bool false,.slice none 0 0,.slice none 0 0]) HS rfl atg rfl rfl (fun Ii PS HS => ?_);refine JL.store HS rfl rfl (i:=0) rfl as6 rfl rfl rfl (vs':=[.bool Zd,.slice Qw Xf Tj,.slice Q5 WG Uf,.bool Ze,.slice Qx Xg Tm,.slice Q7 WH Ug]) rfl rfl (fun PT HS => ?_);refine La rfl<|Jn<|JC.seq<|Js<|Lm rfl<|Lz (.bool false) (fun a ha=>fG (ha.ev rfl) rfl asY)<|Lm rfl<|fD rfl<|bz (.bool false) (fun a ha=>fG (ha.ev rfl) rfl asY)<|Lf rfl rfl<|Lm rfl<|fD rfl<|bz (.bool false) (fun a ha=>fG (ha.ev rfl) rfl asY)<|Lf rfl rfl<|Lm rfl<|fD rfl<|bz (.bool false) (fun a ha=>fG (ha.ev rfl) rfl asY)<|Lf rfl rfl<|Jn<|JC.bJ rfl<|Jk<|JC.wE HS.tg (ι:=Bool×Option Addr×Nat×Nat×Option Addr×Nat×Nat×Bool×Option Addr×Nat×Nat×Option Addr×Nat×Nat×Bool×Option Addr×Nat×Nat×Option Addr×Nat×Nat×Nat) (fun ⟨FO,Cc,ES,Dp,CO,EI,DF,FP,Ce,ET,Dq,CP,EJ,DI,xH,vJ,xm,wz,vV,wY,wG,yG⟩=>[(9,.pointer (some ⟨Ak,0,none⟩)),(11,.pointer (some ⟨Am,0,none⟩)),(13,.pointer (some ⟨Ii,0,none⟩)),(15,.pointer (some ⟨yG,0,none⟩))]) (fun ⟨FO,Cc,ES,Dp,CO,EI,DF,FP,Ce,ET,Dq,CP,EJ,DI,xH,vJ,xm,wz,vV,wY,wG,yG⟩ w Ua Pa=>St W0 (⟨yG,24,[.bool xH,.slice vJ xm wz,.slice vV wY wG]⟩::Ua) (FV (.agg #[.bool xH,.slice vJ xm wz,.slice vV wY wG]) ((je*je)+(jf*jf)) ((6+6+2)+(6+6+2)+2) true::FV (.agg #[.bool FP,.slice Ce ET Dq,.slice CP EJ DI]) (jf*jf) (6+6+2) true::FV (.agg #[.bool FO,.slice Cc ES Dp,.slice CO EI DF]) (je*je) (6+6+2) true::Pa) w) ?_ ?_
   ·skip
    refine JC.draw HS [] ah (fun PU HS => ?_);refine dZ 0 0 rfl HS.fb rfl as2 rfl asR<|Da (.agg #[.bool iK,.slice iw gB iE,.slice iC gu iT]) 1 6 rfl HS.fb rfl rfl asT asR<|dZ 0 2 rfl HS.fb rfl as2 rfl asR<|Da (.agg #[.bool iK,.slice iw gB iE,.slice iC gu iT]) 3 6 rfl HS.fb rfl rfl asT asR<|dZ 3 5 rfl HS.fb rfl as2 rfl asR<|Da (.agg #[.bool iL,.slice iy gG iF,.slice iD gy iU]) 6 6 rfl HS.fb rfl rfl asT asR<|dZ 3 7 rfl HS.fb rfl as2 rfl asR<|Da (.agg #[.bool iL,.slice iy gG iF,.slice iD gy iU]) 8 6 rfl HS.fb rfl rfl asT asR<|JR.any [4,11] ah rfl<|?_
    repeat' first
     | refine JR.any [9,11] (by decide +kernel) rfl ?_
     | refine JR.any [10,11] (by decide +kernel) rfl ?_
     | refine J1 11 (by decide +kernel) ?_
     | refine J1 12 (by decide +kernel) ?_
     | refine J1 10 (by decide +kernel) ?_
     | refine J1 9 (by decide +kernel) ?_
     | refine J1 4 (by decide +kernel) ?_
     |
      refine bC.is 4<|bC.call rfl rfl rfl atL (Af HT HB HS (HS.at_ 8 rfl) (HS.at_ 8 rfl) af) rfl (fun aqI arS ab5 => ?_) ?_;obtain ⟨FO,Cc,ES,Dp,CO,EI,DF,rfl,HS⟩:=ab5;refine ⟨HS.fb,?_⟩
     |
      refine bC.is 9<|bC.call rfl rfl rfl atL (Af HT HB HS (HS.at_ 8 rfl) (HS.at_ 8 rfl) af) rfl (fun aqJ arU ab6 => ?_) ?_;obtain ⟨FP,Ce,ET,Dq,CP,EJ,DI,rfl,HS⟩:=ab6;refine ⟨HS.fb,?_⟩
     |
      refine bC.is 10<|bC.call rfl rfl rfl Tryz.call44 (LW HT HB HS (HS.at_ 1 rfl) (HS.at_ 0 rfl) af) rfl (fun aqK arV ab7 => ?_) ?_;obtain ⟨xH,vJ,xm,wz,vV,wY,wG,rfl,HS⟩:=ab7;refine ⟨HS.fb,?_⟩
     |
      refine bC.is 11<|bC.alloc (vs:=[.bool false,.slice none 0 0,.slice none 0 0]) HS rfl rfl as1 rfl rfl rfl (fun yG arW HS => ?_) ?_;refine ⟨HS.fb,?_⟩
     |
      refine bC.is 12<|bC.store HS rfl rfl rfl 0 rfl asR rfl rfl rfl (vs':=[.bool xH,.slice vJ xm wz,.slice vV wY wG]) rfl rfl rfl (fun arX HS => ?_) ?_;have HS:St W0 (_::_) _ _:=HS;refine ⟨HS.fb,?_⟩;exact JR.mt (FO,Cc,ES,Dp,CO,EI,DF,FP,Ce,ET,Dq,CP,EJ,DI,xH,vJ,xm,wz,vV,wY,wG,yG) HS
     | exact bC.nil
   ·skip
    rintro ⟨FO,Cc,ES,Dp,CO,EI,DF,FP,Ce,ET,Dq,CP,EJ,DI,xH,vJ,xm,wz,vV,wY,wG,yG⟩ asH HS
    try dsimp only at HS ⊢
    refine JC.wE HS.tg (ι:=Bool×Option Addr×Nat×Nat×Option Addr×Nat×Nat×Bool×Option Addr×Nat×Nat×Option Addr×Nat×Nat×Bool×Option Addr×Nat×Nat×Option Addr×Nat×Nat×Nat) (fun ⟨FQ,Cf,EU,Dt,CQ,EK,DJ,FT,Ci,EW,Du,CS,EM,DK,xI,vK,xn,wB,vW,wZ,wH,Ap⟩=>[(9,.pointer (some ⟨Ak,0,none⟩)),(13,.pointer (some ⟨Ii,0,none⟩)),(15,.pointer (some ⟨yG,0,none⟩)),(16,.pointer (some ⟨Ap,0,none⟩))]) (fun ⟨FQ,Cf,EU,Dt,CQ,EK,DJ,FT,Ci,EW,Du,CS,EM,DK,xI,vK,xn,wB,vW,wZ,wH,Ap⟩ w Ua Pa=>St W0 (⟨Ap,24,[.bool xI,.slice vK xn wB,.slice vW wZ wH]⟩::Ua) (FV (.agg #[.bool xI,.slice vK xn wB,.slice vW wZ wH]) (((fC u1 q1*je-fZ u1 q1*jf)*(fC u1 q1*je-fZ u1 q1*jf))+((fZ u1 q1*je+fC u1 q1*jf)*(fZ u1 q1*je+fC u1 q1*jf))) (((4*6+4*6+4*6+30)+(4*6+4*6+4*6+30)+2)+((4*6+4*6+4*6+30)+(4*6+4*6+4*6+30)+2)+2) true::FV (.agg #[.bool FT,.slice Ci EW Du,.slice CS EM DK]) ((fZ u1 q1*je+fC u1 q1*jf)*(fZ u1 q1*je+fC u1 q1*jf)) ((4*6+4*6+4*6+30)+(4*6+4*6+4*6+30)+2) true::FV (.agg #[.bool FQ,.slice Cf EU Dt,.slice CQ EK DJ]) ((fC u1 q1*je-fZ u1 q1*jf)*(fC u1 q1*je-fZ u1 q1*jf)) ((4*6+4*6+4*6+30)+(4*6+4*6+4*6+30)+2) true::Pa) w) ?_ ?_
    ·skip
     refine JC.draw HS [] ah (fun PV HS => ?_);refine dZ 0 0 rfl HS.fb rfl as2 rfl asR<|Da (.agg #[.bool zF,.slice xY yX yw,.slice x8 yQ yA]) 1 2 rfl HS.fb rfl rfl asT asR<|dZ 0 2 rfl HS.fb rfl as2 rfl asR<|Da (.agg #[.bool zF,.slice xY yX yw,.slice x8 yQ yA]) 3 2 rfl HS.fb rfl rfl asT asR<|dZ 3 5 rfl HS.fb rfl as2 rfl asR<|Da (.agg #[.bool zG,.slice xZ yY yx,.slice x9 yR yB]) 6 2 rfl HS.fb rfl rfl asT asR<|dZ 3 7 rfl HS.fb rfl as2 rfl asR<|Da (.agg #[.bool zG,.slice xZ yY yx,.slice x9 yR yB]) 8 2 rfl HS.fb rfl rfl asT asR<|JR.any [4,11] ah rfl<|?_
     repeat' first
      | refine JR.any [9,11] (by decide +kernel) rfl ?_
      | refine JR.any [10,11] (by decide +kernel) rfl ?_
      | refine J1 11 (by decide +kernel) ?_
      | refine J1 12 (by decide +kernel) ?_
      | refine J1 10 (by decide +kernel) ?_
      | refine J1 9 (by decide +kernel) ?_
      | refine J1 4 (by decide +kernel) ?_
      |
       refine bC.is 4<|bC.call rfl rfl rfl atL (Af HT HB HS (HS.at_ 5 rfl) (HS.at_ 5 rfl) af) rfl (fun aqL arY ab8 => ?_) ?_;obtain ⟨FQ,Cf,EU,Dt,CQ,EK,DJ,rfl,HS⟩:=ab8;refine ⟨HS.fb,?_⟩
      |
       refine bC.is 9<|bC.call rfl rfl rfl atL (Af HT HB HS (HS.at_ 7 rfl) (HS.at_ 7 rfl) af) rfl (fun aqM arZ ab9 => ?_) ?_;obtain ⟨FT,Ci,EW,Du,CS,EM,DK,rfl,HS⟩:=ab9;refine ⟨HS.fb,?_⟩
      |
       refine bC.is 10<|bC.call rfl rfl rfl Tryz.call44 (LW HT HB HS (HS.at_ 1 rfl) (HS.at_ 0 rfl) af) rfl (fun aqN ar0 acd => ?_) ?_;obtain ⟨xI,vK,xn,wB,vW,wZ,wH,rfl,HS⟩:=acd;refine ⟨HS.fb,?_⟩
      |
       refine bC.is 11<|bC.alloc (vs:=[.bool false,.slice none 0 0,.slice none 0 0]) HS rfl rfl as1 rfl rfl rfl (fun Ap ar1 HS => ?_) ?_;refine ⟨HS.fb,?_⟩
      |
       refine bC.is 12<|bC.store HS rfl rfl rfl 0 rfl asR rfl rfl rfl (vs':=[.bool xI,.slice vK xn wB,.slice vW wZ wH]) rfl rfl rfl (fun ar2 HS => ?_) ?_;have HS:St W0 (_::_) _ _:=HS;refine ⟨HS.fb,?_⟩;exact JR.mt (FQ,Cf,EU,Dt,CQ,EK,DJ,FT,Ci,EW,Du,CS,EM,DK,xI,vK,xn,wB,vW,wZ,wH,Ap) HS
      | exact bC.nil
    ·skip
     rintro ⟨FQ,Cf,EU,Dt,CQ,EK,DJ,FT,Ci,EW,Du,CS,EM,DK,xI,vK,xn,wB,vW,wZ,wH,Ap⟩ asI HS
     try dsimp only at HS ⊢
     refine Js<|dH 0 rfl as2 rfl asR<|JL.load (.agg #[.bool s35a,.slice Qr n35a Tc,.slice QW WC Ud]) HS 4 rfl rfl rfl asT asR rfl rfl<|dH 0 rfl as2 rfl asR<|JL.load (.agg #[.bool Zd,.slice Qw Xf Tj,.slice Q5 WG Uf]) HS 2 rfl rfl rfl asT asR rfl rfl<|JL.call rfl rfl atX (DX HT HB HS (HS.at_ 10 rfl) (HS.at_ 6 rfl) af)<|?_;rintro v48 PW ⟨rfl,HS⟩;refine Lz (.bool true) (fun a ha=>jA (ha.ev rfl) (ha.ev rfl) ((yz _ _).trans (decide_eq_true (adh (a:=(u1,q1)) (b:=(u2,q2)) t1 t2 je jf))))<|Lm rfl<|bz (.pointer (some ⟨Ak,3,none⟩)) (fun a ha=>dF (ha.ev rfl) as2 rfl asR rfl rfl)<|bz (.agg #[.bool s35b,.slice Qs n35b Td,.slice QX WE Ue]) (fun a ha=>eG (ha.ev rfl) asT asR (HS.box _ aA) rfl rfl)<|bz (.pointer (some ⟨Ii,3,none⟩)) (fun a ha=>dF (ha.ev rfl) as2 rfl asR rfl rfl)<|bz (.agg #[.bool Ze,.slice Qx Xg Tm,.slice Q7 WH Ug]) (fun a ha=>eG (ha.ev rfl) asT asR (HS.box _ ay) rfl rfl)<|JL.dN rfl rfl rfl rfl rfl rfl atX (DX HT HB HS (HS.at_ 11 rfl) (HS.at_ 7 rfl) af)<|?_;rintro v49 w49 ⟨rfl,HS⟩;refine bz (.bool true) (fun a ha=>jA (ha.ev rfl) (ha.ev rfl) ((yz _ _).trans (decide_eq_true (adi (a:=(u1,q1)) (b:=(u2,q2)) t1 t2 je jf))))<|Lt rfl rfl<|Lm rfl<|bz (.agg #[.bool xH,.slice vJ xm wz,.slice vV wY wG]) (fun a ha=>eG (ha.ev rfl) asT asR (HS.box _ au) rfl rfl)<|bz (.agg #[.bool xI,.slice vK xn wB,.slice vW wZ wH]) (fun a ha=>eG (ha.ev rfl) asT asR (HS.box _ ak) rfl rfl)<|JL.dN rfl rfl rfl rfl rfl rfl atX (DX HT HB HS (HS.at_ 3 rfl) (HS.at_ 0 rfl) af)<|?_;rintro v50 PX ⟨rfl,HS⟩;refine bz (.bool true) (fun a ha=>jA (ha.ev rfl) (ha.ev rfl) ((yz _ _).trans (decide_eq_true (adg (a:=(u1,q1)) t1 je jf))))<|Lt rfl rfl<|La rfl<|Jn<|Ja Tryz.results8 (.tmp rfl)<|?_;exact ⟨rfl,HS.o0 11 21⟩
  ·skip
   refine JL.dN rfl rfl rfl rfl rfl rfl aul (alJ HT HB HS (HS.at_ 3 rfl) (HS.at_ 2 rfl) af af lN)<|?_;rintro v51 PY ⟨rfl,HS⟩;refine bz (.bool true) (fun a ha=>jK (b:=false) (ha.ev rfl))<|Lf rfl rfl<|Jn<|JC.bH rfl<|Js<|JL.call rfl rfl atr (tq HT HB HS  )<|?_;rintro v52 PZ ⟨rfl,HS⟩;refine La rfl<|Jn<|Ja Tryz.results8 (.tmp rfl)<|?_;exact ⟨rfl,HS.o0 5 8⟩
theorem alC  {s1:Bool} {A1:Option Addr} {n1 c1:Nat} {B1:Option Addr} {m1 d1:Nat} {q1:Rat} {k1:Nat} {b1:Bool} {u1:Bool} {s2:Bool} {A2:Option Addr} {n2 c2:Nat} {B2:Option Addr} {m2 d2:Nat} {q2:Rat} {k2:Nat} {b2:Bool} {u2:Bool} {iK:Bool} {iw:Option Addr} {gB iE:Nat} {iC:Option Addr} {gu iT:Nat} {je:Rat} {uH:Nat} {tX:Bool} {iL:Bool} {iy:Option Addr} {gG iF:Nat} {iD:Option Addr} {gy iU:Nat} {jf:Rat} {uI:Nat} {tY:Bool} (W:World) (ht:Tz W) (hb:Tab W) (_hx:Mx W) (f1:bV W ⟨.agg #[.bool s1,.slice A1 n1 c1,.slice B1 m1 d1],q1,k1,b1⟩) (f2:bV W ⟨.agg #[.bool s2,.slice A2 n2 c2,.slice B2 m2 d2],q2,k2,b2⟩) (nS:bV W ⟨.agg #[.bool iK,.slice iw gB iE,.slice iC gu iT],je,uH,tX⟩) (nT:bV W ⟨.agg #[.bool iL,.slice iy gG iF,.slice iD gy iU],jf,uI,tY⟩)  :
  Calls Tryz.prog 8 #[.agg #[.bool s1,.slice A1 n1 c1,.slice B1 m1 d1,.bool u1],.agg #[.bool s2,.slice A2 n2 c2,.slice B2 m2 d2,.bool u2],.agg #[.bool iK,.slice iw gB iE,.slice iC gu iT,.bool iL,.slice iy gG iF,.slice iD gy iU]] W fun e w'=>e = .returned (.bool true)/\Below W.heap.size W w':=law_true (alD ht hb (St.init W) f1 f2 nS nT)
end
end Go.Proofs.BGQ
