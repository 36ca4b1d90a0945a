/- Part of a proof, said shortly. -/
import Derived.Test.YtkcpphebkmnonaaGreatDoorAlz
import Derived.Test.YtkcpphebkmnonaaGreatDoorC8
import Derived.Test.YtkcpphebkmnonaaGreatDoorC5
import Derived.Test.YtkcpphebkmnonaaGreatDoorS3
import Derived.Test.YtkcpphebkmnonaaGreatDoorC2
import Derived.Test.YtkcpphebkmnonaaGreatDoorC1
import Derived.Test.YtkcpphebkmnonaaGreatDoorC4
import Derived.Test.YtkcpphebkmnonaaGreatDoorS2
import Derived.Test.YtkcpphebkmnonaaGreatDoorC3
import Derived.Test.YtkcpphebkmnonaaGreatDoorC7
import Derived.Test.YtkcpphebkmnonaaGreatDoorC6
import Derived.Test.YtkcpphebkmnonaaGreatDoorC10
import Derived.Test.YtkcpphebkmnonaaGreatDoorC9
import Derived.Test.YtkcpphebkmnonaaGreatDoorC15
import Derived.Test.YtkcpphebkmnonaaGreatDoorC12
import Derived.Test.YtkcpphebkmnonaaGreatDoorC14
import Derived.Test.YtkcpphebkmnonaaGreatDoorC13
import Derived.Test.YtkcpphebkmnonaaGreatDoorC11
import Derived.Test.YtkcpphebkmnonaaGreatDoorC16
import Derived.Test.YtkcpphebkmnonaaGreatDoorC17
namespace Go.Proofs.BGQ
open Go Go.RowKit Lw
set_option maxRecDepth 100000 in
set_option maxHeartbeats 3200000 in
theorem afe(s:Bool)(A A':Option Addr)(n m c c':Nat)(w:World)(hl:n<=8388608) :
  Calls Tryz.prog 139 #[.agg #[.bool s,.slice A n c,.slice A' m c']] w fun e w'=>e = .returned (.agg #[.bool (decide (0<n) && !s),.slice A n c,.slice A' m c'])/\Below w.heap.size w w':=by
 have hb1:=((Below.refl w.heap.size w).alloc (aut _) (.cells #[.bool s,.slice A n c,.slice A' m c'] 24)).alloc (by simp) (.cells #[.bool false,.slice none 0 0,.slice none 0 0] 24);have T0:bW ((w.alloc (.cells #[.bool s,.slice A n c,.slice A' m c'] 24)).alloc (.cells #[.bool false,.slice none 0 0,.slice none 0 0] 24)) w.heap.size 24 (.bool s) (.slice A n c) (.slice A' m c'):=(bW.new w 24 (.bool s) (.slice A n c) (.slice A' m c')).next ((Below.refl _ _).alloc (aut _) (.cells #[.bool false,.slice none 0 0,.slice none 0 0] 24))
 have T1:bW ((w.alloc (.cells #[.bool s,.slice A n c,.slice A' m c'] 24)).alloc (.cells #[.bool false,.slice none 0 0,.slice none 0 0] 24)) (w.heap.size+1) 24 (.bool false) (.slice none 0 0) (.slice none 0 0):=by
  have h9:=bW.new (w.alloc (.cells #[.bool s,.slice A n c,.slice A' m c'] 24)) 24 (.bool false) (.slice none 0 0) (.slice none 0 0);rw [World.size_alloc] at h9;exact h9
 obtain ⟨e0,e1,e2,e3,e4,e5⟩:=T0.cells;obtain ⟨f0,f1,f2,f3,f4,f5⟩:=T1.cells
 by_cases h0:n=0
 ·subst h0
  go_enter Tryz.func139,Tryz.ntmps139
  go_wp2_with fail
  refine bodyPost_ret (v := .agg #[.bool false,.slice A 0 c,.slice A' m c']) (by simp [results,Tryz.results139,go_sem]) rfl ?_;refine ⟨rfl,?_⟩
  repeat' (first | exact hb1 | refine Below.setCell ?_ ?_ _ | refine Below.alloc ?_ ?_ _ | exact aut _ | exact Below.refl _ _ | simp)
 ·have h1:0<n:=af
  have HD:Hid ((decide (0<n) && !s) = !s):=Lib.hid (by rw [decide_eq_true h1];rfl);rw [HD.out]
  go_enter Tryz.func139,Tryz.ntmps139
  go_wp2_with fail
  refine bodyPost_ret (v := .agg #[.bool (!s),.slice A n c,.slice A' m c']) (by simp [results,Tryz.results139,go_sem]) rfl ?_;refine ⟨rfl,?_⟩
  repeat' (first | exact hb1 | refine Below.setCell ?_ ?_ _ | refine Below.alloc ?_ ?_ _ | exact aut _ | exact Below.refl _ _ | simp)
end Go.Proofs.BGQ
namespace Lw
open Go Go.RowKit
theorem ahP{q:Rat}{n:Nat}(hn:n=(rn q).length):rs (-q)=(decide (0<n) && !(rs q))/\rn (-q)=rn q/\rd (-q)=rd q:=by
 obtain ⟨h1,h2⟩:=Fj q;refine ⟨?_,?_,?_⟩
 ·unfold rs
  rw [h1]
  by_cases h0:q=0
  ·rw [decide_eq_false (show ¬ 0<n by have:=(qC hn).2 h0;omega)]
   grind
  ·have hz:q.num≠0:=fun e=>h0 (auP.1 e)
   rw [decide_eq_true (show 0<n by have:=mt (qC hn).1 h0;omega),Bool.true_and];grind
 ·unfold rn;rw [h1,Int.natAbs_neg]
 ·unfold rd;rw [h1,h2]
  grind
end Lw
namespace Go.Proofs.BGQ
open Go Go.RowKit Lw
section
variable {W0 w:World} {bs:List Bx} {L:List En} {ts:List Bt} {M:List Qn} {s s':Bool} {A A':Option Addr} {n c n' c' k k':Nat} {q:Rat} {v:Value} {b:Bool}
theorem ahT(HE:bu W0 w bs L ts M)(h:⟨.agg #[.bool s,.slice A n c,.slice A' n' c'],q,k,true⟩∈M)(hk:k<=100000) :
  Calls Tryz.prog 139 #[.agg #[.bool s,.slice A n c,.slice A' n' c']] w (dA W0 bs L ts M (-q) k):=by
 obtain ⟨h1,h2,h3,h4,h5,h6,h7,h8,h9⟩:=(HE.fr _ h).own;refine (afe s A A' n n' c c' w af).mono fun e w' ⟨g1,g2⟩ => ?_;have HF:=HE.next g2;obtain ⟨-,-,-,r4,r5,-⟩:=(HF.fr _ h).own;obtain ⟨f1,f2,f3⟩:=ahP h2;rw [h1] at g1;rw [<- f2] at r4;rw [<- f3] at r5;refine ⟨_,_,_,_,_,_,_,g1,HF.cons ⟨rs (-q),A,n,c,A',n',c',rn (-q),rd (-q),by rw [f1],r4,r5,by rw [f2,h2],by rw [f3,h3],h6,h7,h8,h9,zx _,Ae _⟩⟩
end
section
variable {W0 w:World} {bs:List Bx} {L:List En} {ts:List Bt} {M:List Qn} {s s':Bool} {A A' B B':Option Addr} {n c n' c' m d m' d' k k':Nat} {q r:Rat} {x y:Int} {b b':Bool}
theorem ajA(HE:bu W0 w bs L ts M)(n1 : -9223372036854775808<=x)(n2:x<=9223372036854775807)(d1 : -9223372036854775808<=y)(d2:y<=9223372036854775807)(d0:y≠0) :
  Calls Tryz.prog 86 #[.int .i64 x,.int .i64 y] w (dA W0 bs L ts M (Rat.divInt x y) 2):=by
 refine (Yr x y w n1 n2 d1 d2 d0 (HE.tz.next HE.below)).mono fun e w' hh => ?_;obtain ⟨A,c,A',c',rfl,hc,hc',hr,hr',hb⟩:=hh;have hp:pw 2=18446744073709551616:=rfl
 have h1:(Rat.divInt x y).num.natAbs<=x.natAbs:=by
  rw [avx];refine auu (Int.natAbs_ediv_le_natAbs _ _) ?_;rw [au1,Int.natAbs_sign_of_ne_zero d0,auQ];exact aut _
 have h2:(Rat.divInt x y).den<=y.natAbs:=by rw [avy,if_neg d0];exact auU _ _
 exact ⟨_,_,_,_,_,_,_,rfl,(HE.next hb).cons (I8 hr hr' (uJ af) (Nr af) hc hc')⟩
set_option maxRecDepth 100000 in
set_option maxHeartbeats 1600000 in
theorem aff(HE:bu W0 w bs L ts M)(n1 : -9223372036854775808<=x)(n2:x<=9223372036854775807) :
  Calls Tryz.prog 47 #[.int .i64 x] w (dA W0 bs L ts M (x:Rat) 2):=by
 refine Calls.mono (R:=dA w [] L [] M (x:Rat) 2) ?_ fun _ _ hh=>dA.of HE hh;replace HE:=HE.here.bY (.bool false) (.slice none 0 0) (.slice none 0 0);have HX:=Lib.hid (show Rat.divInt x 1=(x:Rat) from Rat.ext (by rw [avx];simp) (by rw [avy];simp));have HN:=Lib.hid (show -9223372036854775808<=x/\x<=9223372036854775807 from ⟨n1,n2⟩);clear n1 n2;obtain ⟨q0,q1,q2,q3,q4,q5⟩:=HE.c3 ak
 go_enter Tryz.func47,Tryz.ntmps47
 go_wp2_with fail
 refine (ajA HE HN.out.1 HN.out.2 af af af).mono ?_;rw [HX.out];rintro e w1 ⟨sx,Ax,nx,cx,Ay,ny,cy,rfl,HE⟩;clear q0 q1 q2 q3 q4 q5;obtain ⟨q0,q1,q2,q3,q4,q5⟩:=HE.c3 ak
 go_wp2_with fail
 refine bodyPost_ret (v := .agg #[.bool sx,.slice Ax nx cx,.slice Ay ny cy]) (by simp [results,Tryz.results47,go_sem,q0,q1,q2]) rfl ?_;exact ⟨_,_,_,_,_,_,_,rfl,(HE.iG (D:=Ax) (m:=nx) (d:=cx) ak sx (.slice Ay ny cy)).bare⟩
end
section
variable {W0 w:World} {bs:List Bx} {L:List En} {ts:List Bt} {M:List Qn} {s s':Bool} {A A' B B':Option Addr} {n c n' c' m d m' d' k k':Nat} {q r:Rat} {b b':Bool}
set_option maxRecDepth 100000 in
set_option maxHeartbeats 1600000 in
theorem afd(HE:bu W0 w bs L ts M)(h:⟨.agg #[.bool s,.slice A n c,.slice A' n' c'],q,k,b⟩∈M)(hk:k<=100000) :
  Calls Tryz.prog 91 #[.agg #[.bool s,.slice A n c,.slice A' n' c']] w (dA W0 bs L ts M (-q) k):=by
 refine Calls.mono (R:=dA w [] L [] M (-q) k) ?_ fun _ _ hh=>dA.of HE hh;replace HE:=(HE.here.bY (.bool s) (.slice A n c) (.slice A' n' c')).bY (.bool false) (.slice none 0 0) (.slice none 0 0);simp only [World.size_alloc] at HE;obtain ⟨q0,q1,q2,q3,q4,q5⟩:=HE.c3 au
 go_enter Tryz.func91,Tryz.ntmps91
 go_wp2_with fail
 refine (wW HE h hk).mono ?_;clear HE;rintro e w1 ⟨s1,A1,n1,c1,B1,m1,d1,rfl,HE⟩;clear q0 q1 q2 q3 q4 q5
 go_wp2_with fail
 refine (TL HE ak hk).mono ?_;clear HE;rintro e w2 ⟨s2,A2,n2,c2,B2,m2,d2,rfl,HE⟩
 go_wp2_with fail
 refine (ahT HE ak hk).mono ?_;clear HE;rintro e w3 ⟨sx,Ax,nx,cx,Ay,ny,cy,rfl,HE⟩;obtain ⟨q0,q1,q2,q3,q4,q5⟩:=HE.c3 ak
 go_wp2_with fail
 refine bodyPost_ret (v := .agg #[.bool sx,.slice Ax nx cx,.slice Ay ny cy]) (by simp [results,Tryz.results91,go_sem,q0,q1,q2]) rfl ?_;have HK:=(HE.iG (D:=Ax) (m:=nx) (d:=cx) ak sx (.slice Ay ny cy)).bare;exact ⟨_,_,_,_,_,_,_,rfl,HK.pick (fun _ he=>he) (fun _ he=>by rcases List.mem_cons.1 he with rfl | he;exact ak;exact .tail _ (.tail _ (.tail _ he)))⟩
end
section
variable {W0 w:World} {bs:List Bx} {L:List En} {ts:List Bt} {M:List Qn} {v v':Value} {q r:Rat} {x y:Int} {k k':Nat} {b b':Bool}
theorem afg(HE:bu W0 w bs L ts M)(n1 : -9223372036854775808<=x)(n2:x<=9223372036854775807) :
  Calls Tryz.prog 47 #[.int .i64 x] w (kH W0 bs L ts M (x:Rat) 2):=(aff HE n1 n2).mono fun _ _ hh=>kH.of hh
end
open bG
section
variable {W0 w w':World} {U:List Box} {Ps:List (World->Prop)} {v v':Value} {q r:Rat} {x y:Int} {k k':Nat} {b b':Bool} {f:FuncId} {vs:List Value} {L:List En} {M:List Qn}
theorem afJ(HS:St W0 U Ps w)(h:Calls Tryz.prog f vs.toArray w (dA w [] L [] M q k)):bF Tryz.prog f vs w (lJ W0 U Ps q k) :=
 h.mono fun e w' hh=>by
  obtain ⟨s,A,n,c,A',n',c',rfl,he⟩:=hh;exact ⟨_,rfl,s,A,n,c,A',n',c',rfl,(HS.next he.below).add (FV.stable _ q k true) (he.fr _ ak)⟩
theorem afc(HT:Tz W0)(HB:Tab W0)(HS:St W0 U Ps w){s1:Bool}{A1:Option Addr}{n1 c1:Nat}{B1:Option Addr}{m1 d1:Nat}{q1:Rat}{k1:Nat}{b1:Bool}(f1:FV (aup s1 A1 n1 c1 B1 m1 d1) q1 k1 b1 w)(hk:k1<=100000):bF Tryz.prog 91 [(aup s1 A1 n1 c1 B1 m1 d1)] w (lJ W0 U Ps (-q1) (k1)) :=
 afJ HS (afd ((St.start HS HT HB).cons f1) ak hk)
theorem LY(HT:Tz W0)(HB:Tab W0)(HS:St W0 U Ps w){z1:Int}(h1 : -9223372036854775808<=z1)(h2:z1<=9223372036854775807):bF Tryz.prog 47 [.int .i64 z1] w (lJ W0 U Ps ((z1:Rat)) (2)) :=
 wM HS (afg (St.start HS HT HB)  h1 h2)
end
end Go.Proofs.BGQ
namespace Lw
open Go Go.RowKit bG
theorem ZM{a b c e:Value}{x y:Bool}(h:x=y):Value.tuple #[.agg #[a,b,c,.bool x],e] = .tuple #[.agg #[a,b,c,.bool y],e]:=h ▸ rfl
end Lw
namespace Go.Proofs.BGQ
open Go Go.RowKit Lw bG
section
variable {W0 w:World} {U:List Box} {Ps:List (World->Prop)}
set_option maxRecDepth 100000 in
set_option maxHeartbeats 400000 in
theorem BD(HT:Tz W0)(HB:Tab W0){s1:Bool}{A1:Option Addr}{n1 c1:Nat}{B1:Option Addr}{m1 d1:Nat}{q1:Rat}{k1:Nat}{b1:Bool}{u1:Bool}{s2:Bool}{A2:Option Addr}{n2 c2:Nat}{B2:Option Addr}{m2 d2:Nat}{q2:Rat}{k2:Nat}{b2:Bool}{u2:Bool}(HS:St W0 U Ps w)(f1:FV (.agg #[.bool s1,.slice A1 n1 c1,.slice B1 m1 d1]) q1 k1 b1 w)(f2:FV (.agg #[.bool s2,.slice A2 n2 c2,.slice B2 m2 d2]) q2 k2 b2 w)(hk:k1+k2<=800)(hu:u1=u2)(hq:q1=q2):bF Tryz.prog 23 [.agg #[.bool s1,.slice A1 n1 c1,.slice B1 m1 d1,.bool u1],.agg #[.bool s2,.slice A2 n2 c2,.slice B2 m2 d2,.bool u2]] w (dI W0 U Ps (.bool true)):=by
 have HS:=HS.add (FV.stable _ _ _ _) f1;have HS:=HS.add (FV.stable _ _ _ _) f2;clear f1 f2;refine df Tryz.func23 rfl Tryz.ntmps23 rfl<|Js<|JL.box (vs:=[.bool s1,.slice A1 n1 c1,.slice B1 m1 d1,.bool u1]) HS rfl rfl rfl rfl (fun g21 di HS => ?_);refine JL.box (vs:=[.bool s2,.slice A2 n2 c2,.slice B2 m2 d2,.bool u2]) HS rfl rfl rfl rfl (fun g22 dw HS => ?_);refine La rfl<|Jn<|Js<|dH 3 rfl asV rfl as4<|JL.iH (.bool u1) HS 1 rfl rfl rfl as3 rfl<|dH 3 rfl asV rfl as4<|JL.iH (.bool u2) HS 0 rfl rfl rfl as3 rfl<|Lz (.bool true) (fun a ha=>YQ (ha.ev rfl) (ha.ev rfl) Tryz.runUnderlying4 (by rw [hu];simp))<|Lm rfl<|bz (.pointer (some ⟨g21,0,none⟩)) (fun a ha=>dF (ha.ev rfl) asV rfl asR rfl rfl)<|bz (.agg #[.bool s1,.slice A1 n1 c1,.slice B1 m1 d1]) (fun a ha=>eG (ha.ev rfl) asT asR (HS.box _ au) rfl rfl)<|bz (.pointer (some ⟨g22,0,none⟩)) (fun a ha=>dF (ha.ev rfl) asV rfl asR rfl rfl)<|bz (.agg #[.bool s2,.slice A2 n2 c2,.slice B2 m2 d2]) (fun a ha=>eG (ha.ev rfl) asT asR (HS.box _ ak) rfl rfl)<|JL.dN rfl rfl rfl rfl rfl rfl atH (BA HT HB HS (HS.at_ 1 rfl) (HS.at_ 0 rfl) af)<|?_;rintro v23 dR ⟨rfl,HS⟩;refine bz (.bool (decide (q1=q2))) (fun a ha=>jA (ha.ev rfl) (ha.ev rfl) (yz _ _))<|Lt rfl rfl<|La rfl<|Jn<|Ja Tryz.results23 (.tmp rfl)<|?_;exact ⟨(congrArg Value.bool (decide_eq_true hq)),HS.o0 2 2⟩
end
section
variable {W0 w:World} {U:List Box} {Ps:List (World->Prop)}
set_option maxRecDepth 100000 in
set_option maxHeartbeats 400000 in
theorem ZV(HT:Tz W0)(HB:Tab W0){s1:Bool}{A1:Option Addr}{n1 c1:Nat}{B1:Option Addr}{m1 d1:Nat}{q1:Rat}{k1:Nat}{b1:Bool}{u1:Bool}(HS:St W0 U Ps w)(f1:FV (.agg #[.bool s1,.slice A1 n1 c1,.slice B1 m1 d1]) q1 k1 b1 w)(hk:k1<=8000):bF Tryz.prog 52 [.agg #[.bool s1,.slice A1 n1 c1,.slice B1 m1 d1,.bool u1]] w (tJ W0 U Ps (-q1) (u1) (k1)):=by
 have HS:=HS.add (FV.stable _ _ _ _) f1;clear f1;refine df Tryz.func52 rfl Tryz.ntmps52 rfl<|Js<|JL.box (vs:=[.bool s1,.slice A1 n1 c1,.slice B1 m1 d1,.bool u1]) HS rfl rfl rfl rfl (fun g21 di HS => ?_);refine JL.alloc (vs:=[.bool false,.slice none 0 0,.slice none 0 0,.bool false]) HS rfl asU rfl rfl (fun g22 dw HS => ?_);refine Jn<|JC.seq<|JC.draw HS [6] ah (fun dR HS => ?_);refine dZ 0 0 rfl HS.b0 rfl asV rfl asR<|Da (.agg #[.bool s1,.slice A1 n1 c1,.slice B1 m1 d1]) 1 1 rfl HS.b0 rfl rfl asT asR<|dZ 3 3 rfl HS.b0 rfl asV rfl as4<|Do (.bool u1) 4 1 rfl HS.b0 rfl rfl as3<|cZ 2 rfl rfl rfl Tryz.call91 (afc HT HB HS (HS.at_ 0 rfl) af)<|?_;rintro Z8 aaj ⟨qZ,pg,qB,pM,pF,qw,pU,rfl,HS⟩;refine ⟨HS.b0,?_⟩;refine Dv (.agg #[.bool qZ,.slice pg qB pM,.slice pF qw pU,.bool u1]) 5 rfl HS.b0 (fun a ha w=>bG.run_build (ha.dm rfl) asV asU jJ rfl)<|lK 6 [.bool qZ,.slice pg qB pM,.slice pF qw pU,.bool u1] HS 0 rfl rfl rfl rfl asO (fun _ HS=>⟨(jU (s:=6) rfl rfl),?_⟩);refine JR.next ah (fun _ _ h=>h)<|Ja Tryz.results52 (.agg rfl asQ asO (HS.box _ ak) rfl rfl)<|?_;exact ⟨_,_,_,_,_,_,_,rfl,HS.oh 2 2 0 rfl (fun _ h=>h.as rfl af)⟩
end
end Go.Proofs.BGQ
