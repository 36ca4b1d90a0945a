/- Part of a proof, said shortly. -/
import Derived.Test.YtmmgoghiiionfaaGreatDoorAlz
import Derived.Test.YtmmgoghiiionfaaGreatDoorC11
import Derived.Test.YtmmgoghiiionfaaGreatDoorC10
import Derived.Test.YtmmgoghiiionfaaGreatDoorC9
import Derived.Test.YtmmgoghiiionfaaGreatDoorC19
import Derived.Test.YtmmgoghiiionfaaGreatDoorC18
import Derived.Test.YtmmgoghiiionfaaGreatDoorC17
import Derived.Test.YtmmgoghiiionfaaGreatDoorC16
import Derived.Test.YtmmgoghiiionfaaGreatDoorC15
import Derived.Test.YtmmgoghiiionfaaGreatDoorC8
import Derived.Test.YtmmgoghiiionfaaGreatDoorC7
import Derived.Test.YtmmgoghiiionfaaGreatDoorC4
import Derived.Test.YtmmgoghiiionfaaGreatDoorC2
import Derived.Test.YtmmgoghiiionfaaGreatDoorC1
import Derived.Test.YtmmgoghiiionfaaGreatDoorC3
import Derived.Test.YtmmgoghiiionfaaGreatDoorC6
import Derived.Test.YtmmgoghiiionfaaGreatDoorC5
import Derived.Test.YtmmgoghiiionfaaGreatDoorC14
import Derived.Test.YtmmgoghiiionfaaGreatDoorC12
import Derived.Test.YtmmgoghiiionfaaGreatDoorC13
set_option linter.unusedVariables false
set_option linter.unusedSimpArgs false
namespace Go.Proofs.AZQ
open Go Go.RowKit Lw bJ
section
variable {W0 w:World} {U:List Box} {Ps:List (World->Prop)}
theorem LK(xs:List (Rat×Bool)):iI xs=if dU xs=0 then .nilIface else .iface 92 (.int .i64 (dU xs)):=by
 unfold iI dU
 by_cases h1:65<xs.length
 ·simp only [if_pos h1];rfl
 ·simp only [if_neg h1]
  by_cases h2:gK xs=true
  ·simp only [if_pos h2]
   by_cases h3:0<xs.length/\(el xs (xs.length-1)).1=0
   ·simp only [if_pos h3];rfl
   ·simp only [if_neg h3];rfl
  ·simp only [if_neg h2];rfl
theorem WB{xs:List (Rat×Bool)}(h:dU xs≠0):iI xs = .iface 92 (.int .i64 (dU xs)):=by rw [LK,if_neg h]
theorem LM{xs:List (Rat×Bool)}(h:dU xs=0):iI xs = .nilIface:=by rw [LK,if_pos h]
theorem aaN(HT:Tz W0)(HB:Tab W0)(HS:St W0 U Ps w){s1:Bool}{A1:Option Addr}{n1 c1:Nat}{B1:Option Addr}{m1 d1:Nat}{q1:Rat}{k1:Nat}{s2:Bool}{A2:Option Addr}{n2 c2:Nat}{B2:Option Addr}{m2 d2:Nat}{q2:Rat}{k2:Nat}(f1:FV (.agg #[.bool s1,.slice A1 n1 c1,.slice B1 m1 d1]) q1 k1 true w)(f2:FV (.agg #[.bool s2,.slice A2 n2 c2,.slice B2 m2 d2]) q2 k2 true w)(hk:k1+k2<=100000)(he:q1=q2):bP Tryz.prog 107 [.agg #[.bool s1,.slice A1 n1 c1,.slice B1 m1 d1],.agg #[.bool s2,.slice A2 n2 c2,.slice B2 m2 d2]] w (dB W0 U Ps (.bool true)):=by
 have h:=tY HS (VX (((St.start HS HT HB).cons f2).cons f1) ak au hk);rw [decide_eq_true he] at h;exact h
def JO(W0:World)(U:List Box)(Ps:List (World->Prop))(φ:Bool->Prop)(u:Value)(w:World):Prop := ∃ ok:Bool,u = .bool ok/\φ ok/\St W0 U Ps w
theorem FV.aez{s:Bool}{A B:Option Addr}{n c m d k:Nat}{q:Rat}{b:Bool}{w:World}(h:FV (.agg #[.bool s,.slice A n c,.slice B m d]) q k b w) :
  ∃ ns ms:List Nat,FW (.slice A n c) ns w/\FW (.slice B m d) ms w/\ns.length=n/\ms.length=m/\True:=by
 obtain ⟨s',A',n',c',B',m',d',ns,ms,e,h1,h2,h3,h4,h5,h6,h7,h8,h9,h10⟩:=h
 injection e with e;have e':=congrArg Array.toList e
 injection e' with e1 e2
 injection e1 with e1
 injection e2 with e2 e3
 injection e2 with e2 e2' zi
 injection e3 with e3 e4
 injection e3 with e3 e3' zk;subst e1 e2 e2' zi e3 e3' zk;exact ⟨ns,ms,⟨_,_,_,rfl,h1,h3,h7⟩,⟨_,_,_,rfl,h2,h4,h8⟩,h3,h4,trivial⟩
def DZ(cs:List Value):Prop := ∃ (s:Bool) (A:Option Addr) (n c:Nat) (B:Option Addr) (m d:Nat),cs=[.bool s,.slice A n c,.slice B m d]/\n<=1/\m<=1
def sS(x:List Value×List (Rat×Bool)):Prop:=x.2.length<=100 /\ ∀ i,i<x.2.length->DZ ((x.1.drop (i*3)).take 3)
theorem FV.XT{s:Bool}{A B:Option Addr}{n c m d k:Nat}{q:Rat}{b:Bool}{w:World}(h:FV (.agg #[.bool s,.slice A n c,.slice B m d]) q k b w)(hn:n<=1)(hm:m<=1):FV (.agg #[.bool s,.slice A n c,.slice B m d]) q 1 b w:=by
 obtain ⟨s',A',n',c',B',m',d',ns,ms,e,h1,h2,h3,h4,h5,h6,h7,h8,h9,h10⟩:=h
 injection e with e;have e':=congrArg Array.toList e
 injection e' with e1 e2
 injection e1 with e1
 injection e2 with e2 e3
 injection e2 with e2 e2' zi
 injection e3 with e3 e4
 injection e3 with e3 e3' zk;subst e1 e2 e2' zi e3 e3' zk;exact ⟨_,_,_,_,_,_,_,ns,ms,rfl,h1,h2,h3,h4,hn,hm,h7,h8,h9,h10⟩
theorem JU{k:Nat}{vs:List Value}{xs:List (Rat×Bool)}{w:World}(h:EL (dL k) 3 vs xs w)(hs:sS (vs,xs)):EL (dL 1) 3 vs xs w:=by
 refine ⟨h.1,fun i x hi => ?_⟩;obtain ⟨s,A,n,c,B,m,d,e,hf⟩:=h.2 i x hi;obtain ⟨s',A',n',c',B',m',d',e',hn,hm⟩:=hs.2 i (ahy.1 hi).1;rw [e] at e'
 injection e' with e1 e2
 injection e2 with e2 e3
 injection e2 with e2 e2' zi
 injection e3 with e3 e4
 injection e3 with e3 e3' zk;subst e2' e3';exact ⟨s,A,n,c,B,m,d,e,FV.XT hf hn hm⟩
theorem Un{k:Nat}{v:Value}{vs:List Value}{xs:List (Rat×Bool)}{w:World}(h:FL (dL k) 3 v vs xs w)(hs:sS (vs,xs)):FL (dL 1) 3 v vs xs w:=by
 obtain ⟨A,n,c,h1,h2,h3,h4,h5⟩:=h;exact ⟨A,n,c,h1,h2,h3,h4,JU h5 hs⟩
theorem Ql(HT:Tz W0)(HB:Tab W0){A1:Option Addr}{n1 c1:Nat}{vs1:List Value}{bz:List (Rat×Bool)}{k1:Nat}(HS:St W0 U Ps w)(f1:fC U w (FL (dL k1) 3 (.slice A1 n1 c1) vs1 bz))(hk:k1<=20000)(hn:n1<=100000)(hbad:dU bz≠0):bP Tryz.prog 17 [.slice A1 n1 c1] w (dB W0 U Ps (.iface 92 (.int .i64 (dU bz)))):=by
 have h:=Qm HT HB HS f1 hk hn;rw [WB hbad] at h;exact h
set_option maxRecDepth 100000 in
set_option maxHeartbeats 400000 in
theorem aa'(HT:Tz W0)(HB:Tab W0){A1:Option Addr}{n1 c1:Nat}{vs1:List Value}{bz:List (Rat×Bool)}{k1:Nat}(HS:St W0 U Ps w)(f1:fC U w (FL (dL k1) 3 (.slice A1 n1 c1) vs1 bz))(hk:k1<=20000)(hn:n1<=100000)(hbad:dU bz≠0):bP Tryz.prog 14 [.slice A1 n1 c1] w (dB W0 U Ps (.tuple #[.string ⟨([]:List UInt8).toArray⟩,.iface 92 (.int .i64 (dU bz))])):=by
 obtain ⟨HS,hn1⟩:=HS.arg f1;clear f1;refine MF Tryz.func14 rfl Tryz.ntmps14 rfl<|Js<|La rfl<|La rfl<|Jn<|JC.seq<|Js<|Lm rfl<|JL.call rfl rfl ahb (Ql HT HB HS (HS.dJ 1 rfl) af af hbad)<|?_;rintro v21 jU ⟨rfl,HS⟩;refine La rfl<|Jn<|Js<|Lm rfl<|Lz (.bool true) (fun a ha=>RF (ha.ev rfl) rfl Tryz.runUnderlying27)<|Jn<|JC.dh rfl<|Js<|Lm rfl<|La rfl<|La rfl<|Jn<|JC.ret (fun a ha => ?_);refine Q7 ha<|?_
 repeat (first | refine yh ?_ | refine yg ?_)
 refine Cm (v := .string ⟨([]).toArray⟩) (v' := .iface 92 (.int .i64 (dU bz))) ha Tryz.results14 (.tmp rfl) (.tmp rfl) ⟨_,rfl,?_⟩;exact ⟨rfl,HS.o0 0 2⟩
set_option maxRecDepth 100000 in
set_option maxHeartbeats 400000 in
theorem acv(HT:Tz W0)(HB:Tab W0){A1:Option Addr}{n1 c1:Nat}{vs1:List Value}{bz:List (Rat×Bool)}{k1:Nat}(HS:St W0 U Ps w)(f1:fC U w (FL (dL k1) 3 (.slice A1 n1 c1) vs1 bz))(hk:k1<=90)(hn:n1<=100000)(hbad:dU bz≠0):bP Tryz.prog 15 [.slice A1 n1 c1] w (dB W0 U Ps (.tuple #[.string ⟨([]:List UInt8).toArray⟩,.int .i64 (dU bz)])):=by
 obtain ⟨HS,hn1⟩:=HS.arg f1;clear f1;refine fD Tryz.func15 rfl Tryz.ntmps15 rfl<|Js<|La rfl<|La rfl<|Jn<|JC.seq<|Js<|Lm rfl<|JL.call rfl rfl ahc (Iu HT HB HS (HS.dJ 1 rfl) af af)<|?_;rintro v21 jU ⟨rfl,HS⟩;refine La rfl<|Jn<|Js<|Lm rfl<|Lz (.bool true) (fun a ha=>uQ (ha.ev rfl) (ha.ev rfl) (by simpa using hbad))<|Jn<|JC.dh rfl<|Js<|Lm rfl<|La rfl<|La rfl<|Jn<|Jb Tryz.results15 (.tmp rfl) (.tmp rfl)<|?_;exact ⟨rfl,HS.o0 0 2⟩
set_option maxRecDepth 100000 in
set_option maxHeartbeats 400000 in
theorem Qp(_HT:Tz W0)(_HB:Tab W0){A1:Option Addr}{n1 c1:Nat}{vs1:List Value}{bz:List (Rat×Bool)}{k1:Nat}(HS:St W0 U Ps w)(f1:fC U w (FL (dL k1) 3 (.slice A1 n1 c1) vs1 bz))(hk:k1<=20000)(hn:n1<=100000):bP Tryz.prog 22 [.slice A1 n1 c1] w (dB W0 U Ps (.int .i64 ((n1:Int)-1))):=by
 obtain ⟨HS,hn1⟩:=HS.arg f1;clear f1;refine fD Tryz.func22 rfl Tryz.ntmps22 rfl<|Js<|La rfl<|Jn<|Js<|Lm rfl<|Ll rfl ags<|Lz (.int .i64 ((n1:Int)-1)) (fun a ha=>fF (ha.ev rfl) (ha.ev rfl) ((IntKind.wrap_i64 _).trans af))<|La rfl<|Jn<|Ja Tryz.results22 (.tmp rfl)<|?_;exact ⟨rfl,HS.o0 0 2⟩
set_option maxRecDepth 100000 in
set_option maxHeartbeats 400000 in
theorem aa5(HT:Tz W0)(HB:Tab W0){A1:Option Addr}{n1 c1:Nat}{vs1:List Value}{bz:List Rat}{k1:Nat}{A2:Option Addr}{n2 c2:Nat}{vs2:List Value}{yD:List Rat}{k2:Nat}(HS:St W0 U Ps w)(f1:fC U w (FL (eG k1) 3 (.slice A1 n1 c1) vs1 bz))(f2:fC U w (FL (eG k2) 3 (.slice A2 n2 c2) vs2 yD))(hk:k1+k2<=100000)(hn:n1<=100000)(he:bz=yD):bP Tryz.prog 70 [.slice A1 n1 c1,.slice A2 n2 c2] w (dB W0 U Ps (.bool true)):=by
 obtain ⟨HS,hn1⟩:=HS.arg f1;clear f1;obtain ⟨HS,hn2⟩:=HS.arg f2;clear f2;subst he;have hnn:n1=n2:=af;subst hnn;refine fD Tryz.func70 rfl Tryz.ntmps70 rfl<|Js<|La rfl<|Jn<|JC.seq<|Js<|Lm rfl<|Ll rfl agx<|Lm rfl<|Ll rfl agx<|Lz (.bool false) (fun a ha=>uQ (ha.ev rfl) (ha.ev rfl) (by simp))<|Jn<|JC.cO rfl<|Jk<|JC.seq<|Js<|La rfl<|Jn<|JC.block<|kL HS.tg (ι:=Nat) (fun i=>n1-i) (fun i=>[(0,.slice A1 n1 c1),(1,.slice A2 n1 c2),(5,aj i)]) (fun i w Ua Pa=>(i<=n1)/\St W0 (Ua) (Pa) w) ?_ 0 _ ⟨(ahl _),HS⟩;skip;rintro i rZ ⟨bH,HS⟩
 try dsimp only at *
 refine JC.seq<|Js<|Lm rfl<|Lm rfl<|Ll rfl agx<|Lb rfl rfl<|Jn<|?_
 cases fK:(decide ((i:Int)<(n1:Int)))
 ·skip
  have jh:=of_decide_eq_false fK;refine JC.cO rfl<|JC.exit (fun _ _ h=>h) (fun _ _ h=>h)<|Js<|La rfl<|Jn<|Ja Tryz.results70 (.tmp rfl)<|?_;exact ⟨rfl,HS.o0 0 4⟩
 ·skip
  have jh:=of_decide_eq_true fK;refine JC.dh rfl<|Jk<|JC.seq<|JC.block<|JC.seq<|?_;have hj22:i<n1:=af;have ru:i<bz.length:=af;obtain ⟨s23,jX,n23,c23,qH,m23,d23,qY,HS⟩:=HS.zn 2 rfl i ru;have hx24:i<bz.length:=af;obtain ⟨s24,DJ,n24,c24,DW,m24,d24,hc24,HS⟩:=HS.zn 1 rfl i hx24;refine JC.Xr HS [] ah (fun Dq HS => ?_);refine Dm 0 rfl (HS.f 0 0) rfl<|Dm 1 rfl (HS.f 0 0) rfl<|JS 2 rfl (HS.f 0 0) rfl rfl agx agr rfl hj22 (FL.some_ (HS.at_ 5 rfl) ai hj22)<|Df (.agg #[.bool s23,.slice jX n23 c23,.slice qH m23 d23]) 3 rfl (HS.f 0 0) (fun a ha w hb=>jk (o:=0) (j:=i) (ha.ev rfl) agt agr (hb.at_ 5 rfl) hj22 ai ai qY rfl)<|Dm 4 rfl (HS.f 0 0) rfl<|Dm 5 rfl (HS.f 0 0) rfl<|JS 6 rfl (HS.f 0 0) rfl rfl agx agr rfl hj22 (FL.some_ (HS.at_ 3 rfl) ai hj22)<|Df (.agg #[.bool s24,.slice DJ n24 c24,.slice DW m24 d24]) 7 rfl (HS.f 0 0) (fun a ha w hb=>jk (o:=0) (j:=i) (ha.ev rfl) agt agr (hb.at_ 3 rfl) hj22 ai ai hc24 rfl)<|nI 8 rfl rfl rfl Tryz.call107 (aaN HT HB HS (HS.at_ 1 rfl) (HS.at_ 0 rfl) af rfl)<|?_;rintro afS af7 ⟨rfl,HS⟩;refine ⟨(HS.f 0 0),?_⟩;refine Dv (.bool false) 9 rfl (HS.f 0 0) (fun a ha w=>kE (b:=true) (ha.ev rfl))<|JR.next ah (fun _ _ h=>h)<|JC.cO rfl<|JC.lI (fun _ _ h=>h)<|JC.region<|Lm rfl<|Lz (.int .i64 ((i+1:Nat):Int)) (fun a ha=>kD (ha.ev rfl) (ha.ev rfl) (iP af af))<|La rfl<|?_;exact Jr (i+1) ⟨af,HS.o0 0 2⟩
set_option maxRecDepth 100000 in
set_option maxHeartbeats 400000 in
theorem Qu(HT:Tz W0)(HB:Tab W0){A1:Option Addr}{n1 c1:Nat}{vs1:List Value}{bz:List Rat}{k1:Nat}{A2:Option Addr}{n2 c2:Nat}{vs2:List Value}{yD:List Rat}{k2:Nat}(HS:St W0 U Ps w)(f1:fC U w (FL (eG k1) 3 (.slice A1 n1 c1) vs1 bz))(f2:fC U w (FL (eG k2) 3 (.slice A2 n2 c2) vs2 yD))(hk:k1+k2<=100000)(hn:n1<=100000)(he:bz=yD):bP Tryz.prog 19 [.slice A1 n1 c1,.slice A2 n2 c2] w (dB W0 U Ps (.bool true)):=by
 obtain ⟨HS,hn1⟩:=HS.arg f1;clear f1;obtain ⟨HS,hn2⟩:=HS.arg f2;clear f2;refine fD Tryz.func19 rfl Tryz.ntmps19 rfl<|Js<|La rfl<|Jn<|Js<|Lm rfl<|Lm rfl<|JL.call rfl rfl Tryz.call70 (aa5 HT HB HS (HS.dJ 3 rfl) (HS.dJ 1 rfl) af af he)<|?_;rintro v21 jU ⟨rfl,HS⟩;refine La rfl<|Jn<|Ja Tryz.results19 (.tmp rfl)<|?_;exact ⟨rfl,HS.o0 0 4⟩
set_option maxRecDepth 100000 in
set_option maxHeartbeats 1600000 in
theorem Qq(_HT:Tz W0)(_HB:Tab W0){s1:Bool}{A1:Option Addr}{n1 c1:Nat}{B1:Option Addr}{m1 d1:Nat}{q1:Rat}{k1:Nat}{b1:Bool}(HS:St W0 U Ps w)(f1:FV (.agg #[.bool s1,.slice A1 n1 c1,.slice B1 m1 d1]) q1 k1 b1 w)  : bP Tryz.prog 59 [.agg #[.bool s1,.slice A1 n1 c1,.slice B1 m1 d1],.int .u32 1000,.int .u32 1000] w (JO W0 U Ps (fun ok=>ok=true->n1<=1/\m1<=1)):=by
 have HS:=HS.add (FV.stable _ _ _ _) f1;clear f1;obtain ⟨ns,ms,hfn,hfm,hln,hlm,_⟩:=FV.aez (HS.at_ 0 rfl);have HS:=HS.add (FW.stable _ _) hfm;have HS:=HS.add (FW.stable _ _) hfn;refine fD Tryz.func59 rfl Tryz.ntmps59 rfl<|Js<|JL.box (vs:=[.bool s1,.slice A1 n1 c1,.slice B1 m1 d1]) HS rfl rfl rfl rfl (fun g21 jU HS => ?_);refine La rfl<|Jn<|Js<|Ky 1 rfl agu rfl agy<|JL.uz (.slice A1 n1 c1) HS 0 rfl rfl rfl agz rfl<|Ll rfl agA<|Lb rfl rfl<|?_
 cases gX:(decide ((n1:Int)<2))
 ·skip
  have jH:=of_decide_eq_false gX;refine Lm rfl<|Lq<|Lq<|Lq<|Lq<|Lf rfl rfl<|Lm rfl<|Lq<|Lq<|Lq<|Lq<|Lq<|dX<|dX<|dX<|dX<|dX<|dX<|Lq<|Lf rfl rfl<|Lm rfl<|Lq<|Lq<|Lq<|Lq<|Lq<|dX<|dX<|dX<|dX<|dX<|dX<|Lq<|Lf rfl rfl<|La rfl<|Jn<|Ja Tryz.results59 (.tmp rfl)<|?_;exact ⟨_,rfl,fun hok=>Bool.noConfusion hok,HS.o0 1 3⟩
 ·skip
  have jH:=of_decide_eq_true gX;refine Lm rfl<|bK (.pointer (some ⟨g21,2,none⟩)) (fun a ha=>mX (ha.ev rfl) agu rfl agy rfl rfl)<|bK (.slice B1 m1 d1) (fun a ha=>iY (ha.ev rfl) agz (HS.box _ ak) rfl)<|bK (aj m1) (fun a ha=>iL (ha.ev rfl) agA)<|bK (.bool (decide ((m1:Int)<2))) (fun a ha=>rP (ha.ev rfl) (ha.ev rfl) rfl)<|Lt rfl rfl<|?_
  cases mF:(decide ((m1:Int)<2))
  ·skip
   have xg:=of_decide_eq_false mF;refine Lm rfl<|Lq<|Lq<|Lq<|Lq<|Lq<|dX<|dX<|dX<|dX<|dX<|dX<|Lq<|Lf rfl rfl<|Lm rfl<|Lq<|Lq<|Lq<|Lq<|Lq<|dX<|dX<|dX<|dX<|dX<|dX<|Lq<|Lf rfl rfl<|La rfl<|Jn<|Ja Tryz.results59 (.tmp rfl)<|?_;exact ⟨_,rfl,fun hok=>Bool.noConfusion hok,HS.o0 1 3⟩
  ·skip
   have xg:=of_decide_eq_true mF;refine Lm rfl<|bK (.pointer (some ⟨g21,1,none⟩)) (fun a ha=>mX (ha.ev rfl) agu rfl agy rfl rfl)<|bK (.slice A1 n1 c1) (fun a ha=>iY (ha.ev rfl) agz (HS.box _ ak) rfl)<|bK (aj n1) (fun a ha=>iL (ha.ev rfl) agA)<|bK (.bool ((n1:Int)==0)) (fun a ha=>gY (ha.ev rfl) (ha.ev rfl) rfl)<|?_
   cases og:((n1:Int)==0)
   ·skip
    have hd24:¬ ((n1:Int)=0):=by simpa using og
    refine dI rfl<|bK (.pointer (some ⟨g21,1,none⟩)) (fun a ha=>mX (ha.ev rfl) agu rfl agy rfl rfl)<|bK (.slice A1 n1 c1) (fun a ha=>iY (ha.ev rfl) agz (HS.box _ ak) rfl)<|?_;have rq:0<n1:=af;refine bK (.pointer (some (eaddr A1 (0*1)))) (fun a ha=>oK (ha.ev rfl) (ha.ev rfl) agA agV rfl rq (Lw.FW.some_ (HS.at_ 0 rfl) rq) rfl)<|bK (.int .u32 ((dg ns 0:Nat):Int)) (fun a ha=>IC (j:=0) (ha.ev rfl) agU (HS.at_ 0 rfl) rq)<|dI rfl<|bK (.bool (decide (((dg ns 0:Nat):Int)<=1000))) (fun a ha=>rM (ha.ev rfl) (ha.ev rfl) rfl)<|bK (.bool (decide (((dg ns 0:Nat):Int)<=1000))) (fun a ha=>yt (ha.ev rfl) (ha.ev rfl))<|Lt rfl rfl<|?_
    cases pI:(decide (((dg ns 0:Nat):Int)<=1000))
    ·skip
     have xh:=of_decide_eq_false pI;refine Lm rfl<|Lq<|Lq<|Lq<|Lq<|Lq<|dX<|dX<|dX<|dX<|dX<|dX<|Lq<|Lf rfl rfl<|La rfl<|Jn<|Ja Tryz.results59 (.tmp rfl)<|?_;exact ⟨_,rfl,fun hok=>Bool.noConfusion hok,HS.o0 1 3⟩
    ·skip
     have xh:=of_decide_eq_true pI;refine Lm rfl<|bK (.pointer (some ⟨g21,2,none⟩)) (fun a ha=>mX (ha.ev rfl) agu rfl agy rfl rfl)<|bK (.slice B1 m1 d1) (fun a ha=>iY (ha.ev rfl) agz (HS.box _ ak) rfl)<|bK (aj m1) (fun a ha=>iL (ha.ev rfl) agA)<|bK (.bool ((m1:Int)==0)) (fun a ha=>gY (ha.ev rfl) (ha.ev rfl) rfl)<|?_
     cases oq:((m1:Int)==0)
     ·skip
      have hd27:¬ ((m1:Int)=0):=by simpa using oq
      refine dI rfl<|bK (.pointer (some ⟨g21,2,none⟩)) (fun a ha=>mX (ha.ev rfl) agu rfl agy rfl rfl)<|bK (.slice B1 m1 d1) (fun a ha=>iY (ha.ev rfl) agz (HS.box _ ak) rfl)<|?_;have kZ:0<m1:=af;refine bK (.pointer (some (eaddr B1 (0*1)))) (fun a ha=>oK (ha.ev rfl) (ha.ev rfl) agA agV rfl kZ (Lw.FW.some_ (HS.at_ 1 rfl) kZ) rfl)<|bK (.int .u32 ((dg ms 0:Nat):Int)) (fun a ha=>IC (j:=0) (ha.ev rfl) agU (HS.at_ 1 rfl) kZ)<|dI rfl<|bK (.bool (decide (((dg ms 0:Nat):Int)<=1000))) (fun a ha=>rM (ha.ev rfl) (ha.ev rfl) rfl)<|bK (.bool (decide (((dg ms 0:Nat):Int)<=1000))) (fun a ha=>yt (ha.ev rfl) (ha.ev rfl))<|Lt rfl rfl<|La rfl<|Jn<|Ja Tryz.results59 (.tmp rfl)<|?_;exact ⟨_,rfl,fun hok=>⟨af,af⟩,HS.o0 1 3⟩
     ·skip
      have hd27:(m1:Int)=0:=by simpa using oq
      refine dI rfl<|Lq<|Lq<|Lq<|Lq<|Lq<|Lq<|bK (.bool true) (fun a ha=>yu (ha.ev rfl) (ha.ev rfl))<|Lt rfl rfl<|La rfl<|Jn<|Ja Tryz.results59 (.tmp rfl)<|?_;exact ⟨_,rfl,fun hok=>⟨af,af⟩,HS.o0 1 3⟩
   ·skip
    have hd24:(n1:Int)=0:=by simpa using og
    refine dI rfl<|Lq<|Lq<|Lq<|Lq<|Lq<|Lq<|bK (.bool true) (fun a ha=>yu (ha.ev rfl) (ha.ev rfl))<|Lt rfl rfl<|Lm rfl<|bK (.pointer (some ⟨g21,2,none⟩)) (fun a ha=>mX (ha.ev rfl) agu rfl agy rfl rfl)<|bK (.slice B1 m1 d1) (fun a ha=>iY (ha.ev rfl) agz (HS.box _ ak) rfl)<|bK (aj m1) (fun a ha=>iL (ha.ev rfl) agA)<|bK (.bool ((m1:Int)==0)) (fun a ha=>gY (ha.ev rfl) (ha.ev rfl) rfl)<|?_
    cases Ou:((m1:Int)==0)
    ·skip
     have hd29:¬ ((m1:Int)=0):=by simpa using Ou
     refine dI rfl<|bK (.pointer (some ⟨g21,2,none⟩)) (fun a ha=>mX (ha.ev rfl) agu rfl agy rfl rfl)<|bK (.slice B1 m1 d1) (fun a ha=>iY (ha.ev rfl) agz (HS.box _ ak) rfl)<|?_;have F9:0<m1:=af;refine bK (.pointer (some (eaddr B1 (0*1)))) (fun a ha=>oK (ha.ev rfl) (ha.ev rfl) agA agV rfl F9 (Lw.FW.some_ (HS.at_ 1 rfl) F9) rfl)<|bK (.int .u32 ((dg ms 0:Nat):Int)) (fun a ha=>IC (j:=0) (ha.ev rfl) agU (HS.at_ 1 rfl) F9)<|dI rfl<|bK (.bool (decide (((dg ms 0:Nat):Int)<=1000))) (fun a ha=>rM (ha.ev rfl) (ha.ev rfl) rfl)<|bK (.bool (decide (((dg ms 0:Nat):Int)<=1000))) (fun a ha=>yt (ha.ev rfl) (ha.ev rfl))<|Lt rfl rfl<|La rfl<|Jn<|Ja Tryz.results59 (.tmp rfl)<|?_;exact ⟨_,rfl,fun hok=>⟨af,af⟩,HS.o0 1 3⟩
    ·skip
     have hd29:(m1:Int)=0:=by simpa using Ou
     refine dI rfl<|Lq<|Lq<|Lq<|Lq<|Lq<|Lq<|bK (.bool true) (fun a ha=>yu (ha.ev rfl) (ha.ev rfl))<|Lt rfl rfl<|La rfl<|Jn<|Ja Tryz.results59 (.tmp rfl)<|?_;exact ⟨_,rfl,fun hok=>⟨af,af⟩,HS.o0 1 3⟩
set_option maxRecDepth 100000 in
set_option maxHeartbeats 1600000 in
theorem aa8(HT:Tz W0)(HB:Tab W0){A1:Option Addr}{n1 c1:Nat}{vs1:List Value}{bz:List (List Value×List (Rat×Bool))}{k1:Nat}(HS:St W0 U Ps w)(f1:fC U w (FL (RL (dL k1) 3) 1 (.slice A1 n1 c1) vs1 bz))(hn:n1<=100):bP Tryz.prog 12 [.slice A1 n1 c1] w (JO W0 U Ps (fun ok=>ok=true -> ∀ j,j<n1->sS (el bz j))):=by
 obtain ⟨HS,hn1⟩:=HS.arg f1;clear f1;refine fD Tryz.func12 rfl Tryz.ntmps12 rfl<|Js<|La rfl<|Jn<|JC.seq<|Js<|Lm rfl<|Ll rfl Tryz.runUnderlying80<|Lm rfl<|Jn<|JC.block<|kL HS.tg (ι:=Nat) (fun i=>n1-i) (fun i=>[(7,.slice A1 n1 c1),(8,aj n1),(9,aj i)]) (fun i w Ua Pa=>(i<=n1 /\ ∀ j,j<i->sS (el bz j))/\St W0 (Ua) (Pa) w) ?_ 0 _ ⟨⟨ahl _,fun j hj=>absurd hj (ah2 j)⟩,HS⟩;skip;rintro i rZ ⟨bH,HS⟩
 try dsimp only at *
 obtain ⟨hi1,hi2⟩:=bH;refine Js<|Lb rfl rfl<|Jn<|JC.seq<|?_
 cases fK:(decide ((i:Int)<(n1:Int)))
 ·skip
  have jh:=of_decide_eq_false fK;refine JC.cO rfl<|JC.exit (fun _ _ h=>h) (fun _ _ h=>h)<|Js<|La rfl<|Jn<|Ja Tryz.results12 (.tmp rfl)<|?_;exact ⟨_,rfl,fun hok=>(fun j hj=>hi2 j af),HS.o0 0 2⟩
 ·skip
  have jh:=of_decide_eq_true fK;refine JC.dh rfl<|Jk<|JC.seq<|JC.block<|Js<|?_;have hj22:i<n1:=af;refine kM rfl rfl Tryz.runUnderlying80 Tryz.sizeOf23 rfl hj22 (FL.some_ (HS.at_ 1 rfl) ai hj22)<|?_;have ru:i<bz.length:=af;obtain ⟨jX,n23,c23,qY,HS⟩:=HS.Xz 0 rfl i ru;have HS:=HS.fe;have Oc:=FL.len (HS.at_ 1 rfl);refine Lz (.slice jX n23 c23) (fun a ha=>acR (o:=0) (j:=i) (ha.ev rfl) Tryz.isAgg23 (HS.at_ 3 rfl) hj22 ai qY rfl)<|La rfl<|Jn<|JC.seq<|Js<|Lm rfl<|Ll rfl ags<|Lz (.bool (decide ((n23:Int) > 9))) (fun a ha=>iK (ha.ev rfl) (ha.ev rfl) rfl)<|?_
  cases og:(decide ((n23:Int) > 9))
  ·skip
   have hd24:=of_decide_eq_false og;refine Lm rfl<|Lq<|Lq<|Lq<|Lf rfl rfl<|Lm rfl<|dI rfl<|bK (aj n23) (fun a ha=>iL (ha.ev rfl) ags)<|bK (.bool (decide ((n23:Int) > 100))) (fun a ha=>iK (ha.ev rfl) (ha.ev rfl) rfl)<|Lf rfl rfl<|Jn<|?_
   cases xq:(decide ((n23:Int) > 100))
   ·skip
    have hd25:=of_decide_eq_false xq;refine JC.cO rfl<|Jk<|Js<|Lm rfl<|Ll rfl ags<|Lm rfl<|Jn<|JC.block<|kL HS.tg (ι:=Nat) (fun j=>n23-j) (fun j=>[(7,.slice A1 n1 c1),(8,aj n1),(9,aj i),(26,.slice jX n23 c23),(27,aj n23),(28,aj j)]) (fun j w Ua Pa=>(j<=n23 /\ ∀ i',i'<j->DZ ((((el bz i).1).drop (i'*3)).take 3))/\St W0 (Ua) (Pa) w) ?_ 0 _ ⟨⟨ahl _,fun j hj=>absurd hj (ah2 j)⟩,HS⟩;skip;rintro j wl2 ⟨iT,HS⟩
    try dsimp only at *
    obtain ⟨hj1,hj2⟩:=iT;refine Js<|Lb rfl rfl<|Jn<|JC.seq<|?_
    cases pI:(decide ((j:Int)<(n23:Int)))
    ·skip
     have xh:=of_decide_eq_false pI;refine JC.cO rfl<|JC.exit (fun _ _ h=>h) (fun _ _ h=>h)<|JC.region<|Lz (.int .i64 ((i+1:Nat):Int)) (fun a ha=>kD (ha.ev rfl) (ha.ev rfl) (iP af af))<|Lm rfl<|?_;exact Jr (i+1) ⟨⟨af,vg hi2 ⟨af,fun q hq=>hj2 q af⟩⟩,HS.o0 0 2⟩
    ·skip
     have xh:=of_decide_eq_true pI;refine JC.dh rfl<|Jk<|JC.seq<|JC.block<|Js<|?_;have F8:j<n23:=af;refine kM rfl rfl ags agr rfl F8 (FL.some_ (HS.at_ 1 rfl) ai F8)<|?_;have hx28:j<((el bz i).2).length:=af;obtain ⟨oL,nD,n28,c28,nG,m28,d28,hc28,HS⟩:=HS.kV 0 rfl j hx28;refine Lz (.agg #[.bool oL,.slice nD n28 c28,.slice nG m28 d28]) (fun a ha=>jk (o:=0) (j:=j) (ha.ev rfl) agt agr (HS.at_ 2 rfl) F8 ai ai hc28 rfl)<|JL.alloc (vs:=[.bool false,.slice none 0 0,.slice none 0 0]) HS rfl agw rfl rfl (fun g29 Jq HS => ?_);refine JL.store HS rfl rfl (i:=0) rfl agr rfl rfl rfl (vs':=[.bool oL,.slice nD n28 c28,.slice nG m28 d28]) rfl rfl (fun yB HS => ?_);refine Jn<|Js<|JL.load (.agg #[.bool oL,.slice nD n28 c28,.slice nG m28 d28]) HS 0 rfl rfl rfl agt agr rfl rfl<|JL.call rfl rfl Tryz.call59 (Qq HT HB HS (HS.at_ 0 rfl))<|?_;rintro v31 Dw ⟨Ho,rfl,zU,HS⟩;have zU:Ho=true->n28<=1/\m28<=1:=zU;refine Lz (.bool (!Ho)) (fun a ha=>kE (ha.ev rfl))<|Jn<|?_
     cases Ho
     ·skip
      refine JC.dh rfl<|Js<|La rfl<|Jn<|Ja Tryz.results12 (.tmp rfl)<|?_;exact ⟨_,rfl,fun hok=>Bool.noConfusion hok,HS.o0 1 5⟩
     ·skip
      refine JC.cO rfl<|JC.lI (fun _ _ h=>h)<|JC.region<|Lz (.int .i64 ((j+1:Nat):Int)) (fun a ha=>kD (ha.ev rfl) (ha.ev rfl) (iP af af))<|Lm rfl<|?_;exact Jr (j+1) ⟨⟨af,vg hj2 ⟨_,_,_,_,_,_,_,hc28,(zU rfl).1,(zU rfl).2⟩⟩,HS.o0 1 1⟩
   ·skip
    have hd25:=of_decide_eq_true xq;refine JC.dh rfl<|Js<|La rfl<|Jn<|Ja Tryz.results12 (.tmp rfl)<|?_;exact ⟨_,rfl,fun hok=>Bool.noConfusion hok,HS.o0 0 4⟩
  ·skip
   have hd24:=of_decide_eq_true og;refine Lm rfl<|dI rfl<|bK (aj n23) (fun a ha=>iL (ha.ev rfl) ags)<|bK (.bool (decide ((n23:Int)<=65))) (fun a ha=>rM (ha.ev rfl) (ha.ev rfl) rfl)<|Lt rfl rfl<|?_
   cases uj:(decide ((n23:Int)<=65))
   ·skip
    have FZ:=of_decide_eq_false uj;refine Lm rfl<|dI rfl<|bK (aj n23) (fun a ha=>iL (ha.ev rfl) ags)<|bK (.bool (decide ((n23:Int) > 100))) (fun a ha=>iK (ha.ev rfl) (ha.ev rfl) rfl)<|Lf rfl rfl<|Jn<|?_
    cases Ox:(decide ((n23:Int) > 100))
    ·skip
     have hd34:=of_decide_eq_false Ox;refine JC.cO rfl<|Jk<|Js<|Lm rfl<|Ll rfl ags<|Lm rfl<|Jn<|JC.block<|kL HS.tg (ι:=Nat) (fun j=>n23-j) (fun j=>[(7,.slice A1 n1 c1),(8,aj n1),(9,aj i),(26,.slice jX n23 c23),(27,aj n23),(28,aj j)]) (fun j w Ua Pa=>(j<=n23 /\ ∀ i',i'<j->DZ ((((el bz i).1).drop (i'*3)).take 3))/\St W0 (Ua) (Pa) w) ?_ 0 _ ⟨⟨ahl _,fun j hj=>absurd hj (ah2 j)⟩,HS⟩;skip;rintro j wl3 ⟨Y3,HS⟩
     try dsimp only at *
     obtain ⟨hj1,hj2⟩:=Y3;refine Js<|Lb rfl rfl<|Jn<|JC.seq<|?_
     cases Oy:(decide ((j:Int)<(n23:Int)))
     ·skip
      have YX:=of_decide_eq_false Oy;refine JC.cO rfl<|JC.exit (fun _ _ h=>h) (fun _ _ h=>h)<|JC.region<|Lz (.int .i64 ((i+1:Nat):Int)) (fun a ha=>kD (ha.ev rfl) (ha.ev rfl) (iP af af))<|Lm rfl<|?_;exact Jr (i+1) ⟨⟨af,vg hi2 ⟨af,fun q hq=>hj2 q af⟩⟩,HS.o0 0 2⟩
     ·skip
      have YX:=of_decide_eq_true Oy;refine JC.dh rfl<|Jk<|JC.seq<|JC.block<|Js<|?_;have Gf:j<n23:=af;refine kM rfl rfl ags agr rfl Gf (FL.some_ (HS.at_ 1 rfl) ai Gf)<|?_;have ZC:j<((el bz i).2).length:=af;obtain ⟨IL,DR,n37,c37,DX,m37,d37,NS,HS⟩:=HS.kV 0 rfl j ZC;refine Lz (.agg #[.bool IL,.slice DR n37 c37,.slice DX m37 d37]) (fun a ha=>jk (o:=0) (j:=j) (ha.ev rfl) agt agr (HS.at_ 2 rfl) Gf ai ai NS rfl)<|JL.alloc (vs:=[.bool false,.slice none 0 0,.slice none 0 0]) HS rfl agw rfl rfl (fun g38 TE HS => ?_);refine JL.store HS rfl rfl (i:=0) rfl agr rfl rfl rfl (vs':=[.bool IL,.slice DR n37 c37,.slice DX m37 d37]) rfl rfl (fun w39 HS => ?_);refine Jn<|Js<|JL.load (.agg #[.bool IL,.slice DR n37 c37,.slice DX m37 d37]) HS 0 rfl rfl rfl agt agr rfl rfl<|JL.call rfl rfl Tryz.call59 (Qq HT HB HS (HS.at_ 0 rfl))<|?_;rintro v40 TG ⟨Hq,rfl,zV,HS⟩;have zV:Hq=true->n37<=1/\m37<=1:=zV;refine Lz (.bool (!Hq)) (fun a ha=>kE (ha.ev rfl))<|Jn<|?_
      cases Hq
      ·skip
       refine JC.dh rfl<|Js<|La rfl<|Jn<|Ja Tryz.results12 (.tmp rfl)<|?_;exact ⟨_,rfl,fun hok=>Bool.noConfusion hok,HS.o0 1 5⟩
      ·skip
       refine JC.cO rfl<|JC.lI (fun _ _ h=>h)<|JC.region<|Lz (.int .i64 ((j+1:Nat):Int)) (fun a ha=>kD (ha.ev rfl) (ha.ev rfl) (iP af af))<|Lm rfl<|?_;exact Jr (j+1) ⟨⟨af,vg hj2 ⟨_,_,_,_,_,_,_,NS,(zV rfl).1,(zV rfl).2⟩⟩,HS.o0 1 1⟩
    ·skip
     have hd34:=of_decide_eq_true Ox;refine JC.dh rfl<|Js<|La rfl<|Jn<|Ja Tryz.results12 (.tmp rfl)<|?_;exact ⟨_,rfl,fun hok=>Bool.noConfusion hok,HS.o0 0 4⟩
   ·skip
    have FZ:=of_decide_eq_true uj;refine Lm rfl<|Lq<|Lq<|Lq<|Lt rfl rfl<|Jn<|JC.dh rfl<|Js<|La rfl<|Jn<|Ja Tryz.results12 (.tmp rfl)<|?_;exact ⟨_,rfl,fun hok=>Bool.noConfusion hok,HS.o0 0 4⟩
end
end Go.Proofs.AZQ
