/- Part of a proof, said shortly. -/
import Derived.RangeFuncNested
import Derived.RangeFuncLeaves
import Derived.Test.YtmmgoghiiionfaaGreatDoorAlz
import Derived.Test.YtmmgoghiiionfaaGreatDoorC11
import Derived.Test.YtmmgoghiiionfaaGreatDoorC10
import Derived.Test.YtmmgoghiiionfaaGreatDoorC9
import Derived.Test.YtmmgoghiiionfaaGreatDoorC16
import Derived.Test.YtmmgoghiiionfaaGreatDoorC15
import Derived.Test.YtmmgoghiiionfaaGreatDoorC8
import Derived.Test.YtmmgoghiiionfaaGreatDoorC7
import Derived.Test.YtmmgoghiiionfaaGreatDoorC4
import Derived.Test.YtmmgoghiiionfaaGreatDoorC2
import Derived.Test.YtmmgoghiiionfaaGreatDoorC1
import Derived.Test.YtmmgoghiiionfaaGreatDoorC3
import Derived.Test.YtmmgoghiiionfaaGreatDoorC6
import Derived.Test.YtmmgoghiiionfaaGreatDoorC5
import Derived.Test.YtmmgoghiiionfaaGreatDoorC14
import Derived.Test.YtmmgoghiiionfaaGreatDoorC12
import Derived.Test.YtmmgoghiiionfaaGreatDoorC13
set_option linter.unusedVariables false
set_option linter.unusedSimpArgs false
namespace Go.Proofs.AZQ
open Go Go.RowKit Lw bJ
section
variable {W0 w:World} {U:List Box} {Ps:List (World->Prop)}
theorem aew(n:Nat):(((n:Int))==0)=decide (n=0):=by
 by_cases h:n=0
 ·subst h;rfl
 ·rw [decide_eq_false h];simp;omega
def gK(xs:List (Rat×Bool)):Bool:=xs.all (·.2)
theorem yT{xs:List (Rat×Bool)}{n i:Nat}(hn:xs.length=n)(h : ∀ j,j<i->(el xs j).2=true)(hi:n<=i):true=gK xs:=by
 refine (ahK.2 fun x hx => ?_).symm;obtain ⟨j,hj⟩:=aiE hx;have hjl:=(ahy.1 hj).1;have:=h j af;rw [nR hjl] at hj;rw [<- Option.some.inj hj];exact this
theorem KX{xs:List (Rat×Bool)}{n i:Nat}(hn:xs.length=n)(hi:i<n)(h:(el xs i).2=false):false=gK xs:=by
 cases ha:gK xs with
 | false=>rfl
 | true =>
  have:=ahK.1 ha (el xs i) (ahq (nR af));rw [h] at this;cases this
def iI(xs:List (Rat×Bool)):Value:=if 65<xs.length then .iface 92 (.int .i64 4) else if gK xs=true then (if 0<xs.length/\(el xs (xs.length-1)).1=0 then .iface 92 (.int .i64 8) else .nilIface) else .iface 92 (.int .i64 2)
theorem Wy{xs:List (Rat×Bool)}{n:Nat}(hn:xs.length=n)(h:65<n):Value.iface 92 (.int .i64 4)=iI xs:=by subst hn;unfold iI;rw [if_pos h]
theorem Wv{xs:List (Rat×Bool)}{n:Nat}(hn:xs.length=n)(h:¬ 65<n)(ha:gK xs=false):Value.iface 92 (.int .i64 2)=iI xs:=by subst hn;unfold iI;rw [if_neg h,if_neg (by rw [ha];decide)]
theorem WA{xs:List (Rat×Bool)}{n:Nat}(hn:xs.length=n)(h:¬ 65<n)(ha:gK xs=true)(h0:0<n)(hz:(el xs (n-1)).1=0):Value.iface 92 (.int .i64 8)=iI xs:=by subst hn;unfold iI;rw [if_neg h,if_pos ha,if_pos ⟨h0,hz⟩]
theorem LJ{xs:List (Rat×Bool)}{n:Nat}(hn:xs.length=n)(h:¬ 65<n)(ha:gK xs=true)(h0:n=0\/¬ (el xs (n-1)).1=0):Value.nilIface=iI xs:=by subst hn;unfold iI;rw [if_neg h,if_pos ha,if_neg (fun hh=>h0.elim af (fun h2=>h2 hh.2))]
theorem KW{xs:List (Rat×Bool)}{n i:Nat}(hn:xs.length=n)(ha:gK xs=true)(hi:i<n):(el xs i).2=true:=ahK.1 ha _ (ahq (nR af))
theorem KY{s:Bool}{A B:Option Addr}{m c d e k n i:Nat}{xs:List (Rat×Bool)}{w:World}(h:FV (.agg #[.bool s,.slice A m c,.slice B d e]) (el xs i).1 k (el xs i).2 w)(hn:xs.length=n)(ha:gK xs=true)(hi:i<n):m=0↔(el xs i).1=0:=by
 rw [KW hn ha hi] at h;exact FV.nz h
theorem FV.zn_{s b:Bool}{A B:Option Addr}{n c m d k:Nat}{q:Rat}{w:World}(h:FV (.agg #[.bool s,.slice A n c,.slice B m d]) q k b w)(hn:n=0):q=0:=by
 cases b
 ·exact h.bad rfl
 ·exact h.nz.1 hn
def fQ{α:Type}[DecidableEq α](z:α)(xs:List α):List α:=(xs.reverse.dropWhile fun x=>decide (x=z)).reverse
theorem SK{α:Type}[DecidableEq α]{z:α}{xs:List α}{x:α} : fQ z (xs++[x])=if x=z then fQ z xs else xs++[x]:=by
 unfold fQ;rw [List.reverse_append,List.reverse_singleton,List.singleton_append,List.dropWhile_cons]
 by_cases h:x=z
 ·rw [if_pos h,if_pos (decide_eq_true h)]
 ·rw [if_neg h,if_neg (by rw [decide_eq_false h];decide)];simp
theorem Pg{α:Type}[Inhabited α]{xs:List α}{n:Nat}(hl:xs.length=n)(h:0<n):xs=xs.take (n-1)++[el xs (n-1)]:=by
 have h1:=ai9 (n-1) xs;rw [aiq af,List.drop_eq_nil_of_le af] at h1;have h2:el xs (n-1)=xs[n-1]:=by unfold el;rw [ahW,ahR af];rfl
 rw [h2];exact h1.symm
theorem qp{xs bz:List Rat}{n:Nat}(hs:fQ 0 xs=fQ 0 bz)(hl:xs.length=n)(h:n=0\/¬ el xs (n-1)=0):xs=fQ 0 bz:=by
 rw [<- hs]
 by_cases h0:n=0
 ·rw [ahT.1 (hl.trans h0)];rfl
 ·have h1:=h.resolve_left h0
  have h2:=Pg hl af;generalize el xs (n-1)=x at h1 h2;generalize xs.take (n-1)=ys at h2;subst h2;rw [SK,if_neg h1]
theorem SL{xs bz ys:List Rat}{n:Nat}(hs:fQ 0 xs=fQ 0 bz)(hl:xs.length=n)(h0:0<n)(hz:el xs (n-1)=0)(hy:ys=xs.take (n-1)):fQ 0 ys=fQ 0 bz:=by
 rw [<- hs];have h2:=Pg hl h0;rw [hz] at h2
 conv=>rhs;rw [h2]
 rw [SK,if_pos rfl,hy]
def fE(i:Nat):List UInt8:=if i=0 then [] else if i=1 then [32,120] else [32,120,94]++Lib.decDigits i
theorem eY{m:Nat}(h:m<100):(Lib.decDigits m).length<=2:=(show ∀ m,m<100->(Lib.decDigits m).length<=2 by decide +kernel) m h
set_option maxRecDepth 100000 in
set_option maxHeartbeats 400000 in
theorem aaI(HT:Tz W0)(HB:Tab W0){A1:Option Addr}{n1 c1:Nat}{vs1:List Value}{bz:List (Rat×Bool)}{k1:Nat}(HS:St W0 U Ps w)(f1:fC U w (FL (dL k1) 3 (.slice A1 n1 c1) vs1 bz))(hk:k1<=20000)(hn:n1<=100000):bP Tryz.prog 68 [.slice A1 n1 c1] w (dB W0 U Ps (.bool (gK bz))):=by
 obtain ⟨HS,hn1⟩:=HS.arg f1;clear f1;refine fD Tryz.func68 rfl Tryz.ntmps68 rfl<|Js<|La rfl<|Jn<|JC.seq<|Js<|Lm rfl<|Ll rfl agx<|Lm rfl<|Jn<|JC.block<|kL HS.tg (ι:=Nat) (fun i=>n1-i) (fun i=>[(5,.slice A1 n1 c1),(6,aj n1),(7,aj i)]) (fun i w Ua Pa=>(i<=n1 /\ ∀ j,j<i->(el bz j).2=true)/\St W0 (Ua) (Pa) w) ?_ 0 _ ⟨⟨ahl _,fun _ h=>absurd h (ah2 _)⟩,HS⟩;skip;rintro i rZ ⟨bH,HS⟩
 try dsimp only at *
 refine Js<|Lb rfl rfl<|Jn<|JC.seq<|?_
 cases fK:(decide ((i:Int)<(n1:Int)))
 ·skip
  have jh:=of_decide_eq_false fK;refine JC.cO rfl<|JC.exit (fun _ _ h=>h) (fun _ _ h=>h)<|Js<|La rfl<|Jn<|Ja Tryz.results68 (.tmp rfl)<|?_;exact ⟨(congrArg Value.bool (yT hn1 bH.2 af)),HS.o0 0 2⟩
 ·skip
  have jh:=of_decide_eq_true fK;refine JC.dh rfl<|Jk<|JC.seq<|JC.block<|Js<|?_;have hj22:i<n1:=af;refine kM rfl rfl agx agr rfl hj22 (FL.some_ (HS.at_ 1 rfl) ai hj22)<|?_;have ru:i<bz.length:=af;obtain ⟨s23,jX,n23,c23,qH,m23,d23,qY,HS⟩:=HS.kV 0 rfl i ru;refine Lz (.agg #[.bool s23,.slice jX n23 c23,.slice qH m23 d23]) (fun a ha=>jk (o:=0) (j:=i) (ha.ev rfl) agt agr (HS.at_ 2 rfl) hj22 ai ai qY rfl)<|JL.alloc (vs:=[.bool false,.slice none 0 0,.slice none 0 0]) HS rfl agw rfl rfl (fun g24 Jp HS => ?_);refine JL.store HS rfl rfl (i:=0) rfl agr rfl rfl rfl (vs':=[.bool s23,.slice jX n23 c23,.slice qH m23 d23]) rfl rfl (fun Dq HS => ?_);refine Jn<|Js<|JL.load (.agg #[.bool s23,.slice jX n23 c23,.slice qH m23 d23]) HS 0 rfl rfl rfl agt agr rfl rfl<|JL.call rfl rfl Tryz.call137 (Nj HT HB HS (HS.at_ 0 rfl) af)<|?_;rintro v26 Dt ⟨rfl,HS⟩;refine Lz (.bool (!((el bz i).2))) (fun a ha=>kE (ha.ev rfl))<|Jn<|?_
  cases oq:(((el bz i).2))
  ·skip
   refine JC.dh rfl<|Js<|La rfl<|Jn<|Ja Tryz.results68 (.tmp rfl)<|?_;exact ⟨(congrArg Value.bool (KX hn1 af (by assumption))),HS.o0 1 3⟩
  ·skip
   refine JC.cO rfl<|JC.lI (fun _ _ h=>h)<|JC.region<|Lz (.int .i64 ((i+1:Nat):Int)) (fun a ha=>kD (ha.ev rfl) (ha.ev rfl) (iP af af))<|Lm rfl<|?_;exact Jr (i+1) ⟨⟨af,(vg bH.2 (by assumption))⟩,HS.o0 1 1⟩
set_option maxRecDepth 100000 in
set_option maxHeartbeats 400000 in
theorem AX(_HT:Tz W0)(_HB:Tab W0){s1:Bool}{A1:Option Addr}{n1 c1:Nat}{B1:Option Addr}{m1 d1:Nat}{q1:Rat}{k1:Nat}{b1:Bool}(HS:St W0 U Ps w)(f1:FV (.agg #[.bool s1,.slice A1 n1 c1,.slice B1 m1 d1]) q1 k1 b1 w)  : bP Tryz.prog 61 [.agg #[.bool s1,.slice A1 n1 c1,.slice B1 m1 d1]] w (dB W0 U Ps (.bool (decide (n1=0)))):=by
 have HS:=HS.add (FV.stable _ _ _ _) f1;clear f1;refine fD Tryz.func61 rfl Tryz.ntmps61 rfl<|Js<|JL.box (vs:=[.bool s1,.slice A1 n1 c1,.slice B1 m1 d1]) HS rfl rfl rfl rfl (fun g21 jU HS => ?_);refine La rfl<|Jn<|Js<|Ky 1 rfl agu rfl agy<|JL.uz (.slice A1 n1 c1) HS 0 rfl rfl rfl agz rfl<|Ll rfl agA<|Lz (.bool (decide (n1=0))) (fun a ha=>gY (ha.ev rfl) (ha.ev rfl) (aew _))<|La rfl<|Jn<|Ja Tryz.results61 (.tmp rfl)<|?_;exact ⟨rfl,HS.o0 1 1⟩
set_option maxRecDepth 100000 in
set_option maxHeartbeats 400000 in
theorem Qm(HT:Tz W0)(HB:Tab W0){A1:Option Addr}{n1 c1:Nat}{vs1:List Value}{bz:List (Rat×Bool)}{k1:Nat}(HS:St W0 U Ps w)(f1:fC U w (FL (dL k1) 3 (.slice A1 n1 c1) vs1 bz))(hk:k1<=20000)(hn:n1<=100000):bP Tryz.prog 17 [.slice A1 n1 c1] w (dB W0 U Ps (iI bz)):=by
 obtain ⟨HS,hn1⟩:=HS.arg f1;clear f1;refine fD Tryz.func17 rfl Tryz.ntmps17 rfl<|Js<|La rfl<|Jn<|JC.seq<|Js<|Lm rfl<|Ll rfl ags<|Lz (.bool (decide ((n1:Int) > 65))) (fun a ha=>iK (ha.ev rfl) (ha.ev rfl) rfl)<|Jn<|?_
 cases fK:(decide ((n1:Int) > 65))
 ·skip
  have jh:=of_decide_eq_false fK;refine JC.cO rfl<|Jk<|JC.seq<|Js<|Lm rfl<|JL.call rfl rfl Tryz.call68 (aaI HT HB HS (HS.dJ 1 rfl) af af)<|?_;rintro v22 Jm ⟨rfl,HS⟩;refine Lz (.bool (!(gK bz))) (fun a ha=>kE (ha.ev rfl))<|Jn<|?_
  cases mF:((gK bz))
  ·skip
   refine JC.dh rfl<|Js<|Lz (.iface 92 (.int .i64 2)) (fun a ha=>yj (ha.ev rfl) ah)<|La rfl<|Jn<|Ja Tryz.results17 (.tmp rfl)<|?_;exact ⟨(Wv hn1 af (by assumption)),HS.o0 0 2⟩
  ·skip
   refine JC.cO rfl<|Jk<|JC.seq<|Js<|Lm rfl<|Ll rfl ags<|Lz (.bool (decide ((n1:Int) > 0))) (fun a ha=>iK (ha.ev rfl) (ha.ev rfl) rfl)<|?_
   cases og:(decide ((n1:Int) > 0))
   ·skip
    have hd24:=of_decide_eq_false og;refine Lm rfl<|Lq<|Lq<|Lq<|Lq<|Lq<|Lq<|Lq<|Lf rfl rfl<|Jn<|JC.cO rfl<|Jk<|Js<|La rfl<|Jn<|Ja Tryz.results17 (.tmp rfl)<|?_;exact ⟨(LJ hn1 af (by assumption) (by first | exact .inl af | exact .inr (mt hzz.2 (by assumption)))),HS.o0 0 2⟩
   ·skip
    have hd24:=of_decide_eq_true og;refine Lm rfl<|dI rfl<|dI rfl<|bK (aj n1) (fun a ha=>iL (ha.ev rfl) ags)<|bK (.int .i64 ((n1-1:Nat):Int)) (fun a ha=>fF (ha.ev rfl) (ha.ev rfl) (iP af af))<|?_;have rq:n1-1<n1:=af;refine bK (.pointer (some (eaddr A1 ((n1-1)*3)))) (fun a ha=>oK (ha.ev rfl) (ha.ev rfl) ags agr rfl rq (FL.some_ (HS.at_ 1 rfl) ai rq) rfl)<|?_;have ZB:n1-1<bz.length:=af;obtain ⟨s26,yF,n26,V8,Ue,m26,d26,nU,HS⟩:=HS.kV 0 rfl (n1-1) ZB;refine bK (.agg #[.bool s26,.slice yF n26 V8,.slice Ue m26 d26]) (fun a ha=>jk (o:=0) (j:=(n1-1)) (ha.ev rfl) agt agr (HS.at_ 2 rfl) rq ai ai nU rfl)<|JL.iH rfl rfl rfl rfl rfl rfl aha (AX HT HB HS (HS.at_ 0 rfl))<|?_;rintro v27 Du ⟨rfl,HS⟩;have hzz:=KY (HS.at_ 0 rfl) hn1 (by assumption) af;refine Lt rfl rfl<|Jn<|?_
    cases xu:((decide (n26=0)))
    ·skip
     have hd28:=of_decide_eq_false xu;refine JC.cO rfl<|Jk<|Js<|La rfl<|Jn<|Ja Tryz.results17 (.tmp rfl)<|?_;exact ⟨(LJ hn1 af (by assumption) (by first | exact .inl af | exact .inr (mt hzz.2 (by assumption)))),HS.o0 0 3⟩
    ·skip
     have hd28:=of_decide_eq_true xu;refine JC.dh rfl<|Js<|Lz (.iface 92 (.int .i64 8)) (fun a ha=>yj (ha.ev rfl) ah)<|La rfl<|Jn<|Ja Tryz.results17 (.tmp rfl)<|?_;exact ⟨(WA hn1 af (by assumption) af (hzz.1 (by assumption))),HS.o0 0 3⟩
 ·skip
  have jh:=of_decide_eq_true fK;refine JC.dh rfl<|Js<|Lz (.iface 92 (.int .i64 4)) (fun a ha=>yj (ha.ev rfl) ah)<|La rfl<|Jn<|Ja Tryz.results17 (.tmp rfl)<|?_;exact ⟨(Wy hn1 af),HS.o0 0 2⟩
set_option maxRecDepth 100000 in
set_option maxHeartbeats 400000 in
theorem aa3(HT:Tz W0)(HB:Tab W0){s1:Bool}{A1:Option Addr}{n1 c1:Nat}{B1:Option Addr}{m1 d1:Nat}{q1:Rat}{k1:Nat}{b1:Bool}(HS:St W0 U Ps w)(f1:FV (.agg #[.bool s1,.slice A1 n1 c1,.slice B1 m1 d1]) q1 k1 b1 w)(hk:k1<=40000):bP Tryz.prog 71 [.agg #[.bool s1,.slice A1 n1 c1,.slice B1 m1 d1]] w (DV W0 U Ps (q1) (k1)):=by
 have HS:=HS.add (FV.stable _ _ _ _) f1;clear f1;have hl1:=FV.ZU (HS.at_ 0 rfl);refine fD Tryz.func71 rfl Tryz.ntmps71 rfl<|Js<|JL.box (vs:=[.bool s1,.slice A1 n1 c1,.slice B1 m1 d1]) HS rfl rfl rfl rfl (fun g21 jU HS => ?_);refine JL.alloc (vs:=[.bool false,.slice none 0 0,.slice none 0 0]) HS rfl agw rfl rfl (fun g22 Jm HS => ?_);refine Jn<|JC.seq<|Js<|JL.load (.agg #[.bool s1,.slice A1 n1 c1,.slice B1 m1 d1]) HS 1 rfl rfl rfl agt agr rfl rfl<|JL.call rfl rfl aha (AX HT HB HS (HS.at_ 0 rfl) )<|?_;rintro v23 Jo ⟨rfl,HS⟩
 cases og:((decide (n1=0)))
 ·skip
  refine Lm rfl<|bK (.agg #[.bool s1,.slice A1 n1 c1,.slice B1 m1 d1]) (fun a ha=>Rz (ha.ev rfl) agt agr (HS.box _ au) rfl rfl)<|JL.iH rfl rfl rfl rfl rfl rfl Tryz.call137 (Nj HT HB HS (HS.at_ 0 rfl) af)<|?_;rintro v25 Dq ⟨rfl,HS⟩;refine bK (.bool (!b1)) (fun a ha=>kE (ha.ev rfl))<|Lf rfl rfl<|Jn<|?_
  cases b1
  ·skip
   refine JC.dh rfl<|Js<|Lz (.agg #[.bool false,.slice none 0 0,.slice none 0 0]) (fun a ha=>bJ.run_build (ha.jE rfl) agu agw AY rfl)<|JL.store HS rfl rfl (i:=0) rfl agr rfl rfl rfl (vs':=[.bool false,.slice none 0 0,.slice none 0 0]) rfl rfl (fun Du HS => ?_);refine Jn<|Ja Tryz.results71 (.agg rfl agt agr (HS.box _ ak) rfl rfl)<|?_;exact ⟨_,_,_,_,_,_,_,rfl,(HS.add (FV.stable _ _ _ _) ((FV.zero 0 _).as ((FV.bad (HS.at_ 0 rfl) rfl).symm) af)).Qa 2 1 rfl rfl⟩
  ·skip
   refine JC.cO rfl<|Jk<|JC.seq<|JC.draw HS [9] ah (fun TB HS => ?_);refine DY 0 0 rfl HS.b0 rfl agu rfl agF<|Do (.bool s1) 1 1 rfl HS.b0 rfl rfl agE<|DY 1 2 rfl HS.b0 rfl agu rfl agy<|Do (.slice A1 n1 c1) 3 1 rfl HS.b0 rfl rfl agz<|DY 2 5 rfl HS.b0 rfl agu rfl agy<|Do (.slice B1 m1 d1) 6 1 rfl HS.b0 rfl rfl agz<|?_;have HS:=HS.iC 0 rfl (fun _ h=>h.num);refine nI 4 rfl rfl rfl Tryz.call140 (Sz HS (HS.at_ 0 rfl) af)<|?_;rintro afT af8 ⟨JG,PS,Ls,rfl,HS⟩;refine ⟨HS.b0,?_⟩;have HS:=HS.iC 2 rfl (fun _ h=>h.den);refine nI 7 rfl rfl rfl Tryz.call140 (Sz HS (HS.at_ 0 rfl) af)<|?_;rintro afU af9 ⟨JH,PT,Lu,rfl,HS⟩;refine ⟨HS.b0,?_⟩;refine Dv (.agg #[.bool s1,.slice JG PS Ls,.slice JH PT Lu]) 8 rfl HS.b0 (fun a ha w=>bJ.run_build (ha.jE rfl) agu agw AY rfl)<|JQ 9 [.bool s1,.slice JG PS Ls,.slice JH PT Lu] HS 0 rfl rfl rfl rfl agr (fun _ HS=>⟨(Ph (s:=9) rfl rfl),?_⟩);refine JR.next ah (fun _ _ h=>h)<|Ja Tryz.results71 (.agg rfl agt agr (HS.box _ ak) rfl rfl)<|?_;have HS:=HS.add (FV.stable _ _ _ _) (FV.copy (HS.at_ 4 rfl) (HS.at_ 2 rfl) (HS.at_ 0 rfl));exact ⟨_,_,_,_,_,_,_,rfl,HS.oh 2 6 0 rfl (fun _ h=>h.as rfl af)⟩
 ·skip
  refine Lm rfl<|Lq<|Lq<|Lq<|Lt rfl rfl<|Jn<|JC.dh rfl<|Js<|Lz (.agg #[.bool false,.slice none 0 0,.slice none 0 0]) (fun a ha=>bJ.run_build (ha.jE rfl) agu agw AY rfl)<|JL.store HS rfl rfl (i:=0) rfl agr rfl rfl rfl (vs':=[.bool false,.slice none 0 0,.slice none 0 0]) rfl rfl (fun yB HS => ?_);refine Jn<|Ja Tryz.results71 (.agg rfl agt agr (HS.box _ ak) rfl rfl)<|?_;exact ⟨_,_,_,_,_,_,_,rfl,(HS.add (FV.stable _ _ _ _) ((FV.zero 0 _).as ((FV.zn_ (HS.at_ 0 rfl) (of_decide_eq_true (by assumption))).symm) af)).Qa 2 1 rfl rfl⟩
theorem aaR(HT:Tz W0)(HB:Tab W0)(HS:St W0 U Ps w){s1:Bool}{A1:Option Addr}{n1 c1:Nat}{B1:Option Addr}{m1 d1:Nat}{q1:Rat}{k1:Nat}(f1:FV (.agg #[.bool s1,.slice A1 n1 c1,.slice B1 m1 d1]) q1 k1 true w):bP Tryz.prog 61 [.agg #[.bool s1,.slice A1 n1 c1,.slice B1 m1 d1]] w (dB W0 U Ps (.bool (decide (q1=0)))):=by
 have h:=AX HT HB HS f1;rw [show decide (n1=0)=decide (q1=0) from decide_eq_decide.2 (FV.nz f1)] at h;exact h
set_option maxRecDepth 100000 in
set_option maxHeartbeats 400000 in
theorem aa7(HT:Tz W0)(HB:Tab W0){A1:Option Addr}{n1 c1:Nat}{vs1:List Value}{bz:List Rat}{k1:Nat}(HS:St W0 U Ps w)(f1:fC U w (FL (eG k1) 3 (.slice A1 n1 c1) vs1 bz))(hn:n1<=100000):bP Tryz.prog 72 [.slice A1 n1 c1] w (DU W0 U Ps (eG k1) 3 (fQ 0 bz)):=by
 obtain ⟨HS,hn1⟩:=HS.arg f1;clear f1;refine fD Tryz.func72 rfl Tryz.ntmps72 rfl<|Js<|La rfl<|Jn<|JC.seq<|JC.block<|kL HS.tg (ι:=Option Addr×Nat×Nat×List Value×List Rat) (fun ⟨A,n,c,vs,xs⟩=>n) (fun ⟨A,n,c,vs,xs⟩=>[(0,.slice A n c)]) (fun ⟨A,n,c,vs,xs⟩ w Ua Pa=>(xs.length=n/\fQ 0 xs=fQ 0 bz/\n<=n1)/\St W0 (Ua) (EL (eG k1) 3 vs xs::FL (eG k1) 3 (.slice A n c) vs xs::Pa) w) ?_ (A1,n1,c1,vs1,bz) _ ⟨⟨hn1,rfl,ahj _⟩,(HS.iC 1 rfl (fun _ h=>h)).iC 1 rfl (fun _ h=>h)⟩;skip;rintro ⟨A,n,c,vs,xs⟩ rZ ⟨bH,HS⟩
 try dsimp only at *
 have bH:xs.length=n/\fQ 0 xs=fQ 0 bz/\n<=n1:=bH;have hxl:=bH.1;have ZF:=bH.2.2;refine JC.seq<|Js<|Lm rfl<|Ll rfl ags<|Lz (.bool (decide ((n:Int) > 0))) (fun a ha=>iK (ha.ev rfl) (ha.ev rfl) rfl)<|?_
 cases fK:(decide ((n:Int) > 0))
 ·skip
  have jh:=of_decide_eq_false fK;refine Lm rfl<|Lq<|Lq<|Lq<|Lq<|Lq<|Lq<|Lq<|Lf rfl rfl<|Jn<|JC.cO rfl<|JC.exit (fun _ _ h=>h) (fun _ _ h=>h)<|Js<|Lm rfl<|La rfl<|Jn<|Ja Tryz.results72 (.tmp rfl)<|?_;exact ⟨_,_,_,_,rfl,HS.oG 0 4 0 1 rfl rfl rfl (fun _ h=>EL.to h (qp bH.2.1 bH.1 (by first | exact .inl af | exact .inr (by assumption))) (fun _ _ h=>h)) rfl (fun _ h=>FL.to h (qp bH.2.1 bH.1 (by first | exact .inl af | exact .inr (by assumption))) (fun _ _ h=>h))⟩
 ·skip
  have jh:=of_decide_eq_true fK;refine Lm rfl<|dI rfl<|dI rfl<|bK (aj n) (fun a ha=>iL (ha.ev rfl) ags)<|bK (.int .i64 ((n-1:Nat):Int)) (fun a ha=>fF (ha.ev rfl) (ha.ev rfl) (iP af af))<|?_;have hj22:n-1<n:=af;refine bK (.pointer (some (eaddr A ((n-1)*3)))) (fun a ha=>oK (ha.ev rfl) (ha.ev rfl) ags agr rfl hj22 (FL.some_ (HS.at_ 1 rfl) ai hj22) rfl)<|?_;have ru:n-1<xs.length:=af;obtain ⟨s23,jX,n23,c23,qH,m23,d23,qY,HS⟩:=HS.zn 0 rfl (n-1) ru;refine bK (.agg #[.bool s23,.slice jX n23 c23,.slice qH m23 d23]) (fun a ha=>jk (o:=0) (j:=(n-1)) (ha.ev rfl) agt agr (HS.at_ 2 rfl) hj22 ai ai qY rfl)<|JL.iH rfl rfl rfl rfl rfl rfl aha (aaR HT HB HS (HS.at_ 0 rfl) )<|?_;rintro v24 Jp ⟨rfl,HS⟩;refine Lt rfl rfl<|Jn<|?_
  cases xq:((decide ((el xs (n-1))=0)))
  ·skip
   have hd25:=of_decide_eq_false xq;refine JC.cO rfl<|JC.exit (fun _ _ h=>h) (fun _ _ h=>h)<|Js<|Lm rfl<|La rfl<|Jn<|Ja Tryz.results72 (.tmp rfl)<|?_;exact ⟨_,_,_,_,rfl,HS.oG 0 5 1 2 rfl rfl rfl (fun _ h=>EL.to h (qp bH.2.1 bH.1 (by first | exact .inl af | exact .inr (by assumption))) (fun _ _ h=>h)) rfl (fun _ h=>FL.to h (qp bH.2.1 bH.1 (by first | exact .inl af | exact .inr (by assumption))) (fun _ _ h=>h))⟩
  ·skip
   have hd25:=of_decide_eq_true xq;refine JC.dh rfl<|Jk<|JC.block<|JC.region<|Lm rfl<|Lm rfl<|Ll rfl ags<|Lz (.int .i64 ((n-1:Nat):Int)) (fun a ha=>fF (ha.ev rfl) (ha.ev rfl) (iP af af))<|?_;have N7:0<=n-1:=af;have NV:n-1<=n:=af;have YU:=(FL.parts (HS.at_ 2 rfl)).2.1;obtain ⟨yF,hA26⟩ : ∃ B,B=(if c=0 then A else Option.map (fun a=>Addr.add a (0*3)) A):=⟨_,rfl⟩;have HS:=HS.sub 2 rfl N7 NV hA26;obtain ⟨aeq,Zz⟩ : ∃ v,v=((vs.drop (0*3)).take (((n-1)-0)*3)):=⟨_,rfl⟩;obtain ⟨JD,OV⟩ : ∃ v,v=((xs.drop 0).take ((n-1)-0)):=⟨_,rfl⟩;rw [<- Zz,<- OV] at HS;have afb:JD.length=n-1:=FL.len (HS.at_ 1 rfl);have afr:JD=xs.take (n-1):=by rw [OV];rfl
   refine Lz (.slice yF (n-1) c) (fun a ha=>RJ (l:=0) (h:=n-1) hA26 (ha.ev rfl) ags agr (.inl ⟨rfl,rfl⟩) (.inr ⟨_,_,rfl,ha.ev rfl⟩) N7 (ahk NV YU))<|La rfl<|?_;exact Kw (yF,(n-1),c,aeq,JD) ⟨⟨(by dsimp only;omega),SL bH.2.1 bH.1 af (by assumption) (by assumption),(by dsimp only;omega)⟩,HS.oG 0 5 0 1 rfl rfl rfl (fun _ h=>h) rfl (fun _ h=>h)⟩
set_option maxRecDepth 100000 in
set_option maxHeartbeats 400000 in
theorem Qy(HT:Tz W0)(HB:Tab W0){A1:Option Addr}{n1 c1:Nat}{vs1:List Value}{bz:List (Rat×Bool)}{k1:Nat}(HS:St W0 U Ps w)(f1:fC U w (FL (dL k1) 3 (.slice A1 n1 c1) vs1 bz))(hk:k1<=40000)(hn:n1<=100000):bP Tryz.prog 20 [.slice A1 n1 c1] w (DU W0 U Ps (eG k1) 3 (fQ 0 ((List.range n1).map fun i=>(el bz i).1))):=by
 obtain ⟨HS,hn1⟩:=HS.arg f1;clear f1;refine fD Tryz.func20 rfl Tryz.ntmps20 rfl<|Js<|La rfl<|Jn<|Js<|Lm rfl<|Ll rfl agx<|JL.aae (e:=40) (R:=eG k1) (x0:=(0:Rat)) (n:=n1) (z := .agg #[.bool false,.slice none 0 0,.slice none 0 0]) (zs:=[.bool false,.slice none 0 0,.slice none 0 0]) (size:=3) (bytes:=56) HS rfl rfl rfl rfl rfl ah ah rfl rfl rfl rfl af (fun _=>eG.zero _ _) (fun g21 jU HS => ?_);refine La rfl<|Jn<|JC.seq<|Js<|Lm rfl<|Ll rfl agx<|Lm rfl<|Jn<|JC.block<|kL (HS.tg.u) (ι:=Nat×List Value×List Rat) (fun ⟨i1,vG,nC⟩=>n1-i1) (fun ⟨i1,vG,nC⟩=>[(3,.slice (some ⟨g21,0,none⟩) n1 n1),(9,.slice A1 n1 c1),(10,aj n1),(11,aj i1)]) (fun ⟨i1,vG,nC⟩ w Ua Pa=>(i1<=n1/\Fill nC (fun i=>(el bz i).1) i1 n1)/\St W0 (⟨g21,40,vG⟩::Ua) (EL (eG k1) 3 vG nC::Pa) w) ?_ (0,(eU n1 [.bool false,.slice none 0 0,.slice none 0 0]),(List.replicate n1 (0:Rat))) _ ⟨⟨ahl _,Fill.start (by simp)⟩,HS.iC 0 rfl (fun _ h=>h)⟩;skip;rintro ⟨i1,vG,nC⟩ rZ ⟨bH,HS⟩
 try dsimp only at *
 have bH:i1<=n1/\Fill nC (fun i=>(el bz i).1) i1 n1:=bH;have hin1:=bH.1;have afz:nC.length=n1:=bH.2.1;refine Js<|Lb rfl rfl<|Jn<|JC.seq<|?_
 cases gX:(decide ((i1:Int)<(n1:Int)))
 ·skip
  have jH:=of_decide_eq_false gX;refine JC.cO rfl<|?_;have Y1:nC=((List.range n1).map (fun i=>(el bz i).1)):=bH.2.done' af;subst Y1;refine JC.exit (fun _ _ h=>h) (fun _ _ h=>h)<|Js<|Lm rfl<|?_;have HS:=HS.freeze 0 rfl 0 rfl (n:=n1) (c:=n1) (by first | omega | (simp <;> omega)) af;refine JL.call rfl rfl Tryz.call72 (aa7 HT HB HS (HS.dJ 0 rfl) af)<|?_;rintro v23 Jo ⟨jX,n23,c23,afZ,rfl,HS⟩;have Oc:=FL.len (HS.at_ 1 rfl);have Yy:=Oc
  try simp only [List.length_append,ai6,aij,aiI] at Yy
  refine La rfl<|Jn<|Ja Tryz.results20 (.tmp rfl)<|?_;exact ⟨_,_,_,_,rfl,HS.oG 0 7 0 1 rfl rfl rfl (fun _ h=>EL.to h rfl (fun _ _ h=>h)) rfl (fun _ h=>FL.to h rfl (fun _ _ h=>h))⟩
 ·skip
  have jH:=of_decide_eq_true gX;refine JC.dh rfl<|Jk<|JC.seq<|JC.block<|Js<|Lm rfl<|?_;have iD:i1<n1:=af;refine kM rfl rfl agx agr rfl iD (FL.some_ (HS.at_ 3 rfl) ai iD)<|?_;have hx25:i1<bz.length:=af;obtain ⟨lH,kG,n25,c25,kH,m25,d25,hc25,HS⟩:=HS.kV 2 rfl i1 hx25;refine Lz (.agg #[.bool lH,.slice kG n25 c25,.slice kH m25 d25]) (fun a ha=>jk (o:=0) (j:=i1) (ha.ev rfl) agt agr (HS.at_ 4 rfl) iD ai ai hc25 rfl)<|JL.alloc (vs:=[.bool false,.slice none 0 0,.slice none 0 0]) HS rfl agw rfl rfl (fun Nk Dt HS => ?_);refine La rfl<|JL.store HS rfl rfl (i:=0) rfl agr rfl rfl rfl (vs':=[.bool lH,.slice kG n25 c25,.slice kH m25 d25]) rfl rfl (fun Du HS => ?_);refine Jn<|JC.region<|Lm rfl<|Lm rfl<|JL.load (.agg #[.bool lH,.slice kG n25 c25,.slice kH m25 d25]) HS 0 rfl rfl rfl agt agr rfl rfl<|JL.call rfl rfl Tryz.call71 (aa3 HT HB HS (HS.at_ 0 rfl) af)<|?_;rintro v28 TB ⟨oL,nD,n28,c28,nG,m28,d28,rfl,HS⟩;refine kM rfl rfl ags agr rfl iD rfl<|?_;have HS:=HS.iC 0 rfl (fun _ h=>h.EZ (r:=((el bz i1).1)) (K:=k1) rfl af);have hx29:i1<nC.length:=af;refine JL.adG (j:=i1) (sz:=3) HS rfl rfl (i:=1) rfl (p:=3) rfl agr rfl rfl hx29 rfl rfl (r:=0) rfl (fun yB HS => ?_);refine JL.qR (fun _ _ h=>h)<|JC.region<|Lz (.int .i64 ((i1+1:Nat):Int)) (fun a ha=>kD (ha.ev rfl) (ha.ev rfl) (iP af af))<|Lm rfl<|?_;exact Jr ((i1+1),(wr vG (i1*3) [.bool oL,.slice nD n28 c28,.slice nG m28 d28]),(nC.set i1 ((el bz i1).1))) ⟨⟨af,bH.2.step af rfl⟩,HS.ot 1 5 0⟩
theorem aa9(HS:St W0 U Ps w){m1:Nat}(hm:m1<100):bP Tryz.prog 264 [aj m1] w (dB W0 U Ps (.string ⟨(Lib.decDigits m1).toArray⟩)) :=
 Calls.mono (Tryz.internal_strconv_small m1 hm w) fun e w' ⟨he,hw⟩=>⟨_,he,rfl,by rw [hw];exact HS⟩
set_option maxRecDepth 100000 in
set_option maxHeartbeats 400000 in
theorem aaQ(_HT:Tz W0)(_HB:Tab W0){m1:Nat}(HS:St W0 U Ps w)(hm:m1<100):bP Tryz.prog 242 [aj m1,.int .i64 10] w (dB W0 U Ps (.string ⟨(Lib.decDigits m1).toArray⟩)):=by
 refine fD Tryz.func242 rfl Tryz.ntmps242 rfl<|Js<|La rfl<|Jn<|JC.seq<|Js<|Lm rfl<|Lz (.bool true) (fun a ha=>gY (ha.ev rfl) (ha.ev rfl) rfl)<|Jn<|JC.dh rfl<|JC.seq<|Js<|Lm rfl<|Lz (.bool true) (fun a ha=>rM (ha.ev rfl) (ha.ev rfl) (decide_eq_true af))<|Lm rfl<|dI rfl<|bK (.bool true) (fun a ha=>rP (ha.ev rfl) (ha.ev rfl) (decide_eq_true af))<|Lt rfl rfl<|Jn<|JC.dh rfl<|Js<|Lm rfl<|JL.call rfl rfl Tryz.call264 (aa9 (m1:=m1) HS af)<|?_;rintro v21 jU ⟨rfl,HS⟩;refine La rfl<|Jn<|Ja Tryz.results242 (.tmp rfl)<|?_;exact ⟨rfl,HS.o0 0 0⟩
set_option maxRecDepth 100000 in
set_option maxHeartbeats 400000 in
theorem aaS(HT:Tz W0)(HB:Tab W0){m1:Nat}(HS:St W0 U Ps w)(hm:m1<100):bP Tryz.prog 193 [aj m1] w (dB W0 U Ps (.string ⟨(Lib.decDigits m1).toArray⟩)):=by
 refine fD Tryz.func193 rfl Tryz.ntmps193 rfl<|Js<|La rfl<|Jn<|Js<|Lm rfl<|JL.call rfl rfl Tryz.call242 (aaQ HT HB HS  af)<|?_;rintro v21 jU ⟨rfl,HS⟩;refine La rfl<|Jn<|Ja Tryz.results193 (.tmp rfl)<|?_;exact ⟨rfl,HS.o0 0 0⟩
set_option maxRecDepth 100000 in
set_option maxHeartbeats 400000 in
theorem aaT(HT:Tz W0)(HB:Tab W0){m1:Nat}(HS:St W0 U Ps w)(hm:m1<100):bP Tryz.prog 129 [aj m1] w (dB W0 U Ps (.string ⟨(Lib.decDigits m1).toArray⟩)):=by
 refine fD Tryz.func129 rfl Tryz.ntmps129 rfl<|Js<|La rfl<|Jn<|Js<|Lm rfl<|JL.call rfl rfl Tryz.call193 (aaS HT HB HS  af)<|?_;rintro v21 jU ⟨rfl,HS⟩;refine La rfl<|Jn<|Ja Tryz.results129 (.tmp rfl)<|?_;exact ⟨rfl,HS.o0 0 0⟩
set_option maxRecDepth 100000 in
set_option maxHeartbeats 400000 in
theorem aa4(HT:Tz W0)(HB:Tab W0){m1:Nat}(HS:St W0 U Ps w)(hm:m1<100):bP Tryz.prog 63 [aj m1] w (dB W0 U Ps (.string ⟨(fE m1).toArray⟩)):=by
 refine fD Tryz.func63 rfl Tryz.ntmps63 rfl<|Js<|La rfl<|Jn<|JC.seq<|Js<|Lm rfl<|Jn<|JC.block<|Js<|Lz (.bool ((m1:Int)==0)) (fun a ha=>gY (ha.ev rfl) (ha.ev rfl) rfl)<|La rfl<|Jn<|?_
 cases fK:((m1:Int)==0)
 ·skip
  have jh:¬ ((m1:Int)=0):=by simpa using fK
  refine JC.cO rfl<|Js<|Lz (.bool ((m1:Int)==1)) (fun a ha=>gY (ha.ev rfl) (ha.ev rfl) rfl)<|La rfl<|Jn<|?_
  cases gX:((m1:Int)==1)
  ·skip
   have jH:¬ ((m1:Int)=1):=by simpa using gX
   refine JC.cO rfl<|JC.lI (fun _ _ h=>h)<|Js<|Lm rfl<|JL.call rfl rfl Tryz.call129 (aaT HT HB HS  af)<|?_;rintro v23 Jo ⟨rfl,HS⟩;refine Lz (.string ⟨([32,120,94]++(Lib.decDigits m1)).toArray⟩) (fun a ha=>iw (ha.ev rfl) (ha.ev rfl) (by have:=eY hm;simp only [List.length_cons,List.length_nil];omega) rfl)<|Lz (.string ⟨([32,120,94]++(Lib.decDigits m1)).toArray⟩) (fun a ha=>run_assign (ha.ev rfl))<|Jn<|Ja (v := .string ⟨([32,120,94]++(Lib.decDigits m1)).toArray⟩) Tryz.results63 (.tmp rfl)<|?_;exact ⟨(congrArg (fun l:List UInt8=>Value.string ⟨l.toArray⟩) (show _=fE m1 by unfold fE;rw [if_neg af,if_neg af])),HS.o0 0 0⟩
  ·skip
   have jH:(m1:Int)=1:=by simpa using gX
   refine JC.dh rfl<|Js<|La rfl<|Jn<|Ja Tryz.results63 (.tmp rfl)<|?_;exact ⟨(congrArg (fun l:List UInt8=>Value.string ⟨l.toArray⟩) (show _=fE m1 by unfold fE;rw [if_neg af,if_pos af])),HS.o0 0 0⟩
 ·skip
  have jh:(m1:Int)=0:=by simpa using fK
  refine JC.dh rfl<|Js<|La rfl<|Jn<|Ja Tryz.results63 (.tmp rfl)<|?_;exact ⟨(congrArg (fun l:List UInt8=>Value.string ⟨l.toArray⟩) (show _=fE m1 by unfold fE;rw [if_pos af])),HS.o0 0 0⟩
end
end Go.Proofs.AZQ
namespace bJ
open Go Go.RowKit
variable {ds:List Deferred} {r:Option Nat}
def Loc(P:World->Prop):Prop := ∀ w w':World,w.heap.size<=w'.heap.size->(∀ (k:Nat) c t f,w.heap[k]? = some (Obj.cells c t f)->w'.heap[k]? = some (Obj.cells c t f))->P w->P w'
structure Turned(B:Nat)(w w':World):Prop where
 bel:Below B w w'
 cells : ∀ (k:Nat) c t f,w.heap[k]? = some (Obj.cells c t f)->w'.heap[k]? = some (Obj.cells c t f)
section
variable {B:Nat} {W0 w W W':World} {U U':List Box} {Ps Qs:List (World->Prop)}
theorem Turned.grown{row:Option Nat}(hg:W.grownBy W' row)(hB:B<=W.heap.size)(hr : ∀ r,row=some r->B<=r /\ ∃ o:Obj,W.heap[r]? = some o/\o.isCells=false):Turned B W W' :=
 ⟨(Below.refl B W).grown hg hB fun k e=>(hr k e).1,fun k c t f h=>by
  have hlt:=(ahD.1 h).1;refine (hg.block k hlt fun e => ?_).trans h;obtain ⟨_,o,h1,h2⟩:=hr k e.symm;rw [h] at h1;cases h1;cases h2⟩
theorem Loc.turn{P:World->Prop}{gs:List Nat}(hl:Loc P)(hs : ∀ g∈gs,oU W g)(hp : ∀ w',dK gs W w'->P w')(ht:Turned B W W') : ∀ w',dK gs W' w'->P w':=fun w'' hk=>by
 have hsz:=ahk ht.bel.size hk.size
 let H:Nat->Obj:=fun i=>match W.heap[i]?,w''.heap[i]? with
  | some (Obj.cells _ _ _),some o=>o
  | some o,_=>o
  | none,some o=>o
  | none,none => .deferred none
 let V:World := { w'' with heap:=(Array.range w''.heap.size).map H }
 have hV : ∀ i,i<w''.heap.size->V.heap[i]? = some (H i):=fun i hi=>by
  show ((Array.range w''.heap.size).map H)[i]? = _;rw [Array.getElem?_map,Array.getElem?_range,if_pos hi];rfl
 have hVs:V.heap.size=w''.heap.size:=by show ((Array.range w''.heap.size).map H).size=_;simp
 have hc : ∀ i c t f,W.heap[i]? = some (Obj.cells c t f) -> ∀ o,w''.heap[i]? = some o->V.heap[i]? = some o:=fun i c t f h o ho=>by
  rw [hV i (ahD.1 ho).1]
  show some (match W.heap[i]?,w''.heap[i]? with
   | some (Obj.cells _ _ _),some o=>o
   | some o,_=>o
   | none,some o=>o
   | none,none => .deferred none)=_
  rw [h,ho]
 have hn : ∀ (i:Nat) (o:Obj),W.heap[i]? = some o->o.isCells=false->V.heap[i]? = some o:=fun i o h ho=>by
  rw [hV i (ahr (ahD.1 h).1 hsz)]
  show some (match W.heap[i]?,w''.heap[i]? with
   | some (Obj.cells _ _ _),some o=>o
   | some o,_=>o
   | none,some o=>o
   | none,none => .deferred none)=_
  rw [h]
  cases o <;> first | rfl | cases ho
 refine hl V w'' af (fun k c t f h => ?_) (hp V ⟨af,fun b hb hg => ?_,fun b hg hb=>⟨hs b hg,?_⟩⟩)
 ·by_cases hk':k<W.heap.size
  ·obtain ⟨o,ho⟩ : ∃ o,W.heap[k]? = some o:=⟨_,ahH hk'⟩
   cases hoc:o.isCells with
   | true =>
    cases o <;> first | cases hoc | skip
    obtain ⟨o',ho'⟩ : ∃ o',w''.heap[k]? = some o':=⟨_,ahH af⟩;rw [hc k _ _ _ ho o' ho'] at h;rw [ho',h]
   | false =>
    rw [hn k o ho hoc] at h
    cases h;cases hoc
  ·have hkl:k<w''.heap.size:=by have:=(ahD.1 h).1;omega
   obtain ⟨o',ho'⟩ : ∃ o',w''.heap[k]? = some o':=⟨_,ahH hkl⟩;have e:W.heap[k]? = none:=aiL af;rw [hV k hkl] at h
   have h:some (match W.heap[k]?,w''.heap[k]? with
    | some (Obj.cells _ _ _),some o=>o
    | some o,_=>o
    | none,some o=>o
    | none,none => .deferred none)=some (Obj.cells c t f):=h
   rw [e,ho'] at h;rw [ho'];exact h
 ·obtain ⟨o,ho⟩ : ∃ o,W.heap[b]? = some o:=⟨_,ahH hb⟩
  rw [ho]
  cases hoc:o.isCells with
  | true =>
   cases o <;> first | cases hoc | skip
   exact hc b _ _ _ ho _ ((hk.same b (ahr hb ht.bel.size) hg).trans (ht.cells b _ _ _ ho))
  | false=>exact hn b o ho hoc
 ·obtain ⟨c,t,f,h1,_⟩:=hs b hg
  obtain ⟨_,c',t',f',h2,h3⟩:=hk.soft b hg (ahr hb ht.bel.size);exact ⟨c',t',f',hc b _ _ _ h1 _ h2,h3⟩
theorem St.since(HS:St W0 U' Ps W)(hk:dK (U.map Box.g) w∈Ps) : ∀ b∈U',b.g∈U.map Box.g\/w.heap.size<=b.g:=fun b hb=>by
 by_cases h1:b.g∈U.map Box.g
 ·exact .inl h1
 ·by_cases h2:w.heap.size<=b.g
  ·exact .inr h2
  ·exfalso
   have key : ∀ v:Bool,w.heap[b.g]? = some (.cells #[.bool v] 0 (0,0)):=fun v=>by
    have hlt:=HS.lt hb
    have h3:dK (U'.map Box.g) W (W.putObj b.g (.cells #[.bool v] 0 (0,0))):=⟨by simp,fun k hk hn=>World.putObj_heap_other (fun e=>hn (by rw [e];exact ahZ.2 ⟨b,hb,rfl⟩)),fun k hk hl=>⟨HS.jB k hk,by
     by_cases e:k=b.g
     ·subst e
      refine ⟨_,_,_,World.putObj_heap_same hlt,fun i x hx => ?_⟩
      cases i with
      | zero=>simp at hx;subst hx;rfl
      | succ i=>simp at hx
     ·exact (HS.jB k hk).of_same (World.putObj_heap_other e)⟩⟩
    have h4:=(HS.fact _ hk _ h3).same b.g af h1;rw [World.putObj_heap_same hlt] at h4;exact h4.symm
   have:=(key true).symm.trans (key false);simp at this
theorem St.turn(H0:St W0 U Ps w)(HS:St W0 U' (Qs++dK (U.map Box.g) w::Ps) W)(hl : ∀ Q∈Qs,Loc Q)(ht:Turned w.heap.size W W'):St W0 U' (Qs++dK (U.map Box.g) w::Ps) W':=by
 have hu:=HS.since (U:=U) (w:=w) (by simp);have hk:dK (U.map Box.g) w W:=HS.get (by simp)
 have hk' : ∀ w',dK (U'.map Box.g) W' w'->dK (U.map Box.g) w w':=fun w' h=>by
  refine ⟨by have:=hk.size;have:=ht.bel.size;have:=h.size;omega,fun b hb hn => ?_,fun b hb hlt=>⟨H0.jB b hb,?_⟩⟩
  ·have h1:=hk.same b hb hn
   have h2:=ht.bel.block b hb
   have h3:=h.same b (by have:=hk.size;have:=ht.bel.size;omega) (fun hm=>by
    obtain ⟨x,hx,rfl⟩:=ahZ.1 hm;exact (hu x hx).elim hn (fun h=>af))
   exact h3.trans (h2.trans h1)
  ·by_cases hm:b∈U'.map Box.g
   ·exact (h.soft b hm (by have:=hk.size;have:=ht.bel.size;omega)).2
   ·exact (hk.soft b hb hlt).2.of_same ((h.same b (by have:=hk.size;have:=ht.bel.size;omega) hm).trans (ht.bel.block b hlt))
 refine ⟨HS.below.trans (ht.bel.mono H0.below.size),fun b hb=>ht.cells _ _ _ _ (HS.box b hb),HS.lo,HS.nd,HS.soft,fun P hP => ?_⟩;rcases aio.1 hP with hQ | hP
 ·exact (hl P hQ).turn HS.jB (HS.fact P (ajg _ hQ)) ht
 ·rcases List.mem_cons.1 hP with rfl | hP
  ·exact hk'
  ·exact fun w' h=>H0.fact P hP w' (hk' w' h)
theorem St.others(HS:St W0 U Ps w):St W0 U (KeepsFrom B w::Ps) w :=
 ⟨HS.below,HS.box,HS.lo,HS.nd,HS.soft,fun P hP w' h=>by
  rcases List.mem_cons.1 hP with rfl | hP
  ·refine ⟨h.size,fun k o _ hk ho=>(h.same k (ahD.1 hk).1 fun hm => ?_).trans hk⟩
   obtain ⟨c,t,f,h1,_⟩:=HS.jB k hm;rw [h1] at hk;cases hk;cases ho
  ·exact HS.fact P hP w' h⟩
theorem St.defer{D:Nat}(HS:St W0 U Ps w)(hD:w.heap[D]? = some (.deferred (some []))):St W0 U ((fun w=>w.heap[D]? = some (.deferred (some [])))::Ps) w :=
 ⟨HS.below,HS.box,HS.lo,HS.nd,HS.soft,fun P hP w' h=>by
  rcases List.mem_cons.1 hP with rfl | hP
  ·refine (h.same D (ahD.1 hD).1 fun hm => ?_).trans hD
   obtain ⟨c,t,f,h1,_⟩:=HS.jB D hm;rw [h1] at hD;cases hD
  ·exact HS.fact P hP w' h⟩
theorem Qb{β ι:Type}(H0:St W0 U Ps w)(U':β->ι->List Box)(Qs:β->ι->List (World->Prop))(c:β->ι->Prop)(hl : ∀ s i,c s i -> ∀ Q∈Qs s i,Loc Q) :
  OwnFrom w.heap.size (fun s W => ∃ i,c s i/\St W0 (U' s i) (Qs s i++dK (U.map Box.g) w::Ps) W):=fun s W W' row ⟨i,hc,h⟩ hg hr =>
 ⟨i,hc,H0.turn h (hl s i hc) (.grown hg (h.get (P:=dK (U.map Box.g) w) (by simp)).size hr)⟩
end
abbrev nH(D:Nat):Deferred := { target := .collected D,args := #[] }
section
variable {P:Program} {N:Nat} {T:List (Nat×Value)} {w:World} {Q:Exit->Act->World->Prop}
theorem Kn.params : ∀ {ps:List Tmp} {vs:List Value} {ds:List Deferred} {T T':List (Nat×Value)} {a:Act},Kn ds a N T->ps.all (fun p=>Nat.blt p N)=true->(ps.zip vs).reverse++T=T'->Kn [] ⟨(ps.zip vs).foldl (fun t (p,v)=>t.setIfInBounds p v) a.tmps,[]⟩ N T'
 | [],_,_,_,_,_,h,_,e=>by subst e;exact ⟨rfl,h.2.1,h.2.2⟩
 | _::_,[],_,_,_,_,h,_,e=>by subst e;exact ⟨rfl,h.2.1,h.2.2⟩
 | p::ps,v::vs,ds,T,T',a,h,hl,e=>by
  rw [List.all_cons,Bool.and_eq_true] at hl;have h1:Kn ds (a.put (some p) v) N ((p,v)::T):=h.put hl.1 v;exact Kn.params (ps:=ps) (vs:=vs) h1 hl.2 (by rw [<- e];simp)
def KE(w W:World)(G:World->Prop):Exit->Act->World->Prop
 | .normal,_,W'=>KeepsFrom w.heap.size W W'/\G W'
 | _,_,_=>False
def qL(P:Program)(gf:Nat)(lb:Array Value)(encs:Nat->List Value)(Rd:World->Prop)(M:Nat):Prop :=
 ∀ (l:Nat) (J:Nat->World->Prop) (W:World),(∀ k W,J k W->Rd W)->(∀ k W1,k<M->J k W1->YieldAt Fence.wide 0 P l (encs k).toArray W1 fun e W'=>e = .returned (.bool true)/\J (k+1) W')->J 0 W ->
  CallsIn Fence.wide 1 P gf (#[.func (.yield l) #[] #[]]++lb) W fun e W'=>(∃ v,e = .returned v)/\J M W'
theorem TP{g:Operand}{ps:Array Tmp}{assign body:Code}{gf:Nat}{lb:Array Value}{encs:Nat->List Value}{Rd:World->Prop}{M:Nat}{a:Act}(hg:a.eval g = .func (.func gf) #[] lb)(eg : ∀ args w,(callFunc gf args).run P w = .ok (.enter gf args) w)(hseq:qL P gf lb encs Rd M)(hps : ∀ k,(encs k).length=ps.size)(G:Nat->World->Prop)(hG:OwnFrom w.heap.size G)(hR : ∀ k W,G k W->Rd W)(h0:G 0 w)(A1:Nat->Act->World->Prop)(hA : ∀ k a',OwnFrom w.heap.size fun (_:Unit) W=>A1 k a' W)(hassign : ∀ l k W,k<M->G k W->assign.wpIn (Fr (some l)) 0 P (Exit.then (fun a' W'=>KeepsFrom w.heap.size W W'/\A1 k a' W') fun _ _ _=>False) ⟨(ps.toList.zip (encs k)).foldl (fun t (p,v)=>t.setIfInBounds p v) a.tmps,[]⟩ W)(hbody : ∀ l k a' W,k<M->A1 k a' W->body.wpIn (Fr (some l)) 0 P (KE w W (G (k+1))) a' W)(hdone : ∀ D W,w.heap.size<=D->G M W->W.heap[D]? = some (.deferred (some []))->Q .normal { a with defers:=nH D::a.defers } W):(Code.rangeFunc g ps assign body).wpIn (Fr none) 0 P Q a w:=by
 refine (wpIn_wide (n:=0)).2 ((wpIn_wide (n:=2)).1 (wpIn_rangeFunc (F:=Fence.wide) ?_));intro fn hfn;show ∃ l,_;obtain ⟨rec,hrec⟩ : ∃ rec:LoopState->Loop,rec=fun st => { state:=st,pending:=none,fn,tmps:=a.tmps,params:=ps,assign,body,defers:=w.heap.size } := ⟨_,rfl⟩;obtain ⟨W1,hW1⟩ : ∃ W1,(w.alloc (.deferred (some []))).alloc (.loop (rec .ready))=W1:=⟨_,rfl⟩
 have hL1:W1.heap[w.heap.size+1]? = some (.loop (rec .ready)):=by
  rw [<- hW1];have:=World.alloc_heap_new (w.alloc (.deferred (some []))) (.loop (rec .ready));rwa [World.size_alloc] at this
 have hK1:W1.heap[w.heap.size]? = some (.deferred (some [])):=by
  rw [<- hW1];exact (Below.heap_alloc _ _ _ (by simp)).trans (World.alloc_heap_new w _)
 have hI1:G 0 W1:=by rw [<- hW1];exact hG.alloc _ (hG.alloc _ h0)
 refine ⟨w.heap.size+1,[nH w.heap.size],W1,{ target := .fn (.func gf) lb,args := #[.func (.yield (w.heap.size+1)) #[] #[]] },W1,gf,#[.func (.yield (w.heap.size+1)) #[] #[]]++lb,W1,?_,?_,?_,?_,fun _=>ai,?_⟩
 ·rw [<- hW1,hrec];exact run_enterLoop_outer _ _ _ _ _
 ·simp only [resolve,hg]
  simp [go_sem]
 ·intro f' _;trivial
 ·simp [invoke,go_sem,eg]
 ·refine (hseq (w.heap.size+1) (fun k W=>G k W/\W.heap[w.heap.size+1]? = some (.loop (rec .ready))/\W.heap[w.heap.size]? = some (.deferred (some []))) W1 (fun k W h=>hR k W h.1) ?_ ⟨hI1,hL1,hK1⟩).mono ?_
  ·rintro k W hlen ⟨hi,hl,hk⟩
   have hlt:w.heap.size+1<W.heap.size:=(ahD.1 hl).1;have hy:=run_yield (P:=P) (args:=(encs k).toArray) hl (by rw [hrec];simp [hps k]);rw [hrec] at hy
   have e:(ps.zip (encs k).toArray).foldl (fun t (p,v)=>t.setIfInBounds p v) a.tmps=(ps.toList.zip (encs k)).foldl (fun t (p,v)=>t.setIfInBounds p v) a.tmps:=by
    rw [<- Array.foldl_toList];simp
   refine ⟨fn,_,assign,body,hy,roundIn_of_wpIn hfn ?_⟩;dsimp only;rw [e];refine wpIn_mono (F:=Fr (some (w.heap.size+1))) (n:=0) (hassign _ k W hlen hi) fun ex a' Wa hp => ?_
   cases ex <;> first | exact (hp:False).elim | skip
   obtain ⟨zT,ha'⟩:=hp;replace hl:=zT.same _ _ af hl rfl;replace hk:=zT.same _ _ (ahj _) hk rfl;replace hlt:w.heap.size+1<Wa.heap.size:=(ahD.1 hl).1;clear hy hi zT
   revert ha' hl hk hlt
   generalize Wa=W;intro ha' hl hk hlt;refine ⟨_,run_beginRound hl (by rw [hrec]),?_⟩;have hl2:(W.putObj (w.heap.size+1) (.loop { rec .ready with state := .busy })).heap[w.heap.size+1]? = some (.loop { rec .ready with state := .busy }):=World.putObj_heap_same hlt;have hk2:(W.putObj (w.heap.size+1) (.loop { rec .ready with state := .busy })).heap[w.heap.size]? = some (.deferred (some [])):=(World.putObj_heap_other af).trans hk;refine wpIn_mono (F:=Fr (some (w.heap.size+1))) (n:=0) (hbody _ k a' _ hlen ((hA k a').putObj (s:=()) _ ha' af hl rfl)) fun ex a3 W3 hp => ?_
   cases ex with
   | normal =>
    obtain ⟨hk3,hi3⟩:=hp;have hl3:=hk3.same _ _ af hl2 rfl;have:=run_endRound (P:=P) none hl3;rw [hrec] at this;exact ⟨_,_,this,rfl,hG.putObj _ hi3 af hl3 rfl,by rw [hrec];exact World.putObj_heap_same (ahD.1 hl3).1,(World.putObj_heap_other af).trans (hk3.same _ _ (ahj _) hk2 rfl)⟩
   | _=>exact hp.elim
  ·rintro e W2 ⟨⟨v,rfl⟩,hi,hl,hk⟩
   exact ⟨none,_,by have:=run_endLoop (P:=P) hl (by rw [hrec];simp);rw [hrec] at this;exact this,hdone _ _ (ahj _) (hG.putObj _ hi af hl rfl) ((World.putObj_heap_other af).trans hk)⟩
theorem JC.back{ι:Type}{g:Operand}{ps:Array Tmp}{assign body:Code}{gf:Nat}{lb:Array Value}{encs:Nat->List Value}{Rd:World->Prop}{M:Nat}(hg:ev T g=some (.func (.func gf) #[] lb))(eg : ∀ args w,(callFunc gf args).run P w = .ok (.enter gf args) w)(hseq:qL P gf lb encs Rd M)(hps : ∀ k,(encs k).length=ps.size)(hN:ps.toList.all (fun p=>Nat.blt p N)=true)(G:Nat->World->Prop)(hG:OwnFrom w.heap.size G)(hR : ∀ k W,G k W->Rd W)(h0:G 0 w)(T1:Nat->ι->List (Nat×Value))(G1:Nat->ι->World->Prop)(hG1 : ∀ k,OwnFrom w.heap.size (G1 k))(hassign : ∀ l k W,k<M->G k W->JC (some l) [] P assign (Exit.then (fun a' W'=>KeepsFrom w.heap.size W W' /\ ∃ i,Kn [] a' N (T1 k i)/\G1 k i W') fun _ _ _=>False) N ((ps.toList.zip (encs k)).reverse++T) W)(hbody : ∀ l k i W,k<M->G1 k i W->JC (some l) [] P body (KE w W (G (k+1))) N (T1 k i) W)(hdone : ∀ D W,w.heap.size<=D->G M W->W.heap[D]? = some (.deferred (some [])) -> ∀ a,Kn (nH D::ds) a N T->Q .normal a W):JC none ds P (.rangeFunc g ps assign body) Q N T w:=fun a ha =>
 TP (ha.ev hg) eg hseq hps G hG hR h0 (fun k a' W => ∃ i,Kn [] a' N (T1 k i)/\G1 k i W) (fun k a' _ W W' row ⟨i,h1,h2⟩ hg hr=>⟨i,h1,hG1 k i W W' row h2 hg hr⟩) (fun l k W hk hg=>hassign l k W hk hg _ (ha.params hN rfl)) (fun l k a' W hk ⟨i,h1,h2⟩=>hbody l k i W hk h2 a' h1)
  (fun D W h1 h2 h3=>hdone D W h1 h2 h3 _ ⟨congrArg _ ha.1,ha.2.1,ha.2.2⟩)
theorem acd{fn:Func}{R:Ending->World->Prop}{D:Nat}{a:Act}(ha:Kn [nH D] a N T)(hD:w.heap[D]? = some (.deferred (some [])))(h : ∀ a',Kn [] a' N T->bodyPost P fn R .ret a' (w.putObj D (.deferred none))):bodyPostM Fence.wide 0 P fn R .ret a w:=by
 have h1:=h { a with defers:=[] } ⟨rfl,ha.2.1,ha.2.2⟩;show LeavesInM Fence.wide 0 P fn a.tmps R a.defers .returning w;rw [ha.1];exact ⟨by simp,.inl ⟨D,_,rfl,run_takeDeferred hD,h1.2⟩⟩
theorem Q7{fn:Func}{R:Ending->World->Prop}{a:Act}(ha:Kn [] a N T)(h:bodyPost P fn R .ret a w):bodyPostM Fence.wide 0 P fn R .ret a w:=by
 show LeavesInM Fence.wide 0 P fn a.tmps R a.defers .returning w;rw [ha.1];exact h.2
theorem MF{f:FuncId}{fn:Func}{c:Code}{vs:List Value}{R:Value->World->Prop}(hf:P.funcs[f]? = some fn)(hb:fn.body=some c)(hn:fn.ntmps=N)(hl:Nat.ble vs.length N=true)(h:JC none [] P c (bodyPostM Fence.wide 0 P fn (fun e w' => ∃ v,e = .returned v/\R v w')) N (args 0 vs) w):bP P f vs w R:=by
 refine callsIn_wide.1 (callsIn_of_wp_marks (F:=Fence.wide) (n:=0) hf hb trivial (h _ ⟨rfl,?_,fun t v hv => ?_⟩) rfl)
 ·have:=aho hl
  simp [hn];omega
 ·obtain ⟨j,e,h1⟩:=Ai hv
  rw [ahC] at e;subst e;have h2:=(ahy.1 h1).1;have h3:=(ahy.1 h1).2;simp [ajd,h2,h3]
theorem St.leave{W0 W:World}{U U':List Box}{Ps Ps' Qs:List (World->Prop)}{D:Nat}(H0:St W0 U Ps w)(HS:St W0 U' Ps' W)(hk:dK (U.map Box.g) w∈Ps')(hQ : ∀ Q∈Qs,Q∈Ps')(hl : ∀ Q∈Qs,Loc Q)(hp : ∀ Q∈Ps,Q∈Ps')(hD:w.heap.size<=D)(hd:W.heap[D]? = some (.deferred (some []))) :
  St W0 U' (Qs++dK (U.map Box.g) w::Ps) (W.putObj D (.deferred none)):=by
 have hkW:dK (U.map Box.g) w W:=HS.get hk;refine H0.turn (HS.facts fun P hP => ?_) hl (.grown (grownBy_putObj' W D _) hkW.size fun r e=>by cases e;exact ⟨hD,_,hd,rfl⟩);rcases aio.1 hP with h | h
 ·exact hQ P h
 ·rcases List.mem_cons.1 h with rfl | h
  ·exact hk
  ·exact hp P h
end
end bJ
