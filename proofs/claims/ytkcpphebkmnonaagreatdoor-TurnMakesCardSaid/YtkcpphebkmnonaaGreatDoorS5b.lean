/- Part of a proof, said shortly. -/
import Derived.Test.YtkcpphebkmnonaaGreatDoorAlzb
import Derived.Test.YtkcpphebkmnonaaGreatDoorC12b
import Derived.Test.YtkcpphebkmnonaaGreatDoorS3b
import Derived.Test.YtkcpphebkmnonaaGreatDoorC11b
import Derived.Test.YtkcpphebkmnonaaGreatDoorS4b
import Derived.Test.YtkcpphebkmnonaaGreatDoorC17b
import Derived.Test.YtkcpphebkmnonaaGreatDoorC9b
import Derived.Test.YtkcpphebkmnonaaGreatDoorC8b
import Derived.Test.YtkcpphebkmnonaaGreatDoorC5b
import Derived.Test.YtkcpphebkmnonaaGreatDoorC2b
import Derived.Test.YtkcpphebkmnonaaGreatDoorC1b
import Derived.Test.YtkcpphebkmnonaaGreatDoorC4b
import Derived.Test.YtkcpphebkmnonaaGreatDoorC3b
import Derived.Test.YtkcpphebkmnonaaGreatDoorC7b
import Derived.Test.YtkcpphebkmnonaaGreatDoorC6b
import Derived.Test.YtkcpphebkmnonaaGreatDoorC16b
import Derived.Test.YtkcpphebkmnonaaGreatDoorC15b
import Derived.Test.YtkcpphebkmnonaaGreatDoorC13b
import Derived.Test.YtkcpphebkmnonaaGreatDoorC14b
import Derived.Test.YtkcpphebkmnonaaGreatDoorC18b
set_option maxRecDepth 100000
set_option maxHeartbeats 8000000
set_option linter.unusedVariables false
set_option linter.unusedSimpArgs false
namespace Go.Proofs.BGQ
open Go Go.RowKit Lw bF
section
variable {W0 w:World} {U:List Box} {Ps:List (World->Prop)}
variable {c n z:Int} {f r:List UInt8} {j m:Nat} {b:UInt8}
theorem FI.tw{v:Value}{x y:Int}{k K:Nat}{w:World}(h:FI v x k w)(hq:x=y)(hK:y.natAbs<pw K):FI v y K w:=by subst hq;exact dK.tight h hK
theorem mW(h:j<=300):((10:Int)^j).natAbs<pw 40:=by
 rw [Int.natAbs_pow];obtain ⟨e,he⟩ : ∃ e:Nat,e=3:=⟨3,rfl⟩;have h3:10^j<=(10^100)^e:=by rw [<- awY];exact awv ai af
 have h4:(10^100)^e<pw 40:=by subst he;decide +kernel
 exact awh h3 h4
theorem nI(hz:z.natAbs<pw 32)(hr:dG r\/True)(hd:bI (r.take j)<10^j)(h:j<=300):(z*10^j+(bI (r.take j):Int)).natAbs<pw 80:=by
 have h1:=mW h;rw [Int.natAbs_pow] at h1
 have h2:(z*10^j+(bI (r.take j):Int)).natAbs<=z.natAbs*10^j+10^j:=by
  have e1:(z*10^j).natAbs=z.natAbs*10^j:=by rw [awC,Int.natAbs_pow];rfl
  have e2:=Int.natAbs_add_le (z*10^j) (bI (r.take j):Int);rw [e1,av2] at e2;omega
 have h3:z.natAbs*10^j+10^j=(z.natAbs+1)*10^j:=by rw [awe,awp]
 have h4:(z.natAbs+1)*10^j<=pw 32*pw 40:=awy af (awg h1);have h5:pw 32*pw 40<pw 80:=by decide +kernel
 omega
theorem Ae(hb:r[j]? = some b):(z*10^j+(bI (r.take j):Int))*10+((b.toNat-48:Nat):Int)=z*10^(j+1)+(bI (r.take (j+1)):Int):=by
 obtain ⟨hj,e⟩:=awD.1 hb;rw [y9 hj,e,aw8,Int.add_mul,awV,aws,Int.mul_assoc,Int.add_assoc]
 rfl
theorem zC(h:0<r.length):(((r.length:Nat):Int)==0)=false:=by rw [beq_eq_false_iff_ne];omega
theorem Aw(h:48<=b.toNat/\b.toNat<=57):IntKind.u8.wrap (((b.toNat:Nat):Int)-48)=((b.toNat-48:Nat):Int):=by rw [IntKind.wrap_u8];omega
theorem ahz(HT:Tz W0)(HB:Tab W0)(HS:St W0 U Ps w)(h45 : ∀ x,f[0]? = some x->x.toNat≠45)(hp:RP f z c)(hl:r.length<=300)(hbad:c≠0\/z<0\/r.length=0\/64<n):bC Tryz.prog 123 [.string ⟨f.toArray⟩,.string ⟨r.toArray⟩,.int .i64 n] w (fJ W0 U Ps 0 200 (.int .i64 2)):=by
 refine cO au1 rfl au2 rfl<|Js<|JL.alloc (vs:=df) HS rfl atF rfl rfl (fun g1 w1 HS => ?_);refine La rfl<|Jn<|Js<|Lm rfl<|Lz (.int .i64 (f.length:Int)) (fun a ha=>dQ (ha.ev rfl) atE rfl)<|Lz (.bool (decide ((f.length:Int) > 0))) (fun a ha=>dH (ha.ev rfl) (ha.ev rfl) rfl)<|?_
 cases hsp2:(decide ((f.length:Int) > 0))
 ·skip
  refine Lm rfl<|Lq<|Lq<|Lq<|Lf rfl rfl<|La rfl<|Jn<|JC.seq<|Js<|Lm rfl<|Jn<|JC.bG rfl<|Jk<|Js<|Lm rfl<|JL.call rfl rfl at7 (hp HS)<|?_;rintro v3 w3 ⟨s3,A3,n3,c3,rfl,HS⟩;refine Lm rfl<|Lx rfl rfl<|Lx rfl rfl<|JL.alloc (vs:=[.bool false,.slice none 0 0]) HS rfl atM rfl rfl (fun g4 w4 HS => ?_);refine JL.store HS rfl rfl (i:=0) rfl atB rfl rfl rfl (vs':=[.bool s3,.slice A3 n3 c3]) rfl rfl (fun w5 HS => ?_);refine La rfl<|Jn<|JC.seq<|Js<|Lm rfl<|Lz (.bool (c != 0)) (fun a ha=>gG (ha.ev rfl) (ha.ev rfl) rfl)<|?_
  cases aeL:(c != 0)
  ·skip
   refine Lm rfl<|bz (.agg #[.bool s3,.slice A3 n3 c3]) (fun a ha=>dJ (ha.ev rfl) atH atB (HS.box _ ak) rfl rfl)<|JL.dD rfl rfl rfl rfl rfl rfl aul (o9 HT HB HS (HS.at_ 0 rfl) af)<|?_;rintro v7 w7 ⟨rfl,HS⟩;refine bz (.bool (decide (z<0))) (fun a ha=>dU (ha.ev rfl) (ha.ev rfl) (uF _))<|Lf rfl rfl<|?_
   cases LW:((decide (z<0)))
   ·skip
    refine Lm rfl<|bJ rfl<|bz (.int .i64 (r.length:Int)) (fun a ha=>dQ (ha.ev rfl) atE rfl)<|bz (.bool ((r.length:Int)==0)) (fun a ha=>dh (ha.ev rfl) (ha.ev rfl) rfl)<|Lf rfl rfl<|?_
    cases rX:((r.length:Int)==0)
    ·skip
     refine Lm rfl<|bJ rfl<|bz (.bool (decide (n > 64))) (fun a ha=>dH (ha.ev rfl) (ha.ev rfl) rfl)<|Lf rfl rfl<|Jn<|?_
     cases vz:(decide (n > 64))
     ·skip
      exact absurd hbad (by rintro (h | h | h | h);exact h (by simpa using aeL);exact of_decide_eq_false LW h;exact absurd h (by simpa using rX);exact of_decide_eq_false vz h)
     ·skip
      refine JC.bK rfl<|Js<|Lz dW (fun a ha=>bF.run_build (ha.bW rfl) atL atF fO rfl)<|JL.store HS rfl rfl (i:=1) rfl atz rfl rfl rfl (vs':=df) rfl rfl (fun qO HS => ?_);refine La rfl<|Jn<|Jb Tryz.results123 (.agg rfl atD atz (HS.box _ au) rfl rfl) (.tmp rfl)<|?_;exact ⟨_,_,_,_,_,_,_,rfl,(HS.add (FV.stable _ _ _ _) ((FV.zero 0 _).as rfl af)).jm 2 1 rfl rfl⟩
    ·skip
     refine Lm rfl<|Lq<|Lq<|Lt rfl rfl<|Jn<|JC.bK rfl<|Js<|Lz dW (fun a ha=>bF.run_build (ha.bW rfl) atL atF fO rfl)<|JL.store HS rfl rfl (i:=1) rfl atz rfl rfl rfl (vs':=df) rfl rfl (fun w12 HS => ?_);refine La rfl<|Jn<|Jb Tryz.results123 (.agg rfl atD atz (HS.box _ au) rfl rfl) (.tmp rfl)<|?_;exact ⟨_,_,_,_,_,_,_,rfl,(HS.add (FV.stable _ _ _ _) ((FV.zero 0 _).as rfl af)).jm 2 1 rfl rfl⟩
   ·skip
    refine Lm rfl<|Lq<|Lq<|Lq<|Lt rfl rfl<|Lm rfl<|Lq<|Lq<|Lt rfl rfl<|Jn<|JC.bK rfl<|Js<|Lz dW (fun a ha=>bF.run_build (ha.bW rfl) atL atF fO rfl)<|JL.store HS rfl rfl (i:=1) rfl atz rfl rfl rfl (vs':=df) rfl rfl (fun uI HS => ?_);refine La rfl<|Jn<|Jb Tryz.results123 (.agg rfl atD atz (HS.box _ au) rfl rfl) (.tmp rfl)<|?_;exact ⟨_,_,_,_,_,_,_,rfl,(HS.add (FV.stable _ _ _ _) ((FV.zero 0 _).as rfl af)).jm 2 1 rfl rfl⟩
  ·skip
   refine Lm rfl<|Lq<|Lq<|Lq<|Lt rfl rfl<|Lm rfl<|Lq<|Lq<|Lq<|Lt rfl rfl<|Lm rfl<|Lq<|Lq<|Lt rfl rfl<|Jn<|JC.bK rfl<|Js<|Lz dW (fun a ha=>bF.run_build (ha.bW rfl) atL atF fO rfl)<|JL.store HS rfl rfl (i:=1) rfl atz rfl rfl rfl (vs':=df) rfl rfl (fun uJ HS => ?_);refine La rfl<|Jn<|Jb Tryz.results123 (.agg rfl atD atz (HS.box _ au) rfl rfl) (.tmp rfl)<|?_;exact ⟨_,_,_,_,_,_,_,rfl,(HS.add (FV.stable _ _ _ _) ((FV.zero 0 _).as rfl af)).jm 2 1 rfl rfl⟩
 ·skip
  have hd2:=of_decide_eq_true hsp2;obtain ⟨x0,hx0⟩ : ∃ x,f[0]? = some x:=⟨_,awf (show 0<f.length from af)⟩;have C9:=h45 x0 hx0;refine Lm rfl<|bJ rfl<|bz (.int .u8 (x0.toNat:Int)) (fun a ha=>fE (ha.ev rfl) (ha.ev rfl) atE rfl hx0 rfl)<|bz (.bool false) (fun a ha=>dh (ha.ev rfl) (ha.ev rfl) (MP C9))<|Lt rfl rfl<|La rfl<|Jn<|JC.seq<|Js<|Lm rfl<|Jn<|JC.bG rfl<|Jk<|Js<|Lm rfl<|JL.call rfl rfl at7 (hp HS)<|?_;rintro v15 IP ⟨s15,OI,n15,c15,rfl,HS⟩;refine Lm rfl<|Lx rfl rfl<|Lx rfl rfl<|JL.alloc (vs:=[.bool false,.slice none 0 0]) HS rfl atM rfl rfl (fun g16 w16 HS => ?_);refine JL.store HS rfl rfl (i:=0) rfl atB rfl rfl rfl (vs':=[.bool s15,.slice OI n15 c15]) rfl rfl (fun Oo HS => ?_);refine La rfl<|Jn<|JC.seq<|Js<|Lm rfl<|Lz (.bool (c != 0)) (fun a ha=>gG (ha.ev rfl) (ha.ev rfl) rfl)<|?_
  cases aeC:(c != 0)
  ·skip
   refine Lm rfl<|bz (.agg #[.bool s15,.slice OI n15 c15]) (fun a ha=>dJ (ha.ev rfl) atH atB (HS.box _ ak) rfl rfl)<|JL.dD rfl rfl rfl rfl rfl rfl aul (o9 HT HB HS (HS.at_ 0 rfl) af)<|?_;rintro v19 Oq ⟨rfl,HS⟩;refine bz (.bool (decide (z<0))) (fun a ha=>dU (ha.ev rfl) (ha.ev rfl) (uF _))<|Lf rfl rfl<|?_
   cases aeD:((decide (z<0)))
   ·skip
    refine Lm rfl<|bJ rfl<|bz (.int .i64 (r.length:Int)) (fun a ha=>dQ (ha.ev rfl) atE rfl)<|bz (.bool ((r.length:Int)==0)) (fun a ha=>dh (ha.ev rfl) (ha.ev rfl) rfl)<|Lf rfl rfl<|?_
    cases aeE:((r.length:Int)==0)
    ·skip
     refine Lm rfl<|bJ rfl<|bz (.bool (decide (n > 64))) (fun a ha=>dH (ha.ev rfl) (ha.ev rfl) rfl)<|Lf rfl rfl<|Jn<|?_
     cases aeF:(decide (n > 64))
     ·skip
      exact absurd hbad (by rintro (h | h | h | h);exact h (by simpa using aeC);exact of_decide_eq_false aeD h;exact absurd h (by simpa using aeE);exact of_decide_eq_false aeF h)
     ·skip
      refine JC.bK rfl<|Js<|Lz dW (fun a ha=>bF.run_build (ha.bW rfl) atL atF fO rfl)<|JL.store HS rfl rfl (i:=1) rfl atz rfl rfl rfl (vs':=df) rfl rfl (fun fH HS => ?_);refine La rfl<|Jn<|Jb Tryz.results123 (.agg rfl atD atz (HS.box _ au) rfl rfl) (.tmp rfl)<|?_;exact ⟨_,_,_,_,_,_,_,rfl,(HS.add (FV.stable _ _ _ _) ((FV.zero 0 _).as rfl af)).jm 2 1 rfl rfl⟩
    ·skip
     refine Lm rfl<|Lq<|Lq<|Lt rfl rfl<|Jn<|JC.bK rfl<|Js<|Lz dW (fun a ha=>bF.run_build (ha.bW rfl) atL atF fO rfl)<|JL.store HS rfl rfl (i:=1) rfl atz rfl rfl rfl (vs':=df) rfl rfl (fun gu HS => ?_);refine La rfl<|Jn<|Jb Tryz.results123 (.agg rfl atD atz (HS.box _ au) rfl rfl) (.tmp rfl)<|?_;exact ⟨_,_,_,_,_,_,_,rfl,(HS.add (FV.stable _ _ _ _) ((FV.zero 0 _).as rfl af)).jm 2 1 rfl rfl⟩
   ·skip
    refine Lm rfl<|Lq<|Lq<|Lq<|Lt rfl rfl<|Lm rfl<|Lq<|Lq<|Lt rfl rfl<|Jn<|JC.bK rfl<|Js<|Lz dW (fun a ha=>bF.run_build (ha.bW rfl) atL atF fO rfl)<|JL.store HS rfl rfl (i:=1) rfl atz rfl rfl rfl (vs':=df) rfl rfl (fun gy HS => ?_);refine La rfl<|Jn<|Jb Tryz.results123 (.agg rfl atD atz (HS.box _ au) rfl rfl) (.tmp rfl)<|?_;exact ⟨_,_,_,_,_,_,_,rfl,(HS.add (FV.stable _ _ _ _) ((FV.zero 0 _).as rfl af)).jm 2 1 rfl rfl⟩
  ·skip
   refine Lm rfl<|Lq<|Lq<|Lq<|Lt rfl rfl<|Lm rfl<|Lq<|Lq<|Lq<|Lt rfl rfl<|Lm rfl<|Lq<|Lq<|Lt rfl rfl<|Jn<|JC.bK rfl<|Js<|Lz dW (fun a ha=>bF.run_build (ha.bW rfl) atL atF fO rfl)<|JL.store HS rfl rfl (i:=1) rfl atz rfl rfl rfl (vs':=df) rfl rfl (fun iJ HS => ?_);refine La rfl<|Jn<|Jb Tryz.results123 (.agg rfl atD atz (HS.box _ au) rfl rfl) (.tmp rfl)<|?_;exact ⟨_,_,_,_,_,_,_,rfl,(HS.add (FV.stable _ _ _ _) ((FV.zero 0 _).as rfl af)).jm 2 1 rfl rfl⟩
theorem ahy(HT:Tz W0)(HB:Tab W0)(HS:St W0 U Ps w)(hp:RP f z c)(hl:r.length<=300)(hbad:c≠0\/z<0\/r.length=0\/64<n):bC Tryz.prog 123 [.string ⟨(45::f).toArray⟩,.string ⟨r.toArray⟩,.int .i64 n] w (fJ W0 U Ps 0 200 (.int .i64 2)):=by
 refine cO au1 rfl au2 rfl<|Js<|JL.alloc (vs:=df) HS rfl atF rfl rfl (fun g1 w1 HS => ?_);refine La rfl<|Jn<|Js<|Lm rfl<|Lz (.int .i64 ((45::f).length:Int)) (fun a ha=>dQ (ha.ev rfl) atE rfl)<|Lz (.bool true) (fun a ha=>dH (ha.ev rfl) (ha.ev rfl) (decide_eq_true (by simp)))<|Lm rfl<|bJ rfl<|bz (.int .u8 45) (fun a ha=>fE (ha.ev rfl) (ha.ev rfl) atE rfl rfl rfl)<|bz (.bool true) (fun a ha=>dh (ha.ev rfl) (ha.ev rfl) ai)<|Lt rfl rfl<|La rfl<|Jn<|JC.seq<|Js<|Lm rfl<|Jn<|JC.bK rfl<|JC.region<|Lm rfl<|Lz (.string ⟨f.toArray⟩) (fun a ha=>zV (ha.ev rfl) (ha.ev rfl) atE rfl (by simp) rfl)<|La rfl<|Jn<|Js<|Lm rfl<|JL.call rfl rfl at7 (hp HS)<|?_;rintro v2 w2 ⟨s2,A2,n2,c2,rfl,HS⟩;refine Lm rfl<|Lx rfl rfl<|Lx rfl rfl<|JL.alloc (vs:=[.bool false,.slice none 0 0]) HS rfl atM rfl rfl (fun g3 w3 HS => ?_);refine JL.store HS rfl rfl (i:=0) rfl atB rfl rfl rfl (vs':=[.bool s2,.slice A2 n2 c2]) rfl rfl (fun w4 HS => ?_);refine La rfl<|Jn<|JC.seq<|Js<|Lm rfl<|Lz (.bool (c != 0)) (fun a ha=>gG (ha.ev rfl) (ha.ev rfl) rfl)<|?_
 cases aeI:(c != 0)
 ·skip
  refine Lm rfl<|bz (.agg #[.bool s2,.slice A2 n2 c2]) (fun a ha=>dJ (ha.ev rfl) atH atB (HS.box _ ak) rfl rfl)<|JL.dD rfl rfl rfl rfl rfl rfl aul (o9 HT HB HS (HS.at_ 0 rfl) af)<|?_;rintro v6 w6 ⟨rfl,HS⟩;refine bz (.bool (decide (z<0))) (fun a ha=>dU (ha.ev rfl) (ha.ev rfl) (uF _))<|Lf rfl rfl<|?_
  cases aeN:((decide (z<0)))
  ·skip
   refine Lm rfl<|bJ rfl<|bz (.int .i64 (r.length:Int)) (fun a ha=>dQ (ha.ev rfl) atE rfl)<|bz (.bool ((r.length:Int)==0)) (fun a ha=>dh (ha.ev rfl) (ha.ev rfl) rfl)<|Lf rfl rfl<|?_
   cases LW:((r.length:Int)==0)
   ·skip
    refine Lm rfl<|bJ rfl<|bz (.bool (decide (n > 64))) (fun a ha=>dH (ha.ev rfl) (ha.ev rfl) rfl)<|Lf rfl rfl<|Jn<|?_
    cases rX:(decide (n > 64))
    ·skip
     exact absurd hbad (by rintro (h | h | h | h);exact h (by simpa using aeI);exact of_decide_eq_false aeN h;exact absurd h (by simpa using LW);exact of_decide_eq_false rX h)
    ·skip
     refine JC.bK rfl<|Js<|Lz dW (fun a ha=>bF.run_build (ha.bW rfl) atL atF fO rfl)<|JL.store HS rfl rfl (i:=1) rfl atz rfl rfl rfl (vs':=df) rfl rfl (fun w10 HS => ?_);refine La rfl<|Jn<|Jb Tryz.results123 (.agg rfl atD atz (HS.box _ au) rfl rfl) (.tmp rfl)<|?_;exact ⟨_,_,_,_,_,_,_,rfl,(HS.add (FV.stable _ _ _ _) ((FV.zero 0 _).as rfl af)).jm 2 1 rfl rfl⟩
   ·skip
    refine Lm rfl<|Lq<|Lq<|Lt rfl rfl<|Jn<|JC.bK rfl<|Js<|Lz dW (fun a ha=>bF.run_build (ha.bW rfl) atL atF fO rfl)<|JL.store HS rfl rfl (i:=1) rfl atz rfl rfl rfl (vs':=df) rfl rfl (fun qO HS => ?_);refine La rfl<|Jn<|Jb Tryz.results123 (.agg rfl atD atz (HS.box _ au) rfl rfl) (.tmp rfl)<|?_;exact ⟨_,_,_,_,_,_,_,rfl,(HS.add (FV.stable _ _ _ _) ((FV.zero 0 _).as rfl af)).jm 2 1 rfl rfl⟩
  ·skip
   refine Lm rfl<|Lq<|Lq<|Lq<|Lt rfl rfl<|Lm rfl<|Lq<|Lq<|Lt rfl rfl<|Jn<|JC.bK rfl<|Js<|Lz dW (fun a ha=>bF.run_build (ha.bW rfl) atL atF fO rfl)<|JL.store HS rfl rfl (i:=1) rfl atz rfl rfl rfl (vs':=df) rfl rfl (fun w12 HS => ?_);refine La rfl<|Jn<|Jb Tryz.results123 (.agg rfl atD atz (HS.box _ au) rfl rfl) (.tmp rfl)<|?_;exact ⟨_,_,_,_,_,_,_,rfl,(HS.add (FV.stable _ _ _ _) ((FV.zero 0 _).as rfl af)).jm 2 1 rfl rfl⟩
 ·skip
  refine Lm rfl<|Lq<|Lq<|Lq<|Lt rfl rfl<|Lm rfl<|Lq<|Lq<|Lq<|Lt rfl rfl<|Lm rfl<|Lq<|Lq<|Lt rfl rfl<|Jn<|JC.bK rfl<|Js<|Lz dW (fun a ha=>bF.run_build (ha.bW rfl) atL atF fO rfl)<|JL.store HS rfl rfl (i:=1) rfl atz rfl rfl rfl (vs':=df) rfl rfl (fun uI HS => ?_);refine La rfl<|Jn<|Jb Tryz.results123 (.agg rfl atD atz (HS.box _ au) rfl rfl) (.tmp rfl)<|?_;exact ⟨_,_,_,_,_,_,_,rfl,(HS.add (FV.stable _ _ _ _) ((FV.zero 0 _).as rfl af)).jm 2 1 rfl rfl⟩
theorem ahx(HT:Tz W0)(HB:Tab W0)(HS:St W0 U Ps w)(h45 : ∀ x,f[0]? = some x->x.toNat≠45)(hp:RP f z c)(hl:r.length<=300)(hc0:c=0)(hz0:0<=z)(hr0:0<r.length)(zq:n<=64)(hz:z.natAbs<pw 32)(hdt : ∀ j,j<=m->bI (r.take j)<10^j)(hm:m<r.length)(hdig : ∀ (j:Nat) (b:UInt8),j<m->r[j]? = some b->48<=b.toNat/\b.toNat<=57)(hbad : ∀ b,r[m]? = some b->¬ (48<=b.toNat/\b.toNat<=57)):bC Tryz.prog 123 [.string ⟨f.toArray⟩,.string ⟨r.toArray⟩,.int .i64 n] w (fJ W0 U Ps 0 200 (.int .i64 2)):=by
 refine cO au1 rfl au2 rfl<|Js<|JL.alloc (vs:=df) HS rfl atF rfl rfl (fun g1 w1 HS => ?_);refine La rfl<|Jn<|Js<|Lm rfl<|Lz (.int .i64 (f.length:Int)) (fun a ha=>dQ (ha.ev rfl) atE rfl)<|Lz (.bool (decide ((f.length:Int) > 0))) (fun a ha=>dH (ha.ev rfl) (ha.ev rfl) rfl)<|?_
 cases hsp2:(decide ((f.length:Int) > 0))
 ·skip
  refine Lm rfl<|Lq<|Lq<|Lq<|Lf rfl rfl<|La rfl<|Jn<|JC.seq<|Js<|Lm rfl<|Jn<|JC.bG rfl<|Jk<|Js<|Lm rfl<|JL.call rfl rfl at7 (hp HS)<|?_;rintro v3 w3 ⟨s3,A3,n3,c3,rfl,HS⟩;refine Lm rfl<|Lx rfl rfl<|Lx rfl rfl<|JL.alloc (vs:=[.bool false,.slice none 0 0]) HS rfl atM rfl rfl (fun g4 w4 HS => ?_);refine JL.store HS rfl rfl (i:=0) rfl atB rfl rfl rfl (vs':=[.bool s3,.slice A3 n3 c3]) rfl rfl (fun w5 HS => ?_);refine La rfl<|Jn<|JC.seq<|Js<|Lm rfl<|Lz (.bool false) (fun a ha=>gG (ha.ev rfl) (ha.ev rfl) (by rw [hc0];rfl))<|Lm rfl<|bz (.agg #[.bool s3,.slice A3 n3 c3]) (fun a ha=>dJ (ha.ev rfl) atH atB (HS.box _ ak) rfl rfl)<|JL.dD rfl rfl rfl rfl rfl rfl aul (o9 HT HB HS (HS.at_ 0 rfl) af)<|?_;rintro v6 w6 ⟨rfl,HS⟩;refine bz (.bool false) (fun a ha=>dU (ha.ev rfl) (ha.ev rfl) ((uF _).trans (decide_eq_false (show ¬ z<0 from af))))<|Lf rfl rfl<|Lm rfl<|bJ rfl<|bz (.int .i64 (r.length:Int)) (fun a ha=>dQ (ha.ev rfl) atE rfl)<|bz (.bool false) (fun a ha=>dh (ha.ev rfl) (ha.ev rfl) (zC hr0))<|Lf rfl rfl<|Lm rfl<|bJ rfl<|bz (.bool false) (fun a ha=>dH (ha.ev rfl) (ha.ev rfl) (decide_eq_false af))<|Lf rfl rfl<|Jn<|JC.bG rfl<|Jk<|Js<|JL.call rfl rfl auz (vZ HT HB HS  )<|?_;rintro v7 w7 ⟨s7,A7,n7,c7,rfl,HS⟩;refine JL.alloc (vs:=[.bool false,.slice none 0 0]) HS rfl atM rfl rfl (fun g8 w8 HS => ?_);refine JL.store HS rfl rfl (i:=0) rfl atB rfl rfl rfl (vs':=[.bool s7,.slice A7 n7 c7]) rfl rfl (fun w9 HS => ?_);refine Jn<|JC.seq<|Js<|Lm rfl<|Lz (.int .i64 (r.length:Int)) (fun a ha=>dQ (ha.ev rfl) atE rfl)<|Lm rfl<|Jn<|JC.block<|Jw (ι:=zA) (fun ⟨j,s9,A9,n9,c9,s11,dV,n11,c11⟩=>r.length-j) (fun ⟨j,s9,A9,n9,c9,s11,dV,n11,c11⟩=>[(0,.string ⟨f.toArray⟩),(1,.string ⟨r.toArray⟩),(2,.int .i64 n),(6,.pointer (some ⟨g1,0,none⟩)),(8,.bool false),(9,.pointer (some ⟨g4,0,none⟩)),(10,.int .i64 c),(11,.pointer (some ⟨g8,0,none⟩)),(13,.string ⟨f.toArray⟩),(14,.int .i64 (f.length:Int)),(15,.bool false),(16,.bool false),(20,.bool false),(21,.bool false),(24,.tuple #[.agg #[.bool s3,.slice A3 n3 c3],.int .i64 c]),(25,.string ⟨f.toArray⟩),(26,.tuple #[.agg #[.bool s3,.slice A3 n3 c3],.int .i64 c]),(27,.agg #[.bool s3,.slice A3 n3 c3]),(28,.int .i64 c),(29,.int .i64 c),(30,.bool false),(31,.bool false),(32,.agg #[.bool s3,.slice A3 n3 c3]),(33,.int .i64 (dL z)),(34,.bool false),(35,.bool false),(36,.bool false),(37,.string ⟨r.toArray⟩),(38,.int .i64 (r.length:Int)),(39,.bool false),(40,.bool false),(41,.bool false),(42,.int .i64 n),(43,.bool false),(44,.bool false),(46,.agg #[.bool s7,.slice A7 n7 c7]),(47,.string ⟨r.toArray⟩),(48,.int .i64 (r.length:Int)),(49,aj j)]) (fun ⟨j,s9,A9,n9,c9,s11,dV,n11,c11⟩ w=>(j<=m)/\St W0 (⟨g8,79,[.bool s11,.slice dV n11 c11]⟩::⟨g4,79,[.bool s9,.slice A9 n9 c9]⟩::⟨g1,24,df⟩::U) (FI (.agg #[.bool s9,.slice A9 n9 c9]) (z*10^j+(bI (r.take j):Int)) 80::FI (.agg #[.bool s11,.slice dV n11 c11]) ((10:Int)^j) 40::FI (.agg #[.bool s7,.slice A7 n7 c7]) 1 2::FI (.agg #[.bool s3,.slice A3 n3 c3]) z 32::Ps) w) ?_ (0,s3,A3,n3,c3,s7,A7,n7,c7) _ ⟨avY _,((HS.jC 0 rfl (fun _ h=>FI.tw h (axf _).symm (mW af))).jC 2 rfl (fun _ h=>FI.tw h (by simp [bI]) (nI (j:=0) hz (.inr trivial) (by simp [bI]) af)))⟩
  skip;rintro ⟨j,s9,A9,n9,c9,s11,dV,n11,c11⟩ yI ⟨xN,HS⟩
  try dsimp only at *
  refine Js<|Lz (.bool true) (fun a ha=>dU (ha.ev rfl) (ha.ev rfl) (decide_eq_true af))<|Jn<|JC.seq<|JC.bK rfl<|Jk<|JC.seq<|JC.block<|Js<|Lm rfl<|La rfl<|Jn<|JC.seq<|?_
  by_cases aef:j=m
  ·skip
   refine JC.seq<|?_;obtain ⟨b,hb⟩ : ∃ b,r[j]? = some b:=⟨_,awf (show j<r.length from af)⟩;have hbd:=hbad b (by rw [<- aef];exact hb);refine JC.region<|Lm rfl<|Lm rfl<|Lz (.int .u8 (b.toNat:Int)) (fun a ha=>fE (ha.ev rfl) (ha.ev rfl) atE rfl hb rfl)<|Lb rfl rfl<|?_
   cases LQ:(decide ((b.toNat:Int)<48))
   ·skip
    refine Lm rfl<|bJ rfl<|bJ rfl<|bz (.int .u8 (b.toNat:Int)) (fun a ha=>fE (ha.ev rfl) (ha.ev rfl) atE rfl hb rfl)<|bz (.bool (decide ((b.toNat:Int) > 57))) (fun a ha=>dH (ha.ev rfl) (ha.ev rfl) rfl)<|Lf rfl rfl<|Jn<|?_
    cases LU:(decide ((b.toNat:Int) > 57))
    ·skip
     exact absurd hbd (by have e1:=of_decide_eq_false LQ;have e2:=of_decide_eq_false LU;omega)
    ·skip
     refine JC.bK rfl<|Js<|Lz dW (fun a ha=>bF.run_build (ha.bW rfl) atL atF fO rfl)<|JL.store HS rfl rfl (i:=2) rfl atz rfl rfl rfl (vs':=df) rfl rfl (fun uI HS => ?_);refine La rfl<|Jn<|Jb Tryz.results123 (.agg rfl atD atz (HS.box _ ay) rfl rfl) (.tmp rfl)<|?_;exact ⟨_,_,_,_,_,_,_,rfl,(HS.add (FV.stable _ _ _ _) ((FV.zero 0 _).as rfl af)).jm 3 4 rfl rfl⟩
   ·skip
    refine Lm rfl<|Lq<|Lq<|Lq<|Lq<|Lt rfl rfl<|Jn<|JC.bK rfl<|Js<|Lz dW (fun a ha=>bF.run_build (ha.bW rfl) atL atF fO rfl)<|JL.store HS rfl rfl (i:=2) rfl atz rfl rfl rfl (vs':=df) rfl rfl (fun uJ HS => ?_);refine La rfl<|Jn<|Jb Tryz.results123 (.agg rfl atD atz (HS.box _ ay) rfl rfl) (.tmp rfl)<|?_;exact ⟨_,_,_,_,_,_,_,rfl,(HS.add (FV.stable _ _ _ _) ((FV.zero 0 _).as rfl af)).jm 3 4 rfl rfl⟩
  ·skip
   refine JC.seq<|?_;obtain ⟨b,hb⟩ : ∃ b,r[j]? = some b:=⟨_,awf (show j<r.length from af)⟩;have hbd:=hdig j b af hb;refine JC.region<|Lm rfl<|Lm rfl<|Lz (.int .u8 (b.toNat:Int)) (fun a ha=>fE (ha.ev rfl) (ha.ev rfl) atE rfl hb rfl)<|Lz (.bool false) (fun a ha=>dU (ha.ev rfl) (ha.ev rfl) (decide_eq_false af))<|Lm rfl<|bJ rfl<|bJ rfl<|bz (.int .u8 (b.toNat:Int)) (fun a ha=>fE (ha.ev rfl) (ha.ev rfl) atE rfl hb rfl)<|bz (.bool false) (fun a ha=>dH (ha.ev rfl) (ha.ev rfl) (decide_eq_false af))<|Lf rfl rfl<|Jn<|JC.bG rfl<|Jk<|JC.seq<|JC.draw HS [10] ah (fun IP HS => ?_);refine Da (.agg #[.bool s9,.slice A9 n9 c9]) 0 1 rfl HS.b0 rfl rfl atH atB<|Dm 3 rfl HS.b0 rfl<|Dm 4 rfl HS.b0 rfl<|Dv (.int .u8 (b.toNat:Int)) 5 rfl HS.b0 (fun a ha w=>fE (ha.ev rfl) (ha.ev rfl) atE rfl hb rfl)<|Dv (.int .u8 ((b.toNat-48:Nat):Int)) 6 rfl HS.b0 (fun a ha w=>zW (ha.ev rfl) (ha.ev rfl) (Aw hbd))<|Dv (.int .i64 ((b.toNat-48:Nat):Int)) 7 rfl HS.b0 (fun a ha w=>zS (ha.ev rfl) au3 au4 (by rw [IntKind.wrap_i64];omega))<|bV 1 rfl rfl rfl atX (kM HT HB HS  af af)<|?_;rintro akq akQ ⟨aiK,Zd,afM,abd,rfl,HS⟩;refine ⟨HS.b0,?_⟩;refine bV 2 rfl rfl rfl auf (nO HT HB HS (HS.at_ 1 rfl) (HS.at_ 0 rfl) af)<|?_;rintro akr akR ⟨NI,I4,MM,Kq,rfl,HS⟩;refine ⟨HS.b0,?_⟩;refine bV 8 rfl rfl rfl atX (kM HT HB HS  af af)<|?_;rintro aqt arU ⟨apF,alH,aod,ams,rfl,HS⟩;refine ⟨HS.b0,?_⟩;refine bV 9 rfl rfl rfl au5 (zL HT HB HS (HS.at_ 1 rfl) (HS.at_ 0 rfl) af)<|?_;rintro aqu arV ⟨XF,OJ,VH,QE,rfl,HS⟩;refine ⟨HS.b0,?_⟩;refine iZ 10 [.bool XF,.slice OJ VH QE] HS 1 rfl rfl rfl rfl atB (fun _ HS=>⟨(gZ (s:=10) rfl rfl),?_⟩);refine JR.next ah (fun _ _ h=>h)<|JC.draw HS [3] ah (fun Oo HS => ?_);refine Da (.agg #[.bool s11,.slice dV n11 c11]) 0 0 rfl HS.b0 rfl rfl atH atB<|bV 1 rfl rfl rfl atX (kM HT HB HS  af af)<|?_;rintro aqv arW ⟨apG,alI,aoe,amu,rfl,HS⟩;refine ⟨HS.b0,?_⟩;refine bV 2 rfl rfl rfl auf (nO HT HB HS (HS.at_ 6 rfl) (HS.at_ 0 rfl) af)<|?_;rintro aqw arX ⟨XG,OL,VI,QF,rfl,HS⟩;refine ⟨HS.b0,?_⟩;refine iZ 3 [.bool XG,.slice OL VI QF] HS 0 rfl rfl rfl rfl atB (fun _ HS=>⟨(gZ (s:=3) rfl rfl),?_⟩)
   refine JR.xx ah (fun _ _ h=>h)<|JC.region<|Lz (.int .i64 ((j+1:Nat):Int)) (fun a ha=>iw (ha.ev rfl) (ha.ev rfl) (by rw [IntKind.wrap_i64];omega))<|Lm rfl<|?_;exact Jr ((j+1),XF,OJ,VH,QE,XG,OL,VI,QF) ⟨af,(HS.sJ 0 8 2 0 rfl rfl rfl (fun _ h=>FI.tw h (Ae hb) (nI hz (.inr trivial) (hdt (j+1) af) af)) rfl (fun _ h=>FI.tw h (aw8 _ _).symm (mW af)))⟩
 ·skip
  have hd2:=of_decide_eq_true hsp2;obtain ⟨x0,hx0⟩ : ∃ x,f[0]? = some x:=⟨_,awf (show 0<f.length from af)⟩;have C9:=h45 x0 hx0;refine Lm rfl<|bJ rfl<|bz (.int .u8 (x0.toNat:Int)) (fun a ha=>fE (ha.ev rfl) (ha.ev rfl) atE rfl hx0 rfl)<|bz (.bool false) (fun a ha=>dh (ha.ev rfl) (ha.ev rfl) (MP C9))<|Lt rfl rfl<|La rfl<|Jn<|JC.seq<|Js<|Lm rfl<|Jn<|JC.bG rfl<|Jk<|Js<|Lm rfl<|JL.call rfl rfl at7 (hp HS)<|?_;rintro v19 Oq ⟨wC,uN,n19,c19,rfl,HS⟩;refine Lm rfl<|Lx rfl rfl<|Lx rfl rfl<|JL.alloc (vs:=[.bool false,.slice none 0 0]) HS rfl atM rfl rfl (fun g20 w20 HS => ?_);refine JL.store HS rfl rfl (i:=0) rfl atB rfl rfl rfl (vs':=[.bool wC,.slice uN n19 c19]) rfl rfl (fun dN HS => ?_);refine La rfl<|Jn<|JC.seq<|Js<|Lm rfl<|Lz (.bool false) (fun a ha=>gG (ha.ev rfl) (ha.ev rfl) (by rw [hc0];rfl))<|Lm rfl<|bz (.agg #[.bool wC,.slice uN n19 c19]) (fun a ha=>dJ (ha.ev rfl) atH atB (HS.box _ ak) rfl rfl)<|JL.dD rfl rfl rfl rfl rfl rfl aul (o9 HT HB HS (HS.at_ 0 rfl) af)<|?_;rintro v22 dO ⟨rfl,HS⟩;refine bz (.bool false) (fun a ha=>dU (ha.ev rfl) (ha.ev rfl) ((uF _).trans (decide_eq_false (show ¬ z<0 from af))))<|Lf rfl rfl<|Lm rfl<|bJ rfl<|bz (.int .i64 (r.length:Int)) (fun a ha=>dQ (ha.ev rfl) atE rfl)<|bz (.bool false) (fun a ha=>dh (ha.ev rfl) (ha.ev rfl) (zC hr0))<|Lf rfl rfl<|Lm rfl<|bJ rfl<|bz (.bool false) (fun a ha=>dH (ha.ev rfl) (ha.ev rfl) (decide_eq_false af))<|Lf rfl rfl<|Jn<|JC.bG rfl<|Jk<|Js<|JL.call rfl rfl auz (vZ HT HB HS  )<|?_;rintro v23 fH ⟨s23,yK,n23,c23,rfl,HS⟩;refine JL.alloc (vs:=[.bool false,.slice none 0 0]) HS rfl atM rfl rfl (fun g24 gu HS => ?_);refine JL.store HS rfl rfl (i:=0) rfl atB rfl rfl rfl (vs':=[.bool s23,.slice yK n23 c23]) rfl rfl (fun gy HS => ?_);refine Jn<|JC.seq<|Js<|Lm rfl<|Lz (.int .i64 (r.length:Int)) (fun a ha=>dQ (ha.ev rfl) atE rfl)<|Lm rfl<|Jn<|JC.block<|Jw (ι:=zA) (fun ⟨j,s9,A9,n9,c9,s11,dV,n11,c11⟩=>r.length-j) (fun ⟨j,s9,A9,n9,c9,s11,dV,n11,c11⟩=>[(0,.string ⟨f.toArray⟩),(1,.string ⟨r.toArray⟩),(2,.int .i64 n),(6,.pointer (some ⟨g1,0,none⟩)),(8,.bool false),(9,.pointer (some ⟨g20,0,none⟩)),(10,.int .i64 c),(11,.pointer (some ⟨g24,0,none⟩)),(13,.string ⟨f.toArray⟩),(14,.int .i64 (f.length:Int)),(15,.bool true),(16,.bool true),(17,.string ⟨f.toArray⟩),(18,.int .u8 (x0.toNat:Int)),(19,.bool false),(20,.bool false),(21,.bool false),(24,.tuple #[.agg #[.bool wC,.slice uN n19 c19],.int .i64 c]),(25,.string ⟨f.toArray⟩),(26,.tuple #[.agg #[.bool wC,.slice uN n19 c19],.int .i64 c]),(27,.agg #[.bool wC,.slice uN n19 c19]),(28,.int .i64 c),(29,.int .i64 c),(30,.bool false),(31,.bool false),(32,.agg #[.bool wC,.slice uN n19 c19]),(33,.int .i64 (dL z)),(34,.bool false),(35,.bool false),(36,.bool false),(37,.string ⟨r.toArray⟩),(38,.int .i64 (r.length:Int)),(39,.bool false),(40,.bool false),(41,.bool false),(42,.int .i64 n),(43,.bool false),(44,.bool false),(46,.agg #[.bool s23,.slice yK n23 c23]),(47,.string ⟨r.toArray⟩),(48,.int .i64 (r.length:Int)),(49,aj j)]) (fun ⟨j,s9,A9,n9,c9,s11,dV,n11,c11⟩ w=>(j<=m)/\St W0 (⟨g24,79,[.bool s11,.slice dV n11 c11]⟩::⟨g20,79,[.bool s9,.slice A9 n9 c9]⟩::⟨g1,24,df⟩::U) (FI (.agg #[.bool s9,.slice A9 n9 c9]) (z*10^j+(bI (r.take j):Int)) 80::FI (.agg #[.bool s11,.slice dV n11 c11]) ((10:Int)^j) 40::FI (.agg #[.bool s23,.slice yK n23 c23]) 1 2::FI (.agg #[.bool wC,.slice uN n19 c19]) z 32::Ps) w) ?_ (0,wC,uN,n19,c19,s23,yK,n23,c23) _ ⟨avY _,((HS.jC 0 rfl (fun _ h=>FI.tw h (axf _).symm (mW af))).jC 2 rfl (fun _ h=>FI.tw h (by simp [bI]) (nI (j:=0) hz (.inr trivial) (by simp [bI]) af)))⟩
  skip;rintro ⟨j,s9,A9,n9,c9,s11,dV,n11,c11⟩ wl2 ⟨ael,HS⟩
  try dsimp only at *
  refine Js<|Lz (.bool true) (fun a ha=>dU (ha.ev rfl) (ha.ev rfl) (decide_eq_true af))<|Jn<|JC.seq<|JC.bK rfl<|Jk<|JC.seq<|JC.block<|Js<|Lm rfl<|La rfl<|Jn<|JC.seq<|?_
  by_cases aeg:j=m
  ·skip
   refine JC.seq<|?_;obtain ⟨b,hb⟩ : ∃ b,r[j]? = some b:=⟨_,awf (show j<r.length from af)⟩;have hbd:=hbad b (by rw [<- aeg];exact hb);refine JC.region<|Lm rfl<|Lm rfl<|Lz (.int .u8 (b.toNat:Int)) (fun a ha=>fE (ha.ev rfl) (ha.ev rfl) atE rfl hb rfl)<|Lb rfl rfl<|?_
   cases rU:(decide ((b.toNat:Int)<48))
   ·skip
    refine Lm rfl<|bJ rfl<|bJ rfl<|bz (.int .u8 (b.toNat:Int)) (fun a ha=>fE (ha.ev rfl) (ha.ev rfl) atE rfl hb rfl)<|bz (.bool (decide ((b.toNat:Int) > 57))) (fun a ha=>dH (ha.ev rfl) (ha.ev rfl) rfl)<|Lf rfl rfl<|Jn<|?_
    cases rV:(decide ((b.toNat:Int) > 57))
    ·skip
     exact absurd hbd (by have e1:=of_decide_eq_false rU;have e2:=of_decide_eq_false rV;omega)
    ·skip
     refine JC.bK rfl<|Js<|Lz dW (fun a ha=>bF.run_build (ha.bW rfl) atL atF fO rfl)<|JL.store HS rfl rfl (i:=2) rfl atz rfl rfl rfl (vs':=df) rfl rfl (fun kW HS => ?_);refine La rfl<|Jn<|Jb Tryz.results123 (.agg rfl atD atz (HS.box _ ay) rfl rfl) (.tmp rfl)<|?_;exact ⟨_,_,_,_,_,_,_,rfl,(HS.add (FV.stable _ _ _ _) ((FV.zero 0 _).as rfl af)).jm 3 4 rfl rfl⟩
   ·skip
    refine Lm rfl<|Lq<|Lq<|Lq<|Lq<|Lt rfl rfl<|Jn<|JC.bK rfl<|Js<|Lz dW (fun a ha=>bF.run_build (ha.bW rfl) atL atF fO rfl)<|JL.store HS rfl rfl (i:=2) rfl atz rfl rfl rfl (vs':=df) rfl rfl (fun nS HS => ?_);refine La rfl<|Jn<|Jb Tryz.results123 (.agg rfl atD atz (HS.box _ ay) rfl rfl) (.tmp rfl)<|?_;exact ⟨_,_,_,_,_,_,_,rfl,(HS.add (FV.stable _ _ _ _) ((FV.zero 0 _).as rfl af)).jm 3 4 rfl rfl⟩
  ·skip
   refine JC.seq<|?_;obtain ⟨b,hb⟩ : ∃ b,r[j]? = some b:=⟨_,awf (show j<r.length from af)⟩;have hbd:=hdig j b af hb;refine JC.region<|Lm rfl<|Lm rfl<|Lz (.int .u8 (b.toNat:Int)) (fun a ha=>fE (ha.ev rfl) (ha.ev rfl) atE rfl hb rfl)<|Lz (.bool false) (fun a ha=>dU (ha.ev rfl) (ha.ev rfl) (decide_eq_false af))<|Lm rfl<|bJ rfl<|bJ rfl<|bz (.int .u8 (b.toNat:Int)) (fun a ha=>fE (ha.ev rfl) (ha.ev rfl) atE rfl hb rfl)<|bz (.bool false) (fun a ha=>dH (ha.ev rfl) (ha.ev rfl) (decide_eq_false af))<|Lf rfl rfl<|Jn<|JC.bG rfl<|Jk<|JC.seq<|JC.draw HS [10] ah (fun nT HS => ?_);refine Da (.agg #[.bool s9,.slice A9 n9 c9]) 0 1 rfl HS.b0 rfl rfl atH atB<|Dm 3 rfl HS.b0 rfl<|Dm 4 rfl HS.b0 rfl<|Dv (.int .u8 (b.toNat:Int)) 5 rfl HS.b0 (fun a ha w=>fE (ha.ev rfl) (ha.ev rfl) atE rfl hb rfl)<|Dv (.int .u8 ((b.toNat-48:Nat):Int)) 6 rfl HS.b0 (fun a ha w=>zW (ha.ev rfl) (ha.ev rfl) (Aw hbd))<|Dv (.int .i64 ((b.toNat-48:Nat):Int)) 7 rfl HS.b0 (fun a ha w=>zS (ha.ev rfl) au3 au4 (by rw [IntKind.wrap_i64];omega))<|bV 1 rfl rfl rfl atX (kM HT HB HS  af af)<|?_;rintro aqT asq ⟨ap1,al4,aox,amN,rfl,HS⟩;refine ⟨HS.b0,?_⟩;refine bV 2 rfl rfl rfl auf (nO HT HB HS (HS.at_ 1 rfl) (HS.at_ 0 rfl) af)<|?_;rintro aqU asr ⟨ap2,al5,aoy,amO,rfl,HS⟩;refine ⟨HS.b0,?_⟩;refine bV 8 rfl rfl rfl atX (kM HT HB HS  af af)<|?_;rintro aqV ast ⟨ap3,al6,aoz,amQ,rfl,HS⟩;refine ⟨HS.b0,?_⟩;refine bV 9 rfl rfl rfl au5 (zL HT HB HS (HS.at_ 1 rfl) (HS.at_ 0 rfl) af)<|?_;rintro aqW asu ⟨XR,O0,VU,QT,rfl,HS⟩;refine ⟨HS.b0,?_⟩;refine iZ 10 [.bool XR,.slice O0 VU QT] HS 1 rfl rfl rfl rfl atB (fun _ HS=>⟨(gZ (s:=10) rfl rfl),?_⟩);refine JR.next ah (fun _ _ h=>h)<|JC.draw HS [3] ah (fun yH HS => ?_);refine Da (.agg #[.bool s11,.slice dV n11 c11]) 0 0 rfl HS.b0 rfl rfl atH atB<|bV 1 rfl rfl rfl atX (kM HT HB HS  af af)<|?_;rintro aqX asv ⟨ap4,al7,aoA,amR,rfl,HS⟩;refine ⟨HS.b0,?_⟩;refine bV 2 rfl rfl rfl auf (nO HT HB HS (HS.at_ 6 rfl) (HS.at_ 0 rfl) af)<|?_;rintro akF ak6 ⟨pq,nZ,o6,oH,rfl,HS⟩;refine ⟨HS.b0,?_⟩;refine iZ 3 [.bool pq,.slice nZ o6 oH] HS 0 rfl rfl rfl rfl atB (fun _ HS=>⟨(gZ (s:=3) rfl rfl),?_⟩)
   refine JR.xx ah (fun _ _ h=>h)<|JC.region<|Lz (.int .i64 ((j+1:Nat):Int)) (fun a ha=>iw (ha.ev rfl) (ha.ev rfl) (by rw [IntKind.wrap_i64];omega))<|Lm rfl<|?_;exact Jr ((j+1),XR,O0,VU,QT,pq,nZ,o6,oH) ⟨af,(HS.sJ 0 8 2 0 rfl rfl rfl (fun _ h=>FI.tw h (Ae hb) (nI hz (.inr trivial) (hdt (j+1) af) af)) rfl (fun _ h=>FI.tw h (aw8 _ _).symm (mW af)))⟩
theorem ahB(HT:Tz W0)(HB:Tab W0)(HS:St W0 U Ps w)(h45 : ∀ x,f[0]? = some x->x.toNat≠45)(hp:RP f z c)(hl:r.length<=300)(hc0:c=0)(hz0:0<=z)(hr0:0<r.length)(zq:n<=64)(hz:z.natAbs<pw 32)(hdt : ∀ j,j<=r.length->bI (r.take j)<10^j)(hdig : ∀ (j:Nat) (b:UInt8),r[j]? = some b->48<=b.toNat/\b.toNat<=57):bC Tryz.prog 123 [.string ⟨f.toArray⟩,.string ⟨r.toArray⟩,.int .i64 n] w (fJ W0 U Ps (Rat.divInt ((z*10^r.length+(bI r:Int))) ((10:Int)^r.length)) 200 (.int .i64 0)):=by
 refine cO au1 rfl au2 rfl<|Js<|JL.alloc (vs:=df) HS rfl atF rfl rfl (fun g1 w1 HS => ?_);refine La rfl<|Jn<|Js<|Lm rfl<|Lz (.int .i64 (f.length:Int)) (fun a ha=>dQ (ha.ev rfl) atE rfl)<|Lz (.bool (decide ((f.length:Int) > 0))) (fun a ha=>dH (ha.ev rfl) (ha.ev rfl) rfl)<|?_
 cases hsp2:(decide ((f.length:Int) > 0))
 ·skip
  refine Lm rfl<|Lq<|Lq<|Lq<|Lf rfl rfl<|La rfl<|Jn<|JC.seq<|Js<|Lm rfl<|Jn<|JC.bG rfl<|Jk<|Js<|Lm rfl<|JL.call rfl rfl at7 (hp HS)<|?_;rintro v3 w3 ⟨s3,A3,n3,c3,rfl,HS⟩;refine Lm rfl<|Lx rfl rfl<|Lx rfl rfl<|JL.alloc (vs:=[.bool false,.slice none 0 0]) HS rfl atM rfl rfl (fun g4 w4 HS => ?_);refine JL.store HS rfl rfl (i:=0) rfl atB rfl rfl rfl (vs':=[.bool s3,.slice A3 n3 c3]) rfl rfl (fun w5 HS => ?_);refine La rfl<|Jn<|JC.seq<|Js<|Lm rfl<|Lz (.bool false) (fun a ha=>gG (ha.ev rfl) (ha.ev rfl) (by rw [hc0];rfl))<|Lm rfl<|bz (.agg #[.bool s3,.slice A3 n3 c3]) (fun a ha=>dJ (ha.ev rfl) atH atB (HS.box _ ak) rfl rfl)<|JL.dD rfl rfl rfl rfl rfl rfl aul (o9 HT HB HS (HS.at_ 0 rfl) af)<|?_;rintro v6 w6 ⟨rfl,HS⟩;refine bz (.bool false) (fun a ha=>dU (ha.ev rfl) (ha.ev rfl) ((uF _).trans (decide_eq_false (show ¬ z<0 from af))))<|Lf rfl rfl<|Lm rfl<|bJ rfl<|bz (.int .i64 (r.length:Int)) (fun a ha=>dQ (ha.ev rfl) atE rfl)<|bz (.bool false) (fun a ha=>dh (ha.ev rfl) (ha.ev rfl) (zC hr0))<|Lf rfl rfl<|Lm rfl<|bJ rfl<|bz (.bool false) (fun a ha=>dH (ha.ev rfl) (ha.ev rfl) (decide_eq_false af))<|Lf rfl rfl<|Jn<|JC.bG rfl<|Jk<|Js<|JL.call rfl rfl auz (vZ HT HB HS  )<|?_;rintro v7 w7 ⟨s7,A7,n7,c7,rfl,HS⟩;refine JL.alloc (vs:=[.bool false,.slice none 0 0]) HS rfl atM rfl rfl (fun g8 w8 HS => ?_);refine JL.store HS rfl rfl (i:=0) rfl atB rfl rfl rfl (vs':=[.bool s7,.slice A7 n7 c7]) rfl rfl (fun w9 HS => ?_);refine Jn<|JC.seq<|Js<|Lm rfl<|Lz (.int .i64 (r.length:Int)) (fun a ha=>dQ (ha.ev rfl) atE rfl)<|Lm rfl<|Jn<|JC.block<|Jw (ι:=zA) (fun ⟨j,s9,A9,n9,c9,s11,dV,n11,c11⟩=>r.length-j) (fun ⟨j,s9,A9,n9,c9,s11,dV,n11,c11⟩=>[(0,.string ⟨f.toArray⟩),(1,.string ⟨r.toArray⟩),(2,.int .i64 n),(6,.pointer (some ⟨g1,0,none⟩)),(8,.bool false),(9,.pointer (some ⟨g4,0,none⟩)),(10,.int .i64 c),(11,.pointer (some ⟨g8,0,none⟩)),(13,.string ⟨f.toArray⟩),(14,.int .i64 (f.length:Int)),(15,.bool false),(16,.bool false),(20,.bool false),(21,.bool false),(24,.tuple #[.agg #[.bool s3,.slice A3 n3 c3],.int .i64 c]),(25,.string ⟨f.toArray⟩),(26,.tuple #[.agg #[.bool s3,.slice A3 n3 c3],.int .i64 c]),(27,.agg #[.bool s3,.slice A3 n3 c3]),(28,.int .i64 c),(29,.int .i64 c),(30,.bool false),(31,.bool false),(32,.agg #[.bool s3,.slice A3 n3 c3]),(33,.int .i64 (dL z)),(34,.bool false),(35,.bool false),(36,.bool false),(37,.string ⟨r.toArray⟩),(38,.int .i64 (r.length:Int)),(39,.bool false),(40,.bool false),(41,.bool false),(42,.int .i64 n),(43,.bool false),(44,.bool false),(46,.agg #[.bool s7,.slice A7 n7 c7]),(47,.string ⟨r.toArray⟩),(48,.int .i64 (r.length:Int)),(49,aj j)]) (fun ⟨j,s9,A9,n9,c9,s11,dV,n11,c11⟩ w=>(j<=r.length)/\St W0 (⟨g8,79,[.bool s11,.slice dV n11 c11]⟩::⟨g4,79,[.bool s9,.slice A9 n9 c9]⟩::⟨g1,24,df⟩::U) (FI (.agg #[.bool s9,.slice A9 n9 c9]) (z*10^j+(bI (r.take j):Int)) 80::FI (.agg #[.bool s11,.slice dV n11 c11]) ((10:Int)^j) 40::FI (.agg #[.bool s7,.slice A7 n7 c7]) 1 2::FI (.agg #[.bool s3,.slice A3 n3 c3]) z 32::Ps) w) ?_ (0,s3,A3,n3,c3,s7,A7,n7,c7) _ ⟨avY _,((HS.jC 0 rfl (fun _ h=>FI.tw h (axf _).symm (mW af))).jC 2 rfl (fun _ h=>FI.tw h (by simp [bI]) (nI (j:=0) hz (.inr trivial) (by simp [bI]) af)))⟩
  skip;rintro ⟨j,s9,A9,n9,c9,s11,dV,n11,c11⟩ yI ⟨xN,HS⟩
  try dsimp only at *
  refine Js<|Lb rfl rfl<|Jn<|JC.seq<|?_
  cases vz:(decide ((j:Int)<(r.length:Int)))
  ·skip
   have hd10:=of_decide_eq_false vz;refine JC.bG rfl<|?_;obtain rfl:j=r.length:=af;refine JC.exit (fun _ _ h=>h) (fun _ _ h=>h)<|JC.seq<|Js<|Lm rfl<|Jn<|JC.bG rfl<|Jk<|Js<|JL.load (.agg #[.bool s9,.slice A9 n9 c9]) HS 1 rfl rfl rfl atH atB rfl rfl<|JL.load (.agg #[.bool s11,.slice dV n11 c11]) HS 0 rfl rfl rfl atH atB rfl rfl<|JL.call rfl rfl auK (yt HT HB HS (HS.at_ 0 rfl) (HS.at_ 1 rfl) af (show (10:Int)^r.length≠0 from Int.ne_of_gt (axs ai)))<|?_;rintro v11 qO ⟨s11,dV,n11,c11,B11,m11,d11,rfl,HS⟩;refine JL.store HS rfl rfl (i:=2) rfl atz rfl rfl rfl (vs':=(avT s11 dV n11 c11 B11 m11 d11)) rfl rfl (fun w12 HS => ?_);refine La rfl<|Jn<|Jb Tryz.results123 (.agg rfl atD atz (HS.box _ ay) rfl rfl) (.tmp rfl)<|?_;exact ⟨_,_,_,_,_,_,_,rfl,HS.oh 3 5 0 rfl (fun _ h=>h.as (by rw [awm]) af)⟩
  ·skip
   have hd10:=of_decide_eq_true vz;refine JC.bK rfl<|Jk<|JC.seq<|JC.block<|Js<|Lm rfl<|La rfl<|Jn<|JC.seq<|JC.seq<|?_;obtain ⟨b,hb⟩ : ∃ b,r[j]? = some b:=⟨_,awf (show j<r.length from af)⟩;have hbd:=hdig j b hb;refine JC.region<|Lm rfl<|Lm rfl<|Lz (.int .u8 (b.toNat:Int)) (fun a ha=>fE (ha.ev rfl) (ha.ev rfl) atE rfl hb rfl)<|Lz (.bool false) (fun a ha=>dU (ha.ev rfl) (ha.ev rfl) (decide_eq_false af))<|Lm rfl<|bJ rfl<|bJ rfl<|bz (.int .u8 (b.toNat:Int)) (fun a ha=>fE (ha.ev rfl) (ha.ev rfl) atE rfl hb rfl)<|bz (.bool false) (fun a ha=>dH (ha.ev rfl) (ha.ev rfl) (decide_eq_false af))<|Lf rfl rfl<|Jn<|JC.bG rfl<|Jk<|JC.seq<|JC.draw HS [10] ah (fun uI HS => ?_);refine Da (.agg #[.bool s9,.slice A9 n9 c9]) 0 1 rfl HS.b0 rfl rfl atH atB<|Dm 3 rfl HS.b0 rfl<|Dm 4 rfl HS.b0 rfl<|Dv (.int .u8 (b.toNat:Int)) 5 rfl HS.b0 (fun a ha w=>fE (ha.ev rfl) (ha.ev rfl) atE rfl hb rfl)<|Dv (.int .u8 ((b.toNat-48:Nat):Int)) 6 rfl HS.b0 (fun a ha w=>zW (ha.ev rfl) (ha.ev rfl) (Aw hbd))<|Dv (.int .i64 ((b.toNat-48:Nat):Int)) 7 rfl HS.b0 (fun a ha w=>zS (ha.ev rfl) au3 au4 (by rw [IntKind.wrap_i64];omega))<|bV 1 rfl rfl rfl atX (kM HT HB HS  af af)<|?_;rintro aqo arO ⟨apC,alE,aoa,amo,rfl,HS⟩;refine ⟨HS.b0,?_⟩;refine bV 2 rfl rfl rfl auf (nO HT HB HS (HS.at_ 1 rfl) (HS.at_ 0 rfl) af)<|?_;rintro aqp arP ⟨apD,alF,aob,amq,rfl,HS⟩;refine ⟨HS.b0,?_⟩;refine bV 8 rfl rfl rfl atX (kM HT HB HS  af af)<|?_;rintro aqr arQ ⟨apE,alG,aoc,amr,rfl,HS⟩;refine ⟨HS.b0,?_⟩;refine bV 9 rfl rfl rfl au5 (zL HT HB HS (HS.at_ 1 rfl) (HS.at_ 0 rfl) af)<|?_;rintro aqs arS ⟨XE,OH,VG,QD,rfl,HS⟩;refine ⟨HS.b0,?_⟩;refine iZ 10 [.bool XE,.slice OH VG QD] HS 1 rfl rfl rfl rfl atB (fun _ HS=>⟨(gZ (s:=10) rfl rfl),?_⟩);refine JR.next ah (fun _ _ h=>h)<|JC.draw HS [3] ah (fun IP HS => ?_);refine Da (.agg #[.bool s11,.slice dV n11 c11]) 0 0 rfl HS.b0 rfl rfl atH atB<|bV 1 rfl rfl rfl atX (kM HT HB HS  af af)<|?_;rintro akq akQ ⟨aiK,Zd,afM,abd,rfl,HS⟩;refine ⟨HS.b0,?_⟩;refine bV 2 rfl rfl rfl auf (nO HT HB HS (HS.at_ 6 rfl) (HS.at_ 0 rfl) af)<|?_
   rintro akr akR ⟨NI,I4,MM,Kq,rfl,HS⟩;refine ⟨HS.b0,?_⟩;refine iZ 3 [.bool NI,.slice I4 MM Kq] HS 0 rfl rfl rfl rfl atB (fun _ HS=>⟨(gZ (s:=3) rfl rfl),?_⟩);refine JR.xx ah (fun _ _ h=>h)<|JC.region<|Lz (.int .i64 ((j+1:Nat):Int)) (fun a ha=>iw (ha.ev rfl) (ha.ev rfl) (by rw [IntKind.wrap_i64];omega))<|Lm rfl<|?_;exact Jr ((j+1),XE,OH,VG,QD,NI,I4,MM,Kq) ⟨af,(HS.sJ 0 8 2 0 rfl rfl rfl (fun _ h=>FI.tw h (Ae hb) (nI hz (.inr trivial) (hdt (j+1) af) af)) rfl (fun _ h=>FI.tw h (aw8 _ _).symm (mW af)))⟩
 ·skip
  have hd2:=of_decide_eq_true hsp2;obtain ⟨x0,hx0⟩ : ∃ x,f[0]? = some x:=⟨_,awf (show 0<f.length from af)⟩;have C9:=h45 x0 hx0;refine Lm rfl<|bJ rfl<|bz (.int .u8 (x0.toNat:Int)) (fun a ha=>fE (ha.ev rfl) (ha.ev rfl) atE rfl hx0 rfl)<|bz (.bool false) (fun a ha=>dh (ha.ev rfl) (ha.ev rfl) (MP C9))<|Lt rfl rfl<|La rfl<|Jn<|JC.seq<|Js<|Lm rfl<|Jn<|JC.bG rfl<|Jk<|Js<|Lm rfl<|JL.call rfl rfl at7 (hp HS)<|?_;rintro v17 Oo ⟨wB,uM,n17,c17,rfl,HS⟩;refine Lm rfl<|Lx rfl rfl<|Lx rfl rfl<|JL.alloc (vs:=[.bool false,.slice none 0 0]) HS rfl atM rfl rfl (fun g18 w18 HS => ?_);refine JL.store HS rfl rfl (i:=0) rfl atB rfl rfl rfl (vs':=[.bool wB,.slice uM n17 c17]) rfl rfl (fun Oq HS => ?_);refine La rfl<|Jn<|JC.seq<|Js<|Lm rfl<|Lz (.bool false) (fun a ha=>gG (ha.ev rfl) (ha.ev rfl) (by rw [hc0];rfl))<|Lm rfl<|bz (.agg #[.bool wB,.slice uM n17 c17]) (fun a ha=>dJ (ha.ev rfl) atH atB (HS.box _ ak) rfl rfl)<|JL.dD rfl rfl rfl rfl rfl rfl aul (o9 HT HB HS (HS.at_ 0 rfl) af)<|?_;rintro v20 w20 ⟨rfl,HS⟩;refine bz (.bool false) (fun a ha=>dU (ha.ev rfl) (ha.ev rfl) ((uF _).trans (decide_eq_false (show ¬ z<0 from af))))<|Lf rfl rfl<|Lm rfl<|bJ rfl<|bz (.int .i64 (r.length:Int)) (fun a ha=>dQ (ha.ev rfl) atE rfl)<|bz (.bool false) (fun a ha=>dh (ha.ev rfl) (ha.ev rfl) (zC hr0))<|Lf rfl rfl<|Lm rfl<|bJ rfl<|bz (.bool false) (fun a ha=>dH (ha.ev rfl) (ha.ev rfl) (decide_eq_false af))<|Lf rfl rfl<|Jn<|JC.bG rfl<|Jk<|Js<|JL.call rfl rfl auz (vZ HT HB HS  )<|?_;rintro v21 dN ⟨zX,yJ,n21,c21,rfl,HS⟩;refine JL.alloc (vs:=[.bool false,.slice none 0 0]) HS rfl atM rfl rfl (fun g22 dO HS => ?_);refine JL.store HS rfl rfl (i:=0) rfl atB rfl rfl rfl (vs':=[.bool zX,.slice yJ n21 c21]) rfl rfl (fun fH HS => ?_);refine Jn<|JC.seq<|Js<|Lm rfl<|Lz (.int .i64 (r.length:Int)) (fun a ha=>dQ (ha.ev rfl) atE rfl)<|Lm rfl<|Jn<|JC.block<|Jw (ι:=zA) (fun ⟨j,s9,A9,n9,c9,s11,dV,n11,c11⟩=>r.length-j) (fun ⟨j,s9,A9,n9,c9,s11,dV,n11,c11⟩=>[(0,.string ⟨f.toArray⟩),(1,.string ⟨r.toArray⟩),(2,.int .i64 n),(6,.pointer (some ⟨g1,0,none⟩)),(8,.bool false),(9,.pointer (some ⟨g18,0,none⟩)),(10,.int .i64 c),(11,.pointer (some ⟨g22,0,none⟩)),(13,.string ⟨f.toArray⟩),(14,.int .i64 (f.length:Int)),(15,.bool true),(16,.bool true),(17,.string ⟨f.toArray⟩),(18,.int .u8 (x0.toNat:Int)),(19,.bool false),(20,.bool false),(21,.bool false),(24,.tuple #[.agg #[.bool wB,.slice uM n17 c17],.int .i64 c]),(25,.string ⟨f.toArray⟩),(26,.tuple #[.agg #[.bool wB,.slice uM n17 c17],.int .i64 c]),(27,.agg #[.bool wB,.slice uM n17 c17]),(28,.int .i64 c),(29,.int .i64 c),(30,.bool false),(31,.bool false),(32,.agg #[.bool wB,.slice uM n17 c17]),(33,.int .i64 (dL z)),(34,.bool false),(35,.bool false),(36,.bool false),(37,.string ⟨r.toArray⟩),(38,.int .i64 (r.length:Int)),(39,.bool false),(40,.bool false),(41,.bool false),(42,.int .i64 n),(43,.bool false),(44,.bool false),(46,.agg #[.bool zX,.slice yJ n21 c21]),(47,.string ⟨r.toArray⟩),(48,.int .i64 (r.length:Int)),(49,aj j)]) (fun ⟨j,s9,A9,n9,c9,s11,dV,n11,c11⟩ w=>(j<=r.length)/\St W0 (⟨g22,79,[.bool s11,.slice dV n11 c11]⟩::⟨g18,79,[.bool s9,.slice A9 n9 c9]⟩::⟨g1,24,df⟩::U) (FI (.agg #[.bool s9,.slice A9 n9 c9]) (z*10^j+(bI (r.take j):Int)) 80::FI (.agg #[.bool s11,.slice dV n11 c11]) ((10:Int)^j) 40::FI (.agg #[.bool zX,.slice yJ n21 c21]) 1 2::FI (.agg #[.bool wB,.slice uM n17 c17]) z 32::Ps) w) ?_ (0,wB,uM,n17,c17,zX,yJ,n21,c21) _ ⟨avY _,((HS.jC 0 rfl (fun _ h=>FI.tw h (axf _).symm (mW af))).jC 2 rfl (fun _ h=>FI.tw h (by simp [bI]) (nI (j:=0) hz (.inr trivial) (by simp [bI]) af)))⟩
  skip;rintro ⟨j,s9,A9,n9,c9,s11,dV,n11,c11⟩ wl2 ⟨ael,HS⟩
  try dsimp only at *
  refine Js<|Lb rfl rfl<|Jn<|JC.seq<|?_
  cases rQ:(decide ((j:Int)<(r.length:Int)))
  ·skip
   have hd24:=of_decide_eq_false rQ;refine JC.bG rfl<|?_;obtain rfl:j=r.length:=af;refine JC.exit (fun _ _ h=>h) (fun _ _ h=>h)<|JC.seq<|Js<|Lm rfl<|Jn<|JC.bG rfl<|Jk<|Js<|JL.load (.agg #[.bool s9,.slice A9 n9 c9]) HS 1 rfl rfl rfl atH atB rfl rfl<|JL.load (.agg #[.bool s11,.slice dV n11 c11]) HS 0 rfl rfl rfl atH atB rfl rfl<|JL.call rfl rfl auK (yt HT HB HS (HS.at_ 0 rfl) (HS.at_ 1 rfl) af (show (10:Int)^r.length≠0 from Int.ne_of_gt (axs ai)))<|?_;rintro v25 gy ⟨Ed,AY,n25,c25,Be,m25,d25,rfl,HS⟩;refine JL.store HS rfl rfl (i:=2) rfl atz rfl rfl rfl (vs':=(avT Ed AY n25 c25 Be m25 d25)) rfl rfl (fun iJ HS => ?_);refine La rfl<|Jn<|Jb Tryz.results123 (.agg rfl atD atz (HS.box _ ay) rfl rfl) (.tmp rfl)<|?_;exact ⟨_,_,_,_,_,_,_,rfl,HS.oh 3 5 0 rfl (fun _ h=>h.as (by rw [awm]) af)⟩
  ·skip
   have hd24:=of_decide_eq_true rQ;refine JC.bK rfl<|Jk<|JC.seq<|JC.block<|Js<|Lm rfl<|La rfl<|Jn<|JC.seq<|JC.seq<|?_;obtain ⟨b,hb⟩ : ∃ b,r[j]? = some b:=⟨_,awf (show j<r.length from af)⟩;have hbd:=hdig j b hb;refine JC.region<|Lm rfl<|Lm rfl<|Lz (.int .u8 (b.toNat:Int)) (fun a ha=>fE (ha.ev rfl) (ha.ev rfl) atE rfl hb rfl)<|Lz (.bool false) (fun a ha=>dU (ha.ev rfl) (ha.ev rfl) (decide_eq_false af))<|Lm rfl<|bJ rfl<|bJ rfl<|bz (.int .u8 (b.toNat:Int)) (fun a ha=>fE (ha.ev rfl) (ha.ev rfl) atE rfl hb rfl)<|bz (.bool false) (fun a ha=>dH (ha.ev rfl) (ha.ev rfl) (decide_eq_false af))<|Lf rfl rfl<|Jn<|JC.bG rfl<|Jk<|JC.seq<|JC.draw HS [10] ah (fun kN HS => ?_);refine Da (.agg #[.bool s9,.slice A9 n9 c9]) 0 1 rfl HS.b0 rfl rfl atH atB<|Dm 3 rfl HS.b0 rfl<|Dm 4 rfl HS.b0 rfl<|Dv (.int .u8 (b.toNat:Int)) 5 rfl HS.b0 (fun a ha w=>fE (ha.ev rfl) (ha.ev rfl) atE rfl hb rfl)<|Dv (.int .u8 ((b.toNat-48:Nat):Int)) 6 rfl HS.b0 (fun a ha w=>zW (ha.ev rfl) (ha.ev rfl) (Aw hbd))<|Dv (.int .i64 ((b.toNat-48:Nat):Int)) 7 rfl HS.b0 (fun a ha w=>zS (ha.ev rfl) au3 au4 (by rw [IntKind.wrap_i64];omega))<|bV 1 rfl rfl rfl atX (kM HT HB HS  af af)<|?_;rintro akB ak2 ⟨aiR,Zk,afT,abl,rfl,HS⟩;refine ⟨HS.b0,?_⟩;refine bV 2 rfl rfl rfl auf (nO HT HB HS (HS.at_ 1 rfl) (HS.at_ 0 rfl) af)<|?_;rintro akC ak3 ⟨apX,al0,aot,amJ,rfl,HS⟩;refine ⟨HS.b0,?_⟩;refine bV 8 rfl rfl rfl atX (kM HT HB HS  af af)<|?_;rintro aqM ash ⟨apY,al1,aou,amK,rfl,HS⟩;refine ⟨HS.b0,?_⟩;refine bV 9 rfl rfl rfl au5 (zL HT HB HS (HS.at_ 1 rfl) (HS.at_ 0 rfl) af)<|?_;rintro aqN asi ⟨XN,OW,VQ,QM,rfl,HS⟩;refine ⟨HS.b0,?_⟩;refine iZ 10 [.bool XN,.slice OW VQ QM] HS 1 rfl rfl rfl rfl atB (fun _ HS=>⟨(gZ (s:=10) rfl rfl),?_⟩);refine JR.next ah (fun _ _ h=>h)<|JC.draw HS [3] ah (fun kW HS => ?_);refine Da (.agg #[.bool s11,.slice dV n11 c11]) 0 0 rfl HS.b0 rfl rfl atH atB<|bV 1 rfl rfl rfl atX (kM HT HB HS  af af)<|?_;rintro YS Y0 ⟨XO,OX,VR,QN,rfl,HS⟩;refine ⟨HS.b0,?_⟩;refine bV 2 rfl rfl rfl auf (nO HT HB HS (HS.at_ 6 rfl) (HS.at_ 0 rfl) af)<|?_
   rintro aqO asj ⟨XP,OY,VS,QO,rfl,HS⟩;refine ⟨HS.b0,?_⟩;refine iZ 3 [.bool XP,.slice OY VS QO] HS 0 rfl rfl rfl rfl atB (fun _ HS=>⟨(gZ (s:=3) rfl rfl),?_⟩);refine JR.xx ah (fun _ _ h=>h)<|JC.region<|Lz (.int .i64 ((j+1:Nat):Int)) (fun a ha=>iw (ha.ev rfl) (ha.ev rfl) (by rw [IntKind.wrap_i64];omega))<|Lm rfl<|?_;exact Jr ((j+1),XN,OW,VQ,QM,XP,OY,VS,QO) ⟨af,(HS.sJ 0 8 2 0 rfl rfl rfl (fun _ h=>FI.tw h (Ae hb) (nI hz (.inr trivial) (hdt (j+1) af) af)) rfl (fun _ h=>FI.tw h (aw8 _ _).symm (mW af)))⟩
theorem ahw(HT:Tz W0)(HB:Tab W0)(HS:St W0 U Ps w)(hp:RP f z c)(hl:r.length<=300)(hc0:c=0)(hz0:0<=z)(hr0:0<r.length)(zq:n<=64)(hz:z.natAbs<pw 32)(hdt : ∀ j,j<=m->bI (r.take j)<10^j)(hm:m<r.length)(hdig : ∀ (j:Nat) (b:UInt8),j<m->r[j]? = some b->48<=b.toNat/\b.toNat<=57)(hbad : ∀ b,r[m]? = some b->¬ (48<=b.toNat/\b.toNat<=57)):bC Tryz.prog 123 [.string ⟨(45::f).toArray⟩,.string ⟨r.toArray⟩,.int .i64 n] w (fJ W0 U Ps 0 200 (.int .i64 2)):=by
 refine cO au1 rfl au2 rfl<|Js<|JL.alloc (vs:=df) HS rfl atF rfl rfl (fun g1 w1 HS => ?_);refine La rfl<|Jn<|Js<|Lm rfl<|Lz (.int .i64 ((45::f).length:Int)) (fun a ha=>dQ (ha.ev rfl) atE rfl)<|Lz (.bool true) (fun a ha=>dH (ha.ev rfl) (ha.ev rfl) (decide_eq_true (by simp)))<|Lm rfl<|bJ rfl<|bz (.int .u8 45) (fun a ha=>fE (ha.ev rfl) (ha.ev rfl) atE rfl rfl rfl)<|bz (.bool true) (fun a ha=>dh (ha.ev rfl) (ha.ev rfl) ai)<|Lt rfl rfl<|La rfl<|Jn<|JC.seq<|Js<|Lm rfl<|Jn<|JC.bK rfl<|JC.region<|Lm rfl<|Lz (.string ⟨f.toArray⟩) (fun a ha=>zV (ha.ev rfl) (ha.ev rfl) atE rfl (by simp) rfl)<|La rfl<|Jn<|Js<|Lm rfl<|JL.call rfl rfl at7 (hp HS)<|?_;rintro v2 w2 ⟨s2,A2,n2,c2,rfl,HS⟩;refine Lm rfl<|Lx rfl rfl<|Lx rfl rfl<|JL.alloc (vs:=[.bool false,.slice none 0 0]) HS rfl atM rfl rfl (fun g3 w3 HS => ?_);refine JL.store HS rfl rfl (i:=0) rfl atB rfl rfl rfl (vs':=[.bool s2,.slice A2 n2 c2]) rfl rfl (fun w4 HS => ?_);refine La rfl<|Jn<|JC.seq<|Js<|Lm rfl<|Lz (.bool false) (fun a ha=>gG (ha.ev rfl) (ha.ev rfl) (by rw [hc0];rfl))<|Lm rfl<|bz (.agg #[.bool s2,.slice A2 n2 c2]) (fun a ha=>dJ (ha.ev rfl) atH atB (HS.box _ ak) rfl rfl)<|JL.dD rfl rfl rfl rfl rfl rfl aul (o9 HT HB HS (HS.at_ 0 rfl) af)<|?_;rintro v5 w5 ⟨rfl,HS⟩;refine bz (.bool false) (fun a ha=>dU (ha.ev rfl) (ha.ev rfl) ((uF _).trans (decide_eq_false (show ¬ z<0 from af))))<|Lf rfl rfl<|Lm rfl<|bJ rfl<|bz (.int .i64 (r.length:Int)) (fun a ha=>dQ (ha.ev rfl) atE rfl)<|bz (.bool false) (fun a ha=>dh (ha.ev rfl) (ha.ev rfl) (zC hr0))<|Lf rfl rfl<|Lm rfl<|bJ rfl<|bz (.bool false) (fun a ha=>dH (ha.ev rfl) (ha.ev rfl) (decide_eq_false af))<|Lf rfl rfl<|Jn<|JC.bG rfl<|Jk<|Js<|JL.call rfl rfl auz (vZ HT HB HS  )<|?_;rintro v6 w6 ⟨s6,A6,n6,c6,rfl,HS⟩;refine JL.alloc (vs:=[.bool false,.slice none 0 0]) HS rfl atM rfl rfl (fun g7 w7 HS => ?_);refine JL.store HS rfl rfl (i:=0) rfl atB rfl rfl rfl (vs':=[.bool s6,.slice A6 n6 c6]) rfl rfl (fun w8 HS => ?_);refine Jn<|JC.seq<|Js<|Lm rfl<|Lz (.int .i64 (r.length:Int)) (fun a ha=>dQ (ha.ev rfl) atE rfl)<|Lm rfl<|Jn<|JC.block<|Jw (ι:=zA) (fun ⟨j,s9,A9,n9,c9,s11,dV,n11,c11⟩=>r.length-j) (fun ⟨j,s9,A9,n9,c9,s11,dV,n11,c11⟩=>[(0,.string ⟨f.toArray⟩),(1,.string ⟨r.toArray⟩),(2,.int .i64 n),(6,.pointer (some ⟨g1,0,none⟩)),(8,.bool true),(9,.pointer (some ⟨g3,0,none⟩)),(10,.int .i64 c),(11,.pointer (some ⟨g7,0,none⟩)),(13,.string ⟨(45::f).toArray⟩),(14,.int .i64 ((45::f).length:Int)),(15,.bool true),(16,.bool true),(17,.string ⟨(45::f).toArray⟩),(18,.int .u8 45),(19,.bool true),(20,.bool true),(21,.bool true),(22,.string ⟨(45::f).toArray⟩),(23,.string ⟨f.toArray⟩),(24,.tuple #[.agg #[.bool s2,.slice A2 n2 c2],.int .i64 c]),(25,.string ⟨f.toArray⟩),(26,.tuple #[.agg #[.bool s2,.slice A2 n2 c2],.int .i64 c]),(27,.agg #[.bool s2,.slice A2 n2 c2]),(28,.int .i64 c),(29,.int .i64 c),(30,.bool false),(31,.bool false),(32,.agg #[.bool s2,.slice A2 n2 c2]),(33,.int .i64 (dL z)),(34,.bool false),(35,.bool false),(36,.bool false),(37,.string ⟨r.toArray⟩),(38,.int .i64 (r.length:Int)),(39,.bool false),(40,.bool false),(41,.bool false),(42,.int .i64 n),(43,.bool false),(44,.bool false),(46,.agg #[.bool s6,.slice A6 n6 c6]),(47,.string ⟨r.toArray⟩),(48,.int .i64 (r.length:Int)),(49,aj j)]) (fun ⟨j,s9,A9,n9,c9,s11,dV,n11,c11⟩ w=>(j<=m)/\St W0 (⟨g7,79,[.bool s11,.slice dV n11 c11]⟩::⟨g3,79,[.bool s9,.slice A9 n9 c9]⟩::⟨g1,24,df⟩::U) (FI (.agg #[.bool s9,.slice A9 n9 c9]) (z*10^j+(bI (r.take j):Int)) 80::FI (.agg #[.bool s11,.slice dV n11 c11]) ((10:Int)^j) 40::FI (.agg #[.bool s6,.slice A6 n6 c6]) 1 2::FI (.agg #[.bool s2,.slice A2 n2 c2]) z 32::Ps) w) ?_ (0,s2,A2,n2,c2,s6,A6,n6,c6) _ ⟨avY _,((HS.jC 0 rfl (fun _ h=>FI.tw h (axf _).symm (mW af))).jC 2 rfl (fun _ h=>FI.tw h (by simp [bI]) (nI (j:=0) hz (.inr trivial) (by simp [bI]) af)))⟩
 skip;rintro ⟨j,s9,A9,n9,c9,s11,dV,n11,c11⟩ yI ⟨xN,HS⟩
 try dsimp only at *
 refine Js<|Lz (.bool true) (fun a ha=>dU (ha.ev rfl) (ha.ev rfl) (decide_eq_true af))<|Jn<|JC.seq<|JC.bK rfl<|Jk<|JC.seq<|JC.block<|Js<|Lm rfl<|La rfl<|Jn<|JC.seq<|?_
 by_cases dZ:j=m
 ·skip
  refine JC.seq<|?_;obtain ⟨b,hb⟩ : ∃ b,r[j]? = some b:=⟨_,awf (show j<r.length from af)⟩;have hbd:=hbad b (by rw [<- dZ];exact hb);refine JC.region<|Lm rfl<|Lm rfl<|Lz (.int .u8 (b.toNat:Int)) (fun a ha=>fE (ha.ev rfl) (ha.ev rfl) atE rfl hb rfl)<|Lb rfl rfl<|?_
  cases vz:(decide ((b.toNat:Int)<48))
  ·skip
   refine Lm rfl<|bJ rfl<|bJ rfl<|bz (.int .u8 (b.toNat:Int)) (fun a ha=>fE (ha.ev rfl) (ha.ev rfl) atE rfl hb rfl)<|bz (.bool (decide ((b.toNat:Int) > 57))) (fun a ha=>dH (ha.ev rfl) (ha.ev rfl) rfl)<|Lf rfl rfl<|Jn<|?_
   cases LQ:(decide ((b.toNat:Int) > 57))
   ·skip
    exact absurd hbd (by have e1:=of_decide_eq_false vz;have e2:=of_decide_eq_false LQ;omega)
   ·skip
    refine JC.bK rfl<|Js<|Lz dW (fun a ha=>bF.run_build (ha.bW rfl) atL atF fO rfl)<|JL.store HS rfl rfl (i:=2) rfl atz rfl rfl rfl (vs':=df) rfl rfl (fun w12 HS => ?_);refine La rfl<|Jn<|Jb Tryz.results123 (.agg rfl atD atz (HS.box _ ay) rfl rfl) (.tmp rfl)<|?_;exact ⟨_,_,_,_,_,_,_,rfl,(HS.add (FV.stable _ _ _ _) ((FV.zero 0 _).as rfl af)).jm 3 4 rfl rfl⟩
  ·skip
   refine Lm rfl<|Lq<|Lq<|Lq<|Lq<|Lt rfl rfl<|Jn<|JC.bK rfl<|Js<|Lz dW (fun a ha=>bF.run_build (ha.bW rfl) atL atF fO rfl)<|JL.store HS rfl rfl (i:=2) rfl atz rfl rfl rfl (vs':=df) rfl rfl (fun uI HS => ?_);refine La rfl<|Jn<|Jb Tryz.results123 (.agg rfl atD atz (HS.box _ ay) rfl rfl) (.tmp rfl)<|?_;exact ⟨_,_,_,_,_,_,_,rfl,(HS.add (FV.stable _ _ _ _) ((FV.zero 0 _).as rfl af)).jm 3 4 rfl rfl⟩
 ·skip
  refine JC.seq<|?_;obtain ⟨b,hb⟩ : ∃ b,r[j]? = some b:=⟨_,awf (show j<r.length from af)⟩;have hbd:=hdig j b af hb;refine JC.region<|Lm rfl<|Lm rfl<|Lz (.int .u8 (b.toNat:Int)) (fun a ha=>fE (ha.ev rfl) (ha.ev rfl) atE rfl hb rfl)<|Lz (.bool false) (fun a ha=>dU (ha.ev rfl) (ha.ev rfl) (decide_eq_false af))<|Lm rfl<|bJ rfl<|bJ rfl<|bz (.int .u8 (b.toNat:Int)) (fun a ha=>fE (ha.ev rfl) (ha.ev rfl) atE rfl hb rfl)<|bz (.bool false) (fun a ha=>dH (ha.ev rfl) (ha.ev rfl) (decide_eq_false af))<|Lf rfl rfl<|Jn<|JC.bG rfl<|Jk<|JC.seq<|JC.draw HS [10] ah (fun uJ HS => ?_);refine Da (.agg #[.bool s9,.slice A9 n9 c9]) 0 1 rfl HS.b0 rfl rfl atH atB<|Dm 3 rfl HS.b0 rfl<|Dm 4 rfl HS.b0 rfl<|Dv (.int .u8 (b.toNat:Int)) 5 rfl HS.b0 (fun a ha w=>fE (ha.ev rfl) (ha.ev rfl) atE rfl hb rfl)<|Dv (.int .u8 ((b.toNat-48:Nat):Int)) 6 rfl HS.b0 (fun a ha w=>zW (ha.ev rfl) (ha.ev rfl) (Aw hbd))<|Dv (.int .i64 ((b.toNat-48:Nat):Int)) 7 rfl HS.b0 (fun a ha w=>zS (ha.ev rfl) au3 au4 (by rw [IntKind.wrap_i64];omega))<|bV 1 rfl rfl rfl atX (kM HT HB HS  af af)<|?_;rintro akm akM ⟨aiH,Za,afJ,aa',rfl,HS⟩;refine ⟨HS.b0,?_⟩;refine bV 2 rfl rfl rfl auf (nO HT HB HS (HS.at_ 1 rfl) (HS.at_ 0 rfl) af)<|?_;rintro akn akN ⟨aiI,Zb,afK,aba,rfl,HS⟩;refine ⟨HS.b0,?_⟩;refine bV 8 rfl rfl rfl atX (kM HT HB HS  af af)<|?_;rintro ako akO ⟨aiJ,Zc,afL,abb,rfl,HS⟩;refine ⟨HS.b0,?_⟩;refine bV 9 rfl rfl rfl au5 (zL HT HB HS (HS.at_ 1 rfl) (HS.at_ 0 rfl) af)<|?_;rintro akp akP ⟨Eb,AU,Dt,BG,rfl,HS⟩;refine ⟨HS.b0,?_⟩;refine iZ 10 [.bool Eb,.slice AU Dt BG] HS 1 rfl rfl rfl rfl atB (fun _ HS=>⟨(gZ (s:=10) rfl rfl),?_⟩);refine JR.next ah (fun _ _ h=>h)<|JC.draw HS [3] ah (fun w16 HS => ?_);refine Da (.agg #[.bool s11,.slice dV n11 c11]) 0 0 rfl HS.b0 rfl rfl atH atB<|bV 1 rfl rfl rfl atX (kM HT HB HS  af af)<|?_;rintro aks akS ⟨aiL,Ze,afN,abe,rfl,HS⟩;refine ⟨HS.b0,?_⟩;refine bV 2 rfl rfl rfl auf (nO HT HB HS (HS.at_ 6 rfl) (HS.at_ 0 rfl) af)<|?_;rintro akt akT ⟨Ec,AV,Du,BH,rfl,HS⟩;refine ⟨HS.b0,?_⟩;refine iZ 3 [.bool Ec,.slice AV Du BH] HS 0 rfl rfl rfl rfl atB (fun _ HS=>⟨(gZ (s:=3) rfl rfl),?_⟩)
  refine JR.xx ah (fun _ _ h=>h)<|JC.region<|Lz (.int .i64 ((j+1:Nat):Int)) (fun a ha=>iw (ha.ev rfl) (ha.ev rfl) (by rw [IntKind.wrap_i64];omega))<|Lm rfl<|?_;exact Jr ((j+1),Eb,AU,Dt,BG,Ec,AV,Du,BH) ⟨af,(HS.sJ 0 8 2 0 rfl rfl rfl (fun _ h=>FI.tw h (Ae hb) (nI hz (.inr trivial) (hdt (j+1) af) af)) rfl (fun _ h=>FI.tw h (aw8 _ _).symm (mW af)))⟩
theorem ahA(HT:Tz W0)(HB:Tab W0)(HS:St W0 U Ps w)(hp:RP f z c)(hl:r.length<=300)(hc0:c=0)(hz0:0<=z)(hr0:0<r.length)(zq:n<=64)(hz:z.natAbs<pw 32)(hdt : ∀ j,j<=r.length->bI (r.take j)<10^j)(hdig : ∀ (j:Nat) (b:UInt8),r[j]? = some b->48<=b.toNat/\b.toNat<=57):bC Tryz.prog 123 [.string ⟨(45::f).toArray⟩,.string ⟨r.toArray⟩,.int .i64 n] w (fJ W0 U Ps (Rat.divInt (-(z*10^r.length+(bI r:Int))) ((10:Int)^r.length)) 200 (.int .i64 0)):=by
 refine cO au1 rfl au2 rfl<|Js<|JL.alloc (vs:=df) HS rfl atF rfl rfl (fun g1 w1 HS => ?_);refine La rfl<|Jn<|Js<|Lm rfl<|Lz (.int .i64 ((45::f).length:Int)) (fun a ha=>dQ (ha.ev rfl) atE rfl)<|Lz (.bool true) (fun a ha=>dH (ha.ev rfl) (ha.ev rfl) (decide_eq_true (by simp)))<|Lm rfl<|bJ rfl<|bz (.int .u8 45) (fun a ha=>fE (ha.ev rfl) (ha.ev rfl) atE rfl rfl rfl)<|bz (.bool true) (fun a ha=>dh (ha.ev rfl) (ha.ev rfl) ai)<|Lt rfl rfl<|La rfl<|Jn<|JC.seq<|Js<|Lm rfl<|Jn<|JC.bK rfl<|JC.region<|Lm rfl<|Lz (.string ⟨f.toArray⟩) (fun a ha=>zV (ha.ev rfl) (ha.ev rfl) atE rfl (by simp) rfl)<|La rfl<|Jn<|Js<|Lm rfl<|JL.call rfl rfl at7 (hp HS)<|?_;rintro v2 w2 ⟨s2,A2,n2,c2,rfl,HS⟩;refine Lm rfl<|Lx rfl rfl<|Lx rfl rfl<|JL.alloc (vs:=[.bool false,.slice none 0 0]) HS rfl atM rfl rfl (fun g3 w3 HS => ?_);refine JL.store HS rfl rfl (i:=0) rfl atB rfl rfl rfl (vs':=[.bool s2,.slice A2 n2 c2]) rfl rfl (fun w4 HS => ?_);refine La rfl<|Jn<|JC.seq<|Js<|Lm rfl<|Lz (.bool false) (fun a ha=>gG (ha.ev rfl) (ha.ev rfl) (by rw [hc0];rfl))<|Lm rfl<|bz (.agg #[.bool s2,.slice A2 n2 c2]) (fun a ha=>dJ (ha.ev rfl) atH atB (HS.box _ ak) rfl rfl)<|JL.dD rfl rfl rfl rfl rfl rfl aul (o9 HT HB HS (HS.at_ 0 rfl) af)<|?_;rintro v5 w5 ⟨rfl,HS⟩;refine bz (.bool false) (fun a ha=>dU (ha.ev rfl) (ha.ev rfl) ((uF _).trans (decide_eq_false (show ¬ z<0 from af))))<|Lf rfl rfl<|Lm rfl<|bJ rfl<|bz (.int .i64 (r.length:Int)) (fun a ha=>dQ (ha.ev rfl) atE rfl)<|bz (.bool false) (fun a ha=>dh (ha.ev rfl) (ha.ev rfl) (zC hr0))<|Lf rfl rfl<|Lm rfl<|bJ rfl<|bz (.bool false) (fun a ha=>dH (ha.ev rfl) (ha.ev rfl) (decide_eq_false af))<|Lf rfl rfl<|Jn<|JC.bG rfl<|Jk<|Js<|JL.call rfl rfl auz (vZ HT HB HS  )<|?_;rintro v6 w6 ⟨s6,A6,n6,c6,rfl,HS⟩;refine JL.alloc (vs:=[.bool false,.slice none 0 0]) HS rfl atM rfl rfl (fun g7 w7 HS => ?_);refine JL.store HS rfl rfl (i:=0) rfl atB rfl rfl rfl (vs':=[.bool s6,.slice A6 n6 c6]) rfl rfl (fun w8 HS => ?_);refine Jn<|JC.seq<|Js<|Lm rfl<|Lz (.int .i64 (r.length:Int)) (fun a ha=>dQ (ha.ev rfl) atE rfl)<|Lm rfl<|Jn<|JC.block<|Jw (ι:=zA) (fun ⟨j,s9,A9,n9,c9,s11,dV,n11,c11⟩=>r.length-j) (fun ⟨j,s9,A9,n9,c9,s11,dV,n11,c11⟩=>[(0,.string ⟨f.toArray⟩),(1,.string ⟨r.toArray⟩),(2,.int .i64 n),(6,.pointer (some ⟨g1,0,none⟩)),(8,.bool true),(9,.pointer (some ⟨g3,0,none⟩)),(10,.int .i64 c),(11,.pointer (some ⟨g7,0,none⟩)),(13,.string ⟨(45::f).toArray⟩),(14,.int .i64 ((45::f).length:Int)),(15,.bool true),(16,.bool true),(17,.string ⟨(45::f).toArray⟩),(18,.int .u8 45),(19,.bool true),(20,.bool true),(21,.bool true),(22,.string ⟨(45::f).toArray⟩),(23,.string ⟨f.toArray⟩),(24,.tuple #[.agg #[.bool s2,.slice A2 n2 c2],.int .i64 c]),(25,.string ⟨f.toArray⟩),(26,.tuple #[.agg #[.bool s2,.slice A2 n2 c2],.int .i64 c]),(27,.agg #[.bool s2,.slice A2 n2 c2]),(28,.int .i64 c),(29,.int .i64 c),(30,.bool false),(31,.bool false),(32,.agg #[.bool s2,.slice A2 n2 c2]),(33,.int .i64 (dL z)),(34,.bool false),(35,.bool false),(36,.bool false),(37,.string ⟨r.toArray⟩),(38,.int .i64 (r.length:Int)),(39,.bool false),(40,.bool false),(41,.bool false),(42,.int .i64 n),(43,.bool false),(44,.bool false),(46,.agg #[.bool s6,.slice A6 n6 c6]),(47,.string ⟨r.toArray⟩),(48,.int .i64 (r.length:Int)),(49,aj j)]) (fun ⟨j,s9,A9,n9,c9,s11,dV,n11,c11⟩ w=>(j<=r.length)/\St W0 (⟨g7,79,[.bool s11,.slice dV n11 c11]⟩::⟨g3,79,[.bool s9,.slice A9 n9 c9]⟩::⟨g1,24,df⟩::U) (FI (.agg #[.bool s9,.slice A9 n9 c9]) (z*10^j+(bI (r.take j):Int)) 80::FI (.agg #[.bool s11,.slice dV n11 c11]) ((10:Int)^j) 40::FI (.agg #[.bool s6,.slice A6 n6 c6]) 1 2::FI (.agg #[.bool s2,.slice A2 n2 c2]) z 32::Ps) w) ?_ (0,s2,A2,n2,c2,s6,A6,n6,c6) _ ⟨avY _,((HS.jC 0 rfl (fun _ h=>FI.tw h (axf _).symm (mW af))).jC 2 rfl (fun _ h=>FI.tw h (by simp [bI]) (nI (j:=0) hz (.inr trivial) (by simp [bI]) af)))⟩
 skip;rintro ⟨j,s9,A9,n9,c9,s11,dV,n11,c11⟩ yI ⟨xN,HS⟩
 try dsimp only at *
 refine Js<|Lb rfl rfl<|Jn<|JC.seq<|?_
 cases rX:(decide ((j:Int)<(r.length:Int)))
 ·skip
  have hd9:=of_decide_eq_false rX;refine JC.bG rfl<|?_;obtain rfl:j=r.length:=af;refine JC.exit (fun _ _ h=>h) (fun _ _ h=>h)<|JC.seq<|Js<|Lm rfl<|Jn<|JC.bK rfl<|JC.region<|JL.load (.agg #[.bool s9,.slice A9 n9 c9]) HS 1 rfl rfl rfl atH atB rfl rfl<|JL.call rfl rfl Tryz.call108 (ain HT HB HS (HS.at_ 0 rfl) af)<|?_;rintro v10 w10 ⟨s10,IY,n10,c10,rfl,HS⟩;refine JL.store HS rfl rfl (i:=1) rfl atB rfl rfl rfl (vs':=[.bool s10,.slice IY n10 c10]) rfl rfl (fun qO HS => ?_);refine Jn<|Js<|JL.load (.agg #[.bool s10,.slice IY n10 c10]) HS 1 rfl rfl rfl atH atB rfl rfl<|JL.load (.agg #[.bool s11,.slice dV n11 c11]) HS 0 rfl rfl rfl atH atB rfl rfl<|JL.call rfl rfl auK (yt HT HB HS (HS.at_ 0 rfl) (HS.at_ 2 rfl) af (show (10:Int)^r.length≠0 from Int.ne_of_gt (axs ai)))<|?_;rintro v12 w12 ⟨s12,IZ,n12,c12,Jd,m12,d12,rfl,HS⟩;refine JL.store HS rfl rfl (i:=2) rfl atz rfl rfl rfl (vs':=(avT s12 IZ n12 c12 Jd m12 d12)) rfl rfl (fun uI HS => ?_);refine La rfl<|Jn<|Jb Tryz.results123 (.agg rfl atD atz (HS.box _ ay) rfl rfl) (.tmp rfl)<|?_;exact ⟨_,_,_,_,_,_,_,rfl,HS.oh 3 6 0 rfl (fun _ h=>h.as (by rw [awm]) af)⟩
 ·skip
  have hd9:=of_decide_eq_true rX;refine JC.bK rfl<|Jk<|JC.seq<|JC.block<|Js<|Lm rfl<|La rfl<|Jn<|JC.seq<|JC.seq<|?_;obtain ⟨b,hb⟩ : ∃ b,r[j]? = some b:=⟨_,awf (show j<r.length from af)⟩;have hbd:=hdig j b hb;refine JC.region<|Lm rfl<|Lm rfl<|Lz (.int .u8 (b.toNat:Int)) (fun a ha=>fE (ha.ev rfl) (ha.ev rfl) atE rfl hb rfl)<|Lz (.bool false) (fun a ha=>dU (ha.ev rfl) (ha.ev rfl) (decide_eq_false af))<|Lm rfl<|bJ rfl<|bJ rfl<|bz (.int .u8 (b.toNat:Int)) (fun a ha=>fE (ha.ev rfl) (ha.ev rfl) atE rfl hb rfl)<|bz (.bool false) (fun a ha=>dH (ha.ev rfl) (ha.ev rfl) (decide_eq_false af))<|Lf rfl rfl<|Jn<|JC.bG rfl<|Jk<|JC.seq<|JC.draw HS [10] ah (fun uJ HS => ?_);refine Da (.agg #[.bool s9,.slice A9 n9 c9]) 0 1 rfl HS.b0 rfl rfl atH atB<|Dm 3 rfl HS.b0 rfl<|Dm 4 rfl HS.b0 rfl<|Dv (.int .u8 (b.toNat:Int)) 5 rfl HS.b0 (fun a ha w=>fE (ha.ev rfl) (ha.ev rfl) atE rfl hb rfl)<|Dv (.int .u8 ((b.toNat-48:Nat):Int)) 6 rfl HS.b0 (fun a ha w=>zW (ha.ev rfl) (ha.ev rfl) (Aw hbd))<|Dv (.int .i64 ((b.toNat-48:Nat):Int)) 7 rfl HS.b0 (fun a ha w=>zS (ha.ev rfl) au3 au4 (by rw [IntKind.wrap_i64];omega))<|bV 1 rfl rfl rfl atX (kM HT HB HS  af af)<|?_;rintro akm akM ⟨aiH,Za,afJ,aa',rfl,HS⟩;refine ⟨HS.b0,?_⟩;refine bV 2 rfl rfl rfl auf (nO HT HB HS (HS.at_ 1 rfl) (HS.at_ 0 rfl) af)<|?_;rintro akn akN ⟨aiI,Zb,afK,aba,rfl,HS⟩;refine ⟨HS.b0,?_⟩;refine bV 8 rfl rfl rfl atX (kM HT HB HS  af af)<|?_;rintro ako akO ⟨aiJ,Zc,afL,abb,rfl,HS⟩;refine ⟨HS.b0,?_⟩;refine bV 9 rfl rfl rfl au5 (zL HT HB HS (HS.at_ 1 rfl) (HS.at_ 0 rfl) af)<|?_;rintro akp akP ⟨Eb,AU,Dt,BG,rfl,HS⟩;refine ⟨HS.b0,?_⟩;refine iZ 10 [.bool Eb,.slice AU Dt BG] HS 1 rfl rfl rfl rfl atB (fun _ HS=>⟨(gZ (s:=10) rfl rfl),?_⟩);refine JR.next ah (fun _ _ h=>h)<|JC.draw HS [3] ah (fun w16 HS => ?_);refine Da (.agg #[.bool s11,.slice dV n11 c11]) 0 0 rfl HS.b0 rfl rfl atH atB<|bV 1 rfl rfl rfl atX (kM HT HB HS  af af)<|?_;rintro aks akS ⟨aiL,Ze,afN,abe,rfl,HS⟩;refine ⟨HS.b0,?_⟩;refine bV 2 rfl rfl rfl auf (nO HT HB HS (HS.at_ 6 rfl) (HS.at_ 0 rfl) af)<|?_
  rintro akt akT ⟨Ec,AV,Du,BH,rfl,HS⟩;refine ⟨HS.b0,?_⟩;refine iZ 3 [.bool Ec,.slice AV Du BH] HS 0 rfl rfl rfl rfl atB (fun _ HS=>⟨(gZ (s:=3) rfl rfl),?_⟩);refine JR.xx ah (fun _ _ h=>h)<|JC.region<|Lz (.int .i64 ((j+1:Nat):Int)) (fun a ha=>iw (ha.ev rfl) (ha.ev rfl) (by rw [IntKind.wrap_i64];omega))<|Lm rfl<|?_;exact Jr ((j+1),Eb,AU,Dt,BG,Ec,AV,Du,BH) ⟨af,(HS.sJ 0 8 2 0 rfl rfl rfl (fun _ h=>FI.tw h (Ae hb) (nI hz (.inr trivial) (hdt (j+1) af) af)) rfl (fun _ h=>FI.tw h (aw8 _ _).symm (mW af)))⟩
end
end Go.Proofs.BGQ
namespace Lw
open Go
theorem BD{b c:UInt8}(h:b≠c):b.toNat≠c.toNat:=fun e=>h (UInt8.toNat_inj.1 e)
theorem ac0(l:List UInt8):(∀ b∈l,b≠47/\b≠46) \/ ∃ a c r,l=a++c::r/\(c=47\/c=46) /\ ∀ b∈a,b≠47/\b≠46:=by
 induction l with
 | nil=>exact .inl fun b h=>by cases h
 | cons x l ih =>
  by_cases hx:x=47\/x=46
  ·exact .inr ⟨[],x,l,rfl,hx,fun b h=>by cases h⟩
  ·have hx':x≠47/\x≠46:=⟨fun e=>hx (.inl e),fun e=>hx (.inr e)⟩
   rcases ih with h | ⟨a,c,r,h1,h2,h3⟩
   ·refine .inl fun b hb => ?_
    rcases List.mem_cons.1 hb with rfl | hb
    ·exact hx'
    ·exact h b hb
   ·refine .inr ⟨x::a,c,r,by rw [h1];rfl,h2,fun b hb => ?_⟩
    rcases List.mem_cons.1 hb with rfl | hb
    ·exact hx'
    ·exact h3 b hb
theorem ajf{l:List UInt8}{c:UInt8}(h:c∈l) : ∃ a r,l=a++c::r /\ ∀ x∈a,x≠c:=by
 induction l with
 | nil=>cases h
 | cons x l ih =>
  by_cases hx:x=c
  ·exact ⟨[],l,by rw [hx];rfl,fun x h=>by cases h⟩
  ·rcases List.mem_cons.1 h with e | e
   ·exact absurd e.symm hx
   ·obtain ⟨a,r,h1,h2⟩:=ih e
    refine ⟨x::a,r,by rw [h1];rfl,fun y hy => ?_⟩;rcases List.mem_cons.1 hy with rfl | hy
    ·exact hx
    ·exact h2 y hy
theorem aff{a a' r r':List UInt8}{c:UInt8}(h:a++c::r=a'++c::r')(h1 : ∀ x∈a,x≠c)(h2 : ∀ x∈a',x≠c):a=a'/\r=r':=by
 induction a generalizing a' with
 | nil =>
  cases a' with
  | nil=>exact ⟨rfl,by injection h⟩
  | cons y b=>injection h with e _;exact absurd e.symm (h2 y ak)
 | cons x a ih =>
  cases a' with
  | nil=>injection h with e _;exact absurd e (h1 x ak)
  | cons y b =>
   injection h with e1 e2;obtain ⟨i1,i2⟩:=ih e2 (fun z hz=>h1 z (.tail _ hz)) (fun z hz=>h2 z (.tail _ hz));exact ⟨by rw [e1,i1],i2⟩
theorem Sj{x y:Int}(hy:0<y)(h:Nat.gcd x.natAbs y.natAbs=1):(Rat.divInt x y).num=x/\((Rat.divInt x y).den:Int)=y:=by
 rw [awL,awM];have hg:Int.gcd y x=1:=by rw [Int.gcd_comm];exact h
 rw [hg];constructor
 ·rw [axj hy];simp
 ·rw [if_neg af];simp;omega
theorem agd{a r:List UInt8}{z:Int}(_:a=Lib.itoa z):lD (Rat.divInt z 1)≠a++47::r:=by
 intro h;have hm:(47:UInt8)∈lD (Rat.divInt z 1):=by rw [h];simp
 rw [show Rat.divInt z 1=(z:Rat) from Rat.ext (by rw [awL];simp) (by rw [awM];simp)] at hm;unfold lD at hm;rw [if_pos (Rat.den_intCast _),Rat.num_intCast] at hm;exact Dh (.inr rfl) _ hm rfl
theorem YB{a r:List UInt8}{x y:Int}(ha:a=Lib.itoa x)(hr:r=Lib.itoa y)(hy:1<y):lD (Rat.divInt x y)=a++47::r↔(x≠0/\Nat.gcd x.natAbs y.natAbs=1):=by
 constructor
 ·intro h
  unfold lD at h
  split at h
  ·have hm:(47:UInt8)∈Lib.itoa (Rat.divInt x y).num:=by rw [h];simp
   exact absurd rfl (Dh (.inr rfl) _ hm)
  ·rename_i hd
   obtain ⟨h1,h2⟩:=aff (c:=47) h (Dh (.inr rfl)) (by rw [ha];exact Dh (.inr rfl));have e1:=Df (h1.trans ha);have e2:=Df (h2.trans hr);have e3:=(Rat.divInt x y).reduced;unfold Nat.Coprime at e3;rw [e1] at e3;have e4:(Rat.divInt x y).den=y.natAbs:=af;rw [e4] at e3;refine ⟨fun hx => ?_,e3⟩;rw [hx,Int.natAbs_zero,axo] at e3;omega
 ·rintro ⟨_,h⟩
  obtain ⟨h1,h2⟩:=Sj (show 0<y from af) h;unfold lD;rw [if_neg af,h1,h2,ha,hr]
  rfl
theorem af5(x y:Int) : -Rat.divInt x y=Rat.divInt (-x) y:=Rat.neg_divInt x y
theorem ab5{z:Int}{f r:List UInt8}(h:f=Lib.itoa z)(hz:0<=z):(bI (f++r):Int)=z*10^r.length+(bI r:Int):=by
 rw [Sv,h,kZ (by unfold sg;exact decide_eq_false af),awj,rD,awV,aws,Int.natCast_pow];have:((z.natAbs:Nat):Int)=z:=af;rw [this]
 rfl
theorem ac1{r:List UInt8}(h:¬ dG r) : ∃ m,m<r.length/\(∀ (j:Nat) (b:UInt8),j<m->r[j]? = some b->48<=b.toNat/\b.toNat<=57) /\ ∀ b,r[m]? = some b->¬ (48<=b.toNat/\b.toNat<=57):=by
 induction r with
 | nil=>exact absurd (fun b hb=>by cases hb) h
 | cons x r ih =>
  by_cases hx:48<=x.toNat/\x.toNat<=57
  ·have h2:¬ dG r:=fun hd=>h fun b hb=>by
    rcases List.mem_cons.1 hb with rfl | hb
    ·exact hx
    ·exact hd b hb
   obtain ⟨m,h3,h4,h5⟩:=ih h2;refine ⟨m+1,by simp;omega,fun j b hj hb => ?_,fun b hb=>h5 b (by simpa using hb)⟩
   cases j with
   | zero=>simp at hb;subst hb;exact hx
   | succ j=>exact h4 j b af (by simpa using hb)
  ·exact ⟨0,by simp,fun j b hj=>af,fun b hb=>by simp at hb;subst hb;exact hx⟩
theorem Si{r:List UInt8}{m j:Nat}(h : ∀ (j:Nat) (b:UInt8),j<m->r[j]? = some b->48<=b.toNat/\b.toNat<=57)(hm:m<=r.length)(hj:j<=m):bI (r.take j)<10^j:=by
 have hd:dG (r.take m):=fun b hb=>by
  obtain ⟨k,hk⟩:=List.getElem?_of_mem hb
  have hk2:k<m:=by
   have:=(awD.1 hk).1;rw [aww] at this;omega
  exact h k b hk2 (by rw [List.getElem?_take_of_lt hk2] at hk;exact hk)
 have:=BV hd j (by rw [aww];omega)
 rwa [axt,awH hj] at this
end Lw
namespace Go.Proofs.BGQ
open Go Go.RowKit Lw bF
def PB(l:List UInt8)(q:Rat)(er:Value)(c:Int):Prop := ∀ {W0 w:World} {U:List Box} {Ps:List (World->Prop)},Tz W0->Tab W0->Mx W0->St W0 U Ps w ->
 bC Tryz.prog 73 [.string ⟨l.toArray⟩] w (fJ W0 U Ps q 1000 er)/\bC Tryz.prog 75 [.string ⟨l.toArray⟩] w (fJ W0 U Ps q 1000 (.int .i64 c))
def mG(q:Rat)(er:Value)(c:Int):Prop:=(er = .nilIface/\c=0/\q.num.natAbs<pw 40/\q.den<pw 40)\/(er = .iface 88 (.int .i64 c)/\c≠0/\q=0)
theorem mG.no{c:Int}(h:c≠0):mG 0 (.iface 88 (.int .i64 c)) c := .inr ⟨rfl,h,rfl⟩
theorem BU{n d:Int}(hd:0<d):(Rat.divInt n d).num.natAbs<=n.natAbs/\(Rat.divInt n d).den<=d.natAbs:=by
 rw [awL,awM,axj hd,Int.one_mul,if_neg af];exact ⟨by rw [Int.natAbs_ediv_of_dvd (Int.gcd_dvd_right ..)];exact awl _ _,awl _ _⟩
theorem ajz{f r:List UInt8}(hf:dG (f++r))(hl:f.length+r.length<=64):bI (f++r)<pw 40/\10^r.length<pw 40:=by
 have h1:=BV hf (f++r).length (avW _);rw [awm,awO] at h1;have h2:10^(f.length+r.length)<=10^64:=awv ai hl;have h3:10^r.length<=10^64:=awv ai af;have h4:10^64<pw 40:=by decide +kernel
 omega
section
variable {W0 w:World} {U:List Box} {Ps:List (World->Prop)}
variable {vs:List Value} {K:Nat} {er:Value}
theorem sD{f:FuncId}{q r:Rat}{k:Nat}(h:bC Tryz.prog f vs w (fJ W0 U Ps q k er))(hq:q=r)(hk:k<=K):bC Tryz.prog f vs w (fJ W0 U Ps r K er) :=
 Calls.mono h fun e w' hh=>by
  subst hq;obtain ⟨u,rfl,s,A,n,c,B,m,d,rfl,hs⟩:=hh;exact ⟨_,rfl,_,_,_,_,_,_,_,rfl,hs.out 0 1 0 rfl rfl rfl (fun _ h=>h.weak hk)⟩
theorem pO{f:FuncId}(h:bC Tryz.prog f vs w (di W0 U Ps (.tuple #[dW,er]))):bC Tryz.prog f vs w (fJ W0 U Ps 0 K er) :=
 Calls.mono h fun e w' hh=>by
  obtain ⟨u,rfl,rfl,hs⟩:=hh;exact ⟨_,rfl,_,_,_,_,_,_,_,rfl,hs.add (FV.stable _ _ _ _) (FV.zero K w')⟩
end
theorem H6(l:List UInt8)(hl:l.length<=300) : ∃ z c,RP l z c/\((l=Lib.itoa z/\c=0)\/((∀ z',l≠Lib.itoa z')/\c=2/\z=0)):=by
 rcases Classical.em (∃ z,l=Lib.itoa z) with ⟨z,h⟩ | h
 ·exact ⟨z,0,RP.yes h hl,.inl ⟨h,rfl⟩⟩
 ·have h' : ∀ z,l≠Lib.itoa z:=fun z e=>h ⟨z,e⟩
  exact ⟨0,2,RP.no h' hl,.inr ⟨h',rfl,rfl⟩⟩
theorem ahF{l:List UInt8}(hl:l.length<=300)(h : ∀ b∈l,b≠47/\b≠46) : ∃ q er c,jL er c/\PB l q er c/\mG q er c:=by
 have hcl : ∀ (j:Nat) (b:UInt8),l[j]? = some b->b.toNat≠47/\b.toNat≠46:=fun j b hb=>⟨BD (h b (av5 hb)).1,BD (h b (av5 hb)).2⟩;have hno : ∀ x∈l,x≠46:=fun x hx=>(h x hx).2;have hcut:=abR (l:=l) (c:=47) (fun x hx=>(h x hx).1);obtain ⟨z,c,hp,⟨hz,rfl⟩ | ⟨hz,rfl,rfl⟩⟩:=H6 l hl
 ·exact ⟨_,_,0,jL.nil_,fun HT HB HX HS=>⟨sD (adf HT HB HS HX hno hl hcut hz) rfl af,sD (Xf HT HB HS hcl hl hp) rfl af⟩,.inl ⟨rfl,rfl,by rw [Rat.num_intCast];exact av1 (zy (by rw [<- hz];omega)) (fM af),by rw [Rat.den_intCast];decide +kernel⟩⟩
 ·exact ⟨0,_,2,jL.err 2,fun HT HB HX HS=>⟨pO (adg HT HB HS HX hno hl hcut hz),sD (Xf HT HB HS hcl hl hp) rfl af⟩,mG.no ai⟩
theorem Qw{a r:List UInt8}{c:UInt8} : (a++c::r)[a.length]? = some c/\(a++c::r).take a.length=a/\(a++c::r).drop (a.length+1)=r:=by
 refine ⟨by simp,by simp,?_⟩;rw [<- List.drop_drop];simp
theorem Rh{a r:List UInt8}{c:UInt8}(h : ∀ b∈a,b≠47/\b≠46) : ∀ (j:Nat) (b:UInt8),j<a.length->(a++c::r)[j]? = some b->b.toNat≠47/\b.toNat≠46:=fun j b hj hb=>by
 rw [List.getElem?_append_left hj] at hb;exact ⟨BD (h b (av5 hb)).1,BD (h b (av5 hb)).2⟩
theorem SY(a r:List UInt8):(∃ f,a=45::f/\Lib.trimPrefix (a++46::r) [45]=f++46::r/\Lib.hasPrefix (a++46::r) [45]=true)\/((∀ x,a[0]? = some x->x.toNat≠45)/\Lib.trimPrefix (a++46::r) [45]=a++46::r/\Lib.hasPrefix (a++46::r) [45]=false):=by
 cases a with
 | nil=>exact .inr ⟨fun x h=>by simp at h,by simp [Lib.trimPrefix,Lib.hasPrefix,List.isPrefixOf],by simp [Lib.hasPrefix,List.isPrefixOf]⟩
 | cons y f =>
  by_cases hy:y=45
  ·subst hy
   exact .inl ⟨f,rfl,by simp [Lib.trimPrefix,Lib.hasPrefix,List.isPrefixOf],by simp [Lib.hasPrefix,List.isPrefixOf]⟩
  ·have hy2:¬ (45:UInt8)=y:=fun e=>hy e.symm
   exact .inr ⟨fun x h=>by simp at h;subst h;exact BD hy,by simp [Lib.trimPrefix,Lib.hasPrefix,List.isPrefixOf,hy2],by simp [Lib.hasPrefix,List.isPrefixOf,hy2]⟩
theorem Nc{l t f b:List UInt8}{neg:Bool}(ht:Lib.trimPrefix l [45]=t)(hn:Lib.hasPrefix l [45]=neg)(hcut:Lib.cut t [46]=(f,b,true))(hl:l.length<=300)(htl:t.length<=300)(hfl:f.length<=300)(hbl:b.length<=300)(h:64<l.length\/¬ Plain f\/¬ (0<b.length/\dG b)):Bz l 0 (.iface 88 (.int .i64 2)):=fun HT HB HX HS=>by
 by_cases h64:64<l.length
 ·exact pO (agw HT HB HS HX ht hn hcut hl htl hfl hbl h64)
 ·have KR:l.length<=64:=af
  by_cases hf:0<f.length/\dG f
  ·by_cases hb:0<b.length/\dG b
   ·have hp:¬ Plain f:=by
     rcases h with h | h | h
     ·exact absurd h h64
     ·exact h
     ·exact absurd hb h
    have h1:f[0]? = some 48/\f≠[48]:=by
     by_cases h2:(f[0]'hf.1).toNat=48
     ·refine ⟨by rw [awf hf.1];congr 1;exact UInt8.toNat_inj.1 h2,fun e=>hp ?_⟩
      subst e;exact ⟨ai,hf.2,fun h3=>absurd h3 ai⟩
     ·exact absurd ⟨hf.1,hf.2,fun _ _=>h2⟩ hp
    exact pO (agt HT HB HS HX ht hn hcut hl htl hfl hbl KR hf hb h1.1 h1.2)
   ·exact pO (agu HT HB HS HX ht hn hcut hl htl hfl hbl KR hf hb)
  ·exact pO (agv HT HB HS HX ht hn hcut hl htl hfl hbl KR hf)
theorem ags{l t f b:List UInt8}{neg:Bool}(ht:Lib.trimPrefix l [45]=t)(hn:Lib.hasPrefix l [45]=neg)(hcut:Lib.cut t [46]=(f,b,true))(hl:l.length<=64)(htl:t.length<=300)(hfb:f.length+b.length<=64)(hp:Plain f)(hb:0<b.length/\dG b):Bz l (if neg=true then -(Rat.divInt (bI (f++b):Int) ((10:Int)^b.length)) else Rat.divInt (bI (f++b):Int) ((10:Int)^b.length)) .nilIface:=fun HT HB HX HS=>by
 have hf:0<f.length/\dG f:=⟨hp.1,hp.2.1⟩
 by_cases h2:(f[0]'hf.1).toNat=48
 ·have h3:f=[48]:=by
   have h4:¬ 1<f.length:=fun h=>hp.2.2 h hf.1 h2
   cases f with
   | nil=>exact absurd hf.1 (by simp)
   | cons x f =>
    cases f with
    | nil=>rw [show x=48 from UInt8.toNat_inj.1 h2]
    | cons y f=>exact absurd (show 1<(x::y::f).length by simp) h4
  exact agy HT HB HS HX ht hn hcut af htl af af hl hf hb hfb h3
 ·exact agx HT HB HS HX ht hn hcut af htl af af hl hf hb hfb (awf hf.1) h2
theorem Wq{f:List UInt8} : Plain f ↔ ∃ z,0<=z/\f=Lib.itoa z:=by
 constructor
 ·intro h
  exact ⟨(bI f:Int),af,KQ ⟨h,fun h=>by cases h.1⟩⟩
 ·rintro ⟨z,hz,rfl⟩
  rw [kZ (by unfold sg;exact decide_eq_false af),awj];exact sN _
theorem ahG{a r:List UInt8}(hl:(a++47::r).length<=300)(h : ∀ b∈a,b≠47/\b≠46) : ∃ q er c,jL er c/\PB (a++47::r) q er c/\mG q er c:=by
 have hla:a.length+(r.length+1)<=300:=by simpa using hl
 obtain ⟨hat,htk,hdr⟩:=Qw (a:=a) (r:=r) (c:=47);have hcl:=Rh (r:=r) (c:=47) h;obtain ⟨za,ca,ha,hca⟩:=H6 a af;obtain ⟨zr,cr,hr,hcr⟩:=H6 r af
 have bad:(ca≠0\/cr≠0\/zr<=0\/lD (Rat.divInt za zr)≠a++47::r)->(∀ {W0 w:World} {U:List Box} {Ps:List (World->Prop)},Tz W0->Tab W0->Mx W0->St W0 U Ps w->bC Tryz.prog 73 [.string ⟨(a++47::r).toArray⟩] w (fJ W0 U Ps 0 1000 (.iface 88 (.int .i64 2)))) -> ∃ q er c,jL er c/\PB (a++47::r) q er c/\mG q er c:=fun hbad hprog =>
  ⟨0,_,2,jL.err 2,fun HT HB HX HS=>⟨hprog HT HB HX HS,sD (aiq HT HB HS hcl hat htk hdr hl ha hr hbad) rfl af⟩,mG.no ai⟩
 by_cases xJ:(46:UInt8)∈r
 ·have hcr2:cr≠0:=by
   rcases hcr with ⟨h1,_⟩ | ⟨_,h1,_⟩
   ·rw [h1] at xJ;exact absurd rfl (Dh (.inl rfl) _ xJ)
   ·omega
  refine bad (.inr (.inl hcr2)) fun HT HB HX HS=>sD (k:=900) (SS HT HB HS HX (by simp [xJ]) hl ?_) rfl af;obtain ⟨r1,r2,rfl,hr1⟩:=ajf xJ
  have Uh : ∀ g:List UInt8,¬ Plain (g++47::r1):=fun g hp=>by
   have:=hp.2.1 47 (by simp)
   revert this;decide
  have hna : ∀ g:List UInt8,(∀ b∈g,b≠47/\b≠46) -> ∀ x∈g++47::r1,x≠46:=fun g hg x hx=>by
   rcases awE.1 hx with hx | hx
   ·exact (hg x hx).2
   ·rcases List.mem_cons.1 hx with rfl | hx
    ·decide
    ·exact hr1 x hx
  have e1:a++47::(r1++46::r2)=(a++47::r1)++46::r2:=by simp
  rw [e1] at hl ⊢;have hl2:a.length+(r1.length+1)+(r2.length+1)<=300:=by simp at hl;omega
  rcases SY (a++47::r1) r2 with ⟨f,hf,ht,hn⟩ | ⟨_,ht,hn⟩
  ·cases a with
   | nil=>injection hf with e _;exact fun _ _ _ _=>absurd e ai
   | cons y g =>
    injection hf with _ e;subst e;intro W0 w U Ps HT HB HX HS;refine Nc ht hn (BM r2 (hna g (fun b hb=>h b (.tail _ hb)))) hl ?_ ?_ ?_ (.inr (.inl (Uh g))) HT HB HX HS
    all_goals (simp only [List.append_eq,awO,awq] at hl2 ⊢ <;> omega)
  ·intro W0 w U Ps HT HB HX HS;refine Nc ht hn (BM r2 (hna a h)) hl ?_ ?_ ?_ (.inr (.inl (Uh a))) HT HB HX HS
   all_goals (first | omega | (simp only [awO,awq];omega))
 ·have hno : ∀ x∈a++47::r,x≠46:=fun x hx=>by
   rcases awE.1 hx with hx | hx
   ·exact (h x hx).2
   ·rcases List.mem_cons.1 hx with rfl | hx
    ·decide
    ·exact fun e=>xJ (e ▸ hx)
  have hcut:Lib.cut (a++47::r) [47]=(a,r,true):=BM r (fun x hx=>(h x hx).1);rcases hca with ⟨hza,hca⟩ | ⟨hza,hca,_⟩
  ·rcases hcr with ⟨vC,hcr⟩ | ⟨vC,hcr,_⟩
   ·by_cases h1:zr<=1
    ·refine bad ?_ fun HT HB HX HS=>pO (adh HT HB HS HX hno hl hcut af af hza vC h1)
     by_cases h0:zr<=0
     ·exact .inr (.inr (.inl h0))
     ·have:zr=1:=af
      subst this;exact .inr (.inr (.inr (agd hza)))
    ·by_cases hok:za≠0/\Nat.gcd za.natAbs zr.natAbs=1
     ·exact ⟨_,_,0,jL.nil_,fun HT HB HX HS=>⟨sD (adi HT HB HS HX hno hl hcut af af hza vC af hok) rfl af,sD (ait HT HB HS hcl hat htk hdr hl ha hr ⟨hca,hcr,af,(YB hza vC af).2 hok⟩) rfl af⟩,by
       have hco:=Sj (x:=za) (y:=zr) af hok.2;have l1:za.natAbs<pw 32:=zy (by rw [<- hza];omega);have l2:zr.natAbs<pw 32:=zy (by rw [<- vC];omega);have l3:pw 32<=pw 40:=fM af;exact .inl ⟨rfl,rfl,by rw [hco.1];omega,af⟩⟩
     ·exact bad (.inr (.inr (.inr (mt (YB hza vC af).1 hok)))) fun HT HB HX HS=>pO (ada HT HB HS HX hno hl hcut af af hza vC af hok)
   ·exact bad (.inr (.inl af)) fun HT HB HX HS=>pO (adb HT HB HS HX hno hl hcut af af hza vC)
  ·exact bad (.inl af) fun HT HB HX HS=>pO (adk HT HB HS HX hno hl hcut af af hza)
theorem RF{f r t l:List UInt8}{neg:Bool}(hl:l.length<=300)(ht:Lib.trimPrefix l [45]=t)(hn:Lib.hasPrefix l [45]=neg)(hcut:Lib.cut t [46]=(f,r,true))(htl:t.length<=300)(hlen:f.length+r.length+1<=l.length){a:List UInt8}(ha:(neg=true/\a=45::f)\/(neg=false/\a=f /\ ∀ x,f[0]? = some x->x.toNat≠45)) : ∃ q er c,jL er c/\Bz l q er/\RD a r (l.length:Int) q c/\mG q er c:=by
 obtain ⟨z,c,hp,hz⟩:=H6 f af
 by_cases hbad:64<l.length\/¬ Plain f\/¬ (0<r.length/\dG r)
 ·refine ⟨0,_,2,jL.err 2,Nc ht hn hcut hl htl af af hbad,fun HT HB HS => ?_,mG.no ai⟩
  by_cases zo:c≠0\/z<0\/r.length=0\/64<(l.length:Int)
  ·rcases ha with ⟨_,rfl⟩ | ⟨_,rfl,h45⟩
   ·exact ahy HT HB HS hp af zo
   ·exact ahz HT HB HS h45 hp af zo
  ·have hc0:c=0:=Classical.byContradiction fun e=>zo (.inl e)
   have hz0:0<=z:=Classical.byContradiction fun e=>zo (.inr (.inl af));have hr0:0<r.length:=Classical.byContradiction fun e=>zo (.inr (.inr (.inl af)));have zq:(l.length:Int)<=64:=Classical.byContradiction fun e=>zo (.inr (.inr (.inr af)))
   have hfz:f=Lib.itoa z:=by
    rcases hz with ⟨h1,_⟩ | ⟨_,h1,_⟩
    ·exact h1
    ·omega
   have hnd:¬ dG r:=by
    rcases hbad with h | h | h
    ·omega
    ·exact absurd (Wq.2 ⟨z,hz0,hfz⟩) h
    ·exact fun hd=>h ⟨hr0,hd⟩
   obtain ⟨m,h1,h2,h3⟩:=ac1 hnd;have hzl:z.natAbs<pw 32:=zy (by rw [<- hfz];omega);rcases ha with ⟨_,rfl⟩ | ⟨_,rfl,h45⟩
   ·exact ahw HT HB HS hp af hc0 hz0 hr0 zq hzl (fun j hj=>Si h2 af hj) h1 h2 h3
   ·exact ahx HT HB HS h45 hp af hc0 hz0 hr0 zq hzl (fun j hj=>Si h2 af hj) h1 h2 h3
 ·have h64:l.length<=64:=Classical.byContradiction fun e=>hbad (.inl af)
  have hpl:Plain f:=Classical.byContradiction fun e=>hbad (.inr (.inl e));have hrd:0<r.length/\dG r:=Classical.byContradiction fun e=>hbad (.inr (.inr e));obtain ⟨y,hy0,Ui⟩:=Wq.1 hpl;rcases hz with ⟨hfz,hc0⟩ | ⟨h1,_⟩
  ·obtain rfl:=Df (hfz.symm.trans Ui)
   have hzl:z.natAbs<pw 32:=zy (by rw [<- hfz];omega);have hdg : ∀ (j:Nat) (b:UInt8),r[j]? = some b->48<=b.toNat/\b.toNat<=57:=fun j b hb=>hrd.2 b (av5 hb);have hdt : ∀ j,j<=r.length->bI (r.take j)<10^j:=fun j hj=>BV hrd.2 j hj;have hv:=ab5 (r:=r) hfz hy0;have aeR:(10:Int)^r.length=((10^r.length:Nat):Int):=by rw [Int.natCast_pow];rfl
   have h10:(0:Int)<(10:Int)^r.length:=axs ai;have hfd:=ajz (f:=f) (r:=r) (fun x hx=>(awE.1 hx).elim (hpl.2.1 x) (hrd.2 x)) af;have hle:=BU (n:=(bI (f++r):Int)) h10;rw [av2] at hle;have hna:((10:Int)^r.length).natAbs=10^r.length:=by rw [aeR,av2]
   refine ⟨_,_,0,jL.nil_,ags ht hn hcut h64 htl af hpl hrd,fun HT HB HS => ?_,.inl ⟨rfl,rfl,?_,?_⟩⟩
   rotate_left
   ·split
    ·rw [(yj _).1,axl];omega
    ·omega
   ·split
    ·rw [(yj _).2];omega
    ·omega
   rcases ha with ⟨rfl,rfl⟩ | ⟨rfl,rfl,h45⟩
   ·rw [if_pos rfl,hv,af5]
    exact ahA HT HB HS hp af hc0 hy0 hrd.1 af hzl hdt hdg
   ·rw [if_neg ai,hv]
    exact ahB HT HB HS h45 hp af hc0 hy0 hrd.1 af hzl hdt hdg
  ·exact absurd Ui (h1 y)
theorem ahE{a r:List UInt8}(hl:(a++46::r).length<=300)(h : ∀ b∈a,b≠47/\b≠46) : ∃ q er c,jL er c/\PB (a++46::r) q er c/\mG q er c:=by
 have hla:a.length+(r.length+1)<=300:=by simpa using hl
 obtain ⟨hat,htk,hdr⟩:=Qw (a:=a) (r:=r) (c:=46);have hcl:=Rh (r:=r) (c:=46) h
 have key : ∃ q er c,jL er c/\Bz (a++46::r) q er/\RD a r ((a++46::r).length:Int) q c/\mG q er c:=by
  rcases SY a r with ⟨f,rfl,ht,hn⟩ | ⟨h45,ht,hn⟩
  ·exact RF hl ht hn (BM r (fun x hx=>(h x (.tail _ hx)).2)) (by simp at hla ⊢ <;> omega) (by simp <;> omega) (.inl ⟨rfl,rfl⟩)
  ·exact RF hl ht hn (BM r (fun x hx=>(h x hx).2)) (by simp at hla ⊢ <;> omega) (by simp <;> omega) (.inr ⟨rfl,rfl,h45⟩)
 obtain ⟨q,er,c,h1,h2,h3,h4⟩:=key;exact ⟨q,er,c,h1,fun HT HB HX HS=>⟨sD (SS HT HB HS HX (by simp) hl h2) rfl af,sD (air HT HB HS hcl hat htk hdr hl h3) rfl af⟩,h4⟩
theorem ahD(l:List UInt8)(hl:l.length<=300\/65536<l.length) : ∃ q er c,jL er c/\PB l q er c/\mG q er c:=by
 rcases hl with hl | hl
 ·rcases ac0 l with h | ⟨a,x,r,rfl,rfl | rfl,h⟩
  ·exact ahF hl h
  ·exact ahG hl h
  ·exact ahE hl h
 ·exact ⟨0,_,4,jL.err 4,fun HT HB HX HS=>⟨pO (ade HT HB HS hl),pO (ais HT HB HS hl)⟩,mG.no ai⟩
section
variable {W0 w:World} {U:List Box} {Ps:List (World->Prop)}
theorem FV.tight{v:Value}{q:Rat}{k K:Nat}{w:World}(h:FV v q K true w)(h1:q.num.natAbs<pw k)(h2:q.den<pw k):FV v q k true w:=by
 obtain ⟨s,A,n,c,B,m,d,rfl⟩:=h.shape;have e:=dB.own h;have e1:(rn q).length<=k:=iy h1;have e2:=Gq h2;exact FV.mk h.neg h.num h.den af af
def PF(f:FuncId)(l:List UInt8)(q:Rat)(er:Value):Prop := ∀ {W0 w:World} {U:List Box} {Ps:List (World->Prop)},Tz W0->Tab W0->Mx W0->St W0 U Ps w->bC Tryz.prog f [.string ⟨l.toArray⟩] w (fJ W0 U Ps q 1000 er)
def yP(f:FuncId)(l:List UInt8)(u:Bool)(q:Rat)(er:Value):Prop := ∀ {W0 w:World} {U:List Box} {Ps:List (World->Prop)},Tz W0->Tab W0->Mx W0->St W0 U Ps w->bC Tryz.prog f [.string ⟨l.toArray⟩] w (mD W0 U Ps q u 40 er)
set_option maxRecDepth 100000 in
set_option maxHeartbeats 400000 in
theorem ake(_HT:Tz W0)(_HB:Tab W0)(HS:St W0 U Ps w)(_HX:Mx W0):bC Tryz.prog 28 [.string ⟨([104,97,108,102]).toArray⟩] w (mD W0 U Ps 0 true 40 (.nilIface)):=by
 refine cO Tryz.func28 rfl Tryz.ntmps28 rfl<|Js<|JL.alloc (vs:=[.bool false,.slice none 0 0,.slice none 0 0,.bool false]) HS rfl atG rfl rfl (fun g21 dN HS => ?_);refine La rfl<|Jn<|JC.seq<|Js<|Lm rfl<|Lz (.bool true) (fun a ha=>zU (ha.ev rfl) (ha.ev rfl) (by simp))<|Jn<|JC.bK rfl<|Js<|Lz (.agg #[.bool false,.slice none 0 0,.slice none 0 0,.bool true]) (fun a ha=>bF.run_build (ha.bW rfl) atI atG jb rfl)<|JL.store HS rfl rfl (i:=0) rfl atA rfl rfl rfl (vs':=[.bool false,.slice none 0 0,.slice none 0 0,.bool true]) rfl rfl (fun dO HS => ?_);refine La rfl<|Jn<|Jb Tryz.results28 (.agg rfl atC atA (HS.box _ ak) rfl rfl) (.tmp rfl)<|?_;exact ⟨_,_,_,_,_,_,_,rfl,(HS.add (FV.stable _ _ _ _) (FV.zero 0 _)).out 1 1 0 rfl rfl rfl (fun _ h=>h.as rfl af)⟩
set_option maxRecDepth 100000 in
set_option maxHeartbeats 400000 in
theorem aiw(_HT:Tz W0)(_HB:Tab W0)(HS:St W0 U Ps w)(_HX:Mx W0):bC Tryz.prog 31 [.string ⟨([104,97,108,102]).toArray⟩] w (mD W0 U Ps 0 true 40 (.int .i64 0)):=by
 refine cO Tryz.func31 rfl Tryz.ntmps31 rfl<|Js<|JL.alloc (vs:=[.bool false,.slice none 0 0,.slice none 0 0,.bool false]) HS rfl atG rfl rfl (fun g21 dN HS => ?_);refine La rfl<|Jn<|JC.seq<|Js<|Lm rfl<|Lz (.bool true) (fun a ha=>zU (ha.ev rfl) (ha.ev rfl) (by simp))<|Jn<|JC.bK rfl<|Js<|Lz (.agg #[.bool false,.slice none 0 0,.slice none 0 0,.bool true]) (fun a ha=>bF.run_build (ha.bW rfl) atI atG jb rfl)<|JL.store HS rfl rfl (i:=0) rfl atA rfl rfl rfl (vs':=[.bool false,.slice none 0 0,.slice none 0 0,.bool true]) rfl rfl (fun dO HS => ?_);refine La rfl<|Jn<|Jb Tryz.results31 (.agg rfl atC atA (HS.box _ ak) rfl rfl) (.tmp rfl)<|?_;exact ⟨_,_,_,_,_,_,_,rfl,(HS.add (FV.stable _ _ _ _) (FV.zero 0 _)).out 1 1 0 rfl rfl rfl (fun _ h=>h.as rfl af)⟩
set_option maxRecDepth 100000 in
set_option maxHeartbeats 400000 in
theorem akf(HT:Tz W0)(HB:Tab W0){l:List UInt8}{q:Rat}(HS:St W0 U Ps w)(HX:Mx W0)(hne:l≠[104,97,108,102])(hp:PF 73 l q (.nilIface))(hn:q.num.natAbs<pw 40)(hd:q.den<pw 40):bC Tryz.prog 28 [.string ⟨l.toArray⟩] w (mD W0 U Ps q false 40 (.nilIface)):=by
 refine cO Tryz.func28 rfl Tryz.ntmps28 rfl<|Js<|JL.alloc (vs:=[.bool false,.slice none 0 0,.slice none 0 0,.bool false]) HS rfl atG rfl rfl (fun g21 dN HS => ?_);refine La rfl<|Jn<|JC.seq<|Js<|Lm rfl<|Lz (.bool false) (fun a ha=>zU (ha.ev rfl) (ha.ev rfl) (by simpa using hne))<|Jn<|JC.bG rfl<|Jk<|Js<|Lm rfl<|JL.call rfl rfl Tryz.call73 (hp HT HB HX HS)<|?_;rintro v22 dO ⟨jJ,jq,n22,jy,jw,m22,d22,rfl,HS⟩;have HS:=HS.jC 0 rfl (fun _ h=>FV.tight h hn hd);refine Lm rfl<|Lx rfl rfl<|Lx rfl rfl<|JL.alloc (vs:=[.bool false,.slice none 0 0,.slice none 0 0]) HS rfl atF rfl rfl (fun g23 fH HS => ?_);refine JL.store HS rfl rfl (i:=0) rfl atz rfl rfl rfl (vs':=[.bool jJ,.slice jq n22 jy,.slice jw m22 d22]) rfl rfl (fun gu HS => ?_);refine La rfl<|Jn<|JC.seq<|Js<|Lm rfl<|Lz (.bool false) (fun a ha=>gB (ha.ev rfl) rfl atJ)<|Jn<|JC.bG rfl<|Jk<|Js<|JL.load (.agg #[.bool jJ,.slice jq n22 jy,.slice jw m22 d22]) HS 0 rfl rfl rfl atD atz rfl rfl<|Lz (.agg #[.bool jJ,.slice jq n22 jy,.slice jw m22 d22,.bool false]) (fun a ha=>bF.run_build (ha.bW rfl) atI atG jb rfl)<|JL.store HS rfl rfl (i:=1) rfl atA rfl rfl rfl (vs':=[.bool jJ,.slice jq n22 jy,.slice jw m22 d22,.bool false]) rfl rfl (fun gy HS => ?_);refine La rfl<|Jn<|Jb Tryz.results28 (.agg rfl atC atA (HS.box _ au) rfl rfl) (.tmp rfl)<|?_;exact ⟨_,_,_,_,_,_,_,rfl,HS.oh 2 2 0 rfl (fun _ h=>h.as rfl af)⟩
set_option maxRecDepth 100000 in
set_option maxHeartbeats 400000 in
theorem aix(HT:Tz W0)(HB:Tab W0){l:List UInt8}{q:Rat}(HS:St W0 U Ps w)(HX:Mx W0)(hne:l≠[104,97,108,102])(hp:PF 75 l q (.int .i64 0))(hn:q.num.natAbs<pw 40)(hd:q.den<pw 40):bC Tryz.prog 31 [.string ⟨l.toArray⟩] w (mD W0 U Ps q false 40 (.int .i64 0)):=by
 refine cO Tryz.func31 rfl Tryz.ntmps31 rfl<|Js<|JL.alloc (vs:=[.bool false,.slice none 0 0,.slice none 0 0,.bool false]) HS rfl atG rfl rfl (fun g21 dN HS => ?_);refine La rfl<|Jn<|JC.seq<|Js<|Lm rfl<|Lz (.bool false) (fun a ha=>zU (ha.ev rfl) (ha.ev rfl) (by simpa using hne))<|Jn<|JC.bG rfl<|Jk<|Js<|Lm rfl<|JL.call rfl rfl Tryz.call75 (hp HT HB HX HS)<|?_;rintro v22 dO ⟨jJ,jq,n22,jy,jw,m22,d22,rfl,HS⟩;have HS:=HS.jC 0 rfl (fun _ h=>FV.tight h hn hd);refine Lm rfl<|Lx rfl rfl<|Lx rfl rfl<|JL.alloc (vs:=[.bool false,.slice none 0 0,.slice none 0 0]) HS rfl atF rfl rfl (fun g23 fH HS => ?_);refine JL.store HS rfl rfl (i:=0) rfl atz rfl rfl rfl (vs':=[.bool jJ,.slice jq n22 jy,.slice jw m22 d22]) rfl rfl (fun gu HS => ?_);refine La rfl<|Jn<|JC.seq<|Js<|Lm rfl<|Lz (.bool false) (fun a ha=>gG (ha.ev rfl) (ha.ev rfl) ai)<|Jn<|JC.bG rfl<|Jk<|Js<|JL.load (.agg #[.bool jJ,.slice jq n22 jy,.slice jw m22 d22]) HS 0 rfl rfl rfl atD atz rfl rfl<|Lz (.agg #[.bool jJ,.slice jq n22 jy,.slice jw m22 d22,.bool false]) (fun a ha=>bF.run_build (ha.bW rfl) atI atG jb rfl)<|JL.store HS rfl rfl (i:=1) rfl atA rfl rfl rfl (vs':=[.bool jJ,.slice jq n22 jy,.slice jw m22 d22,.bool false]) rfl rfl (fun gy HS => ?_);refine La rfl<|Jn<|Jb Tryz.results31 (.agg rfl atC atA (HS.box _ au) rfl rfl) (.tmp rfl)<|?_;exact ⟨_,_,_,_,_,_,_,rfl,HS.oh 2 2 0 rfl (fun _ h=>h.as rfl af)⟩
set_option maxRecDepth 100000 in
set_option maxHeartbeats 400000 in
theorem akd(HT:Tz W0)(HB:Tab W0){l:List UInt8}{q:Rat}{z:Int}(HS:St W0 U Ps w)(HX:Mx W0)(hne:l≠[104,97,108,102])(hp:PF 73 l q (.iface 88 (.int .i64 z)))(hz:z≠0):bC Tryz.prog 28 [.string ⟨l.toArray⟩] w (mD W0 U Ps 0 false 40 (.iface 88 (.int .i64 z))):=by
 refine cO Tryz.func28 rfl Tryz.ntmps28 rfl<|Js<|JL.alloc (vs:=[.bool false,.slice none 0 0,.slice none 0 0,.bool false]) HS rfl atG rfl rfl (fun g21 dN HS => ?_);refine La rfl<|Jn<|JC.seq<|Js<|Lm rfl<|Lz (.bool false) (fun a ha=>zU (ha.ev rfl) (ha.ev rfl) (by simpa using hne))<|Jn<|JC.bG rfl<|Jk<|Js<|Lm rfl<|JL.call rfl rfl Tryz.call73 (hp HT HB HX HS)<|?_;rintro v22 dO ⟨jJ,jq,n22,jy,jw,m22,d22,rfl,HS⟩;refine Lm rfl<|Lx rfl rfl<|Lx rfl rfl<|JL.alloc (vs:=[.bool false,.slice none 0 0,.slice none 0 0]) HS rfl atF rfl rfl (fun g23 fH HS => ?_);refine JL.store HS rfl rfl (i:=0) rfl atz rfl rfl rfl (vs':=[.bool jJ,.slice jq n22 jy,.slice jw m22 d22]) rfl rfl (fun gu HS => ?_);refine La rfl<|Jn<|JC.seq<|Js<|Lm rfl<|Lz (.bool true) (fun a ha=>Ea (ha.ev rfl) rfl atJ)<|Jn<|JC.bK rfl<|Js<|Lz (.agg #[.bool false,.slice none 0 0,.slice none 0 0,.bool false]) (fun a ha=>bF.run_build (ha.bW rfl) atI atG jb rfl)<|Lm rfl<|JL.store HS rfl rfl (i:=1) rfl atA rfl rfl rfl (vs':=[.bool false,.slice none 0 0,.slice none 0 0,.bool false]) rfl rfl (fun gy HS => ?_);refine La rfl<|Jn<|Jb Tryz.results28 (.agg rfl atC atA (HS.box _ au) rfl rfl) (.tmp rfl)<|?_;exact ⟨_,_,_,_,_,_,_,rfl,(HS.add (FV.stable _ _ _ _) (FV.zero 0 _)).out 2 2 0 rfl rfl rfl (fun _ h=>h.as rfl af)⟩
set_option maxRecDepth 100000 in
set_option maxHeartbeats 400000 in
theorem aiv(HT:Tz W0)(HB:Tab W0){l:List UInt8}{q:Rat}{z:Int}(HS:St W0 U Ps w)(HX:Mx W0)(hne:l≠[104,97,108,102])(hp:PF 75 l q (.int .i64 z))(hz:z≠0):bC Tryz.prog 31 [.string ⟨l.toArray⟩] w (mD W0 U Ps 0 false 40 (.int .i64 z)):=by
 refine cO Tryz.func31 rfl Tryz.ntmps31 rfl<|Js<|JL.alloc (vs:=[.bool false,.slice none 0 0,.slice none 0 0,.bool false]) HS rfl atG rfl rfl (fun g21 dN HS => ?_);refine La rfl<|Jn<|JC.seq<|Js<|Lm rfl<|Lz (.bool false) (fun a ha=>zU (ha.ev rfl) (ha.ev rfl) (by simpa using hne))<|Jn<|JC.bG rfl<|Jk<|Js<|Lm rfl<|JL.call rfl rfl Tryz.call75 (hp HT HB HX HS)<|?_;rintro v22 dO ⟨jJ,jq,n22,jy,jw,m22,d22,rfl,HS⟩;refine Lm rfl<|Lx rfl rfl<|Lx rfl rfl<|JL.alloc (vs:=[.bool false,.slice none 0 0,.slice none 0 0]) HS rfl atF rfl rfl (fun g23 fH HS => ?_);refine JL.store HS rfl rfl (i:=0) rfl atz rfl rfl rfl (vs':=[.bool jJ,.slice jq n22 jy,.slice jw m22 d22]) rfl rfl (fun gu HS => ?_);refine La rfl<|Jn<|JC.seq<|Js<|Lm rfl<|Lz (.bool true) (fun a ha=>gG (ha.ev rfl) (ha.ev rfl) (bne_iff_ne.2 hz))<|Jn<|JC.bK rfl<|Js<|Lz (.agg #[.bool false,.slice none 0 0,.slice none 0 0,.bool false]) (fun a ha=>bF.run_build (ha.bW rfl) atI atG jb rfl)<|Lm rfl<|JL.store HS rfl rfl (i:=1) rfl atA rfl rfl rfl (vs':=[.bool false,.slice none 0 0,.slice none 0 0,.bool false]) rfl rfl (fun gy HS => ?_);refine La rfl<|Jn<|Jb Tryz.results31 (.agg rfl atC atA (HS.box _ au) rfl rfl) (.tmp rfl)<|?_;exact ⟨_,_,_,_,_,_,_,rfl,(HS.add (FV.stable _ _ _ _) (FV.zero 0 _)).out 2 2 0 rfl rfl rfl (fun _ h=>h.as rfl af)⟩
def aaG(l:List UInt8):Prop := ∃ z:Int,z≠0/\yP 28 l false 0 (.iface 88 (.int .i64 z))/\yP 31 l false 0 (.int .i64 z)
theorem akj(l:List UInt8)(hl:l.length<=300):aaG l \/ ∃ u q,(u=true->q=0)/\q.num.natAbs<pw 40/\q.den<pw 40/\yP 28 l u q .nilIface/\yP 31 l u q (.int .i64 0):=by
 by_cases hne:l=[104,97,108,102]
 ·subst hne
  exact .inr ⟨true,0,fun _=>rfl,by decide +kernel,by decide +kernel,fun HT HB HX HS=>ake HT HB HS HX,fun HT HB HX HS=>aiw HT HB HS HX⟩
 ·obtain ⟨q,er,c,_,hp,h⟩:=ahD l (.inl hl)
  rcases h with ⟨rfl,rfl,h1,h2⟩ | ⟨rfl,hz,rfl⟩
  ·exact .inr ⟨false,q,fun h=>(by cases h),h1,h2,fun HT HB HX HS=>akf HT HB HS HX hne (fun HT HB HX HS=>(hp HT HB HX HS).1) h1 h2,fun HT HB HX HS=>aix HT HB HS HX hne (fun HT HB HX HS=>(hp HT HB HX HS).2) h1 h2⟩
  ·exact .inl ⟨c,hz,fun HT HB HX HS=>akd HT HB HS HX hne (fun HT HB HX HS=>(hp HT HB HX HS).1) hz,fun HT HB HX HS=>aiv HT HB HS HX hne (fun HT HB HX HS=>(hp HT HB HX HS).2) hz⟩
theorem IG(l:List UInt8)(hl:l.length<=300) : ∃ u q er c,jL er c/\yP 28 l u q er/\yP 31 l u q (.int .i64 c):=by
 rcases akj l hl with ⟨z,_,h1,h2⟩ | ⟨u,q,_,_,_,h1,h2⟩
 ·exact ⟨false,0,_,z,jL.err z,h1,h2⟩
 ·exact ⟨u,q,_,0,jL.nil_,h1,h2⟩
end
section
variable {W0 w:World} {U:List Box} {Ps:List (World->Prop)}
theorem alz(n:Nat):decide (((n:Int)) > 200)=decide (200<n):=decide_eq_decide.2 af
set_option maxRecDepth 100000 in
set_option maxHeartbeats 4000000 in
theorem aj6(HT:Tz W0)(HB:Tab W0){l:List UInt8}{s1:Bool}{A1:Option Addr}{n1 c1:Nat}{B1:Option Addr}{m1 d1:Nat}{q1:Rat}{k1:Nat}{b1:Bool}{s2:Bool}{A2:Option Addr}{n2 c2:Nat}{B2:Option Addr}{m2 d2:Nat}{q2:Rat}{k2:Nat}{b2:Bool}(HS:St W0 U Ps w)(f1:FV (.agg #[.bool s1,.slice A1 n1 c1,.slice B1 m1 d1]) q1 k1 b1 w)(f2:FV (.agg #[.bool s2,.slice A2 n2 c2,.slice B2 m2 d2]) q2 k2 b2 w)(HX:Mx W0):bC Tryz.prog 4 [.agg #[.bool s1,.slice A1 n1 c1,.slice B1 m1 d1],.agg #[.bool s2,.slice A2 n2 c2,.slice B2 m2 d2],.string ⟨l.toArray⟩] w (di W0 U Ps (.bool true)):=by
 have HS:=HS.add (FV.stable _ _ _ _) f1;have HS:=HS.add (FV.stable _ _ _ _) f2;clear f1 f2;refine cO avL rfl Tryz.ntmps4 rfl<|Js<|JL.box (vs:=[.bool s1,.slice A1 n1 c1,.slice B1 m1 d1]) HS rfl rfl rfl rfl (fun g21 dN HS => ?_);refine JL.box (vs:=[.bool s2,.slice A2 n2 c2,.slice B2 m2 d2]) HS rfl rfl rfl rfl (fun g22 dO HS => ?_);refine La rfl<|Jn<|JC.seq<|Js<|JL.call rfl rfl auT (Az HT HB HS  )<|?_;rintro v23 fH ⟨rfl,HS⟩;refine Lz (.bool false) (fun a ha=>iE (b:=true) (ha.ev rfl))<|Lm rfl<|bz (.agg #[.bool s1,.slice A1 n1 c1,.slice B1 m1 d1]) (fun a ha=>dJ (ha.ev rfl) atD atz (HS.box _ au) rfl rfl)<|bz (.agg #[.bool s2,.slice A2 n2 c2,.slice B2 m2 d2]) (fun a ha=>dJ (ha.ev rfl) atD atz (HS.box _ ak) rfl rfl)<|JL.J9 (vs:=[.bool s1,.slice A1 n1 c1,.slice B1 m1 d1,.bool s2,.slice A2 n2 c2,.slice B2 m2 d2]) HS rfl rfl rfl rfl rfl (fun a ha=>ha.bW rfl) auo atz atF rfl rfl ah rfl (fun g24 gu HS => ?_);refine JL.dD rfl rfl rfl rfl rfl rfl Tryz.call12 (akg HT HB HS)<|?_;rintro v25 gy ⟨rfl,HS⟩;refine bz (.bool (!(decide (n1<=6/\m1<=6/\n2<=6/\m2<=6)))) (fun a ha=>iE (ha.ev rfl))<|Lf rfl rfl<|?_
 cases F8:((decide (n1<=6/\m1<=6/\n2<=6/\m2<=6)))
 ·skip
  refine Lm rfl<|Lq<|Lq<|Lq<|Lt rfl rfl<|Jn<|JC.bK rfl<|Js<|JL.call rfl rfl auT (Az HT HB HS  )<|?_;rintro v27 kN ⟨rfl,HS⟩;refine La rfl<|Jn<|Ja Tryz.results4 (.tmp rfl)<|?_;exact ⟨rfl,HS.o0 3 2⟩
 ·skip
  have hfew:=of_decide_eq_true F8;have HS:=HS.jC 1 rfl (fun _ h=>(dB.cut (K:=6) h af af:FV _ _ 6 _ _));have HS:=HS.jC 1 rfl (fun _ h=>(dB.cut (K:=6) h af af:FV _ _ 6 _ _));refine Lm rfl<|bJ rfl<|bz (.int .i64 (l.length:Int)) (fun a ha=>dQ (ha.ev rfl) atE rfl)<|bz (.bool (decide (200<l.length))) (fun a ha=>dH (ha.ev rfl) (ha.ev rfl) (alz _))<|Lf rfl rfl<|Jn<|?_
  cases rV:((decide (200<l.length)))
  ·skip
   have hlen:l.length<=300:=by have h9:=of_decide_eq_false rV;omega
   refine JC.bG rfl<|Jk<|?_
   by_cases hc29:q1*q1+q2*q2=1
   ·skip
    by_cases xH:q1*q1+q2*q2=0
    ·skip
     refine JC.seq<|?_;obtain ⟨u,q,er,c,hn1,hw1,hw2⟩:=IG l hlen;refine JC.region<|JL.load (.agg #[.bool s1,.slice A1 n1 c1,.slice B1 m1 d1]) HS 2 rfl rfl rfl atD atz rfl rfl<|JL.load (.agg #[.bool s2,.slice A2 n2 c2,.slice B2 m2 d2]) HS 1 rfl rfl rfl atD atz rfl rfl<|JL.call rfl rfl avM (YK HT HB HS (HS.at_ 1 rfl) (HS.at_ 0 rfl) af hc29)<|?_;rintro v31 nT ⟨yA,wU,n31,c31,EJ,m31,d31,rfl,HS⟩;refine Lm rfl<|Lx rfl rfl<|Lx rfl rfl<|JL.alloc (vs:=[.bool false,.slice none 0 0,.slice none 0 0,.bool false]) HS rfl atG rfl rfl (fun Ti w32 HS => ?_);refine JL.store HS rfl rfl (i:=0) rfl atA rfl rfl rfl (vs':=[.bool yA,.slice wU n31 c31,.slice EJ m31 d31,.bool (decide (q1 = -1))]) rfl rfl (fun yH HS => ?_);refine La rfl<|Jn<|Js<|JL.load (.agg #[.bool s1,.slice A1 n1 c1,.slice B1 m1 d1]) HS 3 rfl rfl rfl atD atz rfl rfl<|JL.load (.agg #[.bool s2,.slice A2 n2 c2,.slice B2 m2 d2]) HS 2 rfl rfl rfl atD atz rfl rfl<|Lz (.agg #[.bool s1,.slice A1 n1 c1,.slice B1 m1 d1,.bool s2,.slice A2 n2 c2,.slice B2 m2 d2]) (fun a ha=>bF.run_build (ha.bW rfl) atW aun qA rfl)<|JL.call rfl rfl avN (YN HT HB HS (HS.at_ 2 rfl) (HS.at_ 1 rfl) af xH)<|?_;rintro v34 Et ⟨rfl,HS⟩;refine Lm rfl<|Lx rfl rfl<|Lx rfl rfl<|JL.alloc (vs:=[.bool false,.slice none 0 0,.slice none 0 0,.bool false]) HS rfl atG rfl rfl (fun g35 Ot HS => ?_);refine JL.store HS rfl rfl (i:=0) rfl atA rfl rfl rfl (vs':=[.bool false,.slice none 0 0,.slice none 0 0,.bool false]) rfl rfl (fun w36 HS => ?_);refine La rfl<|Jn<|Js<|Lm rfl<|JL.call rfl rfl avO (hw1 HT HB HX HS)<|?_;rintro v37 w37 ⟨XT,O5,n37,c37,PL,m37,d37,rfl,HS⟩;refine Lm rfl<|Lx rfl rfl<|Lx rfl rfl<|JL.alloc (vs:=[.bool false,.slice none 0 0,.slice none 0 0,.bool false]) HS rfl atG rfl rfl (fun g38 w38 HS => ?_);refine JL.store HS rfl rfl (i:=0) rfl atA rfl rfl rfl (vs':=[.bool XT,.slice O5 n37 c37,.slice PL m37 d37,.bool u]) rfl rfl (fun w39 HS => ?_);refine La rfl<|Jn<|Js<|JL.load (.agg #[.bool s1,.slice A1 n1 c1,.slice B1 m1 d1]) HS 5 rfl rfl rfl atD atz rfl rfl<|JL.load (.agg #[.bool s2,.slice A2 n2 c2,.slice B2 m2 d2]) HS 4 rfl rfl rfl atD atz rfl rfl<|JL.call rfl rfl avP (Xk HT HB HS (HS.at_ 3 rfl) (HS.at_ 2 rfl) af hc29)<|?_
     rintro v40 w40 ⟨XU,O6,n40,c40,PM,m40,d40,rfl,HS⟩;refine Lm rfl<|Lx rfl rfl<|Lx rfl rfl<|JL.alloc (vs:=[.bool false,.slice none 0 0,.slice none 0 0,.bool false]) HS rfl atG rfl rfl (fun g41 w41 HS => ?_);refine JL.store HS rfl rfl (i:=0) rfl atA rfl rfl rfl (vs':=[.bool XU,.slice O6 n40 c40,.slice PM m40 d40,.bool (decide (q1 = -1))]) rfl rfl (fun w42 HS => ?_);refine La rfl<|Jn<|Js<|JL.load (.agg #[.bool s1,.slice A1 n1 c1,.slice B1 m1 d1]) HS 6 rfl rfl rfl atD atz rfl rfl<|JL.load (.agg #[.bool s2,.slice A2 n2 c2,.slice B2 m2 d2]) HS 5 rfl rfl rfl atD atz rfl rfl<|Lz (.agg #[.bool s1,.slice A1 n1 c1,.slice B1 m1 d1,.bool s2,.slice A2 n2 c2,.slice B2 m2 d2]) (fun a ha=>bF.run_build (ha.bW rfl) atW aun qA rfl)<|JL.call rfl rfl avQ (Xm HT HB HS (HS.at_ 4 rfl) (HS.at_ 3 rfl) af xH)<|?_;rintro v43 w43 ⟨rfl,HS⟩;refine Lm rfl<|Lx rfl rfl<|Lx rfl rfl<|JL.alloc (vs:=[.bool false,.slice none 0 0,.slice none 0 0,.bool false]) HS rfl atG rfl rfl (fun g44 w44 HS => ?_);refine JL.store HS rfl rfl (i:=0) rfl atA rfl rfl rfl (vs':=[.bool false,.slice none 0 0,.slice none 0 0,.bool false]) rfl rfl (fun w45 HS => ?_);refine La rfl<|Jn<|Js<|Lm rfl<|JL.call rfl rfl avR (hw2 HT HB HX HS)<|?_;rintro v46 w46 ⟨XV,O7,n46,c46,PN,m46,d46,rfl,HS⟩;refine Lm rfl<|Lx rfl rfl<|Lx rfl rfl<|JL.alloc (vs:=[.bool false,.slice none 0 0,.slice none 0 0,.bool false]) HS rfl atG rfl rfl (fun g47 w47 HS => ?_);refine JL.store HS rfl rfl (i:=0) rfl atA rfl rfl rfl (vs':=[.bool XV,.slice O7 n46 c46,.slice PN m46 d46,.bool u]) rfl rfl (fun w48 HS => ?_);refine La rfl<|Jn<|Js<|Lm rfl<|JL.call rfl rfl aug (DC HS)<|?_;rintro v49 w49 ⟨rfl,HS⟩;refine Lm rfl<|Lz (.bool true) (fun a ha=>dh (ha.ev rfl) (ha.ev rfl) ai)<|Lm rfl<|bJ rfl<|JL.dD rfl rfl rfl rfl rfl rfl aug (Dz HS 8)<|?_;rintro v50 w50 ⟨rfl,HS⟩;refine bJ rfl<|bz (.bool true) (fun a ha=>dh (ha.ev rfl) (ha.ev rfl) ai)<|Lt rfl rfl<|Lm rfl<|bJ rfl<|JL.dD rfl rfl rfl rfl rfl rfl aug (hn1 _ _ _ _ HS)<|?_;rintro v51 w51 ⟨rfl,HS⟩;refine bJ rfl<|bz (.bool true) (fun a ha=>dh (ha.ev rfl) (ha.ev rfl) (by simp))<|Lt rfl rfl<|Lm rfl<|bz (.agg #[.bool yA,.slice wU n31 c31,.slice EJ m31 d31,.bool (decide (q1 = -1))]) (fun a ha=>dJ (ha.ev rfl) atC atA (HS.box _ aB) rfl rfl)<|bz (.agg #[.bool XU,.slice O6 n40 c40,.slice PM m40 d40,.bool (decide (q1 = -1))]) (fun a ha=>dJ (ha.ev rfl) atC atA (HS.box _ ay) rfl rfl)<|JL.dD rfl rfl rfl rfl rfl rfl aub (nP HT HB HS (HS.at_ 3 rfl) (HS.at_ 1 rfl) af rfl rfl)<|?_
     rintro v52 w52 ⟨rfl,HS⟩;refine Lt rfl rfl<|Lm rfl<|bz (.agg #[.bool false,.slice none 0 0,.slice none 0 0,.bool false]) (fun a ha=>dJ (ha.ev rfl) atC atA (HS.box _ aA) rfl rfl)<|bz (.agg #[.bool false,.slice none 0 0,.slice none 0 0,.bool false]) (fun a ha=>dJ (ha.ev rfl) atC atA (HS.box _ au) rfl rfl)<|JL.dD rfl rfl rfl rfl rfl rfl aub (nP HT HB HS (FV.zero 0 _) (FV.zero 0 _) af rfl rfl)<|?_;rintro v53 w53 ⟨rfl,HS⟩;refine Lt rfl rfl<|Lm rfl<|bz (.agg #[.bool XT,.slice O5 n37 c37,.slice PL m37 d37,.bool u]) (fun a ha=>dJ (ha.ev rfl) atC atA (HS.box _ az) rfl rfl)<|bz (.agg #[.bool XV,.slice O7 n46 c46,.slice PN m46 d46,.bool u]) (fun a ha=>dJ (ha.ev rfl) atC atA (HS.box _ ak) rfl rfl)<|JL.dD rfl rfl rfl rfl rfl rfl aub (nP HT HB HS (HS.at_ 2 rfl) (HS.at_ 0 rfl) af rfl rfl)<|?_;rintro v54 w54 ⟨rfl,HS⟩;refine Lt rfl rfl<|La rfl<|Jn<|Ja Tryz.results4 (.tmp rfl)<|?_;exact ⟨rfl,HS.o0 9 8⟩
    ·skip
     refine JC.seq<|?_;obtain ⟨u,q,er,c,hn1,hw1,hw2⟩:=IG l hlen;refine JC.region<|JL.load (.agg #[.bool s1,.slice A1 n1 c1,.slice B1 m1 d1]) HS 2 rfl rfl rfl atD atz rfl rfl<|JL.load (.agg #[.bool s2,.slice A2 n2 c2,.slice B2 m2 d2]) HS 1 rfl rfl rfl atD atz rfl rfl<|JL.call rfl rfl avM (YK HT HB HS (HS.at_ 1 rfl) (HS.at_ 0 rfl) af hc29)<|?_;rintro v55 w55 ⟨XW,O8,n55,QW,PO,m55,d55,rfl,HS⟩;refine Lm rfl<|Lx rfl rfl<|Lx rfl rfl<|JL.alloc (vs:=[.bool false,.slice none 0 0,.slice none 0 0,.bool false]) HS rfl atG rfl rfl (fun g56 w56 HS => ?_);refine JL.store HS rfl rfl (i:=0) rfl atA rfl rfl rfl (vs':=[.bool XW,.slice O8 n55 QW,.slice PO m55 d55,.bool (decide (q1 = -1))]) rfl rfl (fun w57 HS => ?_);refine La rfl<|Jn<|Js<|JL.load (.agg #[.bool s1,.slice A1 n1 c1,.slice B1 m1 d1]) HS 3 rfl rfl rfl atD atz rfl rfl<|JL.load (.agg #[.bool s2,.slice A2 n2 c2,.slice B2 m2 d2]) HS 2 rfl rfl rfl atD atz rfl rfl<|Lz (.agg #[.bool s1,.slice A1 n1 c1,.slice B1 m1 d1,.bool s2,.slice A2 n2 c2,.slice B2 m2 d2]) (fun a ha=>bF.run_build (ha.bW rfl) atW aun qA rfl)<|JL.call rfl rfl avN (YO HT HB HS (HS.at_ 2 rfl) (HS.at_ 1 rfl) af xH)<|?_;rintro v58 w58 ⟨XX,O9,n58,QX,PR,m58,d58,rfl,HS⟩;refine Lm rfl<|Lx rfl rfl<|Lx rfl rfl<|JL.alloc (vs:=[.bool false,.slice none 0 0,.slice none 0 0,.bool false]) HS rfl atG rfl rfl (fun g59 w59 HS => ?_);refine JL.store HS rfl rfl (i:=0) rfl atA rfl rfl rfl (vs':=[.bool XX,.slice O9 n58 QX,.slice PR m58 d58,.bool (decide (q1=0))]) rfl rfl (fun w60 HS => ?_);refine La rfl<|Jn<|Js<|Lm rfl<|JL.call rfl rfl avO (hw1 HT HB HX HS)<|?_;rintro v61 w61 ⟨XY,Pg,n61,QY,PS,m61,d61,rfl,HS⟩;refine Lm rfl<|Lx rfl rfl<|Lx rfl rfl<|JL.alloc (vs:=[.bool false,.slice none 0 0,.slice none 0 0,.bool false]) HS rfl atG rfl rfl (fun g62 w62 HS => ?_);refine JL.store HS rfl rfl (i:=0) rfl atA rfl rfl rfl (vs':=[.bool XY,.slice Pg n61 QY,.slice PS m61 d61,.bool u]) rfl rfl (fun w63 HS => ?_);refine La rfl<|Jn<|Js<|JL.load (.agg #[.bool s1,.slice A1 n1 c1,.slice B1 m1 d1]) HS 5 rfl rfl rfl atD atz rfl rfl<|JL.load (.agg #[.bool s2,.slice A2 n2 c2,.slice B2 m2 d2]) HS 4 rfl rfl rfl atD atz rfl rfl<|JL.call rfl rfl avP (Xk HT HB HS (HS.at_ 4 rfl) (HS.at_ 3 rfl) af hc29)<|?_
     rintro v64 pG ⟨XZ,Ph,n64,c64,PT,m64,d64,rfl,HS⟩;refine Lm rfl<|Lx rfl rfl<|Lx rfl rfl<|JL.alloc (vs:=[.bool false,.slice none 0 0,.slice none 0 0,.bool false]) HS rfl atG rfl rfl (fun g65 w65 HS => ?_);refine JL.store HS rfl rfl (i:=0) rfl atA rfl rfl rfl (vs':=[.bool XZ,.slice Ph n64 c64,.slice PT m64 d64,.bool (decide (q1 = -1))]) rfl rfl (fun w66 HS => ?_);refine La rfl<|Jn<|Js<|JL.load (.agg #[.bool s1,.slice A1 n1 c1,.slice B1 m1 d1]) HS 6 rfl rfl rfl atD atz rfl rfl<|JL.load (.agg #[.bool s2,.slice A2 n2 c2,.slice B2 m2 d2]) HS 5 rfl rfl rfl atD atz rfl rfl<|Lz (.agg #[.bool s1,.slice A1 n1 c1,.slice B1 m1 d1,.bool s2,.slice A2 n2 c2,.slice B2 m2 d2]) (fun a ha=>bF.run_build (ha.bW rfl) atW aun qA rfl)<|JL.call rfl rfl avQ (Xn HT HB HS (HS.at_ 5 rfl) (HS.at_ 4 rfl) af xH)<|?_;rintro v67 w67 ⟨X0,Pj,n67,QZ,PU,Vu,d67,rfl,HS⟩;refine Lm rfl<|Lx rfl rfl<|Lx rfl rfl<|JL.alloc (vs:=[.bool false,.slice none 0 0,.slice none 0 0,.bool false]) HS rfl atG rfl rfl (fun g68 w68 HS => ?_);refine JL.store HS rfl rfl (i:=0) rfl atA rfl rfl rfl (vs':=[.bool X0,.slice Pj n67 QZ,.slice PU Vu d67,.bool (decide (q1=0))]) rfl rfl (fun w69 HS => ?_);refine La rfl<|Jn<|Js<|Lm rfl<|JL.call rfl rfl avR (hw2 HT HB HX HS)<|?_;rintro v70 w70 ⟨X5,Pm,n70,c70,PV,Vw,d70,rfl,HS⟩;refine Lm rfl<|Lx rfl rfl<|Lx rfl rfl<|JL.alloc (vs:=[.bool false,.slice none 0 0,.slice none 0 0,.bool false]) HS rfl atG rfl rfl (fun g71 w71 HS => ?_);refine JL.store HS rfl rfl (i:=0) rfl atA rfl rfl rfl (vs':=[.bool X5,.slice Pm n70 c70,.slice PV Vw d70,.bool u]) rfl rfl (fun w72 HS => ?_);refine La rfl<|Jn<|Js<|Lm rfl<|JL.call rfl rfl aug (DC HS)<|?_;rintro v73 w73 ⟨rfl,HS⟩;refine Lm rfl<|Lz (.bool true) (fun a ha=>dh (ha.ev rfl) (ha.ev rfl) ai)<|Lm rfl<|bJ rfl<|JL.dD rfl rfl rfl rfl rfl rfl aug (DC HS)<|?_;rintro v74 w74 ⟨rfl,HS⟩;refine bJ rfl<|bz (.bool true) (fun a ha=>dh (ha.ev rfl) (ha.ev rfl) ai)<|Lt rfl rfl<|Lm rfl<|bJ rfl<|JL.dD rfl rfl rfl rfl rfl rfl aug (hn1 _ _ _ _ HS)<|?_;rintro v75 w75 ⟨rfl,HS⟩;refine bJ rfl<|bz (.bool true) (fun a ha=>dh (ha.ev rfl) (ha.ev rfl) (by simp))<|Lt rfl rfl<|Lm rfl<|bz (.agg #[.bool XW,.slice O8 n55 QW,.slice PO m55 d55,.bool (decide (q1 = -1))]) (fun a ha=>dJ (ha.ev rfl) atC atA (HS.box _ aB) rfl rfl)<|bz (.agg #[.bool XZ,.slice Ph n64 c64,.slice PT m64 d64,.bool (decide (q1 = -1))]) (fun a ha=>dJ (ha.ev rfl) atC atA (HS.box _ ay) rfl rfl)<|JL.dD rfl rfl rfl rfl rfl rfl aub (nP HT HB HS (HS.at_ 5 rfl) (HS.at_ 2 rfl) af rfl rfl)<|?_
     rintro v76 w76 ⟨rfl,HS⟩;refine Lt rfl rfl<|Lm rfl<|bz (.agg #[.bool XX,.slice O9 n58 QX,.slice PR m58 d58,.bool (decide (q1=0))]) (fun a ha=>dJ (ha.ev rfl) atC atA (HS.box _ aA) rfl rfl)<|bz (.agg #[.bool X0,.slice Pj n67 QZ,.slice PU Vu d67,.bool (decide (q1=0))]) (fun a ha=>dJ (ha.ev rfl) atC atA (HS.box _ au) rfl rfl)<|JL.dD rfl rfl rfl rfl rfl rfl aub (nP HT HB HS (HS.at_ 4 rfl) (HS.at_ 1 rfl) af rfl rfl)<|?_;rintro v77 w77 ⟨rfl,HS⟩;refine Lt rfl rfl<|Lm rfl<|bz (.agg #[.bool XY,.slice Pg n61 QY,.slice PS m61 d61,.bool u]) (fun a ha=>dJ (ha.ev rfl) atC atA (HS.box _ az) rfl rfl)<|bz (.agg #[.bool X5,.slice Pm n70 c70,.slice PV Vw d70,.bool u]) (fun a ha=>dJ (ha.ev rfl) atC atA (HS.box _ ak) rfl rfl)<|JL.dD rfl rfl rfl rfl rfl rfl aub (nP HT HB HS (HS.at_ 3 rfl) (HS.at_ 0 rfl) af rfl rfl)<|?_;rintro v78 w78 ⟨rfl,HS⟩;refine Lt rfl rfl<|La rfl<|Jn<|Ja Tryz.results4 (.tmp rfl)<|?_;exact ⟨rfl,HS.o0 9 10⟩
   ·skip
    by_cases FY:q1*q1+q2*q2=0
    ·skip
     refine JC.seq<|?_;obtain ⟨u,q,er,c,hn1,hw1,hw2⟩:=IG l hlen;refine JC.region<|JL.load (.agg #[.bool s1,.slice A1 n1 c1,.slice B1 m1 d1]) HS 2 rfl rfl rfl atD atz rfl rfl<|JL.load (.agg #[.bool s2,.slice A2 n2 c2,.slice B2 m2 d2]) HS 1 rfl rfl rfl atD atz rfl rfl<|JL.call rfl rfl avM (YJ HT HB HS (HS.at_ 1 rfl) (HS.at_ 0 rfl) af hc29)<|?_;rintro v80 w80 ⟨rfl,HS⟩;refine Lm rfl<|Lx rfl rfl<|Lx rfl rfl<|JL.alloc (vs:=[.bool false,.slice none 0 0,.slice none 0 0,.bool false]) HS rfl atG rfl rfl (fun g81 w81 HS => ?_);refine JL.store HS rfl rfl (i:=0) rfl atA rfl rfl rfl (vs':=[.bool false,.slice none 0 0,.slice none 0 0,.bool false]) rfl rfl (fun w82 HS => ?_);refine La rfl<|Jn<|Js<|JL.load (.agg #[.bool s1,.slice A1 n1 c1,.slice B1 m1 d1]) HS 3 rfl rfl rfl atD atz rfl rfl<|JL.load (.agg #[.bool s2,.slice A2 n2 c2,.slice B2 m2 d2]) HS 2 rfl rfl rfl atD atz rfl rfl<|Lz (.agg #[.bool s1,.slice A1 n1 c1,.slice B1 m1 d1,.bool s2,.slice A2 n2 c2,.slice B2 m2 d2]) (fun a ha=>bF.run_build (ha.bW rfl) atW aun qA rfl)<|JL.call rfl rfl avN (YN HT HB HS (HS.at_ 1 rfl) (HS.at_ 0 rfl) af FY)<|?_;rintro v83 w83 ⟨rfl,HS⟩;refine Lm rfl<|Lx rfl rfl<|Lx rfl rfl<|JL.alloc (vs:=[.bool false,.slice none 0 0,.slice none 0 0,.bool false]) HS rfl atG rfl rfl (fun g84 w84 HS => ?_);refine JL.store HS rfl rfl (i:=0) rfl atA rfl rfl rfl (vs':=[.bool false,.slice none 0 0,.slice none 0 0,.bool false]) rfl rfl (fun w85 HS => ?_);refine La rfl<|Jn<|Js<|Lm rfl<|JL.call rfl rfl avO (hw1 HT HB HX HS)<|?_;rintro v86 w86 ⟨X6,Pn,n86,Q5,PW,Vx,d86,rfl,HS⟩;refine Lm rfl<|Lx rfl rfl<|Lx rfl rfl<|JL.alloc (vs:=[.bool false,.slice none 0 0,.slice none 0 0,.bool false]) HS rfl atG rfl rfl (fun g87 w87 HS => ?_);refine JL.store HS rfl rfl (i:=0) rfl atA rfl rfl rfl (vs':=[.bool X6,.slice Pn n86 Q5,.slice PW Vx d86,.bool u]) rfl rfl (fun w88 HS => ?_);refine La rfl<|Jn<|Js<|JL.load (.agg #[.bool s1,.slice A1 n1 c1,.slice B1 m1 d1]) HS 5 rfl rfl rfl atD atz rfl rfl<|JL.load (.agg #[.bool s2,.slice A2 n2 c2,.slice B2 m2 d2]) HS 4 rfl rfl rfl atD atz rfl rfl<|JL.call rfl rfl avP (Xj HT HB HS (HS.at_ 2 rfl) (HS.at_ 1 rfl) af hc29)<|?_
     rintro v89 w89 ⟨rfl,HS⟩;refine Lm rfl<|Lx rfl rfl<|Lx rfl rfl<|JL.alloc (vs:=[.bool false,.slice none 0 0,.slice none 0 0,.bool false]) HS rfl atG rfl rfl (fun g90 w90 HS => ?_);refine JL.store HS rfl rfl (i:=0) rfl atA rfl rfl rfl (vs':=[.bool false,.slice none 0 0,.slice none 0 0,.bool false]) rfl rfl (fun w91 HS => ?_);refine La rfl<|Jn<|Js<|JL.load (.agg #[.bool s1,.slice A1 n1 c1,.slice B1 m1 d1]) HS 6 rfl rfl rfl atD atz rfl rfl<|JL.load (.agg #[.bool s2,.slice A2 n2 c2,.slice B2 m2 d2]) HS 5 rfl rfl rfl atD atz rfl rfl<|Lz (.agg #[.bool s1,.slice A1 n1 c1,.slice B1 m1 d1,.bool s2,.slice A2 n2 c2,.slice B2 m2 d2]) (fun a ha=>bF.run_build (ha.bW rfl) atW aun qA rfl)<|JL.call rfl rfl avQ (Xm HT HB HS (HS.at_ 2 rfl) (HS.at_ 1 rfl) af FY)<|?_;rintro v92 w92 ⟨rfl,HS⟩;refine Lm rfl<|Lx rfl rfl<|Lx rfl rfl<|JL.alloc (vs:=[.bool false,.slice none 0 0,.slice none 0 0,.bool false]) HS rfl atG rfl rfl (fun g93 w93 HS => ?_);refine JL.store HS rfl rfl (i:=0) rfl atA rfl rfl rfl (vs':=[.bool false,.slice none 0 0,.slice none 0 0,.bool false]) rfl rfl (fun w94 HS => ?_);refine La rfl<|Jn<|Js<|Lm rfl<|JL.call rfl rfl avR (hw2 HT HB HX HS)<|?_;rintro v95 w95 ⟨X7,Po,n95,Q7,PX,Vy,d95,rfl,HS⟩;refine Lm rfl<|Lx rfl rfl<|Lx rfl rfl<|JL.alloc (vs:=[.bool false,.slice none 0 0,.slice none 0 0,.bool false]) HS rfl atG rfl rfl (fun g96 w96 HS => ?_);refine JL.store HS rfl rfl (i:=0) rfl atA rfl rfl rfl (vs':=[.bool X7,.slice Po n95 Q7,.slice PX Vy d95,.bool u]) rfl rfl (fun w97 HS => ?_);refine La rfl<|Jn<|Js<|Lm rfl<|JL.call rfl rfl aug (Dz HS 2)<|?_;rintro v98 w98 ⟨rfl,HS⟩;refine Lm rfl<|Lz (.bool true) (fun a ha=>dh (ha.ev rfl) (ha.ev rfl) ai)<|Lm rfl<|bJ rfl<|JL.dD rfl rfl rfl rfl rfl rfl aug (Dz HS 8)<|?_;rintro v99 w99 ⟨rfl,HS⟩;refine bJ rfl<|bz (.bool true) (fun a ha=>dh (ha.ev rfl) (ha.ev rfl) ai)<|Lt rfl rfl<|Lm rfl<|bJ rfl<|JL.dD rfl rfl rfl rfl rfl rfl aug (hn1 _ _ _ _ HS)<|?_;rintro ap9 arb ⟨rfl,HS⟩;refine bJ rfl<|bz (.bool true) (fun a ha=>dh (ha.ev rfl) (ha.ev rfl) (by simp))<|Lt rfl rfl<|Lm rfl<|bz (.agg #[.bool false,.slice none 0 0,.slice none 0 0,.bool false]) (fun a ha=>dJ (ha.ev rfl) atC atA (HS.box _ aB) rfl rfl)<|bz (.agg #[.bool false,.slice none 0 0,.slice none 0 0,.bool false]) (fun a ha=>dJ (ha.ev rfl) atC atA (HS.box _ ay) rfl rfl)<|JL.dD rfl rfl rfl rfl rfl rfl aub (nP HT HB HS (FV.zero 0 _) (FV.zero 0 _) af rfl rfl)<|?_
     rintro ap' arc ⟨rfl,HS⟩;refine Lt rfl rfl<|Lm rfl<|bz (.agg #[.bool false,.slice none 0 0,.slice none 0 0,.bool false]) (fun a ha=>dJ (ha.ev rfl) atC atA (HS.box _ aA) rfl rfl)<|bz (.agg #[.bool false,.slice none 0 0,.slice none 0 0,.bool false]) (fun a ha=>dJ (ha.ev rfl) atC atA (HS.box _ au) rfl rfl)<|JL.dD rfl rfl rfl rfl rfl rfl aub (nP HT HB HS (FV.zero 0 _) (FV.zero 0 _) af rfl rfl)<|?_;rintro aqa ard ⟨rfl,HS⟩;refine Lt rfl rfl<|Lm rfl<|bz (.agg #[.bool X6,.slice Pn n86 Q5,.slice PW Vx d86,.bool u]) (fun a ha=>dJ (ha.ev rfl) atC atA (HS.box _ az) rfl rfl)<|bz (.agg #[.bool X7,.slice Po n95 Q7,.slice PX Vy d95,.bool u]) (fun a ha=>dJ (ha.ev rfl) atC atA (HS.box _ ak) rfl rfl)<|JL.dD rfl rfl rfl rfl rfl rfl aub (nP HT HB HS (HS.at_ 1 rfl) (HS.at_ 0 rfl) af rfl rfl)<|?_;rintro aqb arf ⟨rfl,HS⟩;refine Lt rfl rfl<|La rfl<|Jn<|Ja Tryz.results4 (.tmp rfl)<|?_;exact ⟨rfl,HS.o0 9 6⟩
    ·skip
     refine JC.seq<|?_;obtain ⟨u,q,er,c,hn1,hw1,hw2⟩:=IG l hlen;refine JC.region<|JL.load (.agg #[.bool s1,.slice A1 n1 c1,.slice B1 m1 d1]) HS 2 rfl rfl rfl atD atz rfl rfl<|JL.load (.agg #[.bool s2,.slice A2 n2 c2,.slice B2 m2 d2]) HS 1 rfl rfl rfl atD atz rfl rfl<|JL.call rfl rfl avM (YJ HT HB HS (HS.at_ 1 rfl) (HS.at_ 0 rfl) af hc29)<|?_;rintro aqc arh ⟨rfl,HS⟩;refine Lm rfl<|Lx rfl rfl<|Lx rfl rfl<|JL.alloc (vs:=[.bool false,.slice none 0 0,.slice none 0 0,.bool false]) HS rfl atG rfl rfl (fun am5 ari HS => ?_);refine JL.store HS rfl rfl (i:=0) rfl atA rfl rfl rfl (vs':=[.bool false,.slice none 0 0,.slice none 0 0,.bool false]) rfl rfl (fun arj HS => ?_);refine La rfl<|Jn<|Js<|JL.load (.agg #[.bool s1,.slice A1 n1 c1,.slice B1 m1 d1]) HS 3 rfl rfl rfl atD atz rfl rfl<|JL.load (.agg #[.bool s2,.slice A2 n2 c2,.slice B2 m2 d2]) HS 2 rfl rfl rfl atD atz rfl rfl<|Lz (.agg #[.bool s1,.slice A1 n1 c1,.slice B1 m1 d1,.bool s2,.slice A2 n2 c2,.slice B2 m2 d2]) (fun a ha=>bF.run_build (ha.bW rfl) atW aun qA rfl)<|JL.call rfl rfl avN (YO HT HB HS (HS.at_ 1 rfl) (HS.at_ 0 rfl) af FY)<|?_;rintro v107 ark ⟨Xz,OB,n107,c107,Px,Vm,d107,rfl,HS⟩;refine Lm rfl<|Lx rfl rfl<|Lx rfl rfl<|JL.alloc (vs:=[.bool false,.slice none 0 0,.slice none 0 0,.bool false]) HS rfl atG rfl rfl (fun am6 arl HS => ?_);refine JL.store HS rfl rfl (i:=0) rfl atA rfl rfl rfl (vs':=[.bool Xz,.slice OB n107 c107,.slice Px Vm d107,.bool (decide (q1=0))]) rfl rfl (fun arn HS => ?_);refine La rfl<|Jn<|Js<|Lm rfl<|JL.call rfl rfl avO (hw1 HT HB HX HS)<|?_;rintro aqd aro ⟨XA,OC,n110,QB,Py,Vo,d110,rfl,HS⟩;refine Lm rfl<|Lx rfl rfl<|Lx rfl rfl<|JL.alloc (vs:=[.bool false,.slice none 0 0,.slice none 0 0,.bool false]) HS rfl atG rfl rfl (fun am7 ars HS => ?_);refine JL.store HS rfl rfl (i:=0) rfl atA rfl rfl rfl (vs':=[.bool XA,.slice OC n110 QB,.slice Py Vo d110,.bool u]) rfl rfl (fun aru HS => ?_);refine La rfl<|Jn<|Js<|JL.load (.agg #[.bool s1,.slice A1 n1 c1,.slice B1 m1 d1]) HS 5 rfl rfl rfl atD atz rfl rfl<|JL.load (.agg #[.bool s2,.slice A2 n2 c2,.slice B2 m2 d2]) HS 4 rfl rfl rfl atD atz rfl rfl<|JL.call rfl rfl avP (Xj HT HB HS (HS.at_ 3 rfl) (HS.at_ 2 rfl) af hc29)<|?_
     rintro aqg arv ⟨rfl,HS⟩;refine Lm rfl<|Lx rfl rfl<|Lx rfl rfl<|JL.alloc (vs:=[.bool false,.slice none 0 0,.slice none 0 0,.bool false]) HS rfl atG rfl rfl (fun am8 arw HS => ?_);refine JL.store HS rfl rfl (i:=0) rfl atA rfl rfl rfl (vs':=[.bool false,.slice none 0 0,.slice none 0 0,.bool false]) rfl rfl (fun arx HS => ?_);refine La rfl<|Jn<|Js<|JL.load (.agg #[.bool s1,.slice A1 n1 c1,.slice B1 m1 d1]) HS 6 rfl rfl rfl atD atz rfl rfl<|JL.load (.agg #[.bool s2,.slice A2 n2 c2,.slice B2 m2 d2]) HS 5 rfl rfl rfl atD atz rfl rfl<|Lz (.agg #[.bool s1,.slice A1 n1 c1,.slice B1 m1 d1,.bool s2,.slice A2 n2 c2,.slice B2 m2 d2]) (fun a ha=>bF.run_build (ha.bW rfl) atW aun qA rfl)<|JL.call rfl rfl avQ (Xn HT HB HS (HS.at_ 3 rfl) (HS.at_ 2 rfl) af FY)<|?_;rintro aqh ary ⟨XB,OD,n116,c116,Pz,Vp,d116,rfl,HS⟩;refine Lm rfl<|Lx rfl rfl<|Lx rfl rfl<|JL.alloc (vs:=[.bool false,.slice none 0 0,.slice none 0 0,.bool false]) HS rfl atG rfl rfl (fun am9 arz HS => ?_);refine JL.store HS rfl rfl (i:=0) rfl atA rfl rfl rfl (vs':=[.bool XB,.slice OD n116 c116,.slice Pz Vp d116,.bool (decide (q1=0))]) rfl rfl (fun arA HS => ?_);refine La rfl<|Jn<|Js<|Lm rfl<|JL.call rfl rfl avR (hw2 HT HB HX HS)<|?_;rintro aqi arB ⟨XC,OE,n119,c119,PD,Vq,d119,rfl,HS⟩;refine Lm rfl<|Lx rfl rfl<|Lx rfl rfl<|JL.alloc (vs:=[.bool false,.slice none 0 0,.slice none 0 0,.bool false]) HS rfl atG rfl rfl (fun ana arC HS => ?_);refine JL.store HS rfl rfl (i:=0) rfl atA rfl rfl rfl (vs':=[.bool XC,.slice OE n119 c119,.slice PD Vq d119,.bool u]) rfl rfl (fun arD HS => ?_);refine La rfl<|Jn<|Js<|Lm rfl<|JL.call rfl rfl aug (Dz HS 2)<|?_;rintro aqj arF ⟨rfl,HS⟩;refine Lm rfl<|Lz (.bool true) (fun a ha=>dh (ha.ev rfl) (ha.ev rfl) ai)<|Lm rfl<|bJ rfl<|JL.dD rfl rfl rfl rfl rfl rfl aug (DC HS)<|?_;rintro aqk arH ⟨rfl,HS⟩;refine bJ rfl<|bz (.bool true) (fun a ha=>dh (ha.ev rfl) (ha.ev rfl) ai)<|Lt rfl rfl<|Lm rfl<|bJ rfl<|JL.dD rfl rfl rfl rfl rfl rfl aug (hn1 _ _ _ _ HS)<|?_;rintro v124 arI ⟨rfl,HS⟩;refine bJ rfl<|bz (.bool true) (fun a ha=>dh (ha.ev rfl) (ha.ev rfl) (by simp))<|Lt rfl rfl<|Lm rfl<|bz (.agg #[.bool false,.slice none 0 0,.slice none 0 0,.bool false]) (fun a ha=>dJ (ha.ev rfl) atC atA (HS.box _ aB) rfl rfl)<|bz (.agg #[.bool false,.slice none 0 0,.slice none 0 0,.bool false]) (fun a ha=>dJ (ha.ev rfl) atC atA (HS.box _ ay) rfl rfl)<|JL.dD rfl rfl rfl rfl rfl rfl aub (nP HT HB HS (FV.zero 0 _) (FV.zero 0 _) af rfl rfl)<|?_
     rintro aql arJ ⟨rfl,HS⟩;refine Lt rfl rfl<|Lm rfl<|bz (.agg #[.bool Xz,.slice OB n107 c107,.slice Px Vm d107,.bool (decide (q1=0))]) (fun a ha=>dJ (ha.ev rfl) atC atA (HS.box _ aA) rfl rfl)<|bz (.agg #[.bool XB,.slice OD n116 c116,.slice Pz Vp d116,.bool (decide (q1=0))]) (fun a ha=>dJ (ha.ev rfl) atC atA (HS.box _ au) rfl rfl)<|JL.dD rfl rfl rfl rfl rfl rfl aub (nP HT HB HS (HS.at_ 3 rfl) (HS.at_ 1 rfl) af rfl rfl)<|?_;rintro aqm arK ⟨rfl,HS⟩;refine Lt rfl rfl<|Lm rfl<|bz (.agg #[.bool XA,.slice OC n110 QB,.slice Py Vo d110,.bool u]) (fun a ha=>dJ (ha.ev rfl) atC atA (HS.box _ az) rfl rfl)<|bz (.agg #[.bool XC,.slice OE n119 c119,.slice PD Vq d119,.bool u]) (fun a ha=>dJ (ha.ev rfl) atC atA (HS.box _ ak) rfl rfl)<|JL.dD rfl rfl rfl rfl rfl rfl aub (nP HT HB HS (HS.at_ 2 rfl) (HS.at_ 0 rfl) af rfl rfl)<|?_;rintro v127 arL ⟨rfl,HS⟩;refine Lt rfl rfl<|La rfl<|Jn<|Ja Tryz.results4 (.tmp rfl)<|?_;exact ⟨rfl,HS.o0 9 8⟩
  ·skip
   refine JC.bK rfl<|Js<|JL.call rfl rfl auT (Az HT HB HS  )<|?_;rintro aqn arN ⟨rfl,HS⟩;refine La rfl<|Jn<|Ja Tryz.results4 (.tmp rfl)<|?_;exact ⟨rfl,HS.o0 3 4⟩
theorem aj3{s1:Bool}{A1:Option Addr}{n1 c1:Nat}{B1:Option Addr}{m1 d1:Nat}{q1:Rat}{k1:Nat}{b1:Bool}{s2:Bool}{A2:Option Addr}{n2 c2:Nat}{B2:Option Addr}{m2 d2:Nat}{q2:Rat}{k2:Nat}{b2:Bool}{z9:ByteArray}{pw9:Prop}(W:World)(ht:Tz W)(hb:Tab W)(hx:Mx W)(f1:dB W ⟨.agg #[.bool s1,.slice A1 n1 c1,.slice B1 m1 d1],q1,k1,b1⟩)(f2:dB W ⟨.agg #[.bool s2,.slice A2 n2 c2,.slice B2 m2 d2],q2,k2,b2⟩)(_w9:pw9) :
  Calls Tryz.prog 4 #[.agg #[.bool s1,.slice A1 n1 c1,.slice B1 m1 d1],.agg #[.bool s2,.slice A2 n2 c2,.slice B2 m2 d2],.string z9] W fun e w'=>e = .returned (.bool true)/\Below W.heap.size W w':=by
 obtain ⟨l,rfl⟩ : ∃ l:List UInt8,z9=⟨l.toArray⟩:=⟨z9.data.toList,by simp⟩;exact law_true (aj6 ht hb (St.init W) f1 f2 hx)
end
end Go.Proofs.BGQ
