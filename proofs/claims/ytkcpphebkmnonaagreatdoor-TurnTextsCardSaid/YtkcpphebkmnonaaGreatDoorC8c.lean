/- Part of a proof, said shortly. -/
import Derived.Deep.RegionWith
import Derived.Deep.DeepCutAuto
import Derived.Test.YtkcpphebkmnonaaGreatDoorAlzc
import Derived.Test.YtkcpphebkmnonaaGreatDoorC7c
import Derived.Test.YtkcpphebkmnonaaGreatDoorC6c
import Derived.Test.YtkcpphebkmnonaaGreatDoorC1c
import Derived.Test.YtkcpphebkmnonaaGreatDoorC2c
import Derived.Test.YtkcpphebkmnonaaGreatDoorC3c
import Derived.Test.YtkcpphebkmnonaaGreatDoorC5c
import Derived.Test.YtkcpphebkmnonaaGreatDoorC4c
namespace Lw
theorem NM(N M:Nat):Nat.gcd M (N%M)=Nat.gcd N M:=by rw [apm N M,Nat.gcd_rec M N,apm]
end Lw
namespace Go.Proofs.BGQ
open Go Go.RowKit Lw
theorem Nr{p:Prop}(h:p:=by
  go_wp2_with fail
  obtain ⟨G,hG⟩ : ∃ G,G=Nat.gcd N M:=⟨_,rfl⟩;have HG:=Lib.hid hG;clear hG
  go_loopw [0,1] (fun a b wr => ∃ (X Y x y d d':Nat) (D D':Option Addr),a = .slice D x d/\b = .slice D' y d'/\Rd wr wr.heap.size D (bn X)/\Rd wr wr.heap.size D' (bn Y)/\Hid ((bn X).length=x/\(bn Y).length=y)/\x<=8388608/\y<=x/\x<=d/\y<=d'/\Hid (Y<=X)/\Hid (Nat.gcd X Y=G)/\Below w.heap.size w wr) (fun a b wr=>rdv wr a+rdv wr b)
  case atStart=>exact ⟨N,M,n,m,c,c',A,A',rfl,rfl,(h.drewN q).more (by simpa using hB),(h'.drewN q).more (by simpa using hB'),Lib.hid ⟨Hn.out,Hm.out⟩,hl,hmn,hc,hc',BC,Lib.hid HG.out.symm,below_drewN' _ _ _⟩
  case round =>
   obtain ⟨X,Y,x,y,d,d',D,D',rfl,rfl,hr1,hr2,hxy,hx,hyx,hxd,Ie,GU,hg,hbw⟩:=hrel;have RX:=Lib.hid (xA (c:=d) hr1 hxy.out.1);have RY:=Lib.hid (xA (c:=d') hr2 hxy.out.2)
   by_cases h2:y<=2
   ·by_cases h0:y=0
    ·subst h0
     have HM:Hid (G=X):=Lib.hid (by rw [<- hg.out,iL.1 (aoU hxy.out.2),aqn])
     go_wp2_with fail
     refine (clone_any D (bn X) _ _ _ _ hr1 (aoG _) hxy.out.1 af).mono ?_;rintro e w2 ⟨A1,c1,rfl,hc1,hg1,hr3,hb1⟩
     go_wp2_with fail
     go_ret
     rw [<- HG.out,HM.out];exact ⟨A1,c1,kz hxy.out.1.symm,by rw [hxy.out.1];exact hc1,hr3,bK hbw hb1 (aoG _)⟩
    ·have hbq:((y:Int)==0)=false:=by rw [beq_eq_false_iff_ne];omega
     have hM0:Y≠0:=by intro e;subst e;exact h0 (by rw [<- hxy.out.2];rfl)
     have rV:=Lib.hid hM0;clear h0 hM0
     go_wp2_with fail
     refine (Gi D D' X Y _ _ d d' _ _ _ hr1 hr2 (aoG _) (aoG _) hxy.out.1 hxy.out.2 af af hxd Ie rV.out (.inr Ir)).mono ?_;rintro e w2 ⟨A3,c3,A4,c4,rfl,hc3,hc4,hr3,hr4,hb3⟩;have hb4:=bK hbw hb3 (aoG _);have hM2:Y<=18446744073709551615:=by have:=nH (n:=Y) (k:=2) (by rw [hxy.out.2];exact h2);have h3:pw 2=18446744073709551616:=rfl;omega
     have hR2:X%Y<Y:=aoN _ (by have:=rV.out;omega);have KH:Hid (Nat.gcd Y (X%Y)=G):=Lib.hid (by rw [NM,hg.out]);have G8:(bn (X%Y)).length<=2:=fD (k:=2) (by have h3:pw 2=18446744073709551616:=rfl;omega);have E5:Hid (lo (bn Y) 2=Y):=Lib.hid (by rw [di (by rw [hxy.out.2];exact h2),bM]);have KL:Hid (lo (bn (X%Y)) 2=X%Y):=Lib.hid (by rw [di G8,bM]);obtain ⟨R,hR⟩ : ∃ R,R=X%Y:=⟨_,rfl⟩;rw [<- hR] at hr4 hc4 KH G8 KL hR2 ⊢;clear hR;obtain ⟨Q,hQ⟩ : ∃ Q,Q=X/Y:=⟨_,rfl⟩;rw [<- hQ] at hr3 hc3 ⊢;clear hQ
     go_wp2_with fail
     refine (Dq D' (bn Y) _ d' _ _ (hr2.below hb3) hxy.out.2 af).mono ?_;rintro e w3 ⟨rfl,rfl⟩;rw [E5.out]
     go_wp2_with fail
     refine (Dq A4 (bn R) _ c4 _ _ hr4 rfl af).mono ?_;rintro e w3 ⟨rfl,rfl⟩;rw [KL.out]
     go_wp2_with fail
     refine (aeX Y R _ hM2 af).mono ?_;rintro e w3 ⟨rfl,q3,rfl⟩;rw [KH.out]
     have hgl:G<=18446744073709551615:=by
      rw [<- hg.out];exact aoH (Nat.gcd_le_right _ (by have:=rV.out;omega)) hM2
     go_wp2_with fail
     refine (xK G _ hgl).mono ?_;rintro e w5 ⟨A5,c5,rfl,hc5,iO,hb5⟩
     go_wp2_with fail
     go_ret
     rw [<- HG.out];exact ⟨A5,c5,rfl,hc5,iO,bK (hb4.trans (below_drewN' _ _ _)) hb5 (by simp)⟩
   ·obtain ⟨k,rfl⟩ : ∃ k,x=k+3:=⟨x-3,af⟩
    have hY0:Hid (0<Y):=Lib.hid (by
     rcases aoT Y with e | e
     ·exfalso;have:=hxy.out.2;rw [e] at this;have e2:(bn 0).length=0:=rfl;omega
     ·exact e)
    go_wp2_with fail
    refine (YE D D' X Y k y d d' _ _ _ hr1 hr2 (aoG _) (aoG _) hxy.out.1 hxy.out.2 af GU.out).mono ?_;rintro e w2 ⟨u0,u1,v0,v1,o,rfl,hb2,hst⟩;have HST:=Lib.hid hst;clear hst
    by_cases hv:v0=0
    ·subst hv
     replace hb2:=hb2.alloc hb2.size (.cells #[.int .u64 (u0:Int),.int .u64 (u1:Int),.int .u64 0,.int .u64 (v1:Int),.bool o] 171);have hr1':=hr1.below hb2;have hr2':=hr2.below hb2
     go_wp2_with fail
     refine (Gi D D' X Y _ _ d d' _ _ _ hr1' hr2' hb2.size hb2.size hxy.out.1 hxy.out.2 af af hxd Ie (by have:=hY0.out;omega) (.inr Ir)).mono ?_;rintro e w3 ⟨A3,c3,A4,c4,rfl,hc3,hc4,hr3,hr4,hb3⟩
     go_wp2_with fail
     have hb5:=bK hbw (hb2.trans (hb3.mono hb2.size)) (aoG _)
     go_roundw
     case rel =>
      exact ⟨Y,X%Y,y,_,d',c4,D',A4,rfl,rfl,(hr2'.below (hb3.mono hb2.size)).more (aoH hb2.size hb3.size),hr4,Lib.hid ⟨hxy.out.2,rfl⟩,af,by rw [<- hxy.out.2];exact yV (aoZ (aoN _ hY0.out)),Ie,hc4,Lib.hid (aoZ (aoN _ hY0.out)),Lib.hid (by rw [NM,hg.out]),hb5⟩
     case measure =>
      show rdv _ _+rdv _ _<rdv _ _+rdv _ _;rw [RX.out,RY.out,xA hr4 rfl,xA (hr2'.below (hb3.mono hb2.size)) hxy.out.2,bM,bM,bM];have h1:=aoN X hY0.out;have h2:=GU.out;omega
    ·have hv1:((v0:Int)==0)=false:=by rw [beq_eq_false_iff_ne];omega
     replace hb2:=hb2.alloc hb2.size (.cells #[.int .u64 (u0:Int),.int .u64 (u1:Int),.int .u64 (v0:Int),.int .u64 (v1:Int),.bool o] 171);have hr1':=hr1.below hb2;have hr2':=hr2.below hb2
     go_wp2_with fail
     refine (Wp D D' X Y (k+3) y d d' _ _ u0 u1 v0 v1 o _ hr1' hr2' hb2.size hb2.size hxy.out.1 hxy.out.2 af hyx hv HST.out).mono ?_;rintro e w3 ⟨r1,r2,⟨A3,c3,A4,c4,rfl,hc3,hc4,hr3,hr4,hb3⟩,hle,hgg,OD,hsum⟩;have HH:=Lib.hid (And.intro hle (And.intro hgg (And.intro OD hsum)));clear hle hgg OD hsum
     go_wp2_with fail
     have hb5:=bK hbw (hb2.trans (hb3.mono hb2.size)) (aoG _)
     go_roundw
     case rel =>
      exact ⟨r1,r2,_,_,c3,c4,A3,A4,rfl,rfl,hr3,hr4,Lib.hid ⟨rfl,rfl⟩,aoH (yV HH.out.2.2.1) (by rw [hxy.out.1];exact hx),yV HH.out.1,hc3,hc4,Lib.hid HH.out.1,Lib.hid (by rw [HH.out.2.1,hg.out]),hb5⟩
     case measure =>
      show rdv _ _+rdv _ _<rdv _ _+rdv _ _;rw [RX.out,RY.out,xA hr3 rfl,xA hr4 rfl,bM,bM,bM,bM];have h1:=HH.out.2.2.2;have h2:=hY0.out;omega):p:=h
set_option maxRecDepth 100000 in
set_option maxHeartbeats 6400000 in
theorem X8(A A':Option Addr)(N M n m c c' B B':Nat)(w:World)(h:Rd w B A (bn N))(h':Rd w B' A' (bn M))(hB:B<=w.heap.size)(hB':B'<=w.heap.size)(hn:(bn N).length=n)(hm:(bn M).length=m)(hl:n<=8388608)(hc:n<=c)(hc':m<=c')(jR:M<=N) :
  Calls Tryz.prog 172 #[.slice A n c,.slice A' m c'] w (oI w (Nat.gcd N M)):=by
 have vN:=bM N;have vM:=bM M;have hmn:m<=n:=by rw [<- hn,<- hm];exact yV af
 have Hn:=Lib.hid hn;have Hm:=Lib.hid hm;have VN:=Lib.hid vN;have VM:=Lib.hid vM;have hcm:=Cb jR;have zo:M<=N:=af;have BC:=Lib.hid zo;clear hn hm vN vM jR zo
 go_enter Tryz.func172,Tryz.ntmps172
 go_wp2_with fail
 refine (mW A A' (bn N) (bn M) _ _ _ _ B B' _ h h' (fG _) (fG _) Hn.out Hm.out af af).mono ?_;rintro e w1 ⟨rfl,q,rfl⟩;rw [VN.out,VM.out];exact Nr
set_option maxRecDepth 100000 in
set_option maxHeartbeats 6400000 in
theorem X9(A A':Option Addr)(N M n m c c' B B':Nat)(w:World)(h:Rd w B A (bn N))(h':Rd w B' A' (bn M))(hB:B<=w.heap.size)(hB':B'<=w.heap.size)(hn:(bn N).length=n)(hm:(bn M).length=m)(hl:n<=8388608)(hc:n<=c)(hc':m<=c')(jR:M<N) :
  Calls Tryz.prog 172 #[.slice A' m c',.slice A n c] w (oI w (Nat.gcd N M)):=by
 have vN:=bM N;have vM:=bM M;have hmn:m<=n:=by rw [<- hn,<- hm];exact yV af
 have Hn:=Lib.hid hn;have Hm:=Lib.hid hm;have VN:=Lib.hid vN;have VM:=Lib.hid vM;have hcm:=BZ jR;have zo:M<=N:=af;have BC:=Lib.hid zo;clear hn hm vN vM jR zo
 go_enter Tryz.func172,Tryz.ntmps172
 go_wp2_with fail
 refine (mW A' A (bn M) (bn N) _ _ _ _ B' B _ h' h (fG _) (fG _) Hm.out Hn.out af af).mono ?_;rintro e w1 ⟨rfl,q,rfl⟩;rw [VM.out,VN.out];exact Nr
attribute [local go_sem ↓] Go.wp_at_zero Go.wp_at_succ
theorem X7(A A':Option Addr)(N M n m c c' B B':Nat)(w:World)(h:Rd w B A (bn N))(h':Rd w B' A' (bn M))(hB:B<=w.heap.size)(hB':B'<=w.heap.size)(hn:(bn N).length=n)(hm:(bn M).length=m)(hl:n<=8388608)(hl':m<=8388608)(hc:n<=c)(hc':m<=c') :
  Calls Tryz.prog 172 #[.slice A n c,.slice A' m c'] w (oI w (Nat.gcd N M)):=by
 rcases aoM N M with h1 | h1
 ·rw [apm]
  exact X9 A' A M N m n c' c B' B w h' h hB' hB hm hn hl' hc' hc h1
 ·exact X8 A A' N M n m c c' B B' w h h' hB hB' hn hm hl hc hc' h1
set_option maxHeartbeats 3200000 in
theorem NR(s s':Bool)(A A':Option Addr)(ns ms:List Nat)(n m c c' B B':Nat)(w:World)(h:Rd w B A ns)(h':Rd w B' A' ms)(hB:B<=w.heap.size)(hB':B'<=w.heap.size)(hn:ns.length=n)(hm:ms.length=m)(hl:n<=8388608)(hl':m<=8388608)(hc:n<=c)(hc':m<=c') :
  Calls Tryz.prog 137 #[.agg #[.bool s,.slice A n c],.agg #[.bool s',.slice A' m c']] w (jD w ((Nat.gcd (zv s ns).natAbs (zv s' ms).natAbs:Nat):Int)):=by
 have hlz:=ji (s:=s) h.bQ;have hlz':=ji (s:=s') h'.bQ;rw [hn] at hlz;rw [hm] at hlz'
 go_enter Tryz.func137,Tryz.ntmps137
 go_upto_region 1 with fail
 obtain ⟨T1,T2,T3,_,hb0⟩:=dF (Below.refl _ (((w.alloc (.cells #[.bool s,.slice A n c] 79)).alloc (.cells #[.bool s',.slice A' m c'] 79)).alloc (.cells #[.bool false,.slice none 0 0] 79)));have R1:=h.below (hb0.mono hB);have R2:=h'.below (hb0.mono hB');generalize hW:(((w.alloc (.cells #[.bool s,.slice A n c] 79)).alloc (.cells #[.bool s',.slice A' m c'] 79)).alloc (.cells #[.bool false,.slice none 0 0] 79))=W at *;clear hW;have l3:=T3.lt;obtain ⟨c10,c11,f10,f11⟩:=T1.facts;obtain ⟨c20,c21,f20,f21⟩:=T2.facts
 go_cut [] (fun wc => ∃ A1 c1 A2 c2,Two wc w.heap.size 79 (.bool (sg (zv s ns))) (.slice A1 (mg (zv s ns)).length c1)/\Two wc (w.heap.size+1) 79 (.bool (sg (zv s' ms))) (.slice A2 (mg (zv s' ms)).length c2) /\
  Two wc (w.heap.size+1+1) 79 (.bool false) (.slice none 0 0)/\Rd wc B A1 (mg (zv s ns))/\Rd wc B' A2 (mg (zv s' ms))/\Below w.heap.size w wc/\(mg (zv s ns)).length<=c1/\(mg (zv s' ms)).length<=c2)
 case first=>exact Ef
 case rest =>
  obtain ⟨A1,c1,A2,c2,Q1,Q2,Q3,r1,r2,hbc,hc1,hc2⟩:=hcut;clear T1 T2 T3 R1 R2 hb0 l3 c10 c11 c20 c21 f10 f11 f20 f21;obtain ⟨c10,c11,f10,f11⟩:=Q1.facts;obtain ⟨c20,c21,f20,f21⟩:=Q2.facts
  go_wp2_with fail
  refine (X7 A1 A2 (zv s ns).natAbs (zv s' ms).natAbs _ _ c1 c2 B B' _ r1 r2 (by have:=hbc.size;omega) (by have:=hbc.size;omega) rfl rfl (aoH hlz hl) (aoH hlz' hl') hc1 hc2).mono ?_;rintro e w3 ⟨A3,c3,rfl,hc3,hr3,hb3⟩;have U3:=Q3.next hb3;generalize Nat.gcd (zv s ns).natAbs (zv s' ms).natAbs=G at *
  go_wp2_with fail
  refine (jL false A3 G _ c3 _ (G:Int) _ hr3 (aoG _) rfl hc3 rfl).mono ?_;rintro e w4 ⟨A4,c4,rfl,hc4,hr4,hb4⟩;have V3:=U3.next hb4;obtain ⟨d0,d1,g0,g1⟩:=V3.facts;have hsz3:=hb3.size;have H7:=hbc.size
  go_wp2_with fail
  refine bodyPost_ret (v := .agg #[.bool (sg (G:Int)),.slice A4 (mg (G:Int)).length c4]) (by simp [results,Tryz.results137,go_sem,d0,d1]) rfl ?_;exact fZ V3 hr4 hb4.size hc4 (bK (bK hbc hb3 (aoG _)) hb4 af) af
end Go.Proofs.BGQ
namespace Lw
open Go Go.RowKit
theorem PM{x y:Int}{k:Nat}(hy:y≠0)(h:x.natAbs<pw k):(x/y).natAbs<pw (k+1):=by
 have h1:=Int.emod_add_mul_ediv x y;have h2:=Int.emod_nonneg x hy;have h3:=Int.emod_lt x hy
 have h4:y.natAbs*(x/y).natAbs=(x-x%y).natAbs:=by
  rw [<- apr];congr 1;omega
 have h5:(x-x%y).natAbs+1<=x.natAbs+y.natAbs:=af
 have hq:(x/y).natAbs<=x.natAbs+1:=by
  generalize (x/y).natAbs=q at *;generalize y.natAbs=d at *;refine Nat.le_of_not_lt fun hlt => ?_;have hd:1<=d:=af;have h6:d*(x.natAbs+2)<=d*q:=aoS _ hlt;have h7:1*x.natAbs<=d*x.natAbs:=aoP _ hd;rw [aoJ] at h6;omega
 have:=jf k;rw [dV];omega
theorem PO{x y:Int}{k:Nat}(hy:y≠0)(h:y.natAbs<pw k):(x%y).natAbs<pw k:=by
 have h2:=Int.emod_nonneg x hy;have h3:=Int.emod_lt x hy;omega
theorem aaZ{x y k k':Nat}(h:x<pw k)(h':y<pw k'):((Nat.gcd x y:Nat):Int).natAbs<pw (k+k'):=by
 rw [aoL];have h1:pw k<=pw (k+k'):=dU af;have h2:pw k'<=pw (k+k'):=dU af;rcases aoT x with e | e
 ·subst e;rw [apX];omega
 ·have:=ap3 y e;omega
end Lw
namespace Go.Proofs.BGQ
open Go Go.RowKit Lw
section
variable {t:TypeId} {W0 w:World} {bs:List Bx} {L:List En} {v v':Value} {x y:Int} {k k':Nat} {b b':Bool}
theorem Ai{w:World}{z:Int}{K:Nat}{A:Option Addr}{c:Nat}(hr:Rd w w.heap.size A (mg z))(hc:(mg z).length<=c)(hz:z.natAbs<pw K):dB w ⟨.agg #[.bool (sg z),.slice A (mg z).length c],z,K,true⟩ :=
 ⟨sg z,A,_,c,mg z,_,rfl,hr,aoG _,rfl,pq hz,hc,og z,mO z⟩
theorem XZ(HE:Env t W0 w bs L)(h:⟨v,x,k,b⟩∈L)(h':⟨v',y,k',b'⟩∈L)(hk:k+k'<=100000)(hy:y≠0) :
  Calls Tryz.prog 173 #[v,v'] w fun e w' => ∃ (s s':Bool) (D D':Option Addr) (m d m' d':Nat),e = .returned (.tuple #[.agg #[.bool s,.slice D m d],.agg #[.bool s',.slice D' m' d'],.nilIface])/\Env t W0 w' bs (⟨.agg #[.bool s,.slice D m d],x/y,k+1,true⟩::⟨.agg #[.bool s',.slice D' m' d'],x%y,k',true⟩::L):=by
 have H1:=HE.ops _ h;have H2:=HE.ops _ h';have hz:=PM hy H1.lt;have hz':=PO (x:=x) hy H2.lt;obtain ⟨s,A,n,c,ns,B,e1,h2,h3,h4,h5,h6,e7,h8⟩:=H1;obtain ⟨s',A',n',c',ns',B',e1',h2',h3',h4',h5',h6',dZ,h8'⟩:=H2;dsimp only at e1 e7 e1' dZ h5 h5' hz hz';subst e1 e1' e7 dZ;refine (Ya s s' A A' ns ns' n n' c c' B B' w h2 h2' h3 h3' h4 h4' af af h6 h6' hy (.inr Ir)).mono fun e w' hh => ?_;obtain ⟨A3,c3,A4,c4,rfl,hc3,hc4,hr3,hr4,hb⟩:=hh;exact ⟨_,_,_,_,_,_,_,_,rfl,((HE.next hb).cons (Ai hr4 hc4 hz')).cons (Ai hr3 hc3 hz)⟩
theorem Y2(HE:Env t W0 w bs L)(h:⟨v,x,k,b⟩∈L)(h':⟨v',y,k',b'⟩∈L)(hk:k+k'<=100000) :
  Calls Tryz.prog 137 #[v,v'] w fun e w' => ∃ (s:Bool) (D:Option Addr) (m d:Nat),e = .returned (.agg #[.bool s,.slice D m d])/\Env t W0 w' bs (⟨.agg #[.bool s,.slice D m d],((Nat.gcd x.natAbs y.natAbs:Nat):Int),k+k',true⟩::L):=by
 have H1:=HE.ops _ h;have H2:=HE.ops _ h';have hz:=aaZ H1.lt H2.lt;obtain ⟨s,A,n,c,ns,B,e1,h2,h3,h4,h5,h6,e7,h8⟩:=H1;obtain ⟨s',A',n',c',ns',B',e1',h2',h3',h4',h5',h6',dZ,h8'⟩:=H2;dsimp only at e1 e7 e1' dZ h5 h5' hz;subst e1 e1' e7 dZ;refine (NR s s' A A' ns ns' n n' c c' B B' w h2 h2' h3 h3' h4 h4' af af h6 h6').mono fun e w' hh => ?_;obtain ⟨A3,c3,rfl,hc3,hr3,hb⟩:=hh;exact ⟨_,_,_,_,rfl,(HE.next hb).cons (Ai hr3 hc3 hz)⟩
end
end Go.Proofs.BGQ
namespace Lw
open Go Go.RowKit
def cp(ns ms:List Nat):Bool:=Nat.gcd (val ns) (val ms)==1
def fV(s:Bool)(ns ms:List Nat):Bool:=if ns.length=0\/ms.length=0 then decide (ns.length=ms.length) && !s else vB false ns&&(vB false ms&&cp ns ms)
theorem XC{ns ms:List Nat}(h:ns=[1]):cp ns ms=true:=by
 subst h;unfold cp;rw [show val [1]=1 from rfl,Nat.gcd_one_left];rfl
theorem XD{ns ms:List Nat}(h:ms=[1]):cp ns ms=true:=by
 subst h;unfold cp;rw [show val [1]=1 from rfl,Nat.gcd_one_right];rfl
theorem AV{l:List Nat}{n:Nat}(t:dR l)(hn:l.length=n)(h:1<=n):val l≠0:=by
 have:=Ed t (by intro e;rw [e] at hn;simp at hn;omega);omega
theorem TQ{l:List Nat}{n:Nat}(t:dR l)(hn:l.length=n)(h:1<=n):vB false l=true:=by
 unfold vB;rw [if_neg af,bne_iff_ne];refine t _ ?_;rw [ap0,sG af]
theorem Uk{l:List Nat}{n:Nat}(t:dR l)(hn:l.length=n)(h:1<=n):zv false l=(val l:Int):=by
 unfold zv;rw [TQ t hn h];rfl
theorem MV{g:Nat} : bn g=[1]↔g=1:=by
 constructor
 ·intro h
  have:=bM g;rw [h] at this;exact this.symm
 ·intro h
  subst h;exact XW af af
end Lw
namespace Go.Proofs.BGQ
open Go Go.RowKit Lw
theorem Gq(s:Bool)(A:Option Addr)(n c:Nat)(w:World):Sem.run Tryz.prog (Instr.field 79 (.agg #[.bool s,.slice A n c]) 1) w = .ok (.slice A n c) w:=ah
theorem vz(A:Option Addr)(ns:List Nat)(n c B:Nat)(w:World)(h:Rd w B A ns)(hn:ns.length=n)(hl:n<=16777216) :
  Calls Tryz.prog 93 #[.slice A n c] w fun e w'=>e = .returned (.bool (decide (ns=[1])))/\Below w.heap.size w w':=by
 refine (aaK A ns n c B w h hn hl).mono ?_;rintro e w' ⟨rfl,q,rfl⟩;exact ⟨rfl,below_drewN' _ _ q⟩
theorem Pm(A:Option Addr)(ns:List Nat)(n c B:Nat)(w:World)(h:Rd w B A ns)(hn:ns.length=n)(h1:1<=n)(h2:n<=2) :
  Calls Tryz.prog 147 #[.slice A n c] w fun e w'=>e = .returned (.int .u64 (val ns:Int))/\Below w.heap.size w w':=by
 refine (aaO A ns n c B w h hn h1 h2).mono ?_;rintro e w' ⟨rfl,q,rfl⟩;exact ⟨rfl,below_drewN' _ _ q⟩
theorem Yu(x y:Nat)(w:World)(hx:x<=18446744073709551615)(hy:y<=18446744073709551615)(hx0:x≠0)(hy0:y≠0)(ht:Tz w) :
  Calls Tryz.prog 133 #[.int .u64 x,.int .u64 y] w fun e w'=>e = .returned (.int .u64 (Nat.gcd x y:Nat))/\Below w.heap.size w w':=by
 refine (Yv x y w hx hy hx0 hy0 ht).mono ?_;rintro e w' ⟨rfl,q,rfl⟩;exact ⟨rfl,below_drewN' _ _ q⟩
set_option maxRecDepth 100000 in
set_option maxHeartbeats 3200000 in
theorem XB(A A':Option Addr)(ns ms:List Nat)(n m c c' B B':Nat)(w:World)(h:Rd w B A ns)(h':Rd w B' A' ms)(hB:B<=w.heap.size)(hB':B'<=w.heap.size)(hn:ns.length=n)(hm:ms.length=m)(hl:n<=8388608)(hl':m<=8388608)(hc:n<=c)(hc':m<=c')(ht:Tz w)(tn:dR ns)(tm:dR ms)(h1:1<=n)(h2:1<=m) :
  Calls Tryz.prog 102 #[.slice A n c,.slice A' m c'] w fun e w'=>e = .returned (.bool (cp ns ms))/\Below w.heap.size w w':=by
 have hone:=fun W hR=>vz A ns n c B W hR hn af;have hone':=fun W hR=>vz A' ms m c' B' W hR hm af
 by_cases e1:ns=[1]
 ·have HC:=Lib.hid (XC (ms:=ms) e1)
  rw [decide_eq_true e1] at hone;have HO:=Lib.hid hone;clear hone hone' e1 hn hm
  go_enter anV,anW
  go_wp2_with fail
  refine (HO.out _ h).mono ?_;rintro e w1 ⟨rfl,hb1⟩
  go_wp2_with fail
  go_ret
  exact ⟨by rw [HC.out];rfl,hb1⟩
 by_cases e2:ms=[1]
 ·have HC:=Lib.hid (XD (ns:=ns) e2)
  rw [decide_eq_false e1] at hone;rw [decide_eq_true e2] at hone';have HO:=Lib.hid hone;have uH:=Lib.hid hone';clear hone hone' e1 e2 hn hm
  go_enter anV,anW
  go_wp2_with fail
  refine (HO.out _ h).mono ?_;rintro e w1 ⟨rfl,hb1⟩
  go_wp2_with fail
  refine (uH.out _ (h'.next hb1 hB')).mono ?_;rintro e w2 ⟨rfl,hb2⟩;have ig:=bK hb1 hb2 (aoG _)
  go_wp2_with fail
  go_ret
  exact ⟨by rw [HC.out];rfl,ig⟩
 rw [decide_eq_false e1] at hone;rw [decide_eq_false e2] at hone';have HO:=Lib.hid hone;have uH:=Lib.hid hone';have HT:=Lib.hid ht
 by_cases hs:n<=2/\m<=2
 ·obtain ⟨hs1,hs2⟩:=hs
  have hj:=fun W hR=>Pm A ns n c B W hR hn h1 hs1;have hj':=fun W hR=>Pm A' ms m c' B' W hR hm h2 hs2;have hx:=AV tn hn h1;have hy:=AV tm hm h2
  have hxl:val ns<=18446744073709551615:=by
   have h3:=eu h.bQ;have h4:pw ns.length<=pw 2:=dU af;have h5:pw 2=18446744073709551616:=rfl;omega
  have hyl:val ms<=18446744073709551615:=by
   have h3:=eu h'.bQ;have h4:pw ms.length<=pw 2:=dU af;have h5:pw 2=18446744073709551616:=rfl;omega
  have hd:=fun W hW=>Yu (val ns) (val ms) W hxl hyl hx hy hW;obtain ⟨g,hg⟩ : ∃ g,g=Nat.gcd (val ns) (val ms):=⟨_,rfl⟩;rw [<- hg] at hd;have HC:Hid (((g:Int)==1)=cp ns ms):=Lib.hid (by unfold cp;rw [<- hg,Bool.eq_iff_iff,beq_iff_eq,beq_iff_eq];omega);have HJ:=Lib.hid hj;have U9:=Lib.hid hj';have HD:=Lib.hid hd;clear hone hone' e1 e2 hn hm hj hj' hd hg hx hy hxl hyl ht
  go_enter anV,anW
  go_wp2_with fail
  refine (HO.out _ h).mono ?_;rintro e w1 ⟨rfl,hb1⟩
  go_wp2_with fail
  refine (uH.out _ (h'.next hb1 hB')).mono ?_;rintro e w2 ⟨rfl,hb2⟩;have ig:=bK hb1 hb2 (aoG _)
  go_wp2_with fail
  refine (HJ.out _ (h.next ig hB)).mono ?_;rintro e w3 ⟨rfl,hb3⟩;have Og:=bK ig hb3 (aoG _)
  go_wp2_with fail
  refine (U9.out _ (h'.next Og hB')).mono ?_;rintro e w4 ⟨rfl,hb4⟩;have Oh:=bK Og hb4 (aoG _)
  go_wp2_with fail
  refine (HD.out _ (HT.out.next Oh)).mono ?_;rintro e w5 ⟨rfl,hb5⟩
  go_wp2_with fail
  go_ret
  exact ⟨congrArg (fun b=>Ending.returned (Value.bool b)) HC.out,bK Oh hb5 (aoG _)⟩
 ·have hgc:=fun W hR hR' hb hb'=>NR false false A A' ns ms n m c c' B B' W hR hR' hb hb' hn hm hl hl' hc hc'
  rw [Uk tn hn h1,Uk tm hm h2,aoL,aoL] at hgc;obtain ⟨g,hg⟩ : ∃ g,g=Nat.gcd (val ns) (val ms):=⟨_,rfl⟩;rw [<- hg] at hgc;have HC:Hid (decide (mg (g:Int)=[1])=cp ns ms):=Lib.hid (by unfold cp mg;rw [<- hg,aoL,Bool.eq_iff_iff,decide_eq_true_iff,beq_iff_eq,MV])
  have hgl:(mg (g:Int)).length<=16777216:=by
   unfold mg;rw [aoL,hg];refine aoH (fD (k:=n) ?_) af;exact ao0 (ap3 _ (apB (AV tn hn h1))) (by rw [<- hn];exact eu h.bQ)
  have HG:=Lib.hid hgc;clear hone hone' e1 e2 hn hm hgc hg ht;have hs':2<n\/2<m:=af;clear hs;rcases hs' with hs | hs
  ·go_enter anV,anW
   go_wp2_with fail
   refine (HO.out _ h).mono ?_;rintro e w1 ⟨rfl,hb1⟩
   go_wp2_with fail
   refine (uH.out _ (h'.next hb1 hB')).mono ?_;rintro e w2 ⟨rfl,hb2⟩;have ig:=bK hb1 hb2 (aoG _)
   go_wp2_with fail
   refine (HG.out _ (h.next ig hB) (h'.next ig hB') (aoH hB ig.size) (aoH hB' ig.size)).mono ?_;rintro e w3 ⟨A9,c9,rfl,dM,dS,jF⟩;have hfld:=Gq (sg (g:Int)) A9 (mg (g:Int)).length c9 w3
   go_wp2_with fail
   refine (vz A9 (mg (g:Int)) _ c9 _ _ dS rfl hgl).mono ?_;rintro e w4 ⟨rfl,hb4⟩
   go_wp2_with fail
   go_ret
   exact ⟨congrArg (fun b=>Ending.returned (Value.bool b)) HC.out,bK (bK ig jF (aoG _)) hb4 (aoG _)⟩
  ·by_cases hn2:n<=2
   ·go_enter anV,anW
    go_wp2_with fail
    refine (HO.out _ h).mono ?_;rintro e w1 ⟨rfl,hb1⟩
    go_wp2_with fail
    refine (uH.out _ (h'.next hb1 hB')).mono ?_;rintro e w2 ⟨rfl,hb2⟩;have ig:=bK hb1 hb2 (aoG _)
    go_wp2_with fail
    refine (HG.out _ (h.next ig hB) (h'.next ig hB') (aoH hB ig.size) (aoH hB' ig.size)).mono ?_;rintro e w3 ⟨A9,c9,rfl,dM,dS,jF⟩;have hfld:=Gq (sg (g:Int)) A9 (mg (g:Int)).length c9 w3
    go_wp2_with fail
    refine (vz A9 (mg (g:Int)) _ c9 _ _ dS rfl hgl).mono ?_;rintro e w4 ⟨rfl,hb4⟩
    go_wp2_with fail
    go_ret
    exact ⟨congrArg (fun b=>Ending.returned (Value.bool b)) HC.out,bK (bK ig jF (aoG _)) hb4 (aoG _)⟩
   ·have hn3:2<n:=af
    go_enter anV,anW
    go_wp2_with fail
    refine (HO.out _ h).mono ?_;rintro e w1 ⟨rfl,hb1⟩
    go_wp2_with fail
    refine (uH.out _ (h'.next hb1 hB')).mono ?_;rintro e w2 ⟨rfl,hb2⟩;have ig:=bK hb1 hb2 (aoG _)
    go_wp2_with fail
    refine (HG.out _ (h.next ig hB) (h'.next ig hB') (aoH hB ig.size) (aoH hB' ig.size)).mono ?_;rintro e w3 ⟨A9,c9,rfl,dM,dS,jF⟩;have hfld:=Gq (sg (g:Int)) A9 (mg (g:Int)).length c9 w3
    go_wp2_with fail
    refine (vz A9 (mg (g:Int)) _ c9 _ _ dS rfl hgl).mono ?_;rintro e w4 ⟨rfl,hb4⟩
    go_wp2_with fail
    go_ret
    exact ⟨congrArg (fun b=>Ending.returned (Value.bool b)) HC.out,bK (bK ig jF (aoG _)) hb4 (aoG _)⟩
end Go.Proofs.BGQ
namespace Lw
open Go Go.RowKit
theorem Yt{s:Bool}{ns ms:List Nat}{n m:Nat}(hn:ns.length=n)(hm:ms.length=m)(h:n=0)(h':m=0):fV s ns ms = !s:=by
 unfold fV;rw [if_pos (.inl af),decide_eq_true af];rfl
theorem Gp{s:Bool}{ns ms:List Nat}{n m:Nat}(hn:ns.length=n)(hm:ms.length=m)(h:n=0\/m=0)(h':n≠m):fV s ns ms=false:=by
 unfold fV;rw [if_pos af,decide_eq_false af];rfl
theorem Gm{s:Bool}{ns ms:List Nat}{n m:Nat}(hn:ns.length=n)(hm:ms.length=m)(h:1<=n)(h':1<=m):fV s ns ms=(vB false ns&&(vB false ms&&cp ns ms)):=by
 unfold fV;rw [if_neg af]
theorem Ee{l:List Nat}(h:vB false l=true):dR l:=TS h
end Lw
namespace Go.Proofs.BGQ
open Go Go.RowKit Lw
set_option maxRecDepth 100000 in
set_option maxHeartbeats 3200000 in
theorem NG(s:Bool)(A A':Option Addr)(ns ms:List Nat)(n m c c' B B':Nat)(w:World)(h:Rd w B A ns)(h':Rd w B' A' ms)(hB:B<=w.heap.size)(hB':B'<=w.heap.size)(hn:ns.length=n)(hm:ms.length=m)(hl:n<=8388608)(hl':m<=8388608)(hc:n<=c)(hc':m<=c')(ht:Tz w) :
  Calls Tryz.prog 56 #[.agg #[.bool s,.slice A n c,.slice A' m c']] w fun e w'=>e = .returned (.bool (fV s ns ms))/\Below w.heap.size w w':=by
 have hb1:=(Below.refl w.heap.size w).alloc (aoG _) (.cells #[.bool s,.slice A n c,.slice A' m c'] 24);obtain ⟨e0,e1,e2,e3,e4,e5⟩:=(cO.new w 24 (.bool s) (.slice A n c) (.slice A' m c')).cells
 by_cases h0:n=0
 ·by_cases h0':m=0
  ·have HV:=Lib.hid (Yt (s:=s) hn hm h0 h0')
   subst h0 h0';clear hn hm ht
   go_enter aoq,aor
   go_wp2_with fail
   go_ret
   exact ⟨congrArg (fun b=>Ending.returned (Value.bool b)) HV.out.symm,hb1⟩
  ·have HV:=Lib.hid (Gp (s:=s) hn hm (.inl h0) af)
   have hq:((0:Int)==(m:Int))=false:=by rw [beq_eq_false_iff_ne];omega
   subst h0;clear hn hm ht
   go_enter aoq,aor
   go_wp2_with fail
   go_ret
   exact ⟨congrArg (fun b=>Ending.returned (Value.bool b)) HV.out.symm,hb1⟩
 have qL:((n:Int)==0)=false:=by rw [beq_eq_false_iff_ne];omega
 by_cases h0':m=0
 ·have HV:=Lib.hid (Gp (s:=s) hn hm (.inr h0') af)
  subst h0';clear hn hm ht
  go_enter aoq,aor
  go_wp2_with fail
  go_ret
  exact ⟨congrArg (fun b=>Ending.returned (Value.bool b)) HV.out.symm,hb1⟩
 have hqm:((m:Int)==0)=false:=by rw [beq_eq_false_iff_ne];omega
 have HV:=Lib.hid (Gm (s:=s) hn hm af af);have hv:=fun W hR hb=>Es false A ns n c B W hR hb hn af;have hv':=fun W hR hb=>Es false A' ms m c' B' W hR hb hm af;have hcp:=fun W hR hR' hb hb' hT t1 t2=>XB A A' ns ms n m c c' B B' W hR hR' hb hb' hn hm hl hl' hc hc' hT t1 t2 af af;have Fq:Hid (vB false ns=true->dR ns):=Lib.hid Ee;have oH:Hid (vB false ms=true->dR ms):=Lib.hid Ee;have HT:=Lib.hid ht;obtain ⟨v1,hv1⟩ : ∃ v,v=vB false ns:=⟨_,rfl⟩;obtain ⟨v2,hv2⟩ : ∃ v,v=vB false ms:=⟨_,rfl⟩;rw [<- hv1] at hv HV Fq;rw [<- hv2] at hv' HV oH;have HA:=Lib.hid hv;have HA':=Lib.hid hv';have HC:=Lib.hid hcp;clear hv hv' hcp hn hm ht h0 h0' hv1 hv2
 go_enter aoq,aor
 go_wp2_with fail
 go_region
 ·have hB1:Below w.heap.size w (((w.alloc (.cells #[.bool s,.slice A n c,.slice A' m c'] 24)).alloc (.cells #[.bool false,.slice A n c] 79)).alloc (.cells #[.bool false,.slice A' m c'] 79)).drew:=((hb1.alloc (by simp) _).alloc (by simp;omega) _).drew
  have T0:cO (((w.alloc (.cells #[.bool s,.slice A n c,.slice A' m c'] 24)).alloc (.cells #[.bool false,.slice A n c] 79)).alloc (.cells #[.bool false,.slice A' m c'] 79)).drew w.heap.size 24 (.bool s) (.slice A n c) (.slice A' m c'):=(((cO.new w 24 (.bool s) (.slice A n c) (.slice A' m c')).next ((Below.refl _ _).alloc (aoG _) (.cells #[.bool false,.slice A n c] 79))).next ((Below.refl _ _).alloc (aoG _) (.cells #[.bool false,.slice A' m c'] 79))).drew
  have Ta:Two (((w.alloc (.cells #[.bool s,.slice A n c,.slice A' m c'] 24)).alloc (.cells #[.bool false,.slice A n c] 79)).alloc (.cells #[.bool false,.slice A' m c'] 79)).drew (w.heap.size+1) 79 (.bool false) (.slice A n c):=by
   have h9:=(Two.new (w.alloc (.cells #[.bool s,.slice A n c,.slice A' m c'] 24)) 79 (.bool false) (.slice A n c)).alloc (.cells #[.bool false,.slice A' m c'] 79);rw [World.size_alloc] at h9;exact h9
  have Tb:Two (((w.alloc (.cells #[.bool s,.slice A n c,.slice A' m c'] 24)).alloc (.cells #[.bool false,.slice A n c] 79)).alloc (.cells #[.bool false,.slice A' m c'] 79)).drew (w.heap.size+1+1) 79 (.bool false) (.slice A' m c'):=by
   have h9:=Two.new ((w.alloc (.cells #[.bool s,.slice A n c,.slice A' m c'] 24)).alloc (.cells #[.bool false,.slice A n c] 79)) 79 (.bool false) (.slice A' m c');rw [World.size_alloc,World.size_alloc] at h9;exact h9
  have R1:=h.next hB1 hB;have R2:=h'.next hB1 hB';generalize (((w.alloc (.cells #[.bool s,.slice A n c,.slice A' m c'] 24)).alloc (.cells #[.bool false,.slice A n c] 79)).alloc (.cells #[.bool false,.slice A' m c'] 79)).drew=W at *;obtain ⟨p0,p1,_,_⟩:=Ta.facts;clear e0 e1 e2 e3 e4 e5
  go_wp2_with fail
  refine (HA.out _ R1 (aoH hB hB1.size)).mono ?_;rintro e w1 ⟨rfl,hb2⟩;have hB2:=bK hB1 hb2 (aoG _);obtain ⟨p2,p3,_,_⟩:=(Tb.next hb2).facts;clear p0 p1
  cases v1
  ·go_wp2_with fail
   go_ret
   exact ⟨congrArg (fun b=>Ending.returned (Value.bool b)) HV.out.symm,hB2⟩
  ·go_wp2_with fail
   refine (HA'.out _ (R2.next hb2 (aoH hB' hB1.size)) (aoH hB' hB2.size)).mono ?_;rintro e w2 ⟨rfl,hb3⟩;have hB3:=bK hB2 hb3 (aoG _);have T3:=(T0.next hb2).next hb3;obtain ⟨f0,f1,f2,f3,f4,f5⟩:=T3.cells;clear p2 p3
   cases v2
   ·go_wp2_with fail
    go_ret
    exact ⟨congrArg (fun b=>Ending.returned (Value.bool b)) HV.out.symm,hB3⟩
   ·go_wp2_with fail
    refine (HC.out _ (h.next hB3 hB) (h'.next hB3 hB') (aoH hB hB3.size) (aoH hB' hB3.size) (HT.out.next hB3) (Fq.out (by first | rfl | trivial)) (oH.out (by first | rfl | trivial))).mono ?_;rintro e w3 ⟨rfl,hb4⟩
    go_wp2_with fail
    go_ret
    exact ⟨congrArg (fun b=>Ending.returned (Value.bool b)) HV.out.symm,bK hB3 hb4 (aoG _)⟩
 ·have hB1:Below w.heap.size w (((w.alloc (.cells #[.bool s,.slice A n c,.slice A' m c'] 24)).alloc (.cells #[.bool false,.slice A' m c'] 79)).alloc (.cells #[.bool false,.slice A n c] 79)).drew:=((hb1.alloc (by simp) _).alloc (by simp;omega) _).drew
  have T0:cO (((w.alloc (.cells #[.bool s,.slice A n c,.slice A' m c'] 24)).alloc (.cells #[.bool false,.slice A' m c'] 79)).alloc (.cells #[.bool false,.slice A n c] 79)).drew w.heap.size 24 (.bool s) (.slice A n c) (.slice A' m c'):=(((cO.new w 24 (.bool s) (.slice A n c) (.slice A' m c')).next ((Below.refl _ _).alloc (aoG _) (.cells #[.bool false,.slice A' m c'] 79))).next ((Below.refl _ _).alloc (aoG _) (.cells #[.bool false,.slice A n c] 79))).drew
  have Ta:Two (((w.alloc (.cells #[.bool s,.slice A n c,.slice A' m c'] 24)).alloc (.cells #[.bool false,.slice A' m c'] 79)).alloc (.cells #[.bool false,.slice A n c] 79)).drew (w.heap.size+1) 79 (.bool false) (.slice A' m c'):=by
   have h9:=(Two.new (w.alloc (.cells #[.bool s,.slice A n c,.slice A' m c'] 24)) 79 (.bool false) (.slice A' m c')).alloc (.cells #[.bool false,.slice A n c] 79);rw [World.size_alloc] at h9;exact h9
  have Tb:Two (((w.alloc (.cells #[.bool s,.slice A n c,.slice A' m c'] 24)).alloc (.cells #[.bool false,.slice A' m c'] 79)).alloc (.cells #[.bool false,.slice A n c] 79)).drew (w.heap.size+1+1) 79 (.bool false) (.slice A n c):=by
   have h9:=Two.new ((w.alloc (.cells #[.bool s,.slice A n c,.slice A' m c'] 24)).alloc (.cells #[.bool false,.slice A' m c'] 79)) 79 (.bool false) (.slice A n c);rw [World.size_alloc,World.size_alloc] at h9;exact h9
  have R1:=h.next hB1 hB;have R2:=h'.next hB1 hB';generalize (((w.alloc (.cells #[.bool s,.slice A n c,.slice A' m c'] 24)).alloc (.cells #[.bool false,.slice A' m c'] 79)).alloc (.cells #[.bool false,.slice A n c] 79)).drew=W at *;obtain ⟨p0,p1,_,_⟩:=Tb.facts;clear e0 e1 e2 e3 e4 e5
  go_wp2_with fail
  refine (HA.out _ R1 (aoH hB hB1.size)).mono ?_;rintro e w1 ⟨rfl,hb2⟩;have hB2:=bK hB1 hb2 (aoG _);obtain ⟨p2,p3,_,_⟩:=(Ta.next hb2).facts;clear p0 p1
  cases v1
  ·go_wp2_with fail
   go_ret
   exact ⟨congrArg (fun b=>Ending.returned (Value.bool b)) HV.out.symm,hB2⟩
  ·go_wp2_with fail
   refine (HA'.out _ (R2.next hb2 (aoH hB' hB1.size)) (aoH hB' hB2.size)).mono ?_;rintro e w2 ⟨rfl,hb3⟩;have hB3:=bK hB2 hb3 (aoG _);have T3:=(T0.next hb2).next hb3;obtain ⟨f0,f1,f2,f3,f4,f5⟩:=T3.cells;clear p2 p3
   cases v2
   ·go_wp2_with fail
    go_ret
    exact ⟨congrArg (fun b=>Ending.returned (Value.bool b)) HV.out.symm,hB3⟩
   ·go_wp2_with fail
    refine (HC.out _ (h.next hB3 hB) (h'.next hB3 hB') (aoH hB hB3.size) (aoH hB' hB3.size) (HT.out.next hB3) (Fq.out (by first | rfl | trivial)) (oH.out (by first | rfl | trivial))).mono ?_;rintro e w3 ⟨rfl,hb4⟩
    go_wp2_with fail
    go_ret
    exact ⟨congrArg (fun b=>Ending.returned (Value.bool b)) HV.out.symm,bK hB3 hb4 (aoG _)⟩
def kn(b:Bool)(s:Bool)(A A':Option Addr)(n m c c':Nat):Value:=if b then .agg #[.bool s,.slice A n c,.slice A' m c'] else .agg #[.bool false,.slice none 0 0,.slice none 0 0]
set_option maxRecDepth 100000 in
set_option maxHeartbeats 3200000 in
theorem Yy(s:Bool)(A A':Option Addr)(ns ms:List Nat)(n m c c' B B':Nat)(w:World)(h:Rd w B A ns)(h':Rd w B' A' ms)(hB:B<=w.heap.size)(hB':B'<=w.heap.size)(hn:ns.length=n)(hm:ms.length=m)(hl:n<=8388608)(hl':m<=8388608)(hc:n<=c)(hc':m<=c')(ht:Tz w) :
  Calls Tryz.prog 83 #[.agg #[.bool s,.slice A n c,.slice A' m c']] w fun e w'=>e = .returned (kn (n != 0&&fV s ns ms) s A A' n m c c')/\Below w.heap.size w w':=by
 have hb1:=((Below.refl w.heap.size w).alloc (aoG _) (.cells #[.bool s,.slice A n c,.slice A' m c'] 24)).alloc (by simp) (.cells #[.bool false,.slice none 0 0,.slice none 0 0] 24);have T0:cO ((w.alloc (.cells #[.bool s,.slice A n c,.slice A' m c'] 24)).alloc (.cells #[.bool false,.slice none 0 0,.slice none 0 0] 24)) w.heap.size 24 (.bool s) (.slice A n c) (.slice A' m c'):=(cO.new w 24 (.bool s) (.slice A n c) (.slice A' m c')).next ((Below.refl _ _).alloc (aoG _) (.cells #[.bool false,.slice none 0 0,.slice none 0 0] 24))
 have T1:cO ((w.alloc (.cells #[.bool s,.slice A n c,.slice A' m c'] 24)).alloc (.cells #[.bool false,.slice none 0 0,.slice none 0 0] 24)) (w.heap.size+1) 24 (.bool false) (.slice none 0 0) (.slice none 0 0):=by
  have h9:=cO.new (w.alloc (.cells #[.bool s,.slice A n c,.slice A' m c'] 24)) 24 (.bool false) (.slice none 0 0) (.slice none 0 0);rw [World.size_alloc] at h9;exact h9
 obtain ⟨e0,e1,e2,e3,e4,e5⟩:=T0.cells;obtain ⟨f0,f1,f2,f3,f4,f5⟩:=T1.cells
 by_cases h0:n=0
 ·have HV:Hid ((n != 0&&fV s ns ms)=false):=Lib.hid (by rw [h0];rfl)
  rw [HV.out];subst h0;clear hn hm ht HV
  go_enter Tryz.func83,Tryz.ntmps83
  go_wp2_with fail
  refine bodyPost_ret (v := .agg #[.bool false,.slice none 0 0,.slice none 0 0]) (by simp [results,Tryz.results83,go_sem,f0,f1,f2]) rfl ?_;exact ⟨rfl,hb1⟩
 ·have HV:Hid ((n != 0&&fV s ns ms)=fV s ns ms):=Lib.hid (by rw [bne_iff_ne.2 h0];rfl)
  rw [HV.out];have qL:((n:Int)==0)=false:=by rw [beq_eq_false_iff_ne];omega
  have hv:=fun W hR hR' hb hb' hT=>NG s A A' ns ms n m c c' B B' W hR hR' hb hb' hn hm hl hl' hc hc' hT;obtain ⟨b,hb⟩ : ∃ b,b=fV s ns ms:=⟨_,rfl⟩;rw [<- hb] at hv ⊢;have HF:=Lib.hid hv;have HT:=Lib.hid ht;clear hv hb hn hm ht h0 HV
  go_enter Tryz.func83,Tryz.ntmps83
  go_wp2_with fail
  refine (HF.out _ (h.next hb1 hB) (h'.next hb1 hB') (aoH hB hb1.size) (aoH hB' hb1.size) (HT.out.next hb1)).mono ?_;rintro e w1 ⟨rfl,hb2⟩;have hb3:=bK hb1 hb2 (aoG _);have K0:=T0.next hb2;have K1:=T1.next hb2;clear e0 e1 e2 e3 e4 e5 f0 f1 f2 f3 f4 f5;obtain ⟨e0,e1,e2,e3,e4,e5⟩:=K0.cells;obtain ⟨f0,f1,f2,f3,f4,f5⟩:=K1.cells
  cases b
  ·go_wp2_with fail
   refine bodyPost_ret (v := .agg #[.bool false,.slice none 0 0,.slice none 0 0]) (by simp [results,Tryz.results83,go_sem,f0,f1,f2]) rfl ?_;exact ⟨rfl,((hb3.setCell (by simp) _).setCell (by simp) _).setCell (by simp) _⟩
  ·go_wp2_with fail
   refine bodyPost_ret (v := .agg #[.bool s,.slice A n c,.slice A' m c']) (by simp [results,Tryz.results83,go_sem,f0,f1,f2]) rfl ?_;exact ⟨rfl,((hb3.setCell (by simp) _).setCell (by simp) _).setCell (by simp) _⟩
set_option maxRecDepth 100000 in
set_option maxHeartbeats 3200000 in
theorem YC(s:Bool)(A A':Option Addr)(n m c c':Nat)(w:World)(hl:n<=8388608) :
  Calls Tryz.prog 139 #[.agg #[.bool s,.slice A n c,.slice A' m c']] w fun e w'=>e = .returned (.agg #[.bool (decide (0<n) && !s),.slice A n c,.slice A' m c'])/\Below w.heap.size w w':=by
 have hb1:=((Below.refl w.heap.size w).alloc (aoG _) (.cells #[.bool s,.slice A n c,.slice A' m c'] 24)).alloc (by simp) (.cells #[.bool false,.slice none 0 0,.slice none 0 0] 24);have T0:cO ((w.alloc (.cells #[.bool s,.slice A n c,.slice A' m c'] 24)).alloc (.cells #[.bool false,.slice none 0 0,.slice none 0 0] 24)) w.heap.size 24 (.bool s) (.slice A n c) (.slice A' m c'):=(cO.new w 24 (.bool s) (.slice A n c) (.slice A' m c')).next ((Below.refl _ _).alloc (aoG _) (.cells #[.bool false,.slice none 0 0,.slice none 0 0] 24))
 have T1:cO ((w.alloc (.cells #[.bool s,.slice A n c,.slice A' m c'] 24)).alloc (.cells #[.bool false,.slice none 0 0,.slice none 0 0] 24)) (w.heap.size+1) 24 (.bool false) (.slice none 0 0) (.slice none 0 0):=by
  have h9:=cO.new (w.alloc (.cells #[.bool s,.slice A n c,.slice A' m c'] 24)) 24 (.bool false) (.slice none 0 0) (.slice none 0 0);rw [World.size_alloc] at h9;exact h9
 obtain ⟨e0,e1,e2,e3,e4,e5⟩:=T0.cells;obtain ⟨f0,f1,f2,f3,f4,f5⟩:=T1.cells
 by_cases h0:n=0
 ·subst h0
  go_enter Tryz.func139,Tryz.ntmps139
  go_wp2_with fail
  refine bodyPost_ret (v := .agg #[.bool false,.slice A 0 c,.slice A' m c']) (by simp [results,Tryz.results139,go_sem]) rfl ?_;refine ⟨rfl,?_⟩
  repeat' (first | exact hb1 | refine Below.setCell ?_ ?_ _ | refine Below.alloc ?_ ?_ _ | exact aoG _ | exact Below.refl _ _ | simp)
 ·have h1:0<n:=af
  have HD:Hid ((decide (0<n) && !s) = !s):=Lib.hid (by rw [decide_eq_true h1];rfl);rw [HD.out]
  go_enter Tryz.func139,Tryz.ntmps139
  go_wp2_with fail
  refine bodyPost_ret (v := .agg #[.bool (!s),.slice A n c,.slice A' m c']) (by simp [results,Tryz.results139,go_sem]) rfl ?_;refine ⟨rfl,?_⟩
  repeat' (first | exact hb1 | refine Below.setCell ?_ ?_ _ | refine Below.alloc ?_ ?_ _ | exact aoG _ | exact Below.refl _ _ | simp)
end Go.Proofs.BGQ
