/- Part of a proof, said shortly. -/
import Derived.Deep.RegionWith
import Derived.Deep.DeepCutAuto
import Derived.Test.YtkcpphebkmnonaaGreatDoorAlzb
import Derived.Test.YtkcpphebkmnonaaGreatDoorC7b
import Derived.Test.YtkcpphebkmnonaaGreatDoorC6b
import Derived.Test.YtkcpphebkmnonaaGreatDoorC5b
import Derived.Test.YtkcpphebkmnonaaGreatDoorC1b
import Derived.Test.YtkcpphebkmnonaaGreatDoorC2b
import Derived.Test.YtkcpphebkmnonaaGreatDoorC3b
import Derived.Test.YtkcpphebkmnonaaGreatDoorC4b
namespace Lw
theorem Tm(N M:Nat):Nat.gcd M (N%M)=Nat.gcd N M:=by rw [awI N M,Nat.gcd_rec M N,awI]
end Lw
namespace Go.Proofs.BGQ
open Go Go.RowKit Lw
theorem SC{p:Prop}(h:p:=by
  go_wp2_with fail
  obtain ⟨G,hG⟩ : ∃ G,G=Nat.gcd N M:=⟨_,rfl⟩;have HG:=Lib.hid hG;clear hG
  go_loopw [0,1] (fun a b wr => ∃ (X Y x y d d':Nat) (D D':Option Addr),a = .slice D x d/\b = .slice D' y d'/\Rd wr wr.heap.size D (bn X)/\Rd wr wr.heap.size D' (bn Y)/\Hid ((bn X).length=x/\(bn Y).length=y)/\x<=8388608/\y<=x/\x<=d/\y<=d'/\Hid (Y<=X)/\Hid (Nat.gcd X Y=G)/\Below w.heap.size w wr) (fun a b wr=>rdv wr a+rdv wr b)
  case atStart=>exact ⟨N,M,n,m,c,c',A,A',rfl,rfl,(h.drewN q).more (by simpa using hB),(h'.drewN q).more (by simpa using hB'),Lib.hid ⟨Hn.out,Hm.out⟩,hl,hmn,hc,hc',EP,Lib.hid HG.out.symm,below_drewN' _ _ _⟩
  case round =>
   obtain ⟨X,Y,x,y,d,d',D,D',rfl,rfl,hr1,hr2,hxy,hx,hyx,hxd,L9,Ld,hg,hbw⟩:=hrel;have RX:=Lib.hid (zM (c:=d) hr1 hxy.out.1);have RY:=Lib.hid (zM (c:=d') hr2 hxy.out.2)
   by_cases h2:y<=2
   ·by_cases h0:y=0
    ·subst h0
     have HM:Hid (G=X):=Lib.hid (by rw [<- hg.out,jM.1 (awc hxy.out.2),axC])
     go_wp2_with fail
     refine (clone_any D (bn X) _ _ _ _ hr1 (avW _) hxy.out.1 af).mono ?_;rintro e w2 ⟨A1,c1,rfl,hc1,hg1,hr3,hb1⟩
     go_wp2_with fail
     go_ret
     rw [<- HG.out,HM.out];exact ⟨A1,c1,lF hxy.out.1.symm,by rw [hxy.out.1];exact hc1,hr3,bP hbw hb1 (avW _)⟩
    ·have hbq:((y:Int)==0)=false:=by rw [beq_eq_false_iff_ne];omega
     have hM0:Y≠0:=by intro e;subst e;exact h0 (by rw [<- hxy.out.2];rfl)
     have wX:=Lib.hid hM0;clear h0 hM0
     go_wp2_with fail
     refine (KD D D' X Y _ _ d d' _ _ _ hr1 hr2 (avW _) (avW _) hxy.out.1 hxy.out.2 af af hxd L9 wX.out (.inr MH)).mono ?_;rintro e w2 ⟨A3,c3,A4,c4,rfl,hc3,hc4,hr3,hr4,hb3⟩;have hb4:=bP hbw hb3 (avW _);have hM2:Y<=18446744073709551615:=by have:=rZ (n:=Y) (k:=2) (by rw [hxy.out.2];exact h2);have h3:pw 2=18446744073709551616:=rfl;omega
     have hR2:X%Y<Y:=av6 _ (by have:=wX.out;omega);have PZ:Hid (Nat.gcd Y (X%Y)=G):=Lib.hid (by rw [Tm,hg.out]);have LG:(bn (X%Y)).length<=2:=iy (k:=2) (by have h3:pw 2=18446744073709551616:=rfl;omega);have Jz:Hid (lo (bn Y) 2=Y):=Lib.hid (by rw [dF (by rw [hxy.out.2];exact h2),bQ]);have P9:Hid (lo (bn (X%Y)) 2=X%Y):=Lib.hid (by rw [dF LG,bQ]);obtain ⟨R,hR⟩ : ∃ R,R=X%Y:=⟨_,rfl⟩;rw [<- hR] at hr4 hc4 PZ LG P9 hR2 ⊢;clear hR;obtain ⟨Q,hQ⟩ : ∃ Q,Q=X/Y:=⟨_,rfl⟩;rw [<- hQ] at hr3 hc3 ⊢;clear hQ
     go_wp2_with fail
     refine (Gu D' (bn Y) _ d' _ _ (hr2.below hb3) hxy.out.2 af).mono ?_;rintro e w3 ⟨rfl,rfl⟩;rw [Jz.out]
     go_wp2_with fail
     refine (Gu A4 (bn R) _ c4 _ _ hr4 rfl af).mono ?_;rintro e w3 ⟨rfl,rfl⟩;rw [P9.out]
     go_wp2_with fail
     refine (aje Y R _ hM2 af).mono ?_;rintro e w3 ⟨rfl,q3,rfl⟩;rw [PZ.out]
     have hgl:G<=18446744073709551615:=by
      rw [<- hg.out];exact avX (Nat.gcd_le_right _ (by have:=wX.out;omega)) hM2
     go_wp2_with fail
     refine (Ad G _ hgl).mono ?_;rintro e w5 ⟨A5,c5,rfl,hc5,kH,hb5⟩
     go_wp2_with fail
     go_ret
     rw [<- HG.out];exact ⟨A5,c5,rfl,hc5,kH,bP (hb4.trans (below_drewN' _ _ _)) hb5 (by simp)⟩
   ·obtain ⟨k,rfl⟩ : ∃ k,x=k+3:=⟨x-3,af⟩
    have hY0:Hid (0<Y):=Lib.hid (by
     rcases av' Y with e | e
     ·exfalso;have:=hxy.out.2;rw [e] at this;have e2:(bn 0).length=0:=rfl;omega
     ·exact e)
    go_wp2_with fail
    refine (ac9 D D' X Y k y d d' _ _ _ hr1 hr2 (avW _) (avW _) hxy.out.1 hxy.out.2 af Ld.out).mono ?_;rintro e w2 ⟨u0,u1,v0,v1,o,rfl,hb2,hst⟩;have HST:=Lib.hid hst;clear hst
    by_cases hv:v0=0
    ·subst hv
     replace hb2:=hb2.alloc hb2.size (.cells #[.int .u64 (u0:Int),.int .u64 (u1:Int),.int .u64 0,.int .u64 (v1:Int),.bool o] 171);have hr1':=hr1.below hb2;have hr2':=hr2.below hb2
     go_wp2_with fail
     refine (KD D D' X Y _ _ d d' _ _ _ hr1' hr2' hb2.size hb2.size hxy.out.1 hxy.out.2 af af hxd L9 (by have:=hY0.out;omega) (.inr MH)).mono ?_;rintro e w3 ⟨A3,c3,A4,c4,rfl,hc3,hc4,hr3,hr4,hb3⟩
     go_wp2_with fail
     have hb5:=bP hbw (hb2.trans (hb3.mono hb2.size)) (avW _)
     go_roundw
     case rel =>
      exact ⟨Y,X%Y,y,_,d',c4,D',A4,rfl,rfl,(hr2'.below (hb3.mono hb2.size)).more (avX hb2.size hb3.size),hr4,Lib.hid ⟨hxy.out.2,rfl⟩,af,by rw [<- hxy.out.2];exact BR (awg (av6 _ hY0.out)),L9,hc4,Lib.hid (awg (av6 _ hY0.out)),Lib.hid (by rw [Tm,hg.out]),hb5⟩
     case measure =>
      show rdv _ _+rdv _ _<rdv _ _+rdv _ _;rw [RX.out,RY.out,zM hr4 rfl,zM (hr2'.below (hb3.mono hb2.size)) hxy.out.2,bQ,bQ,bQ];have h1:=av6 X hY0.out;have h2:=Ld.out;omega
    ·have hv1:((v0:Int)==0)=false:=by rw [beq_eq_false_iff_ne];omega
     replace hb2:=hb2.alloc hb2.size (.cells #[.int .u64 (u0:Int),.int .u64 (u1:Int),.int .u64 (v0:Int),.int .u64 (v1:Int),.bool o] 171);have hr1':=hr1.below hb2;have hr2':=hr2.below hb2
     go_wp2_with fail
     refine (aaS D D' X Y (k+3) y d d' _ _ u0 u1 v0 v1 o _ hr1' hr2' hb2.size hb2.size hxy.out.1 hxy.out.2 af hyx hv HST.out).mono ?_;rintro e w3 ⟨r1,r2,⟨A3,c3,A4,c4,rfl,hc3,hc4,hr3,hr4,hb3⟩,hle,hgg,Us,hsum⟩;have HH:=Lib.hid (And.intro hle (And.intro hgg (And.intro Us hsum)));clear hle hgg Us hsum
     go_wp2_with fail
     have hb5:=bP hbw (hb2.trans (hb3.mono hb2.size)) (avW _)
     go_roundw
     case rel =>
      exact ⟨r1,r2,_,_,c3,c4,A3,A4,rfl,rfl,hr3,hr4,Lib.hid ⟨rfl,rfl⟩,avX (BR HH.out.2.2.1) (by rw [hxy.out.1];exact hx),BR HH.out.1,hc3,hc4,Lib.hid HH.out.1,Lib.hid (by rw [HH.out.2.1,hg.out]),hb5⟩
     case measure =>
      show rdv _ _+rdv _ _<rdv _ _+rdv _ _;rw [RX.out,RY.out,zM hr3 rfl,zM hr4 rfl,bQ,bQ,bQ,bQ];have h1:=HH.out.2.2.2;have h2:=hY0.out;omega):p:=h
set_option maxRecDepth 100000 in
set_option maxHeartbeats 6400000 in
theorem aco(A A':Option Addr)(N M n m c c' B B':Nat)(w:World)(h:Rd w B A (bn N))(h':Rd w B' A' (bn M))(hB:B<=w.heap.size)(hB':B'<=w.heap.size)(hn:(bn N).length=n)(hm:(bn M).length=m)(hl:n<=8388608)(hc:n<=c)(hc':m<=c')(lT:M<=N) :
  Calls Tryz.prog 172 #[.slice A n c,.slice A' m c'] w (pY w (Nat.gcd N M)):=by
 have vN:=bQ N;have vM:=bQ M;have hmn:m<=n:=by rw [<- hn,<- hm];exact BR af
 have Hn:=Lib.hid hn;have Hm:=Lib.hid hm;have VN:=Lib.hid vN;have VM:=Lib.hid vM;have hcm:=Fp lT;have Cj:M<=N:=af;have EP:=Lib.hid Cj;clear hn hm vN vM lT Cj
 go_enter Tryz.func172,Tryz.ntmps172
 go_wp2_with fail
 refine (qg A A' (bn N) (bn M) _ _ _ _ B B' _ h h' (iF _) (iF _) Hn.out Hm.out af af).mono ?_;rintro e w1 ⟨rfl,q,rfl⟩;rw [VN.out,VM.out];exact SC
set_option maxRecDepth 100000 in
set_option maxHeartbeats 6400000 in
theorem acp(A A':Option Addr)(N M n m c c' B B':Nat)(w:World)(h:Rd w B A (bn N))(h':Rd w B' A' (bn M))(hB:B<=w.heap.size)(hB':B'<=w.heap.size)(hn:(bn N).length=n)(hm:(bn M).length=m)(hl:n<=8388608)(hc:n<=c)(hc':m<=c')(lT:M<N) :
  Calls Tryz.prog 172 #[.slice A' m c',.slice A n c] w (pY w (Nat.gcd N M)):=by
 have vN:=bQ N;have vM:=bQ M;have hmn:m<=n:=by rw [<- hn,<- hm];exact BR af
 have Hn:=Lib.hid hn;have Hm:=Lib.hid hm;have VN:=Lib.hid vN;have VM:=Lib.hid vM;have hcm:=Fj lT;have Cj:M<=N:=af;have EP:=Lib.hid Cj;clear hn hm vN vM lT Cj
 go_enter Tryz.func172,Tryz.ntmps172
 go_wp2_with fail
 refine (qg A' A (bn M) (bn N) _ _ _ _ B' B _ h' h (iF _) (iF _) Hm.out Hn.out af af).mono ?_;rintro e w1 ⟨rfl,q,rfl⟩;rw [VM.out,VN.out];exact SC
attribute [local go_sem ↓] Go.wp_at_zero Go.wp_at_succ
theorem acn(A A':Option Addr)(N M n m c c' B B':Nat)(w:World)(h:Rd w B A (bn N))(h':Rd w B' A' (bn M))(hB:B<=w.heap.size)(hB':B'<=w.heap.size)(hn:(bn N).length=n)(hm:(bn M).length=m)(hl:n<=8388608)(hl':m<=8388608)(hc:n<=c)(hc':m<=c') :
  Calls Tryz.prog 172 #[.slice A n c,.slice A' m c'] w (pY w (Nat.gcd N M)):=by
 rcases av3 N M with h1 | h1
 ·rw [awI]
  exact acp A' A M N m n c' c B' B w h' h hB' hB hm hn hl' hc' hc h1
 ·exact aco A A' N M n m c c' B B' w h h' hB hB' hn hm hl hc hc' h1
set_option maxHeartbeats 3200000 in
theorem Tu(s s':Bool)(A A':Option Addr)(ns ms:List Nat)(n m c c' B B':Nat)(w:World)(h:Rd w B A ns)(h':Rd w B' A' ms)(hB:B<=w.heap.size)(hB':B'<=w.heap.size)(hn:ns.length=n)(hm:ms.length=m)(hl:n<=8388608)(hl':m<=8388608)(hc:n<=c)(hc':m<=c') :
  Calls Tryz.prog 137 #[.agg #[.bool s,.slice A n c],.agg #[.bool s',.slice A' m c']] w (kY w ((Nat.gcd (zv s ns).natAbs (zv s' ms).natAbs:Nat):Int)):=by
 have hlz:=kX (s:=s) h.bU;have hlz':=kX (s:=s') h'.bU;rw [hn] at hlz;rw [hm] at hlz'
 go_enter Tryz.func137,Tryz.ntmps137
 go_upto_region 1 with fail
 obtain ⟨T1,T2,T3,_,hb0⟩:=dm (Below.refl _ (((w.alloc (.cells #[.bool s,.slice A n c] 79)).alloc (.cells #[.bool s',.slice A' m c'] 79)).alloc (.cells #[.bool false,.slice none 0 0] 79)));have R1:=h.below (hb0.mono hB);have R2:=h'.below (hb0.mono hB');generalize hW:(((w.alloc (.cells #[.bool s,.slice A n c] 79)).alloc (.cells #[.bool s',.slice A' m c'] 79)).alloc (.cells #[.bool false,.slice none 0 0] 79))=W at *;clear hW;have l3:=T3.lt;obtain ⟨c10,c11,f10,f11⟩:=T1.facts;obtain ⟨c20,c21,f20,f21⟩:=T2.facts
 go_cut [] (fun wc => ∃ A1 c1 A2 c2,Two wc w.heap.size 79 (.bool (sg (zv s ns))) (.slice A1 (mg (zv s ns)).length c1)/\Two wc (w.heap.size+1) 79 (.bool (sg (zv s' ms))) (.slice A2 (mg (zv s' ms)).length c2) /\
  Two wc (w.heap.size+1+1) 79 (.bool false) (.slice none 0 0)/\Rd wc B A1 (mg (zv s ns))/\Rd wc B' A2 (mg (zv s' ms))/\Below w.heap.size w wc/\(mg (zv s ns)).length<=c1/\(mg (zv s' ms)).length<=c2)
 case first=>exact Iz
 case rest =>
  obtain ⟨A1,c1,A2,c2,Q1,Q2,Q3,r1,r2,hbc,hc1,hc2⟩:=hcut;clear T1 T2 T3 R1 R2 hb0 l3 c10 c11 c20 c21 f10 f11 f20 f21;obtain ⟨c10,c11,f10,f11⟩:=Q1.facts;obtain ⟨c20,c21,f20,f21⟩:=Q2.facts
  go_wp2_with fail
  refine (acn A1 A2 (zv s ns).natAbs (zv s' ms).natAbs _ _ c1 c2 B B' _ r1 r2 (by have:=hbc.size;omega) (by have:=hbc.size;omega) rfl rfl (avX hlz hl) (avX hlz' hl') hc1 hc2).mono ?_;rintro e w3 ⟨A3,c3,rfl,hc3,hr3,hb3⟩;have U3:=Q3.next hb3;generalize Nat.gcd (zv s ns).natAbs (zv s' ms).natAbs=G at *
  go_wp2_with fail
  refine (lG false A3 G _ c3 _ (G:Int) _ hr3 (avW _) rfl hc3 rfl).mono ?_;rintro e w4 ⟨A4,c4,rfl,hc4,hr4,hb4⟩;have V3:=U3.next hb4;obtain ⟨d0,d1,g0,g1⟩:=V3.facts;have hsz3:=hb3.size;have aeP:=hbc.size
  go_wp2_with fail
  refine bodyPost_ret (v := .agg #[.bool (sg (G:Int)),.slice A4 (mg (G:Int)).length c4]) (by simp [results,Tryz.results137,go_sem,d0,d1]) rfl ?_;exact iY V3 hr4 hb4.size hc4 (bP (bP hbc hb3 (avW _)) hb4 af) af
end Go.Proofs.BGQ
namespace Lw
open Go Go.RowKit
theorem Vh{x y:Int}{k:Nat}(hy:y≠0)(h:x.natAbs<pw k):(x/y).natAbs<pw (k+1):=by
 have h1:=Int.emod_add_mul_ediv x y;have h2:=Int.emod_nonneg x hy;have h3:=Int.emod_lt x hy
 have h4:y.natAbs*(x/y).natAbs=(x-x%y).natAbs:=by
  rw [<- awC];congr 1;omega
 have h5:(x-x%y).natAbs+1<=x.natAbs+y.natAbs:=af
 have hq:(x/y).natAbs<=x.natAbs+1:=by
  generalize (x/y).natAbs=q at *;generalize y.natAbs=d at *;refine Nat.le_of_not_lt fun hlt => ?_;have hd:1<=d:=af;have h6:d*(x.natAbs+2)<=d*q:=av9 _ hlt;have h7:1*x.natAbs<=d*x.natAbs:=av8 _ hd;rw [avZ] at h6;omega
 have:=kK k;rw [fB];omega
theorem Vk{x y:Int}{k:Nat}(hy:y≠0)(h:y.natAbs<pw k):(x%y).natAbs<pw k:=by
 have h2:=Int.emod_nonneg x hy;have h3:=Int.emod_lt x hy;omega
theorem afp{x y k k':Nat}(h:x<pw k)(h':y<pw k'):((Nat.gcd x y:Nat):Int).natAbs<pw (k+k'):=by
 rw [av2];have h1:pw k<=pw (k+k'):=fM af;have h2:pw k'<=pw (k+k'):=fM af;rcases av' x with e | e
 ·subst e;rw [axo];omega
 ·have:=axk y e;omega
end Lw
namespace Go.Proofs.BGQ
open Go Go.RowKit Lw
section
variable {t:TypeId} {W0 w:World} {bs:List Bx} {L:List En} {v v':Value} {x y:Int} {k k':Nat} {b b':Bool}
theorem DI{w:World}{z:Int}{K:Nat}{A:Option Addr}{c:Nat}(hr:Rd w w.heap.size A (mg z))(hc:(mg z).length<=c)(hz:z.natAbs<pw K):dK w ⟨.agg #[.bool (sg z),.slice A (mg z).length c],z,K,true⟩ :=
 ⟨sg z,A,_,c,mg z,_,rfl,hr,avW _,rfl,qp hz,hc,uK z,qN z⟩
theorem ach(HE:Env t W0 w bs L)(h:⟨v,x,k,b⟩∈L)(h':⟨v',y,k',b'⟩∈L)(hk:k+k'<=100000)(hy:y≠0) :
  Calls Tryz.prog 173 #[v,v'] w fun e w' => ∃ (s s':Bool) (D D':Option Addr) (m d m' d':Nat),e = .returned (.tuple #[.agg #[.bool s,.slice D m d],.agg #[.bool s',.slice D' m' d'],.nilIface])/\Env t W0 w' bs (⟨.agg #[.bool s,.slice D m d],x/y,k+1,true⟩::⟨.agg #[.bool s',.slice D' m' d'],x%y,k',true⟩::L):=by
 have H1:=HE.ops _ h;have H2:=HE.ops _ h';have hz:=Vh hy H1.lt;have hz':=Vk (x:=x) hy H2.lt;obtain ⟨s,A,n,c,ns,B,e1,h2,h3,h4,h5,h6,e7,h8⟩:=H1;obtain ⟨s',A',n',c',ns',B',e1',h2',h3',h4',h5',h6',fK,h8'⟩:=H2;dsimp only at e1 e7 e1' fK h5 h5' hz hz';subst e1 e1' e7 fK;refine (acr s s' A A' ns ns' n n' c c' B B' w h2 h2' h3 h3' h4 h4' af af h6 h6' hy (.inr MH)).mono fun e w' hh => ?_;obtain ⟨A3,c3,A4,c4,rfl,hc3,hc4,hr3,hr4,hb⟩:=hh;exact ⟨_,_,_,_,_,_,_,_,rfl,((HE.next hb).cons (DI hr4 hc4 hz')).cons (DI hr3 hc3 hz)⟩
theorem adv(HE:Env t W0 w bs L)(h:⟨v,x,k,b⟩∈L)(h':⟨v',y,k',b'⟩∈L)(hk:k+k'<=100000) :
  Calls Tryz.prog 137 #[v,v'] w fun e w' => ∃ (s:Bool) (D:Option Addr) (m d:Nat),e = .returned (.agg #[.bool s,.slice D m d])/\Env t W0 w' bs (⟨.agg #[.bool s,.slice D m d],((Nat.gcd x.natAbs y.natAbs:Nat):Int),k+k',true⟩::L):=by
 have H1:=HE.ops _ h;have H2:=HE.ops _ h';have hz:=afp H1.lt H2.lt;obtain ⟨s,A,n,c,ns,B,e1,h2,h3,h4,h5,h6,e7,h8⟩:=H1;obtain ⟨s',A',n',c',ns',B',e1',h2',h3',h4',h5',h6',fK,h8'⟩:=H2;dsimp only at e1 e7 e1' fK h5 h5' hz;subst e1 e1' e7 fK;refine (Tu s s' A A' ns ns' n n' c c' B B' w h2 h2' h3 h3' h4 h4' af af h6 h6').mono fun e w' hh => ?_;obtain ⟨A3,c3,rfl,hc3,hr3,hb⟩:=hh;exact ⟨_,_,_,_,rfl,(HE.next hb).cons (DI hr3 hc3 hz)⟩
end
end Go.Proofs.BGQ
namespace Lw
open Go Go.RowKit
def cp(ns ms:List Nat):Bool:=Nat.gcd (val ns) (val ms)==1
def fV(s:Bool)(ns ms:List Nat):Bool:=if ns.length=0\/ms.length=0 then decide (ns.length=ms.length) && !s else vB false ns&&(vB false ms&&cp ns ms)
theorem abP{ns ms:List Nat}(h:ns=[1]):cp ns ms=true:=by
 subst h;unfold cp;rw [show val [1]=1 from rfl,Nat.gcd_one_left];rfl
theorem abQ{ns ms:List Nat}(h:ms=[1]):cp ns ms=true:=by
 subst h;unfold cp;rw [show val [1]=1 from rfl,Nat.gcd_one_right];rfl
theorem Eo{l:List Nat}{n:Nat}(t:eP l)(hn:l.length=n)(h:1<=n):val l≠0:=by
 have:=Iu t (by intro e;rw [e] at hn;simp at hn;omega);omega
theorem YT{l:List Nat}{n:Nat}(t:eP l)(hn:l.length=n)(h:1<=n):vB false l=true:=by
 unfold vB;rw [if_neg af,bne_iff_ne];refine t _ ?_;rw [axh,xu af]
theorem Y9{l:List Nat}{n:Nat}(t:eP l)(hn:l.length=n)(h:1<=n):zv false l=(val l:Int):=by
 unfold zv;rw [YT t hn h];rfl
theorem RS{g:Nat} : bn g=[1]↔g=1:=by
 constructor
 ·intro h
  have:=bQ g;rw [h] at this;exact this.symm
 ·intro h
  subst h;exact FB af af
end Lw
namespace Go.Proofs.BGQ
open Go Go.RowKit Lw
theorem KL(s:Bool)(A:Option Addr)(n c:Nat)(w:World):Sem.run Tryz.prog (Instr.field 79 (.agg #[.bool s,.slice A n c]) 1) w = .ok (.slice A n c) w:=ah
theorem zx(A:Option Addr)(ns:List Nat)(n c B:Nat)(w:World)(h:Rd w B A ns)(hn:ns.length=n)(hl:n<=16777216) :
  Calls Tryz.prog 93 #[.slice A n c] w fun e w'=>e = .returned (.bool (decide (ns=[1])))/\Below w.heap.size w w':=by
 refine (ae8 A ns n c B w h hn hl).mono ?_;rintro e w' ⟨rfl,q,rfl⟩;exact ⟨rfl,below_drewN' _ _ q⟩
theorem UX(A:Option Addr)(ns:List Nat)(n c B:Nat)(w:World)(h:Rd w B A ns)(hn:ns.length=n)(h1:1<=n)(h2:n<=2) :
  Calls Tryz.prog 147 #[.slice A n c] w fun e w'=>e = .returned (.int .u64 (val ns:Int))/\Below w.heap.size w w':=by
 refine (afe A ns n c B w h hn h1 h2).mono ?_;rintro e w' ⟨rfl,q,rfl⟩;exact ⟨rfl,below_drewN' _ _ q⟩
theorem acZ(x y:Nat)(w:World)(hx:x<=18446744073709551615)(hy:y<=18446744073709551615)(hx0:x≠0)(hy0:y≠0)(ht:Tz w) :
  Calls Tryz.prog 133 #[.int .u64 x,.int .u64 y] w fun e w'=>e = .returned (.int .u64 (Nat.gcd x y:Nat))/\Below w.heap.size w w':=by
 refine (SH x y w hx hy hx0 hy0 ht).mono ?_;rintro e w' ⟨rfl,q,rfl⟩;exact ⟨rfl,below_drewN' _ _ q⟩
set_option maxRecDepth 100000 in
set_option maxHeartbeats 3200000 in
theorem abO(A A':Option Addr)(ns ms:List Nat)(n m c c' B B':Nat)(w:World)(h:Rd w B A ns)(h':Rd w B' A' ms)(hB:B<=w.heap.size)(hB':B'<=w.heap.size)(hn:ns.length=n)(hm:ms.length=m)(hl:n<=8388608)(hl':m<=8388608)(hc:n<=c)(hc':m<=c')(ht:Tz w)(tn:eP ns)(tm:eP ms)(h1:1<=n)(h2:1<=m) :
  Calls Tryz.prog 102 #[.slice A n c,.slice A' m c'] w fun e w'=>e = .returned (.bool (cp ns ms))/\Below w.heap.size w w':=by
 have hone:=fun W hR=>zx A ns n c B W hR hn af;have hone':=fun W hR=>zx A' ms m c' B' W hR hm af
 by_cases e1:ns=[1]
 ·have HC:=Lib.hid (abP (ms:=ms) e1)
  rw [decide_eq_true e1] at hone;have HO:=Lib.hid hone;clear hone hone' e1 hn hm
  go_enter auN,auO
  go_wp2_with fail
  refine (HO.out _ h).mono ?_;rintro e w1 ⟨rfl,hb1⟩
  go_wp2_with fail
  go_ret
  exact ⟨by rw [HC.out];rfl,hb1⟩
 by_cases e2:ms=[1]
 ·have HC:=Lib.hid (abQ (ns:=ns) e2)
  rw [decide_eq_false e1] at hone;rw [decide_eq_true e2] at hone';have HO:=Lib.hid hone;have yO:=Lib.hid hone';clear hone hone' e1 e2 hn hm
  go_enter auN,auO
  go_wp2_with fail
  refine (HO.out _ h).mono ?_;rintro e w1 ⟨rfl,hb1⟩
  go_wp2_with fail
  refine (yO.out _ (h'.next hb1 hB')).mono ?_;rintro e w2 ⟨rfl,hb2⟩;have jD:=bP hb1 hb2 (avW _)
  go_wp2_with fail
  go_ret
  exact ⟨by rw [HC.out];rfl,jD⟩
 rw [decide_eq_false e1] at hone;rw [decide_eq_false e2] at hone';have HO:=Lib.hid hone;have yO:=Lib.hid hone';have HT:=Lib.hid ht
 by_cases hs:n<=2/\m<=2
 ·obtain ⟨hs1,hs2⟩:=hs
  have hj:=fun W hR=>UX A ns n c B W hR hn h1 hs1;have hj':=fun W hR=>UX A' ms m c' B' W hR hm h2 hs2;have hx:=Eo tn hn h1;have hy:=Eo tm hm h2
  have hxl:val ns<=18446744073709551615:=by
   have h3:=fG h.bU;have h4:pw ns.length<=pw 2:=fM af;have h5:pw 2=18446744073709551616:=rfl;omega
  have hyl:val ms<=18446744073709551615:=by
   have h3:=fG h'.bU;have h4:pw ms.length<=pw 2:=fM af;have h5:pw 2=18446744073709551616:=rfl;omega
  have hd:=fun W hW=>acZ (val ns) (val ms) W hxl hyl hx hy hW;obtain ⟨g,hg⟩ : ∃ g,g=Nat.gcd (val ns) (val ms):=⟨_,rfl⟩;rw [<- hg] at hd;have HC:Hid (((g:Int)==1)=cp ns ms):=Lib.hid (by unfold cp;rw [<- hg,Bool.eq_iff_iff,beq_iff_eq,beq_iff_eq];omega);have HJ:=Lib.hid hj;have ZP:=Lib.hid hj';have HD:=Lib.hid hd;clear hone hone' e1 e2 hn hm hj hj' hd hg hx hy hxl hyl ht
  go_enter auN,auO
  go_wp2_with fail
  refine (HO.out _ h).mono ?_;rintro e w1 ⟨rfl,hb1⟩
  go_wp2_with fail
  refine (yO.out _ (h'.next hb1 hB')).mono ?_;rintro e w2 ⟨rfl,hb2⟩;have jD:=bP hb1 hb2 (avW _)
  go_wp2_with fail
  refine (HJ.out _ (h.next jD hB)).mono ?_;rintro e w3 ⟨rfl,hb3⟩;have Uc:=bP jD hb3 (avW _)
  go_wp2_with fail
  refine (ZP.out _ (h'.next Uc hB')).mono ?_;rintro e w4 ⟨rfl,hb4⟩;have Ud:=bP Uc hb4 (avW _)
  go_wp2_with fail
  refine (HD.out _ (HT.out.next Ud)).mono ?_;rintro e w5 ⟨rfl,hb5⟩
  go_wp2_with fail
  go_ret
  exact ⟨congrArg (fun b=>Ending.returned (Value.bool b)) HC.out,bP Ud hb5 (avW _)⟩
 ·have hgc:=fun W hR hR' hb hb'=>Tu false false A A' ns ms n m c c' B B' W hR hR' hb hb' hn hm hl hl' hc hc'
  rw [Y9 tn hn h1,Y9 tm hm h2,av2,av2] at hgc;obtain ⟨g,hg⟩ : ∃ g,g=Nat.gcd (val ns) (val ms):=⟨_,rfl⟩;rw [<- hg] at hgc;have HC:Hid (decide (mg (g:Int)=[1])=cp ns ms):=Lib.hid (by unfold cp mg;rw [<- hg,av2,Bool.eq_iff_iff,decide_eq_true_iff,beq_iff_eq,RS])
  have hgl:(mg (g:Int)).length<=16777216:=by
   unfold mg;rw [av2,hg];refine avX (iy (k:=n) ?_) af;exact awh (axk _ (awZ (Eo tn hn h1))) (by rw [<- hn];exact fG h.bU)
  have HG:=Lib.hid hgc;clear hone hone' e1 e2 hn hm hgc hg ht;have hs':2<n\/2<m:=af;clear hs;rcases hs' with hs | hs
  ·go_enter auN,auO
   go_wp2_with fail
   refine (HO.out _ h).mono ?_;rintro e w1 ⟨rfl,hb1⟩
   go_wp2_with fail
   refine (yO.out _ (h'.next hb1 hB')).mono ?_;rintro e w2 ⟨rfl,hb2⟩;have jD:=bP hb1 hb2 (avW _)
   go_wp2_with fail
   refine (HG.out _ (h.next jD hB) (h'.next jD hB') (avX hB jD.size) (avX hB' jD.size)).mono ?_;rintro e w3 ⟨A9,c9,rfl,dZ,fF,lW⟩;have hfld:=KL (sg (g:Int)) A9 (mg (g:Int)).length c9 w3
   go_wp2_with fail
   refine (zx A9 (mg (g:Int)) _ c9 _ _ fF rfl hgl).mono ?_;rintro e w4 ⟨rfl,hb4⟩
   go_wp2_with fail
   go_ret
   exact ⟨congrArg (fun b=>Ending.returned (Value.bool b)) HC.out,bP (bP jD lW (avW _)) hb4 (avW _)⟩
  ·by_cases hn2:n<=2
   ·go_enter auN,auO
    go_wp2_with fail
    refine (HO.out _ h).mono ?_;rintro e w1 ⟨rfl,hb1⟩
    go_wp2_with fail
    refine (yO.out _ (h'.next hb1 hB')).mono ?_;rintro e w2 ⟨rfl,hb2⟩;have jD:=bP hb1 hb2 (avW _)
    go_wp2_with fail
    refine (HG.out _ (h.next jD hB) (h'.next jD hB') (avX hB jD.size) (avX hB' jD.size)).mono ?_;rintro e w3 ⟨A9,c9,rfl,dZ,fF,lW⟩;have hfld:=KL (sg (g:Int)) A9 (mg (g:Int)).length c9 w3
    go_wp2_with fail
    refine (zx A9 (mg (g:Int)) _ c9 _ _ fF rfl hgl).mono ?_;rintro e w4 ⟨rfl,hb4⟩
    go_wp2_with fail
    go_ret
    exact ⟨congrArg (fun b=>Ending.returned (Value.bool b)) HC.out,bP (bP jD lW (avW _)) hb4 (avW _)⟩
   ·have hn3:2<n:=af
    go_enter auN,auO
    go_wp2_with fail
    refine (HO.out _ h).mono ?_;rintro e w1 ⟨rfl,hb1⟩
    go_wp2_with fail
    refine (yO.out _ (h'.next hb1 hB')).mono ?_;rintro e w2 ⟨rfl,hb2⟩;have jD:=bP hb1 hb2 (avW _)
    go_wp2_with fail
    refine (HG.out _ (h.next jD hB) (h'.next jD hB') (avX hB jD.size) (avX hB' jD.size)).mono ?_;rintro e w3 ⟨A9,c9,rfl,dZ,fF,lW⟩;have hfld:=KL (sg (g:Int)) A9 (mg (g:Int)).length c9 w3
    go_wp2_with fail
    refine (zx A9 (mg (g:Int)) _ c9 _ _ fF rfl hgl).mono ?_;rintro e w4 ⟨rfl,hb4⟩
    go_wp2_with fail
    go_ret
    exact ⟨congrArg (fun b=>Ending.returned (Value.bool b)) HC.out,bP (bP jD lW (avW _)) hb4 (avW _)⟩
end Go.Proofs.BGQ
namespace Lw
open Go Go.RowKit
theorem acP{s:Bool}{ns ms:List Nat}{n m:Nat}(hn:ns.length=n)(hm:ms.length=m)(h:n=0)(h':m=0):fV s ns ms = !s:=by
 unfold fV;rw [if_pos (.inl af),decide_eq_true af];rfl
theorem KI{s:Bool}{ns ms:List Nat}{n m:Nat}(hn:ns.length=n)(hm:ms.length=m)(h:n=0\/m=0)(h':n≠m):fV s ns ms=false:=by
 unfold fV;rw [if_pos af,decide_eq_false af];rfl
theorem KG{s:Bool}{ns ms:List Nat}{n m:Nat}(hn:ns.length=n)(hm:ms.length=m)(h:1<=n)(h':1<=m):fV s ns ms=(vB false ns&&(vB false ms&&cp ns ms)):=by
 unfold fV;rw [if_neg af]
theorem Iw{l:List Nat}(h:vB false l=true):eP l:=YV h
end Lw
namespace Go.Proofs.BGQ
open Go Go.RowKit Lw
set_option maxRecDepth 100000 in
set_option maxHeartbeats 3200000 in
theorem Tc(s:Bool)(A A':Option Addr)(ns ms:List Nat)(n m c c' B B':Nat)(w:World)(h:Rd w B A ns)(h':Rd w B' A' ms)(hB:B<=w.heap.size)(hB':B'<=w.heap.size)(hn:ns.length=n)(hm:ms.length=m)(hl:n<=8388608)(hl':m<=8388608)(hc:n<=c)(hc':m<=c')(ht:Tz w) :
  Calls Tryz.prog 56 #[.agg #[.bool s,.slice A n c,.slice A' m c']] w fun e w'=>e = .returned (.bool (fV s ns ms))/\Below w.heap.size w w':=by
 have hb1:=(Below.refl w.heap.size w).alloc (avW _) (.cells #[.bool s,.slice A n c,.slice A' m c'] 24);obtain ⟨e0,e1,e2,e3,e4,e5⟩:=(cZ.new w 24 (.bool s) (.slice A n c) (.slice A' m c')).cells
 by_cases h0:n=0
 ·by_cases h0':m=0
  ·have HV:=Lib.hid (acP (s:=s) hn hm h0 h0')
   subst h0 h0';clear hn hm ht
   go_enter avx,avy
   go_wp2_with fail
   go_ret
   exact ⟨congrArg (fun b=>Ending.returned (Value.bool b)) HV.out.symm,hb1⟩
  ·have HV:=Lib.hid (KI (s:=s) hn hm (.inl h0) af)
   have hq:((0:Int)==(m:Int))=false:=by rw [beq_eq_false_iff_ne];omega
   subst h0;clear hn hm ht
   go_enter avx,avy
   go_wp2_with fail
   go_ret
   exact ⟨congrArg (fun b=>Ending.returned (Value.bool b)) HV.out.symm,hb1⟩
 have vk:((n:Int)==0)=false:=by rw [beq_eq_false_iff_ne];omega
 by_cases h0':m=0
 ·have HV:=Lib.hid (KI (s:=s) hn hm (.inr h0') af)
  subst h0';clear hn hm ht
  go_enter avx,avy
  go_wp2_with fail
  go_ret
  exact ⟨congrArg (fun b=>Ending.returned (Value.bool b)) HV.out.symm,hb1⟩
 have hqm:((m:Int)==0)=false:=by rw [beq_eq_false_iff_ne];omega
 have HV:=Lib.hid (KG (s:=s) hn hm af af);have hv:=fun W hR hb=>IM false A ns n c B W hR hb hn af;have hv':=fun W hR hb=>IM false A' ms m c' B' W hR hb hm af;have hcp:=fun W hR hR' hb hb' hT t1 t2=>abO A A' ns ms n m c c' B B' W hR hR' hb hb' hn hm hl hl' hc hc' hT t1 t2 af af;have JJ:Hid (vB false ns=true->eP ns):=Lib.hid Iw;have qV:Hid (vB false ms=true->eP ms):=Lib.hid Iw;have HT:=Lib.hid ht;obtain ⟨v1,hv1⟩ : ∃ v,v=vB false ns:=⟨_,rfl⟩;obtain ⟨v2,hv2⟩ : ∃ v,v=vB false ms:=⟨_,rfl⟩;rw [<- hv1] at hv HV JJ;rw [<- hv2] at hv' HV qV;have HA:=Lib.hid hv;have HA':=Lib.hid hv';have HC:=Lib.hid hcp;clear hv hv' hcp hn hm ht h0 h0' hv1 hv2
 go_enter avx,avy
 go_wp2_with fail
 go_region
 ·have hB1:Below w.heap.size w (((w.alloc (.cells #[.bool s,.slice A n c,.slice A' m c'] 24)).alloc (.cells #[.bool false,.slice A n c] 79)).alloc (.cells #[.bool false,.slice A' m c'] 79)).drew:=((hb1.alloc (by simp) _).alloc (by simp;omega) _).drew
  have T0:cZ (((w.alloc (.cells #[.bool s,.slice A n c,.slice A' m c'] 24)).alloc (.cells #[.bool false,.slice A n c] 79)).alloc (.cells #[.bool false,.slice A' m c'] 79)).drew w.heap.size 24 (.bool s) (.slice A n c) (.slice A' m c'):=(((cZ.new w 24 (.bool s) (.slice A n c) (.slice A' m c')).next ((Below.refl _ _).alloc (avW _) (.cells #[.bool false,.slice A n c] 79))).next ((Below.refl _ _).alloc (avW _) (.cells #[.bool false,.slice A' m c'] 79))).drew
  have Ta:Two (((w.alloc (.cells #[.bool s,.slice A n c,.slice A' m c'] 24)).alloc (.cells #[.bool false,.slice A n c] 79)).alloc (.cells #[.bool false,.slice A' m c'] 79)).drew (w.heap.size+1) 79 (.bool false) (.slice A n c):=by
   have h9:=(Two.new (w.alloc (.cells #[.bool s,.slice A n c,.slice A' m c'] 24)) 79 (.bool false) (.slice A n c)).alloc (.cells #[.bool false,.slice A' m c'] 79);rw [World.size_alloc] at h9;exact h9
  have Tb:Two (((w.alloc (.cells #[.bool s,.slice A n c,.slice A' m c'] 24)).alloc (.cells #[.bool false,.slice A n c] 79)).alloc (.cells #[.bool false,.slice A' m c'] 79)).drew (w.heap.size+1+1) 79 (.bool false) (.slice A' m c'):=by
   have h9:=Two.new ((w.alloc (.cells #[.bool s,.slice A n c,.slice A' m c'] 24)).alloc (.cells #[.bool false,.slice A n c] 79)) 79 (.bool false) (.slice A' m c');rw [World.size_alloc,World.size_alloc] at h9;exact h9
  have R1:=h.next hB1 hB;have R2:=h'.next hB1 hB';generalize (((w.alloc (.cells #[.bool s,.slice A n c,.slice A' m c'] 24)).alloc (.cells #[.bool false,.slice A n c] 79)).alloc (.cells #[.bool false,.slice A' m c'] 79)).drew=W at *;obtain ⟨p0,p1,_,_⟩:=Ta.facts;clear e0 e1 e2 e3 e4 e5
  go_wp2_with fail
  refine (HA.out _ R1 (avX hB hB1.size)).mono ?_;rintro e w1 ⟨rfl,hb2⟩;have hB2:=bP hB1 hb2 (avW _);obtain ⟨p2,p3,_,_⟩:=(Tb.next hb2).facts;clear p0 p1
  cases v1
  ·go_wp2_with fail
   go_ret
   exact ⟨congrArg (fun b=>Ending.returned (Value.bool b)) HV.out.symm,hB2⟩
  ·go_wp2_with fail
   refine (HA'.out _ (R2.next hb2 (avX hB' hB1.size)) (avX hB' hB2.size)).mono ?_;rintro e w2 ⟨rfl,hb3⟩;have hB3:=bP hB2 hb3 (avW _);have T3:=(T0.next hb2).next hb3;obtain ⟨f0,f1,f2,f3,f4,f5⟩:=T3.cells;clear p2 p3
   cases v2
   ·go_wp2_with fail
    go_ret
    exact ⟨congrArg (fun b=>Ending.returned (Value.bool b)) HV.out.symm,hB3⟩
   ·go_wp2_with fail
    refine (HC.out _ (h.next hB3 hB) (h'.next hB3 hB') (avX hB hB3.size) (avX hB' hB3.size) (HT.out.next hB3) (JJ.out (by first | rfl | trivial)) (qV.out (by first | rfl | trivial))).mono ?_;rintro e w3 ⟨rfl,hb4⟩
    go_wp2_with fail
    go_ret
    exact ⟨congrArg (fun b=>Ending.returned (Value.bool b)) HV.out.symm,bP hB3 hb4 (avW _)⟩
 ·have hB1:Below w.heap.size w (((w.alloc (.cells #[.bool s,.slice A n c,.slice A' m c'] 24)).alloc (.cells #[.bool false,.slice A' m c'] 79)).alloc (.cells #[.bool false,.slice A n c] 79)).drew:=((hb1.alloc (by simp) _).alloc (by simp;omega) _).drew
  have T0:cZ (((w.alloc (.cells #[.bool s,.slice A n c,.slice A' m c'] 24)).alloc (.cells #[.bool false,.slice A' m c'] 79)).alloc (.cells #[.bool false,.slice A n c] 79)).drew w.heap.size 24 (.bool s) (.slice A n c) (.slice A' m c'):=(((cZ.new w 24 (.bool s) (.slice A n c) (.slice A' m c')).next ((Below.refl _ _).alloc (avW _) (.cells #[.bool false,.slice A' m c'] 79))).next ((Below.refl _ _).alloc (avW _) (.cells #[.bool false,.slice A n c] 79))).drew
  have Ta:Two (((w.alloc (.cells #[.bool s,.slice A n c,.slice A' m c'] 24)).alloc (.cells #[.bool false,.slice A' m c'] 79)).alloc (.cells #[.bool false,.slice A n c] 79)).drew (w.heap.size+1) 79 (.bool false) (.slice A' m c'):=by
   have h9:=(Two.new (w.alloc (.cells #[.bool s,.slice A n c,.slice A' m c'] 24)) 79 (.bool false) (.slice A' m c')).alloc (.cells #[.bool false,.slice A n c] 79);rw [World.size_alloc] at h9;exact h9
  have Tb:Two (((w.alloc (.cells #[.bool s,.slice A n c,.slice A' m c'] 24)).alloc (.cells #[.bool false,.slice A' m c'] 79)).alloc (.cells #[.bool false,.slice A n c] 79)).drew (w.heap.size+1+1) 79 (.bool false) (.slice A n c):=by
   have h9:=Two.new ((w.alloc (.cells #[.bool s,.slice A n c,.slice A' m c'] 24)).alloc (.cells #[.bool false,.slice A' m c'] 79)) 79 (.bool false) (.slice A n c);rw [World.size_alloc,World.size_alloc] at h9;exact h9
  have R1:=h.next hB1 hB;have R2:=h'.next hB1 hB';generalize (((w.alloc (.cells #[.bool s,.slice A n c,.slice A' m c'] 24)).alloc (.cells #[.bool false,.slice A' m c'] 79)).alloc (.cells #[.bool false,.slice A n c] 79)).drew=W at *;obtain ⟨p0,p1,_,_⟩:=Tb.facts;clear e0 e1 e2 e3 e4 e5
  go_wp2_with fail
  refine (HA.out _ R1 (avX hB hB1.size)).mono ?_;rintro e w1 ⟨rfl,hb2⟩;have hB2:=bP hB1 hb2 (avW _);obtain ⟨p2,p3,_,_⟩:=(Ta.next hb2).facts;clear p0 p1
  cases v1
  ·go_wp2_with fail
   go_ret
   exact ⟨congrArg (fun b=>Ending.returned (Value.bool b)) HV.out.symm,hB2⟩
  ·go_wp2_with fail
   refine (HA'.out _ (R2.next hb2 (avX hB' hB1.size)) (avX hB' hB2.size)).mono ?_;rintro e w2 ⟨rfl,hb3⟩;have hB3:=bP hB2 hb3 (avW _);have T3:=(T0.next hb2).next hb3;obtain ⟨f0,f1,f2,f3,f4,f5⟩:=T3.cells;clear p2 p3
   cases v2
   ·go_wp2_with fail
    go_ret
    exact ⟨congrArg (fun b=>Ending.returned (Value.bool b)) HV.out.symm,hB3⟩
   ·go_wp2_with fail
    refine (HC.out _ (h.next hB3 hB) (h'.next hB3 hB') (avX hB hB3.size) (avX hB' hB3.size) (HT.out.next hB3) (JJ.out (by first | rfl | trivial)) (qV.out (by first | rfl | trivial))).mono ?_;rintro e w3 ⟨rfl,hb4⟩
    go_wp2_with fail
    go_ret
    exact ⟨congrArg (fun b=>Ending.returned (Value.bool b)) HV.out.symm,bP hB3 hb4 (avW _)⟩
def kn(b:Bool)(s:Bool)(A A':Option Addr)(n m c c':Nat):Value:=if b then .agg #[.bool s,.slice A n c,.slice A' m c'] else .agg #[.bool false,.slice none 0 0,.slice none 0 0]
set_option maxRecDepth 100000 in
set_option maxHeartbeats 3200000 in
theorem ac2(s:Bool)(A A':Option Addr)(ns ms:List Nat)(n m c c' B B':Nat)(w:World)(h:Rd w B A ns)(h':Rd w B' A' ms)(hB:B<=w.heap.size)(hB':B'<=w.heap.size)(hn:ns.length=n)(hm:ms.length=m)(hl:n<=8388608)(hl':m<=8388608)(hc:n<=c)(hc':m<=c')(ht:Tz w) :
  Calls Tryz.prog 83 #[.agg #[.bool s,.slice A n c,.slice A' m c']] w fun e w'=>e = .returned (kn (n != 0&&fV s ns ms) s A A' n m c c')/\Below w.heap.size w w':=by
 have hb1:=((Below.refl w.heap.size w).alloc (avW _) (.cells #[.bool s,.slice A n c,.slice A' m c'] 24)).alloc (by simp) (.cells #[.bool false,.slice none 0 0,.slice none 0 0] 24);have T0:cZ ((w.alloc (.cells #[.bool s,.slice A n c,.slice A' m c'] 24)).alloc (.cells #[.bool false,.slice none 0 0,.slice none 0 0] 24)) w.heap.size 24 (.bool s) (.slice A n c) (.slice A' m c'):=(cZ.new w 24 (.bool s) (.slice A n c) (.slice A' m c')).next ((Below.refl _ _).alloc (avW _) (.cells #[.bool false,.slice none 0 0,.slice none 0 0] 24))
 have T1:cZ ((w.alloc (.cells #[.bool s,.slice A n c,.slice A' m c'] 24)).alloc (.cells #[.bool false,.slice none 0 0,.slice none 0 0] 24)) (w.heap.size+1) 24 (.bool false) (.slice none 0 0) (.slice none 0 0):=by
  have h9:=cZ.new (w.alloc (.cells #[.bool s,.slice A n c,.slice A' m c'] 24)) 24 (.bool false) (.slice none 0 0) (.slice none 0 0);rw [World.size_alloc] at h9;exact h9
 obtain ⟨e0,e1,e2,e3,e4,e5⟩:=T0.cells;obtain ⟨f0,f1,f2,f3,f4,f5⟩:=T1.cells
 by_cases h0:n=0
 ·have HV:Hid ((n != 0&&fV s ns ms)=false):=Lib.hid (by rw [h0];rfl)
  rw [HV.out];subst h0;clear hn hm ht HV
  go_enter Tryz.func83,Tryz.ntmps83
  go_wp2_with fail
  refine bodyPost_ret (v := .agg #[.bool false,.slice none 0 0,.slice none 0 0]) (by simp [results,Tryz.results83,go_sem,f0,f1,f2]) rfl ?_;exact ⟨rfl,hb1⟩
 ·have HV:Hid ((n != 0&&fV s ns ms)=fV s ns ms):=Lib.hid (by rw [bne_iff_ne.2 h0];rfl)
  rw [HV.out];have vk:((n:Int)==0)=false:=by rw [beq_eq_false_iff_ne];omega
  have hv:=fun W hR hR' hb hb' hT=>Tc s A A' ns ms n m c c' B B' W hR hR' hb hb' hn hm hl hl' hc hc' hT;obtain ⟨b,hb⟩ : ∃ b,b=fV s ns ms:=⟨_,rfl⟩;rw [<- hb] at hv ⊢;have HF:=Lib.hid hv;have HT:=Lib.hid ht;clear hv hb hn hm ht h0 HV
  go_enter Tryz.func83,Tryz.ntmps83
  go_wp2_with fail
  refine (HF.out _ (h.next hb1 hB) (h'.next hb1 hB') (avX hB hb1.size) (avX hB' hb1.size) (HT.out.next hb1)).mono ?_;rintro e w1 ⟨rfl,hb2⟩;have hb3:=bP hb1 hb2 (avW _);have K0:=T0.next hb2;have K1:=T1.next hb2;clear e0 e1 e2 e3 e4 e5 f0 f1 f2 f3 f4 f5;obtain ⟨e0,e1,e2,e3,e4,e5⟩:=K0.cells;obtain ⟨f0,f1,f2,f3,f4,f5⟩:=K1.cells
  cases b
  ·go_wp2_with fail
   refine bodyPost_ret (v := .agg #[.bool false,.slice none 0 0,.slice none 0 0]) (by simp [results,Tryz.results83,go_sem,f0,f1,f2]) rfl ?_;exact ⟨rfl,((hb3.setCell (by simp) _).setCell (by simp) _).setCell (by simp) _⟩
  ·go_wp2_with fail
   refine bodyPost_ret (v := .agg #[.bool s,.slice A n c,.slice A' m c']) (by simp [results,Tryz.results83,go_sem,f0,f1,f2]) rfl ?_;exact ⟨rfl,((hb3.setCell (by simp) _).setCell (by simp) _).setCell (by simp) _⟩
set_option maxRecDepth 100000 in
set_option maxHeartbeats 3200000 in
theorem ac5(s:Bool)(A A':Option Addr)(n m c c':Nat)(w:World)(hl:n<=8388608) :
  Calls Tryz.prog 139 #[.agg #[.bool s,.slice A n c,.slice A' m c']] w fun e w'=>e = .returned (.agg #[.bool (decide (0<n) && !s),.slice A n c,.slice A' m c'])/\Below w.heap.size w w':=by
 have hb1:=((Below.refl w.heap.size w).alloc (avW _) (.cells #[.bool s,.slice A n c,.slice A' m c'] 24)).alloc (by simp) (.cells #[.bool false,.slice none 0 0,.slice none 0 0] 24);have T0:cZ ((w.alloc (.cells #[.bool s,.slice A n c,.slice A' m c'] 24)).alloc (.cells #[.bool false,.slice none 0 0,.slice none 0 0] 24)) w.heap.size 24 (.bool s) (.slice A n c) (.slice A' m c'):=(cZ.new w 24 (.bool s) (.slice A n c) (.slice A' m c')).next ((Below.refl _ _).alloc (avW _) (.cells #[.bool false,.slice none 0 0,.slice none 0 0] 24))
 have T1:cZ ((w.alloc (.cells #[.bool s,.slice A n c,.slice A' m c'] 24)).alloc (.cells #[.bool false,.slice none 0 0,.slice none 0 0] 24)) (w.heap.size+1) 24 (.bool false) (.slice none 0 0) (.slice none 0 0):=by
  have h9:=cZ.new (w.alloc (.cells #[.bool s,.slice A n c,.slice A' m c'] 24)) 24 (.bool false) (.slice none 0 0) (.slice none 0 0);rw [World.size_alloc] at h9;exact h9
 obtain ⟨e0,e1,e2,e3,e4,e5⟩:=T0.cells;obtain ⟨f0,f1,f2,f3,f4,f5⟩:=T1.cells
 by_cases h0:n=0
 ·subst h0
  go_enter Tryz.func139,Tryz.ntmps139
  go_wp2_with fail
  refine bodyPost_ret (v := .agg #[.bool false,.slice A 0 c,.slice A' m c']) (by simp [results,Tryz.results139,go_sem]) rfl ?_;refine ⟨rfl,?_⟩
  repeat' (first | exact hb1 | refine Below.setCell ?_ ?_ _ | refine Below.alloc ?_ ?_ _ | exact avW _ | exact Below.refl _ _ | simp)
 ·have h1:0<n:=af
  have HD:Hid ((decide (0<n) && !s) = !s):=Lib.hid (by rw [decide_eq_true h1];rfl);rw [HD.out]
  go_enter Tryz.func139,Tryz.ntmps139
  go_wp2_with fail
  refine bodyPost_ret (v := .agg #[.bool (!s),.slice A n c,.slice A' m c']) (by simp [results,Tryz.results139,go_sem]) rfl ?_;refine ⟨rfl,?_⟩
  repeat' (first | exact hb1 | refine Below.setCell ?_ ?_ _ | refine Below.alloc ?_ ?_ _ | exact avW _ | exact Below.refl _ _ | simp)
end Go.Proofs.BGQ
