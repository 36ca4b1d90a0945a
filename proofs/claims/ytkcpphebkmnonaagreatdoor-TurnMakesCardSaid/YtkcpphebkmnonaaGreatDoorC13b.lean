/- Part of a proof, said shortly. -/
import Derived.BigQuiet
import Derived.Test.YtkcpphebkmnonaaGreatDoorAlzb
import Derived.Test.YtkcpphebkmnonaaGreatDoorC4b
import Derived.Test.YtkcpphebkmnonaaGreatDoorC2b
import Derived.Test.YtkcpphebkmnonaaGreatDoorC1b
import Derived.Test.YtkcpphebkmnonaaGreatDoorC3b
namespace Lw
open Go
theorem Vb{a b:List Nat}{k M:Nat}(hk:k<=M)(h : ∀ j,k<=j->j<M->dg a j=dg b j) : ∃ z,lo a M=lo a k+z/\lo b M=lo b k+z:=by
 induction M with
 | zero =>
  simp_all
 | succ M ih =>
  rcases av3 k (M+1) with h1 | h1
  ·obtain ⟨z,e1,e2⟩:=ih af (fun j hj hj'=>h j hj af)
   have:=h M af af;refine ⟨z+pw M*dg a M,?_,?_⟩
   ·rw [dA,e1];omega
   ·rw [dA,e2,<- this];omega
  ·have:k=M+1:=af
   simp_all
def Agree(a b:List Nat)(k:Nat):Prop := ∀ j,k<=j->dg a j=dg b j
theorem aaN{a b:List Nat}{M:Nat}(ha:a.length<=M)(hb:b.length<=M):Agree a b M:=fun j hj=>by rw [ru af,ru af]
theorem aaO{a b:List Nat}{k:Nat}(h:Agree a b (k+1))(hd:dg a k=dg b k):Agree a b k:=fun j hj=>by
 rcases av3 k j with h1 | h1
 ·exact h j h1
 ·have:j=k:=af
  subst this;exact hd
theorem Qs{a b:List Nat}{k:Nat}(wa:bM a)(h:Agree a b (k+1))(hd:dg a k<dg b k):val a<val b:=by
 obtain ⟨z,e1,e2⟩:=Vb (a:=a) (b:=b) (k:=k+1) (M:=a.length+b.length+(k+1)) af (fun j hj _=>h j hj);rw [dF af,dA] at e1 e2;have h3:=kE wa k;have h4:pw k*(dg a k+1)<=pw k*dg b k:=av9 _ hd;grind
theorem aaP{a b:List Nat}(h:Agree a b 0):val a=val b:=by
 obtain ⟨z,e1,e2⟩:=Vb (a:=a) (b:=b) (k:=0) (M:=a.length+b.length) af (fun j hj _=>h j hj);rw [dF af] at e1 e2;rw [iG] at e1 e2;omega
end Lw
namespace Go.Proofs.BGQ
open Go Go.RowKit Lw
set_option maxRecDepth 100000 in
set_option maxHeartbeats 1600000 in
theorem D5(A A':Option Addr)(ns ms:List Nat)(n m c c' B B':Nat)(w:World)(h:Rd w B A ns)(h':Rd w B' A' ms)(hn:ns.length=n)(hm:ms.length=m)(hl:n<=16777216)(hl':m<=16777216) :
  Calls Tryz.prog 151 #[.slice A n c,.slice A' m c'] w fun e w'=>e = .returned (.int .i64 (jB (val ns) (val ms)))/\w=w':=by
 have Hn:=Lib.hid hn;have Hm:=Lib.hid hm;clear hn hm;obtain ⟨M,hM,hM1,hM2⟩ : ∃ M:Nat,(max (n:Int) (m:Int))=(M:Int)/\n<=M/\m<=M:=⟨max n m,af,af,af⟩;have Cm:M<=16777216:=af
 go_enter Tryz.func151,Tryz.ntmps151
 go_wp2_with fail
 go_loopw [5] (fun v wr => ∃ i:Int,-1<=i/\i<M/\v = .int .i64 i/\Hid (Agree ns ms (i+1).toNat)/\w=wr) (fun v _=>(intOf v+1).toNat)
 case atStart=>exact ⟨(M:Int)-1,af,af,rfl,Lib.hid (by rw [show ((M:Int)-1+1).toNat=M by omega];exact aaN (by rw [Hn.out];exact hM1) (by rw [Hm.out];exact hM2)),rfl⟩
 case round =>
  obtain ⟨i,hi,hiM,rfl,hag,rfl⟩:=hrel
  by_cases h0:i<0
  ·have HV:Hid (val ns=val ms):=Lib.hid (aaP (by have:=hag.out;rwa [show (i+1).toNat=0 by omega] at this))
   go_wp2_with fail
   go_ret
   exact ⟨fD (by rw [Fg HV.out]),rfl⟩
  ·obtain ⟨k,rfl⟩:=awK (show 0<=i from af)
   have hs1:Hid (Agree ns ms (k+1)):=Lib.hid (by have:=hag.out;rwa [show ((k:Int)+1).toNat=k+1 by omega] at this);clear hag;have hlt':=gY h'.bU k;rcases Nat.lt_trichotomy (dg ns k) (dg ms k) with hd | hd | hd
   ·have hb1:((dg ns k:Int) != (dg ms k:Int))=true:=by rw [bne_iff_ne];omega
    have HR:=Lib.hid (yV (Qs h.bU hs1.out hd))
    go_wp2_with fail
    refine (kG A ns n c B k _ h Hn.out af).mono ?_;rintro e w' ⟨rfl,rfl⟩
    go_wp2_with fail
    refine (kG A' ms m c' B' k _ h' Hm.out af).mono ?_;rintro e w' ⟨rfl,rfl⟩
    go_wp2_with fail
    refine (kG A ns n c B k _ h Hn.out af).mono ?_;rintro e w' ⟨rfl,rfl⟩
    go_wp2_with fail
    refine (kG A' ms m c' B' k _ h' Hm.out af).mono ?_;rintro e w' ⟨rfl,rfl⟩
    go_wp2_with fail
    go_ret
    exact ⟨fD (by rw [HR.out]),rfl⟩
   ·have hb1:((dg ns k:Int) != (dg ms k:Int))=false:=by rw [bne_eq_false_iff_eq];omega
    have HS:=Lib.hid (aaO hs1.out hd)
    go_wp2_with fail
    refine (kG A ns n c B k _ h Hn.out af).mono ?_;rintro e w' ⟨rfl,rfl⟩
    go_wp2_with fail
    refine (kG A' ms m c' B' k _ h' Hm.out af).mono ?_;rintro e w' ⟨rfl,rfl⟩
    go_wp2_with fail
    go_roundw
    case rel=>exact ⟨(k:Int)-1,af,af,rfl,Lib.hid (by rw [show ((k:Int)-1+1).toNat=k by omega];exact HS.out),trivial⟩
    case measure=>simp [intOf]
   ·have hb1:((dg ns k:Int) != (dg ms k:Int))=true:=by rw [bne_iff_ne];omega
    have HR:=Lib.hid (BK (Qs h'.bU (fun j hj=>(hs1.out j hj).symm) hd))
    go_wp2_with fail
    refine (kG A ns n c B k _ h Hn.out af).mono ?_;rintro e w' ⟨rfl,rfl⟩
    go_wp2_with fail
    refine (kG A' ms m c' B' k _ h' Hm.out af).mono ?_;rintro e w' ⟨rfl,rfl⟩
    go_wp2_with fail
    refine (kG A ns n c B k _ h Hn.out af).mono ?_;rintro e w' ⟨rfl,rfl⟩
    go_wp2_with fail
    refine (kG A' ms m c' B' k _ h' Hm.out af).mono ?_;rintro e w' ⟨rfl,rfl⟩
    go_wp2_with fail
    go_ret
    exact ⟨fD (by rw [HR.out]),rfl⟩
end Go.Proofs.BGQ
namespace Lw
open Go
theorem agB{cs ns ms:List Nat}{k carry R:Nat}(hl:cs.length=k)(hv:val cs+pw k*carry=lo ns k+lo ms k)(hR:R=(dg ns k+dg ms k+carry)%4294967296) :
  val (cs++[R])+pw (k+1)*((dg ns k+dg ms k+carry)/4294967296)=lo ns (k+1)+lo ms (k+1):=by
 rw [Om,hl,dA,dA,fB,hR];have h:=awX (dg ns k+dg ms k+carry) 4294967296;generalize (dg ns k+dg ms k+carry)/4294967296=q at *;generalize (dg ns k+dg ms k+carry)%4294967296=r at *;have h2:pw k*(4294967296*q+r)=pw k*(dg ns k+dg ms k+carry):=by rw [h]
 grind
theorem agA{cs ns ms:List Nat}{k carry M:Nat}(wn:bM ns)(wm:bM ms)(hn:ns.length<=M)(hm:ms.length<=M)(hk:k=M+1)(hv:val cs+pw k*carry=lo ns k+lo ms k):val cs=val ns+val ms:=by
 subst hk;rw [dF af,dF af] at hv;have h1:=fG wn;have h2:=fG wm;have h3:=fM hn;have h4:=fM hm;rw [fB] at hv;rcases av' carry with h0 | h0
 ·grind
 ·have:4294967296*pw M*1<=4294967296*pw M*carry:=av9 _ h0
  omega
theorem afB{cs ns ms:List Nat}{k b d R:Nat}(hl:cs.length=k)(hv:val cs+lo ms k=lo ns k+pw k*b)(hb:b<=1)(hn:dg ns k<4294967296)(hm:dg ms k<4294967296)(hd:d=4294967296+dg ns k-dg ms k-b)(hR:R=d%4294967296) :
  val (cs++[R])+lo ms (k+1)=lo ns (k+1)+pw (k+1)*(1-d/4294967296)/\1-d/4294967296<=1:=by
 refine ⟨?_,af⟩;rw [Om,hl,dA,dA,fB];have h5:R+dg ms k+b=dg ns k+4294967296*(1-d/4294967296):=af;generalize 1-d/4294967296=q at *;have h2:pw k*(R+dg ms k+b)=pw k*(dg ns k+4294967296*q):=by rw [h5]
 grind
theorem Vz{cs ns ms:List Nat}{b:Nat}(wc:bM cs)(hl:cs.length=ns.length)(hm:ms.length<=ns.length)(hle:val ms<=val ns)(hv:val cs+lo ms ns.length=lo ns ns.length+pw ns.length*b):val cs=val ns-val ms:=by
 rw [dF hm,dF (avW _)] at hv;have h1:=fG wc;rw [hl] at h1;rcases av' b with h0 | h0
 ·grind
 ·have:pw ns.length*1<=pw ns.length*b:=av9 _ h0
  omega
end Lw
namespace Go.Proofs.BGQ
open Go Go.RowKit Lw
set_option maxRecDepth 100000 in
set_option maxHeartbeats 3200000 in
theorem D6(A A':Option Addr)(ns ms:List Nat)(n m c c' B B':Nat)(w:World)(h:Rd w B A ns)(h':Rd w B' A' ms)(hB:B<=w.heap.size)(hB':B'<=w.heap.size)(hn:ns.length=n)(hm:ms.length=m)(hl:n<=16777216)(hl':m<=16777216) :
  Calls Tryz.prog 150 #[.slice A n c,.slice A' m c'] w (xk w (val ns+val ms)):=by
 have Hn:=Lib.hid hn;have Hm:=Lib.hid hm;clear hn hm;obtain ⟨M,hM,hM1,hM2⟩ : ∃ M:Nat,(max (n:Int) (m:Int))=(M:Int)/\n<=M/\m<=M:=⟨max n m,af,af,af⟩;have Cm:M<=16777216:=af
 go_enter Tryz.func150,Tryz.ntmps150
 go_wp2_with fail
 go_loopw [5,6,15] (fun v cv iv wr => ∃ (k carry:Nat) (cs:List Nat),k<=M+1/\carry<=1/\iv = .int .i64 k/\cv = .int .u64 carry/\wr.ownsRow w.heap.size 113 1 v k (arr cs)/\bM cs /\
   Hid (val cs+pw k*carry=lo ns k+lo ms k)/\Below w.heap.size w wr) (fun _ _ i _=>M+1-(intOf i).toNat)
 case atStart=>exact ⟨0,0,[],af,af,rfl,rfl,World.ownsRow_nil _ _ _ _,jo,Lib.hid (by rw [iG,iG];rfl),Below.refl _ _⟩
 case round =>
  obtain ⟨k,carry,cs,hk,hcar,rfl,rfl,hown,hcw,hv,hbw⟩:=hrel;have hr:=h.below (hbw.mono hB);have hr':=h'.below (hbw.mono hB');have hsz:=hbw.size;have hlen:=hown.1;rw [nD,awn] at hlen;have HL:=Lib.hid hlen;clear hlen
  by_cases hkM:k<M+1
  ·have hlt:=gY h.bU k
   have hlt':=gY h'.bU k;obtain ⟨D,hD⟩ : ∃ D,D=dg ns k+dg ms k+carry:=⟨_,rfl⟩;obtain ⟨R,hR⟩ : ∃ R,R=D%4294967296:=⟨_,rfl⟩;have HST:=Lib.hid (agB (R:=R) HL.out hv.out (by rw [hR,hD]));rw [<- hD] at HST;have hDl:D<=8589934591:=af;have hRl:R<4294967296:=af;have hD1:((dg ns k:Int)+((dg ms k:Int)+(carry:Int)))=(D:Int):=af;have hD2:(((dg ns k:Int)+(dg ms k:Int))+(carry:Int))=(D:Int):=af;have hR1:(D:Int)%4294967296=(R:Int):=af;clear hD hR
   go_wp2_with fail
   refine (kG A ns n c B k _ hr Hn.out af).mono ?_;rintro e w' ⟨rfl,rfl⟩
   go_wp2_with fail
   refine (kG A' ms m c' B' k _ hr' Hm.out af).mono ?_;rintro e w' ⟨rfl,rfl⟩;have vw:=(bH.new wr 113 [R]).rd (by rw [jP];exact ⟨af,jo⟩)
   go_wp2_with (at_builtin;refine IV _ rfl _ _ 22 rfl w.heap.size 113 atV kJ _ k cs rfl (hown.alloc _) _ _ [R] 1 1 rfl vw rfl af (by simp;omega) ?_;intro v' w4 hown4 hgrow4 hnil)
   have hgrow:(wr.alloc (.cells #[.int .u32 (R:Int)] 113)).grownBy w4 u5.ownBlock:=hgrow4;have hb5:Below w.heap.size w w4:=(hbw.alloc af _).grown hgrow (by simp;omega) (fun k hk=>(hown.lt k hk).1);clear hgrow4 hnil hgrow vw
   go_roundw
   case rel =>
    refine ⟨k+1,D/4294967296,cs++[R],af,af,by go_num,by go_num,hown4,Ou.2 ⟨hcw,by rw [jP];exact ⟨hRl,jo⟩⟩,HST,hb5⟩
   case measure=>simp [intOf];omega
  ·obtain rfl:k=M+1:=af
   have HV:=Lib.hid (agA h.bU h'.bU (by rw [Hn.out];exact hM1) (by rw [Hm.out];exact hM2) rfl hv.out);obtain ⟨A5,c5,rfl,kH,hl5⟩:=Na hown hcw
   go_wp2_with fail
   refine (zN A5 cs _ c5 _ _ kH (avW _) hl5 af).mono ?_;rintro e w3 ⟨g,c6,rfl,hc6,jE,hblk,hb6⟩;rw [HV.out] at hc6 hblk;rw [HV.out];have hb7:=bP hbw hb6 (avW _);clear hown kH hr hr'
   go_wp2_with fail
   go_ret
   exact ⟨g,c6,rfl,hc6,avX hsz jE,hblk,hb7⟩
set_option maxRecDepth 100000 in
set_option maxHeartbeats 3200000 in
theorem ahU(A A':Option Addr)(ns ms:List Nat)(n m c c' B B':Nat)(w:World)(h:Rd w B A ns)(h':Rd w B' A' ms)(hB:B<=w.heap.size)(hB':B'<=w.heap.size)(hn:ns.length=n)(hm:ms.length=m)(hl:n<=16777216)(hl':m<=16777216)(ht:eP ms)(hle:val ms<=val ns) :
  Calls Tryz.prog 152 #[.slice A n c,.slice A' m c'] w (xk w (val ns-val ms)):=by
 have Hn:=Lib.hid hn;have Hm:=Lib.hid hm
 have EP:Hid (m<=n):=Lib.hid (by
  rcases av' m with h0 | h0
  ·omega
  ·have h1:=DK ht (by intro e;rw [e] at hm;simp at hm;omega)
   have h2:=fG h.bU;rw [hm] at h1;rw [hn] at h2;rcases av3 n m with h3 | h3
   ·have:=fM (a:=n) (b:=m-1) af;omega
   ·exact h3)
 have lN:=Lib.hid hle;clear hn hm hle
 go_enter Tryz.func152,Tryz.ntmps152
 go_wp2_with fail
 go_loopw [5,6,11] (fun v bv iv wr => ∃ (k b:Nat) (cs:List Nat),k<=n/\b<=1/\iv = .int .i64 k/\bv = .int .u64 b/\wr.ownsRow w.heap.size 113 1 v k (arr cs)/\bM cs /\
   Hid (val cs+lo ms k=lo ns k+pw k*b)/\Below w.heap.size w wr) (fun _ _ i _=>n-(intOf i).toNat)
 case atStart=>exact ⟨0,0,[],af,af,rfl,rfl,World.ownsRow_nil _ _ _ _,jo,Lib.hid (by rw [iG,iG];rfl),Below.refl _ _⟩
 case round =>
  obtain ⟨k,b,cs,hk,hcar,rfl,rfl,hown,hcw,hv,hbw⟩:=hrel;have hr:=h.below (hbw.mono hB);have hr':=h'.below (hbw.mono hB');have hsz:=hbw.size;have hlen:=hown.1;rw [nD,awn] at hlen;have HL:=Lib.hid hlen;clear hlen
  by_cases hkM:k<n
  ·have hlt:=gY h.bU k
   have hlt':=gY h'.bU k;obtain ⟨D,hD⟩ : ∃ D,D=4294967296+dg ns k-dg ms k-b:=⟨_,rfl⟩;obtain ⟨R,hR⟩ : ∃ R,R=D%4294967296:=⟨_,rfl⟩;have HST:=Lib.hid (afB (R:=R) HL.out hv.out hcar hlt hlt' hD hR);have hDl:D<=8589934591:=af;have hRl:R<4294967296:=af;have hD1:((4294967296:Int)+(dg ns k:Int)-(dg ms k:Int)-(b:Int))=(D:Int):=af;have hR1:(D:Int)%4294967296=(R:Int):=af;clear hD hR
   go_wp2_with fail
   refine (kG A ns n c B k _ hr Hn.out af).mono ?_;rintro e w' ⟨rfl,rfl⟩
   go_wp2_with fail
   refine (kG A' ms m c' B' k _ hr' Hm.out af).mono ?_;rintro e w' ⟨rfl,rfl⟩;have vw:=(bH.new wr 113 [R]).rd (by rw [jP];exact ⟨af,jo⟩)
   go_wp2_with (at_builtin;refine IV _ rfl _ _ 22 rfl w.heap.size 113 atV kJ _ k cs rfl (hown.alloc _) _ _ [R] 1 1 rfl vw rfl af (by simp;omega) ?_;intro v' w4 hown4 hgrow4 hnil)
   have hgrow:(wr.alloc (.cells #[.int .u32 (R:Int)] 113)).grownBy w4 u5.ownBlock:=hgrow4;have hb5:Below w.heap.size w w4:=(hbw.alloc af _).grown hgrow (by simp;omega) (fun k hk=>(hown.lt k hk).1);clear hgrow4 hnil hgrow vw
   go_roundw
   case rel =>
    refine ⟨k+1,1-D/4294967296,cs++[R],af,af,by go_num,by go_num,hown4,Ou.2 ⟨hcw,by rw [jP];exact ⟨hRl,jo⟩⟩,Lib.hid HST.out.1,hb5⟩
   case measure=>simp [intOf];omega
  ·obtain rfl:k=n:=af
   have HV:Hid (val cs=val ns-val ms):=Lib.hid (Vz hcw (by rw [HL.out,Hn.out]) (by rw [Hm.out,Hn.out];exact EP.out) lN.out (by rw [Hn.out];exact hv.out));obtain ⟨A5,c5,rfl,kH,hl5⟩:=Na hown hcw
   go_wp2_with fail
   refine (zN A5 cs _ c5 _ _ kH (avW _) hl5 af).mono ?_;rintro e w3 ⟨g,c6,rfl,hc6,jE,hblk,hb6⟩;rw [HV.out] at hc6 hblk;rw [HV.out];have hb7:=bP hbw hb6 (avW _);clear hown kH hr hr'
   go_wp2_with fail
   go_ret
   exact ⟨g,c6,rfl,hc6,avX hsz jE,hblk,hb7⟩
end Go.Proofs.BGQ
namespace Lw
open Go Go.RowKit
theorem grown_drewN{a w:World}{g:Option Nat}(h:a.grownBy w g)(k:Nat):a.grownBy (w.drewN k) g:=⟨h.os,h.tape,h.output,h.size,h.block⟩
end Lw
namespace Go.Proofs.BGQ
open Go Go.RowKit Lw
set_option maxRecDepth 100000 in
set_option maxHeartbeats 6400000 in
theorem Hg(A A':Option Addr)(ns ms:List Nat)(n m c c' B B':Nat)(w:World)(h:Rd w B A ns)(h':Rd w B' A' ms)(hB:B<=w.heap.size)(hB':B'<=w.heap.size)(hn:ns.length=n)(hm:ms.length=m)(hl:n<=16777216)(hl':m<=16777216) :
  Calls Tryz.prog 149 #[.slice A n c,.slice A' m c'] w (xk w (val ns*val ms)):=by
 have Hn:=Lib.hid hn;have Hm:=Lib.hid hm;clear hn hm
 go_enter Tryz.func149,Tryz.ntmps149
 go_wp2_with (at_make;refine nV _ rfl _ _ _ rfl 113 atV kJ _ _ _ _ (n+m) rfl rfl af af af ?_;intro w1 hblk hbel hsz)
 go_loopw [18] (fun i wr => ∃ (k:Nat) (cs:List Nat),k<=n/\i = .int .i64 k/\bH wr w.heap.size 113 cs/\Hid (cs.length=n+m)/\bM cs /\
   Hid (lo cs (k+m)=lo ns k*val ms)/\Hid (∀ j,k+m<=j->dg cs j=0)/\Below w.heap.size w wr) (fun i _=>n-(intOf i).toNat)
 case atStart=>exact ⟨0,_,avY _,rfl,hblk,Lib.hid (by simp),nU _,Lib.hid (by rw [Dl (b:=[]) _ (fun j _=>by rw [BP];rfl),dF (by simp),iG];simp [val]),Lib.hid (fun j _=>BP _ _),hbel⟩
 case round =>
  obtain ⟨k,cs,hk,rfl,hb1,hcl,hcw,hv,hz,hbw⟩:=hrel;clear hblk hbel hsz;have hr:=h.below (hbw.mono hB);have hr':=h'.below (hbw.mono hB');have hsz1:=hb1.lt
  by_cases hkn:k<n
  ·obtain ⟨b,off,rfl,hb,hcell,hlt⟩:=hr.at_ (k:=k) (by rw [Hn.out];omega)
   have xe:Hid (0<m -> ∀ a,A'=some a->a.block≠w.heap.size):=Lib.hid (fun hp a ha=>by
    obtain ⟨b,off,hA,hb,_⟩:=h'.2 (by rw [Hm.out];exact hp);rw [ha] at hA;injection hA with e;subst e;exact aw2 (av1 hb hB'))
   obtain ⟨x,hx⟩ : ∃ x,x=dg ns k:=⟨_,rfl⟩;rw [<- hx] at hcell hlt;have HX:=Lib.hid hx;clear hx
   go_wp2_with fail
   go_loopw [7,23] (fun cv jv wi => ∃ (j carry:Nat) (ds:List Nat),j<=m/\carry<4294967296/\jv = .int .i64 j/\cv = .int .u64 carry/\bH wi w.heap.size 113 ds/\Hid (ds.length=cs.length)/\bM ds /\
     Hid (∀ i,i<k\/k+j<=i->dg ds i=dg cs i)/\Hid (lo ds (k+j)+pw (k+j)*carry=lo cs (k+j)+pw k*(lo ms j*x))/\Hid (wr.grownBy wi (some w.heap.size)/\wi.heap.size=wr.heap.size)) (fun _ i _=>m-(intOf i).toNat)
   case atStart=>exact ⟨0,0,cs,avY _,af,rfl,rfl,hb1,Lib.hid rfl,hcw,Lib.hid (fun _ _=>rfl),Lib.hid (by simp [iG]),Lib.hid ⟨World.grownBy.refl wr _,rfl⟩⟩
   case round =>
    obtain ⟨j,carry,ds,hj,hcar,rfl,rfl,hb2,hdl,hdw,hsame,hval,hg⟩:=hrel;clear hb1;have UF:=hg.out.2;have anH:=hbw.size
    by_cases hjm:j<m
    ·have hr2:=hr'.grown hg.out.1 af (fun hp=>xe.out af)
     obtain ⟨b',off',rfl,hbb,hcell',hlt'⟩:=hr2.at_ (k:=j) (by rw [Hm.out];omega);have hcn:=(World.cell?_of_block (a:=⟨b,off+k,none⟩) (hg.out.1.block b af (by intro e;injection e;omega))).trans hcell;have hcc:=hb2.cell (i:=k+j) (by rw [hdl.out,hcl.out];omega);have hfr:=hb2.frozen (k+j);have xI:=gY hdw (k+j);have Hd:Hid (dg ds (k+j)=dg cs (k+j)):=Lib.hid (hsame.out _ (.inr (avW _)));have oC:=fun (y d z z':Nat) (e1:y=dg ms j) (e2:d=dg ds (k+j))=>Qq (cs:=ds) (o:=k) (k:=j) (c:=carry) (lc:=lo cs (k+j)) (lm:=lo ms j) (x:=x) (y:=y) (d:=d) (z:=z) (z':=z') (by rw [hdl.out,hcl.out];omega) hval.out;have hset:=fun v=>hb2.qK (i:=k+j) v (by rw [hdl.out,hcl.out];omega);obtain ⟨y,hy⟩ : ∃ y,y=dg ms j:=⟨_,rfl⟩;obtain ⟨d,hd⟩ : ∃ d,d=dg ds (k+j):=⟨_,rfl⟩;have HST:=Lib.hid (oC y d (lo cs (k+j+1)) (lo ms (j+1)) hy hd (by rw [hd,Hd.out];exact dA _ _) (by rw [hy];exact dA _ _));have qU:=Lib.hid hset;rw [<- hy] at hcell' hlt';rw [<- hd] at hcc xI Hd;clear hy hd oC hset;obtain ⟨L6,L8⟩:=Dq hlt hlt';obtain ⟨P,hP⟩ : ∃ P,P=x*y:=⟨_,rfl⟩;have CB:(x:Int)*(y:Int)=(P:Int):=by rw [hP];simp
     rw [CB] at L6 L8;have hQ1:IntKind.u64.wrap ((x:Int)*(y:Int))=(P:Int):=by rw [CB];exact IntWalk.u64_in _ af
     obtain ⟨Q,hQ⟩ : ∃ Q,Q=P+d:=⟨_,rfl⟩;have hQ2:IntKind.u64.wrap ((P:Int)+(d:Int))=(Q:Int):=by rw [show (P:Int)+(d:Int)=(Q:Int) by omega];exact IntWalk.u64_in _ af
     obtain ⟨D,hD⟩ : ∃ D,D=Q+carry:=⟨_,rfl⟩;have hQ3:IntKind.u64.wrap ((Q:Int)+(carry:Int))=(D:Int):=by rw [show (Q:Int)+(carry:Int)=(D:Int) by omega];exact IntWalk.u64_in _ af
     have EN:Hid (D=carry+(x*y+d)):=Lib.hid af;have hDl:D<=18446744073709551615:=af;obtain ⟨R,hR⟩ : ∃ R,R=D%4294967296:=⟨_,rfl⟩;have hRl:R<4294967296:=af;have hR1:(D:Int)%4294967296=(R:Int):=af;have HR:=Lib.hid hR;obtain ⟨C,hC⟩ : ∃ C,C=D/4294967296:=⟨_,rfl⟩;have Cf:C<4294967296:=af;have hC1:(D:Int)/4294967296=(C:Int):=af;have HC:=Lib.hid hC;clear hP hQ hD hR hC CB
     go_wp2_with fail
     go_quiet (fail)
     go_wp2_with fail
     go_roundw
     case rel =>
      refine ⟨j+1,C,ds.set (k+j) R,af,Cf,by go_num,by go_num,qU.out R,Lib.hid (by rw [av4];exact hdl.out),jk hdw _ hRl,Lib.hid ?_,Lib.hid ?_,Lib.hid ⟨qh (grown_drewN hg.out.1 _) _ _,by simp [World.drewN,hg.out.2]⟩⟩
      ·intro i hi
       rw [kC _ (by rw [hdl.out,hcl.out];omega),if_neg af];exact hsame.out i af
      ·have:=HST.out
       rw [<- EN.out,<- HR.out,<- HC.out] at this;exact this
     case measure=>simp [intOf];omega
    ·obtain rfl:j=m:=af
     have hcc:=hb2.cell (i:=k+j) (by rw [hdl.out,hcl.out];omega);have hfr:=hb2.frozen (k+j);have hkl:Hid (k+j<ds.length):=Lib.hid (by rw [hdl.out,hcl.out];omega);have hset:=Lib.hid (hb2.qK (i:=k+j) carry hkl.out)
     go_wp2_with fail
     go_roundw
     case rel =>
      refine ⟨k+1,ds.set (k+j) carry,af,by go_num,hset.out,Lib.hid (by rw [av4,hdl.out];exact hcl.out),jk hdw _ hcar,Lib.hid ?_,Lib.hid ?_,(below_of_grown hbw hg.out.1 af (avW _)).setCell (avW _) _⟩
      ·rw [show k+1+j=k+j+1 by omega]
       refine VD hkl.out hv.out ?_ (by rw [dA,<- HX.out]);rw [hval.out,dF (l:=ms) (by rw [Hm.out];exact avW _)]
      ·intro i hi
       rw [kC _ hkl.out,if_neg af,hsame.out i af];exact hz.out i af
     case measure=>simp [intOf];omega
  ·obtain rfl:k=n:=af
   have HV:Hid (val cs=val ns*val ms):=Lib.hid (by
    have e:=hv.out
    rwa [dF (by rw [hcl.out];exact avW _),dF (l:=ns) (by rw [Hn.out];exact avW _)] at e)
   go_wp2_with fail
   refine (zN _ cs _ _ _ _ (hb1.rd hcw) (avW _) hcl.out af).mono ?_;rintro e w3 ⟨g,c6,rfl,hc6,jE,hblk,hb6⟩;rw [HV.out] at hc6 hblk;rw [HV.out];have hb7:=bP hbw hb6 (avW _);have hsz:=hbw.size;clear hr hr' hb1
   go_wp2_with fail
   go_ret
   exact ⟨g,c6,rfl,hc6,avX hsz jE,hblk,hb7⟩
end Go.Proofs.BGQ
namespace Lw
open Go Go.RowKit
structure Sn where
 v:Value
 l:List Nat
 k:Nat
def BA(w:World)(e:Sn):Prop := ∃ (A:Option Addr) (n c B:Nat),e.v = .slice A n c/\Rd w B A e.l/\B<=w.heap.size/\e.l.length=n/\n<=c/\n<=e.k
theorem BA.next{w w':World}{e:Sn}(h:BA w e)(hb:Below w.heap.size w w'):BA w' e:=by
 obtain ⟨A,n,c,B,h1,h2,h3,h4⟩:=h;exact ⟨A,n,c,B,h1,h2.next hb h3,avX h3 hb.size,h4⟩
structure eu(t:TypeId)(W0 w:World)(bs:List Bx)(L:List En)(M:List Sn):Prop where
 env:Env t W0 w bs L
 kV : ∀ e∈M,BA w e
variable {t:TypeId} {W0 w w':World} {bs:List Bx} {L:List En} {M:List Sn}
section
variable {s1:Bool} {l1:List Nat} {B1 c1 g1 g2 g3 k1 n1:Nat} {A1:Option Addr} {x1 x2 x3 y1 y2 y3:Value}
theorem eu.next(h:eu t W0 w bs L M)(hb:Below w.heap.size w w'):eu t W0 w' bs L M:=⟨h.env.next hb,fun e he=>(h.kV e he).next hb⟩
theorem eu.drew(h:eu t W0 w bs L M):eu t W0 w.drew bs L M:=h.next (Below.refl _ w).drew
theorem eu.cons(h:eu t W0 w bs L M){e:Sn}(he:BA w e):eu t W0 w bs L (e::M) :=
 ⟨h.env,fun e' h'=>by
  rcases List.mem_cons.1 h' with rfl | h'
  ·exact he
  ·exact h.kV e' h'⟩
theorem Env.lS(h:Env t W0 w [⟨g1,x1,y1⟩,⟨g2,x2,y2⟩,⟨g3,x3,y3⟩] L) :
  w.cell? ⟨g1,0,none⟩=some x1/\w.cell? ⟨g1,1,none⟩=some y1/\w.cell? ⟨g2,0,none⟩=some x2/\w.cell? ⟨g2,1,none⟩=some y2:=by
 obtain ⟨a,b,c,d,_⟩:=h.cells3;exact ⟨a,b,c,d⟩
theorem Env.jH(h:Env t W0 w [⟨g1,x1,y1⟩,⟨g2,x2,y2⟩,⟨g3,x3,y3⟩] L)(h1:g1≠g3)(h2:g2≠g3)(u v:Value) :
  ((w.setCell ⟨g3,0,none⟩ u).setCell ⟨g3,1,none⟩ v).cell? ⟨g1,0,none⟩=some x1/\((w.setCell ⟨g3,0,none⟩ u).setCell ⟨g3,1,none⟩ v).cell? ⟨g1,1,none⟩=some y1 /\
  ((w.setCell ⟨g3,0,none⟩ u).setCell ⟨g3,1,none⟩ v).cell? ⟨g2,0,none⟩=some x2/\((w.setCell ⟨g3,0,none⟩ u).setCell ⟨g3,1,none⟩ v).cell? ⟨g2,1,none⟩=some y2:=by
 obtain ⟨a1,a2,_,_⟩:=(((h.box _ ak).far (p:=⟨g3,0,none⟩) h1 u).far (p:=⟨g3,1,none⟩) h1 v).facts;obtain ⟨b1,b2,_,_⟩:=(((h.box _ au).far (p:=⟨g3,0,none⟩) h2 u).far (p:=⟨g3,1,none⟩) h2 v).facts;exact ⟨a1,a2,b1,b2⟩
theorem Env.agF(h:Env t W0 w [⟨g1,x1,y1⟩,⟨g3,x3,y3⟩] L)(h1:g1≠g3)(u v:Value) :
  ((w.setCell ⟨g3,0,none⟩ u).setCell ⟨g3,1,none⟩ v).cell? ⟨g1,0,none⟩=some x1/\((w.setCell ⟨g3,0,none⟩ u).setCell ⟨g3,1,none⟩ v).cell? ⟨g1,1,none⟩=some y1:=by
 obtain ⟨a1,a2,_,_⟩:=(((h.box _ ak).far (p:=⟨g3,0,none⟩) h1 u).far (p:=⟨g3,1,none⟩) h1 v).facts;exact ⟨a1,a2⟩
theorem Env.third(h:Env t W0 w [⟨g1,x1,y1⟩,⟨g2,x2,y2⟩,⟨g3,x3,y3⟩] L):Two w g3 t x3 y3:=h.box _ ay
theorem Env.second(h:Env t W0 w [⟨g1,x1,y1⟩,⟨g2,x2,y2⟩] L):Two w g2 t x2 y2:=h.box _ au
theorem dK.here{w W:World}{s:Bool}{A:Option Addr}{n c B k:Nat}{l:List Nat}(r:Rd w B A l)(hB:B<=w.heap.size)(hb:Below w.heap.size w W)(h:l.length=n)(hn:n<=k)(hc:n<=c):dK W ⟨.agg #[.bool s,.slice A n c],zv s l,k,vB s l⟩ :=
 ⟨s,A,n,c,l,B,rfl,r.next hb hB,avX hB hb.size,h,hn,hc,rfl,rfl⟩
theorem BF{w:World}{s2:Bool}{A2:Option Addr}{n2 c2 B2 k2:Nat}{l2:List Nat}(t:TypeId)(r1:Rd w B1 A1 l1)(r2:Rd w B2 A2 l2)(hB1:B1<=w.heap.size)(hB2:B2<=w.heap.size)(e1:l1.length=n1)(e2:l2.length=n2)(q1:n1<=c1)(q2:n2<=c2)(h1:n1<=k1)(h2:n2<=k2) :
  eu t w (((w.alloc (.cells #[.bool s1,.slice A1 n1 c1] t)).alloc (.cells #[.bool s2,.slice A2 n2 c2] t)).alloc (.cells #[.bool false,.slice none 0 0] t))
   [⟨w.heap.size,.bool s1,.slice A1 n1 c1⟩,⟨w.heap.size+1,.bool s2,.slice A2 n2 c2⟩,⟨w.heap.size+1+1,.bool false,.slice none 0 0⟩]
   [⟨.agg #[.bool s1,.slice A1 n1 c1],zv s1 l1,k1,vB s1 l1⟩,⟨.agg #[.bool s2,.slice A2 n2 c2],zv s2 l2,k2,vB s2 l2⟩] []:=by
 have hb:=((((Below.refl w.heap.size w).alloc (avW _) (.cells #[.bool s1,.slice A1 n1 c1] t)).alloc (by simp) (.cells #[.bool s2,.slice A2 n2 c2] t)).alloc (by simp;omega) (.cells #[.bool false,.slice none 0 0] t));refine ⟨⟨fun e he => ?_,fun b hb' => ?_,hb⟩,fun e he=>by cases he⟩
 ·simp only [List.mem_cons,List.not_mem_nil,or_false] at he
  rcases he with rfl | rfl
  ·exact dK.here r1 hB1 hb e1 h1 q1
  ·exact dK.here r2 hB2 hb e2 h2 q2
 ·simp only [List.mem_cons,List.not_mem_nil,or_false] at hb'
  rcases hb' with rfl | rfl | rfl
  ·exact ((Two.new w t _ _).alloc _).alloc _
  ·have:=(Two.new (w.alloc (.cells #[.bool s1,.slice A1 n1 c1] t)) t (.bool s2) (.slice A2 n2 c2)).alloc (.cells #[.bool false,.slice none 0 0] t)
   rwa [World.size_alloc] at this
  ·have:=Two.new ((w.alloc (.cells #[.bool s1,.slice A1 n1 c1] t)).alloc (.cells #[.bool s2,.slice A2 n2 c2] t)) t (.bool false) (.slice none 0 0)
   rwa [World.size_alloc,World.size_alloc] at this
theorem aaW{w:World}(t:TypeId)(r1:Rd w B1 A1 l1)(hB1:B1<=w.heap.size)(e1:l1.length=n1)(q1:n1<=c1)(h1:n1<=k1) :
  eu t w ((w.alloc (.cells #[.bool s1,.slice A1 n1 c1] t)).alloc (.cells #[.bool false,.slice none 0 0] t))
   [⟨w.heap.size,.bool s1,.slice A1 n1 c1⟩,⟨w.heap.size+1,.bool false,.slice none 0 0⟩]
   [⟨.agg #[.bool s1,.slice A1 n1 c1],zv s1 l1,k1,vB s1 l1⟩] []:=by
 have hb:=(((Below.refl w.heap.size w).alloc (avW _) (.cells #[.bool s1,.slice A1 n1 c1] t)).alloc (by simp) (.cells #[.bool false,.slice none 0 0] t));refine ⟨⟨fun e he => ?_,fun b hb' => ?_,hb⟩,fun e he=>by cases he⟩
 ·simp only [List.mem_cons,List.not_mem_nil,or_false] at he
  rcases he with rfl;exact dK.here r1 hB1 hb e1 h1 q1
 ·simp only [List.mem_cons,List.not_mem_nil,or_false] at hb'
  rcases hb' with rfl | rfl
  ·exact (Two.new w t _ _).alloc _
  ·have:=Two.new (w.alloc (.cells #[.bool s1,.slice A1 n1 c1] t)) t (.bool false) (.slice none 0 0)
   rwa [World.size_alloc] at this
end
end Lw
namespace Go.Proofs.BGQ
open Go Go.RowKit Lw
section
variable {t:TypeId} {W0 w:World} {bs:List Bx} {L:List En} {M:List Sn} {v u u':Value} {x:Int} {k k':Nat} {b:Bool} {l l':List Nat}
theorem N7{N K:Nat}{e:Ending}{w':World}(HE:eu t W0 w bs L M)(h:xk w N e w')(hk:(bn N).length<=K) : ∃ u,e = .returned u/\eu t W0 w' bs L (⟨u,bn N,K⟩::M):=by
 obtain ⟨g,c,rfl,hc,hg,hblk,hb⟩:=h;exact ⟨_,rfl,(HE.next hb).cons ⟨_,_,c,_,rfl,hblk.rd (dY _),avW _,rfl,hc,hk⟩⟩
theorem zH(HE:eu t W0 w bs L M)(h:⟨v,x,k,b⟩∈L)(hk:k<=100000) :
  Calls Tryz.prog 145 #[v] w fun e w' => ∃ u,e = .returned u/\eu t W0 w' bs L (⟨u,mg x,k⟩::M):=by
 obtain ⟨s,A,n,c,ns,B,e1,h2,h3,h4,h5,h6,e7,h8⟩:=HE.env.ops _ h;dsimp only at e1 e7 h5;subst e1 e7;refine (MJ s A ns n c B w h2 h3 h4 af h6).mono ?_;rintro e w' ⟨A',c',rfl,hc,hr,hb⟩;have hl:=kX (s:=s) h2.bU;exact ⟨_,rfl,(HE.next hb).cons ⟨A',_,c',B,rfl,hr,avX h3 hb.size,rfl,hc,by show _<=k;omega⟩⟩
theorem vP(HE:eu t W0 w bs L M)(h:⟨v,x,k,b⟩∈L)(hk:k<=100000) :
  Calls Tryz.prog 146 #[v] w fun e w'=>e = .returned (.bool (sg x))/\eu t W0 w' bs L M:=by
 obtain ⟨s,A,n,c,ns,B,e1,h2,h3,h4,h5,h6,e7,h8⟩:=HE.env.ops _ h;dsimp only at e1 e7 h5;subst e1 e7;exact (NC s A ns n c B w h2 h3 h4 af).mono fun e w' hh=>⟨hh.1,HE.next hh.2⟩
theorem Wu(HE:eu t W0 w bs L M)(h:⟨u,l,k⟩∈M)(h':⟨u',l',k'⟩∈M)(hk:k+k'<=100000) :
  Calls Tryz.prog 150 #[u,u'] w fun e w' => ∃ u,e = .returned u/\eu t W0 w' bs L (⟨u,bn (val l+val l'),k+k'+1⟩::M):=by
 obtain ⟨A,n,c,B,e1,h2,h3,h4,h5,h6⟩:=HE.kV _ h;obtain ⟨A',n',c',B',e1',h2',h3',h4',h5',h6'⟩:=HE.kV _ h';dsimp only at *;subst e1 e1'
 have hz:(bn (val l+val l')).length<=k+k'+1:=iy (by
  have:=zG (x:=(val l:Int)) (y:=(val l':Int)) (k:=k) (k':=k') (by rw [av2];exact av1 (fG h2.bU) (fM af)) (by rw [av2];exact av1 (fG h2'.bU) (fM af))
  rwa [<- awV,av2] at this)
 exact (D6 A A' l l' n n' c c' B B' w h2 h2' h3 h3' h4 h4' af af).mono fun e w' hh=>N7 HE hh hz
theorem MK(HE:eu t W0 w bs L M)(h:⟨u,l,k⟩∈M)(h':⟨u',l',k'⟩∈M)(hk:k+k'<=100000)(ht:eP l')(hle:val l'<=val l) :
  Calls Tryz.prog 152 #[u,u'] w fun e w' => ∃ u,e = .returned u/\eu t W0 w' bs L (⟨u,bn (val l-val l'),k⟩::M):=by
 obtain ⟨A,n,c,B,e1,h2,h3,h4,h5,h6⟩:=HE.kV _ h;obtain ⟨A',n',c',B',e1',h2',h3',h4',h5',h6'⟩:=HE.kV _ h';dsimp only at *;subst e1 e1';have hz:(bn (val l-val l')).length<=k:=iy (awh (Nat.sub_le _ _) (av1 (fG h2.bU) (fM af)));exact (ahU A A' l l' n n' c c' B B' w h2 h2' h3 h3' h4 h4' af af ht hle).mono fun e w' hh=>N7 HE hh hz
theorem abM(HE:eu t W0 w bs L M)(h:⟨u,l,k⟩∈M)(h':⟨u',l',k'⟩∈M)(hk:k+k'<=100000) :
  Calls Tryz.prog 151 #[u,u'] w fun e w'=>e = .returned (.int .i64 (jB (val l) (val l')))/\eu t W0 w' bs L M:=by
 obtain ⟨A,n,c,B,e1,h2,h3,h4,h5,h6⟩:=HE.kV _ h;obtain ⟨A',n',c',B',e1',h2',h3',h4',h5',h6'⟩:=HE.kV _ h';dsimp only at *;subst e1 e1';refine (D5 A A' l l' n n' c c' B B' w h2 h2' h4 h4' af af).mono ?_;rintro e w' ⟨rfl,rfl⟩;exact ⟨rfl,HE⟩
theorem xy(s:Bool)(z:Int)(HE:eu t W0 w bs L M)(h:⟨u,l,k⟩∈M)(hk:k<=100000)(hz:z=if s then -(val l:Int) else (val l:Int)) :
  Calls Tryz.prog 143 #[.bool s,u] w fun e w' => ∃ A c,e = .returned (.agg #[.bool (sg z),.slice A (mg z).length c])/\(mg z).length<=c/\Rd w' w'.heap.size A (mg z)/\eu t W0 w' bs L M:=by
 obtain ⟨A,n,c,B,e1,h2,h3,h4,h5,h6⟩:=HE.kV _ h;dsimp only at *;subst e1;refine (zh s A l n c B z w h2 h3 h4 af hz).mono ?_;rintro e w' ⟨A',c',rfl,hc,hr,hb⟩;exact ⟨A',c',rfl,hc,hr,HE.next hb⟩
end
end Go.Proofs.BGQ
