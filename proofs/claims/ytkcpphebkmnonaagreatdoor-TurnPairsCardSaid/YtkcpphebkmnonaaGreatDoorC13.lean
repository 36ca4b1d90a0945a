/- Part of a proof, said shortly. -/
import Derived.BigQuiet
import Derived.Deep.RegionHeld3
import Derived.Test.YtkcpphebkmnonaaGreatDoorAlz
import Derived.Test.YtkcpphebkmnonaaGreatDoorC4
import Derived.Test.YtkcpphebkmnonaaGreatDoorC2
import Derived.Test.YtkcpphebkmnonaaGreatDoorC1
import Derived.Test.YtkcpphebkmnonaaGreatDoorC3
namespace Lw
open Go
theorem V8{a b:List Nat}{k M:Nat}(hk:k<=M)(h : ∀ j,k<=j->j<M->dg a j=dg b j) : ∃ z,lo a M=lo a k+z/\lo b M=lo b k+z:=by
 induction M with
 | zero =>
  simp_all
 | succ M ih =>
  rcases auA k (M+1) with h1 | h1
  ·obtain ⟨z,e1,e2⟩:=ih af (fun j hj hj'=>h j hj af)
   have:=h M af af;refine ⟨z+pw M*dg a M,?_,?_⟩
   ·rw [dh,e1];omega
   ·rw [dh,e2,<- this];omega
  ·have:k=M+1:=af
   simp_all
def Agree(a b:List Nat)(k:Nat):Prop := ∀ j,k<=j->dg a j=dg b j
theorem ada{a b:List Nat}{M:Nat}(ha:a.length<=M)(hb:b.length<=M):Agree a b M:=fun j hj=>by rw [uh af,uh af]
theorem adb{a b:List Nat}{k:Nat}(h:Agree a b (k+1))(hd:dg a k=dg b k):Agree a b k:=fun j hj=>by
 rcases auA k j with h1 | h1
 ·exact h j h1
 ·have:j=k:=af
  subst this;exact hd
theorem Sv{a b:List Nat}{k:Nat}(wa:bK a)(h:Agree a b (k+1))(hd:dg a k<dg b k):val a<val b:=by
 obtain ⟨z,e1,e2⟩:=V8 (a:=a) (b:=b) (k:=k+1) (M:=a.length+b.length+(k+1)) af (fun j hj _=>h j hj);rw [dB af,dh] at e1 e2;have h3:=kY wa k;have h4:pw k*(dg a k+1)<=pw k*dg b k:=auG _ hd;grind
theorem ade{a b:List Nat}(h:Agree a b 0):val a=val b:=by
 obtain ⟨z,e1,e2⟩:=V8 (a:=a) (b:=b) (k:=0) (M:=a.length+b.length) af (fun j hj _=>h j hj);rw [dB af] at e1 e2;rw [iW] at e1 e2;omega
end Lw
namespace Go.Proofs.BGQ
open Go Go.RowKit Lw
set_option maxRecDepth 100000 in
set_option maxHeartbeats 1600000 in
theorem Fq(A A':Option Addr)(ns ms:List Nat)(n m c c' B B':Nat)(w:World)(h:Rd w B A ns)(h':Rd w B' A' ms)(hn:ns.length=n)(hm:ms.length=m)(hl:n<=16777216)(hl':m<=16777216) :
  Calls Tryz.prog 151 #[.slice A n c,.slice A' m c'] w fun e w'=>e = .returned (.int .i64 (jl (val ns) (val ms)))/\w=w':=by
 have Hn:=Lib.hid hn;have Hm:=Lib.hid hm;clear hn hm;obtain ⟨M,hM,hM1,hM2⟩ : ∃ M:Nat,(max (n:Int) (m:Int))=(M:Int)/\n<=M/\m<=M:=⟨max n m,af,af,af⟩;have Ee:M<=16777216:=af
 go_enter Tryz.func151,Tryz.ntmps151
 go_wp2_with fail
 go_loopw [5] (fun v wr => ∃ i:Int,-1<=i/\i<M/\v = .int .i64 i/\Hid (Agree ns ms (i+1).toNat)/\w=wr) (fun v _=>(intOf v+1).toNat)
 case atStart=>exact ⟨(M:Int)-1,af,af,rfl,Lib.hid (by rw [show ((M:Int)-1+1).toNat=M by omega];exact ada (by rw [Hn.out];exact hM1) (by rw [Hm.out];exact hM2)),rfl⟩
 case round =>
  obtain ⟨i,hi,hiM,rfl,hag,rfl⟩:=hrel
  by_cases h0:i<0
  ·have HV:Hid (val ns=val ms):=Lib.hid (ade (by have:=hag.out;rwa [show (i+1).toNat=0 by omega] at this))
   go_wp2_with fail
   go_ret
   exact ⟨dU (by rw [Hq HV.out]),rfl⟩
  ·obtain ⟨k,rfl⟩:=au8 (show 0<=i from af)
   have hs1:Hid (Agree ns ms (k+1)):=Lib.hid (by have:=hag.out;rwa [show ((k:Int)+1).toNat=k+1 by omega] at this);clear hag;have hlt':=gI h'.bP k;rcases Nat.lt_trichotomy (dg ns k) (dg ms k) with hd | hd | hd
   ·have hb1:((dg ns k:Int) != (dg ms k:Int))=true:=by rw [bne_iff_ne];omega
    have HR:=Lib.hid (zZ (Sv h.bP hs1.out hd))
    go_wp2_with fail
    refine (kW A ns n c B k _ h Hn.out af).mono ?_;rintro e w' ⟨rfl,rfl⟩
    go_wp2_with fail
    refine (kW A' ms m c' B' k _ h' Hm.out af).mono ?_;rintro e w' ⟨rfl,rfl⟩
    go_wp2_with fail
    refine (kW A ns n c B k _ h Hn.out af).mono ?_;rintro e w' ⟨rfl,rfl⟩
    go_wp2_with fail
    refine (kW A' ms m c' B' k _ h' Hm.out af).mono ?_;rintro e w' ⟨rfl,rfl⟩
    go_wp2_with fail
    go_ret
    exact ⟨dU (by rw [HR.out]),rfl⟩
   ·have hb1:((dg ns k:Int) != (dg ms k:Int))=false:=by rw [bne_eq_false_iff_eq];omega
    have HS:=Lib.hid (adb hs1.out hd)
    go_wp2_with fail
    refine (kW A ns n c B k _ h Hn.out af).mono ?_;rintro e w' ⟨rfl,rfl⟩
    go_wp2_with fail
    refine (kW A' ms m c' B' k _ h' Hm.out af).mono ?_;rintro e w' ⟨rfl,rfl⟩
    go_wp2_with fail
    go_roundw
    case rel=>exact ⟨(k:Int)-1,af,af,rfl,Lib.hid (by rw [show ((k:Int)-1+1).toNat=k by omega];exact HS.out),trivial⟩
    case measure=>simp [intOf]
   ·have hb1:((dg ns k:Int) != (dg ms k:Int))=true:=by rw [bne_iff_ne];omega
    have HR:=Lib.hid (DC (Sv h'.bP (fun j hj=>(hs1.out j hj).symm) hd))
    go_wp2_with fail
    refine (kW A ns n c B k _ h Hn.out af).mono ?_;rintro e w' ⟨rfl,rfl⟩
    go_wp2_with fail
    refine (kW A' ms m c' B' k _ h' Hm.out af).mono ?_;rintro e w' ⟨rfl,rfl⟩
    go_wp2_with fail
    refine (kW A ns n c B k _ h Hn.out af).mono ?_;rintro e w' ⟨rfl,rfl⟩
    go_wp2_with fail
    refine (kW A' ms m c' B' k _ h' Hm.out af).mono ?_;rintro e w' ⟨rfl,rfl⟩
    go_wp2_with fail
    go_ret
    exact ⟨dU (by rw [HR.out]),rfl⟩
end Go.Proofs.BGQ
namespace Lw
open Go
theorem ah8{cs ns ms:List Nat}{k carry R:Nat}(hl:cs.length=k)(hv:val cs+pw k*carry=lo ns k+lo ms k)(hR:R=(dg ns k+dg ms k+carry)%4294967296) :
  val (cs++[R])+pw (k+1)*((dg ns k+dg ms k+carry)/4294967296)=lo ns (k+1)+lo ms (k+1):=by
 rw [aaf,hl,dh,dh,fK,hR];have h:=avc (dg ns k+dg ms k+carry) 4294967296;generalize (dg ns k+dg ms k+carry)/4294967296=q at *;generalize (dg ns k+dg ms k+carry)%4294967296=r at *;have h2:pw k*(4294967296*q+r)=pw k*(dg ns k+dg ms k+carry):=by rw [h]
 grind
theorem ah6{cs ns ms:List Nat}{k carry M:Nat}(wn:bK ns)(wm:bK ms)(hn:ns.length<=M)(hm:ms.length<=M)(hk:k=M+1)(hv:val cs+pw k*carry=lo ns k+lo ms k):val cs=val ns+val ms:=by
 subst hk;rw [dB af,dB af] at hv;have h1:=eP wn;have h2:=eP wm;have h3:=fJ hn;have h4:=fJ hm;rw [fK] at hv;rcases auJ carry with h0 | h0
 ·grind
 ·have:4294967296*pw M*1<=4294967296*pw M*carry:=auG _ h0
  omega
theorem ahn{cs ns ms:List Nat}{k b d R:Nat}(hl:cs.length=k)(hv:val cs+lo ms k=lo ns k+pw k*b)(hb:b<=1)(hn:dg ns k<4294967296)(hm:dg ms k<4294967296)(hd:d=4294967296+dg ns k-dg ms k-b)(hR:R=d%4294967296) :
  val (cs++[R])+lo ms (k+1)=lo ns (k+1)+pw (k+1)*(1-d/4294967296)/\1-d/4294967296<=1:=by
 refine ⟨?_,af⟩;rw [aaf,hl,dh,dh,fK];have h5:R+dg ms k+b=dg ns k+4294967296*(1-d/4294967296):=af;generalize 1-d/4294967296=q at *;have h2:pw k*(R+dg ms k+b)=pw k*(dg ns k+4294967296*q):=by rw [h5]
 grind
theorem WR{cs ns ms:List Nat}{b:Nat}(wc:bK cs)(hl:cs.length=ns.length)(hm:ms.length<=ns.length)(hle:val ms<=val ns)(hv:val cs+lo ms ns.length=lo ns ns.length+pw ns.length*b):val cs=val ns-val ms:=by
 rw [dB hm,dB (aut _)] at hv;have h1:=eP wc;rw [hl] at h1;rcases auJ b with h0 | h0
 ·grind
 ·have:pw ns.length*1<=pw ns.length*b:=auG _ h0
  omega
end Lw
namespace Go.Proofs.BGQ
open Go Go.RowKit Lw
set_option maxRecDepth 100000 in
set_option maxHeartbeats 3200000 in
theorem Yy(A A':Option Addr)(ns ms:List Nat)(n m c c' B B':Nat)(w:World)(h:Rd w B A ns)(h':Rd w B' A' ms)(hB:B<=w.heap.size)(hB':B'<=w.heap.size)(hn:ns.length=n)(hm:ms.length=m)(hl:n<=16777216)(hl':m<=16777216) :
  Calls Tryz.prog 150 #[.slice A n c,.slice A' m c'] w (zV w (val ns+val ms)):=by
 have Hn:=Lib.hid hn;have Hm:=Lib.hid hm;clear hn hm;obtain ⟨M,hM,hM1,hM2⟩ : ∃ M:Nat,(max (n:Int) (m:Int))=(M:Int)/\n<=M/\m<=M:=⟨max n m,af,af,af⟩;have Ee:M<=16777216:=af
 go_enter Tryz.func150,Tryz.ntmps150
 go_wp2_with fail
 go_loopw [5,6,15] (fun v cv iv wr => ∃ (k carry:Nat) (cs:List Nat),k<=M+1/\carry<=1/\iv = .int .i64 k/\cv = .int .u64 carry/\wr.ownsRow w.heap.size 113 1 v k (arr cs)/\bK cs /\
   Hid (val cs+pw k*carry=lo ns k+lo ms k)/\Below w.heap.size w wr) (fun _ _ i _=>M+1-(intOf i).toNat)
 case atStart=>exact ⟨0,0,[],af,af,rfl,rfl,World.ownsRow_nil _ _ _ _,nI,Lib.hid (by rw [iW,iW];rfl),Below.refl _ _⟩
 case round =>
  obtain ⟨k,carry,cs,hk,hcar,rfl,rfl,hown,hcw,hv,hbw⟩:=hrel;have hr:=h.below (hbw.mono hB);have hr':=h'.below (hbw.mono hB');have hsz:=hbw.size;have hlen:=hown.1;rw [uK,auW] at hlen;have HL:=Lib.hid hlen;clear hlen
  by_cases hkM:k<M+1
  ·have hlt:=gI h.bP k
   have hlt':=gI h'.bP k;obtain ⟨D,hD⟩ : ∃ D,D=dg ns k+dg ms k+carry:=⟨_,rfl⟩;obtain ⟨R,hR⟩ : ∃ R,R=D%4294967296:=⟨_,rfl⟩;have HST:=Lib.hid (ah8 (R:=R) HL.out hv.out (by rw [hR,hD]));rw [<- hD] at HST;have hDl:D<=8589934591:=af;have hRl:R<4294967296:=af;have hD1:((dg ns k:Int)+((dg ms k:Int)+(carry:Int)))=(D:Int):=af;have hD2:(((dg ns k:Int)+(dg ms k:Int))+(carry:Int))=(D:Int):=af;have hR1:(D:Int)%4294967296=(R:Int):=af;clear hD hR
   go_wp2_with fail
   refine (kW A ns n c B k _ hr Hn.out af).mono ?_;rintro e w' ⟨rfl,rfl⟩
   go_wp2_with fail
   refine (kW A' ms m c' B' k _ hr' Hm.out af).mono ?_;rintro e w' ⟨rfl,rfl⟩;have Eu:=(bM.new wr 113 [R]).rd (by rw [oM];exact ⟨af,nI⟩)
   go_wp2_with (at_builtin;refine P7 _ rfl _ _ 22 rfl w.heap.size 113 ate l9 _ k cs rfl (hown.alloc _) _ _ [R] 1 1 rfl Eu rfl af (by simp;omega) ?_;intro v' w4 hown4 hgrow4 hnil)
   have hgrow:(wr.alloc (.cells #[.int .u32 (R:Int)] 113)).grownBy w4 u5.ownBlock:=hgrow4;have hb5:Below w.heap.size w w4:=(hbw.alloc af _).grown hgrow (by simp;omega) (fun k hk=>(hown.lt k hk).1);clear hgrow4 hnil hgrow Eu
   go_roundw
   case rel =>
    refine ⟨k+1,D/4294967296,cs++[R],af,af,by go_num,by go_num,hown4,aaG.2 ⟨hcw,by rw [oM];exact ⟨hRl,nI⟩⟩,HST,hb5⟩
   case measure=>simp [intOf];omega
  ·obtain rfl:k=M+1:=af
   have HV:=Lib.hid (ah6 h.bP h'.bP (by rw [Hn.out];exact hM1) (by rw [Hm.out];exact hM2) rfl hv.out);obtain ⟨A5,c5,rfl,oV,hl5⟩:=Xv hown hcw
   go_wp2_with fail
   refine (Fv A5 cs _ c5 _ _ oV (aut _) hl5 af).mono ?_;rintro e w3 ⟨g,c6,rfl,hc6,jo,hblk,hb6⟩;rw [HV.out] at hc6 hblk;rw [HV.out];have hb7:=bU hbw hb6 (aut _);clear hown oV hr hr'
   go_wp2_with fail
   go_ret
   exact ⟨g,c6,rfl,hc6,auu hsz jo,hblk,hb7⟩
set_option maxRecDepth 100000 in
set_option maxHeartbeats 3200000 in
theorem ajR(A A':Option Addr)(ns ms:List Nat)(n m c c' B B':Nat)(w:World)(h:Rd w B A ns)(h':Rd w B' A' ms)(hB:B<=w.heap.size)(hB':B'<=w.heap.size)(hn:ns.length=n)(hm:ms.length=m)(hl:n<=16777216)(hl':m<=16777216)(ht:gW ms)(hle:val ms<=val ns) :
  Calls Tryz.prog 152 #[.slice A n c,.slice A' m c'] w (zV w (val ns-val ms)):=by
 have Hn:=Lib.hid hn;have Hm:=Lib.hid hm
 have GX:Hid (m<=n):=Lib.hid (by
  rcases auJ m with h0 | h0
  ·omega
  ·have h1:=Je ht (by intro e;rw [e] at hm;simp at hm;omega)
   have h2:=eP h.bP;rw [hm] at h1;rw [hn] at h2;rcases auA n m with h3 | h3
   ·have:=fJ (a:=n) (b:=m-1) af;omega
   ·exact h3)
 have lX:=Lib.hid hle;clear hn hm hle
 go_enter Tryz.func152,Tryz.ntmps152
 go_wp2_with fail
 go_loopw [5,6,11] (fun v bv iv wr => ∃ (k b:Nat) (cs:List Nat),k<=n/\b<=1/\iv = .int .i64 k/\bv = .int .u64 b/\wr.ownsRow w.heap.size 113 1 v k (arr cs)/\bK cs /\
   Hid (val cs+lo ms k=lo ns k+pw k*b)/\Below w.heap.size w wr) (fun _ _ i _=>n-(intOf i).toNat)
 case atStart=>exact ⟨0,0,[],af,af,rfl,rfl,World.ownsRow_nil _ _ _ _,nI,Lib.hid (by rw [iW,iW];rfl),Below.refl _ _⟩
 case round =>
  obtain ⟨k,b,cs,hk,hcar,rfl,rfl,hown,hcw,hv,hbw⟩:=hrel;have hr:=h.below (hbw.mono hB);have hr':=h'.below (hbw.mono hB');have hsz:=hbw.size;have hlen:=hown.1;rw [uK,auW] at hlen;have HL:=Lib.hid hlen;clear hlen
  by_cases hkM:k<n
  ·have hlt:=gI h.bP k
   have hlt':=gI h'.bP k;obtain ⟨D,hD⟩ : ∃ D,D=4294967296+dg ns k-dg ms k-b:=⟨_,rfl⟩;obtain ⟨R,hR⟩ : ∃ R,R=D%4294967296:=⟨_,rfl⟩;have HST:=Lib.hid (ahn (R:=R) HL.out hv.out hcar hlt hlt' hD hR);have hDl:D<=8589934591:=af;have hRl:R<4294967296:=af;have hD1:((4294967296:Int)+(dg ns k:Int)-(dg ms k:Int)-(b:Int))=(D:Int):=af;have hR1:(D:Int)%4294967296=(R:Int):=af;clear hD hR
   go_wp2_with fail
   refine (kW A ns n c B k _ hr Hn.out af).mono ?_;rintro e w' ⟨rfl,rfl⟩
   go_wp2_with fail
   refine (kW A' ms m c' B' k _ hr' Hm.out af).mono ?_;rintro e w' ⟨rfl,rfl⟩;have Eu:=(bM.new wr 113 [R]).rd (by rw [oM];exact ⟨af,nI⟩)
   go_wp2_with (at_builtin;refine P7 _ rfl _ _ 22 rfl w.heap.size 113 ate l9 _ k cs rfl (hown.alloc _) _ _ [R] 1 1 rfl Eu rfl af (by simp;omega) ?_;intro v' w4 hown4 hgrow4 hnil)
   have hgrow:(wr.alloc (.cells #[.int .u32 (R:Int)] 113)).grownBy w4 u5.ownBlock:=hgrow4;have hb5:Below w.heap.size w w4:=(hbw.alloc af _).grown hgrow (by simp;omega) (fun k hk=>(hown.lt k hk).1);clear hgrow4 hnil hgrow Eu
   go_roundw
   case rel =>
    refine ⟨k+1,1-D/4294967296,cs++[R],af,af,by go_num,by go_num,hown4,aaG.2 ⟨hcw,by rw [oM];exact ⟨hRl,nI⟩⟩,Lib.hid HST.out.1,hb5⟩
   case measure=>simp [intOf];omega
  ·obtain rfl:k=n:=af
   have HV:Hid (val cs=val ns-val ms):=Lib.hid (WR hcw (by rw [HL.out,Hn.out]) (by rw [Hm.out,Hn.out];exact GX.out) lX.out (by rw [Hn.out];exact hv.out));obtain ⟨A5,c5,rfl,oV,hl5⟩:=Xv hown hcw
   go_wp2_with fail
   refine (Fv A5 cs _ c5 _ _ oV (aut _) hl5 af).mono ?_;rintro e w3 ⟨g,c6,rfl,hc6,jo,hblk,hb6⟩;rw [HV.out] at hc6 hblk;rw [HV.out];have hb7:=bU hbw hb6 (aut _);clear hown oV hr hr'
   go_wp2_with fail
   go_ret
   exact ⟨g,c6,rfl,hc6,auu hsz jo,hblk,hb7⟩
end Go.Proofs.BGQ
namespace Lw
open Go Go.RowKit
theorem grown_drewN{a w:World}{g:Option Nat}(h:a.grownBy w g)(k:Nat):a.grownBy (w.drewN k) g:=⟨h.os,h.tape,h.output,h.size,h.block⟩
end Lw
namespace Lw
open Go Go.RowKit
structure Sn where
 v:Value
 l:List Nat
 k:Nat
def Dc(w:World)(e:Sn):Prop := ∃ (A:Option Addr) (n c B:Nat),e.v = .slice A n c/\Rd w B A e.l/\B<=w.heap.size/\e.l.length=n/\n<=c/\n<=e.k
theorem Dc.next{w w':World}{e:Sn}(h:Dc w e)(hb:Below w.heap.size w w'):Dc w' e:=by
 obtain ⟨A,n,c,B,h1,h2,h3,h4⟩:=h;exact ⟨A,n,c,B,h1,h2.next hb h3,auu h3 hb.size,h4⟩
structure dM(t:TypeId)(W0 w:World)(bs:List Bx)(L:List En)(M:List Sn):Prop where
 env:Env t W0 w bs L
 lG : ∀ e∈M,Dc w e
variable {t:TypeId} {W0 w w':World} {bs:List Bx} {L:List En} {M:List Sn}
section
variable {s1:Bool} {l1:List Nat} {B1 c1 g1 g2 g3 k1 n1:Nat} {A1:Option Addr} {x1 x2 x3 y1 y2 y3:Value}
theorem dM.next(h:dM t W0 w bs L M)(hb:Below w.heap.size w w'):dM t W0 w' bs L M:=⟨h.env.next hb,fun e he=>(h.lG e he).next hb⟩
theorem dM.drew(h:dM t W0 w bs L M):dM t W0 w.drew bs L M:=h.next (Below.refl _ w).drew
theorem dM.cons(h:dM t W0 w bs L M){e:Sn}(he:Dc w e):dM t W0 w bs L (e::M) :=
 ⟨h.env,fun e' h'=>by
  rcases List.mem_cons.1 h' with rfl | h'
  ·exact he
  ·exact h.lG e' h'⟩
theorem Env.lZ(h:Env t W0 w [⟨g1,x1,y1⟩,⟨g2,x2,y2⟩,⟨g3,x3,y3⟩] L) :
  w.cell? ⟨g1,0,none⟩=some x1/\w.cell? ⟨g1,1,none⟩=some y1/\w.cell? ⟨g2,0,none⟩=some x2/\w.cell? ⟨g2,1,none⟩=some y2:=by
 obtain ⟨a,b,c,d,_⟩:=h.cells3;exact ⟨a,b,c,d⟩
theorem Env.jr(h:Env t W0 w [⟨g1,x1,y1⟩,⟨g2,x2,y2⟩,⟨g3,x3,y3⟩] L)(h1:g1≠g3)(h2:g2≠g3)(u v:Value) :
  ((w.setCell ⟨g3,0,none⟩ u).setCell ⟨g3,1,none⟩ v).cell? ⟨g1,0,none⟩=some x1/\((w.setCell ⟨g3,0,none⟩ u).setCell ⟨g3,1,none⟩ v).cell? ⟨g1,1,none⟩=some y1 /\
  ((w.setCell ⟨g3,0,none⟩ u).setCell ⟨g3,1,none⟩ v).cell? ⟨g2,0,none⟩=some x2/\((w.setCell ⟨g3,0,none⟩ u).setCell ⟨g3,1,none⟩ v).cell? ⟨g2,1,none⟩=some y2:=by
 obtain ⟨a1,a2,_,_⟩:=(((h.box _ ak).far (p:=⟨g3,0,none⟩) h1 u).far (p:=⟨g3,1,none⟩) h1 v).facts;obtain ⟨b1,b2,_,_⟩:=(((h.box _ au).far (p:=⟨g3,0,none⟩) h2 u).far (p:=⟨g3,1,none⟩) h2 v).facts;exact ⟨a1,a2,b1,b2⟩
theorem Env.aia(h:Env t W0 w [⟨g1,x1,y1⟩,⟨g3,x3,y3⟩] L)(h1:g1≠g3)(u v:Value) :
  ((w.setCell ⟨g3,0,none⟩ u).setCell ⟨g3,1,none⟩ v).cell? ⟨g1,0,none⟩=some x1/\((w.setCell ⟨g3,0,none⟩ u).setCell ⟨g3,1,none⟩ v).cell? ⟨g1,1,none⟩=some y1:=by
 obtain ⟨a1,a2,_,_⟩:=(((h.box _ ak).far (p:=⟨g3,0,none⟩) h1 u).far (p:=⟨g3,1,none⟩) h1 v).facts;exact ⟨a1,a2⟩
theorem Env.third(h:Env t W0 w [⟨g1,x1,y1⟩,⟨g2,x2,y2⟩,⟨g3,x3,y3⟩] L):Two w g3 t x3 y3:=h.box _ ay
theorem Env.second(h:Env t W0 w [⟨g1,x1,y1⟩,⟨g2,x2,y2⟩] L):Two w g2 t x2 y2:=h.box _ au
theorem dJ.here{w W:World}{s:Bool}{A:Option Addr}{n c B k:Nat}{l:List Nat}(r:Rd w B A l)(hB:B<=w.heap.size)(hb:Below w.heap.size w W)(h:l.length=n)(hn:n<=k)(hc:n<=c):dJ W ⟨.agg #[.bool s,.slice A n c],zv s l,k,vB s l⟩ :=
 ⟨s,A,n,c,l,B,rfl,r.next hb hB,auu hB hb.size,h,hn,hc,rfl,rfl⟩
theorem Dj{w:World}{s2:Bool}{A2:Option Addr}{n2 c2 B2 k2:Nat}{l2:List Nat}(t:TypeId)(r1:Rd w B1 A1 l1)(r2:Rd w B2 A2 l2)(hB1:B1<=w.heap.size)(hB2:B2<=w.heap.size)(e1:l1.length=n1)(e2:l2.length=n2)(q1:n1<=c1)(q2:n2<=c2)(h1:n1<=k1)(h2:n2<=k2) :
  dM t w (((w.alloc (.cells #[.bool s1,.slice A1 n1 c1] t)).alloc (.cells #[.bool s2,.slice A2 n2 c2] t)).alloc (.cells #[.bool false,.slice none 0 0] t))
   [⟨w.heap.size,.bool s1,.slice A1 n1 c1⟩,⟨w.heap.size+1,.bool s2,.slice A2 n2 c2⟩,⟨w.heap.size+1+1,.bool false,.slice none 0 0⟩]
   [⟨.agg #[.bool s1,.slice A1 n1 c1],zv s1 l1,k1,vB s1 l1⟩,⟨.agg #[.bool s2,.slice A2 n2 c2],zv s2 l2,k2,vB s2 l2⟩] []:=by
 have hb:=((((Below.refl w.heap.size w).alloc (aut _) (.cells #[.bool s1,.slice A1 n1 c1] t)).alloc (by simp) (.cells #[.bool s2,.slice A2 n2 c2] t)).alloc (by simp;omega) (.cells #[.bool false,.slice none 0 0] t));refine ⟨⟨fun e he => ?_,fun b hb' => ?_,hb⟩,fun e he=>by cases he⟩
 ·simp only [List.mem_cons,List.not_mem_nil,or_false] at he
  rcases he with rfl | rfl
  ·exact dJ.here r1 hB1 hb e1 h1 q1
  ·exact dJ.here r2 hB2 hb e2 h2 q2
 ·simp only [List.mem_cons,List.not_mem_nil,or_false] at hb'
  rcases hb' with rfl | rfl | rfl
  ·exact ((Two.new w t _ _).alloc _).alloc _
  ·have:=(Two.new (w.alloc (.cells #[.bool s1,.slice A1 n1 c1] t)) t (.bool s2) (.slice A2 n2 c2)).alloc (.cells #[.bool false,.slice none 0 0] t)
   rwa [World.size_alloc] at this
  ·have:=Two.new ((w.alloc (.cells #[.bool s1,.slice A1 n1 c1] t)).alloc (.cells #[.bool s2,.slice A2 n2 c2] t)) t (.bool false) (.slice none 0 0)
   rwa [World.size_alloc,World.size_alloc] at this
theorem ads{w:World}(t:TypeId)(r1:Rd w B1 A1 l1)(hB1:B1<=w.heap.size)(e1:l1.length=n1)(q1:n1<=c1)(h1:n1<=k1) :
  dM t w ((w.alloc (.cells #[.bool s1,.slice A1 n1 c1] t)).alloc (.cells #[.bool false,.slice none 0 0] t))
   [⟨w.heap.size,.bool s1,.slice A1 n1 c1⟩,⟨w.heap.size+1,.bool false,.slice none 0 0⟩]
   [⟨.agg #[.bool s1,.slice A1 n1 c1],zv s1 l1,k1,vB s1 l1⟩] []:=by
 have hb:=(((Below.refl w.heap.size w).alloc (aut _) (.cells #[.bool s1,.slice A1 n1 c1] t)).alloc (by simp) (.cells #[.bool false,.slice none 0 0] t));refine ⟨⟨fun e he => ?_,fun b hb' => ?_,hb⟩,fun e he=>by cases he⟩
 ·simp only [List.mem_cons,List.not_mem_nil,or_false] at he
  rcases he with rfl;exact dJ.here r1 hB1 hb e1 h1 q1
 ·simp only [List.mem_cons,List.not_mem_nil,or_false] at hb'
  rcases hb' with rfl | rfl
  ·exact (Two.new w t _ _).alloc _
  ·have:=Two.new (w.alloc (.cells #[.bool s1,.slice A1 n1 c1] t)) t (.bool false) (.slice none 0 0)
   rwa [World.size_alloc] at this
end
end Lw
namespace Go.Proofs.BGQ
open Go Go.RowKit Lw
section
variable {t:TypeId} {W0 w:World} {bs:List Bx} {L:List En} {M:List Sn} {v u u':Value} {x:Int} {k k':Nat} {b:Bool} {l l':List Nat}
theorem O5{N K:Nat}{e:Ending}{w':World}(HE:dM t W0 w bs L M)(h:zV w N e w')(hk:(bn N).length<=K) : ∃ u,e = .returned u/\dM t W0 w' bs L (⟨u,bn N,K⟩::M):=by
 obtain ⟨g,c,rfl,hc,hg,hblk,hb⟩:=h;exact ⟨_,rfl,(HE.next hb).cons ⟨_,_,c,_,rfl,hblk.rd (fB _),aut _,rfl,hc,hk⟩⟩
theorem AV(HE:dM t W0 w bs L M)(h:⟨v,x,k,b⟩∈L)(hk:k<=100000) :
  Calls Tryz.prog 145 #[v] w fun e w' => ∃ u,e = .returned u/\dM t W0 w' bs L (⟨u,mg x,k⟩::M):=by
 obtain ⟨s,A,n,c,ns,B,e1,h2,h3,h4,h5,h6,e7,h8⟩:=HE.env.ops _ h;dsimp only at e1 e7 h5;subst e1 e7;refine (WQ s A ns n c B w h2 h3 h4 af h6).mono ?_;rintro e w' ⟨A',c',rfl,hc,hr,hb⟩;have hl:=lW (s:=s) h2.bP;exact ⟨_,rfl,(HE.next hb).cons ⟨A',_,c',B,rfl,hr,auu h3 hb.size,rfl,hc,by show _<=k;omega⟩⟩
theorem xw(HE:dM t W0 w bs L M)(h:⟨v,x,k,b⟩∈L)(hk:k<=100000) :
  Calls Tryz.prog 146 #[v] w fun e w'=>e = .returned (.bool (sg x))/\dM t W0 w' bs L M:=by
 obtain ⟨s,A,n,c,ns,B,e1,h2,h3,h4,h5,h6,e7,h8⟩:=HE.env.ops _ h;dsimp only at e1 e7 h5;subst e1 e7;exact (Yw s A ns n c B w h2 h3 h4 af).mono fun e w' hh=>⟨hh.1,HE.next hh.2⟩
theorem XA(HE:dM t W0 w bs L M)(h:⟨u,l,k⟩∈M)(h':⟨u',l',k'⟩∈M)(hk:k+k'<=100000) :
  Calls Tryz.prog 150 #[u,u'] w fun e w' => ∃ u,e = .returned u/\dM t W0 w' bs L (⟨u,bn (val l+val l'),k+k'+1⟩::M):=by
 obtain ⟨A,n,c,B,e1,h2,h3,h4,h5,h6⟩:=HE.lG _ h;obtain ⟨A',n',c',B',e1',h2',h3',h4',h5',h6'⟩:=HE.lG _ h';dsimp only at *;subst e1 e1'
 have hz:(bn (val l+val l')).length<=k+k'+1:=jG (by
  have:=AQ (x:=(val l:Int)) (y:=(val l':Int)) (k:=k) (k':=k') (by rw [auy];exact auD (eP h2.bP) (fJ af)) (by rw [auy];exact auD (eP h2'.bP) (fJ af))
  rwa [<- avp,auy] at this)
 exact (Yy A A' l l' n n' c c' B B' w h2 h2' h3 h3' h4 h4' af af).mono fun e w' hh=>O5 HE hh hz
theorem Nv(HE:dM t W0 w bs L M)(h:⟨u,l,k⟩∈M)(h':⟨u',l',k'⟩∈M)(hk:k+k'<=100000)(ht:gW l')(hle:val l'<=val l) :
  Calls Tryz.prog 152 #[u,u'] w fun e w' => ∃ u,e = .returned u/\dM t W0 w' bs L (⟨u,bn (val l-val l'),k⟩::M):=by
 obtain ⟨A,n,c,B,e1,h2,h3,h4,h5,h6⟩:=HE.lG _ h;obtain ⟨A',n',c',B',e1',h2',h3',h4',h5',h6'⟩:=HE.lG _ h';dsimp only at *;subst e1 e1';have hz:(bn (val l-val l')).length<=k:=jG (auM (Nat.sub_le _ _) (auD (eP h2.bP) (fJ af)));exact (ajR A A' l l' n n' c c' B B' w h2 h2' h3 h3' h4 h4' af af ht hle).mono fun e w' hh=>O5 HE hh hz
theorem aed(HE:dM t W0 w bs L M)(h:⟨u,l,k⟩∈M)(h':⟨u',l',k'⟩∈M)(hk:k+k'<=100000) :
  Calls Tryz.prog 151 #[u,u'] w fun e w'=>e = .returned (.int .i64 (jl (val l) (val l')))/\dM t W0 w' bs L M:=by
 obtain ⟨A,n,c,B,e1,h2,h3,h4,h5,h6⟩:=HE.lG _ h;obtain ⟨A',n',c',B',e1',h2',h3',h4',h5',h6'⟩:=HE.lG _ h';dsimp only at *;subst e1 e1';refine (Fq A A' l l' n n' c c' B B' w h2 h2' h4 h4' af af).mono ?_;rintro e w' ⟨rfl,rfl⟩;exact ⟨rfl,HE⟩
theorem yE(s:Bool)(z:Int)(HE:dM t W0 w bs L M)(h:⟨u,l,k⟩∈M)(hk:k<=100000)(hz:z=if s then -(val l:Int) else (val l:Int)) :
  Calls Tryz.prog 143 #[.bool s,u] w fun e w' => ∃ A c,e = .returned (.agg #[.bool (sg z),.slice A (mg z).length c])/\(mg z).length<=c/\Rd w' w'.heap.size A (mg z)/\dM t W0 w' bs L M:=by
 obtain ⟨A,n,c,B,e1,h2,h3,h4,h5,h6⟩:=HE.lG _ h;dsimp only at *;subst e1;refine (LZ s A l n c B z w h2 h3 h4 af hz).mono ?_;rintro e w' ⟨A',c',rfl,hc,hr,hb⟩;exact ⟨A',c',rfl,hc,hr,HE.next hb⟩
end
end Go.Proofs.BGQ
namespace Lw
open Go Go.RowKit
theorem Env.UH{t:TypeId}{W0 w:World}{L:List En}{g1 g3:Nat}{x1 y1 x3 y3:Value}(h:Env t W0 w [⟨g1,x1,y1⟩,⟨g3,x3,y3⟩] L):w.cell? ⟨g1,0,none⟩=some x1/\w.cell? ⟨g1,1,none⟩=some y1:=by
 obtain ⟨a,b,_⟩:=h.cells2;grind
theorem akW(x y:Int):dW (x-y)=dS x y:=by unfold dW dS;grind
theorem adt{w:World}{s1 s2:Bool}{A1 A2:Option Addr}{n1 n2 c1 c2 B1 B2 k1 k2:Nat}{l1 l2:List Nat}(t:TypeId)(r1:Rd w B1 A1 l1)(r2:Rd w B2 A2 l2)(hB1:B1<=w.heap.size)(hB2:B2<=w.heap.size)(e1:l1.length=n1)(e2:l2.length=n2)(q1:n1<=c1)(q2:n2<=c2)(h1:n1<=k1)(h2:n2<=k2) :
  Env t w ((w.alloc (.cells #[.bool s1,.slice A1 n1 c1] t)).alloc (.cells #[.bool s2,.slice A2 n2 c2] t))
   [⟨w.heap.size,.bool s1,.slice A1 n1 c1⟩,⟨w.heap.size+1,.bool s2,.slice A2 n2 c2⟩]
   [⟨.agg #[.bool s1,.slice A1 n1 c1],zv s1 l1,k1,vB s1 l1⟩,⟨.agg #[.bool s2,.slice A2 n2 c2],zv s2 l2,k2,vB s2 l2⟩]:=by
 have hb:=(((Below.refl w.heap.size w).alloc (aut _) (.cells #[.bool s1,.slice A1 n1 c1] t)).alloc (by simp) (.cells #[.bool s2,.slice A2 n2 c2] t));refine ⟨fun e he => ?_,fun b hb' => ?_,hb⟩
 ·simp only [List.mem_cons,List.not_mem_nil,or_false] at he
  rcases he with rfl | rfl
  ·exact dJ.here r1 hB1 hb e1 h1 q1
  ·exact dJ.here r2 hB2 hb e2 h2 q2
 ·simp only [List.mem_cons,List.not_mem_nil,or_false] at hb'
  rcases hb' with rfl | rfl
  ·exact (Two.new w t _ _).alloc _
  ·have:=Two.new (w.alloc (.cells #[.bool s1,.slice A1 n1 c1] t)) t (.bool s2) (.slice A2 n2 c2)
   rwa [World.size_alloc] at this
theorem ahS(x:Int) : -x=if (!sg x)=true then -(val (mg x):Int) else (val (mg x):Int):=by
 rw [iq];unfold sg;grind
theorem add_same(x y:Int)(h:(sg x==sg y)=true):x+y=if sg x=true then -(val (bn (val (mg x)+val (mg y))):Int) else (val (bn (val (mg x)+val (mg y))):Int):=by
 rw [bQ,iq,iq];have:=ZC (sg x) (sg y) h x.natAbs y.natAbs;rw [vg,vg] at this;rw [this];rfl
theorem ac8(x y:Int)(h:(sg x==sg y)=false)(hle:val (mg y)<=val (mg x)):x+y=if sg x=true then -(val (bn (val (mg x)-val (mg y))):Int) else (val (bn (val (mg x)-val (mg y))):Int):=by
 rw [bQ];rw [iq,iq] at *;have:=ZE (sg x) (sg y) h (N:=x.natAbs) (M:=y.natAbs) hle;rw [vg,vg] at this;rw [this];rfl
theorem ac6(x y:Int)(h:(sg x==sg y)=false)(hle:val (mg x)<=val (mg y)):x+y=if sg y=true then -(val (bn (val (mg y)-val (mg x))):Int) else (val (bn (val (mg y)-val (mg x))):Int):=by
 rw [bQ];rw [iq,iq] at *;have:=ZF (sg x) (sg y) h (N:=x.natAbs) (M:=y.natAbs) hle;rw [vg,vg] at this;rw [this];rfl
end Lw
namespace Go.Proofs.BGQ
open Go Go.RowKit Lw
set_option maxRecDepth 100000 in
set_option maxHeartbeats 4000000 in
theorem ajK(s:Bool)(A:Option Addr)(ns:List Nat)(n c B:Nat)(w:World)(h:Rd w B A ns)(hB:B<=w.heap.size)(hn:ns.length=n)(hl:n<=10000)(hc:n<=c) :
  Calls Tryz.prog 108 #[.agg #[.bool s,.slice A n c]] w (lM w (-(zv s ns))):=by
 have HE:=ads (s1:=s) 79 h hB hn hc (aut n);clear h;generalize zv s ns=x at *;generalize vB s ns=bb at *
 go_enter Tryz.func108,Tryz.ntmps108
 go_wp2_with fail
 go_region_held3 (fun w'=>w'.cell? ⟨w.heap.size,0,none⟩=some (.bool s)/\w'.cell? ⟨w.heap.size,1,none⟩=some (.slice A n c)) (first | exact HE.env.UH | exact HE.drew.env.UH | exact HE.env.aia af _ _)
  (first
   | (go_at_call 146;refine (xw (by first | exact HE | exact HE.drew) aZ af).mono ?_;rintro e wn ⟨rfl,HE⟩)
   | (go_at_call 145;refine (AV (by first | exact HE | exact HE.drew) aZ af).mono ?_;rintro e wn ⟨u,rfl,HE⟩)
   | (go_at_call 143;refine (yE (!sg x) (-x) (by first | exact HE | exact HE.drew) aZ af (ahS x)).mono ?_;rintro e wn ⟨A9,c9,rfl,fE,ed,HE⟩;obtain ⟨f0,f1,f2,f3⟩:=HE.env.second.facts))
 go_wp2
 refine bodyPost_ret (v := .agg #[.bool (sg (-x)),.slice A9 (mg (-x)).length c9]) (by simp [results,Tryz.results108,go_sem,f0,f1]) rfl ?_;exact kF HE.env.second ed (aut _) fE HE.env.below af
theorem Yx{t:TypeId}{W0 w:World}{bs:List Bx}{L:List En}{v:Value}{x:Int}{k:Nat}{b:Bool}(HE:Env t W0 w bs L)(h:⟨v,x,k,b⟩∈L)(hk:k<=10000) :
  Calls Tryz.prog 108 #[v] w fun e w' => ∃ u,e = .returned u/\Env t W0 w' bs (⟨u,-x,k,true⟩::L):=by
 have H1:=HE.ops _ h;have hz:(-x).natAbs<pw k:=by have:=H1.lt;simpa using this
 obtain ⟨s,A,n,c,ns,B,e1,h2,h3,h4,h5,h6,e7,h8⟩:=H1;dsimp only at e1 e7 h5;subst e1 e7;exact (ajK s A ns n c B w h2 h3 h4 af h6).mono fun e w' hh=>xU HE hh hz
set_option maxRecDepth 100000 in
set_option maxHeartbeats 4000000 in
theorem ajF(s s':Bool)(A A':Option Addr)(ns ms:List Nat)(n m c c' B B':Nat)(w:World)(h:Rd w B A ns)(h':Rd w B' A' ms)(hB:B<=w.heap.size)(hB':B'<=w.heap.size)(hn:ns.length=n)(hm:ms.length=m)(hl:n<=10000)(hl':m<=10000)(hc:n<=c)(hc':m<=c') :
  Calls Tryz.prog 107 #[.agg #[.bool s,.slice A n c],.agg #[.bool s',.slice A' m c']] w (lM w (zv s ns+zv s' ms)):=by
 have HE:=Dj (s1:=s) (s2:=s') 79 h h' hB hB' hn hm hc hc' (aut n) (aut m);clear h h';generalize zv s ns=x at *;generalize zv s' ms=y at *;generalize vB s ns=bb at *;generalize vB s' ms=bb' at *
 go_enter Tryz.func107,Tryz.ntmps107
 go_wp2_with fail
 go_region_held3 (fun w'=>w'.cell? ⟨w.heap.size,0,none⟩=some (.bool s)/\w'.cell? ⟨w.heap.size,1,none⟩=some (.slice A n c)/\w'.cell? ⟨w.heap.size+1,0,none⟩=some (.bool s')/\w'.cell? ⟨w.heap.size+1,1,none⟩=some (.slice A' m c')) (first | exact HE.env.lZ | exact HE.drew.env.lZ | exact HE.env.jr af af _ _)
  (first
   | (go_at_call 145;refine (AV (by first | exact HE | exact HE.drew) aZ af).mono ?_;rintro e wn ⟨u,rfl,HE⟩))
 go_wp2_with fail
 cases hs:(sg x==sg y)
 ·go_region_held3 (fun w'=>w'.cell? ⟨w.heap.size,0,none⟩=some (.bool s)/\w'.cell? ⟨w.heap.size,1,none⟩=some (.slice A n c)/\w'.cell? ⟨w.heap.size+1,0,none⟩=some (.bool s')/\w'.cell? ⟨w.heap.size+1,1,none⟩=some (.slice A' m c')) (first | exact HE.env.lZ | exact HE.drew.env.lZ | exact HE.env.jr af af _ _)
   (first
    | (go_at_call 146;refine (xw (by first | exact HE | exact HE.drew) aZ af).mono ?_;rintro e wn ⟨rfl,HE⟩))
  go_wp2_with fail
  refine (aed HE au ak af).mono ?_;rintro e wn ⟨rfl,HE⟩;rcases auA (val (mg x)) (val (mg y)) with hd | hd
  ·have hcmp:jl (val (mg x)) (val (mg y))<0:=Hw hd
   obtain ⟨q1,q2,q3,q4⟩:=HE.env.lZ
   go_wp2_with fail
   refine (xw HE aZ af).mono ?_;rintro e wn ⟨rfl,HE⟩;clear q1 q2 q3 q4
   go_wp2_with fail
   refine (Nv HE aZ aZ af (yT x) (auL hd)).mono ?_;rintro e wn ⟨u,rfl,HE⟩
   go_wp2_with fail
   refine (yE (sg y) (x+y) HE aZ af (ac6 x y hs (auL hd))).mono ?_;rintro e wn ⟨A9,c9,rfl,fE,ed,HE⟩;obtain ⟨f0,f1,f2,f3⟩:=HE.env.third.facts
   go_wp2
   refine bodyPost_ret (v := .agg #[.bool (sg (x+y)),.slice A9 (mg (x+y)).length c9]) (by simp [results,Tryz.results107,go_sem,f0,f1]) rfl ?_;exact kF HE.env.third ed (aut _) fE HE.env.below af
  ·have hcmp:0<=jl (val (mg x)) (val (mg y)):=by have:=H6 hd;omega
   obtain ⟨q1,q2,q3,q4⟩:=HE.env.lZ
   go_wp2_with fail
   refine (xw HE aZ af).mono ?_;rintro e wn ⟨rfl,HE⟩;clear q1 q2 q3 q4
   go_wp2_with fail
   refine (Nv HE aZ aZ af (yT y) hd).mono ?_;rintro e wn ⟨u,rfl,HE⟩
   go_wp2_with fail
   refine (yE (sg x) (x+y) HE aZ af (ac8 x y hs hd)).mono ?_;rintro e wn ⟨A9,c9,rfl,fE,ed,HE⟩;obtain ⟨f0,f1,f2,f3⟩:=HE.env.third.facts
   go_wp2
   refine bodyPost_ret (v := .agg #[.bool (sg (x+y)),.slice A9 (mg (x+y)).length c9]) (by simp [results,Tryz.results107,go_sem,f0,f1]) rfl ?_;exact kF HE.env.third ed (aut _) fE HE.env.below af
 ·go_region_held3 (fun w'=>w'.cell? ⟨w.heap.size,0,none⟩=some (.bool s)/\w'.cell? ⟨w.heap.size,1,none⟩=some (.slice A n c)/\w'.cell? ⟨w.heap.size+1,0,none⟩=some (.bool s')/\w'.cell? ⟨w.heap.size+1,1,none⟩=some (.slice A' m c')) (first | exact HE.env.lZ | exact HE.drew.env.lZ | exact HE.env.jr af af _ _)
   (first
    | (go_at_call 146;refine (xw (by first | exact HE | exact HE.drew) aZ af).mono ?_;rintro e wn ⟨rfl,HE⟩))
  obtain ⟨q1,q2,q3,q4⟩:=HE.env.lZ
  go_wp2_with fail
  refine (xw HE aZ af).mono ?_;rintro e wn ⟨rfl,HE⟩;clear q1 q2 q3 q4
  go_wp2_with fail
  refine (XA HE aZ aZ af).mono ?_;rintro e wn ⟨u,rfl,HE⟩
  go_wp2_with fail
  refine (yE (sg x) (x+y) HE aZ af (add_same x y hs)).mono ?_;rintro e wn ⟨A9,c9,rfl,fE,ed,HE⟩;obtain ⟨f0,f1,f2,f3⟩:=HE.env.third.facts
  go_wp2
  refine bodyPost_ret (v := .agg #[.bool (sg (x+y)),.slice A9 (mg (x+y)).length c9]) (by simp [results,Tryz.results107,go_sem,f0,f1]) rfl ?_;exact kF HE.env.third ed (aut _) fE HE.env.below af
theorem Yv{t:TypeId}{W0 w:World}{bs:List Bx}{L:List En}{v v':Value}{x y:Int}{k k':Nat}{b b':Bool}(HE:Env t W0 w bs L)(h:⟨v,x,k,b⟩∈L)(h':⟨v',y,k',b'⟩∈L)(hk:k<=10000/\k'<=10000) :
  Calls Tryz.prog 107 #[v,v'] w fun e w' => ∃ A c,e = .returned (.agg #[.bool (sg (x+y)),.slice A (mg (x+y)).length c])/\(mg (x+y)).length<=c/\Rd w' w'.heap.size A (mg (x+y)) /\
   Env t W0 w' bs (⟨.agg #[.bool (sg (x+y)),.slice A (mg (x+y)).length c],x+y,k+k'+1,true⟩::L):=by
 have H1:=HE.ops _ h;have H2:=HE.ops _ h';have hz:=AQ H1.lt H2.lt;obtain ⟨s,A,n,c,ns,B,e1,h2,h3,h4,h5,h6,e7,h8⟩:=H1;obtain ⟨s',A',n',c',ns',B',e1',h2',h3',h4',h5',h6',eX,h8'⟩:=H2;dsimp only at e1 e7 e1' eX h5 h5' hz;subst e1 e1' e7 eX;refine (ajF s s' A A' ns ns' n n' c c' B B' w h2 h2' h3 h3' h4 h4' af af h6 h6').mono ?_;rintro e w' ⟨A9,c9,rfl,fE,ed,nU⟩;exact ⟨A9,c9,rfl,fE,ed,(HE.next nU).cons ⟨_,A9,_,c9,mg _,_,rfl,ed,aut _,rfl,uJ hz,fE,zL _,xN _⟩⟩
set_option maxRecDepth 100000 in
set_option maxHeartbeats 4000000 in
theorem ajL(s s':Bool)(A A':Option Addr)(ns ms:List Nat)(n m c c' B B':Nat)(w:World)(h:Rd w B A ns)(h':Rd w B' A' ms)(hB:B<=w.heap.size)(hB':B'<=w.heap.size)(hn:ns.length=n)(hm:ms.length=m)(hl:n<=10000)(hl':m<=10000)(hc:n<=c)(hc':m<=c') :
  Calls Tryz.prog 142 #[.agg #[.bool s,.slice A n c],.agg #[.bool s',.slice A' m c']] w (lM w (zv s ns-zv s' ms)):=by
 have HE:=Dj (s1:=s) (s2:=s') 79 h h' hB hB' hn hm hc hc' (aut n) (aut m);clear h h';generalize zv s ns=x at *;generalize zv s' ms=y at *;generalize vB s ns=bb at *;generalize vB s' ms=bb' at *;rw [Int.sub_eq_add_neg];replace HE:=HE.env
 go_enter Tryz.func142,Tryz.ntmps142
 go_wp2_with fail
 go_region_held3 (fun w'=>w'.cell? ⟨w.heap.size,0,none⟩=some (.bool s)/\w'.cell? ⟨w.heap.size,1,none⟩=some (.slice A n c)/\w'.cell? ⟨w.heap.size+1,0,none⟩=some (.bool s')/\w'.cell? ⟨w.heap.size+1,1,none⟩=some (.slice A' m c')) (first | exact HE.lZ | exact HE.drew.lZ | exact HE.jr af af _ _)
  (first
   | (go_at_call 108;refine (Yx (by first | exact HE | exact HE.drew) aZ af).mono ?_;rintro e wn ⟨u,rfl,HE⟩)
   | (go_at_call 107;refine (Yv (by first | exact HE | exact HE.drew) aZ aZ af).mono ?_;rintro e wn ⟨A9,c9,rfl,fE,ed,HE⟩;obtain ⟨f0,f1,f2,f3⟩:=HE.third.facts))
 go_wp2
 refine bodyPost_ret (v := .agg #[.bool (sg (x + -y)),.slice A9 (mg (x + -y)).length c9]) (by simp [results,Tryz.results142,go_sem,f0,f1]) rfl ?_;exact kF HE.third ed (aut _) fE HE.below af
theorem ajW{t:TypeId}{W0 w:World}{bs:List Bx}{L:List En}{v v':Value}{x y:Int}{k k':Nat}{b b':Bool}(HE:Env t W0 w bs L)(h:⟨v,x,k,b⟩∈L)(h':⟨v',y,k',b'⟩∈L)(hk:k<=10000/\k'<=10000) :
  Calls Tryz.prog 142 #[v,v'] w fun e w' => ∃ A c,e = .returned (.agg #[.bool (sg (x-y)),.slice A (mg (x-y)).length c])/\(mg (x-y)).length<=c/\Rd w' w'.heap.size A (mg (x-y)) /\
   Env t W0 w' bs (⟨.agg #[.bool (sg (x-y)),.slice A (mg (x-y)).length c],x-y,k+k'+1,true⟩::L):=by
 have H1:=HE.ops _ h;have H2:=HE.ops _ h';have hz:=Wu H1.lt H2.lt;obtain ⟨s,A,n,c,ns,B,e1,h2,h3,h4,h5,h6,e7,h8⟩:=H1;obtain ⟨s',A',n',c',ns',B',e1',h2',h3',h4',h5',h6',eX,h8'⟩:=H2;dsimp only at e1 e7 e1' eX h5 h5' hz;subst e1 e1' e7 eX;refine (ajL s s' A A' ns ns' n n' c c' B B' w h2 h2' h3 h3' h4 h4' af af h6 h6').mono ?_;rintro e w' ⟨A9,c9,rfl,fE,ed,nU⟩;exact ⟨A9,c9,rfl,fE,ed,(HE.next nU).cons ⟨_,A9,_,c9,mg _,_,rfl,ed,aut _,rfl,uJ hz,fE,zL _,xN _⟩⟩
set_option maxRecDepth 100000 in
set_option maxHeartbeats 4000000 in
theorem ajG(s s':Bool)(A A':Option Addr)(ns ms:List Nat)(n m c c' B B':Nat)(w:World)(h:Rd w B A ns)(h':Rd w B' A' ms)(hB:B<=w.heap.size)(hB':B'<=w.heap.size)(hn:ns.length=n)(hm:ms.length=m)(hl:n<=10000)(hl':m<=10000)(hc:n<=c)(hc':m<=c') :
  Calls Tryz.prog 96 #[.agg #[.bool s,.slice A n c],.agg #[.bool s',.slice A' m c']] w fun e w'=>e = .returned (.int .i64 (dS (zv s ns) (zv s' ms)))/\Below w.heap.size w w':=by
 have HE:=adt (s1:=s) (s2:=s') 79 h h' hB hB' hn hm hc hc' (aut n) (aut m);clear h h';generalize zv s ns=x at *;generalize zv s' ms=y at *;generalize vB s ns=bb at *;generalize vB s' ms=bb' at *;have HC:=Lib.hid (akW x y);obtain ⟨q1,q2,q3,q4⟩:=HE.cells2
 go_enter Tryz.func96,Tryz.ntmps96
 go_wp2_with fail
 refine (ajW HE aZ aZ af).mono ?_;rintro e wn ⟨A9,c9,rfl,fE,ed,HE⟩;clear q1 q2 q3 q4
 go_wp2_with fail
 refine (YA HE ak af).mono ?_;rintro e wn ⟨rfl,HE⟩
 go_wp2_with fail
 go_ret
 exact ⟨dU HC.out,HE.below⟩
theorem ajN{t:TypeId}{W0 w:World}{bs:List Bx}{L:List En}{v v':Value}{x y:Int}{k k':Nat}{b b':Bool}(HE:Env t W0 w bs L)(h:⟨v,x,k,b⟩∈L)(h':⟨v',y,k',b'⟩∈L)(hk:k<=10000/\k'<=10000) :
  Calls Tryz.prog 96 #[v,v'] w fun e w'=>e = .returned (.int .i64 (dS x y))/\Env t W0 w' bs L:=by
 obtain ⟨s,A,n,c,ns,B,e1,h2,h3,h4,h5,h6,e7,h8⟩:=HE.ops _ h;obtain ⟨s',A',n',c',ns',B',e1',h2',h3',h4',h5',h6',eX,h8'⟩:=HE.ops _ h';dsimp only at e1 e7 e1' eX h5 h5';subst e1 e1' e7 eX;exact (ajG s s' A A' ns ns' n n' c c' B B' w h2 h2' h3 h3' h4 h4' af af h6 h6').mono fun e w' hh=>⟨hh.1,HE.next hh.2⟩
end Go.Proofs.BGQ
