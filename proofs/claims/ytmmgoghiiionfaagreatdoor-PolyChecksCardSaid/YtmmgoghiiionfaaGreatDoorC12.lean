/- Part of a proof, said shortly. -/
import Derived.BigQuiet
import Derived.Test.YtmmgoghiiionfaaGreatDoorAlz
import Derived.Test.YtmmgoghiiionfaaGreatDoorC3
import Derived.Test.YtmmgoghiiionfaaGreatDoorC2
import Derived.Test.YtmmgoghiiionfaaGreatDoorC1
set_option linter.unusedVariables false
set_option linter.unusedSimpArgs false
namespace Lw
open Go
theorem Py{a b:List Nat}{k M:Nat}(hk:k<=M)(h : ∀ j,k<=j->j<M->dg a j=dg b j) : ∃ z,lo a M=lo a k+z/\lo b M=lo b k+z:=by
 induction M with
 | zero =>
  simp_all
 | succ M ih =>
  rcases ahs k (M+1) with h1 | h1
  ·obtain ⟨z,e1,e2⟩:=ih af (fun j hj hj'=>h j hj af)
   have:=h M af af;refine ⟨z+pw M*dg a M,?_,?_⟩
   ·rw [bV,e1];omega
   ·rw [bV,e2,<- this];omega
  ·have:k=M+1:=af
   simp_all
def Agree(a b:List Nat)(k:Nat):Prop := ∀ j,k<=j->dg a j=dg b j
theorem Vk{a b:List Nat}{M:Nat}(ha:a.length<=M)(hb:b.length<=M):Agree a b M:=fun j hj=>by rw [nP af,nP af]
theorem Vl{a b:List Nat}{k:Nat}(h:Agree a b (k+1))(hd:dg a k=dg b k):Agree a b k:=fun j hj=>by
 rcases ahs k j with h1 | h1
 ·exact h j h1
 ·have:j=k:=af
  subst this;exact hd
theorem KO{a b:List Nat}{k:Nat}(wa:bF a)(h:Agree a b (k+1))(hd:dg a k<dg b k):val a<val b:=by
 obtain ⟨z,e1,e2⟩:=Py (a:=a) (b:=b) (k:=k+1) (M:=a.length+b.length+(k+1)) af (fun j hj _=>h j hj);rw [di af,bV] at e1 e2;have h3:=iE wa k;have h4:pw k*(dg a k+1)<=pw k*dg b k:=ahz _ hd;grind
theorem Vm{a b:List Nat}(h:Agree a b 0):val a=val b:=by
 obtain ⟨z,e1,e2⟩:=Py (a:=a) (b:=b) (k:=0) (M:=a.length+b.length) af (fun j hj _=>h j hj);rw [di af] at e1 e2;rw [fM] at e1 e2;omega
end Lw
namespace Go.Proofs.AZQ
open Go Go.RowKit Lw
set_option maxRecDepth 100000 in
set_option maxHeartbeats 1600000 in
theorem yf(A A':Option Addr)(ns ms:List Nat)(n m c c' B B':Nat)(w:World)(h:Rd w B A ns)(h':Rd w B' A' ms)(hn:ns.length=n)(hm:ms.length=m)(hl:n<=16777216)(hl':m<=16777216) :
  Calls Tryz.prog 204 #[.slice A n c,.slice A' m c'] w fun e w'=>e = .returned (.int .i64 (iQ (val ns) (val ms)))/\w=w':=by
 have Hn:=Lib.hid hn;have Hm:=Lib.hid hm;clear hn hm;obtain ⟨M,hM,hM1,hM2⟩ : ∃ M:Nat,(max (n:Int) (m:Int))=(M:Int)/\n<=M/\m<=M:=⟨max n m,af,af,af⟩;have wV:M<=16777216:=af
 go_enter Tryz.func204,Tryz.ntmps204
 go_wp2_with fail
 go_loopw [5] (fun v wr => ∃ i:Int,-1<=i/\i<M/\v = .int .i64 i/\Hid (Agree ns ms (i+1).toNat)/\w=wr) (fun v _=>(intOf v+1).toNat)
 case atStart=>exact ⟨(M:Int)-1,af,af,rfl,Lib.hid (by rw [show ((M:Int)-1+1).toNat=M by omega];exact Vk (by rw [Hn.out];exact hM1) (by rw [Hm.out];exact hM2)),rfl⟩
 case round =>
  obtain ⟨i,hi,hiM,rfl,hag,rfl⟩:=hrel
  by_cases h0:i<0
  ·have HV:Hid (val ns=val ms):=Lib.hid (Vm (by have:=hag.out;rwa [show (i+1).toNat=0 by omega] at this))
   go_wp2_with fail
   go_ret
   exact ⟨eF (by rw [yY HV.out]),rfl⟩
  ·obtain ⟨k,rfl⟩:=aif (show 0<=i from af)
   have hs1:Hid (Agree ns ms (k+1)):=Lib.hid (by have:=hag.out;rwa [show ((k:Int)+1).toNat=k+1 by omega] at this);clear hag;have hlt':=dV h'.bI k;rcases aiV (dg ns k) (dg ms k) with hd | hd | hd
   ·have hb1:((dg ns k:Int) != (dg ms k:Int))=true:=by rw [bne_iff_ne];omega
    have HR:=Lib.hid (tq (KO h.bI hs1.out hd))
    go_wp2_with fail
    refine (iy A ns n c B k _ h Hn.out af).mono ?_;rintro e w' ⟨rfl,rfl⟩
    go_wp2_with fail
    refine (iy A' ms m c' B' k _ h' Hm.out af).mono ?_;rintro e w' ⟨rfl,rfl⟩
    go_wp2_with fail
    refine (iy A ns n c B k _ h Hn.out af).mono ?_;rintro e w' ⟨rfl,rfl⟩
    go_wp2_with fail
    refine (iy A' ms m c' B' k _ h' Hm.out af).mono ?_;rintro e w' ⟨rfl,rfl⟩
    go_wp2_with fail
    go_ret
    exact ⟨eF (by rw [HR.out]),rfl⟩
   ·have hb1:((dg ns k:Int) != (dg ms k:Int))=false:=by rw [bne_eq_false_iff_eq];omega
    have HS:=Lib.hid (Vl hs1.out hd)
    go_wp2_with fail
    refine (iy A ns n c B k _ h Hn.out af).mono ?_;rintro e w' ⟨rfl,rfl⟩
    go_wp2_with fail
    refine (iy A' ms m c' B' k _ h' Hm.out af).mono ?_;rintro e w' ⟨rfl,rfl⟩
    go_wp2_with fail
    go_roundw
    case rel=>exact ⟨(k:Int)-1,af,af,rfl,Lib.hid (by rw [show ((k:Int)-1+1).toNat=k by omega];exact HS.out),trivial⟩
    case measure=>simp [intOf]
   ·have hb1:((dg ns k:Int) != (dg ms k:Int))=true:=by rw [bne_iff_ne];omega
    have HR:=Lib.hid (wG (KO h'.bI (fun j hj=>(hs1.out j hj).symm) hd))
    go_wp2_with fail
    refine (iy A ns n c B k _ h Hn.out af).mono ?_;rintro e w' ⟨rfl,rfl⟩
    go_wp2_with fail
    refine (iy A' ms m c' B' k _ h' Hm.out af).mono ?_;rintro e w' ⟨rfl,rfl⟩
    go_wp2_with fail
    refine (iy A ns n c B k _ h Hn.out af).mono ?_;rintro e w' ⟨rfl,rfl⟩
    go_wp2_with fail
    refine (iy A' ms m c' B' k _ h' Hm.out af).mono ?_;rintro e w' ⟨rfl,rfl⟩
    go_wp2_with fail
    go_ret
    exact ⟨eF (by rw [HR.out]),rfl⟩
end Go.Proofs.AZQ
namespace Lw
open Go
theorem aaX{cs ns ms:List Nat}{k carry R:Nat}(hl:cs.length=k)(hv:val cs+pw k*carry=lo ns k+lo ms k)(hR:R=(dg ns k+dg ms k+carry)%4294967296) :
  val (cs++[R])+pw (k+1)*((dg ns k+dg ms k+carry)/4294967296)=lo ns (k+1)+lo ms (k+1):=by
 rw [Tn,hl,bV,bV,dS,hR];have h:=ain (dg ns k+dg ms k+carry) 4294967296;generalize (dg ns k+dg ms k+carry)/4294967296=q at *;generalize (dg ns k+dg ms k+carry)%4294967296=r at *;have h2:pw k*(4294967296*q+r)=pw k*(dg ns k+dg ms k+carry):=by rw [h]
 grind
theorem aaW{cs ns ms:List Nat}{k carry M:Nat}(wn:bF ns)(wm:bF ms)(hn:ns.length<=M)(hm:ms.length<=M)(hk:k=M+1)(hv:val cs+pw k*carry=lo ns k+lo ms k):val cs=val ns+val ms:=by
 subst hk;rw [di af,di af] at hv;have h1:=dQ wn;have h2:=dQ wm;have h3:=dY hn;have h4:=dY hm;rw [dS] at hv;rcases ahE carry with h0 | h0
 ·grind
 ·have:4294967296*pw M*1<=4294967296*pw M*carry:=ahz _ h0
  omega
theorem aaj{cs ns ms:List Nat}{k b d R:Nat}(hl:cs.length=k)(hv:val cs+lo ms k=lo ns k+pw k*b)(hb:b<=1)(hn:dg ns k<4294967296)(hm:dg ms k<4294967296)(hd:d=4294967296+dg ns k-dg ms k-b)(hR:R=d%4294967296) :
  val (cs++[R])+lo ms (k+1)=lo ns (k+1)+pw (k+1)*(1-d/4294967296)/\1-d/4294967296<=1:=by
 refine ⟨?_,af⟩;rw [Tn,hl,bV,bV,dS];have h5:R+dg ms k+b=dg ns k+4294967296*(1-d/4294967296):=af;generalize 1-d/4294967296=q at *;have h2:pw k*(R+dg ms k+b)=pw k*(dg ns k+4294967296*q):=by rw [h5]
 grind
theorem PO{cs ns ms:List Nat}{b:Nat}(wc:bF cs)(hl:cs.length=ns.length)(hm:ms.length<=ns.length)(hle:val ms<=val ns)(hv:val cs+lo ms ns.length=lo ns ns.length+pw ns.length*b):val cs=val ns-val ms:=by
 rw [di hm,di (ahj _)] at hv;have h1:=dQ wc;rw [hl] at h1;rcases ahE b with h0 | h0
 ·grind
 ·have:pw ns.length*1<=pw ns.length*b:=ahz _ h0
  omega
end Lw
namespace Go.Proofs.AZQ
open Go Go.RowKit Lw
set_option maxRecDepth 100000 in
set_option maxHeartbeats 3200000 in
theorem QZ(A A':Option Addr)(ns ms:List Nat)(n m c c' B B':Nat)(w:World)(h:Rd w B A ns)(h':Rd w B' A' ms)(hB:B<=w.heap.size)(hB':B'<=w.heap.size)(hn:ns.length=n)(hm:ms.length=m)(hl:n<=16777216)(hl':m<=16777216) :
  Calls Tryz.prog 203 #[.slice A n c,.slice A' m c'] w (sU w (val ns+val ms)):=by
 have Hn:=Lib.hid hn;have Hm:=Lib.hid hm;clear hn hm;obtain ⟨M,hM,hM1,hM2⟩ : ∃ M:Nat,(max (n:Int) (m:Int))=(M:Int)/\n<=M/\m<=M:=⟨max n m,af,af,af⟩;have wV:M<=16777216:=af
 go_enter Tryz.func203,Tryz.ntmps203
 go_wp2_with fail
 go_loopw [5,6,15] (fun v cv iv wr => ∃ (k carry:Nat) (cs:List Nat),k<=M+1/\carry<=1/\iv = .int .i64 k/\cv = .int .u64 carry/\wr.ownsRow w.heap.size 82 1 v k (arr cs)/\bF cs /\
   Hid (val cs+pw k*carry=lo ns k+lo ms k)/\Below w.heap.size w wr) (fun _ _ i _=>M+1-(intOf i).toNat)
 case atStart=>exact ⟨0,0,[],af,af,rfl,rfl,World.ownsRow_nil _ _ _ _,jV,Lib.hid (by rw [fM,fM];rfl),Below.refl _ _⟩
 case round =>
  obtain ⟨k,carry,cs,hk,hcar,rfl,rfl,hown,hcw,hv,hbw⟩:=hrel;have hr:=h.below (hbw.mono hB);have hr':=h'.below (hbw.mono hB');have hsz:=hbw.size;have hlen:=hown.1;rw [jJ,ahJ] at hlen;have HL:=Lib.hid hlen;clear hlen
  by_cases Y6:k<M+1
  ·have hlt:=dV h.bI k
   have hlt':=dV h'.bI k;obtain ⟨D,hD⟩ : ∃ D,D=dg ns k+dg ms k+carry:=⟨_,rfl⟩;obtain ⟨R,hR⟩ : ∃ R,R=D%4294967296:=⟨_,rfl⟩;have HST:=Lib.hid (aaX (R:=R) HL.out hv.out (by rw [hR,hD]));rw [<- hD] at HST;have hDl:D<=8589934591:=af;have hRl:R<4294967296:=af;have hD1:((dg ns k:Int)+((dg ms k:Int)+(carry:Int)))=(D:Int):=af;have hD2:(((dg ns k:Int)+(dg ms k:Int))+(carry:Int))=(D:Int):=af;have hR1:(D:Int)%4294967296=(R:Int):=af;clear hD hR
   go_wp2_with fail
   refine (iy A ns n c B k _ hr Hn.out af).mono ?_;rintro e w' ⟨rfl,rfl⟩
   go_wp2_with fail
   refine (iy A' ms m c' B' k _ hr' Hm.out af).mono ?_;rintro e w' ⟨rfl,rfl⟩;have pG:=(bD.new wr 82 [R]).rd (by rw [kF];exact ⟨af,jV⟩)
   go_wp2_with (at_builtin;refine Dy _ rfl _ _ 38 rfl w.heap.size 82 agv jI _ k cs rfl (hown.alloc _) _ _ [R] 1 1 rfl pG rfl af (by simp;omega) ?_;intro v' w4 hown4 hgrow4 hnil)
   have hgrow:(wr.alloc (.cells #[.int .u32 (R:Int)] 82)).grownBy w4 u5.ownBlock:=hgrow4;have hb5:Below w.heap.size w w4:=(hbw.alloc af _).grown hgrow (by simp;omega) (fun k hk=>(hown.lt k hk).1);clear hgrow4 hnil hgrow pG
   go_roundw
   case rel =>
    refine ⟨k+1,D/4294967296,cs++[R],af,af,by go_num,by go_num,hown4,TK.2 ⟨hcw,by rw [kF];exact ⟨hRl,jV⟩⟩,HST,hb5⟩
   case measure=>simp [intOf];omega
  ·obtain rfl:k=M+1:=af
   have HV:=Lib.hid (aaW h.bI h'.bI (by rw [Hn.out];exact hM1) (by rw [Hm.out];exact hM2) rfl hv.out);obtain ⟨A5,c5,rfl,lg,hl5⟩:=Qd hown hcw
   go_wp2_with fail
   refine (uM A5 cs _ c5 _ _ lg (ahj _) hl5 af).mono ?_;rintro e w3 ⟨g,c6,rfl,hc6,gy,hblk,hb6⟩;rw [HV.out] at hc6 hblk;rw [HV.out];have hb7:=bQ hbw hb6 (ahj _);clear hown lg hr hr'
   go_wp2_with fail
   go_ret
   exact ⟨g,c6,rfl,hc6,ahk hsz gy,hblk,hb7⟩
set_option maxRecDepth 100000 in
set_option maxHeartbeats 3200000 in
theorem abZ(A A':Option Addr)(ns ms:List Nat)(n m c c' B B':Nat)(w:World)(h:Rd w B A ns)(h':Rd w B' A' ms)(hB:B<=w.heap.size)(hB':B'<=w.heap.size)(hn:ns.length=n)(hm:ms.length=m)(hl:n<=16777216)(hl':m<=16777216)(ht:ed ms)(hle:val ms<=val ns) :
  Calls Tryz.prog 205 #[.slice A n c,.slice A' m c'] w (sU w (val ns-val ms)):=by
 have Hn:=Lib.hid hn;have Hm:=Lib.hid hm
 have yK:Hid (m<=n):=Lib.hid (by
  rcases ahE m with h0 | h0
  ·omega
  ·have h1:=xP ht (by intro e;rw [e] at hm;simp at hm;omega)
   have h2:=dQ h.bI;rw [hm] at h1;rw [hn] at h2;rcases ahs n m with h3 | h3
   ·have:=dY (a:=n) (b:=m-1) af;omega
   ·exact h3)
 have jb:=Lib.hid hle;clear hn hm hle
 go_enter Tryz.func205,Tryz.ntmps205
 go_wp2_with fail
 go_loopw [5,6,11] (fun v bv iv wr => ∃ (k b:Nat) (cs:List Nat),k<=n/\b<=1/\iv = .int .i64 k/\bv = .int .u64 b/\wr.ownsRow w.heap.size 82 1 v k (arr cs)/\bF cs /\
   Hid (val cs+lo ms k=lo ns k+pw k*b)/\Below w.heap.size w wr) (fun _ _ i _=>n-(intOf i).toNat)
 case atStart=>exact ⟨0,0,[],af,af,rfl,rfl,World.ownsRow_nil _ _ _ _,jV,Lib.hid (by rw [fM,fM];rfl),Below.refl _ _⟩
 case round =>
  obtain ⟨k,b,cs,hk,hcar,rfl,rfl,hown,hcw,hv,hbw⟩:=hrel;have hr:=h.below (hbw.mono hB);have hr':=h'.below (hbw.mono hB');have hsz:=hbw.size;have hlen:=hown.1;rw [jJ,ahJ] at hlen;have HL:=Lib.hid hlen;clear hlen
  by_cases Y6:k<n
  ·have hlt:=dV h.bI k
   have hlt':=dV h'.bI k;obtain ⟨D,hD⟩ : ∃ D,D=4294967296+dg ns k-dg ms k-b:=⟨_,rfl⟩;obtain ⟨R,hR⟩ : ∃ R,R=D%4294967296:=⟨_,rfl⟩;have HST:=Lib.hid (aaj (R:=R) HL.out hv.out hcar hlt hlt' hD hR);have hDl:D<=8589934591:=af;have hRl:R<4294967296:=af;have hD1:((4294967296:Int)+(dg ns k:Int)-(dg ms k:Int)-(b:Int))=(D:Int):=af;have hR1:(D:Int)%4294967296=(R:Int):=af;clear hD hR
   go_wp2_with fail
   refine (iy A ns n c B k _ hr Hn.out af).mono ?_;rintro e w' ⟨rfl,rfl⟩
   go_wp2_with fail
   refine (iy A' ms m c' B' k _ hr' Hm.out af).mono ?_;rintro e w' ⟨rfl,rfl⟩;have pG:=(bD.new wr 82 [R]).rd (by rw [kF];exact ⟨af,jV⟩)
   go_wp2_with (at_builtin;refine Dy _ rfl _ _ 38 rfl w.heap.size 82 agv jI _ k cs rfl (hown.alloc _) _ _ [R] 1 1 rfl pG rfl af (by simp;omega) ?_;intro v' w4 hown4 hgrow4 hnil)
   have hgrow:(wr.alloc (.cells #[.int .u32 (R:Int)] 82)).grownBy w4 u5.ownBlock:=hgrow4;have hb5:Below w.heap.size w w4:=(hbw.alloc af _).grown hgrow (by simp;omega) (fun k hk=>(hown.lt k hk).1);clear hgrow4 hnil hgrow pG
   go_roundw
   case rel =>
    refine ⟨k+1,1-D/4294967296,cs++[R],af,af,by go_num,by go_num,hown4,TK.2 ⟨hcw,by rw [kF];exact ⟨hRl,jV⟩⟩,Lib.hid HST.out.1,hb5⟩
   case measure=>simp [intOf];omega
  ·obtain rfl:k=n:=af
   have HV:Hid (val cs=val ns-val ms):=Lib.hid (PO hcw (by rw [HL.out,Hn.out]) (by rw [Hm.out,Hn.out];exact yK.out) jb.out (by rw [Hn.out];exact hv.out));obtain ⟨A5,c5,rfl,lg,hl5⟩:=Qd hown hcw
   go_wp2_with fail
   refine (uM A5 cs _ c5 _ _ lg (ahj _) hl5 af).mono ?_;rintro e w3 ⟨g,c6,rfl,hc6,gy,hblk,hb6⟩;rw [HV.out] at hc6 hblk;rw [HV.out];have hb7:=bQ hbw hb6 (ahj _);clear hown lg hr hr'
   go_wp2_with fail
   go_ret
   exact ⟨g,c6,rfl,hc6,ahk hsz gy,hblk,hb7⟩
end Go.Proofs.AZQ
namespace Lw
open Go Go.RowKit
theorem grown_drewN{a w:World}{g:Option Nat}(h:a.grownBy w g)(k:Nat):a.grownBy (w.drewN k) g:=⟨h.os,h.tape,h.output,h.size,h.block⟩
end Lw
namespace Go.Proofs.AZQ
open Go Go.RowKit Lw
set_option maxRecDepth 100000 in
set_option maxHeartbeats 6400000 in
theorem ab6(A A':Option Addr)(ns ms:List Nat)(n m c c' B B':Nat)(w:World)(h:Rd w B A ns)(h':Rd w B' A' ms)(hB:B<=w.heap.size)(hB':B'<=w.heap.size)(hn:ns.length=n)(hm:ms.length=m)(hl:n<=16777216)(hl':m<=16777216) :
  Calls Tryz.prog 206 #[.slice A n c,.slice A' m c'] w (sU w (val ns*val ms)):=by
 have Hn:=Lib.hid hn;have Hm:=Lib.hid hm;clear hn hm
 go_enter Tryz.func206,Tryz.ntmps206
 go_wp2_with (at_make;refine qE _ rfl _ _ _ rfl 82 agv jI _ _ _ _ (n+m) rfl rfl af af af ?_;intro w1 hblk hbel hsz)
 go_loopw [18] (fun i wr => ∃ (k:Nat) (cs:List Nat),k<=n/\i = .int .i64 k/\bD wr w.heap.size 82 cs/\Hid (cs.length=n+m)/\bF cs /\
   Hid (lo cs (k+m)=lo ns k*val ms)/\Hid (∀ j,k+m<=j->dg cs j=0)/\Below w.heap.size w wr) (fun i _=>n-(intOf i).toNat)
 case atStart=>exact ⟨0,_,ahl _,rfl,hblk,Lib.hid (by simp),qB _,Lib.hid (by rw [Aj (b:=[]) _ (fun j _=>by rw [EW];rfl),di (by simp),fM];simp [val]),Lib.hid (fun j _=>EW _ _),hbel⟩
 case round =>
  obtain ⟨k,cs,hk,rfl,hb1,hcl,hcw,hv,hz,hbw⟩:=hrel;clear hblk hbel hsz;have hr:=h.below (hbw.mono hB);have hr':=h'.below (hbw.mono hB');have hsz1:=hb1.lt
  by_cases hkn:k<n
  ·obtain ⟨b,off,rfl,hb,hcell,hlt⟩:=hr.at_ (k:=k) (by rw [Hn.out];omega)
   have vZ:Hid (0<m -> ∀ a,A'=some a->a.block≠w.heap.size):=Lib.hid (fun hp a ha=>by
    obtain ⟨b,off,hA,hb,_⟩:=h'.2 (by rw [Hm.out];exact hp);rw [ha] at hA;injection hA with e;subst e;exact Nat.ne_of_lt (ahr hb hB'))
   obtain ⟨x,hx⟩ : ∃ x,x=dg ns k:=⟨_,rfl⟩;rw [<- hx] at hcell hlt;have HX:=Lib.hid hx;clear hx
   go_wp2_with fail
   go_loopw [7,23] (fun cv jv wi => ∃ (j carry:Nat) (ds:List Nat),j<=m/\carry<4294967296/\jv = .int .i64 j/\cv = .int .u64 carry/\bD wi w.heap.size 82 ds/\Hid (ds.length=cs.length)/\bF ds /\
     Hid (∀ i,i<k\/k+j<=i->dg ds i=dg cs i)/\Hid (lo ds (k+j)+pw (k+j)*carry=lo cs (k+j)+pw k*(lo ms j*x))/\Hid (wr.grownBy wi (some w.heap.size)/\wi.heap.size=wr.heap.size)) (fun _ i _=>m-(intOf i).toNat)
   case atStart=>exact ⟨0,0,cs,ahl _,af,rfl,rfl,hb1,Lib.hid rfl,hcw,Lib.hid (fun _ _=>rfl),Lib.hid (by simp [fM]),Lib.hid ⟨World.grownBy.refl wr _,rfl⟩⟩
   case round =>
    obtain ⟨j,carry,ds,hj,hcar,rfl,rfl,hb2,hdl,hdw,hsame,hval,hg⟩:=hrel;clear hb1;have OI:=hg.out.2;have ae7:=hbw.size
    by_cases hjm:j<m
    ·have hr2:=hr'.grown hg.out.1 af (fun hp=>vZ.out af)
     obtain ⟨b',off',rfl,hbb,hcell',hlt'⟩:=hr2.at_ (k:=j) (by rw [Hm.out];omega);have hcn:=(World.cell?_of_block (a:=⟨b,off+k,none⟩) (hg.out.1.block b af (by intro e;injection e;omega))).trans hcell;have hcc:=hb2.cell (i:=k+j) (by rw [hdl.out,hcl.out];omega);have hfr:=hb2.frozen (k+j);have qZ:=dV hdw (k+j);have Hd:Hid (dg ds (k+j)=dg cs (k+j)):=Lib.hid (hsame.out _ (.inr (ahj _)));have kK:=fun (y d z z':Nat) (e1:y=dg ms j) (e2:d=dg ds (k+j))=>KJ (cs:=ds) (o:=k) (k:=j) (c:=carry) (lc:=lo cs (k+j)) (lm:=lo ms j) (x:=x) (y:=y) (d:=d) (z:=z) (z':=z') (by rw [hdl.out,hcl.out];omega) hval.out;have hset:=fun v=>hb2.oN (i:=k+j) v (by rw [hdl.out,hcl.out];omega);obtain ⟨y,hy⟩ : ∃ y,y=dg ms j:=⟨_,rfl⟩;obtain ⟨d,hd⟩ : ∃ d,d=dg ds (k+j):=⟨_,rfl⟩;have HST:=Lib.hid (kK y d (lo cs (k+j+1)) (lo ms (j+1)) hy hd (by rw [hd,Hd.out];exact bV _ _) (by rw [hy];exact bV _ _));have nJ:=Lib.hid hset;rw [<- hy] at hcell' hlt';rw [<- hd] at hcc qZ Hd;clear hy hd kK hset;obtain ⟨Gv,Gx⟩:=xH hlt hlt';obtain ⟨P,hP⟩ : ∃ P,P=x*y:=⟨_,rfl⟩;have FH:(x:Int)*(y:Int)=(P:Int):=by rw [hP];simp
     rw [FH] at Gv Gx;have hQ1:IntKind.u64.wrap ((x:Int)*(y:Int))=(P:Int):=by rw [FH];exact IntWalk.u64_in _ af
     obtain ⟨Q,hQ⟩ : ∃ Q,Q=P+d:=⟨_,rfl⟩;have hQ2:IntKind.u64.wrap ((P:Int)+(d:Int))=(Q:Int):=by rw [show (P:Int)+(d:Int)=(Q:Int) by omega];exact IntWalk.u64_in _ af
     obtain ⟨D,hD⟩ : ∃ D,D=Q+carry:=⟨_,rfl⟩;have hQ3:IntKind.u64.wrap ((Q:Int)+(carry:Int))=(D:Int):=by rw [show (Q:Int)+(carry:Int)=(D:Int) by omega];exact IntWalk.u64_in _ af
     have yI:Hid (D=carry+(x*y+d)):=Lib.hid af;have hDl:D<=18446744073709551615:=af;obtain ⟨R,hR⟩ : ∃ R,R=D%4294967296:=⟨_,rfl⟩;have hRl:R<4294967296:=af;have hR1:(D:Int)%4294967296=(R:Int):=af;have HR:=Lib.hid hR;obtain ⟨C,hC⟩ : ∃ C,C=D/4294967296:=⟨_,rfl⟩;have FC:C<4294967296:=af;have hC1:(D:Int)/4294967296=(C:Int):=af;have HC:=Lib.hid hC;clear hP hQ hD hR hC FH
     go_wp2_with fail
     go_quiet (fail)
     go_wp2_with fail
     go_roundw
     case rel =>
      refine ⟨j+1,C,ds.set (k+j) R,af,FC,by go_num,by go_num,nJ.out R,Lib.hid (by rw [ahv];exact hdl.out),iO hdw _ hRl,Lib.hid ?_,Lib.hid ?_,Lib.hid ⟨lY (grown_drewN hg.out.1 _) _ _,by simp [World.drewN,hg.out.2]⟩⟩
      ·intro i hi
       rw [iJ _ (by rw [hdl.out,hcl.out];omega),if_neg af];exact hsame.out i af
      ·have:=HST.out
       rw [<- yI.out,<- HR.out,<- HC.out] at this;exact this
     case measure=>simp [intOf];omega
    ·obtain rfl:j=m:=af
     have hcc:=hb2.cell (i:=k+j) (by rw [hdl.out,hcl.out];omega);have hfr:=hb2.frozen (k+j);have hkl:Hid (k+j<ds.length):=Lib.hid (by rw [hdl.out,hcl.out];omega);have hset:=Lib.hid (hb2.oN (i:=k+j) carry hkl.out)
     go_wp2_with fail
     go_roundw
     case rel =>
      refine ⟨k+1,ds.set (k+j) carry,af,by go_num,hset.out,Lib.hid (by rw [ahv,hdl.out];exact hcl.out),iO hdw _ hcar,Lib.hid ?_,Lib.hid ?_,(below_of_grown hbw hg.out.1 af (ahj _)).setCell (ahj _) _⟩
      ·rw [show k+1+j=k+j+1 by omega]
       refine aam hkl.out hv.out ?_ (by rw [bV,<- HX.out]);rw [hval.out,di (l:=ms) (by rw [Hm.out];exact ahj _)]
      ·intro i hi
       rw [iJ _ hkl.out,if_neg af,hsame.out i af];exact hz.out i af
     case measure=>simp [intOf];omega
  ·obtain rfl:k=n:=af
   have HV:Hid (val cs=val ns*val ms):=Lib.hid (by
    have e:=hv.out
    rwa [di (by rw [hcl.out];exact ahj _),di (l:=ns) (by rw [Hn.out];exact ahj _)] at e)
   go_wp2_with fail
   refine (uM _ cs _ _ _ _ (hb1.rd hcw) (ahj _) hcl.out af).mono ?_;rintro e w3 ⟨g,c6,rfl,hc6,gy,hblk,hb6⟩;rw [HV.out] at hc6 hblk;rw [HV.out];have hb7:=bQ hbw hb6 (ahj _);have hsz:=hbw.size;clear hr hr' hb1
   go_wp2_with fail
   go_ret
   exact ⟨g,c6,rfl,hc6,ahk hsz gy,hblk,hb7⟩
end Go.Proofs.AZQ
namespace Lw
open Go Go.RowKit
structure Sn where
 v:Value
 l:List Nat
 k:Nat
def wB(w:World)(e:Sn):Prop := ∃ (A:Option Addr) (n c B:Nat),e.v = .slice A n c/\Rd w B A e.l/\B<=w.heap.size/\e.l.length=n/\n<=c/\n<=e.k
theorem wB.next{w w':World}{e:Sn}(h:wB w e)(hb:Below w.heap.size w w'):wB w' e:=by
 obtain ⟨A,n,c,B,h1,h2,h3,h4⟩:=h;exact ⟨A,n,c,B,h1,h2.next hb h3,ahk h3 hb.size,h4⟩
structure dA(t:TypeId)(W0 w:World)(bs:List Bx)(L:List En)(M:List Sn):Prop where
 env:Env t W0 w bs L
 iM : ∀ e∈M,wB w e
variable {t:TypeId} {W0 w w':World} {bs:List Bx} {L:List En} {M:List Sn}
section
variable {s1:Bool} {l1:List Nat} {B1 c1 g1 g2 g3 k1 n1:Nat} {A1:Option Addr} {x1 x2 x3 y1 y2 y3:Value}
theorem dA.next(h:dA t W0 w bs L M)(hb:Below w.heap.size w w'):dA t W0 w' bs L M:=⟨h.env.next hb,fun e he=>(h.iM e he).next hb⟩
theorem dA.drew(h:dA t W0 w bs L M):dA t W0 w.drew bs L M:=h.next (Below.refl _ w).drew
theorem dA.cons(h:dA t W0 w bs L M){e:Sn}(he:wB w e):dA t W0 w bs L (e::M) :=
 ⟨h.env,fun e' h'=>by
  rcases List.mem_cons.1 h' with rfl | h'
  ·exact he
  ·exact h.iM e' h'⟩
theorem Env.jd(h:Env t W0 w [⟨g1,x1,y1⟩,⟨g2,x2,y2⟩,⟨g3,x3,y3⟩] L) :
  w.cell? ⟨g1,0,none⟩=some x1/\w.cell? ⟨g1,1,none⟩=some y1/\w.cell? ⟨g2,0,none⟩=some x2/\w.cell? ⟨g2,1,none⟩=some y2:=by
 obtain ⟨a,b,c,d,_⟩:=h.cells3;exact ⟨a,b,c,d⟩
theorem Env.ji(h:Env t W0 w [⟨g1,x1,y1⟩,⟨g2,x2,y2⟩,⟨g3,x3,y3⟩] L)(h1:g1≠g3)(h2:g2≠g3)(u v:Value) :
  ((w.setCell ⟨g3,0,none⟩ u).setCell ⟨g3,1,none⟩ v).cell? ⟨g1,0,none⟩=some x1/\((w.setCell ⟨g3,0,none⟩ u).setCell ⟨g3,1,none⟩ v).cell? ⟨g1,1,none⟩=some y1 /\
  ((w.setCell ⟨g3,0,none⟩ u).setCell ⟨g3,1,none⟩ v).cell? ⟨g2,0,none⟩=some x2/\((w.setCell ⟨g3,0,none⟩ u).setCell ⟨g3,1,none⟩ v).cell? ⟨g2,1,none⟩=some y2:=by
 obtain ⟨a1,a2,_,_⟩:=(((h.box _ ak).far (p:=⟨g3,0,none⟩) h1 u).far (p:=⟨g3,1,none⟩) h1 v).facts;obtain ⟨b1,b2,_,_⟩:=(((h.box _ au).far (p:=⟨g3,0,none⟩) h2 u).far (p:=⟨g3,1,none⟩) h2 v).facts;exact ⟨a1,a2,b1,b2⟩
theorem Env.abh(h:Env t W0 w [⟨g1,x1,y1⟩,⟨g3,x3,y3⟩] L)(h1:g1≠g3)(u v:Value) :
  ((w.setCell ⟨g3,0,none⟩ u).setCell ⟨g3,1,none⟩ v).cell? ⟨g1,0,none⟩=some x1/\((w.setCell ⟨g3,0,none⟩ u).setCell ⟨g3,1,none⟩ v).cell? ⟨g1,1,none⟩=some y1:=by
 obtain ⟨a1,a2,_,_⟩:=(((h.box _ ak).far (p:=⟨g3,0,none⟩) h1 u).far (p:=⟨g3,1,none⟩) h1 v).facts;exact ⟨a1,a2⟩
theorem Env.third(h:Env t W0 w [⟨g1,x1,y1⟩,⟨g2,x2,y2⟩,⟨g3,x3,y3⟩] L):Two w g3 t x3 y3:=h.box _ ax
theorem Env.second(h:Env t W0 w [⟨g1,x1,y1⟩,⟨g2,x2,y2⟩] L):Two w g2 t x2 y2:=h.box _ au
theorem cZ.here{w W:World}{s:Bool}{A:Option Addr}{n c B k:Nat}{l:List Nat}(r:Rd w B A l)(hB:B<=w.heap.size)(hb:Below w.heap.size w W)(h:l.length=n)(hn:n<=k)(hc:n<=c):cZ W ⟨.agg #[.bool s,.slice A n c],zv s l,k,vB s l⟩ :=
 ⟨s,A,n,c,l,B,rfl,r.next hb hB,ahk hB hb.size,h,hn,hc,rfl,rfl⟩
theorem wF{w:World}{s2:Bool}{A2:Option Addr}{n2 c2 B2 k2:Nat}{l2:List Nat}(t:TypeId)(r1:Rd w B1 A1 l1)(r2:Rd w B2 A2 l2)(hB1:B1<=w.heap.size)(hB2:B2<=w.heap.size)(e1:l1.length=n1)(e2:l2.length=n2)(q1:n1<=c1)(q2:n2<=c2)(h1:n1<=k1)(h2:n2<=k2) :
  dA t w (((w.alloc (.cells #[.bool s1,.slice A1 n1 c1] t)).alloc (.cells #[.bool s2,.slice A2 n2 c2] t)).alloc (.cells #[.bool false,.slice none 0 0] t))
   [⟨w.heap.size,.bool s1,.slice A1 n1 c1⟩,⟨w.heap.size+1,.bool s2,.slice A2 n2 c2⟩,⟨w.heap.size+1+1,.bool false,.slice none 0 0⟩]
   [⟨.agg #[.bool s1,.slice A1 n1 c1],zv s1 l1,k1,vB s1 l1⟩,⟨.agg #[.bool s2,.slice A2 n2 c2],zv s2 l2,k2,vB s2 l2⟩] []:=by
 have hb:=((((Below.refl w.heap.size w).alloc (ahj _) (.cells #[.bool s1,.slice A1 n1 c1] t)).alloc (by simp) (.cells #[.bool s2,.slice A2 n2 c2] t)).alloc (by simp;omega) (.cells #[.bool false,.slice none 0 0] t));refine ⟨⟨fun e he => ?_,fun b hb' => ?_,hb⟩,fun e he=>by cases he⟩
 ·simp only [List.mem_cons,List.not_mem_nil,or_false] at he
  rcases he with rfl | rfl
  ·exact cZ.here r1 hB1 hb e1 h1 q1
  ·exact cZ.here r2 hB2 hb e2 h2 q2
 ·simp only [List.mem_cons,List.not_mem_nil,or_false] at hb'
  rcases hb' with rfl | rfl | rfl
  ·exact ((Two.new w t _ _).alloc _).alloc _
  ·have:=(Two.new (w.alloc (.cells #[.bool s1,.slice A1 n1 c1] t)) t (.bool s2) (.slice A2 n2 c2)).alloc (.cells #[.bool false,.slice none 0 0] t)
   rwa [World.size_alloc] at this
  ·have:=Two.new ((w.alloc (.cells #[.bool s1,.slice A1 n1 c1] t)).alloc (.cells #[.bool s2,.slice A2 n2 c2] t)) t (.bool false) (.slice none 0 0)
   rwa [World.size_alloc,World.size_alloc] at this
theorem VI{w:World}(t:TypeId)(r1:Rd w B1 A1 l1)(hB1:B1<=w.heap.size)(e1:l1.length=n1)(q1:n1<=c1)(h1:n1<=k1) :
  dA t w ((w.alloc (.cells #[.bool s1,.slice A1 n1 c1] t)).alloc (.cells #[.bool false,.slice none 0 0] t))
   [⟨w.heap.size,.bool s1,.slice A1 n1 c1⟩,⟨w.heap.size+1,.bool false,.slice none 0 0⟩]
   [⟨.agg #[.bool s1,.slice A1 n1 c1],zv s1 l1,k1,vB s1 l1⟩] []:=by
 have hb:=(((Below.refl w.heap.size w).alloc (ahj _) (.cells #[.bool s1,.slice A1 n1 c1] t)).alloc (by simp) (.cells #[.bool false,.slice none 0 0] t));refine ⟨⟨fun e he => ?_,fun b hb' => ?_,hb⟩,fun e he=>by cases he⟩
 ·simp only [List.mem_cons,List.not_mem_nil,or_false] at he
  rcases he with rfl;exact cZ.here r1 hB1 hb e1 h1 q1
 ·simp only [List.mem_cons,List.not_mem_nil,or_false] at hb'
  rcases hb' with rfl | rfl
  ·exact (Two.new w t _ _).alloc _
  ·have:=Two.new (w.alloc (.cells #[.bool s1,.slice A1 n1 c1] t)) t (.bool false) (.slice none 0 0)
   rwa [World.size_alloc] at this
end
end Lw
namespace Go.Proofs.AZQ
open Go Go.RowKit Lw
section
variable {t:TypeId} {W0 w:World} {bs:List Bx} {L:List En} {M:List Sn} {v u u':Value} {x:Int} {k k':Nat} {b:Bool} {l l':List Nat}
theorem I9{N K:Nat}{e:Ending}{w':World}(HE:dA t W0 w bs L M)(h:sU w N e w')(hk:(bg N).length<=K) : ∃ u,e = .returned u/\dA t W0 w' bs L (⟨u,bg N,K⟩::M):=by
 obtain ⟨g,c,rfl,hc,hg,hblk,hb⟩:=h;exact ⟨_,rfl,(HE.next hb).cons ⟨_,_,c,_,rfl,hblk.rd (dD _),ahj _,rfl,hc,hk⟩⟩
theorem uD(HE:dA t W0 w bs L M)(h:⟨v,x,k,b⟩∈L)(hk:k<=100000) :
  Calls Tryz.prog 196 #[v] w fun e w' => ∃ u,e = .returned u/\dA t W0 w' bs L (⟨u,mg x,k⟩::M):=by
 obtain ⟨s,A,n,c,ns,B,e1,h2,h3,h4,h5,h6,e7,h8⟩:=HE.env.ops _ h;dsimp only at e1 e7 h5;subst e1 e7;refine (GU s A ns n c B w h2 h3 h4 af h6).mono ?_;rintro e w' ⟨A',c',rfl,hc,hr,hb⟩;have hl:=vK (s:=s) h2.bI;exact ⟨_,rfl,(HE.next hb).cons ⟨A',_,c',B,rfl,hr,ahk h3 hb.size,rfl,hc,by show _<=k;omega⟩⟩
theorem pO(HE:dA t W0 w bs L M)(h:⟨v,x,k,b⟩∈L)(hk:k<=100000) :
  Calls Tryz.prog 197 #[v] w fun e w'=>e = .returned (.bool (sg x))/\dA t W0 w' bs L M:=by
 obtain ⟨s,A,n,c,ns,B,e1,h2,h3,h4,h5,h6,e7,h8⟩:=HE.env.ops _ h;dsimp only at e1 e7 h5;subst e1 e7;exact (Il s A ns n c B w h2 h3 h4 af).mono fun e w' hh=>⟨hh.1,HE.next hh.2⟩
theorem Qr(HE:dA t W0 w bs L M)(h:⟨u,l,k⟩∈M)(h':⟨u',l',k'⟩∈M)(hk:k+k'<=100000) :
  Calls Tryz.prog 203 #[u,u'] w fun e w' => ∃ u,e = .returned u/\dA t W0 w' bs L (⟨u,bg (val l+val l'),k+k'+1⟩::M):=by
 obtain ⟨A,n,c,B,e1,h2,h3,h4,h5,h6⟩:=HE.iM _ h;obtain ⟨A',n',c',B',e1',h2',h3',h4',h5',h6'⟩:=HE.iM _ h';dsimp only at *;subst e1 e1'
 have hz:(bg (val l+val l')).length<=k+k'+1:=gQ (by
  have:=xG (x:=(val l:Int)) (y:=(val l':Int)) (k:=k) (k':=k') (by rw [ahx];exact ahr (dQ h2.bI) (dY af)) (by rw [ahx];exact ahr (dQ h2'.bI) (dY af))
  rwa [<- aiD,ahx] at this)
 exact (QZ A A' l l' n n' c c' B B' w h2 h2' h3 h3' h4 h4' af af).mono fun e w' hh=>I9 HE hh hz
theorem GY(HE:dA t W0 w bs L M)(h:⟨u,l,k⟩∈M)(h':⟨u',l',k'⟩∈M)(hk:k+k'<=100000)(ht:ed l')(hle:val l'<=val l) :
  Calls Tryz.prog 205 #[u,u'] w fun e w' => ∃ u,e = .returned u/\dA t W0 w' bs L (⟨u,bg (val l-val l'),k⟩::M):=by
 obtain ⟨A,n,c,B,e1,h2,h3,h4,h5,h6⟩:=HE.iM _ h;obtain ⟨A',n',c',B',e1',h2',h3',h4',h5',h6'⟩:=HE.iM _ h';dsimp only at *;subst e1 e1';have hz:(bg (val l-val l')).length<=k:=gQ (ahO (Nat.sub_le _ _) (ahr (dQ h2.bI) (dY af)));exact (abZ A A' l l' n n' c c' B B' w h2 h2' h3 h3' h4 h4' af af ht hle).mono fun e w' hh=>I9 HE hh hz
theorem WL(HE:dA t W0 w bs L M)(h:⟨u,l,k⟩∈M)(h':⟨u',l',k'⟩∈M)(hk:k+k'<=100000) :
  Calls Tryz.prog 204 #[u,u'] w fun e w'=>e = .returned (.int .i64 (iQ (val l) (val l')))/\dA t W0 w' bs L M:=by
 obtain ⟨A,n,c,B,e1,h2,h3,h4,h5,h6⟩:=HE.iM _ h;obtain ⟨A',n',c',B',e1',h2',h3',h4',h5',h6'⟩:=HE.iM _ h';dsimp only at *;subst e1 e1';refine (yf A A' l l' n n' c c' B B' w h2 h2' h4 h4' af af).mono ?_;rintro e w' ⟨rfl,rfl⟩;exact ⟨rfl,HE⟩
theorem qW(s:Bool)(z:Int)(HE:dA t W0 w bs L M)(h:⟨u,l,k⟩∈M)(hk:k<=100000)(hz:z=if s then -(val l:Int) else (val l:Int)) :
  Calls Tryz.prog 186 #[.bool s,u] w fun e w' => ∃ A c,e = .returned (.agg #[.bool (sg z),.slice A (mg z).length c])/\(mg z).length<=c/\Rd w' w'.heap.size A (mg z)/\dA t W0 w' bs L M:=by
 obtain ⟨A,n,c,B,e1,h2,h3,h4,h5,h6⟩:=HE.iM _ h;dsimp only at *;subst e1;refine (Fp s A l n c B z w h2 h3 h4 af hz).mono ?_;rintro e w' ⟨A',c',rfl,hc,hr,hb⟩;exact ⟨A',c',rfl,hc,hr,HE.next hb⟩
end
end Go.Proofs.AZQ
