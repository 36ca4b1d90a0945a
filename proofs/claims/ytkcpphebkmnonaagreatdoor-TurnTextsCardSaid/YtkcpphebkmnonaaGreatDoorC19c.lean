/- Part of a proof, said shortly. -/
import Derived.Deep.LoopGhost
import Derived.OpenShut
import Derived.Deep.Strs
import Derived.Test.YtkcpphebkmnonaaGreatDoorAlzc
import Derived.Test.YtkcpphebkmnonaaGreatDoorC13c
import Derived.Test.YtkcpphebkmnonaaGreatDoorC5c
import Derived.Test.YtkcpphebkmnonaaGreatDoorC2c
import Derived.Test.YtkcpphebkmnonaaGreatDoorC1c
import Derived.Test.YtkcpphebkmnonaaGreatDoorC4c
import Derived.Test.YtkcpphebkmnonaaGreatDoorC3c
import Derived.Test.YtkcpphebkmnonaaGreatDoorC12c
import Derived.Test.YtkcpphebkmnonaaGreatDoorC10c
import Derived.Test.YtkcpphebkmnonaaGreatDoorC9c
import Derived.Test.YtkcpphebkmnonaaGreatDoorC8c
import Derived.Test.YtkcpphebkmnonaaGreatDoorC7c
import Derived.Test.YtkcpphebkmnonaaGreatDoorC6c
import Derived.Test.YtkcpphebkmnonaaGreatDoorC11c
import Derived.Test.YtkcpphebkmnonaaGreatDoorC18c
import Derived.Test.YtkcpphebkmnonaaGreatDoorC17c
import Derived.Test.YtkcpphebkmnonaaGreatDoorC16c
import Derived.Test.YtkcpphebkmnonaaGreatDoorC15c
import Derived.Test.YtkcpphebkmnonaaGreatDoorC14c
set_option maxRecDepth 100000
set_option maxHeartbeats 8000000
set_option linter.unusedVariables false
set_option linter.unusedSimpArgs false
namespace Lw
open Go
def DT(n:Nat):List UInt8:=if n=0 then [] else Lib.decDigits n
theorem UQ{n:Nat}(h:n≠0):DT n=Lib.decDigits n:=if_neg h
theorem UR{M:Nat}(h:M≠0):DT M=DT (M/10)++[UInt8.ofNat (48+M%10)]:=by
 unfold DT;rw [if_neg h]
 by_cases h1:M<10
 ·rw [if_pos af,Lib.decDigits,dif_pos h1,apU h1];rfl
 ·rw [if_neg af,Lib.decDigits,dif_neg h1]
def Tk(N k r:Nat)(S:List UInt8)(Z:Nat):Prop:=DT (N*10^(9-k)+r)++S=DT Z/\r<10^(9-k)
theorem afh{N:Nat}{S:List UInt8}{Z:Nat}(h:DT N++S=DT Z):Tk (N/1000000000) 0 (N%1000000000) S Z:=by
 refine ⟨?_,?_⟩
 ·rw [show N/1000000000*10^(9-0)+N%1000000000=N by simp only [Nat.sub_zero,Nat.reducePow];omega];exact h
 ·simp only [Nat.sub_zero,Nat.reducePow];omega
theorem afi{N k r:Nat}{S:List UInt8}{Z:Nat}(h:Tk N k r S Z)(hk:k<9)(h0:r≠0\/N≠0):Tk N (k+1) (r/10) (UInt8.ofNat (48+r%10)::S) Z:=by
 have hp:10^(9-k)=10^(9-(k+1))*10:=by rw [<- aoY];congr 1;omega
 have h1:0<10^(9-(k+1)):=ao2 af;obtain ⟨h2,h3⟩:=h;unfold Tk;rw [hp] at h3 h2;generalize 10^(9-(k+1))=P at *;have hN:N*(P*10)=N*P*10:=(aoV _ _ _).symm;rw [hN] at h2
 have hne:N*P*10+r≠0:=by
  rcases h0 with h0 | h0
  ·omega
  ·have:0<N*P:=ap2 af h1
   omega
 rw [UR hne,show (N*P*10+r)/10=N*P+r/10 from af,show (N*P*10+r)%10=r%10 from af,apG,apO] at h2;refine ⟨h2,?_⟩;omega
theorem Tc{N k r:Nat}{S:List UInt8}{Z:Nat}(h:Tk N k r S Z)(hk:k<=9)(h0:k=9\/(r=0/\N=0)):DT N++S=DT Z:=by
 obtain ⟨h2,h3⟩:=h;rcases h0 with rfl | ⟨rfl,rfl⟩
 ·have:r=0:=by simpa using h3
  subst this
  simpa using h2
 ·simpa using h2
theorem SY{d:Nat}(h:d<10):(ByteArray.mk #[48,49,50,51,52,53,54,55,56,57]).extract d (d+1)=⟨[UInt8.ofNat (48+d)].toArray⟩:=by
 have:d=0\/d=1\/d=2\/d=3\/d=4\/d=5\/d=6\/d=7\/d=8\/d=9:=af;rcases this with h | h | h | h | h | h | h | h | h | h <;> subst h <;> rfl
theorem Yg(n z:Nat)(h:z<pw n):(DT z).length<=10*n+1:=by
 unfold DT
 split
 ·simp
 ·have h1:pw n<=10^(10*n):=by
   rw [apn];exact aqh ai n
  refine Cc (10*n) z (aoK h (aoH h1 (ao8 af af)))
theorem F7(b:UInt8)(S:List UInt8):(ByteArray.mk [b].toArray++ByteArray.mk S.toArray)=⟨(b::S).toArray⟩:=by
 apply ByteArray.ext;rw [ByteArray.data_append];simp
end Lw
namespace Go.Proofs.BGQ
open Go Go.RowKit Lw
set_option maxRecDepth 100000 in
set_option maxHeartbeats 6400000 in
theorem adn(s:Bool)(A:Option Addr)(ns:List Nat)(n c B:Nat)(w:World)(h:Rd w B A ns)(hB:B<=w.heap.size)(hn:ns.length=n)(hl:n<=10000)(hc:n<=c) :
  Calls Tryz.prog 109 #[.agg #[.bool s,.slice A n c]] w fun e w'=>e = .returned (.string ⟨(Lib.itoa (zv s ns)).toArray⟩)/\Below w.heap.size w w':=by
 have hlz:=ji (s:=s) h.bQ;rw [hn] at hlz;have hk:=fun W hR hB'=>Iw s A ns n c B W hR hB' hn af hc;have hk':=fun W hR hB'=>Jc s A ns n c B W hR hB' hn af;generalize zv s ns=z at *;have Hk:=Lib.hid hk;have FD:=Lib.hid hk';have HL:Hid ((DT z.natAbs).length<=10*n+1):=Lib.hid (Yg n _ (nH hlz));clear hk hk' hn
 go_enter Tryz.func109,Tryz.ntmps109
 go_wp2_with fail
 refine (Hk.out _ (h.alloc hB _) (by simp;omega)).mono ?_;rintro e w1 ⟨A1,c1,rfl,hc1,hr1,hb1⟩;obtain ⟨t1,hs1,hb2⟩:=box1 hb1;obtain ⟨c10,c11,f10,f11⟩:=t1.facts;obtain ⟨n1,hn1⟩ : ∃ n1,n1=(mg z).length:=⟨_,rfl⟩;rw [<- hn1] at hlz hc1 ⊢;have FH:=Lib.hid hn1;clear hn1;have hs1':=hs1
 by_cases h0:n1=0
 ·have HZ:Hid (Lib.itoa z=[48]):=Lib.hid (by
   have e:=kW.1 (by rw [<- FH.out];exact h0);rw [e,je rfl];rw [show (0:Int).natAbs=0 from rfl,Lib.decDigits,dif_pos af];rfl)
  subst h0
  go_wp2_with fail
  go_ret
  rw [HZ.out];exact ⟨rfl,hb2⟩
 ·have hbq:((n1:Int)==0)=false:=by rw [beq_eq_false_iff_ne];omega
  go_wp2_with fail
  go_loopg [3,4] z.natAbs (fun M mv sv wr => ∃ (A':Option Addr) (n' c':Nat) (S:List UInt8) (T:ByteArray),mv = .slice A' n' c'/\n'<=c'/\n'<=n/\Hid ((bn M).length=n')/\Rd wr wr.heap.size A' (bn M)/\sv = .string T/\Hid (T=⟨S.toArray⟩)/\T.size<=100001/\Hid (DT M++S=DT z.natAbs)/\Below w1.heap.size w1 wr)
  case atStart=>exact ⟨A1,n1,c1,[],ByteArray.empty,rfl,hc1,hlz,Lib.hid FH.out.symm,hr1.more af,rfl,Lib.hid rfl,by simp,Lib.hid (aqc _),Below.refl _ _⟩
  case round =>
   obtain ⟨A',n',c',S,T,rfl,hc',hnn,hlen,hr,rfl,GN,hTl,hv,qJ⟩:=hrel;have hbw:=bK hb2 qJ af;have C9:=hbw.size
   by_cases hn0:n'=0
   ·have hz0:Hid (z.natAbs≠0):=Lib.hid (fun e=>h0 (by rw [FH.out];unfold mg;rw [e];rfl))
    have HT:Hid (T=⟨(Lib.decDigits z.natAbs).toArray⟩):=Lib.hid (by
     have e0:gk=0:=iL.1 (aoU (by rw [hlen.out];exact hn0));have e1:=hv.out;rw [e0,UQ hz0.out] at e1;rw [GN.out,<- e1];rfl)
    subst hn0;clear hlen hr GN hv;obtain ⟨c10,c11,f10,f11⟩:=(t1.next qJ).facts
    go_wp2_with fail
    refine (FD.out _ (h.below (hbw.mono hB)) af).mono ?_;rintro e w2 ⟨rfl,hb3⟩;have hb4:=bK hbw hb3 (aoG _)
    cases hsg:sg z
    ·have HI:=Lib.hid (je hsg)
     go_wp2_with fail
     go_ret
     exact ⟨by rw [HT.out,HI.out,ao3];rfl,hb4⟩
    ·have HI:=Lib.hid (itoa_neg hsg)
     go_wp2_with fail
     go_ret
     exact ⟨by rw [HT.out,HI.out];exact congrArg (fun b=>Ending.returned (Value.string b)) (F7 45 (Lib.decDigits z.natAbs)),hb4⟩
   ·have hQn:(bn (gk/1000000000)).length<=n:=by
     have h1:=nH (Nat.le_of_eq hlen.out);have h2:=fD (n:=gk/1000000000) (k:=n') (ao0 (ao4 _ _) h1);omega
    have hM0:gk≠0:=fun e=>hn0 (by rw [<- hlen.out,e];rfl);have GL:Hid (gk/1000000000<gk):=Lib.hid af;clear hM0
    go_wp2_with (at_make;refine lD _ rfl _ _ _ rfl 113 amZ iW _ _ _ _ n' rfl rfl af af af ?_;intro w3 hblk hbel hsz)
    go_loopw [5,7] (fun rv iv wi => ∃ (i':Int) (r:Nat) (ds:List Nat),-1<=i'/\i'<n'/\r<=999999999/\iv = .int .i64 i'/\rv = .int .u64 r/\bF wi wr.heap.size 113 ds/\Hid (ds.length=n')/\bJ ds/\Hid (val (ds.drop (i'+1).toNat)=val ((bn gk).drop (i'+1).toNat)/1000000000/\r=val ((bn gk).drop (i'+1).toNat)%1000000000)/\Below wr.heap.size wr wi) (fun _ i _=>(intOf i+1).toNat)
    case atStart=>exact ⟨(n':Int)-1,0,_,af,af,af,rfl,rfl,hblk,Lib.hid (by simp),lq _,Lib.hid (by rw [show ((n':Int)-1+1).toNat=n' from af,apR (by simp),apR (by rw [hlen.out];exact aoG _)];simp [val]),hbel⟩
    case round =>
     obtain ⟨i',r,ds,hi,hin,hrx,rfl,rfl,hb5,hdl,hdw,hvv,hbi⟩:=hrel;clear hblk hbel hsz;have OQ:=hbi.size;have OE:=hr.below hbi
     by_cases hi0:i'<0
     ·have HV:Hid (val ds=gk/1000000000/\r=gk%1000000000):=Lib.hid (by have:=hvv.out;rwa [show (i'+1).toNat=0 from af,apx,apx,bM] at this)
      have HK:Hid (Tk (gk/1000000000) 0 r S z.natAbs):=Lib.hid (by rw [HV.out.2];exact afh hv.out);clear hvv OE hv
      go_wp2_with fail
      refine (xB _ ds n' n' _ _ (hb5.rd hdw) (aoG _) hdl.out af).mono ?_;rintro e w4 ⟨g4,c4,rfl,hc4,hg4,kT,hb6⟩;rw [HV.out.1] at hc4 kT ⊢;have sS:=bK (bK qJ hbi af) hb6 af;have hr4:=kT.rd (dK _);obtain ⟨Q,hQ⟩ : ∃ Q,Q=gk/1000000000:=⟨_,rfl⟩;rw [<- hQ] at hc4 hr4 HK hQn GL ⊢;obtain ⟨n4,hn4⟩ : ∃ n4,n4=(bn Q).length:=⟨_,rfl⟩;rw [<- hn4] at hc4 hQn ⊢;have BI:=Lib.hid hn4;have HQ:=Lib.hid hQ;clear hQ hn4 kT hb5 hr hb6
      go_wp2_with fail
      go_loopw [4,5,8] (fun sv rv kv wi2 => ∃ (k2 r2:Nat) (S2:List UInt8) (T2:ByteArray),k2<=9/\r2<=999999999/\kv = .int .i64 k2/\rv = .int .u64 r2/\sv = .string T2/\Hid (T2=⟨S2.toArray⟩)/\Hid (Tk Q k2 r2 S2 z.natAbs)/\wi2=w4) (fun _ _ k _=>9-(intOf k).toNat)
      case atStart=>exact ⟨0,r,S,T,af,hrx,rfl,rfl,rfl,GN,HK,rfl⟩
      case round =>
       obtain ⟨k2,r2,S2,T2,hk2,hr2,rfl,rfl,rfl,hT2,hK2,rfl⟩:=hrel
       have N8:T2.size<=100001:=by
        have h1:=congrArg List.length hK2.out.1;rw [apf] at h1;have h2:=HL.out;rw [hT2.out];simp only [ByteArray.size,List.size_toArray];omega
       obtain ⟨d,hd⟩ : ∃ d,d=r2%10:=⟨_,rfl⟩;have hd10:d<10:=af;have hdi:(r2:Int)%10=(d:Int):=af;have HD:=Lib.hid hd;clear hd
       by_cases hk9:k2<9
       ·by_cases hq0:r2=0/\n4=0
        ·have HE:Hid (DT Q++S2=DT z.natAbs):=Lib.hid (Tc hK2.out hk2 (.inr ⟨hq0.1,iL.1 (aoU (by rw [<- BI.out];exact hq0.2))⟩))
         obtain ⟨e1,e2⟩:=hq0
         go_wp2_with fail
         go_roundg Q
         case measure=>exact GL.out
         case rel=>exact ⟨_,0,c4,S2,T2,rfl,af,af,Lib.hid (by rw [<- BI.out];exact e2),hr4,rfl,hT2,N8,HE,sS⟩
        ·have HN:Hid (Tk Q (k2+1) (r2/10) (UInt8.ofNat (48+d)::S2) z.natAbs):=Lib.hid (by
          rw [HD.out];refine afi hK2.out hk9 ?_;rcases Classical.em (r2=0) with e | e
          ·right
           intro e2;exact hq0 ⟨e,by rw [BI.out,e2];rfl⟩
          ·exact .inl e)
         by_cases hr0:r2=0
         ·have aiV:0<n4:=af
          clear hq0;obtain rfl:=hr0;obtain rfl:d=0:=af;have HT2:Hid ((ByteArray.mk #[48,49,50,51,52,53,54,55,56,57]).extract 0 1++T2=⟨(UInt8.ofNat (48+0)::S2).toArray⟩):=Lib.hid (by rw [show (1:Nat)=0+1 from rfl,SY hd10,hT2.out];exact F7 _ _)
          go_wp2_with fail
          go_roundw
          case rel=>exact ⟨k2+1,0,_,_,af,af,by go_num,by go_num,rfl,HT2,HN,trivial⟩
          case measure=>simp [intOf];omega
         ·have hr1:0<r2:=af
          clear hq0;have HT2:Hid ((ByteArray.mk #[48,49,50,51,52,53,54,55,56,57]).extract d (d+1)++T2=⟨(UInt8.ofNat (48+d)::S2).toArray⟩):=Lib.hid (by rw [SY hd10,hT2.out];exact F7 _ _)
          go_wp2_with fail
          go_roundw
          case rel=>exact ⟨k2+1,r2/10,_,_,af,af,by go_num,by go_num,rfl,HT2,HN,trivial⟩
          case measure=>simp [intOf];omega
       ·have HE:Hid (DT Q++S2=DT z.natAbs):=Lib.hid (Tc hK2.out hk2 (.inl af))
        go_wp2_with fail
        go_roundg Q
        case measure=>exact GL.out
        case rel=>exact ⟨_,n4,c4,S2,T2,rfl,hc4,hQn,Lib.hid BI.out.symm,hr4,rfl,hT2,N8,HE,sS⟩
     ·obtain ⟨j,rfl⟩:=apq (show 0<=i' from af)
      obtain ⟨b,off,rfl,hb',hcell,hlt⟩:=OE.at_ (k:=j) (by rw [hlen.out];omega);have hcc:=hb5.cell (i:=j) (by rw [hdl.out];omega);have hfr:=hb5.frozen j;have oG:=Lib.hid (fun v=>hb5.nT (i:=j) v (by rw [hdl.out];omega));have hst:=Nk (x:=1000000000) (r:=r) (d:=dg (bn gk) j) (H:=val ((bn gk).drop (j+1))) af (by have:=hvv.out.2;rwa [show ((j:Int)+1).toNat=j+1 by omega] at this) hlt;have Bz:=Lib.hid (xY (bn gk) (k:=j) (by rw [hlen.out];omega));obtain ⟨d,hd⟩ : ∃ d,d=dg (bn gk) j:=⟨_,rfl⟩;rw [<- hd] at hcell hlt hst Bz;obtain ⟨D,hD⟩ : ∃ D,D=d+4294967296*r:=⟨_,rfl⟩;rw [<- hD] at hst;have hO:bits .or .u64 ((r:Int)*4294967296) (d:Int)=(D:Int):=by rw [hD];exact tY af hlt
      obtain ⟨q,hq⟩ : ∃ q,q=D/1000000000:=⟨_,rfl⟩;obtain ⟨r',hr'⟩ : ∃ r',r'=D%1000000000:=⟨_,rfl⟩;rw [<- hq,<- hr'] at hst;have iw:q<4294967296:=hst.1;have hDl:D<=18446744073709551615:=af;have hqi:(D:Int)/1000000000=(q:Int):=af;have ai2:(D:Int)%1000000000=(r':Int):=af;have aae:r'<=999999999:=af;have HST:=Lib.hid hst.2;clear hst hd hD hq hr'
      go_wp2_with fail
      go_roundw
      case rel =>
       refine ⟨(j:Int)-1,r',ds.set j q,af,af,aae,by go_num,by go_num,oG.out q,Lib.hid (by rw [aoO];exact hdl.out),gB hdw _ iw,Lib.hid ?_,hbi.setCell (aoG _) _⟩;have hv1:=hvv.out;rw [show ((j:Int)+1).toNat=j+1 by omega] at hv1;rw [show ((j:Int)-1+1).toNat=j from af,xY (ds.set j q) (k:=j) (by rw [aoO,hdl.out];omega),iR (l:=ds) (k:=j) _ (by rw [hdl.out];omega),if_pos rfl,Gj _ af,hv1.1,Bz.out];exact HST.out
      case measure=>simp [intOf]
end Go.Proofs.BGQ
namespace Lw
open Go Go.RowKit
theorem MN{N k:Nat}(h:N<pw k)(hk:k<=100):(Lib.decDigits N).length<=1001:=by
 have h1:pw k<=(10^10)^k:=by unfold pw;exact aqh ai k
 rw [<- apn] at h1;have h2:10^(10*k)<=10^(10*k+1):=ao8 af af;have h3:=Cc (10*k) N af;omega
theorem zO{z:Int}{k:Nat}(h:z.natAbs<pw k)(hk:k<=100):(Lib.itoa z).length<=1002:=by
 have:=MN h hk
 cases hs:sg z
 ·rw [je hs];simp;omega
 ·rw [itoa_neg hs];simp;omega
end Lw
namespace Go.Proofs.BGQ
open Go Go.RowKit Lw
section
variable {W0 w:World} {bs:List Bx} {L:List En} {ts:List Bt} {M:List Qn} {s:Bool} {A A':Option Addr} {n c n' c' k:Nat} {q:Rat} {b:Bool}
theorem bu.k2{g:Nat}{x y:Value}(h:bu W0 w (⟨g,x,y⟩::bs) L ts M):w.cell? ⟨g,0,none⟩=some x/\w.cell? ⟨g,1,none⟩=some y:=⟨(h.c2 ak).1,(h.c2 ak).2.1⟩
end
open bI
section
variable {W0 w:World} {U:List Box} {Ps:List (World->Prop)}
variable {s1:Bool} {x1:Int} {c1 k1 n1:Nat} {A1:Option Addr} {q:Rat}
variable {s1:Bool} {A1:Option Addr} {n1 c1:Nat} {B1:Option Addr} {m1 d1:Nat}
theorem FI.Ec{v:Value}{z:Int}{k:Nat}{w:World}(h:FI v z k w)(hk:k<=100):(Lib.itoa z).length<=1002:=zO (dB.lt h) hk
theorem aea(HS:St W0 U Ps w)(f1:FI (.agg #[.bool s1,.slice A1 n1 c1]) x1 k1 w)(hk:k1<=10000):bC Tryz.prog 109 [.agg #[.bool s1,.slice A1 n1 c1]] w (dm W0 U Ps (.string ⟨(Lib.itoa x1).toArray⟩)):=by
 obtain ⟨s,A,n,c,ns,B,he,h1,h2,h3,h4,h5,h6,-⟩:=f1
 injection he with he;obtain ⟨rfl,rfl,rfl,rfl⟩:s1=s/\A1=A/\n1=n/\c1=c:=by simpa using he
 have hz:zv s1 ns=x1:=h6;have hk':n1<=k1:=h4;rw [<- hz];refine Calls.mono (adn s1 A1 ns n1 c1 B w h1 h2 h3 af h5) fun e w' hh => ?_;obtain ⟨rfl,hb⟩:=hh;exact ⟨_,rfl,rfl,HS.next hb⟩
theorem Jh(_:Tz W0)(_:Tab W0)(HS:St W0 U Ps w)(f1:FI (.agg #[.bool s1,.slice A1 n1 c1]) x1 k1 w)(hk:k1<=10000):bC Tryz.prog 109 [.agg #[.bool s1,.slice A1 n1 c1]] w (dm W0 U Ps (.string ⟨(Lib.itoa x1).toArray⟩)):=aea HS f1 hk
theorem acP(h:decide ((q.den:Int)=1)=true):Lib.itoa q.num=fE q:=by
 have h:=of_decide_eq_true h;unfold fE;rw [if_pos af]
theorem acR(h:decide ((q.den:Int)=1)=false):(Lib.itoa q.num++[47])++Lib.itoa (q.den:Int)=fE q:=by
 have h:=of_decide_eq_false h;unfold fE;rw [if_neg af,apG]
theorem Je(HT:Tz W0)(HB:Tab W0){q1:Rat}{b1:Bool}(HS:St W0 U Ps w)(f1:FV (aoC s1 A1 n1 c1 B1 m1 d1) q1 k1 b1 w)(hk:k1<=90):bC Tryz.prog 65 [(aoC s1 A1 n1 c1 B1 m1 d1)] w (dm W0 U Ps (.string ⟨(fE q1).toArray⟩)):=by
 have HS:=HS.add (FV.stable _ _ _ _) f1;clear f1;refine cZ Tryz.func65 rfl Tryz.ntmps65 rfl<|Js<|JL.box (vs:=(aoD s1 A1 n1 c1 B1 m1 d1)) HS rfl rfl rfl rfl (fun g1 w1 HS => ?_);refine La rfl<|Jn<|Js<|JL.load (aoC s1 A1 n1 c1 B1 m1 d1) HS 0 rfl rfl rfl amL amI rfl rfl<|JL.call rfl rfl Tryz.call99 (adW HT HB HS (HS.at_ 0 rfl) af)<|?_;rintro v2 w2 ⟨qg,oz,pG,oN,qh,oC,pI,oO,rfl,HS⟩;refine Lm rfl<|Lx rfl rfl<|Lx rfl rfl<|JL.alloc (vs:=[.bool false,.slice none 0 0]) HS rfl amW rfl rfl (fun g3 w3 HS => ?_);refine JL.alloc (vs:=[.bool false,.slice none 0 0]) HS rfl amW rfl rfl (fun g4 w4 HS => ?_);refine JL.store HS rfl rfl (i:=1) rfl amJ rfl rfl rfl (vs':=[.bool qg,.slice oz pG oN]) rfl rfl (fun w5 HS => ?_);refine JL.store HS rfl rfl (i:=0) rfl amJ rfl rfl rfl (vs':=[.bool qh,.slice oC pI oO]) rfl rfl (fun w6 HS => ?_);refine Jn<|JC.seq<|JC.seq<|JC.draw HS [] ah (fun w7 HS => ?_);refine Da (.agg #[.bool qh,.slice oC pI oO]) 0 0 rfl HS.b0 rfl rfl amQ amJ<|bU 1 rfl rfl rfl anq (qV HT HB HS  )<|?_;rintro agf agR ⟨aeD,UD,abA,Xf,rfl,HS⟩;refine ⟨HS.b0,?_⟩;refine bU 2 rfl rfl rfl Tryz.call96 (acZ HT HB HS (HS.at_ 2 rfl) (HS.at_ 0 rfl) af)<|?_;rintro agh agS ⟨rfl,HS⟩;refine ⟨HS.b0,?_⟩;refine Dv (.bool (decide ((q1.den:Int)=1))) 3 rfl HS.b0 (fun a ha w=>eU (ha.ev rfl) (ha.ev rfl) (Xw _ _))<|JR.next ah (fun _ _ h=>h)<|?_
 cases o8:((decide ((q1.den:Int)=1)))
 ·skip
  refine JC.bH rfl<|Jk<|JC.seq<|JC.draw HS [] ah (fun w10 HS => ?_);refine Da (.agg #[.bool qg,.slice oz pG oN]) 0 1 rfl HS.b0 rfl rfl amQ amJ<|Da (.agg #[.bool qh,.slice oC pI oO]) 3 0 rfl HS.b0 rfl rfl amQ amJ<|bU 1 rfl rfl rfl Tryz.call109 (Jh HT HB HS (HS.at_ 1 rfl) af)<|?_;rintro akJ alB ⟨rfl,HS⟩;refine ⟨HS.b0,?_⟩;refine Dv (.string ⟨((Lib.itoa q1.num)++[47]).toArray⟩) 2 rfl HS.b0 (fun a ha w=>DY (ha.ev rfl) (ha.ev rfl) (by have:=FI.Ec (HS.at_ 1 rfl) af;have:=FI.Ec (HS.at_ 2 rfl) af;simp only [apf,ao5,List.length_nil];omega) rfl)<|bU 4 rfl rfl rfl Tryz.call109 (Jh HT HB HS (HS.at_ 2 rfl) af)<|?_;rintro akK alC ⟨rfl,HS⟩;refine ⟨HS.b0,?_⟩;refine Dv (.string ⟨(((Lib.itoa q1.num)++[47])++(Lib.itoa (q1.den:Int))).toArray⟩) 5 rfl HS.b0 (fun a ha w=>DY (ha.ev rfl) (ha.ev rfl) (by have:=FI.Ec (HS.at_ 1 rfl) af;have:=FI.Ec (HS.at_ 2 rfl) af;simp only [apf,ao5,List.length_nil];omega) rfl)<|Ds 6 rfl HS.b0 rfl<|JR.next ah (fun _ _ h=>h)<|Ja (v := .string ⟨(((Lib.itoa q1.num)++[47])++(Lib.itoa (q1.den:Int))).toArray⟩) Tryz.results65 (.tmp rfl)<|?_;exact ⟨(congrArg (fun l:List UInt8=>Value.string ⟨l.toArray⟩) (acR (by assumption))),HS.o0 3 4⟩
 ·skip
  refine JC.bP rfl<|Js<|JL.load (.agg #[.bool qg,.slice oz pG oN]) HS 1 rfl rfl rfl amQ amJ rfl rfl<|JL.call rfl rfl Tryz.call109 (Jh HT HB HS (HS.at_ 1 rfl) af)<|?_;rintro v12 w12 ⟨rfl,HS⟩;refine La rfl<|Jn<|Ja Tryz.results65 (.tmp rfl)<|?_;exact ⟨(congrArg (fun l:List UInt8=>Value.string ⟨l.toArray⟩) (acP (by assumption))),HS.o0 3 4⟩
end
open Go.ChangeShapes Go.WideShapes Go.ChangeAt Go.Joins
theorem acY{H:Type}{enc:TypeId×Value->H}{W:World}{m:Nat}{c0 c1 c2:Value}{y:DataW H×List MemPlace}(h:DataW.trod enc Tryz.prog W 0 (fun _=>true) true m 24 [c0,c1,c2]=some y) :
  ∃ s A n c B m c' k q b,c0 = .bool s/\c1 = .slice A n c/\c2 = .slice B m c'/\dA W ⟨(aoC s A n c B m c'),q,k,b⟩:=by
 obtain ⟨y0,y1,y2,n,_,_,h0,h1,h2⟩:=Deep.trod_struct3 Tryz.underlying24 h;obtain ⟨s,e0,_⟩:=DataW.trod_bool anb (show DataW.trod enc Tryz.prog W 0 (fun _=>true) true n 4 [c0]=some y0 from h0)
 injection e0 with e0;obtain ⟨A,n1,c,l,rfl,a1,a2,a3⟩:=Uf (show DataW.trod enc Tryz.prog W 0 (fun _=>true) true n 22 [c1]=some y1 from h1);obtain ⟨B,m1,c',l',rfl,g1,g2,g3⟩:=Uf (show DataW.trod enc Tryz.prog W 0 (fun _=>true) true n 22 [c2]=some y2 from h2);subst e0;exact ⟨s,A,n1,c,B,m1,c',max n1 m1,qv s l l',fV s l l',rfl,rfl,rfl,s,A,n1,c,B,m1,c',l,l',rfl,a1,g1,a2,g2,Nat.le_max_left _ _,Nat.le_max_right _ _,a3,g3,rfl,rfl⟩
theorem Xk:Tryz.prog.cellsOf 26=4:=ah
theorem Xi:Tryz.prog.cellsOf 4=1:=ah
theorem array4'{α:Type}{cs:Array α}(h:cs.size=4) : ∃ a b c d,cs = #[a,b,c,d]:=by
 obtain ⟨l⟩:=cs
 match l,h with
 | [a,b,c,d],_=>exact ⟨a,b,c,d,rfl⟩
set_option maxRecDepth 100000 in
theorem Ti{H:Type}{enc:TypeId×Value->H}{W:World}{base:Nat}{v:Value}{d:DataW H}{p:List MemPlace}(hv:Value.okWide Tryz.prog W .any base 26 v)(h:DataW.Trod enc Tryz.prog W 0 (fun _=>true) true 26 v d p) :
  ∃ s A n c B m e u k q b,v = .agg #[.bool s,.slice A n c,.slice B m e,.bool u]/\dA W ⟨.agg #[.bool s,.slice A n c,.slice B m e],q,k,b⟩:=by
 obtain ⟨cs,rfl,hsz⟩:=okWide_struct Tryz.underlying26 hv;obtain ⟨c0,c1,c2,c3,rfl⟩:=array4' (hsz.trans Xk);obtain ⟨fuel,hf⟩:=h;obtain ⟨y0,y1,n,_,_,h0,h1⟩:=trod_struct2 Tryz.underlying26 hf;rw [Xj] at h0;rw [Xi] at h1;obtain ⟨s,A,n1,c,B,m,e,k,q,b,rfl,rfl,rfl,f1⟩:=acY (show DataW.trod enc Tryz.prog W 0 (fun _=>true) true n 24 [c0,c1,c2]=some y0 from h0);obtain ⟨u,e0,_⟩:=DataW.trod_bool anb (show DataW.trod enc Tryz.prog W 0 (fun _=>true) true n 4 [c3]=some y1 from h1)
 injection e0 with e0;subst e0;exact ⟨s,A,n1,c,B,m,e,u,k,q,b,rfl,f1⟩
end Go.Proofs.BGQ
