/- Part of a proof, said shortly. -/
import Derived.Deep.RegionWith
import Derived.Deep.RegionHeld3
import Derived.Deep.DeepCutAuto
import Derived.Test.YtkcpphebkmnonaaGreatDoorAlzc
import Derived.Test.YtkcpphebkmnonaaGreatDoorC6c
import Derived.Test.YtkcpphebkmnonaaGreatDoorC1c
import Derived.Test.YtkcpphebkmnonaaGreatDoorC2c
import Derived.Test.YtkcpphebkmnonaaGreatDoorC3c
namespace Lw
open Go Go.RowKit
theorem tZ{p:Nat}(hp:p<=32):2^(32-p)*2^p=4294967296:=by
 rw [<- apb,show 32-p+p=32 by omega]
theorem Jz{y p:Nat}(hy:y<4294967296)(hp:p<=32):y/2^(32-p)<2^p:=by
 rw [apy (ao2 af),aoR,tZ hp];exact hy
theorem afQ{x y p:Nat}(_hx:x<4294967296)(hy:y<4294967296)(hp:p<=31) :
  bits .or .u64 (IntKind.u64.wrap ((x:Int)*2^p)) ((y:Int)/2^(32-p))=((x*2^p+y/2^(32-p):Nat):Int):=by
 have h1:2^p<=2147483648:=by
  have:2^p<=2^31:=ao8 af hp;omega
 have h2:x*2^p<=4294967295*2147483648:=apl af h1;have e1:(x:Int)*2^p=(x:Int)*((2^p:Nat):Int):=by simp
 have e2:(y:Int)/2^(32-p)=((y/2^(32-p):Nat):Int):=by simp
 have e3:(x:Int)*((2^p:Nat):Int)=((x*2^p:Nat):Int):=by simp
 rw [e1,e2,e3,IntWalk.u64_in _ af,<- e3];exact IG (Jz hy af) af af
theorem Yc{x y p:Nat}(hx:x<4294967296)(hy:y<4294967296)(hp:p<=31) :
  bits .or .u64 ((x:Int)/2^p) (IntKind.u64.wrap ((y:Int)*2^(32-p)))%4294967296=((x/2^p+y%2^p*2^(32-p):Nat):Int):=by
 have hR:2^(32-p)*2^p=4294967296:=tZ af
 have hx2:x/2^p<2^(32-p):=by
  rw [apy (ao2 af),hR];exact hx
 have hP:0<2^p:=ao2 af
 have hRl:2^(32-p)<=4294967296:=by
  have:2^(32-p)<=2^32:=ao8 af af;omega
 have h2:y*2^(32-p)<=4294967295*4294967296:=apl af hRl;have e2:(x:Int)/2^p=((x/2^p:Nat):Int):=by simp
 have e3:(y:Int)*2^(32-p)=((y*2^(32-p):Nat):Int):=by simp
 rw [e2,e3,IntWalk.u64_in _ af,u64_or_nat _ _ af af,Nat.or_comm,DD hx2]
 have h3:(y*2^(32-p)+x/2^p)%4294967296=x/2^p+y%2^p*2^(32-p):=by
  have h4:=apA y (2^p);have h5:=aoN y hP;generalize y/2^p=q at *;generalize y%2^p=r at *;generalize x/2^p=t at *;generalize 2^(32-p)=R at *;generalize 2^p=P at *;subst h4
  have h6:(P*q+r)*R+t=(t+r*R)+4294967296*q:=by
   rw [<- hR,aoW];have:P*q*R=R*P*q:=by ac_rfl
   omega
  have h7:(r+1)*R<=P*R:=aoP _ h5;rw [aoW,apa,aoR P,hR] at h7;rw [h6,aqm,apU af]
 omega
end Lw
namespace Go.Proofs.BGQ
open Go Go.RowKit Lw
set_option maxRecDepth 100000 in
set_option maxHeartbeats 1600000 in
theorem SH(A:Option Addr)(ns:List Nat)(n c B s W p P R:Nat)(w:World)(h:Rd w B A ns)(hB:B<=w.heap.size)(hn:ns.length=n)(hl:n<=16777216)(hs:s<=536870912)(hW:W=s/32)(hp:p=s%32)(hP:P=2^p)(hR:R=2^(32-p)) :
  Calls Tryz.prog 212 #[.slice A n c,.int .i64 s] w fun e w' => ∃ cs,e = .returned (.slice (some ⟨w.heap.size,0,none⟩) (n+W+1:Nat) (n+W+1:Nat))/\bF w' w.heap.size 113 cs /\
   cs.length=n+W+1/\bJ cs/\val cs=pw W*(val ns*P)/\Below w.heap.size w w':=by
 have Hn:=Lib.hid hn;clear hn;have e1:(s:Int)/32=(W:Int):=af;have e2:(s:Int)%32=(p:Int):=af;have hp2:p<=31:=af;have HP:=Lib.hid hP;have HR:=Lib.hid hR;clear hP hR hW hp
 go_enter Tryz.func212,Tryz.ntmps212
 go_wp2_with (at_make;refine lD _ rfl _ _ _ rfl 113 amZ iW _ _ _ _ (n+W+1) rfl rfl af af af ?_;intro w1 hblk hbel hsz)
 go_loopw [22] (fun i wr => ∃ (k:Nat) (cs:List Nat),k<=n+1/\i = .int .i64 k/\bF wr w.heap.size 113 cs/\Hid (cs.length=n+W+1)/\bJ cs /\
   Hid (lo cs (k+W)+pw (k+W)*(wd ns ((k:Int)-1)/R)=pw W*(lo ns k*P))/\Below w.heap.size w wr) (fun i _=>n+1-(intOf i).toNat)
 case atStart=>exact ⟨0,_,aoI _,rfl,hblk,Lib.hid (by simp),lq _,Lib.hid (by rw [Uc af,zU (b:=[]) _ (fun j _=>by rw [yU];rfl),di (by simp),fH];simp [val]),hbel⟩
 case round =>
  obtain ⟨k,cs,hk,rfl,hb1,hcl,hcw,hv,hbw⟩:=hrel;clear hblk hbel hsz;have hr:=h.below (hbw.mono hB)
  by_cases hkn:k<n+1
  ·have hcc:=hb1.cell (i:=k+W) (by rw [hcl.out];omega)
   have hfr:=hb1.frozen (k+W);have hw1:=lg hr.bQ (k:Int);have hw2:=lg hr.bQ ((k:Int)-1)
   go_wp2_with fail
   have k1:IntKind.i64.wrap ((k:Int)-1)=(k:Int)-1:=IntWalk.i64_in _ af;have k2:IntKind.i64.wrap ((k:Int)+(W:Int))=((k+W:Nat):Int):=by rw [IntWalk.i64_in _ af];omega
   have k3:IntKind.i64.wrap (32-(p:Int))=((32-p:Nat):Int):=by rw [IntWalk.i64_in _ af];omega
   go_region_with (go_at_call 176;refine (lC _ ns _ _ _ _ _ hr.drew Hn.out af).mono ?_;rintro e w' ⟨rfl,rfl⟩)
   go_wp2_with fail
   have hkl:k+W<cs.length:=by rw [hcl.out];omega
   have hR0:0<R:=by rw [HR.out];exact ao2 af
   have CP:R*P=4294967296:=by rw [HR.out,HP.out];exact tZ af
   have htP:wd ns ((k:Int)-1)/R<P:=by rw [HR.out,HP.out];exact Jz hw2 af
   have hval:bits .or .u64 (IntKind.u64.wrap ((wd ns (k:Int):Int)*2^p)) ((wd ns ((k:Int)-1):Int)/2^(32-p))%4294967296=(((dg ns k*P+wd ns ((k:Int)-1)/R)%4294967296:Nat):Int):=by
    rw [afQ hw1 hw2 hp2,jA,HR.out,HP.out];omega
   go_roundw
   case rel =>
    refine ⟨k+1,cs.set (k+W) ((dg ns k*P+wd ns ((k:Int)-1)/R)%4294967296),af,by go_num,hb1.kE hkl hval,Lib.hid (by rw [aoO];exact hcl.out),gB hcw _ (aoN _ af),Lib.hid ?_,(hbw.setCell (aoG _) _).drew⟩;rw [show ((k+1:Nat):Int)-1=(k:Int) from af,jA,show k+1+W=k+W+1 by omega];exact afR hkl hv.out (afS CP hR0 htP)
   case measure=>simp [intOf];omega
  ·obtain rfl:k=n+1:=af
   go_wp2_with fail
   go_ret
   refine ⟨cs,rfl,hb1,hcl.out,hcw,?_,hbw⟩;have e:=hv.out;rw [show ((n+1:Nat):Int)-1=(n:Int) from af,jA,oP (by rw [Hn.out];exact aoG _),Nat.zero_div,Nat.mul_zero,apv,di (by rw [hcl.out];omega),di (l:=ns) (by rw [Hn.out];omega)] at e;exact e
theorem acy(s:Nat):2^s=pw (s/32)*2^(s%32):=by
 unfold pw;rw [show (4294967296:Nat)=2^32 from rfl,<- apn,<- apb];grind
set_option maxRecDepth 100000 in
set_option maxHeartbeats 16000000 in
theorem aeQ(A:Option Addr)(ns:List Nat)(n c B s W p P R:Nat)(w:World)(h:Rd w B A ns)(hB:B<=w.heap.size)(hn:ns.length=n)(hl:n<=16777216)(hs:s<=536870912)(hW:W=s/32)(hp:p=s%32)(hP:P=2^p)(hR:R=2^(32-p)) :
  Calls Tryz.prog 215 #[.slice A n c,.int .i64 s] w (oI w (val ns/2^s)):=by
 have Hn:=Lib.hid hn;clear hn;have e1:(s:Int)/32=(W:Int):=af;have e2:(s:Int)%32=(p:Int):=af;have hp2:p<=31:=af;have HP:=Lib.hid hP;have HR:=Lib.hid hR;have HQ:Hid (2^s=pw W*P):=Lib.hid (by rw [hP,hp,hW];exact acy s);clear hP hR hW hp
 by_cases Zx:n<=W
 ·have h0:Hid (val ns/2^s=0):=Lib.hid (by
   apply ape;have h1:=eu h.bQ;have h2:pw ns.length<=pw W:=dU (by rw [Hn.out];exact Zx);have h3:pw W*1<=pw W*P:=aoS _ (by rw [HP.out];exact ao2 af);rw [HQ.out];omega)
  go_enter Tryz.func215,Tryz.ntmps215
  go_wp2_with fail
  go_ret
  rw [h0.out];exact ⟨none,0,rfl,aoG _,Rd.nil_ _ _ _,Below.refl _ _⟩
 ·obtain ⟨m,hm⟩ : ∃ m,m=n-W:=⟨_,rfl⟩
  have hm1:IntKind.i64.wrap ((n:Int)-(W:Int))=(m:Int):=by rw [IntWalk.i64_in _ af];omega
  have hm2:(n:Int)-(W:Int)=(m:Int):=af;have Ox:m+W<=n:=af;have hm4:n<=m+W:=af;have hm5:m<=16777216:=af;clear hm
  go_enter Tryz.func215,Tryz.ntmps215
  go_wp2_with (at_make;refine lD _ rfl _ _ _ rfl 113 amZ iW _ _ _ _ m rfl rfl af af af ?_;intro w1 hblk hbel hsz)
  go_loopw [24] (fun i wr => ∃ (k:Nat) (cs:List Nat),k<=m/\i = .int .i64 k/\bF wr w.heap.size 113 cs/\Hid (cs.length=m)/\bJ cs /\
    Hid (P*lo cs k+dg (ns.drop W) 0%P=lo (ns.drop W) k+pw k*(dg (ns.drop W) k%P))/\Below w.heap.size w wr) (fun i _=>m-(intOf i).toNat)
  case atStart=>exact ⟨0,_,aoI _,rfl,hblk,Lib.hid (by simp),lq _,Lib.hid (by simp [fH,kY]),hbel⟩
  case round =>
   obtain ⟨k,cs,hk,rfl,hb1,hcl,hcw,hv,hbw⟩:=hrel;clear hblk hbel hsz;have hr:=h.below (hbw.mono hB)
   by_cases hkn:k<m
   ·have hcc:=hb1.cell (i:=k) (by rw [hcl.out];omega)
    have hfr:=hb1.frozen k;have hw1:=lg hr.bQ ((k:Int)+(W:Int));have hw2:=lg hr.bQ ((k:Int)+(W:Int)+1)
    go_wp2_with fail
    have k2:IntKind.i64.wrap ((k:Int)+(W:Int))=(k:Int)+(W:Int):=IntWalk.i64_in _ af;have k4:IntKind.i64.wrap ((k:Int)+(W:Int)+1)=(k:Int)+(W:Int)+1:=IntWalk.i64_in _ af;have k3:IntKind.i64.wrap (32-(p:Int))=((32-p:Nat):Int):=by rw [IntWalk.i64_in _ af];omega
    go_region_with (go_at_call 176;refine (lC _ ns _ _ _ _ _ hr.drew Hn.out af).mono ?_;rintro e w' ⟨rfl,rfl⟩)
    go_wp2_with fail
    have hkl:k<cs.length:=by rw [hcl.out];omega
    have hP0:0<P:=by rw [HP.out];exact ao2 af
    have CP:R*P=4294967296:=by rw [HR.out,HP.out];exact tZ af
    have d1:wd ns ((k:Int)+(W:Int))=dg (ns.drop W) k:=by rw [yT,<- jA];congr 1;omega
    have d2:wd ns ((k:Int)+(W:Int)+1)=dg (ns.drop W) (k+1):=by rw [yT,<- jA];congr 1;omega
    have hval:bits .or .u64 ((wd ns ((k:Int)+(W:Int)):Int)/2^p) (IntKind.u64.wrap ((wd ns ((k:Int)+(W:Int)+1):Int)*2^(32-p)))%4294967296=((dg (ns.drop W) k/P+dg (ns.drop W) (k+1)%P*R:Nat):Int):=by
     rw [Yc hw1 hw2 hp2,d1,d2,HR.out,HP.out]
    have hlt:dg (ns.drop W) k/P+dg (ns.drop W) (k+1)%P*R<4294967296:=(Yb CP hP0 (by rw [<- d1];exact hw1)).2
    go_roundw
    case rel =>
     refine ⟨k+1,cs.set k (dg (ns.drop W) k/P+dg (ns.drop W) (k+1)%P*R),af,by go_num,hb1.kE hkl hval,Lib.hid (by rw [aoO];exact hcl.out),gB hcw _ hlt,Lib.hid ?_,(hbw.setCell (aoG _) _).drew⟩;exact Ye hkl CP hv.out rfl
    case measure=>simp [intOf];omega
   ·obtain rfl:k=m:=af
    have hP0:0<P:=by rw [HP.out];exact ao2 af
    have hdl:(ns.drop W).length=k:=by rw [apu,Hn.out];omega
    have HV:Hid (val cs=val ns/2^s):=Lib.hid (by
     rw [HQ.out,<- apV,<- agj h.bQ];refine Yd (z:=dg (ns.drop W) 0%P) hP0 (by rw [hdl];exact hcl.out) (aoN _ hP0) ?_;rw [hdl];exact hv.out)
    go_wp2_with (go_at_call 155;refine (mJ _ cs _ _ _ _ (hb1.rd hcw) hcl.out (aoG _) af).mono ?_;rintro e w' ⟨rfl,rfl⟩)
    go_ret
    refine ⟨_,_,kz (by rw [HV.out]),?_,?_,hbw⟩
    ·have:=jP hcw
     rw [HV.out,hcl.out] at this;exact this
    ·have:=(hb1.rd hcw).bn
     rw [HV.out] at this;exact this
end Go.Proofs.BGQ
namespace Lw
open Go Go.RowKit
theorem SI{d:Nat}(h0:d≠0)(h:d<4294967296):1<=Lib.bitLen d/\Lib.bitLen d<=32/\2147483648<=d*2^(32-Lib.bitLen d)/\d*2^(32-Lib.bitLen d)<4294967296:=by
 obtain ⟨h1,h2,h3,_⟩:=bitLen_spec h0 (show d<18446744073709551616 from af);have h4:Lib.bitLen d<=32:=Lib.bitLen_le d 32 af (by simpa using h);have e1:2^(Lib.bitLen d-1)*2^(32-Lib.bitLen d)=2147483648:=by rw [<- apb,show Lib.bitLen d-1+(32-Lib.bitLen d)=31 by omega]
 have e2:2^Lib.bitLen d*2^(32-Lib.bitLen d)=4294967296:=by rw [<- apb,show Lib.bitLen d+(32-Lib.bitLen d)=32 by omega]
 have hp:0<2^(32-Lib.bitLen d):=by grind
 have m1:=aoP (2^(32-Lib.bitLen d)) h2;have m2:=Nat.mul_lt_mul_of_pos_right h3 hp;omega
theorem aeS{l:List Nat}{k P:Nat}(hw:bJ l)(hl:l.length=k+2)(h1:2147483648<=dg l (k+1)*P)(h2:dg l (k+1)*P<4294967296)(hP:0<P)(Zr:dg l (k+1)*P+P<=4294967296) :
  (bn (val l*P)).length=k+2/\2147483648<=dg (bn (val l*P)) (k+1):=by
 have e:lo l (k+2)=val l:=di af;rw [show k+2=k+1+1 from rfl,dh] at e;have h3:=iY hw (k+1);have e2:val l*P=lo l (k+1)*P+pw (k+1)*(dg l (k+1)*P):=by rw [<- e,aoW,aoV]
 have h4:lo l (k+1)*P+P<=pw (k+1)*P:=by
  have:=aoP P h3
  rwa [ap6] at this
 have h5:pw (k+1)*(dg l (k+1)*P)+pw (k+1)*P<=pw (k+2):=by
  rw [<- aoJ,dV (k+1),aoR 4294967296];exact aoS _ Zr
 have h6:pw (k+1)*2147483648<=pw (k+1)*(dg l (k+1)*P):=aoS _ h1;have hlt:val l*P<pw (k+2):=af;have hpp:=jf (k+1);have hle:=fD hlt
 have hlen:(bn (val l*P)).length=k+2:=by
  rcases aoM (bn (val l*P)).length (k+2) with h7 | h7
  ·have:=nH (n:=val l*P) (k:=k+1) af
   omega
  ·omega
 refine ⟨hlen,?_⟩;have e3:lo (bn (val l*P)) (k+2)=val l*P:=by rw [di af,bM]
 rw [show k+2=k+1+1 from rfl,dh] at e3;have h8:=iY (dK (val l*P)) (k+1);refine Nat.le_of_not_lt fun h9 => ?_;have:=aoS (pw (k+1)) (show dg (bn (val l*P)) (k+1)+1<=2147483648 from af);rw [aoJ,ao1] at this;omega
theorem Tf{d P:Nat}(h1:d*P<4294967296)(h2 : ∃ k,k*P=4294967296):d*P+P<=4294967296:=by
 obtain ⟨k,hk⟩:=h2;rw [<- hk] at h1 ⊢;have h3:d<k:=Nat.lt_of_mul_lt_mul_right h1;have:=aoP P h3;grind
theorem aaX{N M n k P:Nat}(hn:(bn N).length=n)(hm:(bn M).length=k+2)(hnm:k+2<=n)(hP:0<P):N*P<M*P*pw (n-(k+2)+1):=by
 have h1:N<pw n:=nH af;have h2:=vY (fG M) (by intro e;rw [e] at hm;simp at hm);rw [bM,hm] at h2;have h3:pw n=pw (k+2-1)*pw (n-(k+2)+1):=by rw [<- nK];congr 1;omega
 have h4:pw (k+2-1)*pw (n-(k+2)+1)<=M*pw (n-(k+2)+1):=aoP _ h2;have h5:N<M*pw (n-(k+2)+1):=af;have h6:=Nat.mul_lt_mul_of_pos_right h5 hP;grind
theorem aeT{r P:Nat}(hP:0<P):r*P/P=r:=Nat.mul_div_cancel r hP
end Lw
namespace Go.Proofs.BGQ
open Go Go.RowKit Lw
set_option maxRecDepth 100000 in
set_option maxHeartbeats 3200000 in
theorem aaW(A A':Option Addr)(N M n k c c' B B':Nat)(w:World)(h:Rd w B A (bn N))(h':Rd w B' A' (bn M))(hB:B<=w.heap.size)(hB':B'<=w.heap.size)(hn:(bn N).length=n)(hm:(bn M).length=k+2)(hl:n<=8388608)(hnm:k+2<=n) :
  Calls Tryz.prog 203 #[.slice A n c,.slice A' (k+2:Nat) c'] w (uJ w (N/M) (N%M)):=by
 obtain ⟨b,off,rfl,hb,hcell,hlt⟩:=h'.at_ (k:=k+1) (by rw [hm];omega)
 have hd0:dg (bn M) (k+1)≠0:=by
  refine fG M _ ?_;rw [ap0,hm,show k+2-1=k+1 from af,sG af]
 obtain ⟨t1,t2,t3,t4⟩:=SI hd0 hlt;obtain ⟨d,hd⟩ : ∃ d,d=dg (bn M) (k+1):=⟨_,rfl⟩;rw [<- hd] at hcell hlt hd0 t1 t2 t3 t4;have hk:=fun W=>(Tryz.bits_LeadingZeros32 (d:Int) W af af);obtain ⟨s,hs⟩ : ∃ s,s=32-Lib.bitLen d:=⟨_,rfl⟩;rw [<- hs] at t3 t4;have OG:s<=31:=af;have hk2 : ∀ W,Calls Tryz.prog 211 #[.int .u32 (d:Int)] W fun e w'=>e = .returned (aj s)/\W=w':=fun W=>(hk W).mono fun e w' h=>⟨by rw [h.1,apF,hs];congr 2;omega,h.2.symm⟩;have Hk:=Lib.hid hk2;have hP0:0<2^s:=ao2 af;have htop:=aeS (dK M) hm (by rw [<- hd];exact t3) (by rw [<- hd];exact t4) hP0 (by rw [<- hd];exact Tf t4 ⟨2^(32-s),tZ af⟩);rw [bM] at htop;have hst:=aaX hn hm hnm hP0;obtain ⟨P,hP⟩ : ∃ P,P=2^s:=⟨_,rfl⟩;rw [<- hP] at hP0 htop hst;have hs1:0=s/32:=af;have hs2:s=s%32:=af;have jb:=Lib.hid (And.intro hs1 (And.intro hs2 hP));have HN:=Lib.hid hn;have HM:=Lib.hid hm;have HT:=Lib.hid htop;have HS:=Lib.hid hst;have HP:=Lib.hid hP0;obtain ⟨j,hj⟩ : ∃ j,n=k+2+j:=⟨n-(k+2),af⟩;subst hj;clear hk hk2 hs t1 t2 t3 t4 hd hn hm htop hst hP0 hd0 hs1 hs2 hP
 go_enter Tryz.func203,Tryz.ntmps203
 go_wp2_with fail
 refine (Hk.out _).mono ?_;rintro e w1 ⟨rfl,rfl⟩
 go_wp2_with fail
 refine (SH A (bn N) (k+2+j) c B s 0 s P (2^(32-s)) _ h hB HN.out af af jb.out.1 jb.out.2.1 jb.out.2.2 rfl).mono ?_;rintro e w2 ⟨us,rfl,hu1,kU,huw,huv,hub⟩;rw [bM,kY,apa] at huv;have OU:=hu1.lt;have Lh:=Lib.hid kU;have VH:=Lib.hid huv;clear kU huv
 go_wp2_with fail
 refine (SH (some ⟨b,off,none⟩) (bn M) (k+2) c' B' s 0 s P (2^(32-s)) _ (h'.below (hub.mono hB')) (aoH hB' hub.size) HM.out af af jb.out.1 jb.out.2.1 jb.out.2.2 rfl).mono ?_;rintro e w3 ⟨vs,rfl,hv1,hvl,hvw,hvv,hvb⟩;rw [bM,kY,apa] at hvv;have aav:=hv1.lt;have VK:=Lib.hid hvl;have VL:=Lib.hid hvv;clear hvl hvv
 go_wp2_with fail
 refine (mJ _ vs _ _ _ _ (hv1.rd hvw) VK.out af af).mono ?_;rintro e w4 ⟨rfl,rfl⟩;have Df:=(hv1.rd hvw).bn;rw [VL.out] at Df ⊢;rw [HT.out.1];obtain ⟨V,hV⟩ : ∃ V,V=M*P:=⟨_,rfl⟩;rw [<- hV] at Df;have HV:=Lib.hid hV;have OW:=hub.trans (hvb.mono hub.size);have hu2:=hu1.below hvb OU;clear hV hub hvb hu1 hv1;have hj1:IntKind.i64.wrap ((k:Int)+2+(j:Int)+1-((k:Int)+2))=((j+1:Nat):Int):=by rw [IntWalk.i64_in _ af];omega
 have hj2:(k:Int)+2+(j:Int)+1-((k:Int)+2)=((j+1:Nat):Int):=af
 go_wp2_with (at_make;refine lD _ rfl _ _ _ rfl 113 amZ iW _ _ _ _ (j+1) rfl rfl af af af ?_;intro w4 hq1 CZ hqs)
 have OV:=hu2.below CZ (aoK OU (aoZ (aoK aav (aoG _)))|> fun h=>af);have hv4:=Df.below CZ;have hb4:=OW.trans (CZ.mono af);have Va:=Lib.hid (show Ks (N*P) V (k+2) us (List.replicate (j+1) 0) (j+1) from Ks.start VH.out (by rw [Lh.out];omega) (by rw [HV.out];have:=HS.out;rwa [show k+2+j-(k+2)+1=j+1 by omega] at this));clear hu2 Df OW CZ hqs;generalize w3.heap.size=gq at *;generalize w2.heap.size=gv at *
 go_loopw [9] (fun i wr => ∃ (i':Int) (xs qs:List Nat),-1<=i'/\i'<=j/\i = .int .i64 i'/\bF wr w.heap.size 113 xs/\Hid (xs.length=k+2+j+1)/\bJ xs/\bF wr gq 113 qs/\Hid (qs.length=j+1)/\bJ qs /\
   Rd wr gq (some ⟨gv,0,none⟩) (bn V)/\Hid (Ks (N*P) V (k+2) xs qs (i'+1).toNat)/\Below w.heap.size w wr) (fun i _=>(intOf i+1).toNat)
 case atStart=>exact ⟨j,us,_,af,af,rfl,OV,Lib.hid (by rw [Lh.out]),huw,hq1,Lib.hid (by simp),lq _,hv4,Va,hb4⟩
 case round =>
  obtain ⟨i',xs,qs,hi,hij,rfl,hx1,hxl,hxw,hqq,iw,o7,hv5,hks,hbw⟩:=hrel;clear OV hq1 hv4 hb4
  by_cases h0:i'<0
  ·have G7:Hid (Ks (N*P) V (k+2) xs qs 0):=Lib.hid (by have:=hks.out;rwa [show (i'+1).toNat=0 by omega] at this)
   have hko:=G7.out.out
   have HR:Hid (val xs/2^s=N%M/\val qs=N/M):=Lib.hid (by
    rw [HV.out,Nat.mul_mod_mul_right,Nat.mul_div_mul_right _ _ HP.out] at hko;rw [hko.1,<- jb.out.2.2];exact ⟨aeT HP.out,hko.2⟩)
   clear hko
   go_wp2_with fail
   refine (mJ _ qs _ _ _ _ (hqq.rd o7) iw.out (aoG _) af).mono ?_;rintro e w7 ⟨rfl,rfl⟩;rw [HR.out.2];have OC:=(hqq.rd o7).bn;have qL:=jP o7;rw [HR.out.2] at OC qL;rw [iw.out] at qL;have Vh:=Lib.hid qL;clear qL
   go_wp2_with fail
   refine (aeQ _ xs (k+2+j+1) _ _ s 0 s P (2^(32-s)) _ (hx1.rd hxw) (aoG _) hxl.out af af jb.out.1 jb.out.2.1 jb.out.2.2 rfl).mono ?_;rintro e w8 ⟨A8,c8,rfl,hc8,kK,hb8⟩;rw [HR.out.1] at kK hc8 ⊢
   go_wp2_with fail
   go_ret2
   exact ⟨_,_,A8,c8,rfl,Vh.out,hc8,(OC.below hb8).more hb8.size,kK,bK hbw hb8 (aoG _)⟩
  ·obtain ⟨i,rfl⟩:=apq (show 0<=i' from af)
   have Ov:Hid (Ks (N*P) V (k+2) xs qs (i+1)):=Lib.hid (by have:=hks.out;rwa [show ((i:Int)+1).toNat=i+1 by omega] at this);clear hks
   go_wp2_with fail
   rw [show i+(k+2)+1-i=k+3 by omega]
   go_wp2_with fail
   have BF:Hid ((bn V).length=k+2/\2147483648<=dg (bn V) (k+1)):=Lib.hid (by rw [HV.out];exact HT.out);have hxi:i<xs.length:=by rw [hxl.out];omega
   obtain ⟨U,zy,N9,GR,Oa,Ob⟩:=Ov.out.part hxw hxi (nH (by rw [BF.out.1];exact aoG _))
   have Oc:0<V:=by
    rcases aoT V with e | e
    ·rw [e] at GR;omega
    ·exact e
   have HU:=Lib.hid (And.intro N9 (And.intro Oa Ob));have aab:=hqq.lt;refine (Zf _ _ ((xs.drop i).take (k+2+1)) (bn V) k _ _ _ gq _ (hx1.ac0 hxw i (k+2+1) (by rw [hxl.out];omega)) hv5 (by rw [apc,apu,hxl.out];omega) BF.out.1 af BF.out.2 (by rw [zy,bM];exact GR)).mono ?_;rintro e w5 ⟨x,q,rfl,rfl,hx,hxa,hxb⟩;rw [zy,bM] at hxa hxb;have HX:=Lib.hid (And.intro hxa hxb);clear zy N9 GR Oa Ob hxa hxb
   go_wp2_with fail
   refine (ae6 w.heap.size i x (k+2) U (some ⟨gv,0,none⟩) xs (bn V) _ _ gq _ (hx1.drewN q) hxw (hv5.drewN q) (by simp;omega) (fun _ a ha=>by injection ha with e;subst e;simp;omega) BF.out.1 af (by rw [hxl.out];omega) (by rw [hxl.out];omega) af hx HU.out.2.1 (by rw [bM];exact Oc) (by rw [bM];exact HX.out.1) (by rw [bM];exact HX.out.2)).mono ?_;rintro e w6 ⟨ds,rfl,hb6,hdl,hdw,hsame,hval,iq,OM⟩;rw [bM] at hval ⊢;obtain ⟨Q,hQ⟩ : ∃ Q,Q=U/V:=⟨_,rfl⟩;have Zu:Q<=4294967295:=by rw [hQ];exact aoH HX.out.1 hx
   rw [<- hQ] at hval ⊢;have hq6:=hqq.of_same (iq.block gq aab (by intro e;injection e with e;omega));have hv6:=hv5.grown ((show wr.grownBy (wr.drewN q) (some w.heap.size) from ⟨rfl,rfl,rfl,aoG _,fun _ _ _=>rfl⟩).trans iq) af (fun _ a ha=>by injection ha with e;subst e;simp;omega);have oW:=below_of_grown (hbw.trans (below_drewN' _ _ _)) iq (by simp;exact hbw.size) (aoG _);have HD:=Lib.hid (And.intro hdl (And.intro hsame (And.intro hval (And.intro hQ OM))));have hqc:=hq6.cell (i:=i) (by rw [iw.out];omega);have hqf:=hq6.frozen i;have HB:=Lib.hid oW;clear hdl hsame hval hQ OM iq oW
   go_wp2_with fail
   go_roundw
   case rel =>
    refine ⟨(i:Int)-1,ds,qs.set i Q,af,af,rfl,hb6.far (p:=⟨gq,i,none⟩) (by simp;omega) _,Lib.hid (by rw [HD.out.1];exact hxl.out),hdw,hq6.nT Q (by rw [iw.out];omega),Lib.hid (by rw [aoO];exact iw.out),gB o7 _ af,hv6.setCell (p:=⟨gq,i,none⟩) (aoG _) _,Lib.hid ?_,HB.out.setCell (p:=⟨gq,i,none⟩) (by simp;omega) _⟩;rw [show ((i:Int)-1+1).toNat=i from af,HD.out.2.2.2.1];refine Ov.out.next hxi (by rw [iw.out];omega) HD.out.1 HU.out.1 Oc ?_ HU.out.2.2 HD.out.2.1 (by rw [<- HD.out.2.2.2.1];exact HD.out.2.2.1);have:=iY hxw (i+(k+2)+1);rw [HU.out.2.2];exact this
   case measure=>simp [intOf]
theorem Ir:FN:=by
 intro A A' N M n m c c' B B' w h h' hB hB' hn hm hl hl' h2 jR;obtain ⟨k,rfl⟩ : ∃ k,m=k+2:=⟨m-2,af⟩
 have hnm:k+2<=n:=by
  rcases aoM n (k+2) with h1 | h1
  ·have:=zV (dK N) (fG M) (by rw [hn,hm];exact h1)
   rw [bM,bM] at this;omega
  ·exact h1
 exact aaW A A' N M n k c c' B B' w h h' hB hB' hn hm hl hnm
set_option maxRecDepth 100000 in
set_option maxHeartbeats 3200000 in
theorem Px(A A':Option Addr)(N M k m c c' B B':Nat)(w:World)(h:Rd w B A (bn M))(h':Rd w B' A' (bn N))(hn:(bn N).length=k+3)(hm:(bn M).length=m)(hl:k<=8388608)(jR:M<=N) :
  Calls Tryz.prog 202 #[.slice A m c,.slice A' (k+3:Nat) c'] w fun e w' => ∃ q,e = .returned (.int .u64 ((M/(pw k*2^Lib.bitLen (dg (bn N) (k+2))):Nat):Int))/\w'=w.drewN q:=by
 obtain ⟨b,off,rfl,hb,hcell,hlt⟩:=h'.at_ (k:=k+2) (by rw [hn];omega)
 have hd0:dg (bn N) (k+2)≠0:=by
  refine fG N _ ?_;rw [ap0,hn,show k+3-1=k+2 from af,sG af]
 obtain ⟨t1,t2,t3,t4⟩:=SI hd0 hlt
 have hmm:m<=k+3:=by
  rcases aoM (k+3) m with h1 | h1
  ·have:=zV (dK N) (fG M) (by rw [hn,hm];exact h1)
   rw [bM,bM] at this;omega
  ·exact h1
 have zq:val (bn M)<pw (k+3):=aoK (eu (dK M)) (dU (by rw [hm];exact hmm));have Dc:=afn (dK N) (by rw [bM,bM];exact jR) hn zq;obtain ⟨d,hd⟩ : ∃ d,d=dg (bn N) (k+2):=⟨_,rfl⟩;rw [<- hd] at hcell hlt hd0 t1 t2 t3 t4 Dc;obtain ⟨s,hs⟩ : ∃ s,s=32-Lib.bitLen d:=⟨_,rfl⟩;rw [<- hs] at t3 t4;have OG:s<=31:=af;have hbl:Lib.bitLen d=32-s:=af;have hk:=fun W=>(Tryz.bits_LeadingZeros32 (d:Int) W af af);have hk2 : ∀ W,Calls Tryz.prog 211 #[.int .u32 (d:Int)] W fun e w'=>e = .returned (aj s)/\W=w':=fun W=>(hk W).mono fun e w' h=>⟨by rw [h.1,apF,hs];congr 2;omega,h.2.symm⟩;have Hk:=Lib.hid hk2;have hval:=aaR (n:=k) (dK M) zq (tZ (p:=s) af) (ao2 af);rw [bM] at hval;obtain ⟨w1,hw1⟩ : ∃ x,x=dg (bn M) (k+2):=⟨_,rfl⟩;obtain ⟨w2,hw2⟩ : ∃ x,x=dg (bn M) (k+1):=⟨_,rfl⟩;obtain ⟨w3,hw3⟩ : ∃ x,x=dg (bn M) k:=⟨_,rfl⟩;have l1:w1<4294967296:=by rw [hw1];exact fA (dK M) _
 have l2:w2<4294967296:=by rw [hw2];exact fA (dK M) _
 have l3:w3<4294967296:=by rw [hw3];exact fA (dK M) _
 rw [<- hw1,<- hw2,<- hw3] at hval;rw [<- hw1] at Dc;obtain ⟨P,hP⟩ : ∃ P,P=2^s:=⟨_,rfl⟩
 have htop:(w2+4294967296*w1)*P<=18446744073709551615:=by
  have hP0:0<P:=by rw [hP];exact ao2 af
  have f1:w1*P<=d*P:=aoP _ Dc;have f2:w1*P+P<=4294967296:=Tf (by rw [<- hP] at t4;omega) ⟨2^(32-s),by rw [hP];exact tZ af⟩;have f3:w2*P<=4294967295*P:=aoP _ af;rw [aoW,aoV];omega
 have OB:bits .or .u64 ((w1:Int)*4294967296) (w2:Int)=((w2+4294967296*w1:Nat):Int):=tY l1 l2;obtain ⟨top,ht⟩ : ∃ t,t=w2+4294967296*w1:=⟨_,rfl⟩;rw [<- ht] at OB htop hval;have htl:top<=18446744073709551615:=af;have hb3:w3/2^(32-s)<2^s:=Jz l3 af;have hmul:(top:Int)*2^s=((top*P:Nat):Int):=by rw [hP];simp
 have Ho:IntKind.u64.wrap ((top:Int)*2^s)=((top*P:Nat):Int):=by rw [hmul];exact IntWalk.u64_in _ af
 have zJ:(w3:Int)/2^(32-s)=((w3/2^(32-s):Nat):Int):=by simp
 have hor2:bits .or .u64 ((top*P:Nat):Int) ((w3/2^(32-s):Nat):Int)=((top*P+w3/2^(32-s):Nat):Int):=by
  have hp2:2^s<=2147483648:=by
   have:2^s<=2^31:=ao8 af OG;omega
  have:=IG (i:=s) (a:=top) (b:=w3/2^(32-s)) hb3 (by rw [<- hP];omega) af;rw [<- hP] at this;rw [<- this,apd]
 rw [<- hP] at hval;obtain ⟨x1,hx1⟩ : ∃ x,x=top*P:=⟨_,rfl⟩;obtain ⟨x2,hx2⟩ : ∃ x,x=w3/2^(32-s):=⟨_,rfl⟩;rw [<- hx1] at hor2 Ho hval htop;rw [<- hx2] at hor2 zJ hval;obtain ⟨G,hG⟩ : ∃ G,G=M/(pw k*2^(32-s)):=⟨_,rfl⟩;rw [<- hG] at hval;have HG:=Lib.hid (show G=M/(pw k*2^Lib.bitLen (dg (bn N) (k+2))) by rw [<- hd,hbl];exact hG);rw [hval] at hor2;have k1:IntKind.i64.wrap ((k:Int)+3-1)=(k:Int)+2:=by rw [IntWalk.i64_in _ af];omega
 have k2:IntKind.i64.wrap ((k:Int)+3-2)=(k:Int)+1:=by rw [IntWalk.i64_in _ af];omega
 have k3:IntKind.i64.wrap ((k:Int)+3-3)=(k:Int):=by rw [IntWalk.i64_in _ af];omega
 have hA1 : ∀ W,Rd W B A (bn M)->Calls Tryz.prog 176 #[.slice A m c,.int .i64 ((k:Int)+2)] W fun e w'=>e = .returned (.int .u64 (w1:Int))/\W=w':=fun W hW=>by
  have:=lC A (bn M) m c B ((k+2:Nat):Int) W hW hm af;rw [jA,<- hw1] at this;exact this
 have hA2 : ∀ W,Rd W B A (bn M)->Calls Tryz.prog 176 #[.slice A m c,.int .i64 ((k:Int)+1)] W fun e w'=>e = .returned (.int .u64 (w2:Int))/\W=w':=fun W hW=>by
  have:=lC A (bn M) m c B ((k+1:Nat):Int) W hW hm af;rw [jA,<- hw2] at this;exact this
 have hA3 : ∀ W,Rd W B A (bn M)->Calls Tryz.prog 176 #[.slice A m c,aj k] W fun e w'=>e = .returned (.int .u64 (w3:Int))/\W=w':=fun W hW=>by
  have:=lC A (bn M) m c B (k:Int) W hW hm af;rw [jA,<- hw3] at this;exact this
 have HA1:=Lib.hid hA1;have HA2:=Lib.hid hA2;have UW:=Lib.hid hA3;clear hA1 hA2 hA3
 go_enter Tryz.func202,Tryz.ntmps202
 clear hn hm hw1 hw2 hw3 hval hk hk2 hs hbl t1 t2 t3 t4 hd0 hP hmul ht hx1 hx2 hG hd Dc hb3
 go_wp2_with fail
 refine (Hk.out _).mono ?_;rintro e w4 ⟨rfl,rfl⟩
 go_wp2_with fail
 refine (HA1.out _ h).mono ?_;rintro e w4 ⟨rfl,rfl⟩
 go_wp2_with fail
 refine (HA2.out _ h).mono ?_;rintro e w4 ⟨rfl,rfl⟩
 go_wp2_with fail
 have HF:=Lib.hid (And.intro Ho (And.intro zJ hor2));clear Ho zJ hor2;clear zq hmm jR htl htop l1 l2 l3 OB hcell hlt hb h' k1 k2;have k5:IntKind.i64.wrap (k:Int)=(k:Int):=IntWalk.i64_in _ af;have k4:IntKind.i64.wrap (32-(s:Int))=((32-s:Nat):Int):=by rw [IntWalk.i64_in _ af];omega
 go_region_with (go_at_call 176;refine (UW.out _ h.drew).mono ?_;rintro e w4 ⟨rfl,rfl⟩)
 all_goals go_wp2_with fail
 all_goals go_ret
 all_goals exact ⟨1,eP (by rw [HF.out.1,HF.out.2.1,HF.out.2.2,HG.out]),rfl⟩
end Go.Proofs.BGQ
namespace Lw
open Go Go.RowKit
def FU(N M u0 u1 v0 v1:Nat)(o:Bool):Prop:=v0=0\/Sp N M u0 u1 v0 v1 o
theorem aaQ{l:List Nat}{k:Nat}(hw:bJ l)(hl:l.length=k+3)(hd0:dg l (k+2)≠0):val l/(pw k*2^Lib.bitLen (dg l (k+2)))<18446744073709551616:=by
 obtain ⟨b1,b2,b3,b4⟩:=bitLen_spec hd0 (show dg l (k+2)<18446744073709551616 by have:=fA hw (k+2);omega);rw [apy (ap2 (jf k) (ao2 af))];have e:lo l (k+3)=val l:=di af;rw [show k+3=k+2+1 from rfl,dh] at e;have h1:=iY hw (k+2);have h2:pw (k+2)*(dg l (k+2)+1)<=pw (k+2)*2^Lib.bitLen (dg l (k+2)):=aoS _ b3;have p2:pw (k+2)=18446744073709551616*pw k:=by rw [dV,dV,<- aoV]
 have h3:18446744073709551616*(pw k*2^Lib.bitLen (dg l (k+2)))=pw (k+2)*2^Lib.bitLen (dg l (k+2)):=by grind
 rw [aoJ,ao1] at h2;omega
theorem Nz(w:World)(o:Obj)(q:Nat)(a b c d e:Value) :
  Below w.heap.size w (((((((w.alloc o).drewN q).setCell ⟨w.heap.size,0,none⟩ a).setCell ⟨w.heap.size,1,none⟩ b).setCell ⟨w.heap.size,2,none⟩ c).setCell ⟨w.heap.size,3,none⟩ d).setCell ⟨w.heap.size,4,none⟩ e) :=
 have hb:=((Below.refl w.heap.size w).alloc (aoG _) o).trans (⟨rfl,rfl,rfl,aoG _,fun _ _=>rfl⟩:Below w.heap.size (w.alloc o) ((w.alloc o).drewN q))
 ((((hb.setCell (aoG _) _).setCell (aoG _) _).setCell (aoG _) _).setCell (aoG _) _).setCell (aoG _) _
end Lw
namespace Go.Proofs.BGQ
open Go Go.RowKit Lw
set_option maxRecDepth 100000 in
set_option maxHeartbeats 6400000 in
theorem YE(A A':Option Addr)(N M k m c c' B B':Nat)(w:World)(h:Rd w B A (bn N))(h':Rd w B' A' (bn M))(hB:B<=w.heap.size)(hB':B'<=w.heap.size)(hn:(bn N).length=k+3)(hm:(bn M).length=m)(hl:k<=8388605)(jR:M<=N) :
  Calls Tryz.prog 188 #[.slice A (k+3:Nat) c,.slice A' m c'] w fun e w' => ∃ (u0 u1 v0 v1:Nat) (o:Bool),e = .returned (.agg #[.int .u64 u0,.int .u64 u1,.int .u64 v0,.int .u64 v1,.bool o])/\Below w.heap.size w w'/\FU N M u0 u1 v0 v1 o:=by
 have hd0:dg (bn N) (k+2)≠0:=by
  refine fG N _ ?_;rw [ap0,hn,show k+3-1=k+2 from af,sG af]
 have hx0:=aaQ (dK N) hn hd0;rw [bM] at hx0;obtain ⟨K,hK⟩ : ∃ K,K=pw k*2^Lib.bitLen (dg (bn N) (k+2)):=⟨_,rfl⟩;have hK0:0<K:=by rw [hK];exact ap2 (jf k) (ao2 af)
 have l1:=fun (W:World) (hW:Rd W B A (bn N))=>Px A A N N k (k+3) c c B B W hW hW hn hn af (aoG _);have l2:=fun (W:World) (hW:Rd W B A (bn N)) (hW':Rd W B' A' (bn M))=>Px A' A N M k m c' c B' B W hW' hW hn hm af jR;rw [<- hK] at l1 l2 hx0;obtain ⟨x0,hx⟩ : ∃ x,x=N/K:=⟨_,rfl⟩;obtain ⟨y0,hy⟩ : ∃ y,y=M/K:=⟨_,rfl⟩;rw [<- hx] at l1 hx0;rw [<- hy] at l2;have hyx:y0<=x0:=by rw [hx,hy];exact Nat.div_le_div_right jR
 have H1:=Lib.hid l1;have H2:=Lib.hid l2;have HK:=Lib.hid (And.intro hK0 (And.intro hx hy));have HL:=Lib.hid (Lm.start hyx);clear hd0 hK hK0 l1 l2 hx hy hn hm jR
 go_enter Tryz.func188,Tryz.ntmps188
 go_wp2_with fail
 refine (H1.out _ (h.alloc hB _)).mono ?_;rintro e w1 ⟨q1,rfl,rfl⟩
 go_wp2_with fail
 refine (H2.out _ ((h.alloc hB _).drewN q1) ((h'.alloc hB' _).drewN q1)).mono ?_;rintro e w1 ⟨q2,rfl,rfl⟩
 go_wp2_with fail
 go_loopw [5,6,7,8,9,10,11,12,13] (fun a b c0 c1 c2 d0 d1 d2 e wr => ∃ (X Y U0 U1 U2 V0 V1 V2:Nat) (O:Bool) (q:Nat),X<=18446744073709551615/\a = .int .u64 X/\b = .int .u64 Y/\c0 = .int .u64 U0/\c1 = .int .u64 U1/\c2 = .int .u64 U2/\d0 = .int .u64 V0/\d1 = .int .u64 V1/\d2 = .int .u64 V2/\e = .bool O /\
   Hid (Lm x0 y0 X Y U1 U2 V1 V2 O)/\Hid (FU N M U0 U1 V0 V1 O)/\wr=(w.alloc (.cells #[.int .u64 0,.int .u64 0,.int .u64 0,.int .u64 0,.bool false] 171)).drewN q) (fun _ b _ _ _ _ _ _ _ _=>(intOf b).toNat)
 case atStart=>exact ⟨x0,y0,0,1,0,0,0,1,true,q1+q2,af,rfl,rfl,rfl,rfl,rfl,rfl,rfl,rfl,rfl,HL,Lib.hid (.inl rfl),rfl⟩
 case round =>
  obtain ⟨X,Y,U0,U1,U2,V0,V1,V2,O,q,hX,rfl,rfl,rfl,rfl,rfl,rfl,rfl,rfl,rfl,hlm,hst,rfl⟩:=hrel;have GU:Y<=X:=hlm.out.le
  by_cases g1:V2<=Y
  ·obtain ⟨b1,b2,b3,b4⟩:=hlm.out.small hx0 g1
   obtain ⟨f1,f2⟩:=hlm.out.fits g1;have hY1:1<=Y:=aoH hlm.out.JM g1;have hg1:(V2:Int)<=(Y:Int):=af;obtain ⟨Z,hZ⟩ : ∃ Z,Z=X-Y:=⟨_,rfl⟩;have hZ1:(X:Int)-(Y:Int)=(Z:Int):=af
   by_cases g2:V1+V2<=Z
   ·have hg2:(V1:Int)+(V2:Int)<=(Z:Int):=af
    have hstep:=Lib.hid (hlm.out.step hx0 g1 (by rw [<- hZ];exact g2) HK.out.1 HK.out.2.1 HK.out.2.2);have hnext:=Lib.hid (hlm.out.next g1);have hmod:=Lib.hid (aoN X (show 0<Y from af));obtain ⟨Q,hQ⟩ : ∃ Q,Q=X/Y:=⟨_,rfl⟩;obtain ⟨R,hR⟩ : ∃ R,R=X%Y:=⟨_,rfl⟩;have Zu:Q<=18446744073709551615:=by rw [hQ];exact aoH (ao4 _ _) hX
    have hq1:IntKind.u64.wrap ((X:Int)/(Y:Int))=(Q:Int):=by
     rw [<- ap1,<- hQ];exact IntWalk.u64_in _ af
    have hr1:(X:Int)%(Y:Int)=(R:Int):=by rw [hR];exact (aqd X Y).symm
    have hr2:(X:Int).tmod (Y:Int)=(R:Int):=by rw [Int.tmod_eq_emod_of_nonneg af];exact hr1
    rw [<- hQ] at f1 f2 hnext;rw [<- hR] at hnext hmod;obtain ⟨QU,GK⟩ : ∃ Z,Z=Q*U2:=⟨_,rfl⟩;obtain ⟨QV,CO⟩ : ∃ Z,Z=Q*V2:=⟨_,rfl⟩;rw [<- GK,<- CO] at f1 hnext;rw [<- CO] at f2;have hqu:(Q:Int)*(U2:Int)=(QU:Int):=by rw [GK];simp
    have hqv:(Q:Int)*(V2:Int)=(QV:Int):=by rw [CO];simp
    have hbq:((Y:Int)==0)=false:=by rw [beq_eq_false_iff_ne];omega
    have f3:V1+QV<=18446744073709551615:=af;have f4:U1+QU<=18446744073709551615:=af;have hYl:Y<=18446744073709551615:=af;clear hQ hR GK CO hZ f1 f2 hx0
    go_wp2_with fail
    go_quiet (fail)
    go_wp2_with fail
    go_roundw
    case rel =>
     exact ⟨Y,R,U1,U2,U1+QU,V1,V2,V1+QV,!O,q+nq,hYl,rfl,rfl,rfl,rfl,by go_num,rfl,rfl,by go_num,rfl,hnext,Lib.hid (.inr hstep.out),rfl⟩
    case measure =>
     have:=hmod.out;simp [intOf];omega
   ·have hg2:decide ((V1:Int)+(V2:Int)<=(Z:Int))=false:=decide_eq_false af
    clear f1 f2 hx0 hZ
    go_wp2_with fail
    refine bodyPost_ret (v := .agg #[.int .u64 U0,.int .u64 U1,.int .u64 V0,.int .u64 V1,.bool O]) (by simp [results,Tryz.results188,go_sem]) rfl ?_;exact ⟨U0,U1,V0,V1,O,rfl,Nz w _ _ _ _ _ _ _,hst.out⟩
  ·have hg1:decide ((V2:Int)<=(Y:Int))=false:=decide_eq_false af
   go_wp2_with fail
   refine bodyPost_ret (v := .agg #[.int .u64 U0,.int .u64 U1,.int .u64 V0,.int .u64 V1,.bool O]) (by simp [results,Tryz.results188,go_sem]) rfl ?_;exact ⟨U0,U1,V0,V1,O,rfl,Nz w _ _ _ _ _ _ _,hst.out⟩
set_option maxRecDepth 100000 in
set_option maxHeartbeats 3200000 in
theorem Cf(A A':Option Addr)(ns ms:List Nat)(n m L c c' B B' x y R:Nat)(w:World)(h:Rd w B A ns)(h':Rd w B' A' ms)(hB:B<=w.heap.size)(hB':B'<=w.heap.size)(hn:ns.length=n)(hm:ms.length=m)(hl:n<=16777216)(hl':m<=16777216)(_hx:x<=4294967295)(hy:y<=4294967295)(hL:L=max n m)(hR:x*val ns=R+y*val ms)(hRl:R<pw L) :
  Calls Tryz.prog 204 #[.slice A n c,.int .u64 x,.slice A' m c',.int .u64 y] w (oI w R):=by
 have Hn:=Lib.hid hn;have Hm:=Lib.hid hm;have HR:=Lib.hid (And.intro hR hRl);have hL1:L<=16777216:=af;have hL2:n<=L:=af;have hL3:m<=L:=af;have hL4:((max n m:Nat):Int)=(L:Int):=af;have hL5:max (n:Int) (m:Int)=(L:Int):=af;clear hn hm hR hRl hL
 go_enter Tryz.func204,Tryz.ntmps204
 go_wp2_with (at_make;refine lD _ rfl _ _ _ rfl 113 amZ iW _ _ _ _ L rfl rfl af af af ?_;intro w1 hblk hbel hsz)
 go_loopw [10,11,12,23] (fun a b e i wr => ∃ (k cA cB bo:Nat) (cs:List Nat),k<=L/\cA<=4294967295/\cB<=4294967295/\bo<=1/\i = .int .i64 k/\a = .int .u64 cA/\b = .int .u64 cB/\e = .int .u64 bo/\bF wr w.heap.size 113 cs/\Hid (cs.length=L)/\bJ cs /\
   Hid (lo cs k+y*lo ms k+pw k*cA=x*lo ns k+pw k*(cB+bo))/\Below w.heap.size w wr) (fun _ _ _ i _=>L-(intOf i).toNat)
 case atStart=>exact ⟨0,0,0,0,_,aoI _,af,af,af,rfl,rfl,rfl,rfl,hblk,Lib.hid (by simp),lq _,Lib.hid (by simp [fH]),hbel⟩
 case round =>
  obtain ⟨k,cA,cB,bo,cs,hk,hcA,hcB,iM,rfl,rfl,rfl,rfl,hb1,hcl,hcw,hv,hbw⟩:=hrel;clear hblk hbel hsz;have hr:=h.below (hbw.mono hB);have hr':=h'.below (hbw.mono hB')
  by_cases hkn:k<L
  ·have OY:=lg hr.bQ (k:Int)
   have hwb:=lg hr'.bQ (k:Int);have hcc:=hb1.cell (i:=k) (by rw [hcl.out];omega);have hfr:=hb1.frozen k;obtain ⟨a,ha⟩ : ∃ a,a=wd ns (k:Int):=⟨_,rfl⟩;obtain ⟨b,hb⟩ : ∃ b,b=wd ms (k:Int):=⟨_,rfl⟩;rw [<- ha] at OY;rw [<- hb] at hwb;obtain ⟨ai8,ai9⟩:=zX (x:=x) af OY;obtain ⟨ai',aja⟩:=zX (x:=y) af hwb;have hxN:=apd x a;have hyN:=apd y b;obtain ⟨S,hS⟩ : ∃ S,S=cA+x*a:=⟨_,rfl⟩;obtain ⟨T,hT⟩ : ∃ T,T=cB+y*b:=⟨_,rfl⟩;have hSl:S<=18446744073709551615:=af;have hTl:T<=18446744073709551615:=af;have hsum:(cA:Int)+(x:Int)*(a:Int)=(S:Int):=by rw [hS,apz,apd]
   have ai4:(cB:Int)+(y:Int)*(b:Int)=(T:Int):=by rw [hT,apz,apd]
   have ZE:bits .and .u64 (S:Int) 4294967295=((S%4294967296:Nat):Int):=FY af;have ZF:bits .and .u64 (T:Int) 4294967295=((T%4294967296:Nat):Int):=FY af;obtain ⟨D,hD,hDl,lQ⟩:=rF (S%4294967296) (T%4294967296);obtain ⟨F,hF,GH,lS⟩:=rF D bo;have hdw:=Lib.hid (XU (S:=S) (T:=T) iM lQ lS hDl);have hF2:F/9223372036854775808<=1:=hdw.out.2;have HS:=Lib.hid (And.intro hS hT);obtain ⟨SM,hSM⟩ : ∃ M,M=S%4294967296:=⟨_,rfl⟩;obtain ⟨TM,NZ⟩ : ∃ M,M=T%4294967296:=⟨_,rfl⟩;rw [<- hSM] at ZE hD;rw [<- NZ] at ZF hD;have Ha:=Lib.hid (And.intro ha hb);clear lQ lS hS hT hSM NZ hxN hyN;have hwA : ∀ W,Below w.heap.size w W->Calls Tryz.prog 176 #[.slice A n c,.int .i64 k] W fun e w'=>e = .returned (.int .u64 (a:Int))/\W=w':=fun W hW=>by rw [ha];exact lC _ ns _ _ _ _ _ (h.below (hW.mono hB)) Hn.out af
   have hwB : ∀ W,Below w.heap.size w W->Calls Tryz.prog 176 #[.slice A' m c',.int .i64 k] W fun e w'=>e = .returned (.int .u64 (b:Int))/\W=w':=fun W hW=>by rw [hb];exact lC _ ms _ _ _ _ _ (h'.below (hW.mono hB')) Hm.out af
   have Vx:=Lib.hid hwA;have Vy:=Lib.hid hwB;clear hwA hwB ha hb
   go_wp2_with fail
   refine (Vx.out _ hbw).mono ?_;rintro e w2 ⟨rfl,rfl⟩
   go_wp2_with fail
   refine (Vy.out _ hbw).mono ?_;rintro e w2 ⟨rfl,rfl⟩
   go_wp2_with fail
   go_roundw
   case rel =>
    refine ⟨k+1,S/4294967296,T/4294967296,F/9223372036854775808,cs.set k (F%4294967296),af,af,af,hF2,by go_num,by go_num,by go_num,by go_num,hb1.kE (by rw [hcl.out];omega) af,Lib.hid (by rw [aoO];exact hcl.out),gB hcw _ (aoN _ af),Lib.hid ?_,hbw.setCell (aoG _) _⟩;refine XT (by rw [hcl.out];omega) hv.out ?_ ?_ hdw.out.1
    ·rw [HS.out.1,Ha.out.1,jA]
    ·rw [HS.out.2,Ha.out.2,jA]
   case measure=>simp [intOf];omega
  ·obtain rfl:k=L:=af
   have HV:Hid (val cs=R):=Lib.hid (XR hcw hcl.out (by rw [Hn.out];omega) (by rw [Hm.out];omega) hv.out HR.out.1 HR.out.2)
   go_wp2_with fail
   refine (mJ _ cs _ _ _ _ (hb1.rd hcw) hcl.out (aoG _) af).mono ?_;rintro e w' ⟨rfl,rfl⟩
   go_wp2_with fail
   go_ret
   refine ⟨_,_,kz (by rw [HV.out]),?_,?_,hbw⟩
   ·have:=jP hcw
    rw [HV.out,hcl.out] at this;exact this
   ·have:=(hb1.rd hcw).bn
    rw [HV.out] at this;exact this
end Go.Proofs.BGQ
namespace Lw
open Go Go.RowKit
theorem yV{a b:Nat}(h:a<=b):(bn a).length<=(bn b).length:=by
 rcases aoM (bn b).length (bn a).length with h1 | h1
 ·have:=zV (dK b) (fG a) h1
  rw [bM,bM] at this;omega
 ·exact h1
def BJ(w:World)(N:Nat)(e:Ending)(w':World):Prop :=
 ∃ u,e = .returned u/\Hid (∃ A c,u = .slice A (bn N).length c/\(bn N).length<=c/\Rd w' w'.heap.size A (bn N))/\Below w.heap.size w w'
structure mV(w:World)(g:Nat)(a b c d e:Value):Prop where
 lt:g<w.heap.size
 cells:w.cell? ⟨g,0,none⟩=some a/\w.cell? ⟨g,1,none⟩=some b/\w.cell? ⟨g,2,none⟩=some c/\w.cell? ⟨g,3,none⟩=some d/\w.cell? ⟨g,4,none⟩=some e
theorem mV.new(w:World)(t:TypeId)(a b c d:Nat)(e:Bool):mV (w.alloc (.cells #[.int .u64 a,.int .u64 b,.int .u64 c,.int .u64 d,.bool e] t)) w.heap.size (.int .u64 a) (.int .u64 b) (.int .u64 c) (.int .u64 d) (.bool e) :=
 ⟨by simp,by simp [go_sem],by simp [go_sem],by simp [go_sem],by simp [go_sem],by simp [go_sem]⟩
theorem mV.drew{w:World}{g:Nat}{a b c d e:Value}(h:mV w g a b c d e):mV w.drew g a b c d e:=⟨h.lt,h.cells⟩
theorem mV.next{w w':World}{g B:Nat}{a b c d e:Value}(h:mV w g a b c d e)(hb:Below B w w')(hB:B=w.heap.size):mV w' g a b c d e:=by
 subst hB;exact ⟨aoK h.lt hb.size,(hb.cell h.lt).trans h.cells.1,(hb.cell h.lt).trans h.cells.2.1,(hb.cell h.lt).trans h.cells.2.2.1,(hb.cell h.lt).trans h.cells.2.2.2.1,(hb.cell h.lt).trans h.cells.2.2.2.2⟩
end Lw
namespace Go.Proofs.BGQ
open Go Go.RowKit Lw
set_option maxRecDepth 100000 in
set_option maxHeartbeats 6400000 in
theorem Wp(A A':Option Addr)(N M n m c c' B B' u0 u1 v0 v1:Nat)(o:Bool)(w:World)(h:Rd w B A (bn N))(h':Rd w B' A' (bn M))(hB:B<=w.heap.size)(hB':B'<=w.heap.size)(hn:(bn N).length=n)(hm:(bn M).length=m)(hl:n<=8388608)(hl':m<=n)(hv:v0≠0)(hs:FU N M u0 u1 v0 v1 o) :
  Calls Tryz.prog 190 #[.agg #[.int .u64 u0,.int .u64 u1,.int .u64 v0,.int .u64 v1,.bool o],.slice A n c,.slice A' m c'] w fun e w' =>
   ∃ r1 r2,uJ w r1 r2 e w'/\r2<=r1/\Nat.gcd r1 r2=Nat.gcd N M/\r1<=N/\r1+r2<=N:=by
 obtain ⟨b1,b2,b3,b4,r1,r2,heq,hle,hg,He,hsum⟩:=hs.resolve_left hv;have OJ:=hsum (apB hv);have hr1:r1<pw n:=ao0 He (nH af);have hr2:r2<pw n:=ao0 hle hr1;have hmax:n=max n m:=af;have Oy:n=max m n:=af;have HG:=Lib.hid (And.intro hle (And.intro hg (And.intro He OJ)));have HN:=Lib.hid (And.intro hn hm);have HR:=Lib.hid (And.intro hr1 hr2);have HM:=Lib.hid (And.intro hmax Oy);clear hle hg He hsum OJ hn hm hr1 hr2 hmax Oy hs
 cases o
 ·simp only [Bool.false_eq_true,if_false] at heq
  have HE:=Lib.hid heq;clear heq
  go_enter Tryz.func190,Tryz.ntmps190
  go_wp2_with fail
  have H1 : ∀ W,Below w.heap.size w W->Calls Tryz.prog 204 #[.slice A n c,.int .u64 u0,.slice A' m c',.int .u64 v0] W (BJ W r1):=fun W hW =>
   (Cf _ _ (bn N) (bn M) _ _ n _ _ _ _ u0 v0 r1 W (h.below (hW.mono hB)) (h'.below (hW.mono hB')) (aoH hB hW.size) (aoH hB' hW.size) HN.out.1 HN.out.2 af af af af HM.out.1 (by rw [bM,bM];exact HE.out.1) HR.out.1).mono fun e w' ⟨A,c,he,hc,hr,hb⟩=>⟨_,he,Lib.hid ⟨A,c,rfl,hc,hr⟩,hb⟩
  have H2 : ∀ W,Below w.heap.size w W->Calls Tryz.prog 204 #[.slice A' m c',.int .u64 v1,.slice A n c,.int .u64 u1] W (BJ W r2):=fun W hW =>
   (Cf _ _ (bn M) (bn N) _ _ n _ _ _ _ v1 u1 r2 W (h'.below (hW.mono hB')) (h.below (hW.mono hB)) (aoH hB' hW.size) (aoH hB hW.size) HN.out.2 HN.out.1 af af af af HM.out.2 (by rw [bM,bM];exact HE.out.2) HR.out.2).mono fun e w' ⟨A,c,he,hc,hr,hb⟩=>⟨_,he,Lib.hid ⟨A,c,rfl,hc,hr⟩,hb⟩
  have HD1:=Lib.hid H1;have HD2:=Lib.hid H2;clear H1 H2;have hF:=mV.new w 171 u0 u1 v0 v1 false;have hW:=(Below.refl w.heap.size w).alloc (aoG _) (.cells #[.int .u64 (u0:Int),.int .u64 (u1:Int),.int .u64 (v0:Int),.int .u64 (v1:Int),.bool false] 171);generalize w.alloc (.cells #[.int .u64 (u0:Int),.int .u64 (u1:Int),.int .u64 (v0:Int),.int .u64 (v1:Int),.bool false] 171)=W0 at hF hW ⊢
  go_region_held3 (fun w'=>w'.cell? ⟨w.heap.size,0,none⟩=some (.int .u64 u0)/\w'.cell? ⟨w.heap.size,1,none⟩=some (.int .u64 u1)/\w'.cell? ⟨w.heap.size,2,none⟩=some (.int .u64 v0)/\w'.cell? ⟨w.heap.size,3,none⟩=some (.int .u64 v1)/\w'.cell? ⟨w.heap.size,4,none⟩=some (.bool false)) (first | exact hF.cells | exact hF.drew.cells)
   (first
    | (go_at_call_of 204 (Value.slice A' m c');refine (HD2.out _ hW2).mono ?_;rintro e w3 ⟨x2,rfl,hr2,hb2⟩;have hF:=hF.next hb2 rfl;have hW3:=bK hW2 hb2 (aoG _))
    | (go_at_call_of 204 (Value.slice A n c);refine (HD1.out _ hW.drew).mono ?_;rintro e w2 ⟨x1,rfl,hr1,hb1⟩;have hF:=hF.drew.next hb1 rfl;have hW2:=bK hW.drew hb1 (aoG _)))
  all_goals
   go_wp2_with fail
   go_ret2
   obtain ⟨A1,c1,rfl,hc1,hr1⟩:=hr1.out;obtain ⟨A2,c2,rfl,hc2,hr2⟩:=hr2.out;exact ⟨r1,r2,⟨A1,c1,A2,c2,rfl,hc1,hc2,(hr1.next hb2 (aoG _)).more hb2.size,hr2,hW3⟩,HG.out.1,HG.out.2.1,HG.out.2.2.1,HG.out.2.2.2⟩
 ·simp only [if_true] at heq
  have HE:=Lib.hid heq;clear heq
  go_enter Tryz.func190,Tryz.ntmps190
  go_wp2_with fail
  have H1 : ∀ W,Below w.heap.size w W->Calls Tryz.prog 204 #[.slice A' m c',.int .u64 v0,.slice A n c,.int .u64 u0] W (BJ W r1):=fun W hW =>
   (Cf _ _ (bn M) (bn N) _ _ n _ _ _ _ v0 u0 r1 W (h'.below (hW.mono hB')) (h.below (hW.mono hB)) (aoH hB' hW.size) (aoH hB hW.size) HN.out.2 HN.out.1 af af af af HM.out.2 (by rw [bM,bM];exact HE.out.1) HR.out.1).mono fun e w' ⟨A,c,he,hc,hr,hb⟩=>⟨_,he,Lib.hid ⟨A,c,rfl,hc,hr⟩,hb⟩
  have H2 : ∀ W,Below w.heap.size w W->Calls Tryz.prog 204 #[.slice A n c,.int .u64 u1,.slice A' m c',.int .u64 v1] W (BJ W r2):=fun W hW =>
   (Cf _ _ (bn N) (bn M) _ _ n _ _ _ _ u1 v1 r2 W (h.below (hW.mono hB)) (h'.below (hW.mono hB')) (aoH hB hW.size) (aoH hB' hW.size) HN.out.1 HN.out.2 af af af af HM.out.1 (by rw [bM,bM];exact HE.out.2) HR.out.2).mono fun e w' ⟨A,c,he,hc,hr,hb⟩=>⟨_,he,Lib.hid ⟨A,c,rfl,hc,hr⟩,hb⟩
  have HD1:=Lib.hid H1;have HD2:=Lib.hid H2;clear H1 H2;have hF:=mV.new w 171 u0 u1 v0 v1 true;have hW:=(Below.refl w.heap.size w).alloc (aoG _) (.cells #[.int .u64 (u0:Int),.int .u64 (u1:Int),.int .u64 (v0:Int),.int .u64 (v1:Int),.bool true] 171);generalize w.alloc (.cells #[.int .u64 (u0:Int),.int .u64 (u1:Int),.int .u64 (v0:Int),.int .u64 (v1:Int),.bool true] 171)=W0 at hF hW ⊢
  go_region_held3 (fun w'=>w'.cell? ⟨w.heap.size,0,none⟩=some (.int .u64 u0)/\w'.cell? ⟨w.heap.size,1,none⟩=some (.int .u64 u1)/\w'.cell? ⟨w.heap.size,2,none⟩=some (.int .u64 v0)/\w'.cell? ⟨w.heap.size,3,none⟩=some (.int .u64 v1)/\w'.cell? ⟨w.heap.size,4,none⟩=some (.bool true)) (first | exact hF.cells | exact hF.drew.cells)
   (first
    | (go_at_call_of 204 (Value.slice A n c);refine (HD2.out _ hW2).mono ?_;rintro e w3 ⟨x2,rfl,hr2,hb2⟩;have hF:=hF.next hb2 rfl;have hW3:=bK hW2 hb2 (aoG _))
    | (go_at_call_of 204 (Value.slice A' m c');refine (HD1.out _ hW.drew).mono ?_;rintro e w2 ⟨x1,rfl,hr1,hb1⟩;have hF:=hF.drew.next hb1 rfl;have hW2:=bK hW.drew hb1 (aoG _)))
  all_goals
   go_wp2_with fail
   go_ret2
   obtain ⟨A1,c1,rfl,hc1,hr1⟩:=hr1.out;obtain ⟨A2,c2,rfl,hc2,hr2⟩:=hr2.out;exact ⟨r1,r2,⟨A1,c1,A2,c2,rfl,hc1,hc2,(hr1.next hb2 (aoG _)).more hb2.size,hr2,hW3⟩,HG.out.1,HG.out.2.1,HG.out.2.2.1,HG.out.2.2.2⟩
end Go.Proofs.BGQ
namespace Lw
open Go Go.RowKit
def wordAt(w:World)(b k:Nat):Nat:=match w.cell? ⟨b,k,none⟩ with | some (.int _ z)=>z.toNat | _=>0
def rdv(w:World):Value->Nat
 | .slice (some a) n _=>val ((List.range n).map fun j=>wordAt w a.block (a.off+j))
 | _=>0
theorem xA{w:World}{B:Nat}{A:Option Addr}{ns:List Nat}{n c:Nat}(h:Rd w B A ns)(hn:ns.length=n):rdv w (.slice A n c)=val ns:=by
 rcases aoT n with h0 | h0
 ·subst h0
  obtain rfl:ns=[]:=aoU hn
  cases A <;> rfl
 ·obtain ⟨b,off,rfl,hb,hc⟩:=h.2 af
  show val ((List.range n).map fun j=>wordAt w b (off+j))=val ns
  congr 1
  apply List.ext_getElem
  ·simp [hn]
  ·intro j h1 h2
   rw [List.getElem_map,List.getElem_range];unfold wordAt;rw [hc j h2];show (dg ns j:Int).toNat=ns[j];rw [apF,mX h2]
end Lw
