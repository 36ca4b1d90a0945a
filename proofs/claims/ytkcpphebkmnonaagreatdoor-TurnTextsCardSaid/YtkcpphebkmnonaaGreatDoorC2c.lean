/- Part of a proof, said shortly. -/
import Derived.Deep.AppendLies
import Derived.Shelf.Small.Bits
import Derived.Shelf.Small.Wraps
import Derived.Shelf.Strconv.Itoa0
import Derived.Shelf.Strconv.Itoa1
import Derived.Shelf.LaysM
import Derived.Shelf.Strconv.Itoa2
import Derived.Shelf.Strings.Search1
import Derived.Shelf.Strings.Search2
import Derived.Shelf.Strings.Search3
import Derived.Shelf.Strings.Cut
import Derived.Shelf.Strings.Shaped
import Derived.Shelf.Strconv.AppendUint10
import Derived.Shelf.Strings.Prefix
import Derived.Test.YtkcpphebkmnonaaGreatDoorProg
import Derived.Lib.BitFns
import Derived.Laws.AppendOwnNone
import Derived.Test.YtkcpphebkmnonaaGreatDoorAlzc
import Derived.Test.YtkcpphebkmnonaaGreatDoorC1c
namespace Go.Proofs.BGQ
open Go Go.RowKit Lw
def oI(w:World)(N:Nat)(e:Ending)(w':World):Prop :=
 ∃ A c,e = .returned (.slice A (bn N).length c)/\(bn N).length<=c/\Rd w' w'.heap.size A (bn N)/\Below w.heap.size w w'
set_option maxHeartbeats 800000 in
theorem add_any(A A':Option Addr)(ns ms:List Nat)(n m c c' B B':Nat)(w:World)(h:Rd w B A ns)(h':Rd w B' A' ms)(hB:B<=w.heap.size)(hB':B'<=w.heap.size)(hn:ns.length=n)(hm:ms.length=m)(hl:n<=16777216)(hl':m<=16777216)(hc:n<=c)(hc':m<=c') :
  Calls Tryz.prog 156 #[.slice A n c,.slice A' m c'] w (oI w (val ns+val ms)):=by
 have Hn:=Lib.hid hn;have Hm:=Lib.hid hm;clear hn hm;rcases aoM n m with hnm | hnm
 ·go_enter Tryz.func156,Tryz.ntmps156
  go_wp2_with (at_make;refine lD _ rfl _ _ _ rfl 113 amZ iW _ _ _ _ (m+1) rfl rfl af af af ?_;intro w1 hblk hbel hsz)
  go_loopw [6,22] (fun v i wr => ∃ (k carry:Nat) (cs:List Nat),k<=m/\carry<=1/\i = .int .i64 k/\v = .int .u64 carry/\bF wr w.heap.size 113 cs/\Hid (cs.length=m+1)/\bJ cs /\
    Hid (lo cs k+pw k*carry=lo ms k+lo ns k)/\Below w.heap.size w wr) (fun _ i _=>m-(intOf i).toNat)
  case atStart=>exact ⟨0,0,_,aoI _,aoI _,rfl,rfl,hblk,Lib.hid (by simp),lq _,Lib.hid (by simp [fH]),hbel⟩
  case round =>
   obtain ⟨k,carry,cs,hk,hcar,rfl,rfl,hb1,hcl,hcw,hv,hbw⟩:=hrel;clear hblk hbel hsz;have hr:=h'.below (hbw.mono hB');have hr':=h.below (hbw.mono hB)
   by_cases hkn:k<m
   ·obtain ⟨b,off,rfl,hb,hcell,hlt⟩:=hr.at_ (k:=k) (by rw [Hm.out];omega)
    have hwl:=lg hr'.bQ k;have hcc:=hb1.cell (i:=k) (by rw [hcl.out];omega);have hfr:=hb1.frozen k
    go_wp2_with (go_at_call 176;refine (lC _ ns _ _ _ _ _ hr' Hn.out af).mono ?_;rintro e w' ⟨rfl,rfl⟩)
    have hw:wd ns k=dg ns k:=jA _ _
    go_roundw
    case rel =>
     refine ⟨k+1,(carry+(dg ms k+dg ns k))/4294967296,cs.set k ((carry+(dg ms k+dg ns k))%4294967296),af,af,by go_num,by rw [hw];go_num,?_,?_,?_,?_,?_⟩
     ·exact hb1.kE (by rw [hcl.out];omega) (by rw [hw];omega)
     ·exact Lib.hid (by rw [aoO];exact hcl.out)
     ·exact gB hcw _ (aoN _ af)
     ·exact Lib.hid (by rw [IQ (by rw [hcl.out];omega) hv.out rfl,dh,dh,aoJ];omega)
     ·exact hbw.setCell (aoG _) _
    case measure=>simp [intOf];omega
   ·obtain rfl:k=m:=af
    have hcc:=hb1.cell (i:=k) (by rw [hcl.out];omega);have hfr:=hb1.frozen k;have hset:=hb1.kE (i:=k) (by rw [hcl.out];omega) (z:=(carry:Int)) rfl;have tq:bJ (cs.set k carry):=gB hcw _ af;have hlen:Hid ((cs.set k carry).length=k+1):=Lib.hid (by rw [aoO];exact hcl.out);have hb2:=hbw.setCell (p:=⟨w.heap.size,k,none⟩) (aoG _) (.int .u32 (carry:Int))
    have HV:Hid (val (cs.set k carry)=val ns+val ms):=Lib.hid (by
     rw [<- di (l:=cs.set k carry) (k:=k+1) (by rw [hlen.out];exact aoG _),jG _ (by rw [hcl.out];omega),hv.out,di (by rw [Hm.out];exact aoG _),di (by rw [Hn.out];omega)];exact Nat.add_comm _ _)
    go_wp2_with (go_at_call 155;refine (mJ _ (cs.set k carry) _ _ _ _ (hset.rd tq) hlen.out (aoG _) af).mono ?_;rintro e w' ⟨rfl,rfl⟩)
    go_ret
    refine ⟨_,_,kz (by rw [HV.out]),?_,?_,hb2⟩
    ·have:=jP tq
     rw [HV.out,hlen.out] at this;exact this
    ·have:=(hset.rd tq).bn
     rw [HV.out] at this;exact this
 ·go_enter Tryz.func156,Tryz.ntmps156
  go_wp2_with (at_make;refine lD _ rfl _ _ _ rfl 113 amZ iW _ _ _ _ (n+1) rfl rfl af af af ?_;intro w1 hblk hbel hsz)
  go_loopw [6,22] (fun v i wr => ∃ (k carry:Nat) (cs:List Nat),k<=n/\carry<=1/\i = .int .i64 k/\v = .int .u64 carry/\bF wr w.heap.size 113 cs/\Hid (cs.length=n+1)/\bJ cs /\
    Hid (lo cs k+pw k*carry=lo ns k+lo ms k)/\Below w.heap.size w wr) (fun _ i _=>n-(intOf i).toNat)
  case atStart=>exact ⟨0,0,_,aoI _,aoI _,rfl,rfl,hblk,Lib.hid (by simp),lq _,Lib.hid (by simp [fH]),hbel⟩
  case round =>
   obtain ⟨k,carry,cs,hk,hcar,rfl,rfl,hb1,hcl,hcw,hv,hbw⟩:=hrel;clear hblk hbel hsz;have hr:=h.below (hbw.mono hB);have hr':=h'.below (hbw.mono hB')
   by_cases hkn:k<n
   ·obtain ⟨b,off,rfl,hb,hcell,hlt⟩:=hr.at_ (k:=k) (by rw [Hn.out];omega)
    have hwl:=lg hr'.bQ k;have hcc:=hb1.cell (i:=k) (by rw [hcl.out];omega);have hfr:=hb1.frozen k
    go_wp2_with (go_at_call 176;refine (lC _ ms _ _ _ _ _ hr' Hm.out af).mono ?_;rintro e w' ⟨rfl,rfl⟩)
    have hw:wd ms k=dg ms k:=jA _ _
    go_roundw
    case rel =>
     refine ⟨k+1,(carry+(dg ns k+dg ms k))/4294967296,cs.set k ((carry+(dg ns k+dg ms k))%4294967296),af,af,by go_num,by rw [hw];go_num,?_,?_,?_,?_,?_⟩
     ·exact hb1.kE (by rw [hcl.out];omega) (by rw [hw];omega)
     ·exact Lib.hid (by rw [aoO];exact hcl.out)
     ·exact gB hcw _ (aoN _ af)
     ·exact Lib.hid (by rw [IQ (by rw [hcl.out];omega) hv.out rfl,dh,dh,aoJ];omega)
     ·exact hbw.setCell (aoG _) _
    case measure=>simp [intOf];omega
   ·obtain rfl:k=n:=af
    have hcc:=hb1.cell (i:=k) (by rw [hcl.out];omega);have hfr:=hb1.frozen k;have hset:=hb1.kE (i:=k) (by rw [hcl.out];omega) (z:=(carry:Int)) rfl;have tq:bJ (cs.set k carry):=gB hcw _ af;have hlen:Hid ((cs.set k carry).length=k+1):=Lib.hid (by rw [aoO];exact hcl.out);have hb2:=hbw.setCell (p:=⟨w.heap.size,k,none⟩) (aoG _) (.int .u32 (carry:Int))
    have HV:Hid (val (cs.set k carry)=val ns+val ms):=Lib.hid (by
     rw [<- di (l:=cs.set k carry) (k:=k+1) (by rw [hlen.out];exact aoG _),jG _ (by rw [hcl.out];omega),hv.out,di (by rw [Hn.out];exact aoG _),di (by rw [Hm.out];omega)])
    go_wp2_with (go_at_call 155;refine (mJ _ (cs.set k carry) _ _ _ _ (hset.rd tq) hlen.out (aoG _) af).mono ?_;rintro e w' ⟨rfl,rfl⟩)
    go_ret
    refine ⟨_,_,kz (by rw [HV.out]),?_,?_,hb2⟩
    ·have:=jP tq
     rw [HV.out,hlen.out] at this;exact this
    ·have:=(hset.rd tq).bn
     rw [HV.out] at this;exact this
end Go.Proofs.BGQ
namespace Lw
open Go
def oJ(x y D:Nat):Prop:=x<18446744073709551616->y<18446744073709551616->D=if y<=x then x-y else 18446744073709551616+x-y
theorem rF(x y:Nat) : ∃ D:Nat,IntKind.u64.wrap ((x:Int)-(y:Int))=(D:Int)/\D<=18446744073709551615/\oJ x y D:=by
 refine ⟨(((x:Int)-(y:Int))%18446744073709551616).toNat,?_,af,fun h1 h2=>by split <;> omega⟩;rw [IntKind.wrap_u64];omega
theorem JA{x y c D F:Nat}(_hx:x<4294967296)(hy:y<4294967296)(hc:c<=1)(hD:oJ x y D)(hF:oJ D c F)(hDl:D<=18446744073709551615) :
  F%4294967296+(y+c)=x+4294967296*(F/9223372036854775808)/\F/9223372036854775808<=1:=by
 have h1:=hD af af;have h2:=hF af af
 split at h1 <;> split at h2 <;> omega
theorem acF{cs:List Nat}{k c b r s:Nat}{t u x y:Nat}(h:k<cs.length)(hv:lo cs k+t=u+pw k*c)(hs:r+(y+c)=x+4294967296*b)(e:s=lo (cs.set k r) (k+1)) :
  s+(t+pw k*y)=(u+pw k*x)+pw (k+1)*b:=by
 subst e;have e1:pw k*(r+(y+c))=pw k*(x+4294967296*b):=by rw [hs]
 rw [jG _ h,dV];simp only [aoJ] at e1;have e2:pw k*(4294967296*b)=4294967296*pw k*b:=by rw [<- aoV,aoR (pw k)]
 omega
theorem WL{c u t p:Nat}{b:Nat}(hc:c<p)(hv:c+t=u+p*b)(ht:t<=u)(hb:b<=1):c=u-t:=by
 rcases Nat.le_one_iff_eq_zero_or_eq_one.1 hb with rfl | rfl <;> omega
theorem aaU{l:List Nat}{k N:Nat}(h:val l<=N)(hN:N<pw k):lo l k=val l:=by
 rcases Nat.le_total l.length k with h1 | h1
 ·exact di h1
 ·have e:=uw l k
  rw [apk h1] at e;rcases aoT (val (l.drop k)) with h0 | h0
  ·grind
  ·have:=aoS (pw k) h0
   omega
end Lw
namespace Go.Proofs.BGQ
open Go Go.RowKit Lw
set_option maxHeartbeats 800000 in
theorem JB(A A':Option Addr)(ns ms:List Nat)(n m c c' B B':Nat)(w:World)(h:Rd w B A ns)(h':Rd w B' A' ms)(hB:B<=w.heap.size)(hB':B'<=w.heap.size)(hn:ns.length=n)(hm:ms.length=m)(hl:n<=16777216)(hl':m<=16777216)(hle:val ms<=val ns) :
  Calls Tryz.prog 157 #[.slice A n c,.slice A' m c'] w (oI w (val ns-val ms)):=by
 have Hn:=Lib.hid hn;have Hm:=Lib.hid hm;have Ld:=Lib.hid hle;clear hn hm hle
 go_enter Tryz.func157,Tryz.ntmps157
 go_wp2_with (at_make;refine lD _ rfl _ _ _ rfl 113 amZ iW _ _ _ _ n rfl rfl af af af ?_;intro w1 hblk hbel hsz)
 go_loopw [6,15] (fun v i wr => ∃ (k carry:Nat) (cs:List Nat),k<=n/\carry<=1/\i = .int .i64 k/\v = .int .u64 carry/\bF wr w.heap.size 113 cs/\Hid (cs.length=n)/\bJ cs /\
   Hid (lo cs k+lo ms k=lo ns k+pw k*carry)/\Below w.heap.size w wr) (fun _ i _=>n-(intOf i).toNat)
 case atStart=>exact ⟨0,0,_,aoI _,aoI _,rfl,rfl,hblk,Lib.hid (by simp),lq _,Lib.hid (by simp [fH]),hbel⟩
 case round =>
  obtain ⟨k,carry,cs,hk,hcar,rfl,rfl,hb1,hcl,hcw,hv,hbw⟩:=hrel;clear hblk hbel hsz;have hr:=h.below (hbw.mono hB);have hr':=h'.below (hbw.mono hB')
  by_cases hkn:k<n
  ·obtain ⟨b,off,rfl,hb,hcell,hlt⟩:=hr.at_ (k:=k) (by rw [Hn.out];omega)
   have hwl:=lg hr'.bQ k;obtain ⟨D,hD,hDl,lQ⟩:=rF (dg ns k) (wd ms k);obtain ⟨F,hF,GH,lS⟩:=rF D carry;have U5:=Lib.hid lQ;have U7:=Lib.hid lS;clear lQ lS;have hcc:=hb1.cell (i:=k) (by rw [hcl.out];omega);have hfr:=hb1.frozen k
   go_wp2_with (go_at_call 176;refine (lC _ ms _ _ _ _ _ hr' Hm.out af).mono ?_;rintro e w' ⟨rfl,rfl⟩)
   have hw:wd ms k=dg ms k:=jA _ _;have hsw:=JA hlt hwl hcar U5.out U7.out hDl
   go_roundw
   case rel =>
    refine ⟨k+1,F/9223372036854775808,cs.set k (F%4294967296),af,hsw.2,by go_num,by go_num,hb1.kE (by rw [hcl.out];omega) af,Lib.hid (by rw [aoO];exact hcl.out),gB hcw _ (aoN _ af),Lib.hid ?_,hbw.setCell (aoG _) _⟩;have e1:=hsw.1;rw [hw] at e1;have:=acF (k:=k) (by rw [hcl.out];omega) hv.out e1 rfl;rw [dh ms,dh ns];exact this
   case measure=>simp [intOf];omega
  ·obtain rfl:k=n:=af
   have hlen:cs.length<=k:=by rw [hcl.out];exact aoG _
   have hnl:val ns<pw k:=by have:=eu h.bQ;rwa [Hn.out] at this
   have HV:Hid (val cs=val ns-val ms):=Lib.hid (by
    have e:=hv.out;have e2:=eu hcw;rw [hcl.out] at e2;rw [di hlen,di (l:=ns) (by rw [Hn.out];exact aoG _),aaU Ld.out hnl] at e;exact WL e2 e Ld.out hcar)
   go_wp2_with (go_at_call 155;refine (mJ _ cs _ _ _ _ (hb1.rd hcw) hcl.out (aoG _) af).mono ?_;rintro e w' ⟨rfl,rfl⟩)
   go_ret
   refine ⟨_,_,kz (by rw [HV.out]),?_,?_,hbw⟩
   ·have:=jP hcw
    rw [HV.out,hcl.out] at this;exact this
   ·have:=(hb1.rd hcw).bn
    rw [HV.out] at this;exact this
end Go.Proofs.BGQ
namespace Lw
open Go Go.RowKit
theorem zX{x y:Nat}(_hx:x<4294967296)(hy:y<4294967296):(0:Int)<=(x:Int)*(y:Int)/\(x:Int)*(y:Int)<=18446744065119617025:=by
 have h:x*y<=4294967295*4294967295:=apl af af;omega
theorem Lu{cs:List Nat}{o k c lc lm x y d z z':Nat}(h:o+k<cs.length)(hv:lo cs (o+k)+pw (o+k)*c=lc+pw o*(lm*x))(hz:z=lc+pw (o+k)*d)(hz':z'=lm+pw k*y) :
  lo (cs.set (o+k) ((c+(x*y+d))%4294967296)) (o+k+1)+pw (o+k+1)*((c+(x*y+d))/4294967296)=z+pw o*(z'*x):=by
 rw [IQ h hv rfl,hz,hz',nK];generalize pw o=a;generalize pw k=b;grind
theorem zU{a b:List Nat}(k:Nat)(h : ∀ j,j<k->dg a j=dg b j):lo a k=lo b k:=by
 induction k with
 | zero=>rw [fH,fH]
 | succ k ih=>rw [dh,dh,ih (fun j hj=>h j af),h k af]
theorem mZ{a w:World}{g:Nat}(h:a.grownBy w (some g))(i:Nat)(u:Value):a.grownBy (w.setCell ⟨g,i,none⟩ u) (some g) :=
 ⟨h.os,h.tape,h.output,by simpa [World.setCell] using h.size,fun j hj hne=>(Below.heap_setCell w ⟨g,i,none⟩ u j (by rintro rfl;exact hne rfl)).trans (h.block j hj hne)⟩
theorem Rd.grown{w w':World}{B g:Nat}{A:Option Addr}{ns:List Nat}(h:Rd w B A ns)(hg:w.grownBy w' (some g))(hB:B<=w.heap.size)(hne:0<ns.length -> ∀ a,A=some a->a.block≠g):Rd w' B A ns :=
 ⟨h.1,fun hn=>by
  obtain ⟨b,off,hA,hb,hc⟩:=h.2 hn;refine ⟨b,off,hA,hb,fun j hj => ?_⟩;rw [<- hc j hj];exact World.cell?_of_block (hg.block b af (fun e=>hne hn _ hA (by injection e)))⟩
end Lw
namespace Go.Proofs.BGQ
open Go Go.RowKit Lw
set_option maxHeartbeats 800000 in
theorem Ls(g o x:Nat)(A':Option Addr)(cs ms:List Nat)(m c c' B':Nat)(w:World)(hb:bF w g 113 cs)(hcw:bJ cs)(h':Rd w B' A' ms)(hB':B'<=w.heap.size)(hne:0<m -> ∀ a,A'=some a->a.block≠g)(hm:ms.length=m)(hl:m<=16777216)(hl':cs.length<=1099511627776)(ho:o+m<=cs.length)(hx:x<4294967296) :
  Calls Tryz.prog 154 #[.slice (some ⟨g,o,none⟩) m c,.slice A' m c',.int .u32 x] w fun e w' => ∃ (carry:Nat) (ds:List Nat),e = .returned (.int .u32 carry)/\carry<4294967296/\bF w' g 113 ds /\
   ds.length=cs.length/\bJ ds/\(∀ j,j<o\/o+m<=j->dg ds j=dg cs j)/\lo ds (o+m)+pw (o+m)*carry=lo cs (o+m)+pw o*(val ms*x)/\w.grownBy w' (some g)/\w'.heap.size=w.heap.size:=by
 have Hm:=Lib.hid hm;clear hm
 go_enter Tryz.func154,Tryz.ntmps154
 go_wp2
 go_loopw [7,12] (fun v i wr => ∃ (k carry:Nat) (ds:List Nat),k<=m/\carry<4294967296/\i = .int .i64 k/\v = .int .u64 carry/\bF wr g 113 ds/\Hid (ds.length=cs.length)/\bJ ds /\
   Hid (∀ j,j<o\/o+k<=j->dg ds j=dg cs j)/\Hid (lo ds (o+k)+pw (o+k)*carry=lo cs (o+k)+pw o*(lo ms k*x))/\Hid (w.grownBy wr (some g)/\wr.heap.size=w.heap.size)) (fun _ i _=>m-(intOf i).toNat)
 case atStart=>exact ⟨0,0,cs,aoI _,af,rfl,rfl,hb,Lib.hid rfl,hcw,Lib.hid (fun _ _=>rfl),Lib.hid (by simp [fH]),Lib.hid ⟨World.grownBy.refl w _,rfl⟩⟩
 case round =>
  obtain ⟨k,carry,ds,hk,hcar,rfl,rfl,hb1,hdl,hdw,hsame,hv,hg⟩:=hrel;clear hb
  by_cases hkm:k<m
  ·have hr:=h'.grown hg.out.1 hB' (fun hp=>hne af)
   obtain ⟨b,off,rfl,hbb,hcell,hlt⟩:=hr.at_ (k:=k) (by rw [Hm.out];omega);have hcc:=hb1.cell (i:=o+k) (by rw [hdl.out];omega);have sU:=fA hdw (o+k);have hfr:=hb1.frozen (o+k);have hxy:=zX hx hlt;obtain ⟨Ib,Ic⟩:=hxy;clear hne
   go_wp2
   have hN:x*dg ms k<=18446744065119617025:=by have:=apd x (dg ms k);omega
   have hd:dg ds (o+k)=dg cs (o+k):=hsame.out _ (.inr (aoG _))
   go_roundw
   case rel =>
    refine ⟨k+1,(carry+(x*dg ms k+dg ds (o+k)))/4294967296,ds.set (o+k) ((carry+(x*dg ms k+dg ds (o+k)))%4294967296),af,af,by go_num,?_,hb1.kE (by rw [hdl.out];omega) ?_,Lib.hid (by rw [aoO];exact hdl.out),gB hdw _ (aoN _ af),Lib.hid ?_,Lib.hid ?_,Lib.hid ⟨mZ hg.out.1 _ _,by simp [hg.out.2]⟩⟩
    ·rw [show ((carry:Int)+((x:Int)*(dg ms k:Int)+(dg ds (o+k):Int)))=((carry+(x*dg ms k+dg ds (o+k)):Nat):Int) by simp];rfl
    ·rw [show ((carry:Int)+((x:Int)*(dg ms k:Int)+(dg ds (o+k):Int)))=((carry+(x*dg ms k+dg ds (o+k)):Nat):Int) by simp];rfl
    ·intro j hj
     rw [iR _ (by rw [hdl.out];omega),if_neg af];exact hsame.out j af
    ·rw [show o+(k+1)=o+k+1 from rfl]
     rw [Lu (z:=lo cs (o+k+1)) (z':=lo ms (k+1)) (by rw [hdl.out];omega) hv.out (by rw [hd];exact dh _ _) (dh _ _)]
   case measure=>simp [intOf];omega
  ·obtain rfl:k=m:=af
   go_wp2
   go_ret
   exact ⟨carry,ds,rfl,hcar,hb1,hdl.out,hdw,hsame.out,by rw [hv.out,di (l:=ms) (by rw [Hm.out];exact aoG _)],hg.out.1,hg.out.2⟩
end Go.Proofs.BGQ
namespace Lw
open Go Go.RowKit
theorem PW{cs ds:List Nat}{k m v x l l' r:Nat}(hm:k+m<ds.length)(hv:lo cs (k+m)=l*v)(hd:lo ds (k+m)+pw (k+m)*r=lo cs (k+m)+pw k*(v*x))(hl:l'=l+pw k*x) :
  lo (ds.set (k+m) r) (k+m+1)=l'*v:=by
 rw [jG _ hm,hd,hv,hl,aoW,aoV,aoR v x]
theorem below_of_grown{a w w':World}{B g:Nat}(h:Below B a w)(hg:w.grownBy w' (some g))(hB:B<=w.heap.size)(hgB:B<=g):Below B a w' :=
 h.grown hg hB (fun k hk=>by injection hk with e;omega)
end Lw
namespace Go.Proofs.BGQ
open Go Go.RowKit Lw
set_option maxHeartbeats 800000 in
theorem abh(A A':Option Addr)(ns ms:List Nat)(n m c c' B B':Nat)(w:World)(h:Rd w B A ns)(h':Rd w B' A' ms)(hB:B<=w.heap.size)(hB':B'<=w.heap.size)(hn:ns.length=n)(hm:ms.length=m)(hl:n<=16777216)(hl':m<=16777216) :
  Calls Tryz.prog 114 #[.slice A n c,.slice A' m c'] w (oI w (val ns*val ms)):=by
 have Hn:=Lib.hid hn;have Hm:=Lib.hid hm;clear hn hm
 go_enter Tryz.func114,Tryz.ntmps114
 go_wp2_with (at_make;refine lD _ rfl _ _ _ rfl 113 amZ iW _ _ _ _ (n+m) rfl rfl af af af ?_;intro w1 hblk hbel hsz)
 go_loopw [16] (fun i wr => ∃ (k:Nat) (cs:List Nat),k<=n/\i = .int .i64 k/\bF wr w.heap.size 113 cs/\Hid (cs.length=n+m)/\bJ cs /\
   Hid (lo cs (k+m)=lo ns k*val ms)/\Hid (∀ j,k+m<=j->dg cs j=0)/\Below w.heap.size w wr) (fun i _=>n-(intOf i).toNat)
 case atStart=>exact ⟨0,_,aoI _,rfl,hblk,Lib.hid (by simp),lq _,Lib.hid (by rw [zU (b:=[]) _ (fun j _=>by rw [yU];rfl),di (by simp),fH];simp [val]),Lib.hid (fun j _=>yU _ _),hbel⟩
 case round =>
  obtain ⟨k,cs,hk,rfl,hb1,hcl,hcw,hv,hz,hbw⟩:=hrel;clear hblk hbel hsz;have hr:=h.below (hbw.mono hB);have hr':=h'.below (hbw.mono hB');have hsz1:=hb1.lt
  by_cases hkn:k<n
  ·obtain ⟨b,off,rfl,hb,hcell,hlt⟩:=hr.at_ (k:=k) (by rw [Hn.out];omega)
   have rX:Hid (0<m -> ∀ a,A'=some a->a.block≠w.heap.size):=Lib.hid (fun hp a ha=>by
    obtain ⟨b,off,hA,hb,_⟩:=h'.2 (by rw [Hm.out];exact hp);rw [ha] at hA;injection hA with e;subst e;exact Nat.ne_of_lt (aoK hb hB'))
   go_wp2_with fail
   refine (Ls _ _ _ _ cs ms _ _ _ _ _ hb1 hcw hr' af rX.out Hm.out af (by rw [hcl.out];omega) (by rw [hcl.out];omega) hlt).mono ?_;rintro e w2 ⟨r,ds,rfl,hrl,hb2,hdl,hdw,hsame,hval,hg,hsz2⟩;have hcc:=hb2.cell (i:=k+m) (by rw [hdl,hcl.out];omega);have hfr:=hb2.frozen (k+m);have KZ:=Lib.hid hdl;have VG:=Lib.hid hsame;have VJ:=Lib.hid hval;clear hdl hsame hval hsz2
   go_wp2_with fail
   have hkl:k+m<ds.length:=by rw [KZ.out,hcl.out];omega
   go_roundw
   case rel =>
    refine ⟨k+1,ds.set (k+m) r,af,by go_num,hb2.nT _ hkl,Lib.hid (by rw [aoO,KZ.out];exact hcl.out),gB hdw _ hrl,Lib.hid ?_,Lib.hid ?_,(below_of_grown hbw hg af (aoG _)).setCell (aoG _) _⟩
    ·rw [show k+1+m=k+m+1 by omega]
     exact PW hkl hv.out VJ.out (dh _ _)
    ·intro j hj
     rw [iR _ hkl,if_neg af,VG.out j af];exact hz.out j af
   case measure=>simp [intOf];omega
  ·obtain rfl:k=n:=af
   have HV:Hid (val cs=val ns*val ms):=Lib.hid (by
    have e:=hv.out
    rwa [di (by rw [hcl.out];exact aoG _),di (l:=ns) (by rw [Hn.out];exact aoG _)] at e)
   go_wp2_with (go_at_call 155;refine (mJ _ cs _ _ _ _ (hb1.rd hcw) hcl.out (aoG _) af).mono ?_;rintro e w' ⟨rfl,rfl⟩)
   go_ret
   refine ⟨_,_,kz (by rw [HV.out]),?_,?_,hbw⟩
   ·have:=jP hcw
    rw [HV.out,hcl.out] at this;exact this
   ·have:=(hb1.rd hcw).bn
    rw [HV.out] at this;exact this
end Go.Proofs.BGQ
namespace Lw
open Go Go.RowKit
def sg(z:Int):Bool:=decide (z<0)
def mg(z:Int):List Nat:=bn z.natAbs
theorem tK(z:Int):dR (mg z):=fG _
theorem eX(z:Int):val (mg z)=z.natAbs:=bM _
theorem aeM:sg 0=false:=rfl
theorem ru(z:Int):z=if sg z then -(val (mg z):Int) else (val (mg z):Int):=by
 rw [eX];unfold sg;grind
theorem SE{s:Bool}{N:Nat}{z:Int}(h0:N≠0)(hz:z=if s then -(N:Int) else (N:Int)):sg z=s/\mg z=bn N:=by
 unfold sg mg;grind
def vB(s:Bool)(ns:List Nat):Bool:=if ns.length=0 then !s else dg ns (ns.length-1) != 0
def zv(s:Bool)(ns:List Nat):Int:=if vB s ns then (if s then -(val ns:Int) else (val ns:Int)) else 0
theorem Ey(s:Bool)(ns:List Nat):(zv s ns).natAbs<=val ns:=by
 unfold zv;split
 ·split <;> omega
 ·simp
theorem ji{s:Bool}{ns:List Nat}(h:bJ ns):(mg (zv s ns)).length<=ns.length :=
 fD (ao0 (Ey s ns) (eu h))
theorem TS{s:Bool}{ns:List Nat}(h:vB s ns=true):dR ns:=by
 unfold vB at h
 split at h
 ·rename_i h0
  rw [aoU h0];exact xP
 ·exact JI (by simpa using h)
theorem rD{s:Bool}{ns:List Nat}{z:Int}(h:vB s ns=true)(hz:z=if s then -(val ns:Int) else (val ns:Int))(hw:bJ ns) :
  sg z=s/\mg z=ns/\dR ns:=by
 unfold sg mg;have ht:=TS h;have hn:z.natAbs=val ns:=by rw [hz];split <;> omega
 refine ⟨?_,by rw [hn];exact uS hw ht,ht⟩;rw [hz]
 cases s
 ·simp
 ·have h0:ns≠[]:=by
   intro e;subst e;simp [vB] at h
  have:=Ed ht h0;simp;omega
end Lw
namespace Go.Proofs.BGQ
open Go Go.RowKit Lw
theorem iP{a b:Bool}(h:a=b):Ending.returned (.bool a)=Ending.returned (.bool b):=by rw [h]
set_option maxHeartbeats 800000 in
theorem Es(s:Bool)(A:Option Addr)(ns:List Nat)(n c B:Nat)(w:World)(h:Rd w B A ns)(hB:B<=w.heap.size)(hn:ns.length=n)(hl:n<=16777216) :
  Calls Tryz.prog 101 #[.agg #[.bool s,.slice A n c]] w fun e w'=>e = .returned (.bool (vB s ns))/\Below w.heap.size w w':=by
 have Hn:=Lib.hid hn;clear hn
 by_cases h0:n=0
 ·subst h0
  go_enter Tryz.func101,Tryz.ntmps101
  go_wp2
  go_ret
  refine ⟨iP ?_,?_⟩
  ·unfold vB;rw [if_pos Hn.out]
  ·exact (Below.refl _ _).alloc (aoG _) _
 ·obtain ⟨b,off,rfl,hb,hcell,hlt⟩:=h.at_ (k:=n-1) (by rw [Hn.out];omega)
  have hb1:((n:Int)==0)=false:=by simp;omega
  have hbs:b<w.heap.size:=af
  go_enter Tryz.func101,Tryz.ntmps101
  go_wp2
  go_ret
  refine ⟨iP ?_,(Below.refl _ _).alloc (aoG _) _⟩;unfold vB;rw [if_neg (by rw [Hn.out];exact h0),Hn.out,Bool.eq_iff_iff,bne_iff_ne,bne_iff_ne];exact not_congr Int.ofNat_inj
def Lr(w:World)(B:Nat)(z:Int)(e:Ending)(w':World):Prop :=
 ∃ A c,e = .returned (.agg #[.bool (sg z),.slice A (mg z).length c])/\(mg z).length<=c/\Rd w' B A (mg z)/\Below w.heap.size w w'
def jD(w:World)(z:Int)(e:Ending)(w':World):Prop :=
 ∃ A c,e = .returned (.agg #[.bool (sg z),.slice A (mg z).length c])/\(mg z).length<=c/\Rd w' w'.heap.size A (mg z)/\Below w.heap.size w w'
theorem fZ{w W:World}{B g n c c':Nat}{t:TypeId}{s:Bool}{A A':Option Addr}{z:Int}(h2:Two W g t (.bool s) (.slice A' n c))(hr:Rd W B A (mg z))(hB:B<=W.heap.size)(hc:(mg z).length<=c')(hb:Below w.heap.size w W)(hg:w.heap.size<=g) :
  jD w z (.returned (.agg #[.bool (sg z),.slice A (mg z).length c'])) ((W.setCell ⟨g,0,none⟩ (.bool (sg z))).setCell ⟨g,1,none⟩ (.slice A (mg z).length c')) :=
 ⟨A,c',rfl,hc,(hr.gG h2 _ _).more (by simpa using hB),(hb.setCell hg _).setCell hg _⟩
set_option maxHeartbeats 800000 in
theorem pg(s:Bool)(A:Option Addr)(ns:List Nat)(n c B:Nat)(w:World)(h:Rd w B A ns)(hB:B<=w.heap.size)(hn:ns.length=n)(hl:n<=16777216)(hc:n<=c) :
  Calls Tryz.prog 111 #[.agg #[.bool s,.slice A n c]] w (Lr w B (zv s ns)):=by
 cases hv:vB s ns
 ·have hz:Hid (zv s ns=0):=Lib.hid (by unfold zv;rw [hv];rfl)
  go_enter Tryz.func111,Tryz.ntmps111
  go_wp2_with fail
  refine (Es s A ns n c B _ ((h.alloc hB _).alloc (by simp;omega) _) (by simp;omega) hn hl).mono ?_;rintro e w1 ⟨rfl,hb1⟩;obtain ⟨t1,t2,hs1,hb2⟩:=bV hb1;obtain ⟨c10,c11,f10,f11⟩:=t1.facts;obtain ⟨c20,c21,f20,f21⟩:=t2.facts
  go_wp2_with fail
  refine bodyPost_ret (v := .agg #[.bool false,.slice none 0 0]) (by simp [results,Tryz.results111,go_sem,c20,c21]) rfl ?_;rw [hz.out];exact ⟨none,0,rfl,aoG _,Rd.nil_ _ _ _,(hb2.setCell (by simp) _).setCell (by simp) _⟩
 ·have hz:Hid (zv s ns=if s then -(val ns:Int) else (val ns:Int)):=Lib.hid (by unfold zv;rw [hv];rfl)
  have Hv:=Lib.hid hv
  go_enter Tryz.func111,Tryz.ntmps111
  go_wp2_with fail
  refine (Es s A ns n c B _ ((h.alloc hB _).alloc (by simp;omega) _) (by simp;omega) hn hl).mono ?_;rintro e w1 ⟨rfl,hb1⟩;obtain ⟨t1,t2,hs1,hb2⟩:=bV hb1;obtain ⟨c10,c11,f10,f11⟩:=t1.facts;obtain ⟨c20,c21,f20,f21⟩:=t2.facts
  go_wp2_with fail
  refine bodyPost_ret (v := .agg #[.bool s,.slice A n c]) (by simp [results,Tryz.results111,go_sem,c20,c21]) rfl ?_;obtain ⟨e1,e2,e3⟩:=rD Hv.out hz.out h.bQ;refine ⟨A,c,?_,by rw [e2,hn];exact hc,?_,(hb2.setCell (by simp) _).setCell (by simp) _⟩
  ·rw [e1,e2,hn]
  ·rw [e2]
   exact (((h.below (hb2.mono hB)).setCell (by simp;omega) _).setCell (by simp;omega) _)
end Go.Proofs.BGQ
namespace Lw
open Go Go.RowKit
theorem BO{w:World}{base:Nat}{e:TypeId}{v:Value}{n:Nat}{ns:List Nat}(h:w.ownsRow base e 1 v n (arr ns))(hv:v ≠ .slice none 0 0) :
  ∃ g c,v = .slice (some ⟨g,0,none⟩) n c/\base<=g/\n<=c/\bF w g e ns:=by
 rcases h.2 with ⟨h0,_⟩ | ⟨g,cap,cur,hv',hb,hg,hnc,hcm,hcs,htake⟩
 ·exact absurd h0 hv
 ·refine ⟨g,cap,hv',hb,hnc,cur.toList.drop (n*1),?_⟩
  rw [hg,<- htake,List.take_append_drop]
end Lw
namespace Go.Proofs.BGQ
open Go Go.RowKit Lw
def UO(w:World)(ns:List Nat)(n:Nat)(e:Ending)(w':World):Prop :=
 ∃ A c,e = .returned (.slice A n c)/\n<=c/\(0<n -> ∃ g,A=some ⟨g,0,none⟩/\w.heap.size<=g/\bF w' g 113 ns)/\Rd w' w'.heap.size A ns/\Below w.heap.size w w'
set_option maxRecDepth 100000 in
set_option maxHeartbeats 800000 in
theorem clone_any(A:Option Addr)(ns:List Nat)(n c B:Nat)(w:World)(h:Rd w B A ns)(hB:B<=w.heap.size)(hn:ns.length=n)(hl:n<=16777216) :
  Calls Tryz.prog 136 #[.slice A n c] w (UO w ns n):=by
 have hq:=fun (W:World) (A:Option Addr)=>Lib.run_eql_slice_nil (P:=Tryz.prog) W 22 113 A n c 0 0 amZ;rcases A with _ | ad
 ·have h0:n=0:=by
   rcases aoT n with h0 | h0
   ·exact h0
   ·obtain ⟨b,off,hA,_⟩:=h.2 af
    cases hA
  subst h0;have e0:ns=[]:=aoU hn;subst e0;clear hn
  go_enter Tryz.func136,Tryz.ntmps136
  go_wp2
  go_ret
  exact ⟨none,0,rfl,aoG _,fun h=>absurd h af,Rd.nil_ _ _ _,Below.refl _ _⟩
 ·obtain ⟨i0,hi0,hz0,hz1,hz2⟩:=info_parts iW
  have Hn:=Lib.hid hn;clear hn
  go_enter Tryz.func136,Tryz.ntmps136
  have hown:(w.alloc (.cells #[] 113)).ownsRow w.heap.size 113 1 (.slice (some ⟨w.heap.size,0,none⟩) 0 0) 0 []:=World.ownsRow_lit w #[] 0 (aoG _) (by simp [maxLen]) (by simp)
  have hnews : ∀ j u,(arr ns)[j]? = some u->(w.alloc (.cells #[] 113)).cell? (ad.add j)=some u:=by
   intro j u hu
   have hj:j<ns.length:=by
    rcases aoM j ns.length with h1 | h1
    ·exact h1
    ·rw [List.getElem?_eq_none (by rw [jS];exact h1)] at hu;cases hu
   obtain ⟨b,off,hA,hb,hcell⟩:=(h.alloc hB (.cells #[] 113)).2 af;rw [BN ns j hj] at hu
   injection hA with hA;subst hA;rw [<- hu,<- hcell j hj]
   congr 1
   unfold Addr.add
   split
   ·rename_i h0;subst h0;rfl
   ·rfl
  have h1 : ∀ u∈arr ns,u.oneCell'=true:=by
   intro u hu;unfold arr at hu;rw [apS] at hu;obtain ⟨x,_,rfl⟩:=hu
   rfl
  have hl1:(arr ns).length=n*1:=by rw [jS,Hn.out,ao1]
  have VD:=Lib.hid hnews;have H1:=Lib.hid h1;have VC:=Lib.hid hl1;clear hnews h1 hl1
  go_wp2_with (at_builtin;refine wpList_append_own _ rfl _ _ 22 rfl w.heap.size 113 i0 _ 1 4 amZ hi0 hz0 hz1 hz2 rfl ai _ 0 [] rfl hown ad n c (arr ns) rfl VC.out VD.out H1.out (by unfold maxLen;omega) af (by simp) ?_;intro v' w1 hown1 hgrow1 hnil)
  go_ret
  rw [apw,ao3] at hown1;obtain ⟨g,c',rfl,hg,hc',hblk⟩:=BO hown1 (by intro e;have h1:=(hnil.1 e).1;cases h1);have hgl:=hblk.lt;refine ⟨some ⟨g,0,none⟩,c',rfl,hc',fun _=>⟨g,rfl,hg,hblk⟩,hblk.rd h.bQ,((Below.refl _ _).alloc (aoG _) _).grown hgrow1 (by simp) (fun k hk => ?_)⟩;have e:some w.heap.size=some k:=hk
  injection e with e;exact Nat.le_of_eq e
set_option maxHeartbeats 800000 in
theorem jL(s:Bool)(A:Option Addr)(N:Nat)(n c B:Nat)(z:Int)(w:World)(h:Rd w B A (bn N))(hB:B<=w.heap.size)(hn:(bn N).length=n)(hc:n<=c)(hz:z=if s then -(N:Int) else (N:Int)) :
  Calls Tryz.prog 113 #[.bool s,.slice A n c] w (Lr w B z):=by
 by_cases h0:N=0
 ·subst h0
  have e0:n=0:=by rw [<- hn];rfl
  have ez:z=0:=by rw [hz];split <;> rfl
  subst e0;subst ez;clear hn hz
  go_enter Tryz.func113,Tryz.ntmps113
  go_wp2
  refine bodyPost_ret (v := .agg #[.bool false,.slice none 0 0]) (by simp [results,Tryz.results113,go_sem]) rfl ?_;exact ⟨none,0,rfl,aoG _,Rd.nil_ _ _ _,(Below.refl _ _).alloc (aoG _) _⟩
 ·have hb:((n:Int)==0)=false:=by
   rw [beq_eq_false_iff_ne];intro e;exact h0 (iL.1 (aoU af))
  have Hz:Hid (sg z=s/\mg z=bn N):=Lib.hid (SE h0 hz);clear hz
  go_enter Tryz.func113,Tryz.ntmps113
  go_wp2
  refine bodyPost_ret (v := .agg #[.bool s,.slice A n c]) (by simp [results,Tryz.results113,go_sem]) rfl ?_;refine ⟨A,c,by rw [Hz.out.1,Hz.out.2,hn],by rw [Hz.out.2,hn];exact hc,by rw [Hz.out.2];exact h.alloc hB _,(Below.refl _ _).alloc (aoG _) _⟩
end Go.Proofs.BGQ
namespace Lw
theorem val_two(a b:Nat):val [a,b]=a+4294967296*b:=by simp [val]
theorem JX{a b:Nat}(ha:a<4294967296)(hb:b<4294967296):bJ [a,b]:=by rw [iH,iH];exact ⟨ha,hb,gV⟩
open Go
theorem Uh{z:Int}(h1 : -9223372036854775808<=z)(h0:z<0) : ∃ D N:Nat,IntKind.u64.wrap z=(D:Int)/\IntKind.u64.wrap (-(D:Int))=(N:Int)/\z = -(N:Int)/\N<=9223372036854775808/\D<=18446744073709551615:=by
 refine ⟨(z+18446744073709551616).toNat,z.natAbs,?_,?_,af,af,af⟩
 ·rw [IntKind.wrap_u64];omega
 ·rw [IntKind.wrap_u64];omega
end Lw
namespace Go.Proofs.BGQ
open Go Go.RowKit Lw
theorem LP(w:World)(t:TypeId){a b:Int}{x y:Nat}(ha:a=x)(hb:b=y):bF (w.alloc (.cells #[.int .u32 a,.int .u32 b] t)) w.heap.size t [x,y]:=by
 subst ha hb;exact bF.new w t [x,y]
set_option maxHeartbeats 800000 in
theorem xK(x:Nat)(w:World)(_hx:x<=18446744073709551615) :
  Calls Tryz.prog 166 #[.int .u64 x] w (oI w x):=by
 have hb:=LP w 113 (a:=(x:Int)%4294967296) (b:=(x:Int)/4294967296) (x:=x%4294967296) (y:=x/4294967296) af af;have hw:bJ [x%4294967296,x/4294967296]:=JX af af;have hv:Hid (val [x%4294967296,x/4294967296]=x):=Lib.hid (by rw [val_two];omega);have hl:Hid ((bn x).length<=2):=Lib.hid (fD (k:=2) (by show x<18446744073709551616;omega))
 go_enter Tryz.func166,Tryz.ntmps166
 go_wp2_with fail
 refine (mJ _ [x%4294967296,x/4294967296] 2 2 _ _ (hb.rd hw) rfl af af).mono ?_;rintro e w' ⟨rfl,rfl⟩
 go_wp2_with fail
 go_ret
 refine ⟨_,_,kz (by rw [hv.out]),hl.out,?_,(Below.refl _ _).alloc (aoG _) _⟩;have:=(hb.rd hw).bn;rw [hv.out] at this;exact this
set_option maxHeartbeats 800000 in
theorem abZ(z:Int)(w:World)(h1 : -9223372036854775808<=z)(h2:z<=9223372036854775807) :
  Calls Tryz.prog 121 #[.int .i64 z] w (jD w z):=by
 by_cases h0:z<0
 ·obtain ⟨D,N,hD,hN,zu,hNl,hDl⟩:=Uh h1 h0
  have HN:=Lib.hid zu;clear zu;have hz:Hid (z=if true then -(N:Int) else (N:Int)):=Lib.hid (by rw [HN.out];rfl)
  go_enter Tryz.func121,Tryz.ntmps121
  go_wp2_with fail
  refine (xK N _ af).mono ?_;rintro e w1 ⟨A1,c1,rfl,hc1,hr1,hb1⟩;obtain ⟨t1,hs1,hb2⟩:=box1 hb1
  go_wp2_with fail
  refine (jL true A1 N _ c1 _ z _ hr1 (aoG _) rfl hc1 hz.out).mono ?_;rintro e w2 ⟨A2,c2,rfl,hc2,hr2,hb3⟩;have T2:=t1.next hb3;obtain ⟨d0,d1,g0,g1⟩:=T2.facts
  go_wp2_with fail
  refine bodyPost_ret (v := .agg #[.bool (sg z),.slice A2 (mg z).length c2]) (by simp [results,Tryz.results121,go_sem,d0,d1]) rfl ?_;exact fZ T2 hr2 hb3.size hc2 (bK hb2 hb3 af) (aoG _)
 ·obtain ⟨N,rfl⟩:=apq (show 0<=z from af)
  go_enter Tryz.func121,Tryz.ntmps121
  go_wp2_with fail
  refine (xK N _ af).mono ?_;rintro e w1 ⟨A1,c1,rfl,hc1,hr1,hb1⟩;obtain ⟨t1,hs1,hb2⟩:=box1 hb1
  go_wp2_with fail
  refine (jL false A1 N _ c1 _ (N:Int) _ hr1 (aoG _) rfl hc1 rfl).mono ?_;rintro e w2 ⟨A2,c2,rfl,hc2,hr2,hb3⟩;have T2:=t1.next hb3;obtain ⟨d0,d1,g0,g1⟩:=T2.facts
  go_wp2_with fail
  refine bodyPost_ret (v := .agg #[.bool (sg (N:Int)),.slice A2 (mg (N:Int)).length c2]) (by simp [results,Tryz.results121,go_sem,d0,d1]) rfl ?_;exact fZ T2 hr2 hb3.size hc2 (bK hb2 hb3 af) (aoG _)
end Go.Proofs.BGQ
namespace Lw
open Go
def fits(z:Int):Bool:=decide (-9223372036854775808<=z/\z<=9223372036854775807)
theorem uo{z:Int}(h:sg z=true):z = -(z.natAbs:Int)/\0<z.natAbs:=by unfold sg at h;simp at h;omega
theorem AP{z:Int}(h:sg z=false):z=(z.natAbs:Int):=by unfold sg at h;simp at h;omega
end Lw
namespace Go.Proofs
open Go.Shelf BGQ
def Tryz.lays133_ren:Go.Shelf.Ren:=⟨fun | 133=>211 | 128=>200 | n=>n,fun | 51=>113 | 3=>3 | 4=>4 | 46=>146 | 5=>5 | 9=>9 | n=>n,fun | n=>n⟩
theorem Tryz.lays133:Go.Proofs.Lays.n133 Tryz.prog Tryz.lays133_ren := {
 mixed:=ah
 f128:=Tryz.func200.trans (congrArg some ah)
 f133:=Tryz.func211.trans (congrArg some ah)
 t3:=anl
 a3:=anx
 z3:=anz
 v3:=anA
 t4:=anb
 a4:=amX
 z4:=amY
 v4:=anB
 t5:=anC
 a5:=anJ
 z5:=anK
 v5:=anL
 t9:=anE
 a9:=anM
 z9:=anN
 v9:=anO
 t46:=anP
 a46:=anQ
 z46:=anR
 v46:=anT
 t51:=anU
 a51:=aod
 z51:=aoe
 v51:=aof }
theorem Tryz.bits_LeadingZeros32(x:Int)(w:World)(h0:0<=x)(h1:x<=4294967295) :
  Calls Tryz.prog 211 #[.int .u32 x] w fun e w'=>e = .returned (.int .i64 (32-(Lib.bitLen x.toNat:Int)))/\w'=w:=Any.bits_LeadingZeros32 Tryz.lays133 x w h0 h1
def Tryz.laysM288_ren:Go.Shelf.Ren:=⟨fun | 288=>193 | 283=>205 | 284=>206 | 285=>207 | 286=>208 | 129=>201 | 317=>216 | 318=>217 | 319=>218 | 320=>219 | 337=>220 | 338=>171 | n=>n,fun | 37=>140 | 53=>134 | 3=>3 | 4=>4 | 9=>9 | 171=>180 | 0=>0 | 173=>182 | 212=>189 | 51=>113 | 5=>5 | 20=>20 | 213=>190 | 46=>146 | 232=>191 | 233=>169 | n=>n,fun | 17=>2 | 18=>3 | 19=>0 | n=>n⟩
theorem Tryz.laysM288:Go.Proofs.LaysM.n288 Tryz.prog Tryz.laysM288_ren := {
 mixed:=ah
 f129:=Tryz.func201.trans (congrArg some ah)
 f283:=Tryz.func205.trans (congrArg some ah)
 f284:=Tryz.func206.trans (congrArg some ah)
 f285:=Tryz.func207.trans (congrArg some ah)
 f286:=Tryz.func208.trans (congrArg some ah)
 f288:=Tryz.func193.trans (congrArg some ah)
 f317:=Tryz.func216.trans (congrArg some ah)
 f318:=Tryz.func217.trans (congrArg some ah)
 f319:=Tryz.func218.trans (congrArg some ah)
 f320:=Tryz.func219.trans (congrArg some ah)
 f337:=Tryz.func220.trans (congrArg some ah)
 f338:=Tryz.func171.trans (congrArg some ah)
 t0:=Tryz.underlying0
 a0:=Tryz.isAgg0
 z0:=Tryz.sizeOf0
 v0:=Tryz.zeroValue0
 t3:=anl
 a3:=anx
 z3:=anz
 v3:=anA
 t4:=anb
 a4:=amX
 z4:=amY
 v4:=anB
 t5:=anC
 a5:=anJ
 z5:=anK
 v5:=anL
 t9:=anE
 a9:=anM
 z9:=anN
 v9:=anO
 t20:=Tryz.underlying20
 a20:=Tryz.isAgg20
 z20:=Tryz.sizeOf20
 v20:=Tryz.zeroValue20
 t37:=Tryz.underlying140
 a37:=Tryz.isAgg140
 z37:=Tryz.sizeOf140
 v37:=Tryz.zeroValue140
 t46:=anP
 a46:=anQ
 z46:=anR
 v46:=anT
 t51:=anU
 a51:=aod
 z51:=aoe
 v51:=aof
 t53:=aon
 a53:=Tryz.isAgg134
 z53:=Tryz.sizeOf134
 v53:=Tryz.zeroValue134
 t171:=Tryz.underlying180
 a171:=Tryz.isAgg180
 z171:=Tryz.sizeOf180
 v171:=Tryz.zeroValue180
 t173:=Tryz.underlying182
 a173:=Tryz.isAgg182
 z173:=Tryz.sizeOf182
 v173:=Tryz.zeroValue182
 t212:=Tryz.underlying189
 a212:=Tryz.isAgg189
 z212:=Tryz.sizeOf189
 v212:=Tryz.zeroValue189
 t213:=Tryz.underlying190
 a213:=Tryz.isAgg190
 z213:=Tryz.sizeOf190
 t232:=Tryz.underlying191
 a232:=Tryz.isAgg191
 z232:=Tryz.sizeOf191
 v232:=Tryz.zeroValue191
 t233:=Tryz.underlying169
 a233:=Tryz.isAgg169
 z233:=Tryz.sizeOf169
 v233:=Tryz.zeroValue169
 g17:=ah
 g18:=ah
 g19:=ah
 i0:=ah
 i3:=ah
 i4:=ah
 i5:=ah
 i9:=ah
 i20:=ah
 i37:=ah
 i46:=ah
 i51:=ah
 i53:=ah
 i171:=ah
 i173:=ah
 i212:=ah
 i232:=ah
 i233:=ah
 m17:=ah
 m18:=ah
 m19:=by kernel_rfl }
open Go.RowKit Go.Sort Go.Lib in
theorem Tryz.internal_strconv_AppendUint_10_small(B n u:Nat)(hu:u<100)(sv:Value)(xs:List Value)(w:World)(hown:w.ownsRow B 5 1 sv n xs)(hBw:B<=w.heap.size)(hlim:n+20<=140737488355328) :
  Calls Tryz.prog 193 #[sv,.int .u64 u,.int .i64 10] w fun e w' => ∃ v',e = .returned v'/\w'.ownsRow B 5 1 v' (n+(Lib.decDigits u).length) (xs++Lib.byteCells (Lib.decDigits u))/\Below B w w'/\Lib.OthersKept 5 none w w':=Any.internal_strconv_AppendUint_10_small Tryz.laysM288 B n u hu sv xs w hown hBw hlim
open Go.RowKit Go.Sort Go.Lib in
theorem Tryz.internal_strconv_AppendUint_10_big(B n u:Nat)(hu:100<=u)(hu64:u<18446744073709551616)(sv:Value)(xs:List Value)(w:World)(hown:w.ownsRow B 5 1 sv n xs)(hBw:B<=w.heap.size)(hlim:n+20<=140737488355328)(htab:Lib.TabIs Tryz.prog w "internal/strconv.uint64pow10" .u64 Lib.pow10Tab) :
  Calls Tryz.prog 193 #[sv,.int .u64 u,.int .i64 10] w fun e w' => ∃ v',e = .returned v'/\w'.ownsRow B 5 1 v' (n+(Lib.decDigits u).length) (xs++Lib.byteCells (Lib.decDigits u))/\Below B w w'/\Lib.OthersKept 5 none w w':=Any.internal_strconv_AppendUint_10_big Tryz.laysM288 B n u hu hu64 sv xs w hown hBw hlim htab
end Go.Proofs
namespace Lw
open Go
def dD(z:Int):Int:=if z<0 then -1 else if z=0 then 0 else 1
def nJ(l:List Nat):Nat:=if l.length=0 then 0 else (l.length-1)*32+Lib.bitLen (dg l (l.length-1))
theorem Wy{x:Nat}(h:x<4294967296):Lib.bitLen x<=32:=Lib.bitLen_le x 32 af (by simpa using h)
theorem kW{z:Int} : (mg z).length=0↔z=0:=by
 rw [aql];unfold mg;rw [iL];omega
end Lw
namespace Go.Proofs.BGQ
open Go Go.RowKit Lw
set_option maxHeartbeats 1600000 in
theorem aeU(s:Bool)(A:Option Addr)(ns:List Nat)(n c B:Nat)(w:World)(h:Rd w B A ns)(hB:B<=w.heap.size)(hn:ns.length=n)(hl:n<=16777216)(hc:n<=c) :
  Calls Tryz.prog 72 #[.agg #[.bool s,.slice A n c]] w fun e w'=>e = .returned (.int .i64 (dD (zv s ns)))/\Below w.heap.size w w':=by
 have hlz:=ji (s:=s) h.bQ;rw [hn] at hlz;have hk:=fun W hR hB'=>pg s A ns n c B W hR hB' hn hl hc;generalize zv s ns=z at *;have Hk:=Lib.hid hk;clear hk
 go_enter Tryz.func72,Tryz.ntmps72
 go_wp2_with fail
 refine (Hk.out _ (h.alloc hB _) (by simp;omega)).mono ?_;rintro e w1 ⟨A1,c1,rfl,hc1,hr1,hb1⟩;obtain ⟨t1,hs1,hb2⟩:=box1 hb1;have hb3 : ∀ u v,Below w.heap.size w ((w1.setCell ⟨w.heap.size,0,none⟩ u).setCell ⟨w.heap.size,1,none⟩ v):=fun u v=>(hb2.setCell (p:=⟨w.heap.size,0,none⟩) (aoG _) u).setCell (p:=⟨w.heap.size,1,none⟩) (aoG _) v;have HB:=Lib.hid hb3;clear hb3;obtain ⟨c10,c11,f10,f11⟩:=t1.facts
 by_cases h0:(mg z).length=0
 ·have HZ:Hid (0=dD z):=Lib.hid (by rw [kW.1 h0];rfl)
  have hbq:(((mg z).length:Int)==0)=true:=by rw [beq_iff_eq];omega
  have H0:=Lib.hid h0;clear h0
  go_wp2_with fail
  go_ret
  exact ⟨eP HZ.out,HB.out _ _⟩
 ·have hne:z≠0:=fun e=>h0 (kW.2 e)
  have hbq:(((mg z).length:Int)==0)=false:=by rw [beq_eq_false_iff_ne];omega
  have H0:=Lib.hid hne;clear h0 hne
  cases hsg:sg z
  ·have HZ:Hid (1=dD z):=Lib.hid (by have:=AP hsg;have:=H0.out;unfold dD;rw [if_neg af,if_neg af])
   go_wp2_with fail
   go_ret
   exact ⟨eP HZ.out,HB.out _ _⟩
  ·have HZ:Hid (-1=dD z):=Lib.hid (by have:=uo hsg;unfold dD;rw [if_pos af])
   go_wp2_with fail
   go_ret
   exact ⟨eP HZ.out,HB.out _ _⟩
end Go.Proofs.BGQ
namespace Lw
open Go Go.RowKit
theorem addr_add(b off j:Nat):(⟨b,off,none⟩:Addr).add j=⟨b,off+j,none⟩:=by
 unfold Addr.add;split
 ·grind
 ·rfl
theorem aeh{P:Program}(w:World)(base:Nat)(t ty e:TypeId)(i:TypeInfo)(ht:P.underlying t=some (.slice e))(hi:P.info? e=some i)(v:Value)(n:Nat)(xs:List Value)(hown:w.ownsRow base e 1 v n xs)(c:Nat):(Builtin.append_ #[t,t] ty #[v,.slice none 0 c]).run P w = .ok v w:=by
 rcases hown.2 with ⟨rfl,rfl⟩ | ⟨g,cap,cur,rfl,_,_,hnc,_⟩
 ·simp [Builtin.append_,run_underlying ht,Go.sizeOf,typeInfo,hi,Builtin.lenOf,Builtin.firstCells]
 ·simp [Builtin.append_,run_underlying ht,Go.sizeOf,typeInfo,hi,Builtin.lenOf,Builtin.firstCells,hnc,storeCells]
theorem LH(a b:List Nat):arr (a++b)=arr a++arr b:=by simp [arr]
theorem bF.take{w:World}{g:Nat}{t:TypeId}{ns:List Nat}(h:bF w g t ns)(k:Nat):bF w g t (ns.take k):=by
 obtain ⟨rest,h⟩:=h;refine ⟨arr (ns.drop k)++rest,?_⟩;rw [h,<- apG,<- LH,List.take_append_drop]
theorem bF.bn{w:World}{g:Nat}{t:TypeId}{ns:List Nat}(h:bF w g t ns)(hw:bJ ns):bF w g t (bn (val ns)):=by
 rw [MZ hw];exact h.take _
theorem Wq(ns:List Nat) : ∀ u∈arr ns,u.oneCell'=true:=by
 intro u hu;unfold arr at hu;rw [apS] at hu;obtain ⟨x,_,rfl⟩:=hu
 rfl
theorem Rd.cells{w:World}{B:Nat}{ad:Addr}{ms:List Nat}(h:Rd w B (some ad) ms) : ∀ j u,(arr ms)[j]? = some u->w.cell? (ad.add j)=some u:=by
 intro j u hu
 have hj:j<ms.length:=by
  rcases aoM j ms.length with h1 | h1
  ·exact h1
  ·rw [List.getElem?_eq_none (by rw [jS];exact h1)] at hu;cases hu
 obtain ⟨b,off,hA,hb,hcell⟩:=h.2 af;rw [BN ms j hj] at hu
 injection hA with hA;subst hA;rw [<- hu,<- hcell j hj,addr_add]
theorem Ba{P:Program}(w:World){ops:Array Oper}{rest:List Oper}{o:Oper}{a:Act}{Q:Exit->Act->World->Prop}(hgd:o.guard=none)(s x:Operand)(t:TypeId)(ho:o.op = .call { callee := .builtin .append,args := #[s,x],argTypes := #[t,t] })(base:Nat)(e:TypeId)(ht:P.underlying t=some (.slice e))(hinfo:(P.info? e).map (fun i=>(i.zero,i.size,i.bytes))=some (some (.int .u32 0),1,4))(v:Value)(n:Nat)(ns:List Nat)(hs:a.eval s=v)(hown:w.ownsRow base e 1 v n (arr ns))(B:Nat)(A:Option Addr)(ms:List Nat)(m c:Nat)(hx:a.eval x = .slice A m c)(hr:Rd w B A ms)(hm:ms.length=m)(hlim:n+m<=1099511627776)(hbase:base<=w.heap.size)(h : ∀ v' w',w'.ownsRow base e 1 v' (n+m) (arr (ns++ms))->w.grownBy w' v.ownBlock->(v' = .slice none 0 0↔v = .slice none 0 0/\m=0)->wpList P ops Q rest (a.put o.dst v') w'):wpList P ops Q (o::rest) a w:=by
 obtain ⟨i,h2,h3,h4,h5⟩:=info_parts hinfo;rcases A with _ | ad
 ·have h0:m=0:=by
   rcases aoT m with h0 | h0
   ·exact h0
   ·obtain ⟨b,off,hA,_⟩:=hr.2 af
    cases hA
  subst h0;have e0:ms=[]:=aoU hm;subst e0;refine wpList_plain hgd fun K hK => ?_;have hrun:=aeh (P:=P) w base t o.type e i ht h2 v n (arr ns) hown c;unfold Oper.wp;simp [execOp,ho,resolve,invoke,builtin,hs,hx,hrun,Result.andThen];refine hK _ _ (h v w ?_ (World.grownBy.refl w _) ⟨fun hv=>⟨hv,rfl⟩,fun hv=>hv.1⟩);rw [aqc];exact hown
 ·refine wpList_append_own w hgd s x t ho base e i _ 1 4 ht h2 h3 h4 h5 rfl ai v n (arr ns) hs hown ad m c (arr ms) hx (by rw [jS,hm,ao1]) hr.cells (Wq ms) (by unfold maxLen;omega) af hbase ?_
  intro v' w' h1 h2 h3;rw [<- LH] at h1;exact h v' w' h1 h2 h3
end Lw
