/- Part of a proof, said shortly. -/
import Derived.Deep.RegionHeld3
import Derived.Deep.LoopGhost
import Derived.Test.YtmmgoghiiionfaaGreatDoorAlz
import Derived.Test.YtmmgoghiiionfaaGreatDoorC1
import Derived.Test.YtmmgoghiiionfaaGreatDoorC12
import Derived.Test.YtmmgoghiiionfaaGreatDoorC3
import Derived.Test.YtmmgoghiiionfaaGreatDoorC2
import Derived.Test.YtmmgoghiiionfaaGreatDoorC13
import Derived.Test.YtmmgoghiiionfaaGreatDoorC6
import Derived.Test.YtmmgoghiiionfaaGreatDoorC5
import Derived.Test.YtmmgoghiiionfaaGreatDoorC4
set_option linter.unusedVariables false
set_option linter.unusedSimpArgs false
namespace Lw
def Dv(X Y j Q R:Nat):Prop:=R<Y /\ ∃ q,Q=q*2^j/\X/2^j=q*Y+R
theorem Xw{X Y j:Nat}(hY:0<Y)(h:X<2^j):Dv X Y j 0 0:=⟨hY,0,by simp,by rw [ah7 h];simp⟩
theorem Xv{X Y Q R:Nat}(h:Dv X Y 0 Q R):Q=X/Y/\R=X%Y:=by
 obtain ⟨h1,q,h2,h3⟩:=h;simp only [Nat.pow_zero,ahJ,Nat.div_one] at h2 h3;subst h3;have hY:0<Y:=af;rw [ahu,Nat.mul_add_div hY,Nat.mul_add_mod,ah7 h1,aih h1];omega
theorem NK(X j:Nat):X/2^j=2*(X/2^(j+1))+X/2^j%2:=by
 rw [ahL,<- aiM];omega
theorem Xu{X Y j Q R R':Nat}(h:Dv X Y (j+1) Q R)(hR:R'=2*R+X/2^j%2)(hl:R'<Y):Dv X Y j Q R':=by
 obtain ⟨h1,q,h2,h3⟩:=h;refine ⟨hl,2*q,by rw [h2,ahL];grind,?_⟩;rw [NK X j,h3,hR];grind
theorem Xx{X Y j Q R R':Nat}(h:Dv X Y (j+1) Q R)(hR:R'=2*R+X/2^j%2)(hl:Y<=R'):Dv X Y j (Q+2^j) (R'-Y):=by
 obtain ⟨h1,q,h2,h3⟩:=h;refine ⟨af,2*q+1,by rw [h2,ahL];grind,?_⟩;rw [NK X j,h3,ahw,ah1];grind
theorem LY{l:List Nat}(h:bF l)(k:Nat):dg l k=val l/pw k%4294967296:=by
 rcases ahs k l.length with hk | hk
 ·have h1:=iE h k
  have h2:val l=lo l k+pw k*val (l.drop k):=by have:=vw l k;rwa [ahS af] at this
  have h3:val (l.drop k)=dg l k+4294967296*val (l.drop (k+1)):=by
   rw [aiq hk,jT,lU hk]
  have h4:=dV h k;rw [h2,aiB _ _ (iV k),ah7 h1,h3];omega
 ·rw [nP hk,ah7 (ahr (dQ h) (dY hk))]
theorem H8(s:Nat):2^s=pw (s/32)*2^(s%32):=by
 unfold pw;rw [show (4294967296:Nat)=2^32 from rfl,<- aiC,<- ahV];grind
theorem aa1{t:Nat}(h:t<=31):(4294967296:Nat)=2^t*(2*2^(31-t)):=by
 rw [<- Nat.pow_succ',<- ahV,show t+(31-t+1)=32 by omega]
theorem VS{l:List Nat}(h:bF l)(j:Nat):dg l (j/32)/2^(j%32)%2=val l/2^j%2:=by
 rw [LY h,H8 j,<- aiM];generalize val l/pw (j/32)=H;have h1:=aa1 (t:=j%32) af;have h2:=Nat.mod_add_div H 4294967296;generalize H%4294967296=x at *;generalize H/4294967296=y at *;rw [<- h2,h1,ahA,aiB _ _ (ahM af),ahA];omega
theorem VT{l:List Nat}{q j:Nat}(h:bF l)(hv:val l=q*2^(j+1)) :
  ∃ e,dg l (j/32)=e*2^(j%32+1)/\dg l (j/32)+2^(j%32)<4294967296:=by
 have e1:val l/pw (j/32)=q*2^(j%32+1):=by
  rw [hv,ahL,H8 j,show q*(pw (j/32)*2^(j%32)*2)=pw (j/32)*(q*2^(j%32+1)) by rw [ahL];grind,Nat.mul_div_cancel_left _ (iV _)]
 have e2:=LY h (j/32);rw [e1] at e2;have e3:(4294967296:Nat)=2^(j%32+1)*2^(31-j%32):=by rw [<- ahV,show j%32+1+(31-j%32)=32 by omega]
 have hq:0<2^(31-j%32):=ahM af
 have e4:q*2^(j%32+1)%4294967296=(q%2^(31-j%32))*2^(j%32+1):=by
  rw [e3,ahu q,Nat.mul_mod_mul_left,ahu]
 rw [e4] at e2;refine ⟨q%2^(31-j%32),e2,?_⟩;have h5:=aht q hq;have h6:(q%2^(31-j%32)+1)*2^(j%32+1)<=2^(31-j%32)*2^(j%32+1):=ahp _ h5;have e5:2^(j%32+1)=2*2^(j%32):=Nat.pow_succ';rw [e2];generalize q%2^(31-j%32)=E at *;generalize 2^(31-j%32)=F at *;rw [e5] at *;generalize 2^(j%32)=P at *;rw [ahu] at e3;have e6:(E+1)*(2*P)=E*(2*P)+2*P:=by grind
 omega
theorem aep{l:List Nat}{k:Nat}(v:Nat)(h:k<l.length):val (l.set k v)+pw k*dg l k=val l+pw k*v:=by
 induction l generalizing k with
 | nil=>simp at h
 | cons x l ih =>
  cases k with
  | zero=>simp [jT,lG,dg];omega
  | succ k =>
   rw [List.set_cons_succ,jT,jT,dS,show dg (x::l) (k+1)=dg l k by simp [dg]];grind
theorem aen{l:List Nat}{j:Nat}(h:j/32<l.length):val (l.set (j/32) (dg l (j/32)+2^(j%32)))=val l+2^j:=by
 have:=aep (l:=l) (dg l (j/32)+2^(j%32)) h;rw [H8 j];grind
theorem X7{a b:Nat}(h:¬(a%2=0/\b%2=0)):Nat.gcd a b%2=1:=by
 rcases Nat.mod_two_eq_zero_or_one (Nat.gcd a b) with h1 | h1
 ·exfalso
  have h2:2 ∣ Nat.gcd a b:=af;have h3:=Nat.mod_eq_zero_of_dvd (Nat.dvd_trans h2 (aiP a b));have h4:=Nat.mod_eq_zero_of_dvd (Nat.dvd_trans h2 (aiQ a b));omega
 ·exact h1
theorem Nq{a b:Nat}(h:Nat.gcd a b%2=1)(ha:a%2=0):Nat.gcd (a/2) b=Nat.gcd a b:=by
 have hb:b%2=1:=by
  rcases Nat.mod_two_eq_zero_or_one b with h1 | h1
  ·exfalso
   have:=Nat.mod_eq_zero_of_dvd (Nat.dvd_gcd (Nat.dvd_of_mod_eq_zero ha) (Nat.dvd_of_mod_eq_zero h1));omega
  ·exact h1
 have hc:Nat.Coprime 2 b:=by
  unfold Nat.Coprime;have h1:=Nat.gcd_rec 2 b
  simp_all
 have:=Nat.Coprime.gcd_mul_left_cancel (a/2) hc;grind
theorem gcd_both{a b:Nat}(ha:a%2=0)(hb:b%2=0):2*Nat.gcd (a/2) (b/2)=Nat.gcd a b:=by
 rw [<- Nat.gcd_mul_left,show 2*(a/2)=a from af,show 2*(b/2)=b by omega]
def Gt(G a0 T a b:Nat):Prop:=2^T*Nat.gcd a b=G/\2^T*a=a0/\0<a/\0<b
theorem Yg{a b:Nat}(ha:0<a)(hb:0<b):Gt (Nat.gcd a b) a 0 a b:=⟨by simp,by simp,ha,hb⟩
theorem Yh{G a0 T a b:Nat}(h:Gt G a0 T a b)(ha:a%2=0)(hb:b%2=0):Gt G a0 (T+1) (a/2) (b/2)/\a/2<a:=by
 obtain ⟨h1,h2,h3,h4⟩:=h;refine ⟨⟨?_,?_,af,af⟩,af⟩
 ·rw [ahL,ahA,gcd_both ha hb];exact h1
 ·rw [ahL,ahA,show 2*(a/2)=a by omega];exact h2
theorem Yf{G a0 T a b k:Nat}(h:Gt G a0 T a b)(hk:a0<4294967296^k):T<32*k:=by
 obtain ⟨_,h2,h3,_⟩:=h;have h1:2^T*1<=2^T*a:=ahz _ h3;have h4:(4294967296:Nat)^k=2^(32*k):=by rw [aiC]
 have h5:2^T<2^(32*k):=af;exact (Nat.pow_lt_pow_iff_right af).1 h5
def Gw(g a b:Nat):Prop:=Nat.gcd a b=g/\g%2=1/\0<b
theorem Yn{g a b:Nat}(h:Gw g a b)(ha:a%2=0):Gw g (a/2) b:=by
 obtain ⟨h1,h2,h3⟩:=h;exact ⟨by rw [Nq (by rw [h1];exact h2) ha,h1],h2,h3⟩
theorem Yo{g a b:Nat}(h:Gw g a b)(hb:b%2=0):Gw g a (b/2):=by
 obtain ⟨h1,h2,h3⟩:=h;exact ⟨by rw [ah6,Nq (by rw [ah6,h1];exact h2) hb,ah6,h1],h2,af⟩
theorem Nu{g a b:Nat}(h:Gw g a b)(hl:b<=a):Gw g (a-b) b:=⟨by rw [Nat.gcd_sub_self_left hl];exact h.1,h.2.1,h.2.2⟩
theorem Yp{g a b:Nat}(h:Gw g a b)(ha:0<a):Gw g b a:=⟨by rw [ah6];exact h.1,h.2.1,ha⟩
theorem Ym{g b:Nat}(h:Gw g 0 b):b=g:=by have:=h.1;rwa [Nat.gcd_zero_left] at this
theorem YK{ds ns:List Nat}{k d x y:Nat}(hv:2*lo ds k+dg ns 0%2=lo ns k+pw k*(dg ns k%2))(hx:x=dg ns k)(hy:y=dg ns (k+1))(hd:d=x/2+y%2*2147483648) :
  2*(lo ds k+pw k*d)+dg ns 0%2=lo ns (k+1)+pw (k+1)*(dg ns (k+1)%2):=by
 rw [bV,dS,<- hx,<- hy];rw [<- hx] at hv;have e:pw k*(2*d+x%2)=pw k*(x+4294967296*(y%2)):=by congr 1;omega
 grind
theorem YJ{ds ns:List Nat}{n:Nat}(hd:ds.length=n)(hn:ns.length=n)(hv:2*lo ds n+dg ns 0%2=lo ns n+pw n*(dg ns n%2)):val ds=val ns/2:=by
 rw [di af,di af,nP (l:=ns) (j:=n) af] at hv;omega
theorem Am{ns:List Nat} : dg ns 0%2=val ns%2:=by
 cases ns with
 | nil=>rfl
 | cons x l=>rw [jT,show dg (x::l) 0=x from rfl];omega
end Lw
namespace Lw
open Go Go.RowKit
theorem Z9{l:List Nat}(h:bF l):val l<2^mJ l:=by
 unfold mJ
 split
 ·rename_i h0;rw [ahB h0];simp [val]
 ·rename_i h0
  have h1:=bV l (l.length-1);rw [show l.length-1+1=l.length from af,di (ahj _)] at h1;have h2:=iE h (l.length-1);have h3:=dV h (l.length-1);generalize dg l (l.length-1)=d at *
  have h4:d<2^Lib.bitLen d:=by
   rcases ahE d with h0 | h0
   ·grind
   ·exact (bitLen_spec af af).2.2.1
  rw [ahV,show 2^((l.length-1)*32)=pw (l.length-1) by unfold pw;rw [ahu,aiC]];have h5:pw (l.length-1)*(d+1)<=pw (l.length-1)*2^Lib.bitLen d:=ahz _ h4;grind
theorem aan{l:List Nat}(h:bF l):mJ l<=32*l.length:=by
 unfold mJ
 split
 ·omega
 ·have:=VP (dV h (l.length-1));omega
theorem YH{x y:Nat}(_hx:x<4294967296)(hy:y<4294967296):bits .or .u64 ((x:Int)/2) ((y:Int)*2147483648)=((x/2+2147483648*y:Nat):Int):=by
 have h1:=u64_or_nat (x/2) (y*2147483648) af af;have h3:=AU (i:=31) (a:=y) (b:=x/2) (by simp only [Nat.reducePow];omega);grind
theorem ad4{ds ns ms:List Nat}{k b d R x y:Nat}(hk:k<ds.length)(hv:lo ds k+lo ms k=lo ns k+pw k*b)(hb:b<=1)(hx:x=dg ns k)(hy:y=dg ms k)(hn:x<4294967296)(hm:y<4294967296)(hd:d=4294967296+x-y-b)(hR:R=d%4294967296) :
  lo (ds.set k R) (k+1)+lo ms (k+1)=lo ns (k+1)+pw (k+1)*(1-d/4294967296)/\1-d/4294967296<=1:=by
 refine ⟨?_,af⟩;rw [kC _ hk,bV ms,bV ns,dS,<- hx,<- hy];have h5:R+y+b=x+4294967296*(1-d/4294967296):=af;generalize 1-d/4294967296=q at *;have h2:pw k*(R+y+b)=pw k*(x+4294967296*q):=by rw [h5]
 grind
end Lw
namespace Go.Proofs.AZQ
open Go Go.RowKit Lw
def EC(w:World)(N:Nat)(e:Ending)(w':World):Prop :=
 ∃ g n c,e = .returned (.slice (some ⟨g,0,none⟩) n c)/\Hid ((bg N).length=n)/\n<=c/\w.heap.size<=g/\bD w' g 82 (bg N)/\Below w.heap.size w w'
theorem Pn{w w':World}{N:Nat}{e:Ending}(h:sU w N e w'):EC w N e w':=by
 obtain ⟨g,c,h1,h2,h3,h4,h5⟩:=h;exact ⟨g,_,c,h1,Lib.hid rfl,h2,h3,h4,h5⟩
theorem Ci(A:Option Addr)(ns:List Nat)(n c B N:Nat)(w:World)(h:Rd w B A ns)(hB:B<=w.heap.size)(hn:ns.length=n)(hl:n<=4294967296)(hN:val ns=N) :
  Calls Tryz.prog 199 #[.slice A n c] w (EC w N):=by
 subst hN;exact (uM A ns n c B w h hB hn hl).mono fun e w' hh=>Pn hh
theorem VC(A:Option Addr)(ns:List Nat)(n c B k:Nat)(i:Int)(w:World)(h:Rd w B A ns)(hn:ns.length=n)(hl:n<=4294967296)(hi:i=(k:Int)) :
  Calls Tryz.prog 250 #[.slice A n c,.int .i64 i] w fun e w'=>e = .returned (.int .u64 (dg ns k:Int))/\w=w':=by
 subst hi;exact iy A ns n c B k w h hn hl
set_option maxHeartbeats 400000 in
theorem Ik(A:Option Addr)(ns:List Nat)(n c B:Nat)(w:World)(h:Rd w B A ns)(hn:ns.length=n)(hc:n<=c)(hl:n<=4294967296) :
  Calls Tryz.prog 249 #[.slice A n c] w fun e w'=>e = .returned (.slice A (bg (val ns)).length c)/\w=w':=by
 have Hn:=Lib.hid hn
 go_enter Tryz.func249,Tryz.ntmps249
 clear hn
 go_wp2
 go_loop [0] (fun v => ∃ k:Nat,k<=n/\v = .slice A k c/\Hid (val (ns.take k)=val ns)) (fun v=>cnt v)
 case atStart=>exact ⟨n,ahj _,rfl,Lib.hid (by rw [<- Hn.out,List.take_length])⟩
 case round =>
  obtain ⟨k,hk,rfl,hv⟩:=hrel
  by_cases hk0:k=0
  ·subst hk0
   go_wp2
   go_ret
   exact ⟨mW (uZ h.bI (ahl _) hv.out (.inl rfl)),rfl⟩
  ·obtain ⟨b,off,rfl,hb,hcell,hlt⟩:=h.at_ (k:=k-1) (by rw [Hn.out];omega)
   by_cases hd:dg ns (k-1)=0
   ·have HV:Hid (val (ns.take (k-1))=val ns):=Lib.hid (I4 (by rw [Hn.out];exact hk) hk0 hv.out hd)
    go_wp2
    go_round
    case rel=>exact ⟨k-1,af,rfl,HV⟩
    case measure=>simp [cnt];omega
   ·go_wp2
    go_ret
    exact ⟨mW (uZ h.bI (by rw [Hn.out];exact hk) hv.out (.inr hd)),rfl⟩
set_option maxRecDepth 100000 in
set_option maxHeartbeats 1600000 in
theorem YI(g:Nat)(ns:List Nat)(n c:Nat)(w:World)(hb:bD w g 82 ns)(hw:bF ns)(hn:ns.length=n)(hc:n<=c)(hl:n<=16777216) :
  Calls Tryz.prog 247 #[.slice (some ⟨g,0,none⟩) n c] w fun e w'=>e = .returned (.slice (some ⟨g,0,none⟩) (bg (val ns/2)).length c)/\(bg (val ns/2)).length<=n/\bD w' g 82 (bg (val ns/2))/\w.grownBy w' (some g)/\w'.heap.size=w.heap.size:=by
 have Hn:=Lib.hid hn;clear hn
 go_enter Tryz.func247,Tryz.ntmps247
 go_wp2_with fail
 go_loopw [6] (fun i wr => ∃ (k:Nat) (ds:List Nat),k<=n/\i = .int .i64 k/\bD wr g 82 ds/\Hid (ds.length=n)/\bF ds/\Hid (∀ j,k<=j->dg ds j=dg ns j)/\Hid (2*lo ds k+dg ns 0%2=lo ns k+pw k*(dg ns k%2))/\Hid (w.grownBy wr (some g)/\wr.heap.size=w.heap.size)) (fun i _=>n-(intOf i).toNat)
 case atStart=>exact ⟨0,ns,ahl _,rfl,hb,Hn,hw,Lib.hid (fun _ _=>rfl),Lib.hid (by simp only [fM,lG];omega),Lib.hid ⟨World.grownBy.refl w _,rfl⟩⟩
 case round =>
  obtain ⟨k,ds,hk,rfl,hb1,hdl,hdw,hsame,hv,hg⟩:=hrel;clear hb;have hr:=hb1.rd hdw
  by_cases hkn:k<n
  ·have hlt:=dV hdw k
   have hlt':=dV hdw (k+1);have hfr:=hb1.frozen k;have hcc:=hb1.cell (i:=k) (by rw [hdl.out];exact hkn);have nJ:=Lib.hid (fun v=>hb1.oN (i:=k) v (by rw [hdl.out];exact hkn));have kK:=fun D x y (e1:x=dg ds k) (e2:y=dg ds (k+1)) e3=>YK (d:=D) (x:=x) (y:=y) hv.out (by rw [e1,hsame.out k (ahj _)]) (by rw [e2,hsame.out (k+1) af]) e3;have Hx:=fun W hW=>iy (some ⟨g,0,none⟩) ds n c wr.heap.size k W hW hdl.out af;have Hy:=fun W hW=>VC (some ⟨g,0,none⟩) ds n c wr.heap.size (k+1) ((k:Int)+1) W hW hdl.out af af;obtain ⟨x,hx⟩ : ∃ x,x=dg ds k:=⟨_,rfl⟩;obtain ⟨y,hy⟩ : ∃ y,y=dg ds (k+1):=⟨_,rfl⟩;obtain ⟨D,hD⟩ : ∃ D,D=x/2+y%2*2147483648:=⟨_,rfl⟩;have HST:=Lib.hid (kK D x y hx hy hD);rw [<- hx] at hlt hcc Hx;rw [<- hy] at hlt' Hy;have HX:=Lib.hid Hx;have HY:=Lib.hid Hy;obtain ⟨O,ND⟩ : ∃ O,O=x/2+2147483648*y:=⟨_,rfl⟩;have hO:=YH hlt hlt';rw [<- ND] at hO;have hM:(O:Int)%4294967296=(D:Int):=af;have hDl:D<4294967296:=af;clear kK Hx Hy hx hy hD ND
   go_wp2_with fail
   refine (HX.out _ hr).mono ?_;rintro e w' ⟨rfl,rfl⟩
   go_wp2_with fail
   refine (HY.out _ hr).mono ?_;rintro e w' ⟨rfl,rfl⟩
   go_wp2_with fail
   go_roundw
   case rel =>
    refine ⟨k+1,ds.set k D,af,by go_num,nJ.out D,Lib.hid (by rw [ahv];exact hdl.out),iO hdw _ hDl,Lib.hid ?_,Lib.hid ?_,Lib.hid ⟨lY hg.out.1 _ _,by simp [hg.out.2]⟩⟩
    ·intro j hj
     rw [iJ _ (by rw [hdl.out];exact hkn),if_neg af];exact hsame.out j af
    ·rw [kC _ (by rw [hdl.out];exact hkn)];exact HST.out
   case measure=>simp [intOf];omega
  ·obtain rfl:k=n:=af
   have HV:Hid (val ds=val ns/2):=Lib.hid (YJ hdl.out Hn.out hv.out);have HB:=Lib.hid (hb1.bg hdw)
   go_wp2_with fail
   refine (Ik _ ds k c _ _ hr hdl.out hc af).mono ?_;rintro e w' ⟨rfl,rfl⟩;rw [HV.out]
   go_wp2_with fail
   go_ret
   exact ⟨rfl,by rw [<- HV.out];have:=kU hdw;rw [hdl.out] at this;exact this,by rw [<- HV.out];exact HB.out,hg.out.1,hg.out.2⟩
set_option maxRecDepth 100000 in
set_option maxHeartbeats 1600000 in
theorem take_any(g:Nat)(ns ms:List Nat)(n m c c' B:Nat)(A':Option Addr)(w:World)(hb:bD w g 82 ns)(hw:bF ns)(h':Rd w B A' ms)(hB:B<=w.heap.size)(hne:0<m -> ∀ a,A'=some a->a.block≠g)(hn:ns.length=n)(hm:ms.length=m)(hmn:m<=n)(hl:n<=16777216)(hle:val ms<=val ns) :
  Calls Tryz.prog 248 #[.slice (some ⟨g,0,none⟩) n c,.slice A' m c'] w fun e w' => ∃ ds,e = .returned (.tuple #[])/\bD w' g 82 ds/\bF ds/\ds.length=n/\val ds=val ns-val ms/\w.grownBy w' (some g)/\w'.heap.size=w.heap.size:=by
 have Hn:=Lib.hid hn;have Hm:=Lib.hid hm;have jb:=Lib.hid hle;have UE:=Lib.hid hne;clear hn hm hle hne
 go_enter Tryz.func248,Tryz.ntmps248
 go_wp2_with fail
 go_loopw [4,9] (fun bv i wr => ∃ (k b:Nat) (ds:List Nat),k<=n/\b<=1/\i = .int .i64 k/\bv = .int .u64 b/\bD wr g 82 ds/\Hid (ds.length=n)/\bF ds/\Hid (∀ j,k<=j->dg ds j=dg ns j)/\Hid (lo ds k+lo ms k=lo ns k+pw k*b)/\Hid (w.grownBy wr (some g)/\wr.heap.size=w.heap.size)) (fun _ i _=>n-(intOf i).toNat)
 case atStart=>exact ⟨0,0,ns,ahl _,af,rfl,rfl,hb,Hn,hw,Lib.hid (fun _ _=>rfl),Lib.hid (by rw [fM,fM];rfl),Lib.hid ⟨World.grownBy.refl w _,rfl⟩⟩
 case round =>
  obtain ⟨k,b,ds,hk,hcar,rfl,rfl,hb1,hdl,hdw,hsame,hv,hg⟩:=hrel;clear hb;have hr:=hb1.rd hdw;have hr':=h'.grown hg.out.1 hB (fun hp=>UE.out (by rw [<- Hm.out];exact hp))
  by_cases hkn:k<n
  ·have hlt:=dV hdw k
   have hlt':=dV hr'.bI k;have hfr:=hb1.frozen k;have hcc:=hb1.cell (i:=k) (by rw [hdl.out];exact hkn);have nJ:=Lib.hid (fun v=>hb1.oN (i:=k) v (by rw [hdl.out];exact hkn));have kK:=fun D R x y (e1:x=dg ds k) e2 e3 e4 e5 e6=>ad4 (d:=D) (R:=R) (x:=x) (y:=y) (by rw [hdl.out];exact hkn) hv.out hcar (by rw [e1,hsame.out k (ahj _)]) e2 e3 e4 e5 e6;have Hx:=fun W hW=>iy (some ⟨g,0,none⟩) ds n c wr.heap.size k W hW hdl.out af;have Hy:=fun W (hW:Rd W B A' ms)=>iy A' ms m c' B k W hW Hm.out af;obtain ⟨x,hx⟩ : ∃ x,x=dg ds k:=⟨_,rfl⟩;obtain ⟨y,hy⟩ : ∃ y,y=dg ms k:=⟨_,rfl⟩;rw [<- hx] at hlt hcc Hx;rw [<- hy] at hlt' Hy;obtain ⟨D,hD⟩ : ∃ D,D=4294967296+x-y-b:=⟨_,rfl⟩;obtain ⟨R,hR⟩ : ∃ R,R=D%4294967296:=⟨_,rfl⟩;have HST:=Lib.hid (kK D R x y hx hy hlt hlt' hD hR);have HX:=Lib.hid Hx;have HY:=Lib.hid Hy;have hDl:D<=8589934591:=af;have hRl:R<4294967296:=af;have hD1:((4294967296:Int)+(x:Int)-(y:Int)-(b:Int))=(D:Int):=af;have hR1:(D:Int)%4294967296=(R:Int):=af;clear kK Hx Hy hx hy hD hR
   go_wp2_with fail
   refine (HX.out _ hr).mono ?_;rintro e w' ⟨rfl,rfl⟩
   go_wp2_with fail
   refine (HY.out _ hr').mono ?_;rintro e w' ⟨rfl,rfl⟩
   go_wp2_with fail
   go_roundw
   case rel =>
    refine ⟨k+1,1-D/4294967296,ds.set k R,af,af,by go_num,by go_num,nJ.out R,Lib.hid (by rw [ahv];exact hdl.out),iO hdw _ hRl,Lib.hid ?_,Lib.hid HST.out.1,Lib.hid ⟨lY hg.out.1 _ _,by simp [hg.out.2]⟩⟩;intro j hj;rw [iJ _ (by rw [hdl.out];exact hkn),if_neg af];exact hsame.out j af
   case measure=>simp [intOf];omega
  ·obtain rfl:k=n:=af
   have HV:Hid (val ds=val ns-val ms):=Lib.hid (PO hdw (by rw [hdl.out,Hn.out]) (by rw [Hm.out,Hn.out];exact hmn) jb.out (by have:=hv.out;rw [Hn.out];rwa [di (l:=ds) (by rw [hdl.out];exact ahj _)] at this))
   go_wp2_with fail
   refine bodyPost_end (v := .tuple #[]) (by simp [results,Tryz.results248,go_sem]) rfl ?_;exact ⟨ds,rfl,hb1,hdw,hdl.out,HV.out,hg.out.1,hg.out.2⟩
end Go.Proofs.AZQ
namespace Lw
open Go Go.RowKit
theorem WV{ds rs:List Nat}{k c b x R C:Nat}(hk:k<ds.length)(hv:lo ds k+pw k*c=2*lo rs k+b)(hx:x=dg rs k)(hR:R=2*x%4294967296+c)(hC:C=x/2147483648) :
  lo (ds.set k R) (k+1)+pw (k+1)*C=2*lo rs (k+1)+b:=by
 rw [kC _ hk,bV rs,dS,<- hx];have h5:R+4294967296*C=2*x+c:=af;have h2:pw k*(R+4294967296*C)=pw k*(2*x+c):=by rw [h5]
 grind
theorem WU{ds rs:List Nat}{m c b Y:Nat}(hd:ds.length=m+1)(hr:rs.length=m+1)(hv:lo ds (m+1)+pw (m+1)*c=2*lo rs (m+1)+b)(hb:b<=1)(hY:Y<pw m)(hl:val rs<Y):val ds=2*val rs+b:=by
 rw [di af,di af] at hv;rw [dS] at hv;rcases ahE c with h0 | h0
 ·grind
 ·have:4294967296*pw m*1<=4294967296*pw m*c:=ahz _ h0
  omega
theorem VQ{x t:Nat} : x/2^t%2<=1:=af
theorem wE{x:Nat}(h:x<4294967296):bits .and .u32 (x:Int) 1=((x%2:Nat):Int):=by
 have:=u32_and_nat x 1 h af;grind
theorem P9{i a b:Nat}(h:b<2^i)(h2:a*2^i<4294967296)(hi:b<4294967296):bits .or .u32 ((a*2^i:Nat):Int) (b:Int)=((a*2^i+b:Nat):Int):=by
 have:=u32_or_nat (a*2^i) b h2 hi;rw [AU h] at this;exact this
end Lw
namespace Go.Proofs.AZQ
open Go Go.RowKit Lw
set_option maxRecDepth 100000 in
set_option maxHeartbeats 6400000 in
theorem abW(A A':Option Addr)(ns ms:List Nat)(n m c c' B B':Nat)(w:World)(h:Rd w B A ns)(h':Rd w B' A' ms)(hB:B<=w.heap.size)(hB':B'<=w.heap.size)(hn:ns.length=n)(hm:ms.length=m)(hl:n<=100000)(hl':m<=100000)(hy:0<val ms) :
  Calls Tryz.prog 235 #[.slice A n c,.slice A' m c'] w fun e w' => ∃ g1 n1 c1 g2 n2 c2,e = .returned (.tuple #[.slice (some ⟨g1,0,none⟩) n1 c1,.slice (some ⟨g2,0,none⟩) n2 c2])/\Hid ((bg (val ns/val ms)).length=n1)/\Hid ((bg (val ns%val ms)).length=n2)/\n1<=c1/\n2<=c2/\w.heap.size<=g1/\w.heap.size<=g2/\bD w' g1 82 (bg (val ns/val ms))/\bD w' g2 82 (bg (val ns%val ms))/\Below w.heap.size w w':=by
 have Hn:=Lib.hid hn;have Hm:=Lib.hid hm;have HY:=Lib.hid hy;have UO:Hid (val ms<pw m):=Lib.hid (by rw [<- hm];exact dQ h'.bI);obtain ⟨NB,zK⟩ : ∃ NB,NB=mJ ns:=⟨_,rfl⟩;have ae1:NB<=32*n:=by rw [zK,<- hn];exact aan h.bI
 have HX:Hid (val ns<2^NB):=Lib.hid (by rw [zK];exact Z9 h.bI);have UD:=Lib.hid zK;clear hn hm hy zK
 go_enter Tryz.func235,Tryz.ntmps235
 go_wp2_with (first
  | (at_make;refine qE _ rfl _ _ _ rfl 82 agv jI _ _ _ _ n rfl rfl af af af ?_;intro w1 hblk hbel hsz)
  | (at_make;refine qE _ rfl _ _ _ rfl 82 agv jI _ _ _ _ (m+1) rfl rfl af af af ?_;intro w2 hblk2 FU hsz2))
 have hb2:=bQ hbel FU (ahj _);have hq2:=hblk.below FU hblk.lt;rw [hsz] at hblk2;clear hblk hbel FU hsz hsz2;refine (abU A ns n c B _ (h.below (hb2.mono hB)) Hn.out af).mono ?_;rintro e w' ⟨rfl,rfl⟩;rw [<- UD.out]
 go_wp2_with fail
 go_loopw [8] (fun iv wr => ∃ (i:Int) (qs rs:List Nat),-1<=i/\i<NB/\iv = .int .i64 i/\bD wr w.heap.size 82 qs/\Hid (qs.length=n)/\bF qs/\bD wr (w.heap.size+1) 82 rs/\Hid (rs.length=m+1)/\bF rs/\Hid (Dv (val ns) (val ms) (i+1).toNat (val qs) (val rs))/\Below w.heap.size w wr) (fun v _=>(intOf v+1).toNat)
 case atStart=>exact ⟨(NB:Int)-1,_,_,af,af,rfl,hq2,Lib.hid (by simp),qB _,hblk2,Lib.hid (by simp),qB _,Lib.hid (by rw [Jh,Jh,show ((NB:Int)-1+1).toNat=NB by omega];exact Xw HY.out HX.out),hb2⟩
 case round =>
  obtain ⟨i,qs,rs,hi,hiN,rfl,hq,gB,nZ,hr,hrl,hrw,hdv,hbw⟩:=hrel;clear hq2 hblk2 hb2;have afp:=hr.lt
  by_cases hi0:i<0
  ·have HV:Hid (val qs=val ns/val ms/\val rs=val ns%val ms):=Lib.hid (Xv (by have:=hdv.out;rwa [show (i+1).toNat=0 by omega] at this))
   clear hdv
   go_wp2_with fail
   refine (Ci _ qs n n _ (val ns/val ms) _ (hq.rd nZ) (ahj _) gB.out af HV.out.1).mono ?_;rintro e w3 ⟨g1,n1,c1,rfl,hn1,hc1,hg1,hblk1,hb3⟩;have hr3:=hr.below hb3 hr.lt;have hb4:=bQ hbw hb3 (ahj _);clear hq hr hb3
   go_wp2_with fail
   refine (Ci _ rs (m+1) (m+1) _ (val ns%val ms) _ (hr3.rd hrw) (ahj _) hrl.out af HV.out.2).mono ?_;rintro e w4 ⟨g2,n2,c2,rfl,hn2,hc2,hg2,hblk2,hb5⟩;have YP:=hblk1.below hb5 hblk1.lt;have hb6:=bQ hb4 hb5 (ahj _);have hg1':w.heap.size<=g1:=ahk hbw.size hg1;have xk:w.heap.size<=g2:=ahk hb4.size hg2;clear hblk1 hr3
   go_wp2_with fail
   go_ret2
   exact ⟨g1,n1,c1,g2,n2,c2,rfl,hn1,hn2,hc1,hc2,hg1',xk,YP,hblk2,hb6⟩
  ·obtain ⟨j,rfl⟩:=aif (show 0<=i from af)
   have yJ:Hid (Dv (val ns) (val ms) (j+1) (val qs) (val rs)):=Lib.hid (by have:=hdv.out;rwa [show ((j:Int)+1).toNat=j+1 by omega] at this);clear hdv;have hra:=h.below (hbw.mono hB);have hrb:=h'.below (hbw.mono hB');obtain ⟨b,off,rfl,hb,hcell,hlt⟩:=hra.at_ (k:=j/32) (by rw [Hn.out];omega);have hbit:=VS h.bI j;have D8:Hid (∃ e,dg qs (j/32)=e*2^(j%32+1)/\dg qs (j/32)+2^(j%32)<4294967296):=Lib.hid (by obtain ⟨_,q',e,_⟩:=yJ.out;exact VT nZ e);have Es:=Lib.hid (fun (hh:j/32<qs.length)=>aen hh);have hKn:j/32<n:=af;obtain ⟨K,hK⟩ : ∃ K,K=j/32:=⟨_,rfl⟩;obtain ⟨t,ht⟩ : ∃ t,t=j%32:=⟨_,rfl⟩;have e1:(j:Int)/32=(K:Int):=af;have e2:(j:Int)%32=(t:Int):=af;rw [<- hK] at hcell hlt hbit Es hKn;rw [<- hK] at D8;rw [<- ht] at hbit Es D8;obtain ⟨x,hx⟩ : ∃ x,x=dg ns K:=⟨_,rfl⟩;rw [<- hx] at hcell hlt hbit;obtain ⟨bt,hbt⟩ : ∃ bt,bt=x/2^t%2:=⟨_,rfl⟩;have NR:bt<=1:=by rw [hbt];exact VQ
   have Us:Hid (bt=val ns/2^j%2):=Lib.hid (by rw [hbt];exact hbit)
   have hA1:bits .and .u32 ((x:Int)/2^t) 1=(bt:Int):=by
    rw [show (x:Int)/2^t=((x/2^t:Nat):Int) by simp,wE (ahO (ah0 _ _) hlt),hbt]
   clear hbit hbt hx hK ht
   go_wp2_with fail
   go_loopw [9,36] (fun cv kv wi => ∃ (k ca:Nat) (ds:List Nat),k<=m+1/\ca<=1/\kv = .int .i64 k/\cv = .int .u32 ca/\bD wi (w.heap.size+1) 82 ds/\Hid (ds.length=m+1)/\bF ds/\Hid (∀ i,k<=i->dg ds i=dg rs i)/\Hid (lo ds k+pw k*ca=2*lo rs k+bt)/\Hid (wr.grownBy wi (some (w.heap.size+1))/\wi.heap.size=wr.heap.size)) (fun _ k _=>m+1-(intOf k).toNat)
   case atStart=>exact ⟨0,bt,rs,af,NR,rfl,rfl,hr,hrl,hrw,Lib.hid (fun _ _=>rfl),Lib.hid (by simp only [fM,lG];omega),Lib.hid ⟨World.grownBy.refl wr _,rfl⟩⟩
   case round =>
    obtain ⟨k,ca,ds,hk,hca,rfl,rfl,hd,hdl,hdw,hsame,hval,hg⟩:=hrel;clear hr;have OI:=hg.out.2
    by_cases hkm:k<m+1
    ·have hlt2:=dV hdw k
     have hfr:=hd.frozen k;have hcc:=hd.cell (i:=k) (by rw [hdl.out];exact hkm);have nJ:=Lib.hid (fun v=>hd.oN (i:=k) v (by rw [hdl.out];exact hkm));have kK:=fun R C y (e1:y=dg ds k) e2 e3=>WV (R:=R) (C:=C) (x:=y) (by rw [hdl.out];exact hkm) hval.out (by rw [e1,hsame.out k (ahj _)]) e2 e3;obtain ⟨y,hy⟩ : ∃ y,y=dg ds k:=⟨_,rfl⟩;obtain ⟨R,hR⟩ : ∃ R,R=2*y%4294967296+ca:=⟨_,rfl⟩;obtain ⟨C,hC⟩ : ∃ C,C=y/2147483648:=⟨_,rfl⟩;have HST:=Lib.hid (kK R C y hy hR hC);rw [<- hy] at hlt2 hcc;have hRl:R<4294967296:=af;have FC:C<=1:=af;have hCi:(y:Int)/2147483648=(C:Int):=af
     have hO:bits .or .u32 ((y:Int)*2%4294967296) (ca:Int)=(R:Int):=by
      have h1:=P9 (i:=1) (a:=y%2147483648) (b:=ca) af af af;rw [show ((y%2147483648*2^1:Nat):Int)=(y:Int)*2%4294967296 by omega] at h1;rw [h1];omega
     clear kK hy hR hC
     go_wp2_with fail
     have hO2:bits .or .u32 (IntKind.u32.wrap ((y:Int)*2)) (ca:Int)=(R:Int):=by rw [IntKind.wrap_u32];exact hO
     go_region
     go_wp2_with fail
     go_roundw
     case rel =>
      refine ⟨k+1,C,ds.set k R,af,FC,by go_num,by go_num,nJ.out R,Lib.hid (by rw [ahv];exact hdl.out),iO hdw _ hRl,Lib.hid ?_,HST,Lib.hid ⟨lY (grown_drewN hg.out.1 _) _ _,by simp [hg.out.2]⟩⟩;intro i hi;rw [iJ _ (by rw [hdl.out];exact hkm),if_neg af];exact hsame.out i af
     case measure=>simp [intOf];omega
    ·obtain rfl:k=m+1:=af
     have HRR:Hid (val ds=2*val rs+val ns/2^j%2):=Lib.hid (by rw [<- Us.out];exact WU hdl.out hrl.out hval.out NR UO.out yJ.out.1);have hdr:=hd.rd hdw
     have Gm:=hrb.grown hg.out.1 (ahk hB' hbw.size) (fun hp a ha=>by
      obtain ⟨b',off',hA',hb',_⟩:=h'.2 hp;rw [ha] at hA';injection hA' with e;subst e;exact Nat.ne_of_lt (ahr hb' (ahk hB' (aiH _))))
     have hq2:=hq.of_same (hg.out.1.block w.heap.size hq.lt (by intro e;injection e with e;omega));have hbw2:=below_of_grown hbw hg.out.1 hbw.size (aiH _);clear hq hval hsame hg
     by_cases hlt3:val ds<val ms
     ·have HC:=Lib.hid (tq hlt3)
      have Uu:=Lib.hid (Xu yJ.out HRR.out hlt3);clear hlt3
      go_wp2_with fail
      refine (yf _ A' ds ms (m+1) m (m+1) c' _ _ _ hdr Gm hdl.out Hm.out af af).mono ?_;rintro e w' ⟨rfl,rfl⟩;rw [HC.out]
      go_wp2_with fail
      go_roundw
      case rel=>exact ⟨(j:Int)-1,qs,ds,af,af,by go_num,hq2,gB,nZ,hd,hdl,hdw,Lib.hid (by rw [show ((j:Int)-1+1).toNat=j by omega];exact Uu.out),hbw2⟩
      case measure=>simp [intOf]
     ·obtain ⟨cv,HC,hcv⟩ : ∃ cv:Int,Hid (iQ (val ds) (val ms)=cv)/\0<=cv:=by
       rcases ahs (val ms) (val ds) with h1 | h1
       ·exact ⟨1,Lib.hid (wG h1),af⟩
       ·exact ⟨0,Lib.hid (yY af),af⟩
      have jb:Hid (val ms<=val ds):=Lib.hid af;have JW:=Lib.hid (Xx yJ.out HRR.out jb.out);clear hlt3
      go_wp2_with fail
      refine (yf _ A' ds ms (m+1) m (m+1) c' _ _ _ hdr Gm hdl.out Hm.out af af).mono ?_;rintro e w' ⟨rfl,rfl⟩;rw [HC.out]
      go_wp2_with fail
      refine (take_any (w.heap.size+1) ds ms (m+1) m (m+1) c' B' A' _ hd hdw Gm af (fun hp a ha=>by
       obtain ⟨b',off',hA',hb',_⟩:=h'.2 (by rw [Hm.out];exact hp);rw [ha] at hA';injection hA' with e;subst e;exact Nat.ne_of_lt (ahr hb' (ahk hB' (aiH _)))) hdl.out Hm.out af af jb.out).mono ?_
      rintro e w5 ⟨rs',rfl,hd5,hw5,hl5,hv5,hg5,hs5⟩;have hq5:=hq2.of_same (hg5.block w.heap.size hq2.lt (by intro e;injection e with e;omega));have YS:=below_of_grown hbw2 hg5 hbw2.size (aiH _);rw [<- hv5] at JW;have UA:=Lib.hid hl5;have hcq:=hq5.cell (i:=K) (by rw [gB.out];exact hKn);have hfq:=hq5.frozen K;have UK:=Lib.hid (fun v=>hq5.oN (i:=K) v (by rw [gB.out];exact hKn));have yN:=Lib.hid (Es.out (by rw [gB.out];exact hKn));have hbs:=D8.out;obtain ⟨v,hv⟩ : ∃ v,v=dg qs K:=⟨_,rfl⟩;rw [<- hv] at hcq yN hbs;obtain ⟨P,hP⟩ : ∃ P,P=2^t:=⟨_,rfl⟩;obtain ⟨ev,he1,he2⟩:=hbs;rw [<- hP] at yN he2;have hP2:(2:Int)^t=(P:Int):=by rw [hP];simp
      have hO3:bits .or .u32 (v:Int) (P:Int)=((v+P:Nat):Int):=by
       rw [he1];exact P9 (by rw [hP];exact Nat.pow_lt_pow_right af af) (by rw [<- he1];omega) af
      have hPw:IntKind.u32.wrap (P:Int)=(P:Int):=IntWalk.u32_in _ af;obtain ⟨V,hV⟩ : ∃ V,V=v+P:=⟨_,rfl⟩;rw [<- hV] at hO3 yN;have YE:V<4294967296:=af;clear hq2 hd hv hP he1 he2 hV hv5 hl5 hg5 hs5
      go_wp2_with fail
      go_region
      go_wp2_with fail
      go_roundw
      case rel =>
       refine ⟨(j:Int)-1,qs.set K V,rs',af,af,by go_num,UK.out V,Lib.hid (by rw [ahv];exact gB.out),iO nZ _ YE,hd5.far (by simp) _,UA,hw5,Lib.hid ?_,(YS.setCell (ahj _) _).drew⟩;rw [show ((j:Int)-1+1).toNat=j from af,yN.out];exact JW.out
      case measure=>simp [intOf]
end Go.Proofs.AZQ
namespace Lw
open Go Go.RowKit
theorem L6{a b:Nat}(h:b<=a):(bg b).length<=(bg a).length:=gQ (ahO h (mG (ahj _)))
end Lw
namespace Go.Proofs.AZQ
open Go Go.RowKit Lw
def U9(w:World)(N:Nat)(e:Ending)(w':World):Prop :=
 ∃ A n c,e = .returned (.slice A n c)/\Hid ((bg N).length=n)/\n<=c/\Rd w' w'.heap.size A (bg N)/\Below w.heap.size w w'
theorem zN(g M n c:Nat)(w:World)(hb:bD w g 82 (bg M))(hn:(bg M).length=n)(hc:n<=c)(hl:n<=16777216) :
  Calls Tryz.prog 247 #[.slice (some ⟨g,0,none⟩) n c] w fun e w' => ∃ n',e = .returned (.slice (some ⟨g,0,none⟩) n' c)/\Hid ((bg (M/2)).length=n')/\n'<=n/\bD w' g 82 (bg (M/2))/\w.grownBy w' (some g)/\w'.heap.size=w.heap.size:=by
 refine (YI g (bg M) n c w hb (dD _) hn hc hl).mono fun e w' hh => ?_;rw [bG] at hh;obtain ⟨h1,h2,h3,h4,h5⟩:=hh;exact ⟨_,h1,Lib.hid rfl,h2,h3,h4,h5⟩
theorem ab4(A A':Option Addr)(X Y:Nat)(n m c c':Nat)(B B':Nat){w:World}(h:Rd w B A (bg X))(h':Rd w B' A' (bg Y))(hB:B<=w.heap.size)(hB':B'<=w.heap.size)(hn:(bg X).length=n)(hm:(bg Y).length=m)(hl:n<=16777216)(hl':m<=16777216)(Z:Nat)(hZ:X+Y=Z) :
  Calls Tryz.prog 203 #[.slice A n c,.slice A' m c'] w (EC w Z):=by
 subst hZ;refine (QZ A A' (bg X) (bg Y) n m c c' B B' w h h' hB hB' hn hm hl hl').mono fun e w' hh => ?_;rw [bG,bG] at hh;exact Pn hh
set_option maxRecDepth 100000 in
set_option maxHeartbeats 12800000 in
theorem abX(A A':Option Addr)(ns ms:List Nat)(n m c c' B B':Nat)(w:World)(h:Rd w B A ns)(h':Rd w B' A' ms)(hB:B<=w.heap.size)(hB':B'<=w.heap.size)(hn:ns.length=n)(hm:ms.length=m)(hl:n<=100000)(hl':m<=100000) :
  Calls Tryz.prog 202 #[.slice A n c,.slice A' m c'] w (U9 w (Nat.gcd (val ns) (val ms))):=by
 have Kq:Hid (val ns<pw n):=Lib.hid (by rw [<- hn];exact dQ h.bI);have JZ:Hid ((bg (val ns)).length<=n):=Lib.hid (by rw [<- hn];exact kU h.bI);have J3:Hid ((bg (val ms)).length<=m):=Lib.hid (by rw [<- hm];exact kU h'.bI);have ht1:=Ci A ns n c B (val ns) w h hB hn af rfl;have ht2:=fun W (hb:Below w.heap.size w W)=>Ci A' ms m c' B' (val ms) W (h'.next hb hB') (ahk hB' hb.size) hm af rfl;generalize val ns=X at *;generalize val ms=Y at *;have HT1:=Lib.hid ht1;have HT2:=Lib.hid ht2;clear ht1 ht2 h h' hB hB' hn hm
 go_enter Tryz.func202,Tryz.ntmps202
 go_wp2_with fail
 refine HT1.out.mono ?_;rintro e w1 ⟨g1,n1,c1,rfl,hl1,hc1,hg1,hb1,pq⟩
 go_wp2_with fail
 refine (HT2.out _ pq).mono ?_;rintro e w2 ⟨g2,n2,c2,rfl,hl2,hc2,hg2,hb2,hbw2⟩;have hb1':=hb1.below hbw2 hb1.lt;have F5:g1≠g2:=by have:=hb1.lt;omega
 have hbw:=bQ pq hbw2 (ahj _);have xk:w.heap.size<=g2:=ahk pq.size hg2;have hn1:n1<=100000:=by rw [<- hl1.out];exact ahk JZ.out hl
 have hn2:n2<=100000:=by rw [<- hl2.out];exact ahk J3.out hl'
 clear hb1 pq hbw2 hg2 HT1 HT2 JZ J3
 by_cases h10:n1=0
 ·have HX0:Hid (Nat.gcd X Y=Y):=Lib.hid (by rw [(ig.1 (ahB (by rw [hl1.out];exact h10)):X=0),Nat.gcd_zero_left])
  subst h10
  go_wp2_with fail
  go_ret
  rw [HX0.out];exact ⟨_,n2,c2,rfl,hl2,hc2,hb2.rd (dD _),hbw⟩
 by_cases h20:n2=0
 ·have Et:Hid (Nat.gcd X Y=X):=Lib.hid (by rw [(ig.1 (ahB (by rw [hl2.out];exact h20)):Y=0),aja])
  have hq1:((n1:Int)==0)=false:=by rw [beq_eq_false_iff_ne];omega
  subst h20;clear h10
  go_wp2_with fail
  go_ret
  rw [Et.out];exact ⟨_,n1,c1,rfl,hl1,hc1,hb1'.rd (dD _),hbw⟩
 have HX0:Hid (0<X):=Lib.hid (aii (fun e=>h10 (by rw [<- hl1.out,e];rfl)));have Et:Hid (0<Y):=Lib.hid (aii (fun e=>h20 (by rw [<- hl2.out,e];rfl)));have hq1:((n1:Int)==0)=false:=by rw [beq_eq_false_iff_ne];omega
 have hq2:((n2:Int)==0)=false:=by rw [beq_eq_false_iff_ne];omega
 clear h10 h20
 go_wp2_with fail
 go_loopg [0,1,5] X (fun M av bv tv wq => ∃ (N T na nb:Nat),av = .slice (some ⟨g1,0,none⟩) na c1/\bv = .slice (some ⟨g2,0,none⟩) nb c2/\tv = .int .i64 T/\Hid ((bg M).length=na)/\Hid ((bg N).length=nb)/\na<=n1/\nb<=n2/\bD wq g1 82 (bg M)/\bD wq g2 82 (bg N)/\Hid (Gt (Nat.gcd X Y) X T M N)/\Below w.heap.size w wq)
 case atStart=>exact ⟨Y,0,n1,n2,rfl,rfl,rfl,hl1,hl2,ahj _,ahj _,hb1',hb2,Lib.hid (Yg HX0.out Et.out),hbw⟩
 case round =>
  obtain ⟨N1,T,na,nb,rfl,rfl,rfl,hla,hlb,hna,hnb,hba,hbb,hgt,qX⟩:=hrel;generalize gk=M1 at *;clear hb1' hb2 hbw hl1 hl2;have hTl:T<=3200000:=by have:=Yf hgt.out Kq.out;omega
  have Og:0<na:=by rw [<- hla.out];exact aii (fun e=>by have h9:=ig.1 (ahB e);have:=hgt.out.2.2.1;omega)
  have Zg:0<nb:=by rw [<- hlb.out];exact aii (fun e=>by have h9:=ig.1 (ahB e);have:=hgt.out.2.2.2;omega)
  have hcc:=hba.cell (i:=0) (by rw [hla.out];exact Og);have hcd:=hbb.cell (i:=0) (by rw [hlb.out];exact Zg);have hxl:=dV (dD M1) 0;have hyl:=dV (dD N1) 0;have hxb:=Am (ns:=bg M1);have hyb:=Am (ns:=bg N1);rw [bG] at hxb hyb;obtain ⟨x,hx⟩ : ∃ x,x=dg (bg M1) 0:=⟨_,rfl⟩;obtain ⟨y,hy⟩ : ∃ y,y=dg (bg N1) 0:=⟨_,rfl⟩;rw [<- hx] at hcc hxl hxb;rw [<- hy] at hcd hyl hyb;have hA1:=wE hxl;have hA2:=wE hyl;rw [hxb] at hA1;rw [hyb] at hA2;clear hx hy hxb hyb hxl hyl
  by_cases hev:M1%2=0/\N1%2=0
  ·have HST:=Lib.hid (Yh hgt.out hev.1 hev.2)
   have hA3:bits .and .u32 (x:Int) 1=0:=by rw [hA1,hev.1];rfl
   have hA4:bits .and .u32 (y:Int) 1=0:=by rw [hA2,hev.2];rfl
   clear hA1 hA2 hev
   go_wp2_with fail
   refine (zN g1 M1 na c1 _ hba hla.out af af).mono ?_;rintro e w6 ⟨n6,rfl,xm,Oe,hb6,gy,hs6⟩;have zO:=hbb.of_same (gy.block g2 hbb.lt (by intro e;injection e with e;exact F5 e.symm));have nT:=below_of_grown qX gy qX.size hg1;clear hba hbb gy hcc hcd
   go_wp2_with fail
   refine (zN g2 N1 nb c2 _ zO hlb.out af af).mono ?_;rintro e w7 ⟨n7,rfl,nY,hn7,hb7,kY,hs7⟩;have YO:=hb6.of_same (kY.block g1 hb6.lt (by intro e;injection e with e;exact F5 e));have xe:=below_of_grown nT kY nT.size xk;clear hb6 zO kY
   go_wp2_with fail
   go_roundg (M1/2)
   case measure=>exact HST.out.2
   case rel=>exact ⟨N1/2,T+1,n6,n7,rfl,rfl,by go_num,xm,nY,af,af,YO,hb7,Lib.hid HST.out.1,xe⟩
  ·obtain ⟨d,hd⟩ : ∃ d,d=Nat.gcd M1 N1:=⟨_,rfl⟩
   have Uw:Hid (Gw d M1 N1):=Lib.hid ⟨hd.symm,by rw [hd];exact X7 hev,hgt.out.2.2.2⟩;have Ej:Hid (2^T*d=Nat.gcd X Y):=Lib.hid (by rw [hd];exact hgt.out.1)
   have UG:Hid (∀ k,k<=T->(bg (2^k*d)).length<=100000):=Lib.hid (fun k hk=>by
    have h1:2^k*d<=2^T*d:=ahp _ (aiz af hk);rw [Ej.out] at h1;exact ahk (gQ (ahO (ahk h1 (ai1 Y HX0.out)) Kq.out)) hl)
   have hl1:=hla;have hl2:=hlb;have hc1':na<=c1:=af;have hc2':nb<=c2:=af;have hn1':na<=100000:=af;have Zc:nb<=100000:=af;have hb1:=hba;have hb2:=hbb;have hbw:=qX;have hg2:=xk;clear hd hgt hla hlb hba hbb qX hna hnb xk hc1 hc2 hn1 hn2
   by_cases hodd:M1%2=0
   case' pos =>
    have hA3:bits .and .u32 (x:Int) 1=0:=by rw [hA1,hodd];rfl
    have hA4:bits .and .u32 (y:Int) 1=1:=by rw [hA2,show N1%2=1 by omega];rfl
    clear hA1 hA2 hev hodd
    go_wp2_with fail
   case' neg =>
    have hA3:bits .and .u32 (x:Int) 1=1:=by rw [hA1,show M1%2=1 by omega];rfl
    clear hA1 hA2 hev hodd
    go_wp2_with fail
   all_goals
    go_loopg [0,1] (M1+N1) (fun Sm av bv wq => ∃ (M N ga gb na nb ca cb:Nat),Sm=M+N/\av = .slice (some ⟨ga,0,none⟩) na ca/\bv = .slice (some ⟨gb,0,none⟩) nb cb/\Hid ((bg M).length=na)/\Hid ((bg N).length=nb)/\na<=ca/\nb<=cb/\na<=100000/\nb<=100000/\bD wq ga 82 (bg M)/\bD wq gb 82 (bg N)/\ga≠gb/\w.heap.size<=ga/\w.heap.size<=gb/\Hid (Gw d M N)/\Below w.heap.size w wq)
    case atStart=>exact ⟨M1,N1,g1,g2,na,nb,c1,c2,rfl,rfl,rfl,hl1,hl2,hc1',hc2',hn1',Zc,hb1,hb2,F5,hg1,hg2,Uw,hbw⟩
    case round =>
     obtain ⟨M,N,ga,gb,na,nb,ca,cb,hS,rfl,rfl,hla,hlb,hca,hcb,hna,hnb,hba,hbb,pz,hga,hgb,hgw,hbw⟩:=hrel;have HS:=Lib.hid hS;clear hS hb1 hb2
     by_cases h0:na=0
     ·have J4:Hid (N=d):=Lib.hid (Ym (by have e0:M=0:=ig.1 (ahB (by rw [hla.out];exact h0));have h9:=hgw.out;rwa [e0] at h9))
      subst h0
      go_wp2_with fail
      go_loopw [1,65] (fun bv kv wq => ∃ (k nq cq:Nat) (Aq:Option Addr),k<=T/\kv = .int .i64 k/\bv = .slice Aq nq cq/\Hid ((bg (2^k*d)).length=nq)/\nq<=cq/\nq<=100000/\Rd wq wq.heap.size Aq (bg (2^k*d))/\Below w.heap.size w wq) (fun _ k _=>T-(intOf k).toNat)
      case atStart=>exact ⟨0,nb,cb,some ⟨gb,0,none⟩,ahl _,rfl,rfl,Lib.hid (by rw [Nat.pow_zero,ah1,<- J4.out];exact hlb.out),hcb,hnb,by rw [Nat.pow_zero,ah1,<- J4.out];exact hbb.rd (dD _),hbw⟩
      case round =>
       obtain ⟨k,nq,cq,Aq,hk,rfl,rfl,hlq,hcq,hnq,hrq,hbq⟩:=hrel;clear hba hbb
       by_cases Y7:k<T
       ·have UF:Hid ((bg (2^(k+1)*d)).length<=100000):=Lib.hid (UG.out (k+1) Y7)
        go_wp2_with fail
        refine (ab4 Aq Aq (2^k*d) (2^k*d) nq nq cq cq _ _ hrq hrq (ahj _) (ahj _) hlq.out hlq.out af af (2^(k+1)*d) (by rw [ahL];grind)).mono ?_;rintro e wp ⟨gp,np,cp,rfl,hlp,hcp,F6,NP,hbp⟩;have YR:=bQ hbq hbp (ahj _);have HR:=Lib.hid (NP.rd (dD _));clear hrq NP hbp
        go_wp2_with fail
        go_roundw
        case rel=>exact ⟨k+1,np,cp,_,af,by go_num,rfl,hlp,hcp,by rw [<- hlp.out];exact UF.out,HR.out,YR⟩
        case measure=>simp [intOf];omega
       ·obtain rfl:k=T:=af
        go_wp2_with fail
        go_ret
        refine ⟨Aq,nq,cq,rfl,Lib.hid ?_,hcq,?_,hbq⟩
        ·rw [<- Ej.out];exact hlq.out
        ·rw [<- Ej.out];exact hrq
     ·have qJ:Hid (0<M):=Lib.hid (aii (fun e=>h0 (by rw [<- hla.out,e];rfl)))
      have Eg:Hid (0<N):=Lib.hid hgw.out.2.2;have Og:0<na:=af;clear h0
      go_wp2_with fail
      go_loopg [0] M (fun M' av wq2 => ∃ (n':Nat),av = .slice (some ⟨ga,0,none⟩) n' ca/\Hid ((bg M').length=n')/\n'<=na/\bD wq2 ga 82 (bg M')/\bD wq2 gb 82 (bg N)/\Hid (Gw d M' N/\0<M'/\M'<=M)/\Below w.heap.size w wq2)
      case atStart=>exact ⟨na,rfl,hla,ahj _,hba,hbb,Lib.hid ⟨hgw.out,qJ.out,ahj _⟩,hbw⟩
      case round =>
       obtain ⟨n',rfl,lZ,aff,wY,wZ,nV,hbw2⟩:=hrel;clear hba hbb;have Zb:0<n':=by rw [<- lZ.out];exact aii (fun e=>by have h9:=ig.1 (ahB e);have:=nV.out.2.1;omega)
       have hcc:=wY.cell (i:=0) (by rw [lZ.out];exact Zb);have hxl:=dV (dD gk) 0;have hxb:=Am (ns:=bg gk);rw [bG] at hxb;obtain ⟨x,hx⟩ : ∃ x,x=dg (bg gk) 0:=⟨_,rfl⟩;rw [<- hx] at hcc hxl hxb;have hA1:=wE hxl;rw [hxb] at hA1;clear hx hxb hxl
       by_cases hev:gk%2=0
       ·have HST:Hid (Gw d (gk/2) N/\0<gk/2/\gk/2<=M/\gk/2<gk):=Lib.hid ⟨Yn nV.out.1 hev,by have:=nV.out.2.1;omega,by have:=nV.out.2.2;omega,by have:=nV.out.2.1;omega⟩
        rw [hev] at hA1;have hA2:bits .and .u32 (x:Int) 1=0:=hA1;clear hA1 hev
        go_wp2_with fail
        refine (zN ga gk n' ca _ wY lZ.out af af).mono ?_;rintro e w6 ⟨n6,rfl,xm,Oe,hb6,gy,hs6⟩;have zO:=wZ.of_same (gy.block gb wZ.lt (by intro e;injection e with e;exact pz e.symm));have nT:=below_of_grown hbw2 gy hbw2.size hga;clear wY wZ gy
        go_wp2_with fail
        go_roundg (gk/2)
        case measure=>exact HST.out.2.2.2
        case rel=>exact ⟨n6,rfl,xm,af,hb6,zO,Lib.hid ⟨HST.out.1,HST.out.2.1,HST.out.2.2.1⟩,nT⟩
       ·generalize gk=M' at *
        have hA2:bits .and .u32 (x:Int) 1=1:=by rw [hA1,show M'%2=1 by omega];rfl
        clear hA1 hev
        go_wp2_with fail
        go_loopg [1] N (fun N' bv JA => ∃ (n'':Nat),bv = .slice (some ⟨gb,0,none⟩) n'' cb/\Hid ((bg N').length=n'')/\n''<=nb/\bD JA ga 82 (bg M')/\bD JA gb 82 (bg N')/\Hid (Gw d M' N'/\0<N'/\N'<=N)/\Below w.heap.size w JA)
        case atStart=>exact ⟨nb,rfl,hlb,ahj _,wY,wZ,Lib.hid ⟨nV.out.1,Eg.out,ahj _⟩,hbw2⟩
        case round =>
         obtain ⟨n'',rfl,l7,afg,kW,kX,nX,hbw3⟩:=hrel;clear wY wZ hcc hA2;have Za:0<n'':=by rw [<- l7.out];exact aii (fun e=>by have h9:=ig.1 (ahB e);have:=nX.out.2.1;omega)
         have hcc:=kX.cell (i:=0) (by rw [l7.out];exact Za);have hxl:=dV (dD gk) 0;have hxb:=Am (ns:=bg gk);rw [bG] at hxb;obtain ⟨y,hy⟩ : ∃ y,y=dg (bg gk) 0:=⟨_,rfl⟩;rw [<- hy] at hcc hxl hxb;have hA1:=wE hxl;rw [hxb] at hA1;clear hy hxb hxl
         by_cases hev:gk%2=0
         ·have HST:Hid (Gw d M' (gk/2)/\0<gk/2/\gk/2<=N/\gk/2<gk):=Lib.hid ⟨Yo nX.out.1 hev,by have:=nX.out.2.1;omega,by have:=nX.out.2.2;omega,by have:=nX.out.2.1;omega⟩
          rw [hev] at hA1;have hA2:bits .and .u32 (y:Int) 1=0:=hA1;clear hA1 hev
          go_wp2_with fail
          refine (zN gb gk n'' cb _ kX l7.out af af).mono ?_;rintro e w6 ⟨n6,rfl,xm,Oe,hb6,gy,hs6⟩;have YN:=kW.of_same (gy.block ga kW.lt (by intro e;injection e with e;exact pz e));have nT:=below_of_grown hbw3 gy hbw3.size hgb;clear kW kX gy
          go_wp2_with fail
          go_roundg (gk/2)
          case measure=>exact HST.out.2.2.2
          case rel=>exact ⟨n6,rfl,xm,af,YN,hb6,Lib.hid ⟨HST.out.1,HST.out.2.1,HST.out.2.2.1⟩,nT⟩
         ·generalize gk=N' at *
          have hA2:bits .and .u32 (y:Int) 1=1:=by rw [hA1,show N'%2=1 by omega];rfl
          clear hA1 hev
          by_cases hlt:M'<N'
          ·have HC:=Lib.hid (tq hlt)
           have jb:Hid (M'<=N'):=Lib.hid (ahN hlt);have Eb:Hid (Gw d (N'-M') M'):=Lib.hid (Nu (Yp nX.out.1 nV.out.2.1) (ahN hlt));clear hlt
           go_wp2_with fail
           refine (yf _ _ (bg M') (bg N') n' n'' ca cb _ _ _ (kW.rd (dD _)) (kX.rd (dD _)) lZ.out l7.out af af).mono ?_;rintro e w' ⟨rfl,rfl⟩;rw [bG,bG,HC.out]
           go_wp2_with fail
           have Ee:Hid (n'<=n''):=Lib.hid (by rw [<- l7.out,<- lZ.out];exact L6 jb.out);have hnn:=Ee.out;refine (take_any gb (bg N') (bg M') n'' n' cb ca _ (some ⟨ga,0,none⟩) _ kX (dD _) (kW.rd (dD _)) (ahj _) (fun _ a e=>by injection e with e;subst e;exact pz) l7.out lZ.out hnn af (by rw [bG,bG];exact jb.out)).mono ?_;rintro e w7 ⟨ds,rfl,hd7,hw7,nY,hv7,kY,hs7⟩;rw [bG,bG] at hv7;have FX:=kW.of_same (kY.block ga kW.lt (by intro e;injection e with e;exact pz e));have xe:=below_of_grown hbw3 kY hbw3.size hgb;have hd9:=hd7.bg hw7;rw [hv7] at hd9;have Eh:Hid ((bg (N'-M')).length<=n''):=Lib.hid (by have h9:=kU hw7;rwa [hv7,nY] at h9);obtain ⟨n9,l9⟩ : ∃ n9,n9=(bg (N'-M')).length:=⟨_,rfl⟩;have vY:=Lib.hid l9.symm;have Zf:n9<=n'':=by rw [l9];exact Eh.out
           have Ep:=Lib.hid hv7;have Ed:=Lib.hid nY;clear kX kW kY hs7 hv7 nY l9
           go_wp2_with fail
           refine (Ik _ ds n'' cb _ _ (hd7.rd hw7) Ed.out af af).mono ?_;rintro e w8 ⟨rfl,rfl⟩;rw [Ep.out,vY.out];clear hd7
           go_wp2_with fail
           go_roundg (N'-M'+M')
           case measure=>have h1:=HS.out;have h2:=nV.out.2;have h3:=nX.out.2;have h4:=jb.out;have h5:=Eg.out;have h6:=qJ.out;omega
           case rel=>exact ⟨N'-M',M',gb,ga,n9,n',cb,ca,rfl,rfl,rfl,vY,lZ,af,af,af,af,hd9,FX,pz.symm,hgb,hga,Eb,xe⟩
          ·have jb:Hid (N'<=M'):=Lib.hid af
           obtain ⟨cv,HC,hcv⟩ : ∃ cv:Int,Hid (iQ M' N'=cv)/\0<=cv:=by
            rcases ahs N' M' with h1 | h1
            ·exact ⟨1,Lib.hid (wG h1),af⟩
            ·exact ⟨0,Lib.hid (yY af),af⟩
           have Eb:Hid (Gw d (M'-N') N'):=Lib.hid (Nu nX.out.1 jb.out);clear hlt
           go_wp2_with fail
           refine (yf _ _ (bg M') (bg N') n' n'' ca cb _ _ _ (kW.rd (dD _)) (kX.rd (dD _)) lZ.out l7.out af af).mono ?_;rintro e w' ⟨rfl,rfl⟩;rw [bG,bG,HC.out]
           go_wp2_with fail
           have Ee:Hid (n''<=n'):=Lib.hid (by rw [<- lZ.out,<- l7.out];exact L6 jb.out);have hnn:=Ee.out;refine (take_any ga (bg M') (bg N') n' n'' ca cb _ (some ⟨gb,0,none⟩) _ kW (dD _) (kX.rd (dD _)) (ahj _) (fun _ a e=>by injection e with e;subst e;exact pz.symm) lZ.out l7.out hnn af (by rw [bG,bG];exact jb.out)).mono ?_;rintro e w7 ⟨ds,rfl,hd7,hw7,nY,hv7,kY,hs7⟩;rw [bG,bG] at hv7;have FX:=kX.of_same (kY.block gb kX.lt (by intro e;injection e with e;exact pz e.symm));have xe:=below_of_grown hbw3 kY hbw3.size hga;have hd9:=hd7.bg hw7;rw [hv7] at hd9;have Eh:Hid ((bg (M'-N')).length<=n'):=Lib.hid (by have h9:=kU hw7;rwa [hv7,nY] at h9);obtain ⟨n9,l9⟩ : ∃ n9,n9=(bg (M'-N')).length:=⟨_,rfl⟩;have vY:=Lib.hid l9.symm;have Zf:n9<=n':=by rw [l9];exact Eh.out
           have Ep:=Lib.hid hv7;have Ed:=Lib.hid nY;clear kW kX kY hs7 hv7 nY l9
           go_wp2_with fail
           refine (Ik _ ds n' ca _ _ (hd7.rd hw7) Ed.out af af).mono ?_;rintro e w8 ⟨rfl,rfl⟩;rw [Ep.out,vY.out];clear hd7
           go_wp2_with fail
           go_roundg (M'-N'+N')
           case measure=>have h1:=HS.out;have h2:=nV.out.2;have h3:=nX.out.2;have h4:=jb.out;have h5:=Eg.out;have h6:=qJ.out;omega
           case rel=>exact ⟨M'-N',N',ga,gb,n9,n'',ca,cb,rfl,rfl,rfl,vY,l7,af,af,af,af,hd9,FX,pz,hga,hgb,Eb,xe⟩
end Go.Proofs.AZQ
namespace Lw
open Go Go.RowKit
section
variable {g1 g2 g3 g4 p:Nat} {x1 x2 x3 x4 y1 y2 y3 y4:Value}
theorem dA.yR{t:TypeId}{W0 w:World}{bs:List Bx}{L:List En}{M:List Sn}(h:dA t W0 w bs L M)(x y:Value):dA t W0 (w.alloc (.cells #[x,y] t)) (⟨w.heap.size,x,y⟩::bs) L M :=
 ⟨h.env.yR x y,fun e he=>(h.iM e he).next ((Below.refl _ w).alloc (ahj _) _)⟩
theorem dA.kz{t tu:TypeId}{W0 w:World}{bs:List Bx}{L:List En}{M:List Sn}(h:dA t W0 w bs L M):dA t W0 (w.alloc (.cells #[.int .u32 1] tu)) bs L (⟨.slice (some ⟨w.heap.size,0,none⟩) 1 1,[1],1⟩::M) :=
 (h.next ((Below.refl _ w).alloc (ahj _) _)).cons ⟨some ⟨w.heap.size,0,none⟩,1,1,_,rfl,(bD.new w tu [1]).rd (by rw [kF];exact ⟨af,jV⟩),ahj _,rfl,ahj _,ahj _⟩
theorem uH{w:World}{z:Int}{K:Nat}{A:Option Addr}{c:Nat}(h:cZ w ⟨.agg #[.bool (sg z),.slice A (mg z).length c],z,K,true⟩) : ∃ B,Rd w B A (mg z)/\B<=w.heap.size/\(mg z).length<=c:=by
 obtain ⟨s,A',n,c',ns,B,e1,h2,h3,h4,h5,h6,e7,h8⟩:=h;simp at e1;obtain ⟨rfl,rfl,rfl,rfl⟩:=e1
 have hz:z=if sg z then -(val ns:Int) else (val ns:Int):=by
  unfold zv at e7;rw [h8] at e7;exact e7.symm
 obtain ⟨_,e2,_⟩:=qy h8 hz h2.bI;grind
theorem Env.four{t:TypeId}{W0 w:World}{L:List En}(h:Env t W0 w [⟨g4,x4,y4⟩,⟨g1,x1,y1⟩,⟨g2,x2,y2⟩,⟨g3,x3,y3⟩] L) :
  w.cell? ⟨g1,0,none⟩=some x1/\w.cell? ⟨g1,1,none⟩=some y1/\w.cell? ⟨g2,0,none⟩=some x2/\w.cell? ⟨g2,1,none⟩=some y2:=by
 obtain ⟨a1,a2,_,_⟩:=(h.box _ au).facts;obtain ⟨b1,b2,_,_⟩:=(h.box _ ax).facts;exact ⟨a1,a2,b1,b2⟩
theorem Env.oI{t:TypeId}{W0 w:World}{L:List En}(h:Env t W0 w [⟨g4,x4,y4⟩,⟨g1,x1,y1⟩,⟨g2,x2,y2⟩,⟨g3,x3,y3⟩] L):Two w g3 t x3 y3:=h.box _ ay
theorem Env.oJ{t:TypeId}{W0 w:World}{L:List En}{bs:List Bx}(h:Env t W0 w (⟨g4,x4,y4⟩::bs) L):Two w g4 t x4 y4:=h.box _ ak
theorem SX{t:TypeId}{w:World}(h1:Two w g1 t x1 y1)(h2:Two w g2 t x2 y2) :
  w.cell? ⟨g1,0,none⟩=some x1/\w.cell? ⟨g1,1,none⟩=some y1/\w.cell? ⟨g2,0,none⟩=some x2/\w.cell? ⟨g2,1,none⟩=some y2:=⟨h1.facts.1,h1.facts.2.1,h2.facts.1,h2.facts.2.1⟩
theorem Env.zD{t:TypeId}{W0 w:World}{L:List En}(h:Env t W0 w [⟨g4,x4,y4⟩,⟨g1,x1,y1⟩,⟨g2,x2,y2⟩,⟨g3,x3,y3⟩] L)(h1:g1≠p)(h2:g2≠p)(u v:Value) :
  ((w.setCell ⟨p,0,none⟩ u).setCell ⟨p,1,none⟩ v).cell? ⟨g1,0,none⟩=some x1/\((w.setCell ⟨p,0,none⟩ u).setCell ⟨p,1,none⟩ v).cell? ⟨g1,1,none⟩=some y1 /\
  ((w.setCell ⟨p,0,none⟩ u).setCell ⟨p,1,none⟩ v).cell? ⟨g2,0,none⟩=some x2/\((w.setCell ⟨p,0,none⟩ u).setCell ⟨p,1,none⟩ v).cell? ⟨g2,1,none⟩=some y2 :=
 SX (((h.box _ au).far (p:=⟨p,0,none⟩) h1 u).far (p:=⟨p,1,none⟩) h1 v) (((h.box _ ax).far (p:=⟨p,0,none⟩) h2 u).far (p:=⟨p,1,none⟩) h2 v)
theorem Env.qV{t:TypeId}{W0 w:World}{L:List En}{q:Nat}(h:Env t W0 w [⟨g4,x4,y4⟩,⟨g1,x1,y1⟩,⟨g2,x2,y2⟩,⟨g3,x3,y3⟩] L)(h1:g1≠p)(h2:g2≠p)(k1:g1≠q)(k2:g2≠q)(u v u' v':Value) :
  ((((w.setCell ⟨p,0,none⟩ u).setCell ⟨p,1,none⟩ v).setCell ⟨q,0,none⟩ u').setCell ⟨q,1,none⟩ v').cell? ⟨g1,0,none⟩=some x1/\((((w.setCell ⟨p,0,none⟩ u).setCell ⟨p,1,none⟩ v).setCell ⟨q,0,none⟩ u').setCell ⟨q,1,none⟩ v').cell? ⟨g1,1,none⟩=some y1 /\
  ((((w.setCell ⟨p,0,none⟩ u).setCell ⟨p,1,none⟩ v).setCell ⟨q,0,none⟩ u').setCell ⟨q,1,none⟩ v').cell? ⟨g2,0,none⟩=some x2/\((((w.setCell ⟨p,0,none⟩ u).setCell ⟨p,1,none⟩ v).setCell ⟨q,0,none⟩ u').setCell ⟨q,1,none⟩ v').cell? ⟨g2,1,none⟩=some y2 :=
 SX (((((h.box _ au).far (p:=⟨p,0,none⟩) h1 u).far (p:=⟨p,1,none⟩) h1 v).far (p:=⟨q,0,none⟩) k1 u').far (p:=⟨q,1,none⟩) k1 v') (((((h.box _ ax).far (p:=⟨p,0,none⟩) h2 u).far (p:=⟨p,1,none⟩) h2 v).far (p:=⟨q,0,none⟩) k2 u').far (p:=⟨q,1,none⟩) k2 v')
end
end Lw
namespace Go.Proofs.AZQ
open Go Go.RowKit Lw
section
variable {t:TypeId} {W0 w:World} {bs:List Bx} {L:List En} {M:List Sn} {v u u':Value} {x:Int} {k k':Nat} {b:Bool} {l l':List Nat}
theorem X6(HE:dA t W0 w bs L M)(h:⟨u,l,k⟩∈M)(h':⟨u',l',k'⟩∈M)(hk:k+k'<=100000) :
  Calls Tryz.prog 202 #[u,u'] w fun e w' => ∃ u,e = .returned u/\dA t W0 w' bs L (⟨u,bg (Nat.gcd (val l) (val l')),k+k'+1⟩::M):=by
 obtain ⟨A,n,c,B,e1,h2,h3,h4,h5,h6⟩:=HE.iM _ h;obtain ⟨A',n',c',B',e1',h2',h3',h4',h5',h6'⟩:=HE.iM _ h';dsimp only at *;subst e1 e1'
 have hz:(bg (Nat.gcd (val l) (val l'))).length<=k+k'+1:=gQ (by
  have h9:=xG (x:=(val l:Int)) (y:=(val l':Int)) (k:=k) (k':=k') (by rw [ahx];exact ahr (dQ h2.bI) (dY af)) (by rw [ahx];exact ahr (dQ h2'.bI) (dY af));rw [<- aiD,ahx] at h9;refine ahO ?_ h9;rcases ahE (val l) with e | e
  ·rw [e,Nat.gcd_zero_left];omega
  ·exact ahk (ai1 _ e) (Nat.le_add_right _ _))
 refine (abX A A' l l' n n' c c' B B' w h2 h2' h3 h3' h4 h4' af af).mono ?_;rintro e w' ⟨A9,n9,c9,rfl,l9,dM,dG,jG⟩;exact ⟨_,rfl,(HE.next jG).cons ⟨A9,n9,c9,_,rfl,dG,ahj _,l9.out,dM,by rw [<- l9.out];exact hz⟩⟩
theorem Xh(HE:dA t W0 w bs L M)(h:⟨u,l,k⟩∈M)(h':⟨u',l',k'⟩∈M)(hk:k<=50000/\k'<=50000)(hy:0<val l') :
  Calls Tryz.prog 235 #[u,u'] w fun e w' => ∃ g1 n1 c1 g2 n2 c2,e = .returned (.tuple #[.slice (some ⟨g1,0,none⟩) n1 c1,.slice (some ⟨g2,0,none⟩) n2 c2])/\Hid ((bg (val l%val l')).length=n2) /\
   dA t W0 w' bs L (⟨.slice (some ⟨g1,0,none⟩) n1 c1,bg (val l/val l'),k⟩::⟨.slice (some ⟨g2,0,none⟩) n2 c2,bg (val l%val l'),k'⟩::M):=by
 obtain ⟨A,n,c,B,e1,h2,h3,h4,h5,h6⟩:=HE.iM _ h;obtain ⟨A',n',c',B',e1',h2',h3',h4',h5',h6'⟩:=HE.iM _ h';dsimp only at *;subst e1 e1';refine (abW A A' l l' n n' c c' B B' w h2 h2' h3 h3' h4 h4' af af hy).mono ?_;rintro e w' ⟨g1,n1,c1,g2,n2,c2,rfl,hn1,hn2,hc1,hc2,hg1,hg2,hb1,hb2,hb⟩;have hz1:(bg (val l/val l')).length<=k:=gQ (ahO (ah0 _ _) (ahr (dQ h2.bI) (dY af)));have hz2:(bg (val l%val l')).length<=k':=gQ (Nat.lt_trans (aht _ hy) (ahr (dQ h2'.bI) (dY af)));refine ⟨g1,n1,c1,g2,n2,c2,rfl,hn2,((HE.next hb).cons ?_).cons ?_⟩
 ·exact ⟨_,n2,c2,_,rfl,hb2.rd (dD _),ahj _,hn2.out,hc2,by rw [<- hn2.out];exact hz2⟩
 ·exact ⟨_,n1,c1,_,rfl,hb1.rd (dD _),ahj _,hn1.out,hc1,by rw [<- hn1.out];exact hz1⟩
theorem tX(s:Bool)(z:Int)(HE:dA t W0 w bs L M)(h:⟨u,l,k⟩∈M)(hk:k<=100000)(hz:z=if s then -(val l:Int) else (val l:Int)) :
  Calls Tryz.prog 186 #[.bool s,u] w fun e w' => ∃ A c,e = .returned (.agg #[.bool (sg z),.slice A (mg z).length c])/\dA t W0 w' bs (⟨.agg #[.bool (sg z),.slice A (mg z).length c],z,(mg z).length,true⟩::L) M:=by
 refine (qW s z HE h hk hz).mono ?_;rintro e w' ⟨A,c,rfl,hc,hr,HE⟩;exact ⟨A,c,rfl,HE.env.cons ⟨sg z,A,_,c,mg z,_,rfl,hr,ahj _,rfl,ahj _,hc,sG z,qw z⟩,HE.iM⟩
theorem AB{bx:Bool}(HE:dA t W0 w bs L M)(h:⟨v,x,k,b⟩∈L)(hk:k<=100000)(hb:sg x=bx) :
  Calls Tryz.prog 197 #[v] w fun e w'=>e = .returned (.bool bx)/\dA t W0 w' bs L M:=by
 subst hb;exact pO HE h hk
theorem aaV(HE:dA t W0 w bs L M)(h:⟨u,l,k⟩∈M)(h':⟨u',l',k'⟩∈M)(hk:k+k'<=100000) :
  Calls Tryz.prog 203 #[u,u'] w fun e w' => ∃ up,e = .returned up/\dA t W0 w' bs L (⟨up,bg (val l+val l'),k+k'+1⟩::M):=Qr HE h h' hk
end
set_option maxRecDepth 100000 in
set_option maxHeartbeats 4000000 in
theorem abO(s s':Bool)(A A':Option Addr)(ns ms:List Nat)(n m c c' B B':Nat)(w:World)(h:Rd w B A ns)(h':Rd w B' A' ms)(hB:B<=w.heap.size)(hB':B'<=w.heap.size)(hn:ns.length=n)(hm:ms.length=m)(hl:n<=10000)(hl':m<=10000)(hc:n<=c)(hc':m<=c') :
  Calls Tryz.prog 139 #[.agg #[.bool s,.slice A n c],.agg #[.bool s',.slice A' m c']] w (kQ w ((Nat.gcd (zv s ns).natAbs (zv s' ms).natAbs:Nat):Int)):=by
 have HE:=wF (s1:=s) (s2:=s') 109 h h' hB hB' hn hm hc hc' (ahj n) (ahj m);clear h h';generalize zv s ns=x at *;generalize zv s' ms=y at *;generalize vB s ns=bb at *;generalize vB s' ms=bb' at *
 go_enter Tryz.func139,Tryz.ntmps139
 go_wp2_with fail
 go_region_held3 (fun w'=>w'.cell? ⟨w.heap.size,0,none⟩=some (.bool s)/\w'.cell? ⟨w.heap.size,1,none⟩=some (.slice A n c)/\w'.cell? ⟨w.heap.size+1,0,none⟩=some (.bool s')/\w'.cell? ⟨w.heap.size+1,1,none⟩=some (.slice A' m c')) (first | exact HE.env.jd | exact HE.drew.env.jd | exact HE.env.ji af af _ _)
  (first
   | (go_at_call 196;refine (uD (by first | exact HE | exact HE.drew) aY af).mono ?_;rintro e wn ⟨u,rfl,HE⟩)
   | (go_at_call 202;refine (X6 (by first | exact HE | exact HE.drew) aY aY af).mono ?_;rintro e wn ⟨u,rfl,HE⟩)
   | (go_at_call 186;refine (qW false ((Nat.gcd x.natAbs y.natAbs:Nat):Int) (by first | exact HE | exact HE.drew) aY af (by rw [bG,fU,fU];rfl)).mono ?_;rintro e wn ⟨A9,c9,rfl,dM,dG,HE⟩;obtain ⟨f0,f1,f2,f3⟩:=HE.env.third.facts))
 go_wp2
 refine bodyPost_ret (v := .agg #[.bool (sg ((Nat.gcd x.natAbs y.natAbs:Nat):Int)),.slice A9 (mg ((Nat.gcd x.natAbs y.natAbs:Nat):Int)).length c9]) (by simp [results,Tryz.results139,go_sem,f0,f1]) rfl ?_;exact jW HE.env.third dG (ahj _) dM HE.env.below af
def DQ(z z':Int)(er:Value)(w:World)(e:Ending)(w':World):Prop :=
 ∃ (A A':Option Addr) (c c':Nat),e = .returned (.tuple #[.agg #[.bool (sg z),.slice A (mg z).length c],.agg #[.bool (sg z'),.slice A' (mg z').length c'],er])/\(mg z).length<=c/\(mg z').length<=c'/\Rd w' w'.heap.size A (mg z)/\Rd w' w'.heap.size A' (mg z')/\Below w.heap.size w w'
set_option maxRecDepth 100000 in
set_option maxHeartbeats 6400000 in
theorem abN(s s':Bool)(A A':Option Addr)(ns ms:List Nat)(n m c c' B B':Nat)(w:World)(h:Rd w B A ns)(h':Rd w B' A' ms)(hB:B<=w.heap.size)(hB':B'<=w.heap.size)(hn:ns.length=n)(hm:ms.length=m)(hl:n<=10000)(hl':m<=10000)(hc:n<=c)(hc':m<=c')(hy:zv s' ms≠0) :
  Calls Tryz.prog 185 #[.agg #[.bool s,.slice A n c],.agg #[.bool s',.slice A' m c']] w (DQ (zv s ns/zv s' ms) (zv s ns%zv s' ms) (.int .i64 0) w):=by
 have HE:=(wF (s1:=s) (s2:=s') 109 h h' hB hB' hn hm hc hc' (ahj n) (ahj m)).yR (.bool false) (.slice none 0 0);rw [World.size_alloc,World.size_alloc,World.size_alloc] at HE;have hsy:=fun W (hR:Rd W B' A' ms) hB=>Q4 s' A' ms m c' B' W hR hB hm af hc';have hrs:=h';generalize zv s ns=x at *;generalize zv s' ms=y at *;generalize vB s ns=bb at *;generalize vB s' ms=bb' at *;have Ei:=Lib.hid hsy
 have Zp:(fG y==0)=false:=by
  rw [beq_eq_false_iff_ne];unfold fG;split <;> (try split) <;> omega
 obtain ⟨sy,OD⟩ : ∃ sy,sy=fG y:=⟨_,rfl⟩;rw [<- OD] at Ei Zp;have Kr:Hid (0<val (mg y)):=Lib.hid (by rw [fU];omega);obtain ⟨bx,hbx⟩ : ∃ b,sg x=b:=⟨_,rfl⟩;obtain ⟨by',hby⟩ : ∃ b,sg y=b:=⟨_,rfl⟩;have hfo:=Xy (z:=x) hy;rw [hbx,hby] at hfo;have Ea:=Lib.hid hfo;have yH:=Lib.hid hbx;have D9:=Lib.hid hby;obtain ⟨bo,gW⟩ : ∃ b,(bx != by')=b:=⟨_,rfl⟩;have D7:=Lib.hid gW;clear hbx hby hfo gW;clear h hsy OD hy
 go_enter Tryz.func185,Tryz.ntmps185
 obtain ⟨q1,q2,q3,q4⟩:=HE.env.four
 go_wp2_with fail
 refine (Ei.out _ (hrs.next (HE.env.below) hB') (ahk hB' HE.env.below.size)).mono ?_;rintro e wn ⟨rfl,hbn⟩;have HE:=HE.next hbn;clear q1 q2 q3 q4 hbn hrs Ei
 go_wp2_with fail
 go_region_held3 (fun w'=>w'.cell? ⟨w.heap.size,0,none⟩=some (.bool s)/\w'.cell? ⟨w.heap.size,1,none⟩=some (.slice A n c)/\w'.cell? ⟨w.heap.size+1,0,none⟩=some (.bool s')/\w'.cell? ⟨w.heap.size+1,1,none⟩=some (.slice A' m c')) (with_reducible first | exact HE.env.four | exact HE.drew.env.four | exact HE.env.zD af af _ _ | exact HE.env.qV af af af af _ _ _ _)
  (first
   | (go_at_call 196;refine (uD (by first | exact HE | exact HE.drew) aY af).mono ?_;rintro e wn ⟨u,rfl,HE⟩)
   | (go_at_call 235;refine (Xh (by first | exact HE | exact HE.drew) aY aY af Kr.out).mono ?_;rintro e wn ⟨g1,n1,c1,g2,n2,c2,rfl,hn2,HE⟩))
 all_goals
  have HR2:Hid (x.natAbs%y.natAbs=0↔n2=0):=Lib.hid (by
   have h9:=hn2.out;rw [fU,fU] at h9;rw [<- h9,ahT,ig])
  have UJ:Hid (val (bg (val (mg x)%val (mg y)))<=val (mg y)):=Lib.hid (by rw [bG];exact ahN (aht _ Kr.out));obtain ⟨q1,q2,q3,q4⟩:=HE.env.four
  go_wp2_with fail
  refine (AB HE aY af yH.out).mono ?_;rintro e wn ⟨rfl,HE⟩;clear q1 q2 q3 q4
  by_cases hsg:bx=true
  case neg =>
   have Ot:bx=false:=by cases bx;rfl;exact absurd rfl hsg
   have HF:=Lib.hid (Ea.out.2.2 (.inl Ot));clear hsg
   go_wp2_with fail
   clear Ot;have gW:=D7.out;have fH:Hid (x/y=if bo=true then -(val (bg (val (mg x)/val (mg y))):Int) else (val (bg (val (mg x)/val (mg y))):Int)):=Lib.hid (by rw [HF.out.1,gW];simp only [bG,fU];rfl);have HS2:Hid (x%y=if false=true then -(val (bg (val (mg x)%val (mg y))):Int) else (val (bg (val (mg x)%val (mg y))):Int)):=Lib.hid (by rw [HF.out.2];simp only [bG,fU];rfl);have NQ:(!(bx==by'))=bo:=gW;clear gW
   go_region_held3 (fun w'=>w'.cell? ⟨w.heap.size,0,none⟩=some (.bool s)/\w'.cell? ⟨w.heap.size,1,none⟩=some (.slice A n c)/\w'.cell? ⟨w.heap.size+1,0,none⟩=some (.bool s')/\w'.cell? ⟨w.heap.size+1,1,none⟩=some (.slice A' m c')) (with_reducible first | exact HE.env.four | exact HE.drew.env.four | exact HE.env.zD af af _ _ | exact HE.env.qV af af af af _ _ _ _)
    (first
     | (go_at_call 197;refine (AB (by first | exact HE | exact HE.drew) aY af (by first | exact yH.out | exact D9.out)).mono ?_;rintro e wn ⟨rfl,HE⟩)
     | (go_at_call 186;(with_reducible show Calls _ _ #[Value.bool bo,_] _ _);refine (tX (l:=bg (val (mg x)/val (mg y))) (k:=n) bo (x/y) (by first | exact HE | exact HE.drew) ?_ af fH.out).mono ?_;(first | exact aY);rintro e wn ⟨A9,c9,rfl,HE⟩;obtain ⟨f0,f1,f2,f3⟩:=HE.env.oI.facts;obtain ⟨f4,f5,f6,f7⟩:=HE.env.oJ.facts)
     | (go_at_call 186;(with_reducible show Calls _ _ #[Value.bool false,_] _ _);refine (tX (l:=bg (val (mg x)%val (mg y))) (k:=m) false (x%y) (by first | exact HE | exact HE.drew) ?_ af HS2.out).mono ?_;(first | exact aY);rintro e wn ⟨A8,c8,rfl,HE⟩;obtain ⟨f0,f1,f2,f3⟩:=HE.env.oI.facts;obtain ⟨f4,f5,f6,f7⟩:=HE.env.oJ.facts))
   all_goals
    obtain ⟨B9,dG,wR,dM⟩:=uH (HE.env.ops ⟨.agg #[.bool (sg (x/y)),.slice A9 (mg (x/y)).length c9],x/y,_,true⟩ aY);obtain ⟨B8,mD,wQ,hc8⟩:=uH (HE.env.ops ⟨.agg #[.bool (sg (x%y)),.slice A8 (mg (x%y)).length c8],x%y,_,true⟩ aY);obtain ⟨p1,p2,p3,p4,p5⟩:=xN (sg (x/y)) (sg (x%y)) (.slice A9 (mg (x/y)).length c9) (.slice A8 (mg (x%y)).length c8) HE.env.oI HE.env.oJ af dG mD HE.env.below af af;clear f0 f1 f2 f3 f4 f5 f6 f7;obtain ⟨f0,f1,_,_⟩:=p1.facts;obtain ⟨f4,f5,_,_⟩:=p2.facts
    go_wp2_with fail
    refine bodyPost_ret (v := .tuple #[.agg #[.bool (sg (x/y)),.slice A9 (mg (x/y)).length c9],.agg #[.bool (sg (x%y)),.slice A8 (mg (x%y)).length c8],.int .i64 0]) (by simp [results,Tryz.results185,go_sem,f0,f1,f4,f5]) rfl ?_;exact ⟨A9,A8,c9,c8,rfl,dM,hc8,p3.more (by simpa using wR),p4.more (by simpa using wQ),p5⟩
  case pos =>
   by_cases hn0:n2=0
   ·have HF:=Lib.hid (Ea.out.2.2 (.inr (HR2.out.2 hn0)))
    subst hn0
    go_wp2_with fail
    clear hsg;have gW:=D7.out;have fH:Hid (x/y=if bo=true then -(val (bg (val (mg x)/val (mg y))):Int) else (val (bg (val (mg x)/val (mg y))):Int)):=Lib.hid (by rw [HF.out.1,gW];simp only [bG,fU];rfl);have HS2:Hid (x%y=if false=true then -(val (bg (val (mg x)%val (mg y))):Int) else (val (bg (val (mg x)%val (mg y))):Int)):=Lib.hid (by rw [HF.out.2];simp only [bG,fU];rfl);have NQ:(!(bx==by'))=bo:=gW;clear gW
    go_region_held3 (fun w'=>w'.cell? ⟨w.heap.size,0,none⟩=some (.bool s)/\w'.cell? ⟨w.heap.size,1,none⟩=some (.slice A n c)/\w'.cell? ⟨w.heap.size+1,0,none⟩=some (.bool s')/\w'.cell? ⟨w.heap.size+1,1,none⟩=some (.slice A' m c')) (with_reducible first | exact HE.env.four | exact HE.drew.env.four | exact HE.env.zD af af _ _ | exact HE.env.qV af af af af _ _ _ _)
     (first
      | (go_at_call 197;refine (AB (by first | exact HE | exact HE.drew) aY af (by first | exact yH.out | exact D9.out)).mono ?_;rintro e wn ⟨rfl,HE⟩)
      | (go_at_call 186;(with_reducible show Calls _ _ #[Value.bool bo,_] _ _);refine (tX (l:=bg (val (mg x)/val (mg y))) (k:=n) bo (x/y) (by first | exact HE | exact HE.drew) ?_ af fH.out).mono ?_;(first | exact aY);rintro e wn ⟨A9,c9,rfl,HE⟩;obtain ⟨f0,f1,f2,f3⟩:=HE.env.oI.facts;obtain ⟨f4,f5,f6,f7⟩:=HE.env.oJ.facts)
      | (go_at_call 186;(with_reducible show Calls _ _ #[Value.bool false,_] _ _);refine (tX (l:=bg (val (mg x)%val (mg y))) (k:=m) false (x%y) (by first | exact HE | exact HE.drew) ?_ af HS2.out).mono ?_;(first | exact aY);rintro e wn ⟨A8,c8,rfl,HE⟩;obtain ⟨f0,f1,f2,f3⟩:=HE.env.oI.facts;obtain ⟨f4,f5,f6,f7⟩:=HE.env.oJ.facts))
    all_goals
     obtain ⟨B9,dG,wR,dM⟩:=uH (HE.env.ops ⟨.agg #[.bool (sg (x/y)),.slice A9 (mg (x/y)).length c9],x/y,_,true⟩ aY);obtain ⟨B8,mD,wQ,hc8⟩:=uH (HE.env.ops ⟨.agg #[.bool (sg (x%y)),.slice A8 (mg (x%y)).length c8],x%y,_,true⟩ aY);obtain ⟨p1,p2,p3,p4,p5⟩:=xN (sg (x/y)) (sg (x%y)) (.slice A9 (mg (x/y)).length c9) (.slice A8 (mg (x%y)).length c8) HE.env.oI HE.env.oJ af dG mD HE.env.below af af;clear f0 f1 f2 f3 f4 f5 f6 f7;obtain ⟨f0,f1,_,_⟩:=p1.facts;obtain ⟨f4,f5,_,_⟩:=p2.facts
     go_wp2_with fail
     refine bodyPost_ret (v := .tuple #[.agg #[.bool (sg (x/y)),.slice A9 (mg (x/y)).length c9],.agg #[.bool (sg (x%y)),.slice A8 (mg (x%y)).length c8],.int .i64 0]) (by simp [results,Tryz.results185,go_sem,f0,f1,f4,f5]) rfl ?_;exact ⟨A9,A8,c9,c8,rfl,dM,hc8,p3.more (by simpa using wR),p4.more (by simpa using wQ),p5⟩
   ·have hnp:0<n2:=af
    have HF:=Lib.hid (Ea.out.2.1 hsg (fun e=>hn0 (HR2.out.1 e)));clear hn0
    go_wp2_with fail
    clear hsg
    go_region_held3 (fun w'=>w'.cell? ⟨w.heap.size,0,none⟩=some (.bool s)/\w'.cell? ⟨w.heap.size,1,none⟩=some (.slice A n c)/\w'.cell? ⟨w.heap.size+1,0,none⟩=some (.bool s')/\w'.cell? ⟨w.heap.size+1,1,none⟩=some (.slice A' m c')) (with_reducible first | exact HE.env.four | exact HE.drew.env.four | exact HE.kz.env.four | exact HE.kz.drew.env.four | exact HE.drew.kz.env.four)
     (first
      | (go_at_call 196;refine (uD (by first | exact HE | exact HE.drew | exact HE.kz | exact HE.kz.drew | exact HE.drew.kz) aY af).mono ?_;rintro e wn ⟨u,rfl,HE⟩)
      | (go_at_call 203;refine (aaV (by first | exact HE | exact HE.drew | exact HE.kz | exact HE.kz.drew | exact HE.drew.kz) aY aY af).mono ?_;rintro e wn ⟨up,rfl,HE⟩)
      | (go_at_call 205;refine (GY (by first | exact HE | exact HE.drew | exact HE.kz | exact HE.kz.drew | exact HE.drew.kz) aY aY af (fB _) UJ.out).mono ?_;rintro e wn ⟨um,rfl,HE⟩))
    all_goals
     go_wp2_with fail
     have gW:=D7.out;have fH:Hid (x/y=if bo=true then -(val (bg (val (bg (val (mg x)/val (mg y)))+val [1])):Int) else (val (bg (val (bg (val (mg x)/val (mg y)))+val [1])):Int)):=Lib.hid (by rw [HF.out.1,gW];simp only [bG,fU];rfl);have HS2:Hid (x%y=if false=true then -(val (bg (val (mg y)-val (bg (val (mg x)%val (mg y))))):Int) else (val (bg (val (mg y)-val (bg (val (mg x)%val (mg y))))):Int)):=Lib.hid (by rw [HF.out.2];simp only [bG,fU];rfl);have NQ:(!(bx==by'))=bo:=gW;clear gW
     go_region_held3 (fun w'=>w'.cell? ⟨w.heap.size,0,none⟩=some (.bool s)/\w'.cell? ⟨w.heap.size,1,none⟩=some (.slice A n c)/\w'.cell? ⟨w.heap.size+1,0,none⟩=some (.bool s')/\w'.cell? ⟨w.heap.size+1,1,none⟩=some (.slice A' m c')) (with_reducible first | exact HE.env.four | exact HE.drew.env.four | exact HE.env.zD af af _ _ | exact HE.env.qV af af af af _ _ _ _)
      (first
       | (go_at_call 197;refine (AB (by first | exact HE | exact HE.drew) aY af (by first | exact yH.out | exact D9.out)).mono ?_;rintro e wn ⟨rfl,HE⟩)
       | (go_at_call 186;(with_reducible show Calls _ _ #[Value.bool bo,_] _ _);refine (tX (l:=bg (val (bg (val (mg x)/val (mg y)))+val [1])) (k:=n+1+1) bo (x/y) (by first | exact HE | exact HE.drew) ?_ af fH.out).mono ?_;(first | exact aY);rintro e wn ⟨A9,c9,rfl,HE⟩;obtain ⟨f0,f1,f2,f3⟩:=HE.env.oI.facts;obtain ⟨f4,f5,f6,f7⟩:=HE.env.oJ.facts)
       | (go_at_call 186;(with_reducible show Calls _ _ #[Value.bool false,_] _ _);refine (tX (l:=bg (val (mg y)-val (bg (val (mg x)%val (mg y))))) (k:=m) false (x%y) (by first | exact HE | exact HE.drew) ?_ af HS2.out).mono ?_;(first | exact aY);rintro e wn ⟨A8,c8,rfl,HE⟩;obtain ⟨f0,f1,f2,f3⟩:=HE.env.oI.facts;obtain ⟨f4,f5,f6,f7⟩:=HE.env.oJ.facts))
     all_goals
      obtain ⟨B9,dG,wR,dM⟩:=uH (HE.env.ops ⟨.agg #[.bool (sg (x/y)),.slice A9 (mg (x/y)).length c9],x/y,_,true⟩ aY);obtain ⟨B8,mD,wQ,hc8⟩:=uH (HE.env.ops ⟨.agg #[.bool (sg (x%y)),.slice A8 (mg (x%y)).length c8],x%y,_,true⟩ aY);obtain ⟨p1,p2,p3,p4,p5⟩:=xN (sg (x/y)) (sg (x%y)) (.slice A9 (mg (x/y)).length c9) (.slice A8 (mg (x%y)).length c8) HE.env.oI HE.env.oJ af dG mD HE.env.below af af;clear f0 f1 f2 f3 f4 f5 f6 f7;obtain ⟨f0,f1,_,_⟩:=p1.facts;obtain ⟨f4,f5,_,_⟩:=p2.facts
      go_wp2_with fail
      refine bodyPost_ret (v := .tuple #[.agg #[.bool (sg (x/y)),.slice A9 (mg (x/y)).length c9],.agg #[.bool (sg (x%y)),.slice A8 (mg (x%y)).length c8],.int .i64 0]) (by simp [results,Tryz.results185,go_sem,f0,f1,f4,f5]) rfl ?_;exact ⟨A9,A8,c9,c8,rfl,dM,hc8,p3.more (by simpa using wR),p4.more (by simpa using wQ),p5⟩
end Go.Proofs.AZQ
namespace Lw
open Go Go.RowKit
theorem Env.LD{t:TypeId}{W0 w:World}{L:List En}{g0 g1 g2 g3 g4 g5 g6 g7:Nat}{x0 y0 x1 y1 x2 y2 x3 y3 x4 y4 x5 y5 x6 y6 x7 y7:Value}(h:Env t W0 w [⟨g0,x0,y0⟩,⟨g1,x1,y1⟩,⟨g2,x2,y2⟩,⟨g3,x3,y3⟩,⟨g4,x4,y4⟩,⟨g5,x5,y5⟩,⟨g6,x6,y6⟩,⟨g7,x7,y7⟩] L) :
  w.cell? ⟨g0,0,none⟩=some x0/\w.cell? ⟨g0,1,none⟩=some y0/\w.cell? ⟨g1,0,none⟩=some x1/\w.cell? ⟨g1,1,none⟩=some y1/\w.cell? ⟨g2,0,none⟩=some x2/\w.cell? ⟨g2,1,none⟩=some y2/\w.cell? ⟨g3,0,none⟩=some x3/\w.cell? ⟨g3,1,none⟩=some y3/\w.cell? ⟨g4,0,none⟩=some x4/\w.cell? ⟨g4,1,none⟩=some y4/\w.cell? ⟨g5,0,none⟩=some x5/\w.cell? ⟨g5,1,none⟩=some y5/\w.cell? ⟨g6,0,none⟩=some x6/\w.cell? ⟨g6,1,none⟩=some y6/\w.cell? ⟨g7,0,none⟩=some x7/\w.cell? ⟨g7,1,none⟩=some y7 :=
 ⟨(h.box _ ak).facts.1,(h.box _ ak).facts.2.1,(h.box _ au).facts.1,(h.box _ au).facts.2.1,(h.box _ ax).facts.1,(h.box _ ax).facts.2.1,(h.box _ ay).facts.1,(h.box _ ay).facts.2.1,(h.box _ az).facts.1,(h.box _ az).facts.2.1,(h.box _ aA).facts.1,(h.box _ aA).facts.2.1,(h.box _ aB).facts.1,(h.box _ aB).facts.2.1,(h.box _ aC).facts.1,(h.box _ aC).facts.2.1⟩
end Lw
namespace Go.Proofs.AZQ
open Go Go.RowKit Lw
theorem abY{t:TypeId}{W0 w:World}{bs:List Bx}{L:List En}{v v':Value}{x y:Int}{k k':Nat}{b b':Bool}(HE:Env t W0 w bs L)(h:⟨v,x,k,b⟩∈L)(h':⟨v',y,k',b'⟩∈L)(hk:k+k'<=10000) :
  Calls Tryz.prog 139 #[v,v'] w fun e w' => ∃ u,e = .returned u/\Env t W0 w' bs (⟨u,((Nat.gcd x.natAbs y.natAbs:Nat):Int),k+k'+1,true⟩::L):=by
 have H1:=HE.ops _ h;have H2:=HE.ops _ h'
 have hz:((Nat.gcd x.natAbs y.natAbs:Nat):Int).natAbs<pw (k+k'+1):=by
  have h9:=xG (x:=(x.natAbs:Int)) (y:=(y.natAbs:Int)) (by rw [ahx];exact H1.lt) (by rw [ahx];exact H2.lt);rw [<- aiD,ahx] at h9;rw [ahx];refine ahO ?_ h9;rcases ahE x.natAbs with e | e
  ·rw [e,Nat.gcd_zero_left];omega
  ·exact ahk (ai1 _ e) (Nat.le_add_right _ _)
 obtain ⟨s,A,n,c,ns,B,e1,h2,h3,h4,h5,h6,e7,h8⟩:=H1;obtain ⟨s',A',n',c',ns',B',e1',h2',h3',h4',h5',h6',gV,h8'⟩:=H2;dsimp only at e1 e7 e1' gV h5 h5' hz;subst e1 e1' e7 gV;exact (abO s s' A A' ns ns' n n' c c' B B' w h2 h2' h3 h3' h4 h4' af af h6 h6').mono fun e w' hh=>DD HE hh hz
end Go.Proofs.AZQ
