/- Part of a proof, said shortly. -/
import Derived.Deep.RegionHeld3
import Derived.Deep.LoopGhost
import Derived.Test.YtkcpphebkmnonaaGreatDoorAlz
import Derived.Test.YtkcpphebkmnonaaGreatDoorC1
import Derived.Test.YtkcpphebkmnonaaGreatDoorC13
import Derived.Test.YtkcpphebkmnonaaGreatDoorC4
import Derived.Test.YtkcpphebkmnonaaGreatDoorC2
import Derived.Test.YtkcpphebkmnonaaGreatDoorC3
import Derived.Test.YtkcpphebkmnonaaGreatDoorC8
import Derived.Test.YtkcpphebkmnonaaGreatDoorC7
import Derived.Test.YtkcpphebkmnonaaGreatDoorC6
import Derived.Test.YtkcpphebkmnonaaGreatDoorC5
namespace Lw
def Dv(X Y j Q R:Nat):Prop:=R<Y /\ ∃ q,Q=q*2^j/\X/2^j=q*Y+R
theorem aeS{X Y j:Nat}(hY:0<Y)(h:X<2^j):Dv X Y j 0 0:=⟨hY,0,by simp,by rw [auZ h];simp⟩
theorem aeR{X Y Q R:Nat}(h:Dv X Y 0 Q R):Q=X/Y/\R=X%Y:=by
 obtain ⟨h1,q,h2,h3⟩:=h;simp only [Nat.pow_zero,auW,avC] at h2 h3;subst h3;have hY:0<Y:=af;rw [auE,Nat.mul_add_div hY,Nat.mul_add_mod,auZ h1,avw h1];omega
theorem Vh(X j:Nat):X/2^j=2*(X/2^(j+1))+X/2^j%2:=by
 rw [auR,<- avK];omega
theorem aeQ{X Y j Q R R':Nat}(h:Dv X Y (j+1) Q R)(hR:R'=2*R+X/2^j%2)(hl:R'<Y):Dv X Y j Q R':=by
 obtain ⟨h1,q,h2,h3⟩:=h;refine ⟨hl,2*q,by rw [h2,auR];grind,?_⟩;rw [Vh X j,h3,hR];grind
theorem aeT{X Y j Q R R':Nat}(h:Dv X Y (j+1) Q R)(hR:R'=2*R+X/2^j%2)(hl:Y<=R'):Dv X Y j (Q+2^j) (R'-Y):=by
 obtain ⟨h1,q,h2,h3⟩:=h;refine ⟨af,2*q+1,by rw [h2,auR];grind,?_⟩;rw [Vh X j,h3,auI,auQ];grind
theorem Uo{l:List Nat}(h:bK l)(k:Nat):dg l k=val l/pw k%4294967296:=by
 rcases auA k l.length with hk | hk
 ·have h1:=kY h k
  have h2:val l=lo l k+pw k*val (l.drop k):=by have:=zJ l k;rwa [au4 af] at this
  have h3:val (l.drop k)=dg l k+4294967296*val (l.drop (k+1)):=by
   rw [avQ hk,oK,uj hk]
  have h4:=gI h k;rw [h2,avo _ _ (lQ k),auZ h1,h3];omega
 ·rw [uh hk,auZ (auD (eP h) (fJ hk))]
theorem NF(s:Nat):2^s=pw (s/32)*2^(s%32):=by
 unfold pw;rw [show (4294967296:Nat)=2^32 from rfl,<- Nat.pow_mul,<- auS];grind
theorem ah9{t:Nat}(h:t<=31):(4294967296:Nat)=2^t*(2*2^(31-t)):=by
 rw [<- Nat.pow_succ',<- auS,show t+(31-t+1)=32 by omega]
theorem adw{l:List Nat}(h:bK l)(j:Nat):dg l (j/32)/2^(j%32)%2=val l/2^j%2:=by
 rw [Uo h,NF j,<- avK];generalize val l/pw (j/32)=H;have h1:=ah9 (t:=j%32) af;have h2:=Nat.mod_add_div H 4294967296;generalize H%4294967296=x at *;generalize H/4294967296=y at *;rw [<- h2,h1,auH,avo _ _ (auO af),auH];omega
theorem adx{l:List Nat}{q j:Nat}(h:bK l)(hv:val l=q*2^(j+1)) :
  ∃ e,dg l (j/32)=e*2^(j%32+1)/\dg l (j/32)+2^(j%32)<4294967296:=by
 have e1:val l/pw (j/32)=q*2^(j%32+1):=by
  rw [hv,auR,NF j,show q*(pw (j/32)*2^(j%32)*2)=pw (j/32)*(q*2^(j%32+1)) by rw [auR];grind,Nat.mul_div_cancel_left _ (lQ _)]
 have e2:=Uo h (j/32);rw [e1] at e2;have e3:(4294967296:Nat)=2^(j%32+1)*2^(31-j%32):=by rw [<- auS,show j%32+1+(31-j%32)=32 by omega]
 have hq:0<2^(31-j%32):=auO af
 have e4:q*2^(j%32+1)%4294967296=(q%2^(31-j%32))*2^(j%32+1):=by
  rw [e3,auE q,Nat.mul_mod_mul_left,auE]
 rw [e4] at e2;refine ⟨q%2^(31-j%32),e2,?_⟩;have h5:=auz q hq;have h6:(q%2^(31-j%32)+1)*2^(j%32+1)<=2^(31-j%32)*2^(j%32+1):=auB _ h5;have e5:2^(j%32+1)=2*2^(j%32):=Nat.pow_succ';rw [e2];generalize q%2^(31-j%32)=E at *;generalize 2^(31-j%32)=F at *;rw [e5] at *;generalize 2^(j%32)=P at *;rw [auE] at e3;have e6:(E+1)*(2*P)=E*(2*P)+2*P:=by grind
 omega
theorem amd{l:List Nat}{k:Nat}(v:Nat)(h:k<l.length):val (l.set k v)+pw k*dg l k=val l+pw k*v:=by
 induction l generalizing k with
 | nil=>simp at h
 | cons x l ih =>
  cases k with
  | zero=>simp [oK,sH,dg];omega
  | succ k =>
   rw [List.set_cons_succ,oK,oK,fK,show dg (x::l) (k+1)=dg l k by simp [dg]];grind
theorem amb{l:List Nat}{j:Nat}(h:j/32<l.length):val (l.set (j/32) (dg l (j/32)+2^(j%32)))=val l+2^j:=by
 have:=amd (l:=l) (dg l (j/32)+2^(j%32)) h;rw [NF j];grind
theorem afC{a b:Nat}(h:¬(a%2=0/\b%2=0)):Nat.gcd a b%2=1:=by
 rcases Nat.mod_two_eq_zero_or_one (Nat.gcd a b) with h1 | h1
 ·exfalso
  have h2:2 ∣ Nat.gcd a b:=af;have h3:=Nat.mod_eq_zero_of_dvd (avJ h2 (avr a b));have h4:=Nat.mod_eq_zero_of_dvd (avJ h2 (avb a b));omega
 ·exact h1
theorem UZ{a b:Nat}(h:Nat.gcd a b%2=1)(ha:a%2=0):Nat.gcd (a/2) b=Nat.gcd a b:=by
 have hb:b%2=1:=by
  rcases Nat.mod_two_eq_zero_or_one b with h1 | h1
  ·exfalso
   have:=Nat.mod_eq_zero_of_dvd (Nat.dvd_gcd (Nat.dvd_of_mod_eq_zero ha) (Nat.dvd_of_mod_eq_zero h1));omega
  ·exact h1
 have hc:Nat.Coprime 2 b:=by
  unfold Nat.Coprime;have h1:=Nat.gcd_rec 2 b
  simp_all
 have:=Nat.Coprime.gcd_mul_left_cancel (a/2) hc;grind
theorem gcd_both{a b:Nat}(ha:a%2=0)(hb:b%2=0):2*Nat.gcd (a/2) (b/2)=Nat.gcd a b:=by
 rw [<- Nat.gcd_mul_left,show 2*(a/2)=a from af,show 2*(b/2)=b by omega]
def Gt(G a0 T a b:Nat):Prop:=2^T*Nat.gcd a b=G/\2^T*a=a0/\0<a/\0<b
theorem afN{a b:Nat}(ha:0<a)(hb:0<b):Gt (Nat.gcd a b) a 0 a b:=⟨by simp,by simp,ha,hb⟩
theorem afO{G a0 T a b:Nat}(h:Gt G a0 T a b)(ha:a%2=0)(hb:b%2=0):Gt G a0 (T+1) (a/2) (b/2)/\a/2<a:=by
 obtain ⟨h1,h2,h3,h4⟩:=h;refine ⟨⟨?_,?_,af,af⟩,af⟩
 ·rw [auR,auH,gcd_both ha hb];exact h1
 ·rw [auR,auH,show 2*(a/2)=a by omega];exact h2
theorem afM{G a0 T a b k:Nat}(h:Gt G a0 T a b)(hk:a0<4294967296^k):T<32*k:=by
 obtain ⟨_,h2,h3,_⟩:=h;have h1:2^T*1<=2^T*a:=auG _ h3;have h4:(4294967296:Nat)^k=2^(32*k):=by rw [Nat.pow_mul]
 have h5:2^T<2^(32*k):=af;exact (Nat.pow_lt_pow_iff_right af).1 h5
def Gw(g a b:Nat):Prop:=Nat.gcd a b=g/\g%2=1/\0<b
theorem afT{g a b:Nat}(h:Gw g a b)(ha:a%2=0):Gw g (a/2) b:=by
 obtain ⟨h1,h2,h3⟩:=h;exact ⟨by rw [UZ (by rw [h1];exact h2) ha,h1],h2,h3⟩
theorem afU{g a b:Nat}(h:Gw g a b)(hb:b%2=0):Gw g a (b/2):=by
 obtain ⟨h1,h2,h3⟩:=h;exact ⟨by rw [auY,UZ (by rw [auY,h1];exact h2) hb,auY,h1],h2,af⟩
theorem U8{g a b:Nat}(h:Gw g a b)(hl:b<=a):Gw g (a-b) b:=⟨by rw [Nat.gcd_sub_self_left hl];exact h.1,h.2.1,h.2.2⟩
theorem afV{g a b:Nat}(h:Gw g a b)(ha:0<a):Gw g b a:=⟨by rw [auY];exact h.1,h.2.1,ha⟩
theorem afS{g b:Nat}(h:Gw g 0 b):b=g:=by have:=h.1;rwa [avL] at this
theorem af9{ds ns:List Nat}{k d x y:Nat}(hv:2*lo ds k+dg ns 0%2=lo ns k+pw k*(dg ns k%2))(hx:x=dg ns k)(hy:y=dg ns (k+1))(hd:d=x/2+y%2*2147483648) :
  2*(lo ds k+pw k*d)+dg ns 0%2=lo ns (k+1)+pw (k+1)*(dg ns (k+1)%2):=by
 rw [dh,fK,<- hx,<- hy];rw [<- hx] at hv;have e:pw k*(2*d+x%2)=pw k*(x+4294967296*(y%2)):=by congr 1;omega
 grind
theorem af8{ds ns:List Nat}{n:Nat}(hd:ds.length=n)(hn:ns.length=n)(hv:2*lo ds n+dg ns 0%2=lo ns n+pw n*(dg ns n%2)):val ds=val ns/2:=by
 rw [dB af,dB af,uh (l:=ns) (j:=n) af] at hv;omega
theorem IP{ns:List Nat} : dg ns 0%2=val ns%2:=by
 cases ns with
 | nil=>rfl
 | cons x l=>rw [oK,show dg (x::l) 0=x from rfl];omega
end Lw
namespace Lw
open Go Go.RowKit
theorem ag8{l:List Nat}(h:bK l):val l<2^rZ l:=by
 unfold rZ
 split
 ·rename_i h0;rw [auK h0];simp [val]
 ·rename_i h0
  have h1:=dh l (l.length-1);rw [show l.length-1+1=l.length from af,dB (aut _)] at h1;have h2:=kY h (l.length-1);have h3:=gI h (l.length-1);generalize dg l (l.length-1)=d at *
  have h4:d<2^Lib.bitLen d:=by
   rcases auJ d with h0 | h0
   ·grind
   ·exact (bitLen_spec af af).2.2.1
  rw [auS,show 2^((l.length-1)*32)=pw (l.length-1) by unfold pw;rw [auE,Nat.pow_mul]];have h5:pw (l.length-1)*(d+1)<=pw (l.length-1)*2^Lib.bitLen d:=auG _ h4;grind
theorem ahK{l:List Nat}(h:bK l):rZ l<=32*l.length:=by
 unfold rZ
 split
 ·omega
 ·have:=adu (gI h (l.length-1));omega
theorem af6{x y:Nat}(hx:x<4294967296)(hy:y<4294967296):bits .or .u64 ((x:Int)/2) ((y:Int)*2147483648)=((x/2+2147483648*y:Nat):Int):=by
 have h1:=u64_or_nat (x/2) (y*2147483648) af af;have h3:=I7 (i:=31) (a:=y) (b:=x/2) (by simp only [Nat.reducePow];omega);grind
theorem alj{ds ns ms:List Nat}{k b d R x y:Nat}(hk:k<ds.length)(hv:lo ds k+lo ms k=lo ns k+pw k*b)(hb:b<=1)(hx:x=dg ns k)(hy:y=dg ms k)(hn:x<4294967296)(hm:y<4294967296)(hd:d=4294967296+x-y-b)(hR:R=d%4294967296) :
  lo (ds.set k R) (k+1)+lo ms (k+1)=lo ns (k+1)+pw (k+1)*(1-d/4294967296)/\1-d/4294967296<=1:=by
 refine ⟨?_,af⟩;rw [mD _ hk,dh ms,dh ns,fK,<- hx,<- hy];have h5:R+y+b=x+4294967296*(1-d/4294967296):=af;generalize 1-d/4294967296=q at *;have h2:pw k*(R+y+b)=pw k*(x+4294967296*q):=by rw [h5]
 grind
end Lw
namespace Go.Proofs.BGQ
open Go Go.RowKit Lw
def KW(w:World)(N:Nat)(e:Ending)(w':World):Prop :=
 ∃ g n c,e = .returned (.slice (some ⟨g,0,none⟩) n c)/\Hid ((bn N).length=n)/\n<=c/\w.heap.size<=g/\bM w' g 113 (bn N)/\Below w.heap.size w w'
theorem V6{w w':World}{N:Nat}{e:Ending}(h:zV w N e w'):KW w N e w':=by
 obtain ⟨g,c,h1,h2,h3,h4,h5⟩:=h;exact ⟨g,_,c,h1,Lib.hid rfl,h2,h3,h4,h5⟩
theorem Jt(A:Option Addr)(ns:List Nat)(n c B N:Nat)(w:World)(h:Rd w B A ns)(hB:B<=w.heap.size)(hn:ns.length=n)(hl:n<=4294967296)(hN:val ns=N) :
  Calls Tryz.prog 153 #[.slice A n c] w (KW w N):=by
 subst hN;exact (Fv A ns n c B w h hB hn hl).mono fun e w' hh=>V6 hh
theorem adp(A:Option Addr)(ns:List Nat)(n c B k:Nat)(i:Int)(w:World)(h:Rd w B A ns)(hn:ns.length=n)(hl:n<=4294967296)(hi:i=(k:Int)) :
  Calls Tryz.prog 183 #[.slice A n c,.int .i64 i] w fun e w'=>e = .returned (.int .u64 (dg ns k:Int))/\w=w':=by
 subst hi;exact kW A ns n c B k w h hn hl
set_option maxHeartbeats 400000 in
theorem Ov(A:Option Addr)(ns:List Nat)(n c B:Nat)(w:World)(h:Rd w B A ns)(hn:ns.length=n)(hc:n<=c)(hl:n<=4294967296) :
  Calls Tryz.prog 180 #[.slice A n c] w fun e w'=>e = .returned (.slice A (bn (val ns)).length c)/\w=w':=by
 have Hn:=Lib.hid hn
 go_enter Tryz.func180,Tryz.ntmps180
 clear hn
 go_wp2
 go_loop [0] (fun v => ∃ k:Nat,k<=n/\v = .slice A k c/\Hid (val (ns.take k)=val ns)) (fun v=>cnt v)
 case atStart=>exact ⟨n,aut _,rfl,Lib.hid (by rw [<- Hn.out,List.take_length])⟩
 case round =>
  obtain ⟨k,hk,rfl,hv⟩:=hrel
  by_cases hk0:k=0
  ·subst hk0
   go_wp2
   go_ret
   exact ⟨lT (BL h.bP (auw _) hv.out (.inl rfl)),rfl⟩
  ·obtain ⟨b,off,rfl,hb,hcell,hlt⟩:=h.at_ (k:=k-1) (by rw [Hn.out];omega)
   by_cases hd:dg ns (k-1)=0
   ·have HV:Hid (val (ns.take (k-1))=val ns):=Lib.hid (O0 (by rw [Hn.out];exact hk) hk0 hv.out hd)
    go_wp2
    go_round
    case rel=>exact ⟨k-1,af,rfl,HV⟩
    case measure=>simp [cnt];omega
   ·go_wp2
    go_ret
    exact ⟨lT (BL h.bP (by rw [Hn.out];exact hk) hv.out (.inr hd)),rfl⟩
set_option maxRecDepth 100000 in
set_option maxHeartbeats 1600000 in
theorem af7(g:Nat)(ns:List Nat)(n c:Nat)(w:World)(hb:bM w g 113 ns)(hw:bK ns)(hn:ns.length=n)(hc:n<=c)(hl:n<=16777216) :
  Calls Tryz.prog 178 #[.slice (some ⟨g,0,none⟩) n c] w fun e w'=>e = .returned (.slice (some ⟨g,0,none⟩) (bn (val ns/2)).length c)/\(bn (val ns/2)).length<=n/\bM w' g 113 (bn (val ns/2))/\w.grownBy w' (some g)/\w'.heap.size=w.heap.size:=by
 have Hn:=Lib.hid hn;clear hn
 go_enter Tryz.func178,Tryz.ntmps178
 go_wp2_with fail
 go_loopw [6] (fun i wr => ∃ (k:Nat) (ds:List Nat),k<=n/\i = .int .i64 k/\bM wr g 113 ds/\Hid (ds.length=n)/\bK ds/\Hid (∀ j,k<=j->dg ds j=dg ns j)/\Hid (2*lo ds k+dg ns 0%2=lo ns k+pw k*(dg ns k%2))/\Hid (w.grownBy wr (some g)/\wr.heap.size=w.heap.size)) (fun i _=>n-(intOf i).toNat)
 case atStart=>exact ⟨0,ns,auw _,rfl,hb,Hn,hw,Lib.hid (fun _ _=>rfl),Lib.hid (by simp only [iW,sH];omega),Lib.hid ⟨World.grownBy.refl w _,rfl⟩⟩
 case round =>
  obtain ⟨k,ds,hk,rfl,hb1,hdl,hdw,hsame,hv,hg⟩:=hrel;clear hb;have hr:=hb1.rd hdw
  by_cases hkn:k<n
  ·have hlt:=gI hdw k
   have hlt':=gI hdw (k+1);have hfr:=hb1.frozen k;have hcc:=hb1.cell (i:=k) (by rw [hdl.out];exact hkn);have yg:=Lib.hid (fun v=>hb1.ve (i:=k) v (by rw [hdl.out];exact hkn));have pG:=fun D x y (e1:x=dg ds k) (e2:y=dg ds (k+1)) e3=>af9 (d:=D) (x:=x) (y:=y) hv.out (by rw [e1,hsame.out k (aut _)]) (by rw [e2,hsame.out (k+1) af]) e3;have Hx:=fun W hW=>kW (some ⟨g,0,none⟩) ds n c wr.heap.size k W hW hdl.out af;have Hy:=fun W hW=>adp (some ⟨g,0,none⟩) ds n c wr.heap.size (k+1) ((k:Int)+1) W hW hdl.out af af;obtain ⟨x,hx⟩ : ∃ x,x=dg ds k:=⟨_,rfl⟩;obtain ⟨y,hy⟩ : ∃ y,y=dg ds (k+1):=⟨_,rfl⟩;obtain ⟨D,hD⟩ : ∃ D,D=x/2+y%2*2147483648:=⟨_,rfl⟩;have HST:=Lib.hid (pG D x y hx hy hD);rw [<- hx] at hlt hcc Hx;rw [<- hy] at hlt' Hy;have HX:=Lib.hid Hx;have HY:=Lib.hid Hy;obtain ⟨O,Va⟩ : ∃ O,O=x/2+2147483648*y:=⟨_,rfl⟩;have hO:=af6 hlt hlt';rw [<- Va] at hO;have hM:(O:Int)%4294967296=(D:Int):=af;have hDl:D<4294967296:=af;clear pG Hx Hy hx hy hD Va
   go_wp2_with fail
   refine (HX.out _ hr).mono ?_;rintro e w' ⟨rfl,rfl⟩
   go_wp2_with fail
   refine (HY.out _ hr).mono ?_;rintro e w' ⟨rfl,rfl⟩
   go_wp2_with fail
   go_roundw
   case rel =>
    refine ⟨k+1,ds.set k D,af,by go_num,yg.out D,Lib.hid (by rw [auC];exact hdl.out),jB hdw _ hDl,Lib.hid ?_,Lib.hid ?_,Lib.hid ⟨rQ hg.out.1 _ _,by simp [hg.out.2]⟩⟩
    ·intro j hj
     rw [lq _ (by rw [hdl.out];exact hkn),if_neg af];exact hsame.out j af
    ·rw [mD _ (by rw [hdl.out];exact hkn)];exact HST.out
   case measure=>simp [intOf];omega
  ·obtain rfl:k=n:=af
   have HV:Hid (val ds=val ns/2):=Lib.hid (af8 hdl.out Hn.out hv.out);have HB:=Lib.hid (hb1.bn hdw)
   go_wp2_with fail
   refine (Ov _ ds k c _ _ hr hdl.out hc af).mono ?_;rintro e w' ⟨rfl,rfl⟩;rw [HV.out]
   go_wp2_with fail
   go_ret
   exact ⟨rfl,by rw [<- HV.out];have:=nR hdw;rw [hdl.out] at this;exact this,by rw [<- HV.out];exact HB.out,hg.out.1,hg.out.2⟩
set_option maxRecDepth 100000 in
set_option maxHeartbeats 1600000 in
theorem take_any(g:Nat)(ns ms:List Nat)(n m c c' B:Nat)(A':Option Addr)(w:World)(hb:bM w g 113 ns)(hw:bK ns)(h':Rd w B A' ms)(hB:B<=w.heap.size)(hne:0<m -> ∀ a,A'=some a->a.block≠g)(hn:ns.length=n)(hm:ms.length=m)(hmn:m<=n)(hl:n<=16777216)(hle:val ms<=val ns) :
  Calls Tryz.prog 179 #[.slice (some ⟨g,0,none⟩) n c,.slice A' m c'] w fun e w' => ∃ ds,e = .returned (.tuple #[])/\bM w' g 113 ds/\bK ds/\ds.length=n/\val ds=val ns-val ms/\w.grownBy w' (some g)/\w'.heap.size=w.heap.size:=by
 have Hn:=Lib.hid hn;have Hm:=Lib.hid hm;have lX:=Lib.hid hle;have HNE:=Lib.hid hne;clear hn hm hle hne
 go_enter Tryz.func179,Tryz.ntmps179
 go_wp2_with fail
 go_loopw [4,9] (fun bv i wr => ∃ (k b:Nat) (ds:List Nat),k<=n/\b<=1/\i = .int .i64 k/\bv = .int .u64 b/\bM wr g 113 ds/\Hid (ds.length=n)/\bK ds/\Hid (∀ j,k<=j->dg ds j=dg ns j)/\Hid (lo ds k+lo ms k=lo ns k+pw k*b)/\Hid (w.grownBy wr (some g)/\wr.heap.size=w.heap.size)) (fun _ i _=>n-(intOf i).toNat)
 case atStart=>exact ⟨0,0,ns,auw _,af,rfl,rfl,hb,Hn,hw,Lib.hid (fun _ _=>rfl),Lib.hid (by rw [iW,iW];rfl),Lib.hid ⟨World.grownBy.refl w _,rfl⟩⟩
 case round =>
  obtain ⟨k,b,ds,hk,hcar,rfl,rfl,hb1,hdl,hdw,hsame,hv,hg⟩:=hrel;clear hb;have hr:=hb1.rd hdw;have hr':=h'.grown hg.out.1 hB (fun hp=>HNE.out (by rw [<- Hm.out];exact hp))
  by_cases hkn:k<n
  ·have hlt:=gI hdw k
   have hlt':=gI hr'.bP k;have hfr:=hb1.frozen k;have hcc:=hb1.cell (i:=k) (by rw [hdl.out];exact hkn);have yg:=Lib.hid (fun v=>hb1.ve (i:=k) v (by rw [hdl.out];exact hkn));have pG:=fun D R x y (e1:x=dg ds k) e2 e3 e4 e5 e6=>alj (d:=D) (R:=R) (x:=x) (y:=y) (by rw [hdl.out];exact hkn) hv.out hcar (by rw [e1,hsame.out k (aut _)]) e2 e3 e4 e5 e6;have Hx:=fun W hW=>kW (some ⟨g,0,none⟩) ds n c wr.heap.size k W hW hdl.out af;have Hy:=fun W (hW:Rd W B A' ms)=>kW A' ms m c' B k W hW Hm.out af;obtain ⟨x,hx⟩ : ∃ x,x=dg ds k:=⟨_,rfl⟩;obtain ⟨y,hy⟩ : ∃ y,y=dg ms k:=⟨_,rfl⟩;rw [<- hx] at hlt hcc Hx;rw [<- hy] at hlt' Hy;obtain ⟨D,hD⟩ : ∃ D,D=4294967296+x-y-b:=⟨_,rfl⟩;obtain ⟨R,hR⟩ : ∃ R,R=D%4294967296:=⟨_,rfl⟩;have HST:=Lib.hid (pG D R x y hx hy hlt hlt' hD hR);have HX:=Lib.hid Hx;have HY:=Lib.hid Hy;have hDl:D<=8589934591:=af;have hRl:R<4294967296:=af;have hD1:((4294967296:Int)+(x:Int)-(y:Int)-(b:Int))=(D:Int):=af;have hR1:(D:Int)%4294967296=(R:Int):=af;clear pG Hx Hy hx hy hD hR
   go_wp2_with fail
   refine (HX.out _ hr).mono ?_;rintro e w' ⟨rfl,rfl⟩
   go_wp2_with fail
   refine (HY.out _ hr').mono ?_;rintro e w' ⟨rfl,rfl⟩
   go_wp2_with fail
   go_roundw
   case rel =>
    refine ⟨k+1,1-D/4294967296,ds.set k R,af,af,by go_num,by go_num,yg.out R,Lib.hid (by rw [auC];exact hdl.out),jB hdw _ hRl,Lib.hid ?_,Lib.hid HST.out.1,Lib.hid ⟨rQ hg.out.1 _ _,by simp [hg.out.2]⟩⟩;intro j hj;rw [lq _ (by rw [hdl.out];exact hkn),if_neg af];exact hsame.out j af
   case measure=>simp [intOf];omega
  ·obtain rfl:k=n:=af
   have HV:Hid (val ds=val ns-val ms):=Lib.hid (WR hdw (by rw [hdl.out,Hn.out]) (by rw [Hm.out,Hn.out];exact hmn) lX.out (by have:=hv.out;rw [Hn.out];rwa [dB (l:=ds) (by rw [hdl.out];exact aut _)] at this))
   go_wp2_with fail
   refine bodyPost_end (v := .tuple #[]) (by simp [results,Tryz.results179,go_sem]) rfl ?_;exact ⟨ds,rfl,hb1,hdw,hdl.out,HV.out,hg.out.1,hg.out.2⟩
end Go.Proofs.BGQ
namespace Lw
open Go Go.RowKit
theorem aeu{ds rs:List Nat}{k c b x R C:Nat}(hk:k<ds.length)(hv:lo ds k+pw k*c=2*lo rs k+b)(hx:x=dg rs k)(hR:R=2*x%4294967296+c)(hC:C=x/2147483648) :
  lo (ds.set k R) (k+1)+pw (k+1)*C=2*lo rs (k+1)+b:=by
 rw [mD _ hk,dh rs,fK,<- hx];have h5:R+4294967296*C=2*x+c:=af;have h2:pw k*(R+4294967296*C)=pw k*(2*x+c):=by rw [h5]
 grind
theorem aet{ds rs:List Nat}{m c b Y:Nat}(hd:ds.length=m+1)(hr:rs.length=m+1)(hv:lo ds (m+1)+pw (m+1)*c=2*lo rs (m+1)+b)(hb:b<=1)(hY:Y<pw m)(hl:val rs<Y):val ds=2*val rs+b:=by
 rw [dB af,dB af] at hv;rw [fK] at hv;rcases auJ c with h0 | h0
 ·grind
 ·have:4294967296*pw m*1<=4294967296*pw m*c:=auG _ h0
  omega
theorem adv{x t:Nat} : x/2^t%2<=1:=af
theorem Df{x:Nat}(h:x<4294967296):bits .and .u32 (x:Int) 1=((x%2:Nat):Int):=by
 have:=u32_and_nat x 1 h af;grind
theorem Xq{i a b:Nat}(h:b<2^i)(h2:a*2^i<4294967296)(hi:b<4294967296):bits .or .u32 ((a*2^i:Nat):Int) (b:Int)=((a*2^i+b:Nat):Int):=by
 have:=u32_or_nat (a*2^i) b h2 hi;rw [I7 h] at this;exact this
end Lw
namespace Go.Proofs.BGQ
open Go Go.RowKit Lw
set_option maxRecDepth 100000 in
set_option maxHeartbeats 6400000 in
theorem ajO(A A':Option Addr)(ns ms:List Nat)(n m c c' B B':Nat)(w:World)(h:Rd w B A ns)(h':Rd w B' A' ms)(hB:B<=w.heap.size)(hB':B'<=w.heap.size)(hn:ns.length=n)(hm:ms.length=m)(hl:n<=100000)(hl':m<=100000)(hy:0<val ms) :
  Calls Tryz.prog 182 #[.slice A n c,.slice A' m c'] w fun e w' => ∃ g1 n1 c1 g2 n2 c2,e = .returned (.tuple #[.slice (some ⟨g1,0,none⟩) n1 c1,.slice (some ⟨g2,0,none⟩) n2 c2])/\Hid ((bn (val ns/val ms)).length=n1)/\Hid ((bn (val ns%val ms)).length=n2)/\n1<=c1/\n2<=c2/\w.heap.size<=g1/\w.heap.size<=g2/\bM w' g1 113 (bn (val ns/val ms))/\bM w' g2 113 (bn (val ns%val ms))/\Below w.heap.size w w':=by
 have Hn:=Lib.hid hn;have Hm:=Lib.hid hm;have HY:=Lib.hid hy;have HYm:Hid (val ms<pw m):=Lib.hid (by rw [<- hm];exact eP h'.bP);obtain ⟨NB,Il⟩ : ∃ NB,NB=rZ ns:=⟨_,rfl⟩;have aoj:NB<=32*n:=by rw [Il,<- hn];exact ahK h.bP
 have HX:Hid (val ns<2^NB):=Lib.hid (by rw [Il];exact ag8 h.bP);have HNB:=Lib.hid Il;clear hn hm hy Il
 go_enter Tryz.func182,Tryz.ntmps182
 go_wp2_with (first
  | (at_make;refine rF _ rfl _ _ _ rfl 113 ate l9 _ _ _ _ n rfl rfl af af af ?_;intro w1 hblk hbel hsz)
  | (at_make;refine rF _ rfl _ _ _ rfl 113 ate l9 _ _ _ _ (m+1) rfl rfl af af af ?_;intro w2 hblk2 MN hsz2))
 have hb2:=bU hbel MN (aut _);have hq2:=hblk.below MN hblk.lt;rw [hsz] at hblk2;clear hblk hbel MN hsz hsz2;refine (ajM A ns n c B _ (h.below (hb2.mono hB)) Hn.out af).mono ?_;rintro e w' ⟨rfl,rfl⟩;rw [<- HNB.out]
 go_wp2_with fail
 go_loopw [8] (fun iv wr => ∃ (i:Int) (qs rs:List Nat),-1<=i/\i<NB/\iv = .int .i64 i/\bM wr w.heap.size 113 qs/\Hid (qs.length=n)/\bK qs/\bM wr (w.heap.size+1) 113 rs/\Hid (rs.length=m+1)/\bK rs/\Hid (Dv (val ns) (val ms) (i+1).toNat (val qs) (val rs))/\Below w.heap.size w wr) (fun v _=>(intOf v+1).toNat)
 case atStart=>exact ⟨(NB:Int)-1,_,_,af,af,rfl,hq2,Lib.hid (by simp),rD _,hblk2,Lib.hid (by simp),rD _,Lib.hid (by rw [PD,PD,show ((NB:Int)-1+1).toNat=NB by omega];exact aeS HY.out HX.out),hb2⟩
 case round =>
  obtain ⟨i,qs,rs,hi,hiN,rfl,hq,kX,uG,hr,hrl,hrw,hdv,hbw⟩:=hrel;clear hq2 hblk2 hb2;have aoA:=hr.lt
  by_cases hi0:i<0
  ·have HV:Hid (val qs=val ns/val ms/\val rs=val ns%val ms):=Lib.hid (aeR (by have:=hdv.out;rwa [show (i+1).toNat=0 by omega] at this))
   clear hdv
   go_wp2_with fail
   refine (Jt _ qs n n _ (val ns/val ms) _ (hq.rd uG) (aut _) kX.out af HV.out.1).mono ?_;rintro e w3 ⟨g1,n1,c1,rfl,hn1,hc1,hg1,hblk1,hb3⟩;have hr3:=hr.below hb3 hr.lt;have hb4:=bU hbw hb3 (aut _);clear hq hr hb3
   go_wp2_with fail
   refine (Jt _ rs (m+1) (m+1) _ (val ns%val ms) _ (hr3.rd hrw) (aut _) hrl.out af HV.out.2).mono ?_;rintro e w4 ⟨g2,n2,c2,rfl,hn2,hc2,hg2,hblk2,hb5⟩;have agd:=hblk1.below hb5 hblk1.lt;have hb6:=bU hb4 hb5 (aut _);have hg1':w.heap.size<=g1:=auu hbw.size hg1;have Ej:w.heap.size<=g2:=auu hb4.size hg2;clear hblk1 hr3
   go_wp2_with fail
   go_ret2
   exact ⟨g1,n1,c1,g2,n2,c2,rfl,hn1,hn2,hc1,hc2,hg1',Ej,agd,hblk2,hb6⟩
  ·obtain ⟨j,rfl⟩:=au8 (show 0<=i from af)
   have zQ:Hid (Dv (val ns) (val ms) (j+1) (val qs) (val rs)):=Lib.hid (by have:=hdv.out;rwa [show ((j:Int)+1).toNat=j+1 by omega] at this);clear hdv;have hra:=h.below (hbw.mono hB);have hrb:=h'.below (hbw.mono hB');obtain ⟨b,off,rfl,hb,hcell,hlt⟩:=hra.at_ (k:=j/32) (by rw [Hn.out];omega);have hbit:=adw h.bP j;have Ky:Hid (∃ e,dg qs (j/32)=e*2^(j%32+1)/\dg qs (j/32)+2^(j%32)<4294967296):=Lib.hid (by obtain ⟨_,q',e,_⟩:=zQ.out;exact adx uG e);have KR:=Lib.hid (fun (hh:j/32<qs.length)=>amb hh);have hKn:j/32<n:=af;obtain ⟨K,hK⟩ : ∃ K,K=j/32:=⟨_,rfl⟩;obtain ⟨t,ht⟩ : ∃ t,t=j%32:=⟨_,rfl⟩;have e1:(j:Int)/32=(K:Int):=af;have e2:(j:Int)%32=(t:Int):=af;rw [<- hK] at hcell hlt hbit KR hKn;rw [<- hK] at Ky;rw [<- ht] at hbit KR Ky;obtain ⟨x,hx⟩ : ∃ x,x=dg ns K:=⟨_,rfl⟩;rw [<- hx] at hcell hlt hbit;obtain ⟨bt,hbt⟩ : ∃ bt,bt=x/2^t%2:=⟨_,rfl⟩;have Vo:bt<=1:=by rw [hbt];exact adv
   have HBT:Hid (bt=val ns/2^j%2):=Lib.hid (by rw [hbt];exact hbit)
   have hA1:bits .and .u32 ((x:Int)/2^t) 1=(bt:Int):=by
    rw [show (x:Int)/2^t=((x/2^t:Nat):Int) by simp,Df (auM (auU _ _) hlt),hbt]
   clear hbit hbt hx hK ht
   go_wp2_with fail
   go_loopw [9,36] (fun cv kv wi => ∃ (k ca:Nat) (ds:List Nat),k<=m+1/\ca<=1/\kv = .int .i64 k/\cv = .int .u32 ca/\bM wi (w.heap.size+1) 113 ds/\Hid (ds.length=m+1)/\bK ds/\Hid (∀ i,k<=i->dg ds i=dg rs i)/\Hid (lo ds k+pw k*ca=2*lo rs k+bt)/\Hid (wr.grownBy wi (some (w.heap.size+1))/\wi.heap.size=wr.heap.size)) (fun _ k _=>m+1-(intOf k).toNat)
   case atStart=>exact ⟨0,bt,rs,af,Vo,rfl,rfl,hr,hrl,hrw,Lib.hid (fun _ _=>rfl),Lib.hid (by simp only [iW,sH];omega),Lib.hid ⟨World.grownBy.refl wr _,rfl⟩⟩
   case round =>
    obtain ⟨k,ca,ds,hk,hca,rfl,rfl,hd,hdl,hdw,hsame,hval,hg⟩:=hrel;clear hr;have agB:=hg.out.2
    by_cases hkm:k<m+1
    ·have hlt2:=gI hdw k
     have hfr:=hd.frozen k;have hcc:=hd.cell (i:=k) (by rw [hdl.out];exact hkm);have yg:=Lib.hid (fun v=>hd.ve (i:=k) v (by rw [hdl.out];exact hkm));have pG:=fun R C y (e1:y=dg ds k) e2 e3=>aeu (R:=R) (C:=C) (x:=y) (by rw [hdl.out];exact hkm) hval.out (by rw [e1,hsame.out k (aut _)]) e2 e3;obtain ⟨y,hy⟩ : ∃ y,y=dg ds k:=⟨_,rfl⟩;obtain ⟨R,hR⟩ : ∃ R,R=2*y%4294967296+ca:=⟨_,rfl⟩;obtain ⟨C,hC⟩ : ∃ C,C=y/2147483648:=⟨_,rfl⟩;have HST:=Lib.hid (pG R C y hy hR hC);rw [<- hy] at hlt2 hcc;have hRl:R<4294967296:=af;have MB:C<=1:=af;have hCi:(y:Int)/2147483648=(C:Int):=af
     have hO:bits .or .u32 ((y:Int)*2%4294967296) (ca:Int)=(R:Int):=by
      have h1:=Xq (i:=1) (a:=y%2147483648) (b:=ca) af af af;rw [show ((y%2147483648*2^1:Nat):Int)=(y:Int)*2%4294967296 by omega] at h1;rw [h1];omega
     clear pG hy hR hC
     go_wp2_with fail
     have hO2:bits .or .u32 (IntKind.u32.wrap ((y:Int)*2)) (ca:Int)=(R:Int):=by rw [IntKind.wrap_u32];exact hO
     go_region
     go_wp2_with fail
     go_roundw
     case rel =>
      refine ⟨k+1,C,ds.set k R,af,MB,by go_num,by go_num,yg.out R,Lib.hid (by rw [auC];exact hdl.out),jB hdw _ hRl,Lib.hid ?_,HST,Lib.hid ⟨rQ (grown_drewN hg.out.1 _) _ _,by simp [hg.out.2]⟩⟩;intro i hi;rw [lq _ (by rw [hdl.out];exact hkm),if_neg af];exact hsame.out i af
     case measure=>simp [intOf];omega
    ·obtain rfl:k=m+1:=af
     have HRR:Hid (val ds=2*val rs+val ns/2^j%2):=Lib.hid (by rw [<- HBT.out];exact aet hdl.out hrl.out hval.out Vo HYm.out zQ.out.1);have hdr:=hd.rd hdw
     have MZ:=hrb.grown hg.out.1 (auu hB' hbw.size) (fun hp a ha=>by
      obtain ⟨b',off',hA',hb',_⟩:=h'.2 hp;rw [ha] at hA';injection hA' with e;subst e;exact avh (auD hb' (auu hB' (Nat.le_succ _))))
     have hq2:=hq.of_same (hg.out.1.block w.heap.size hq.lt (by intro e;injection e with e;omega));have hbw2:=below_of_grown hbw hg.out.1 hbw.size (Nat.le_succ _);clear hq hval hsame hg
     by_cases hlt3:val ds<val ms
     ·have HC:=Lib.hid (zZ hlt3)
      have HDN:=Lib.hid (aeQ zQ.out HRR.out hlt3);clear hlt3
      go_wp2_with fail
      refine (Fq _ A' ds ms (m+1) m (m+1) c' _ _ _ hdr MZ hdl.out Hm.out af af).mono ?_;rintro e w' ⟨rfl,rfl⟩;rw [HC.out]
      go_wp2_with fail
      go_roundw
      case rel=>exact ⟨(j:Int)-1,qs,ds,af,af,by go_num,hq2,kX,uG,hd,hdl,hdw,Lib.hid (by rw [show ((j:Int)-1+1).toNat=j by omega];exact HDN.out),hbw2⟩
      case measure=>simp [intOf]
     ·obtain ⟨cv,HC,hcv⟩ : ∃ cv:Int,Hid (jl (val ds) (val ms)=cv)/\0<=cv:=by
       rcases auA (val ms) (val ds) with h1 | h1
       ·exact ⟨1,Lib.hid (DC h1),af⟩
       ·exact ⟨0,Lib.hid (Hq af),af⟩
      have lX:Hid (val ms<=val ds):=Lib.hid af;have Rq:=Lib.hid (aeT zQ.out HRR.out lX.out);clear hlt3
      go_wp2_with fail
      refine (Fq _ A' ds ms (m+1) m (m+1) c' _ _ _ hdr MZ hdl.out Hm.out af af).mono ?_;rintro e w' ⟨rfl,rfl⟩;rw [HC.out]
      go_wp2_with fail
      refine (take_any (w.heap.size+1) ds ms (m+1) m (m+1) c' B' A' _ hd hdw MZ af (fun hp a ha=>by
       obtain ⟨b',off',hA',hb',_⟩:=h'.2 (by rw [Hm.out];exact hp);rw [ha] at hA';injection hA' with e;subst e;exact avh (auD hb' (auu hB' (Nat.le_succ _)))) hdl.out Hm.out af af lX.out).mono ?_
      rintro e w5 ⟨rs',rfl,hd5,hw5,hl5,hv5,hg5,hs5⟩;have hq5:=hq2.of_same (hg5.block w.heap.size hq2.lt (by intro e;injection e with e;omega));have agf:=below_of_grown hbw2 hg5 hbw2.size (Nat.le_succ _);rw [<- hv5] at Rq;have HL5:=Lib.hid hl5;have hcq:=hq5.cell (i:=K) (by rw [kX.out];exact hKn);have hfq:=hq5.frozen K;have acv:=Lib.hid (fun v=>hq5.ve (i:=K) v (by rw [kX.out];exact hKn));have GZ:=Lib.hid (KR.out (by rw [kX.out];exact hKn));have hbs:=Ky.out;obtain ⟨v,hv⟩ : ∃ v,v=dg qs K:=⟨_,rfl⟩;rw [<- hv] at hcq GZ hbs;obtain ⟨P,hP⟩ : ∃ P,P=2^t:=⟨_,rfl⟩;obtain ⟨ev,he1,he2⟩:=hbs;rw [<- hP] at GZ he2;have hP2:(2:Int)^t=(P:Int):=by rw [hP];simp
      have hO3:bits .or .u32 (v:Int) (P:Int)=((v+P:Nat):Int):=by
       rw [he1];exact Xq (by rw [hP];exact Nat.pow_lt_pow_right af af) (by rw [<- he1];omega) af
      have hPw:IntKind.u32.wrap (P:Int)=(P:Int):=IntWalk.u32_in _ af;obtain ⟨V,hV⟩ : ∃ V,V=v+P:=⟨_,rfl⟩;rw [<- hV] at hO3 GZ;have hVl:V<4294967296:=af;clear hq2 hd hv hP he1 he2 hV hv5 hl5 hg5 hs5
      go_wp2_with fail
      go_region
      go_wp2_with fail
      go_roundw
      case rel =>
       refine ⟨(j:Int)-1,qs.set K V,rs',af,af,by go_num,acv.out V,Lib.hid (by rw [auC];exact kX.out),jB uG _ hVl,hd5.far (by simp) _,HL5,hw5,Lib.hid ?_,(agf.setCell (aut _) _).drew⟩;rw [show ((j:Int)-1+1).toNat=j from af,GZ.out];exact Rq.out
      case measure=>simp [intOf]
end Go.Proofs.BGQ
namespace Lw
open Go Go.RowKit
theorem Ut{a b:Nat}(h:b<=a):(bn b).length<=(bn a).length:=jG (auM h (yP (aut _)))
end Lw
namespace Go.Proofs.BGQ
open Go Go.RowKit Lw
def ac0(w:World)(N:Nat)(e:Ending)(w':World):Prop :=
 ∃ A n c,e = .returned (.slice A n c)/\Hid ((bn N).length=n)/\n<=c/\Rd w' w'.heap.size A (bn N)/\Below w.heap.size w w'
theorem Iq(g M n c:Nat)(w:World)(hb:bM w g 113 (bn M))(hn:(bn M).length=n)(hc:n<=c)(hl:n<=16777216) :
  Calls Tryz.prog 178 #[.slice (some ⟨g,0,none⟩) n c] w fun e w' => ∃ n',e = .returned (.slice (some ⟨g,0,none⟩) n' c)/\Hid ((bn (M/2)).length=n')/\n'<=n/\bM w' g 113 (bn (M/2))/\w.grownBy w' (some g)/\w'.heap.size=w.heap.size:=by
 refine (af7 g (bn M) n c w hb (fB _) hn hc hl).mono fun e w' hh => ?_;rw [bQ] at hh;obtain ⟨h1,h2,h3,h4,h5⟩:=hh;exact ⟨_,h1,Lib.hid rfl,h2,h3,h4,h5⟩
theorem ajV(A A':Option Addr)(X Y:Nat)(n m c c':Nat)(B B':Nat){w:World}(h:Rd w B A (bn X))(h':Rd w B' A' (bn Y))(hB:B<=w.heap.size)(hB':B'<=w.heap.size)(hn:(bn X).length=n)(hm:(bn Y).length=m)(hl:n<=16777216)(hl':m<=16777216)(Z:Nat)(hZ:X+Y=Z) :
  Calls Tryz.prog 150 #[.slice A n c,.slice A' m c'] w (KW w Z):=by
 subst hZ;refine (Yy A A' (bn X) (bn Y) n m c c' B B' w h h' hB hB' hn hm hl hl').mono fun e w' hh => ?_;rw [bQ,bQ] at hh;exact V6 hh
set_option maxRecDepth 100000 in
set_option maxHeartbeats 12800000 in
theorem ajP(A A':Option Addr)(ns ms:List Nat)(n m c c' B B':Nat)(w:World)(h:Rd w B A ns)(h':Rd w B' A' ms)(hB:B<=w.heap.size)(hB':B'<=w.heap.size)(hn:ns.length=n)(hm:ms.length=m)(hl:n<=100000)(hl':m<=100000) :
  Calls Tryz.prog 144 #[.slice A n c,.slice A' m c'] w (ac0 w (Nat.gcd (val ns) (val ms))):=by
 have RH:Hid (val ns<pw n):=Lib.hid (by rw [<- hn];exact eP h.bP);have yf:Hid ((bn (val ns)).length<=n):=Lib.hid (by rw [<- hn];exact nR h.bP);have zS:Hid ((bn (val ms)).length<=m):=Lib.hid (by rw [<- hm];exact nR h'.bP);have ht1:=Jt A ns n c B (val ns) w h hB hn af rfl;have ht2:=fun W (hb:Below w.heap.size w W)=>Jt A' ms m c' B' (val ms) W (h'.next hb hB') (auu hB' hb.size) hm af rfl;generalize val ns=X at *;generalize val ms=Y at *;have HT1:=Lib.hid ht1;have HT2:=Lib.hid ht2;clear ht1 ht2 h h' hB hB' hn hm
 go_enter Tryz.func144,Tryz.ntmps144
 go_wp2_with fail
 refine HT1.out.mono ?_;rintro e w1 ⟨g1,n1,c1,rfl,hl1,hc1,hg1,hb1,Iu⟩
 go_wp2_with fail
 refine (HT2.out _ Iu).mono ?_;rintro e w2 ⟨g2,n2,c2,rfl,hl2,hc2,hg2,hb2,hbw2⟩;have hb1':=hb1.below hbw2 hb1.lt;have MQ:g1≠g2:=by have:=hb1.lt;omega
 have hbw:=bU Iu hbw2 (aut _);have Ej:w.heap.size<=g2:=auu Iu.size hg2;have hn1:n1<=100000:=by rw [<- hl1.out];exact auu yf.out hl
 have hn2:n2<=100000:=by rw [<- hl2.out];exact auu zS.out hl'
 clear hb1 Iu hbw2 hg2 HT1 HT2 yf zS
 by_cases h10:n1=0
 ·have HX0:Hid (Nat.gcd X Y=Y):=Lib.hid (by rw [(kK.1 (auK (by rw [hl1.out];exact h10)):X=0),avL])
  subst h10
  go_wp2_with fail
  go_ret
  rw [HX0.out];exact ⟨_,n2,c2,rfl,hl2,hc2,hb2.rd (fB _),hbw⟩
 by_cases h20:n2=0
 ·have KT:Hid (Nat.gcd X Y=X):=Lib.hid (by rw [(kK.1 (auK (by rw [hl2.out];exact h20)):Y=0),avS])
  have hq1:((n1:Int)==0)=false:=by rw [beq_eq_false_iff_ne];omega
  subst h20;clear h10
  go_wp2_with fail
  go_ret
  rw [KT.out];exact ⟨_,n1,c1,rfl,hl1,hc1,hb1'.rd (fB _),hbw⟩
 have HX0:Hid (0<X):=Lib.hid (avd (fun e=>h10 (by rw [<- hl1.out,e];rfl)));have KT:Hid (0<Y):=Lib.hid (avd (fun e=>h20 (by rw [<- hl2.out,e];rfl)));have hq1:((n1:Int)==0)=false:=by rw [beq_eq_false_iff_ne];omega
 have hq2:((n2:Int)==0)=false:=by rw [beq_eq_false_iff_ne];omega
 clear h10 h20
 go_wp2_with fail
 go_loopg [0,1,5] X (fun M av bv tv wq => ∃ (N T na nb:Nat),av = .slice (some ⟨g1,0,none⟩) na c1/\bv = .slice (some ⟨g2,0,none⟩) nb c2/\tv = .int .i64 T/\Hid ((bn M).length=na)/\Hid ((bn N).length=nb)/\na<=n1/\nb<=n2/\bM wq g1 113 (bn M)/\bM wq g2 113 (bn N)/\Hid (Gt (Nat.gcd X Y) X T M N)/\Below w.heap.size w wq)
 case atStart=>exact ⟨Y,0,n1,n2,rfl,rfl,rfl,hl1,hl2,aut _,aut _,hb1',hb2,Lib.hid (afN HX0.out KT.out),hbw⟩
 case round =>
  obtain ⟨N1,T,na,nb,rfl,rfl,rfl,hla,hlb,hna,hnb,hba,hbb,hgt,Iw⟩:=hrel;generalize gk=M1 at *;clear hb1' hb2 hbw hl1 hl2;have hTl:T<=3200000:=by have:=afM hgt.out RH.out;omega
  have Vt:0<na:=by rw [<- hla.out];exact avd (fun e=>by have h9:=kK.1 (auK e);have:=hgt.out.2.2.1;omega)
  have agu:0<nb:=by rw [<- hlb.out];exact avd (fun e=>by have h9:=kK.1 (auK e);have:=hgt.out.2.2.2;omega)
  have hcc:=hba.cell (i:=0) (by rw [hla.out];exact Vt);have hcd:=hbb.cell (i:=0) (by rw [hlb.out];exact agu);have hxl:=gI (fB M1) 0;have hyl:=gI (fB N1) 0;have hxb:=IP (ns:=bn M1);have hyb:=IP (ns:=bn N1);rw [bQ] at hxb hyb;obtain ⟨x,hx⟩ : ∃ x,x=dg (bn M1) 0:=⟨_,rfl⟩;obtain ⟨y,hy⟩ : ∃ y,y=dg (bn N1) 0:=⟨_,rfl⟩;rw [<- hx] at hcc hxl hxb;rw [<- hy] at hcd hyl hyb;have hA1:=Df hxl;have hA2:=Df hyl;rw [hxb] at hA1;rw [hyb] at hA2;clear hx hy hxb hyb hxl hyl
  by_cases hev:M1%2=0/\N1%2=0
  ·have HST:=Lib.hid (afO hgt.out hev.1 hev.2)
   have hA3:bits .and .u32 (x:Int) 1=0:=by rw [hA1,hev.1];rfl
   have hA4:bits .and .u32 (y:Int) 1=0:=by rw [hA2,hev.2];rfl
   clear hA1 hA2 hev
   go_wp2_with fail
   refine (Iq g1 M1 na c1 _ hba hla.out af af).mono ?_;rintro e w6 ⟨n6,rfl,Em,Vs,hb6,jo,hs6⟩;have Ir:=hbb.of_same (jo.block g2 hbb.lt (by intro e;injection e with e;exact MQ e.symm));have uy:=below_of_grown Iw jo Iw.size hg1;clear hba hbb jo hcc hcd
   go_wp2_with fail
   refine (Iq g2 N1 nb c2 _ Ir hlb.out af af).mono ?_;rintro e w7 ⟨n7,rfl,uF,hn7,hb7,qi,hs7⟩;have agc:=hb6.of_same (qi.block g1 hb6.lt (by intro e;injection e with e;exact MQ e));have Eh:=below_of_grown uy qi uy.size Ej;clear hb6 Ir qi
   go_wp2_with fail
   go_roundg (M1/2)
   case measure=>exact HST.out.2
   case rel=>exact ⟨N1/2,T+1,n6,n7,rfl,rfl,by go_num,Em,uF,af,af,agc,hb7,Lib.hid HST.out.1,Eh⟩
  ·obtain ⟨d,hd⟩ : ∃ d,d=Nat.gcd M1 N1:=⟨_,rfl⟩
   have HGW:Hid (Gw d M1 N1):=Lib.hid ⟨hd.symm,by rw [hd];exact afC hev,hgt.out.2.2.2⟩;have KN:Hid (2^T*d=Nat.gcd X Y):=Lib.hid (by rw [hd];exact hgt.out.1)
   have HPW:Hid (∀ k,k<=T->(bn (2^k*d)).length<=100000):=Lib.hid (fun k hk=>by
    have h1:2^k*d<=2^T*d:=auB _ (avF af hk);rw [KN.out] at h1;exact auu (jG (auM (auu h1 (avz Y HX0.out)) RH.out)) hl)
   have hl1:=hla;have hl2:=hlb;have hc1':na<=c1:=af;have hc2':nb<=c2:=af;have hn1':na<=100000:=af;have ags:nb<=100000:=af;have hb1:=hba;have hb2:=hbb;have hbw:=Iw;have hg2:=Ej;clear hd hgt hla hlb hba hbb Iw hna hnb Ej hc1 hc2 hn1 hn2
   by_cases hodd:M1%2=0
   case' pos =>
    have hA3:bits .and .u32 (x:Int) 1=0:=by rw [hA1,hodd];rfl
    have hA4:bits .and .u32 (y:Int) 1=1:=by rw [hA2,show N1%2=1 by omega];rfl
    clear hA1 hA2 hev hodd
    go_wp2_with fail
   case' neg =>
    have hA3:bits .and .u32 (x:Int) 1=1:=by rw [hA1,show M1%2=1 by omega];rfl
    clear hA1 hA2 hev hodd
    go_wp2_with fail
   all_goals
    go_loopg [0,1] (M1+N1) (fun Sm av bv wq => ∃ (M N ga gb na nb ca cb:Nat),Sm=M+N/\av = .slice (some ⟨ga,0,none⟩) na ca/\bv = .slice (some ⟨gb,0,none⟩) nb cb/\Hid ((bn M).length=na)/\Hid ((bn N).length=nb)/\na<=ca/\nb<=cb/\na<=100000/\nb<=100000/\bM wq ga 113 (bn M)/\bM wq gb 113 (bn N)/\ga≠gb/\w.heap.size<=ga/\w.heap.size<=gb/\Hid (Gw d M N)/\Below w.heap.size w wq)
    case atStart=>exact ⟨M1,N1,g1,g2,na,nb,c1,c2,rfl,rfl,rfl,hl1,hl2,hc1',hc2',hn1',ags,hb1,hb2,MQ,hg1,hg2,HGW,hbw⟩
    case round =>
     obtain ⟨M,N,ga,gb,na,nb,ca,cb,hS,rfl,rfl,hla,hlb,hca,hcb,hna,hnb,hba,hbb,wQ,hga,hgb,hgw,hbw⟩:=hrel;have HS:=Lib.hid hS;clear hS hb1 hb2
     by_cases h0:na=0
     ·have Rz:Hid (N=d):=Lib.hid (afS (by have e0:M=0:=kK.1 (auK (by rw [hla.out];exact h0));have h9:=hgw.out;rwa [e0] at h9))
      subst h0
      go_wp2_with fail
      go_loopw [1,65] (fun bv kv wq => ∃ (k nq cq:Nat) (Aq:Option Addr),k<=T/\kv = .int .i64 k/\bv = .slice Aq nq cq/\Hid ((bn (2^k*d)).length=nq)/\nq<=cq/\nq<=100000/\Rd wq wq.heap.size Aq (bn (2^k*d))/\Below w.heap.size w wq) (fun _ k _=>T-(intOf k).toNat)
      case atStart=>exact ⟨0,nb,cb,some ⟨gb,0,none⟩,auw _,rfl,rfl,Lib.hid (by rw [Nat.pow_zero,auQ,<- Rz.out];exact hlb.out),hcb,hnb,by rw [Nat.pow_zero,auQ,<- Rz.out];exact hbb.rd (fB _),hbw⟩
      case round =>
       obtain ⟨k,nq,cq,Aq,hk,rfl,rfl,hlq,hcq,hnq,hrq,hbq⟩:=hrel;clear hba hbb
       by_cases hkT:k<T
       ·have HNX:Hid ((bn (2^(k+1)*d)).length<=100000):=Lib.hid (HPW.out (k+1) hkT)
        go_wp2_with fail
        refine (ajV Aq Aq (2^k*d) (2^k*d) nq nq cq cq _ _ hrq hrq (aut _) (aut _) hlq.out hlq.out af af (2^(k+1)*d) (by rw [auR];grind)).mono ?_;rintro e wp ⟨gp,np,cp,rfl,hlp,hcp,rU,Vl,hbp⟩;have age:=bU hbq hbp (aut _);have HR:=Lib.hid (Vl.rd (fB _));clear hrq Vl hbp
        go_wp2_with fail
        go_roundw
        case rel=>exact ⟨k+1,np,cp,_,af,by go_num,rfl,hlp,hcp,by rw [<- hlp.out];exact HNX.out,HR.out,age⟩
        case measure=>simp [intOf];omega
       ·obtain rfl:k=T:=af
        go_wp2_with fail
        go_ret
        refine ⟨Aq,nq,cq,rfl,Lib.hid ?_,hcq,?_,hbq⟩
        ·rw [<- KN.out];exact hlq.out
        ·rw [<- KN.out];exact hrq
     ·have yc:Hid (0<M):=Lib.hid (avd (fun e=>h0 (by rw [<- hla.out,e];rfl)))
      have KF:Hid (0<N):=Lib.hid hgw.out.2.2;have Vt:0<na:=af;clear h0
      go_wp2_with fail
      go_loopg [0] M (fun M' av wq2 => ∃ (n':Nat),av = .slice (some ⟨ga,0,none⟩) n' ca/\Hid ((bn M').length=n')/\n'<=na/\bM wq2 ga 113 (bn M')/\bM wq2 gb 113 (bn N)/\Hid (Gw d M' N/\0<M'/\M'<=M)/\Below w.heap.size w wq2)
      case atStart=>exact ⟨na,rfl,hla,aut _,hba,hbb,Lib.hid ⟨hgw.out,yc.out,aut _⟩,hbw⟩
      case round =>
       obtain ⟨n',rfl,rV,aot,Ef,Eg,uz,hbw2⟩:=hrel;clear hba hbb;have agr:0<n':=by rw [<- rV.out];exact avd (fun e=>by have h9:=kK.1 (auK e);have:=uz.out.2.1;omega)
       have hcc:=Ef.cell (i:=0) (by rw [rV.out];exact agr);have hxl:=gI (fB gk) 0;have hxb:=IP (ns:=bn gk);rw [bQ] at hxb;obtain ⟨x,hx⟩ : ∃ x,x=dg (bn gk) 0:=⟨_,rfl⟩;rw [<- hx] at hcc hxl hxb;have hA1:=Df hxl;rw [hxb] at hA1;clear hx hxb hxl
       by_cases hev:gk%2=0
       ·have HST:Hid (Gw d (gk/2) N/\0<gk/2/\gk/2<=M/\gk/2<gk):=Lib.hid ⟨afT uz.out.1 hev,by have:=uz.out.2.1;omega,by have:=uz.out.2.2;omega,by have:=uz.out.2.1;omega⟩
        rw [hev] at hA1;have hA2:bits .and .u32 (x:Int) 1=0:=hA1;clear hA1 hev
        go_wp2_with fail
        refine (Iq ga gk n' ca _ Ef rV.out af af).mono ?_;rintro e w6 ⟨n6,rfl,Em,Vs,hb6,jo,hs6⟩;have Ir:=Eg.of_same (jo.block gb Eg.lt (by intro e;injection e with e;exact wQ e.symm));have uy:=below_of_grown hbw2 jo hbw2.size hga;clear Ef Eg jo
        go_wp2_with fail
        go_roundg (gk/2)
        case measure=>exact HST.out.2.2.2
        case rel=>exact ⟨n6,rfl,Em,af,hb6,Ir,Lib.hid ⟨HST.out.1,HST.out.2.1,HST.out.2.2.1⟩,uy⟩
       ·generalize gk=M' at *
        have hA2:bits .and .u32 (x:Int) 1=1:=by rw [hA1,show M'%2=1 by omega];rfl
        clear hA1 hev
        go_wp2_with fail
        go_loopg [1] N (fun N' bv P8 => ∃ (n'':Nat),bv = .slice (some ⟨gb,0,none⟩) n'' cb/\Hid ((bn N').length=n'')/\n''<=nb/\bM P8 ga 113 (bn M')/\bM P8 gb 113 (bn N')/\Hid (Gw d M' N'/\0<N'/\N'<=N)/\Below w.heap.size w P8)
        case atStart=>exact ⟨nb,rfl,hlb,aut _,Ef,Eg,Lib.hid ⟨uz.out.1,KF.out,aut _⟩,hbw2⟩
        case round =>
         obtain ⟨n'',rfl,rW,aou,qg,qh,uD,hbw3⟩:=hrel;clear Ef Eg hcc hA2;have agq:0<n'':=by rw [<- rW.out];exact avd (fun e=>by have h9:=kK.1 (auK e);have:=uD.out.2.1;omega)
         have hcc:=qh.cell (i:=0) (by rw [rW.out];exact agq);have hxl:=gI (fB gk) 0;have hxb:=IP (ns:=bn gk);rw [bQ] at hxb;obtain ⟨y,hy⟩ : ∃ y,y=dg (bn gk) 0:=⟨_,rfl⟩;rw [<- hy] at hcc hxl hxb;have hA1:=Df hxl;rw [hxb] at hA1;clear hy hxb hxl
         by_cases hev:gk%2=0
         ·have HST:Hid (Gw d M' (gk/2)/\0<gk/2/\gk/2<=N/\gk/2<gk):=Lib.hid ⟨afU uD.out.1 hev,by have:=uD.out.2.1;omega,by have:=uD.out.2.2;omega,by have:=uD.out.2.1;omega⟩
          rw [hev] at hA1;have hA2:bits .and .u32 (y:Int) 1=0:=hA1;clear hA1 hev
          go_wp2_with fail
          refine (Iq gb gk n'' cb _ qh rW.out af af).mono ?_;rintro e w6 ⟨n6,rfl,Em,Vs,hb6,jo,hs6⟩;have agb:=qg.of_same (jo.block ga qg.lt (by intro e;injection e with e;exact wQ e));have uy:=below_of_grown hbw3 jo hbw3.size hgb;clear qg qh jo
          go_wp2_with fail
          go_roundg (gk/2)
          case measure=>exact HST.out.2.2.2
          case rel=>exact ⟨n6,rfl,Em,af,agb,hb6,Lib.hid ⟨HST.out.1,HST.out.2.1,HST.out.2.2.1⟩,uy⟩
         ·generalize gk=N' at *
          have hA2:bits .and .u32 (y:Int) 1=1:=by rw [hA1,show N'%2=1 by omega];rfl
          clear hA1 hev
          by_cases hlt:M'<N'
          ·have HC:=Lib.hid (zZ hlt)
           have lX:Hid (M'<=N'):=Lib.hid (auL hlt);have KC:Hid (Gw d (N'-M') M'):=Lib.hid (U8 (afV uD.out.1 uz.out.2.1) (auL hlt));clear hlt
           go_wp2_with fail
           refine (Fq _ _ (bn M') (bn N') n' n'' ca cb _ _ _ (qg.rd (fB _)) (qh.rd (fB _)) rV.out rW.out af af).mono ?_;rintro e w' ⟨rfl,rfl⟩;rw [bQ,bQ,HC.out]
           go_wp2_with fail
           have KD:Hid (n'<=n''):=Lib.hid (by rw [<- rW.out,<- rV.out];exact Ut lX.out);have hnn:=KD.out;refine (take_any gb (bn N') (bn M') n'' n' cb ca _ (some ⟨ga,0,none⟩) _ qh (fB _) (qg.rd (fB _)) (aut _) (fun _ a e=>by injection e with e;subst e;exact wQ) rW.out rV.out hnn af (by rw [bQ,bQ];exact lX.out)).mono ?_;rintro e w7 ⟨ds,rfl,hd7,hw7,uF,hv7,qi,hs7⟩;rw [bQ,bQ] at hv7;have MO:=qg.of_same (qi.block ga qg.lt (by intro e;injection e with e;exact wQ e));have Eh:=below_of_grown hbw3 qi hbw3.size hgb;have hd9:=hd7.bn hw7;rw [hv7] at hd9;have KG:Hid ((bn (N'-M')).length<=n''):=Lib.hid (by have h9:=nR hw7;rwa [hv7,uF] at h9);obtain ⟨n9,rX⟩ : ∃ n9,n9=(bn (N'-M')).length:=⟨_,rfl⟩;have CZ:=Lib.hid rX.symm;have agt:n9<=n'':=by rw [rX];exact KG.out
           have KQ:=Lib.hid hv7;have CW:=Lib.hid uF;clear qh qg qi hs7 hv7 uF rX
           go_wp2_with fail
           refine (Ov _ ds n'' cb _ _ (hd7.rd hw7) CW.out af af).mono ?_;rintro e w8 ⟨rfl,rfl⟩;rw [KQ.out,CZ.out];clear hd7
           go_wp2_with fail
           go_roundg (N'-M'+M')
           case measure=>have h1:=HS.out;have h2:=uz.out.2;have h3:=uD.out.2;have h4:=lX.out;have h5:=KF.out;have h6:=yc.out;omega
           case rel=>exact ⟨N'-M',M',gb,ga,n9,n',cb,ca,rfl,rfl,rfl,CZ,rV,af,af,af,af,hd9,MO,wQ.symm,hgb,hga,KC,Eh⟩
          ·have lX:Hid (N'<=M'):=Lib.hid af
           obtain ⟨cv,HC,hcv⟩ : ∃ cv:Int,Hid (jl M' N'=cv)/\0<=cv:=by
            rcases auA N' M' with h1 | h1
            ·exact ⟨1,Lib.hid (DC h1),af⟩
            ·exact ⟨0,Lib.hid (Hq af),af⟩
           have KC:Hid (Gw d (M'-N') N'):=Lib.hid (U8 uD.out.1 lX.out);clear hlt
           go_wp2_with fail
           refine (Fq _ _ (bn M') (bn N') n' n'' ca cb _ _ _ (qg.rd (fB _)) (qh.rd (fB _)) rV.out rW.out af af).mono ?_;rintro e w' ⟨rfl,rfl⟩;rw [bQ,bQ,HC.out]
           go_wp2_with fail
           have KD:Hid (n''<=n'):=Lib.hid (by rw [<- rV.out,<- rW.out];exact Ut lX.out);have hnn:=KD.out;refine (take_any ga (bn M') (bn N') n' n'' ca cb _ (some ⟨gb,0,none⟩) _ qg (fB _) (qh.rd (fB _)) (aut _) (fun _ a e=>by injection e with e;subst e;exact wQ.symm) rV.out rW.out hnn af (by rw [bQ,bQ];exact lX.out)).mono ?_;rintro e w7 ⟨ds,rfl,hd7,hw7,uF,hv7,qi,hs7⟩;rw [bQ,bQ] at hv7;have MO:=qh.of_same (qi.block gb qh.lt (by intro e;injection e with e;exact wQ e.symm));have Eh:=below_of_grown hbw3 qi hbw3.size hga;have hd9:=hd7.bn hw7;rw [hv7] at hd9;have KG:Hid ((bn (M'-N')).length<=n'):=Lib.hid (by have h9:=nR hw7;rwa [hv7,uF] at h9);obtain ⟨n9,rX⟩ : ∃ n9,n9=(bn (M'-N')).length:=⟨_,rfl⟩;have CZ:=Lib.hid rX.symm;have agt:n9<=n':=by rw [rX];exact KG.out
           have KQ:=Lib.hid hv7;have CW:=Lib.hid uF;clear qg qh qi hs7 hv7 uF rX
           go_wp2_with fail
           refine (Ov _ ds n' ca _ _ (hd7.rd hw7) CW.out af af).mono ?_;rintro e w8 ⟨rfl,rfl⟩;rw [KQ.out,CZ.out];clear hd7
           go_wp2_with fail
           go_roundg (M'-N'+N')
           case measure=>have h1:=HS.out;have h2:=uz.out.2;have h3:=uD.out.2;have h4:=lX.out;have h5:=KF.out;have h6:=yc.out;omega
           case rel=>exact ⟨M'-N',N',ga,gb,n9,n'',ca,cb,rfl,rfl,rfl,CZ,rW,af,af,af,af,hd9,MO,wQ,hga,hgb,KC,Eh⟩
end Go.Proofs.BGQ
namespace Lw
open Go Go.RowKit
section
variable {g1 g2 g3 g4 p:Nat} {x1 x2 x3 x4 y1 y2 y3 y4:Value}
theorem dM.G6{t:TypeId}{W0 w:World}{bs:List Bx}{L:List En}{M:List Sn}(h:dM t W0 w bs L M)(x y:Value):dM t W0 (w.alloc (.cells #[x,y] t)) (⟨w.heap.size,x,y⟩::bs) L M :=
 ⟨h.env.G6 x y,fun e he=>(h.lG e he).next ((Below.refl _ w).alloc (aut _) _)⟩
theorem dM.oZ{t tu:TypeId}{W0 w:World}{bs:List Bx}{L:List En}{M:List Sn}(h:dM t W0 w bs L M):dM t W0 (w.alloc (.cells #[.int .u32 1] tu)) bs L (⟨.slice (some ⟨w.heap.size,0,none⟩) 1 1,[1],1⟩::M) :=
 (h.next ((Below.refl _ w).alloc (aut _) _)).cons ⟨some ⟨w.heap.size,0,none⟩,1,1,_,rfl,(bM.new w tu [1]).rd (by rw [oM];exact ⟨af,nI⟩),aut _,rfl,aut _,aut _⟩
theorem Bc{w:World}{z:Int}{K:Nat}{A:Option Addr}{c:Nat}(h:dJ w ⟨.agg #[.bool (sg z),.slice A (mg z).length c],z,K,true⟩) : ∃ B,Rd w B A (mg z)/\B<=w.heap.size/\(mg z).length<=c:=by
 obtain ⟨s,A',n,c',ns,B,e1,h2,h3,h4,h5,h6,e7,h8⟩:=h;simp at e1;obtain ⟨rfl,rfl,rfl,rfl⟩:=e1
 have hz:z=if sg z then -(val ns:Int) else (val ns:Int):=by
  unfold zv at e7;rw [h8] at e7;exact e7.symm
 obtain ⟨_,e2,_⟩:=xO h8 hz h2.bP;grind
theorem Env.four{t:TypeId}{W0 w:World}{L:List En}(h:Env t W0 w [⟨g4,x4,y4⟩,⟨g1,x1,y1⟩,⟨g2,x2,y2⟩,⟨g3,x3,y3⟩] L) :
  w.cell? ⟨g1,0,none⟩=some x1/\w.cell? ⟨g1,1,none⟩=some y1/\w.cell? ⟨g2,0,none⟩=some x2/\w.cell? ⟨g2,1,none⟩=some y2:=by
 obtain ⟨a1,a2,_,_⟩:=(h.box _ au).facts;obtain ⟨b1,b2,_,_⟩:=(h.box _ ay).facts;exact ⟨a1,a2,b1,b2⟩
theorem Env.uV{t:TypeId}{W0 w:World}{L:List En}(h:Env t W0 w [⟨g4,x4,y4⟩,⟨g1,x1,y1⟩,⟨g2,x2,y2⟩,⟨g3,x3,y3⟩] L):Two w g3 t x3 y3:=h.box _ az
theorem Env.uX{t:TypeId}{W0 w:World}{L:List En}{bs:List Bx}(h:Env t W0 w (⟨g4,x4,y4⟩::bs) L):Two w g4 t x4 y4:=h.box _ ak
theorem ZN{t:TypeId}{w:World}(h1:Two w g1 t x1 y1)(h2:Two w g2 t x2 y2) :
  w.cell? ⟨g1,0,none⟩=some x1/\w.cell? ⟨g1,1,none⟩=some y1/\w.cell? ⟨g2,0,none⟩=some x2/\w.cell? ⟨g2,1,none⟩=some y2:=⟨h1.facts.1,h1.facts.2.1,h2.facts.1,h2.facts.2.1⟩
theorem Env.Ih{t:TypeId}{W0 w:World}{L:List En}(h:Env t W0 w [⟨g4,x4,y4⟩,⟨g1,x1,y1⟩,⟨g2,x2,y2⟩,⟨g3,x3,y3⟩] L)(h1:g1≠p)(h2:g2≠p)(u v:Value) :
  ((w.setCell ⟨p,0,none⟩ u).setCell ⟨p,1,none⟩ v).cell? ⟨g1,0,none⟩=some x1/\((w.setCell ⟨p,0,none⟩ u).setCell ⟨p,1,none⟩ v).cell? ⟨g1,1,none⟩=some y1 /\
  ((w.setCell ⟨p,0,none⟩ u).setCell ⟨p,1,none⟩ v).cell? ⟨g2,0,none⟩=some x2/\((w.setCell ⟨p,0,none⟩ u).setCell ⟨p,1,none⟩ v).cell? ⟨g2,1,none⟩=some y2 :=
 ZN (((h.box _ au).far (p:=⟨p,0,none⟩) h1 u).far (p:=⟨p,1,none⟩) h1 v) (((h.box _ ay).far (p:=⟨p,0,none⟩) h2 u).far (p:=⟨p,1,none⟩) h2 v)
theorem Env.pX{t:TypeId}{W0 w:World}{L:List En}{q:Nat}(h:Env t W0 w [⟨g4,x4,y4⟩,⟨g1,x1,y1⟩,⟨g2,x2,y2⟩,⟨g3,x3,y3⟩] L)(h1:g1≠p)(h2:g2≠p)(k1:g1≠q)(k2:g2≠q)(u v u' v':Value) :
  ((((w.setCell ⟨p,0,none⟩ u).setCell ⟨p,1,none⟩ v).setCell ⟨q,0,none⟩ u').setCell ⟨q,1,none⟩ v').cell? ⟨g1,0,none⟩=some x1/\((((w.setCell ⟨p,0,none⟩ u).setCell ⟨p,1,none⟩ v).setCell ⟨q,0,none⟩ u').setCell ⟨q,1,none⟩ v').cell? ⟨g1,1,none⟩=some y1 /\
  ((((w.setCell ⟨p,0,none⟩ u).setCell ⟨p,1,none⟩ v).setCell ⟨q,0,none⟩ u').setCell ⟨q,1,none⟩ v').cell? ⟨g2,0,none⟩=some x2/\((((w.setCell ⟨p,0,none⟩ u).setCell ⟨p,1,none⟩ v).setCell ⟨q,0,none⟩ u').setCell ⟨q,1,none⟩ v').cell? ⟨g2,1,none⟩=some y2 :=
 ZN (((((h.box _ au).far (p:=⟨p,0,none⟩) h1 u).far (p:=⟨p,1,none⟩) h1 v).far (p:=⟨q,0,none⟩) k1 u').far (p:=⟨q,1,none⟩) k1 v') (((((h.box _ ay).far (p:=⟨p,0,none⟩) h2 u).far (p:=⟨p,1,none⟩) h2 v).far (p:=⟨q,0,none⟩) k2 u').far (p:=⟨q,1,none⟩) k2 v')
end
end Lw
namespace Go.Proofs.BGQ
open Go Go.RowKit Lw
section
variable {t:TypeId} {W0 w:World} {bs:List Bx} {L:List En} {M:List Sn} {v u u':Value} {x:Int} {k k':Nat} {b:Bool} {l l':List Nat}
theorem afB(HE:dM t W0 w bs L M)(h:⟨u,l,k⟩∈M)(h':⟨u',l',k'⟩∈M)(hk:k+k'<=100000) :
  Calls Tryz.prog 144 #[u,u'] w fun e w' => ∃ u,e = .returned u/\dM t W0 w' bs L (⟨u,bn (Nat.gcd (val l) (val l')),k+k'+1⟩::M):=by
 obtain ⟨A,n,c,B,e1,h2,h3,h4,h5,h6⟩:=HE.lG _ h;obtain ⟨A',n',c',B',e1',h2',h3',h4',h5',h6'⟩:=HE.lG _ h';dsimp only at *;subst e1 e1'
 have hz:(bn (Nat.gcd (val l) (val l'))).length<=k+k'+1:=jG (by
  have h9:=AQ (x:=(val l:Int)) (y:=(val l':Int)) (k:=k) (k':=k') (by rw [auy];exact auD (eP h2.bP) (fJ af)) (by rw [auy];exact auD (eP h2'.bP) (fJ af));rw [<- avp,auy] at h9;refine auM ?_ h9;rcases auJ (val l) with e | e
  ·rw [e,avL];omega
  ·exact auu (avz _ e) (Nat.le_add_right _ _))
 refine (ajP A A' l l' n n' c c' B B' w h2 h2' h3 h3' h4 h4' af af).mono ?_;rintro e w' ⟨A9,n9,c9,rfl,rX,fE,ed,nU⟩;exact ⟨_,rfl,(HE.next nU).cons ⟨A9,n9,c9,_,rfl,ed,aut _,rX.out,fE,by rw [<- rX.out];exact hz⟩⟩
theorem aeE(HE:dM t W0 w bs L M)(h:⟨u,l,k⟩∈M)(h':⟨u',l',k'⟩∈M)(hk:k<=50000/\k'<=50000)(hy:0<val l') :
  Calls Tryz.prog 182 #[u,u'] w fun e w' => ∃ g1 n1 c1 g2 n2 c2,e = .returned (.tuple #[.slice (some ⟨g1,0,none⟩) n1 c1,.slice (some ⟨g2,0,none⟩) n2 c2])/\Hid ((bn (val l%val l')).length=n2) /\
   dM t W0 w' bs L (⟨.slice (some ⟨g1,0,none⟩) n1 c1,bn (val l/val l'),k⟩::⟨.slice (some ⟨g2,0,none⟩) n2 c2,bn (val l%val l'),k'⟩::M):=by
 obtain ⟨A,n,c,B,e1,h2,h3,h4,h5,h6⟩:=HE.lG _ h;obtain ⟨A',n',c',B',e1',h2',h3',h4',h5',h6'⟩:=HE.lG _ h';dsimp only at *;subst e1 e1';refine (ajO A A' l l' n n' c c' B B' w h2 h2' h3 h3' h4 h4' af af hy).mono ?_;rintro e w' ⟨g1,n1,c1,g2,n2,c2,rfl,hn1,hn2,hc1,hc2,hg1,hg2,hb1,hb2,hb⟩;have hz1:(bn (val l/val l')).length<=k:=jG (auM (auU _ _) (auD (eP h2.bP) (fJ af)));have hz2:(bn (val l%val l')).length<=k':=jG (Nat.lt_trans (auz _ hy) (auD (eP h2'.bP) (fJ af)));refine ⟨g1,n1,c1,g2,n2,c2,rfl,hn2,((HE.next hb).cons ?_).cons ?_⟩
 ·exact ⟨_,n2,c2,_,rfl,hb2.rd (fB _),aut _,hn2.out,hc2,by rw [<- hn2.out];exact hz2⟩
 ·exact ⟨_,n1,c1,_,rfl,hb1.rd (fB _),aut _,hn1.out,hc1,by rw [<- hn1.out];exact hz1⟩
theorem Ah(s:Bool)(z:Int)(HE:dM t W0 w bs L M)(h:⟨u,l,k⟩∈M)(hk:k<=100000)(hz:z=if s then -(val l:Int) else (val l:Int)) :
  Calls Tryz.prog 143 #[.bool s,u] w fun e w' => ∃ A c,e = .returned (.agg #[.bool (sg z),.slice A (mg z).length c])/\dM t W0 w' bs (⟨.agg #[.bool (sg z),.slice A (mg z).length c],z,(mg z).length,true⟩::L) M:=by
 refine (yE s z HE h hk hz).mono ?_;rintro e w' ⟨A,c,rfl,hc,hr,HE⟩;exact ⟨A,c,rfl,HE.env.cons ⟨sg z,A,_,c,mg z,_,rfl,hr,aut _,rfl,aut _,hc,zL z,xN z⟩,HE.lG⟩
theorem I4{bx:Bool}(HE:dM t W0 w bs L M)(h:⟨v,x,k,b⟩∈L)(hk:k<=100000)(hb:sg x=bx) :
  Calls Tryz.prog 146 #[v] w fun e w'=>e = .returned (.bool bx)/\dM t W0 w' bs L M:=by
 subst hb;exact xw HE h hk
theorem ah5(HE:dM t W0 w bs L M)(h:⟨u,l,k⟩∈M)(h':⟨u',l',k'⟩∈M)(hk:k+k'<=100000) :
  Calls Tryz.prog 150 #[u,u'] w fun e w' => ∃ up,e = .returned up/\dM t W0 w' bs L (⟨up,bn (val l+val l'),k+k'+1⟩::M):=XA HE h h' hk
end
set_option maxRecDepth 100000 in
set_option maxHeartbeats 4000000 in
theorem ajI(s s':Bool)(A A':Option Addr)(ns ms:List Nat)(n m c c' B B':Nat)(w:World)(h:Rd w B A ns)(h':Rd w B' A' ms)(hB:B<=w.heap.size)(hB':B'<=w.heap.size)(hn:ns.length=n)(hm:ms.length=m)(hl:n<=10000)(hl':m<=10000)(hc:n<=c)(hc':m<=c') :
  Calls Tryz.prog 97 #[.agg #[.bool s,.slice A n c],.agg #[.bool s',.slice A' m c']] w (lM w ((Nat.gcd (zv s ns).natAbs (zv s' ms).natAbs:Nat):Int)):=by
 have HE:=Dj (s1:=s) (s2:=s') 79 h h' hB hB' hn hm hc hc' (aut n) (aut m);clear h h';generalize zv s ns=x at *;generalize zv s' ms=y at *;generalize vB s ns=bb at *;generalize vB s' ms=bb' at *
 go_enter Tryz.func97,Tryz.ntmps97
 go_wp2_with fail
 go_region_held3 (fun w'=>w'.cell? ⟨w.heap.size,0,none⟩=some (.bool s)/\w'.cell? ⟨w.heap.size,1,none⟩=some (.slice A n c)/\w'.cell? ⟨w.heap.size+1,0,none⟩=some (.bool s')/\w'.cell? ⟨w.heap.size+1,1,none⟩=some (.slice A' m c')) (first | exact HE.env.lZ | exact HE.drew.env.lZ | exact HE.env.jr af af _ _)
  (first
   | (go_at_call 145;refine (AV (by first | exact HE | exact HE.drew) aZ af).mono ?_;rintro e wn ⟨u,rfl,HE⟩)
   | (go_at_call 144;refine (afB (by first | exact HE | exact HE.drew) aZ aZ af).mono ?_;rintro e wn ⟨u,rfl,HE⟩)
   | (go_at_call 143;refine (yE false ((Nat.gcd x.natAbs y.natAbs:Nat):Int) (by first | exact HE | exact HE.drew) aZ af (by rw [bQ,iq,iq];rfl)).mono ?_;rintro e wn ⟨A9,c9,rfl,fE,ed,HE⟩;obtain ⟨f0,f1,f2,f3⟩:=HE.env.third.facts))
 go_wp2
 refine bodyPost_ret (v := .agg #[.bool (sg ((Nat.gcd x.natAbs y.natAbs:Nat):Int)),.slice A9 (mg ((Nat.gcd x.natAbs y.natAbs:Nat):Int)).length c9]) (by simp [results,Tryz.results97,go_sem,f0,f1]) rfl ?_;exact kF HE.env.third ed (aut _) fE HE.env.below af
def DQ(z z':Int)(er:Value)(w:World)(e:Ending)(w':World):Prop :=
 ∃ (A A':Option Addr) (c c':Nat),e = .returned (.tuple #[.agg #[.bool (sg z),.slice A (mg z).length c],.agg #[.bool (sg z'),.slice A' (mg z').length c'],er])/\(mg z).length<=c/\(mg z').length<=c'/\Rd w' w'.heap.size A (mg z)/\Rd w' w'.heap.size A' (mg z')/\Below w.heap.size w w'
set_option maxRecDepth 100000 in
set_option maxHeartbeats 6400000 in
theorem ajH(s s':Bool)(A A':Option Addr)(ns ms:List Nat)(n m c c' B B':Nat)(w:World)(h:Rd w B A ns)(h':Rd w B' A' ms)(hB:B<=w.heap.size)(hB':B'<=w.heap.size)(hn:ns.length=n)(hm:ms.length=m)(hl:n<=10000)(hl':m<=10000)(hc:n<=c)(hc':m<=c')(hy:zv s' ms≠0) :
  Calls Tryz.prog 148 #[.agg #[.bool s,.slice A n c],.agg #[.bool s',.slice A' m c']] w (DQ (zv s ns/zv s' ms) (zv s ns%zv s' ms) (.int .i64 0) w):=by
 have HE:=(Dj (s1:=s) (s2:=s') 79 h h' hB hB' hn hm hc hc' (aut n) (aut m)).G6 (.bool false) (.slice none 0 0);rw [World.size_alloc,World.size_alloc,World.size_alloc] at HE;have hsy:=fun W (hR:Rd W B' A' ms) hB=>Yz s' A' ms m c' B' W hR hB hm af hc';have hrs:=h';generalize zv s ns=x at *;generalize zv s' ms=y at *;generalize vB s ns=bb at *;generalize vB s' ms=bb' at *;have KL:=Lib.hid hsy
 have hsq:(dW y==0)=false:=by
  rw [beq_eq_false_iff_ne];unfold dW;split <;> (try split) <;> omega
 obtain ⟨sy,VE⟩ : ∃ sy,sy=dW y:=⟨_,rfl⟩;rw [<- VE] at KL hsq;have RI:Hid (0<val (mg y)):=Lib.hid (by rw [iq];omega);obtain ⟨bx,hbx⟩ : ∃ b,sg x=b:=⟨_,rfl⟩;obtain ⟨by',hby⟩ : ∃ b,sg y=b:=⟨_,rfl⟩;have hfo:=Uz (z:=x) hy;rw [hbx,hby] at hfo;have KA:=Lib.hid hfo;have GU:=Lib.hid hbx;have Kz:=Lib.hid hby;obtain ⟨bo,jT⟩ : ∃ b,(bx != by')=b:=⟨_,rfl⟩;have Kw:=Lib.hid jT;clear hbx hby hfo jT;clear h hsy VE hy
 go_enter Tryz.func148,Tryz.ntmps148
 obtain ⟨q1,q2,q3,q4⟩:=HE.env.four
 go_wp2_with fail
 refine (KL.out _ (hrs.next (HE.env.below) hB') (auu hB' HE.env.below.size)).mono ?_;rintro e wn ⟨rfl,hbn⟩;have HE:=HE.next hbn;clear q1 q2 q3 q4 hbn hrs KL
 go_wp2_with fail
 go_region_held3 (fun w'=>w'.cell? ⟨w.heap.size,0,none⟩=some (.bool s)/\w'.cell? ⟨w.heap.size,1,none⟩=some (.slice A n c)/\w'.cell? ⟨w.heap.size+1,0,none⟩=some (.bool s')/\w'.cell? ⟨w.heap.size+1,1,none⟩=some (.slice A' m c')) (with_reducible first | exact HE.env.four | exact HE.drew.env.four | exact HE.env.Ih af af _ _ | exact HE.env.pX af af af af _ _ _ _)
  (first
   | (go_at_call 145;refine (AV (by first | exact HE | exact HE.drew) aZ af).mono ?_;rintro e wn ⟨u,rfl,HE⟩)
   | (go_at_call 182;refine (aeE (by first | exact HE | exact HE.drew) aZ aZ af RI.out).mono ?_;rintro e wn ⟨g1,n1,c1,g2,n2,c2,rfl,hn2,HE⟩))
 all_goals
  have HR2:Hid (x.natAbs%y.natAbs=0↔n2=0):=Lib.hid (by
   have h9:=hn2.out;rw [iq,iq] at h9;rw [<- h9,List.length_eq_zero_iff,kK])
  have KJ:Hid (val (bn (val (mg x)%val (mg y)))<=val (mg y)):=Lib.hid (by rw [bQ];exact auL (auz _ RI.out));obtain ⟨q1,q2,q3,q4⟩:=HE.env.four
  go_wp2_with fail
  refine (I4 HE aZ af GU.out).mono ?_;rintro e wn ⟨rfl,HE⟩;clear q1 q2 q3 q4
  by_cases hsg:bx=true
  case neg =>
   have Vz:bx=false:=by cases bx;rfl;exact absurd rfl hsg
   have HF:=Lib.hid (KA.out.2.2 (.inl Vz));clear hsg
   go_wp2_with fail
   clear Vz;have jT:=Kw.out;have jQ:Hid (x/y=if bo=true then -(val (bn (val (mg x)/val (mg y))):Int) else (val (bn (val (mg x)/val (mg y))):Int)):=Lib.hid (by rw [HF.out.1,jT];simp only [bQ,iq];rfl);have HS2:Hid (x%y=if false=true then -(val (bn (val (mg x)%val (mg y))):Int) else (val (bn (val (mg x)%val (mg y))):Int)):=Lib.hid (by rw [HF.out.2];simp only [bQ,iq];rfl);have Vm:(!(bx==by'))=bo:=jT;clear jT
   go_region_held3 (fun w'=>w'.cell? ⟨w.heap.size,0,none⟩=some (.bool s)/\w'.cell? ⟨w.heap.size,1,none⟩=some (.slice A n c)/\w'.cell? ⟨w.heap.size+1,0,none⟩=some (.bool s')/\w'.cell? ⟨w.heap.size+1,1,none⟩=some (.slice A' m c')) (with_reducible first | exact HE.env.four | exact HE.drew.env.four | exact HE.env.Ih af af _ _ | exact HE.env.pX af af af af _ _ _ _)
    (first
     | (go_at_call 146;refine (I4 (by first | exact HE | exact HE.drew) aZ af (by first | exact GU.out | exact Kz.out)).mono ?_;rintro e wn ⟨rfl,HE⟩)
     | (go_at_call 143;(with_reducible show Calls _ _ #[Value.bool bo,_] _ _);refine (Ah (l:=bn (val (mg x)/val (mg y))) (k:=n) bo (x/y) (by first | exact HE | exact HE.drew) ?_ af jQ.out).mono ?_;(first | exact aZ);rintro e wn ⟨A9,c9,rfl,HE⟩;obtain ⟨f0,f1,f2,f3⟩:=HE.env.uV.facts;obtain ⟨f4,f5,f6,f7⟩:=HE.env.uX.facts)
     | (go_at_call 143;(with_reducible show Calls _ _ #[Value.bool false,_] _ _);refine (Ah (l:=bn (val (mg x)%val (mg y))) (k:=m) false (x%y) (by first | exact HE | exact HE.drew) ?_ af HS2.out).mono ?_;(first | exact aZ);rintro e wn ⟨A8,c8,rfl,HE⟩;obtain ⟨f0,f1,f2,f3⟩:=HE.env.uV.facts;obtain ⟨f4,f5,f6,f7⟩:=HE.env.uX.facts))
   all_goals
    obtain ⟨B9,ed,Eb,fE⟩:=Bc (HE.env.ops ⟨.agg #[.bool (sg (x/y)),.slice A9 (mg (x/y)).length c9],x/y,_,true⟩ aZ);obtain ⟨B8,nV,Ea,hc8⟩:=Bc (HE.env.ops ⟨.agg #[.bool (sg (x%y)),.slice A8 (mg (x%y)).length c8],x%y,_,true⟩ aZ);obtain ⟨p1,p2,p3,p4,p5⟩:=uQ (sg (x/y)) (sg (x%y)) (.slice A9 (mg (x/y)).length c9) (.slice A8 (mg (x%y)).length c8) HE.env.uV HE.env.uX af ed nV HE.env.below af af;clear f0 f1 f2 f3 f4 f5 f6 f7;obtain ⟨f0,f1,_,_⟩:=p1.facts;obtain ⟨f4,f5,_,_⟩:=p2.facts
    go_wp2_with fail
    refine bodyPost_ret (v := .tuple #[.agg #[.bool (sg (x/y)),.slice A9 (mg (x/y)).length c9],.agg #[.bool (sg (x%y)),.slice A8 (mg (x%y)).length c8],.int .i64 0]) (by simp [results,Tryz.results148,go_sem,f0,f1,f4,f5]) rfl ?_;exact ⟨A9,A8,c9,c8,rfl,fE,hc8,p3.more (by simpa using Eb),p4.more (by simpa using Ea),p5⟩
  case pos =>
   by_cases hn0:n2=0
   ·have HF:=Lib.hid (KA.out.2.2 (.inr (HR2.out.2 hn0)))
    subst hn0
    go_wp2_with fail
    clear hsg;have jT:=Kw.out;have jQ:Hid (x/y=if bo=true then -(val (bn (val (mg x)/val (mg y))):Int) else (val (bn (val (mg x)/val (mg y))):Int)):=Lib.hid (by rw [HF.out.1,jT];simp only [bQ,iq];rfl);have HS2:Hid (x%y=if false=true then -(val (bn (val (mg x)%val (mg y))):Int) else (val (bn (val (mg x)%val (mg y))):Int)):=Lib.hid (by rw [HF.out.2];simp only [bQ,iq];rfl);have Vm:(!(bx==by'))=bo:=jT;clear jT
    go_region_held3 (fun w'=>w'.cell? ⟨w.heap.size,0,none⟩=some (.bool s)/\w'.cell? ⟨w.heap.size,1,none⟩=some (.slice A n c)/\w'.cell? ⟨w.heap.size+1,0,none⟩=some (.bool s')/\w'.cell? ⟨w.heap.size+1,1,none⟩=some (.slice A' m c')) (with_reducible first | exact HE.env.four | exact HE.drew.env.four | exact HE.env.Ih af af _ _ | exact HE.env.pX af af af af _ _ _ _)
     (first
      | (go_at_call 146;refine (I4 (by first | exact HE | exact HE.drew) aZ af (by first | exact GU.out | exact Kz.out)).mono ?_;rintro e wn ⟨rfl,HE⟩)
      | (go_at_call 143;(with_reducible show Calls _ _ #[Value.bool bo,_] _ _);refine (Ah (l:=bn (val (mg x)/val (mg y))) (k:=n) bo (x/y) (by first | exact HE | exact HE.drew) ?_ af jQ.out).mono ?_;(first | exact aZ);rintro e wn ⟨A9,c9,rfl,HE⟩;obtain ⟨f0,f1,f2,f3⟩:=HE.env.uV.facts;obtain ⟨f4,f5,f6,f7⟩:=HE.env.uX.facts)
      | (go_at_call 143;(with_reducible show Calls _ _ #[Value.bool false,_] _ _);refine (Ah (l:=bn (val (mg x)%val (mg y))) (k:=m) false (x%y) (by first | exact HE | exact HE.drew) ?_ af HS2.out).mono ?_;(first | exact aZ);rintro e wn ⟨A8,c8,rfl,HE⟩;obtain ⟨f0,f1,f2,f3⟩:=HE.env.uV.facts;obtain ⟨f4,f5,f6,f7⟩:=HE.env.uX.facts))
    all_goals
     obtain ⟨B9,ed,Eb,fE⟩:=Bc (HE.env.ops ⟨.agg #[.bool (sg (x/y)),.slice A9 (mg (x/y)).length c9],x/y,_,true⟩ aZ);obtain ⟨B8,nV,Ea,hc8⟩:=Bc (HE.env.ops ⟨.agg #[.bool (sg (x%y)),.slice A8 (mg (x%y)).length c8],x%y,_,true⟩ aZ);obtain ⟨p1,p2,p3,p4,p5⟩:=uQ (sg (x/y)) (sg (x%y)) (.slice A9 (mg (x/y)).length c9) (.slice A8 (mg (x%y)).length c8) HE.env.uV HE.env.uX af ed nV HE.env.below af af;clear f0 f1 f2 f3 f4 f5 f6 f7;obtain ⟨f0,f1,_,_⟩:=p1.facts;obtain ⟨f4,f5,_,_⟩:=p2.facts
     go_wp2_with fail
     refine bodyPost_ret (v := .tuple #[.agg #[.bool (sg (x/y)),.slice A9 (mg (x/y)).length c9],.agg #[.bool (sg (x%y)),.slice A8 (mg (x%y)).length c8],.int .i64 0]) (by simp [results,Tryz.results148,go_sem,f0,f1,f4,f5]) rfl ?_;exact ⟨A9,A8,c9,c8,rfl,fE,hc8,p3.more (by simpa using Eb),p4.more (by simpa using Ea),p5⟩
   ·have hnp:0<n2:=af
    have HF:=Lib.hid (KA.out.2.1 hsg (fun e=>hn0 (HR2.out.1 e)));clear hn0
    go_wp2_with fail
    clear hsg
    go_region_held3 (fun w'=>w'.cell? ⟨w.heap.size,0,none⟩=some (.bool s)/\w'.cell? ⟨w.heap.size,1,none⟩=some (.slice A n c)/\w'.cell? ⟨w.heap.size+1,0,none⟩=some (.bool s')/\w'.cell? ⟨w.heap.size+1,1,none⟩=some (.slice A' m c')) (with_reducible first | exact HE.env.four | exact HE.drew.env.four | exact HE.oZ.env.four | exact HE.oZ.drew.env.four | exact HE.drew.oZ.env.four)
     (first
      | (go_at_call 145;refine (AV (by first | exact HE | exact HE.drew | exact HE.oZ | exact HE.oZ.drew | exact HE.drew.oZ) aZ af).mono ?_;rintro e wn ⟨u,rfl,HE⟩)
      | (go_at_call 150;refine (ah5 (by first | exact HE | exact HE.drew | exact HE.oZ | exact HE.oZ.drew | exact HE.drew.oZ) aZ aZ af).mono ?_;rintro e wn ⟨up,rfl,HE⟩)
      | (go_at_call 152;refine (Nv (by first | exact HE | exact HE.drew | exact HE.oZ | exact HE.oZ.drew | exact HE.drew.oZ) aZ aZ af (iM _) KJ.out).mono ?_;rintro e wn ⟨um,rfl,HE⟩))
    all_goals
     go_wp2_with fail
     have jT:=Kw.out;have jQ:Hid (x/y=if bo=true then -(val (bn (val (bn (val (mg x)/val (mg y)))+val [1])):Int) else (val (bn (val (bn (val (mg x)/val (mg y)))+val [1])):Int)):=Lib.hid (by rw [HF.out.1,jT];simp only [bQ,iq];rfl);have HS2:Hid (x%y=if false=true then -(val (bn (val (mg y)-val (bn (val (mg x)%val (mg y))))):Int) else (val (bn (val (mg y)-val (bn (val (mg x)%val (mg y))))):Int)):=Lib.hid (by rw [HF.out.2];simp only [bQ,iq];rfl);have Vm:(!(bx==by'))=bo:=jT;clear jT
     go_region_held3 (fun w'=>w'.cell? ⟨w.heap.size,0,none⟩=some (.bool s)/\w'.cell? ⟨w.heap.size,1,none⟩=some (.slice A n c)/\w'.cell? ⟨w.heap.size+1,0,none⟩=some (.bool s')/\w'.cell? ⟨w.heap.size+1,1,none⟩=some (.slice A' m c')) (with_reducible first | exact HE.env.four | exact HE.drew.env.four | exact HE.env.Ih af af _ _ | exact HE.env.pX af af af af _ _ _ _)
      (first
       | (go_at_call 146;refine (I4 (by first | exact HE | exact HE.drew) aZ af (by first | exact GU.out | exact Kz.out)).mono ?_;rintro e wn ⟨rfl,HE⟩)
       | (go_at_call 143;(with_reducible show Calls _ _ #[Value.bool bo,_] _ _);refine (Ah (l:=bn (val (bn (val (mg x)/val (mg y)))+val [1])) (k:=n+1+1) bo (x/y) (by first | exact HE | exact HE.drew) ?_ af jQ.out).mono ?_;(first | exact aZ);rintro e wn ⟨A9,c9,rfl,HE⟩;obtain ⟨f0,f1,f2,f3⟩:=HE.env.uV.facts;obtain ⟨f4,f5,f6,f7⟩:=HE.env.uX.facts)
       | (go_at_call 143;(with_reducible show Calls _ _ #[Value.bool false,_] _ _);refine (Ah (l:=bn (val (mg y)-val (bn (val (mg x)%val (mg y))))) (k:=m) false (x%y) (by first | exact HE | exact HE.drew) ?_ af HS2.out).mono ?_;(first | exact aZ);rintro e wn ⟨A8,c8,rfl,HE⟩;obtain ⟨f0,f1,f2,f3⟩:=HE.env.uV.facts;obtain ⟨f4,f5,f6,f7⟩:=HE.env.uX.facts))
     all_goals
      obtain ⟨B9,ed,Eb,fE⟩:=Bc (HE.env.ops ⟨.agg #[.bool (sg (x/y)),.slice A9 (mg (x/y)).length c9],x/y,_,true⟩ aZ);obtain ⟨B8,nV,Ea,hc8⟩:=Bc (HE.env.ops ⟨.agg #[.bool (sg (x%y)),.slice A8 (mg (x%y)).length c8],x%y,_,true⟩ aZ);obtain ⟨p1,p2,p3,p4,p5⟩:=uQ (sg (x/y)) (sg (x%y)) (.slice A9 (mg (x/y)).length c9) (.slice A8 (mg (x%y)).length c8) HE.env.uV HE.env.uX af ed nV HE.env.below af af;clear f0 f1 f2 f3 f4 f5 f6 f7;obtain ⟨f0,f1,_,_⟩:=p1.facts;obtain ⟨f4,f5,_,_⟩:=p2.facts
      go_wp2_with fail
      refine bodyPost_ret (v := .tuple #[.agg #[.bool (sg (x/y)),.slice A9 (mg (x/y)).length c9],.agg #[.bool (sg (x%y)),.slice A8 (mg (x%y)).length c8],.int .i64 0]) (by simp [results,Tryz.results148,go_sem,f0,f1,f4,f5]) rfl ?_;exact ⟨A9,A8,c9,c8,rfl,fE,hc8,p3.more (by simpa using Eb),p4.more (by simpa using Ea),p5⟩
end Go.Proofs.BGQ
namespace Lw
open Go Go.RowKit
theorem Env.TJ{t:TypeId}{W0 w:World}{L:List En}{g0 g1 g2 g3 g4 g5 g6 g7:Nat}{x0 y0 x1 y1 x2 y2 x3 y3 x4 y4 x5 y5 x6 y6 x7 y7:Value}(h:Env t W0 w [⟨g0,x0,y0⟩,⟨g1,x1,y1⟩,⟨g2,x2,y2⟩,⟨g3,x3,y3⟩,⟨g4,x4,y4⟩,⟨g5,x5,y5⟩,⟨g6,x6,y6⟩,⟨g7,x7,y7⟩] L) :
  w.cell? ⟨g0,0,none⟩=some x0/\w.cell? ⟨g0,1,none⟩=some y0/\w.cell? ⟨g1,0,none⟩=some x1/\w.cell? ⟨g1,1,none⟩=some y1/\w.cell? ⟨g2,0,none⟩=some x2/\w.cell? ⟨g2,1,none⟩=some y2/\w.cell? ⟨g3,0,none⟩=some x3/\w.cell? ⟨g3,1,none⟩=some y3/\w.cell? ⟨g4,0,none⟩=some x4/\w.cell? ⟨g4,1,none⟩=some y4/\w.cell? ⟨g5,0,none⟩=some x5/\w.cell? ⟨g5,1,none⟩=some y5/\w.cell? ⟨g6,0,none⟩=some x6/\w.cell? ⟨g6,1,none⟩=some y6/\w.cell? ⟨g7,0,none⟩=some x7/\w.cell? ⟨g7,1,none⟩=some y7 :=
 ⟨(h.box _ ak).facts.1,(h.box _ ak).facts.2.1,(h.box _ au).facts.1,(h.box _ au).facts.2.1,(h.box _ ay).facts.1,(h.box _ ay).facts.2.1,(h.box _ az).facts.1,(h.box _ az).facts.2.1,(h.box _ aA).facts.1,(h.box _ aA).facts.2.1,(h.box _ aB).facts.1,(h.box _ aB).facts.2.1,(h.box _ aC).facts.1,(h.box _ aC).facts.2.1,(h.box _ aF).facts.1,(h.box _ aF).facts.2.1⟩
end Lw
namespace Go.Proofs.BGQ
open Go Go.RowKit Lw
theorem ajQ{t:TypeId}{W0 w:World}{bs:List Bx}{L:List En}{v v':Value}{x y:Int}{k k':Nat}{b b':Bool}(HE:Env t W0 w bs L)(h:⟨v,x,k,b⟩∈L)(h':⟨v',y,k',b'⟩∈L)(hk:k+k'<=10000) :
  Calls Tryz.prog 97 #[v,v'] w fun e w' => ∃ u,e = .returned u/\Env t W0 w' bs (⟨u,((Nat.gcd x.natAbs y.natAbs:Nat):Int),k+k'+1,true⟩::L):=by
 have H1:=HE.ops _ h;have H2:=HE.ops _ h'
 have hz:((Nat.gcd x.natAbs y.natAbs:Nat):Int).natAbs<pw (k+k'+1):=by
  have h9:=AQ (x:=(x.natAbs:Int)) (y:=(y.natAbs:Int)) (by rw [auy];exact H1.lt) (by rw [auy];exact H2.lt);rw [<- avp,auy] at h9;rw [auy];refine auM ?_ h9;rcases auJ x.natAbs with e | e
  ·rw [e,avL];omega
  ·exact auu (avz _ e) (Nat.le_add_right _ _)
 obtain ⟨s,A,n,c,ns,B,e1,h2,h3,h4,h5,h6,e7,h8⟩:=H1;obtain ⟨s',A',n',c',ns',B',e1',h2',h3',h4',h5',h6',eX,h8'⟩:=H2;dsimp only at e1 e7 e1' eX h5 h5' hz;subst e1 e1' e7 eX;exact (ajI s s' A A' ns ns' n n' c c' B B' w h2 h2' h3 h3' h4 h4' af af h6 h6').mono fun e w' hh=>xU HE hh hz
end Go.Proofs.BGQ
