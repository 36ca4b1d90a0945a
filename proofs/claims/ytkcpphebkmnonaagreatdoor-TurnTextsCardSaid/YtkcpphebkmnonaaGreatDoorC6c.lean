/- Part of a proof, said shortly. -/
import Derived.Deep.RegionWith
import Derived.Test.YtkcpphebkmnonaaGreatDoorAlzc
import Derived.Test.YtkcpphebkmnonaaGreatDoorC1c
import Derived.Test.YtkcpphebkmnonaaGreatDoorC2c
import Derived.Test.YtkcpphebkmnonaaGreatDoorC3c
namespace Lw
section
variable {l us vs:List Nat} {B U V V3 k rest top u0 u1 u3 ul v1 vl x:Nat}
theorem Zh(hU:U=u3*B+ul)(kU:ul<B)(hV:V=V3*B+vl)(hx:u3+1<=x*V3)(hp:0<V):U/V<x:=by
 rw [apy hp];have h1:(u3+1)*B<=x*V3*B:=aoP _ hx;have h2:x*V=x*V3*B+x*vl:=by grind
 grind
theorem Zg(hU:U=u3*B+ul)(hvl:vl<B)(hV:V=V3*B+vl)(hx:x*V3<=u3)(hxV:x<=V3+1)(hp:0<V):x<=U/V+1:=by
 rcases aoT x with h0 | h0
 ·grind
 ·obtain ⟨y,rfl⟩ : ∃ y,x=y+1:=⟨x-1,af⟩
  have h1:y<=U/V:=by
   rw [aqp hp];have h2:y*V=y*V3*B+y*vl:=by grind
   have h3:y*vl<=V3*B:=apl af af;have h4:(y+1)*V3*B<=u3*B:=aoP _ hx;grind
  omega
theorem Eo(h:l.length=k+2):val l=(dg l (k+1)*4294967296+dg l k)*pw k+lo l k:=by
 have e:lo l (k+2)=val l:=di af;rw [show k+2=k+1+1 from rfl,dh,dh,dV] at e;grind
theorem Ep(h:l.length=k+3):val l=((dg l (k+2)*4294967296+dg l (k+1))*4294967296+dg l k)*pw k+lo l k:=by
 have e:lo l (k+3)=val l:=di af;have e1:=dh l (k+2);have e2:=dh l (k+1);have e3:=dh l k;have p2:pw (k+2)=4294967296*(4294967296*pw k):=by rw [dV,dV]
 rw [dV] at e2;grind
structure Gs(U V top v1 u1:Nat)(x rest:Nat):Prop where
 ge:U/V<=x
 sum:x*v1+rest=top
 le:x<=4294967297
 far:4294967295<x->rest<=4294967295
 small:rest<=8589934591
theorem Gs.start(hv:2147483648<=v1)(hvl:v1<=4294967295)(ht:top=u0*4294967296+u1)(hu1:u1<=4294967295)(hu0:u0<=v1)(hQ:U/V<=top/v1) :
  Gs U V top v1 u1 (top/v1) (top%v1):=by
 have h1:=apA top v1;have h2:=aoN top (show 0<v1 from af);have h3:top%v1<=4294967294:=by generalize top%v1=r at *;omega
 refine ⟨hQ,by rw [aoR];exact h1,?_,fun _=>aoH h3 af,aoH h3 af⟩
 have:top/v1<4294967298:=by
  rw [apy af];omega
 exact Nat.le_of_lt_succ this
theorem Gs.next(h:Gs U V top v1 u1 x rest)(hv:2147483648<=v1)(hvl:v1<=4294967295)(ht:top=u0*4294967296+u1)(hu1:u1<=4294967295)(hu0:u0<=v1)(hr:rest<=4294967295)(hx:U/V<x):Gs U V top v1 u1 (x-1) (rest+v1):=by
 have hx0:0<x:=ao0 (aoI _) hx;obtain ⟨y,rfl⟩ : ∃ y,x=y+1:=⟨x-1,af⟩;have h1:=h.sum;have h2:=h.le;rw [aoW,apa] at h1;rw [Nat.add_sub_cancel];refine ⟨Nat.le_of_lt_succ hx,af,af,fun hy => ?_,af⟩;have h3:4294967296*v1<=y*v1:=aoP _ hy;have h4:u0*4294967296<=4294967296*v1:=by rw [aoR];exact aoS _ hu0
 omega
theorem Gs.over(h:Gs U V top v1 u1 x rest)(hU:U=val us)(hV:V=val vs)(kU:us.length=k+3)(hvl:vs.length=k+2)(Dh:bJ us)(ht:top=dg us (k+2)*4294967296+dg us (k+1))(hv1:v1=dg vs (k+1))(hp:0<V)(_hx:rest*4294967296+dg us k<x*dg vs k):U/V<x:=by
 subst hU hV ht hv1;refine Zh (Ep kU) (iY Dh k) (Eo hvl) ?_ hp;have h1:=h.sum;rw [aoJ,<- h1,aoW,<- aoV];omega
theorem Gs.out(h:Gs U V top v1 u1 x rest)(hU:U=val us)(hV:V=val vs)(kU:us.length=k+3)(hvl:vs.length=k+2)(hwv:bJ vs)(ht:top=dg us (k+2)*4294967296+dg us (k+1))(hv1:v1=dg vs (k+1))(hv:2147483648<=v1)(hp:0<V)(hx:x<=4294967295)(he:4294967295<rest\/x*dg vs k<=rest*4294967296+dg us k) :
  U/V<=x/\x<=U/V+1:=by
 refine ⟨h.ge,?_⟩;subst hU hV ht hv1;refine Zg (Ep kU) (iY hwv k) (Eo hvl) ?_ af hp;have h1:=h.sum;rw [aoJ,<- h1,aoW,<- aoV];rcases he with he | he
 ·have h2:x*dg vs k<=4294967295*4294967295:=apl hx (by have:=fA hwv k;omega)
  omega
 ·omega
theorem top_le(kU:us.length=k+3)(hvl:vs.length=k+2)(hwv:bJ vs)(hlt:val us<4294967296*val vs):dg us (k+2)<=dg vs (k+1):=by
 have h1:=Ep kU;have h3:lo vs (k+1)<pw (k+1):=iY hwv _;have e:lo vs (k+2)=val vs:=di af;rw [show k+2=k+1+1 from rfl,dh] at e;rcases aoM (dg vs (k+1)) (dg us (k+2)) with h | h
 ·exfalso
  have h4:(dg vs (k+1)+1)*(4294967296*4294967296*pw k)<=dg us (k+2)*(4294967296*4294967296*pw k):=aoP _ h;rw [dV] at h3 e;grind
 ·exact h
theorem acU(kU:us.length=k+3)(hvl:vs.length=k+2)(Dh:bJ us)(hv:0<dg vs (k+1)) :
  val us/val vs<=(dg us (k+2)*4294967296+dg us (k+1))/dg vs (k+1):=by
 have h1:=Ep kU;have h2:=Eo hvl;have hu:dg us k<4294967296:=fA Dh _;have hl:=iY Dh k;obtain ⟨top,ht⟩ : ∃ t,t=dg us (k+2)*4294967296+dg us (k+1):=⟨_,rfl⟩;obtain ⟨v1,hv1⟩ : ∃ t,t=dg vs (k+1):=⟨_,rfl⟩;rw [<- ht] at h1 ⊢;rw [<- hv1] at h2 hv ⊢
 have h3:pw (k+1)*v1<=val vs:=by
  rw [h2,dV,aoW];have:v1*4294967296*pw k=4294967296*pw k*v1:=by ac_rfl
  omega
 have h4:val us<(top+1)*pw (k+1):=by
  rw [h1,dV,aoW,aoW,apa];have:(dg us k+1)*pw k<=4294967296*pw k:=aoP _ hu;rw [aoW,apa] at this;rw [aoV];omega
 have h5:val us/val vs<=val us/(pw (k+1)*v1):=Nat.div_le_div_left h3 (ap2 (jf _) hv);rw [<- apV] at h5;refine aoH h5 (Nat.div_le_div_right ?_);have:=(apy (jf (k+1))).2 h4;omega
end
end Lw
namespace Lw
section
variable {o:Bool} {K a b r1 r2 u1 u2 v1 v2 x x0 y y0:Nat}
theorem comb(h1:u1*a=r1+v1*b)(h2:v2*b=r2+u2*a)(hd:u1*v2=u2*v1+1):a=v2*r1+v1*r2/\b=u2*r1+u1*r2:=by
 grind
theorem MJ(h1:u1*a=r1+v1*b)(h2:v2*b=r2+u2*a)(ha:a=v2*r1+v1*r2)(hb:b=u2*r1+u1*r2):Nat.gcd r1 r2=Nat.gcd a b:=by
 apply Nat.dvd_antisymm
 ·refine Nat.dvd_gcd ?_ ?_
  ·rw [ha];exact Nat.dvd_add (apL (ap4 _ _) _) (apL (ap5 _ _) _)
  ·rw [hb];exact Nat.dvd_add (apL (ap4 _ _) _) (apL (ap5 _ _) _)
 ·refine Nat.dvd_gcd ?_ ?_
  ·refine (Nat.dvd_add_iff_left (apL (ap5 a b) v1)).2 ?_
   rw [<- h1];exact apL (ap4 _ _) _
  ·refine (Nat.dvd_add_iff_left (apL (ap4 a b) u2)).2 ?_
   rw [<- h2];exact apL (ap5 _ _) _
structure Lm(x0 y0 x y u1 u2 v1 v2:Nat)(o:Bool):Prop where
 eq:if o then x+v1*y0=u1*x0/\y+u2*x0=v2*y0 else x+u1*x0=v1*y0/\y+v2*y0=u2*x0
 det:if o then u1*v2=u2*v1+1 else u2*v1=u1*v2+1
 sum:x*v2+y*v1=x0
 le:y<=x
 Tq:u2<=v2
 uv:u1+u2<=v1+v2
 JM:1<=v2
 aga:v1<=v2
 afA:u1<=v1\/u1=1
def Sp(a b u0 u1 v0 v1:Nat)(o:Bool):Prop :=
 u0<4294967296/\u1<4294967296/\v0<4294967296/\v1<4294967296 /\ ∃ r1 r2,(if o then v0*b=r1+u0*a/\u1*a=r2+v1*b else u0*a=r1+v0*b/\v1*b=r2+u1*a)/\r2<=r1/\Nat.gcd r1 r2=Nat.gcd a b/\r1<=a/\(0<v0->r1+r2<=a)
theorem Lm.start(h:y0<=x0):Lm x0 y0 x0 y0 1 0 0 1 true:=⟨by simp,by simp,by simp,h,af,af,af,af,.inr rfl⟩
theorem Lm.next(h:Lm x0 y0 x y u1 u2 v1 v2 o)(h1:v2<=y):Lm x0 y0 y (x%y) u2 (u1+x/y*u2) v2 (v1+x/y*v2) (!o):=by
 have hy:0<y:=aoK h.JM h1;have hm:=aoN x hy;have hd:=apA x y;have hq:1<=x/y:=by rw [aqp hy];have:=h.le;omega
 generalize x%y=r at *;generalize x/y=q at *;obtain ⟨e,d,s,l,b1,b2,b3,b4,b5⟩:=h;obtain ⟨p,rfl⟩ : ∃ p,q=p+1:=⟨q-1,af⟩;have hpu:p*u2<=p*v2:=aoS _ b1;simp only [aoW,apa];refine ⟨?_,?_,?_,aoZ hm,af,af,af,af,.inl b1⟩
 ·grind
 ·grind
 ·grind
theorem Lm.small(h:Lm x0 y0 x y u1 u2 v1 v2 o)(h0:x0<18446744073709551616)(h1:v2<=y) :
  v2<4294967296/\v1<4294967296/\u1<4294967296/\u2<4294967296:=by
 have s:=h.sum;have h2:v2*v2<=x*v2:=aoP _ (aoH h1 h.le)
 have h3:v2<4294967296:=by
  refine Nat.lt_of_not_le fun hle => ?_;have:=apl hle hle;omega
 have b1:=h.Tq;have b2:=h.aga;rcases h.afA with b3 | b3 <;> omega
theorem Lm.fits(h:Lm x0 y0 x y u1 u2 v1 v2 o)(h1:v2<=y):u1+x/y*u2<=v1+x/y*v2/\v1+x/y*v2<=x0:=by
 have hn:=h.next h1;refine ⟨hn.Tq,?_⟩;have hs:=hn.sum;have hy:1<=y:=aoH h.JM h1;have:1*(v1+x/y*v2)<=y*(v1+x/y*v2):=aoP _ hy;omega
theorem vX{t:Nat}{c:Nat}(h:c<=x)(ht:t<K):c*t<=K*x:=by
 rw [aoR K];exact apl h (aoZ ht)
theorem Lm.step(h:Lm x0 y0 x y u1 u2 v1 v2 o)(h0:x0<18446744073709551616)(h1:v2<=y)(h2:v1+v2<=x-y)(hK:0<K)(hx:x0=a/K)(hy:y0=b/K) :
  Sp a b u1 u2 v1 v2 (!o):=by
 obtain ⟨c1,c2,c3,c4⟩:=h.small h0 h1;refine ⟨c3,c4,c2,c1,?_⟩;have ea:=apA a K;have eb:=apA b K;have la:=aoN a hK;have lb:=aoN b hK;rw [<- hx] at ea;rw [<- hy] at eb;generalize a%K=α at *;generalize b%K=β at *;obtain ⟨e,d,s,l,b1,b2,b3,b4,b5⟩:=h;obtain ⟨z,rfl⟩ : ∃ z,x=y+z:=⟨x-y,af⟩;rw [Nat.add_sub_cancel_left] at h2
 have fin : ∀ r1 r2,a=v2*r1+v1*r2->r1<=a/\(0<v1->r1+r2<=a):=by
  intro r1 r2 ha;have f1:1*r1<=v2*r1:=aoP _ b3;refine ⟨af,fun hv => ?_⟩;have f2:1*r2<=v1*r2:=aoP _ hv;omega
 cases o
 ·simp only [Bool.not_false,if_true,Bool.false_eq_true,if_false] at e d ⊢
  have p1:u1*α<=K*(y+z):=vX af la;have p2:v2*β<=K*y:=vX h1 lb;have p3:(u1+u2)*α<=K*z:=vX af la
  have q1:v1*b=(K*(y+z)+v1*β-u1*α)+u1*a:=by
   have t1:K*(v1*y0)=K*(y+z)+K*(u1*x0):=by rw [<- e.1,aoJ]
   have t2:v1*(K*y0)=K*(v1*y0):=by ac_rfl
   have t3:u1*(K*x0)=K*(u1*x0):=by ac_rfl
   rw [<- ea,<- eb,aoJ v1,aoJ u1];omega
  have q2:u2*a=(K*y+u2*α-v2*β)+v2*b:=by
   have t1:K*(u2*x0)=K*y+K*(v2*y0):=by rw [<- e.2,aoJ]
   have t2:v2*(K*y0)=K*(v2*y0):=by ac_rfl
   have t3:u2*(K*x0)=K*(u2*x0):=by ac_rfl
   rw [<- ea,<- eb,aoJ v2,aoJ u2];omega
  rw [aoJ] at p1;rw [aoW] at p3;rw [aoJ] at q1;obtain ⟨r1,hr1⟩ : ∃ r,r=K*y+K*z+v1*β-u1*α:=⟨_,rfl⟩;obtain ⟨r2,hr2⟩ : ∃ r,r=K*y+u2*α-v2*β:=⟨_,rfl⟩;rw [<- hr1] at q1;rw [<- hr2] at q2;obtain ⟨k1,k2⟩:=comb q1 q2 (by rw [aoR v1,d,aoR v2]);have k3:=MJ q1 q2 k1 k2;refine ⟨r1,r2,⟨q1,q2⟩,af,by rw [k3,apm],fin _ _ k2⟩
 ·simp only [Bool.not_true,if_true,Bool.false_eq_true,if_false] at e d ⊢
  have p1:v1*β<=K*(y+z):=vX af lb;have p2:u2*α<=K*y:=vX af la;have p3:(v1+v2)*β<=K*z:=vX af lb
  have q1:u1*a=(K*(y+z)+u1*α-v1*β)+v1*b:=by
   have t1:K*(u1*x0)=K*(y+z)+K*(v1*y0):=by rw [<- e.1,aoJ]
   have t2:v1*(K*y0)=K*(v1*y0):=by ac_rfl
   have t3:u1*(K*x0)=K*(u1*x0):=by ac_rfl
   rw [<- ea,<- eb,aoJ v1,aoJ u1];omega
  have q2:v2*b=(K*y+v2*β-u2*α)+u2*a:=by
   have t1:K*(v2*y0)=K*y+K*(u2*x0):=by rw [<- e.2,aoJ]
   have t2:v2*(K*y0)=K*(v2*y0):=by ac_rfl
   have t3:u2*(K*x0)=K*(u2*x0):=by ac_rfl
   rw [<- ea,<- eb,aoJ v2,aoJ u2];omega
  rw [aoJ] at p1;rw [aoW] at p3;rw [aoJ] at q1;obtain ⟨r1,hr1⟩ : ∃ r,r=K*y+K*z+u1*α-v1*β:=⟨_,rfl⟩;obtain ⟨r2,hr2⟩ : ∃ r,r=K*y+v2*β-u2*α:=⟨_,rfl⟩;rw [<- hr1] at q1;rw [<- hr2] at q2;obtain ⟨k1,k2⟩:=comb q1 q2 d;have k3:=MJ q1 q2 k1 k2;refine ⟨r1,r2,⟨q1,q2⟩,af,k3,fin _ _ k1⟩
end
end Lw
namespace Lw
open Go
section
variable {cs ds l qs us:List Nat} {D F N S U V b c i k m o r u x:Nat}
theorem FZ(S:Nat):S%4294967296<4294967296:=aoN _ af
theorem afa(hu:u<4294967296)(hc:c<=1)(hD:oJ u (S%4294967296) D)(hF:oJ D c F)(hDl:D<=18446744073709551615) :
  F%4294967296+S+c=u+4294967296*(S/4294967296+F/9223372036854775808)/\F/9223372036854775808<=1:=by
 have h:=JA hu (FZ S) hc hD hF hDl;omega
theorem ae9{ms:List Nat}{carry bo b':Nat}(h:o+k<ds.length)(hv:lo ds (o+k)+pw o*(lo ms k*x)=lo cs (o+k)+pw (o+k)*(carry+bo))(hS:S=carry+x*dg ms k)(hw:r+S+bo=dg cs (o+k)+4294967296*(S/4294967296+b')) :
  lo (ds.set (o+k) r) (o+k+1)+pw o*(lo ms (k+1)*x)=lo cs (o+k+1)+pw (o+k+1)*(S/4294967296+b'):=by
 have e:pw (o+k)*(r+S+bo)=pw (o+k)*(dg cs (o+k)+4294967296*(S/4294967296+b')):=by rw [hw]
 rw [jG _ h,dh ms,dh cs,dV];generalize S/4294967296+b'=t at *
 have e1:pw o*((lo ms k+pw k*dg ms k)*x)=pw o*(lo ms k*x)+pw (o+k)*(x*dg ms k):=by
  rw [aoW,aoJ,nK];have:pw o*(pw k*dg ms k*x)=pw o*pw k*(x*dg ms k):=by ac_rfl
  rw [this]
 have e2:pw (o+k)*(4294967296*t)=4294967296*pw (o+k)*t:=by rw [<- aoV,aoR (pw (o+k))]
 rw [hS] at e;simp only [aoJ] at e hv ⊢;omega
theorem Yo(hu:u<4294967296)(hc:c<4294967296)(hb:b<=1)(hD:oJ u c D)(hF:oJ D b F)(hDl:D<=18446744073709551615) :
  (c+b<=u/\F=u-(c+b))\/(u<c+b/\F+(c+b)=18446744073709551616+u):=by
 have h1:=hD af af;have h2:=hF af af
 split at h1 <;> split at h2 <;> omega
theorem Yn(h:o+m<ds.length)(hv:lo ds (o+m)+pw o*(V*x)=lo cs (o+m)+pw (o+m)*(c+b))(hu:u=dg cs (o+m))(hr:r=u-(c+b))(hcb:c+b<=u)(hs:lo ds o=lo cs o)(hU:lo cs (o+m+1)=lo cs o+pw o*U)(hp:0<V)(hx:U/V<=x) :
  x=U/V/\lo (ds.set (o+m) r) (o+m+1)+pw o*(V*(U/V))=lo cs (o+m+1):=by
 have e1:lo (ds.set (o+m) r) (o+m+1)+pw o*(V*x)=lo cs (o+m+1):=by
  rw [jG _ h,dh cs,<- hu];have:pw (o+m)*u=pw (o+m)*r+pw (o+m)*(c+b):=by rw [<- aoJ];congr 1;omega
  omega
 have e2:lo cs o<=lo (ds.set (o+m) r) (o+m+1):=by
  rw [<- hs,jG _ h]
  have : ∀ k,lo ds o<=lo ds (o+k):=by
   intro k
   induction k with
   | zero=>exact aoG _
   | succ k ih=>rw [show o+(k+1)=o+k+1 from rfl,dh];omega
  have:=this m;omega
 have e3:pw o*(V*x)<=pw o*U:=af;have e4:V*x<=U:=Nat.le_of_mul_le_mul_left e3 (jf o);have e5:x<=U/V:=by rw [aqp hp,aoR];exact e4
 have e6:x=U/V:=Nat.le_antisymm e5 hx;exact ⟨e6,by rw [<- e6];exact e1⟩
theorem aaT(hw:bJ l)(m:Nat) : ∃ t,lo l (o+m)=lo l o+pw o*t/\t<pw m:=by
 refine ⟨lo (l.drop o) m,?_,iY (JW hw o) m⟩
 induction m with
 | zero=>simp [fH]
 | succ m ih=>rw [show o+(m+1)=o+m+1 from rfl,dh,dh,yT,ih,nK,aoJ,aoV];omega
theorem Ym{es:List Nat}(h:o+m<es.length)(hv:lo ds (o+m)+pw o*(V*x)=lo cs (o+m)+pw (o+m)*(c+b))(hu:u=dg cs (o+m))(kU:u<4294967296)(hc:c<4294967296)(hb:b<=1)(hF:F+(c+b)=18446744073709551616+u)(hcb:u<c+b)(hs:lo ds o=lo cs o)(hU:lo cs (o+m+1)=lo cs o+pw o*U)(hp:0<V)(hx:x<=U/V+1)(hwd:bJ ds)(hwe:bJ es)(hr:r<4294967296)(hg:lo es (o+m)+pw (o+m)*r=lo ds (o+m)+pw o*(V*1)) :
  x=U/V+1/\lo (es.set (o+m) ((F%4294967296+r)%4294967296)) (o+m+1)+pw o*(V*(U/V))=lo cs (o+m+1):=by
 have hlo:=dh cs (o+m);rw [<- hu,hU] at hlo
 have hx1:x=U/V+1:=by
  refine Nat.le_antisymm hx ?_;refine Nat.lt_of_not_le fun hle => ?_;rw [aqp hp,aoR] at hle;obtain ⟨t,ht,htl⟩:=aaT (o:=o) hwd m;have h1:pw (o+m)*(u+1)<=pw (o+m)*(c+b):=aoS _ hcb;have h2:pw o*(V*x)<=pw o*U:=aoS _ hle;have h3:pw o*(t+1)<=pw o*pw m:=aoS _ htl;rw [<- nK] at h3;rw [aoJ,ao1] at h1 h3;have:=jf o;omega
 have hQ:V*(U/V)<=U:=Nat.mul_div_le U V;refine ⟨hx1,?_⟩;rw [hx1,aoJ V,aoJ (pw o)] at hv;generalize U/V=Q at *;have h2:pw o*(V*Q)<=pw o*U:=aoS _ hQ;have hE:=iY hwe (o+m)
 have hr2:c+b<=u+r:=by
  refine Nat.le_of_not_lt fun hlt => ?_;have h1:pw (o+m)*(u+r+1)<=pw (o+m)*(c+b):=aoS _ hlt;rw [aoJ,aoJ,ao1] at h1;omega
 have hm:(F%4294967296+r)%4294967296+(c+b)=u+r:=af;rw [jG _ h];generalize (F%4294967296+r)%4294967296=s at *;have h5:pw (o+m)*s+pw (o+m)*(c+b)=pw (o+m)*u+pw (o+m)*r:=by rw [<- aoJ,hm,aoJ]
 omega
theorem AX(h : ∀ j,k<=j->dg l j=0):val l=lo l k:=by
 rcases Nat.le_total l.length k with h1 | h1
 ·rw [di h1]
 ·obtain ⟨d,hd⟩:=Nat.exists_eq_add_of_le h1
  have : ∀ d,lo l (k+d)=lo l k:=by
   intro d
   induction d with
   | zero=>rfl
   | succ d ih=>rw [show k+(d+1)=k+d+1 from rfl,dh,ih,h (k+d) af];simp
  rw [<- this d,<- hd,di (aoG _)]
theorem Bd(h:val l<pw k) : ∀ j,k<=j->dg l j=0:=by
 intro j hj
 have h1:lo l (j+1)<=val l:=by
  have:=uw l (j+1);omega
 rw [dh] at h1;have h2:pw k<=pw j:=dU hj;rcases aoT (dg l j) with h0 | h0
 ·exact h0
 ·have:=aoS (pw j) h0
  omega
theorem vJ(h:i<=l.length):val l=lo l i+pw i*val (l.drop i):=by
 have:=uw l i;grind
structure Ks(N V m:Nat)(us qs:List Nat)(j:Nat):Prop where
 sum:val us+V*(pw j*val (qs.drop j))=N
 rest:val (us.drop j)<V
theorem Ks.start{n j:Nat}(hv:val us=N)(hj:j<=us.length)(hN:N<V*pw j):Ks N V m us (List.replicate n 0) j:=by
 refine ⟨?_,?_⟩
 ·rw [List.drop_replicate,JO];simpa using hv
 ·have h1:=vJ hj
  refine Nat.lt_of_not_le fun h => ?_;have:=aoS (pw j) h;grind
theorem Ks.part(h:Ks N V m us qs (i+1))(hw:bJ us)(hi:i<us.length)(hV:V<pw m) :
  ∃ U,val ((us.drop i).take (m+1))=U/\val (us.drop i)=U/\U<4294967296*V/\lo us (i+m+1)=lo us i+pw i*U/\val us=lo us (i+m+1):=by
 have h1:=xY us hi;have h2:=fA hw i;have h3:=h.rest;have hU:val (us.drop i)<4294967296*V:=af;have hp:val (us.drop i)<pw (m+1):=by rw [dV];omega
 have hz:val us<pw (i+m+1):=by
  rw [vJ (aoZ hi),Nat.add_assoc,nK i];have h4:=iY hw i;have h5:=aoS (pw i) hp;rw [Nat.mul_succ] at h5;omega
 have hl:=AX (Bd hz);refine ⟨_,AX (Bd hp) ▸ rfl,rfl,hU,?_,hl⟩;rw [<- hl];exact vJ (aoZ hi)
theorem Ks.next(h:Ks N V m us qs (i+1))(hi:i<us.length)(hq:i<qs.length)(hdl:ds.length=us.length)(hU:val (us.drop i)=U)(hp:0<V)(hz:val us<pw (i+m+1))(hval:val us=lo us (i+m+1))(hsame : ∀ j,j<i\/i+m+1<=j->dg ds j=dg us j)(hd:lo ds (i+m+1)+pw i*(V*(U/V))=lo us (i+m+1)):Ks N V m ds (qs.set i (U/V)) i:=by
 have h1:val ds=lo ds (i+m+1):=AX fun j hj=>by rw [hsame j (.inr hj)];exact Bd hz j hj
 rw [<- h1,<- hval] at hd;refine ⟨?_,?_⟩
 ·have h2:=h.sum
  rw [xY (qs.set i (U/V)) (k:=i) (by rw [aoO];exact hq),iR _ hq,if_pos rfl,Gj _ af];rw [<- hd,dV] at h2;generalize val (qs.drop (i+1))=R at *;generalize U/V=Q at *;rw [<- h2]
  have e1:V*(pw i*(Q+4294967296*R))=pw i*(V*Q)+V*(4294967296*pw i*R):=by
   rw [aoJ,aoJ];have a1:V*(pw i*Q)=pw i*(V*Q):=by ac_rfl
   have a2:V*(pw i*(4294967296*R))=V*(4294967296*pw i*R):=by
    rw [<- aoV (pw i),aoR (pw i)]
   omega
  omega
 ·have h2:=vJ (l:=ds) (i:=i) af
  have h3:=vJ (aoZ hi);have h4:lo ds i=lo us i:=zU i fun j hj=>hsame j (.inl hj);rw [hU] at h3;have h5:pw i*(val (ds.drop i)+V*(U/V))=pw i*U:=by rw [aoJ];omega
  have h6:=Nat.eq_of_mul_eq_mul_left (jf i) h5;have h7:=apA U V;have h8:=aoN U hp;generalize V*(U/V)=t at *;generalize U%V=s at *;omega
theorem Ks.out(h:Ks N V m us qs 0):val us=N%V/\val qs=N/V:=by
 have h1:=h.sum;have h2:=h.rest;rw [apx,kY,apa] at h1;rw [apx] at h2;subst h1;exact ⟨by rw [aqm,apU h2],by rw [apT _ _ af,ape h2,apw]⟩
end
end Lw
namespace Lw
section
variable {cs ds l xs ys:List Nat} {P R S T b cA cB d f k n r t x y z:Nat}
theorem afS(qI:R*P=4294967296)(hR:0<R)(ht:t<P):(d*P+t)%4294967296+4294967296*(d/R)=d*P+t:=by
 have h1:=apA d R;have h2:=aoN d hR;generalize d/R=q at *;generalize d%R=s at *;subst h1;have h3:(s+1)*P<=R*P:=aoP _ h2;rw [aoW,apa,qI] at h3
 have h4:(R*q+s)*P+t=(s*P+t)+4294967296*q:=by
  grind
 omega
theorem afR{W:Nat}(h:k+W<cs.length)(hv:lo cs (k+W)+pw (k+W)*t=pw W*(lo xs k*P))(hw:r+4294967296*(dg xs k/R)=dg xs k*P+t) :
  lo (cs.set (k+W) r) (k+W+1)+pw (k+W+1)*(dg xs k/R)=pw W*(lo xs (k+1)*P):=by
 rw [jG _ h,dh xs,dV];generalize dg xs k/R=t' at *;have e1:pw (k+W)*(r+4294967296*t')=pw (k+W)*(dg xs k*P+t):=by rw [hw]
 have e2:pw W*((lo xs k+pw k*dg xs k)*P)=pw W*(lo xs k*P)+pw (k+W)*(dg xs k*P):=by
  rw [aoW,aoJ,nK];have:pw W*(pw k*dg xs k*P)=pw k*pw W*(dg xs k*P):=by ac_rfl
  omega
 have e3:pw (k+W)*(4294967296*t')=4294967296*pw (k+W)*t':=by rw [<- aoV,aoR (pw (k+W))]
 rw [aoJ,aoJ] at e1;omega
theorem Yf(qI:R*P=4294967296):P*(d/P+f%P*R)=d-d%P+4294967296*(f%P):=by
 have h1:=apA d P;rw [aoJ];have:P*(f%P*R)=R*P*(f%P):=by ac_rfl
 rw [this,qI];omega
theorem Yb(qI:R*P=4294967296)(hP:0<P)(hd:d<4294967296):d/P<R/\d/P+f%P*R<4294967296:=by
 have h1:d/P<R:=by rw [apy hP];omega
 refine ⟨h1,?_⟩;have h2:=aoN f hP;have h3:(f%P+1)*R<=P*R:=aoP _ h2;grind
theorem Ye(h:k<cs.length)(qI:R*P=4294967296)(hv:P*lo cs k+z=lo ds k+pw k*(dg ds k%P))(hr:r=dg ds k/P+dg ds (k+1)%P*R) :
  P*lo (cs.set k r) (k+1)+z=lo ds (k+1)+pw (k+1)*(dg ds (k+1)%P):=by
 have h1:=Yf (d:=dg ds k) (f:=dg ds (k+1)) qI;rw [<- hr] at h1;rw [jG _ h,dh,dV,aoJ];have h2:P*(pw k*r)=pw k*(P*r):=by ac_rfl
 have h3:=Nat.mod_le (dg ds k) P
 have h4:pw k*(dg ds k-dg ds k%P+4294967296*(dg ds (k+1)%P))+pw k*(dg ds k%P)=pw k*dg ds k+4294967296*pw k*(dg ds (k+1)%P):=by
  rw [<- aoJ];have:pw k*(dg ds k-dg ds k%P+4294967296*(dg ds (k+1)%P)+dg ds k%P)=pw k*(dg ds k+4294967296*(dg ds (k+1)%P)):=by congr 1;omega
  rw [this,aoJ,<- aoV,aoR (pw k) 4294967296]
 rw [h2,h1];omega
theorem Yd(hP:0<P)(hl:cs.length=ds.length)(hz:z<P)(hv:P*lo cs ds.length+z=lo ds ds.length+pw ds.length*(dg ds ds.length%P)):val cs=val ds/P:=by
 rw [oP (aoG _),di (aoG _),di af,Nat.zero_mod,Nat.mul_zero,apv] at hv;rw [<- hv,Nat.mul_add_div hP,ape hz,apv]
theorem agj(hw:bJ l)(k:Nat):val (l.drop k)=val l/pw k:=by
 rcases Nat.le_total l.length k with h | h
 ·rw [apR h,Em]
  have h1:=eu hw;have h2:=dU h;rw [ape af]
 ·rw [vJ h,apT _ _ (jf k),ape (iY hw k),apw]
theorem aaR(hw:bJ l)(hn:val l<pw (n+3))(qI:R*P=4294967296)(hR:0<R) :
  (dg l (n+1)+4294967296*dg l (n+2))*P+dg l n/R=val l/(pw n*R):=by
 have h1:=AX (Bd hn);have e1:=dh l (n+2);have e2:=dh l (n+1);have e3:=dh l n;have p2:pw (n+2)=4294967296*(4294967296*pw n):=by rw [dV,dV]
 rw [dV] at e2;rw [p2] at e1
 have e:val l=lo l n+pw n*(dg l n+R*(P*(dg l (n+1)+4294967296*dg l (n+2)))):=by
  rw [h1,show n+3=n+2+1 from rfl,e1,show n+2=n+1+1 from rfl,e2,e3,<- aoV R,qI];generalize dg l (n+1+1)=a;generalize dg l (n+1)=b;simp only [aoJ];have a1:pw n*(4294967296*(4294967296*a))=4294967296*(4294967296*pw n)*a:=by ac_rfl
  have a2:pw n*(4294967296*b)=4294967296*pw n*b:=by ac_rfl
  omega
 rw [<- apV,e,apT _ _ (jf n),ape (iY hw n),apw,apT _ _ hR,aoR P];omega
theorem afn{a b:List Nat}(ha:bJ a)(hab:val b<=val a)(hal:a.length=k+1)(hb:val b<pw (k+1)):dg b k<=dg a k:=by
 have h1:=AX (Bd hb);have h2:lo a (k+1)=val a:=di af;rw [dh] at h1 h2;have h3:=iY ha k;refine Nat.le_of_not_lt fun h => ?_;have:=aoS (pw k) h;grind
theorem XU{F D:Nat}(hb:b<=1)(hD:oJ (S%4294967296) (T%4294967296) D)(hF:oJ D b F)(hDl:D<=18446744073709551615) :
  F%4294967296+T+b+4294967296*(S/4294967296)=S+4294967296*(T/4294967296+F/9223372036854775808)/\F/9223372036854775808<=1:=by
 have h:=JA (FZ S) (FZ T) hb hD hF hDl;omega
theorem XT{b':Nat}(h:k<cs.length)(hv:lo cs k+y*lo ys k+pw k*cA=x*lo xs k+pw k*(cB+b))(hS:S=cA+x*dg xs k)(hT:T=cB+y*dg ys k)(hw:r+T+b+4294967296*(S/4294967296)=S+4294967296*(T/4294967296+b')) :
  lo (cs.set k r) (k+1)+y*lo ys (k+1)+pw (k+1)*(S/4294967296)=x*lo xs (k+1)+pw (k+1)*(T/4294967296+b'):=by
 have e:pw k*(r+T+b+4294967296*(S/4294967296))=pw k*(S+4294967296*(T/4294967296+b')):=by rw [hw]
 rw [jG _ h,dh ys,dh xs,dV];generalize S/4294967296=s at *;generalize T/4294967296+b'=t at *;subst hS hT;have a1:pw k*(4294967296*s)=4294967296*pw k*s:=by rw [<- aoV,aoR (pw k)]
 have a2:pw k*(4294967296*t)=4294967296*pw k*t:=by rw [<- aoV,aoR (pw k)]
 have a3:y*(pw k*dg ys k)=pw k*(y*dg ys k):=by ac_rfl
 have a4:x*(pw k*dg xs k)=pw k*(x*dg xs k):=by ac_rfl
 simp only [aoJ] at e hv ⊢;omega
theorem XR(hw:bJ cs)(hl:cs.length=n)(ha:xs.length<=n)(hb:ys.length<=n)(hv:lo cs n+y*lo ys n+pw n*cA=x*lo xs n+pw n*(cB+b))(hr:x*val xs=r+y*val ys)(hrn:r<pw n):val cs=r:=by
 rw [di af,di ha,di hb,hr] at hv;have h1:val cs+pw n*cA=r+pw n*(cB+b):=af;have h2:=eu hw;rw [hl] at h2;have h3:=congrArg (· % pw n) h1;simp only [aqm] at h3;rw [apU h2,apU hrn] at h3;exact h3
end
end Lw
namespace Go.Proofs.BGQ
open Go Go.RowKit Lw
set_option maxRecDepth 100000 in
set_option maxHeartbeats 1600000 in
theorem Zf(A A':Option Addr)(us vs:List Nat)(k c c' B B':Nat)(w:World)(h:Rd w B A us)(h':Rd w B' A' vs)(hu:us.length=k+3)(hv:vs.length=k+2)(hl:k<=16777216)(hv1:2147483648<=dg vs (k+1))(hlt:val us<4294967296*val vs) :
  Calls Tryz.prog 214 #[.slice A (k+3:Nat) c,.slice A' (k+2:Nat) c'] w fun e w' => ∃ x q:Nat,e = .returned (.int .u64 x)/\w'=w.drewN q/\x<=4294967295/\val us/val vs<=x/\x<=val us/val vs+1:=by
 obtain ⟨b,off,rfl,hb,hc1,hl1⟩:=h.at_ (k:=k+2) (by rw [hu];omega);obtain ⟨b_,IE,he,_,hc2,hl2⟩:=h.at_ (k:=k+1) (by rw [hu];omega)
 injection he with he;injection he with e1 e2;subst e1 e2;obtain ⟨b_,IE,he,_,hc3,hl3⟩:=h.at_ (k:=k) (by rw [hu];omega)
 injection he with he;injection he with e1 e2;subst e1 e2;obtain ⟨b',off',rfl,hb',hd1,hm1⟩:=h'.at_ (k:=k+1) (by rw [hv];omega);obtain ⟨b_,IE,he,_,hd2,hm2⟩:=h'.at_ (k:=k) (by rw [hv];omega)
 injection he with he;injection he with e1 e2;subst e1 e2;have htl:=top_le hu hv h'.bQ hlt;have vw:=acU hu hv h.bQ (show 0<dg vs (k+1) from af)
 have hvp:0<val vs:=by
  have:=Eo hv;have h5:1<=(dg vs (k+1)*4294967296+dg vs k)*pw k:=ap2 af (jf k);omega
 obtain ⟨u0,hu0⟩ : ∃ u,u=dg us (k+2):=⟨_,rfl⟩;obtain ⟨u1,hu1⟩ : ∃ u,u=dg us (k+1):=⟨_,rfl⟩;obtain ⟨u2,hu2⟩ : ∃ u,u=dg us k:=⟨_,rfl⟩;obtain ⟨v1,H9⟩ : ∃ u,u=dg vs (k+1):=⟨_,rfl⟩;obtain ⟨v2,Ia⟩ : ∃ u,u=dg vs k:=⟨_,rfl⟩;rw [<- hu0] at hc1 hl1 htl vw;rw [<- hu1] at hc2 hl2 vw;rw [<- hu2] at hc3 hl3;rw [<- H9] at hd1 hm1 htl vw hv1;rw [<- Ia] at hd2 hm2;obtain ⟨top,htop⟩ : ∃ t,t=u0*4294967296+u1:=⟨_,rfl⟩;rw [<- htop] at vw;have HG:=Lib.hid (Gs.start (V:=val vs) hv1 af htop af htl vw);have hor:bits .or .u64 ((u0:Int)*4294967296) (u1:Int)=((top:Nat):Int):=by rw [tY hl1 hl2,htop];omega
 have Hu:=Lib.hid hu;have Hv:=Lib.hid hv;have yG:=Lib.hid htop;have Hd:=Lib.hid (And.intro hu0 (And.intro hu1 (And.intro hu2 (And.intro H9 Ia))));have FK:=Lib.hid hvp;have Le:=Lib.hid htl;have VE:=Lib.hid (show val us/val vs<4294967296 by rw [apy hvp];exact hlt);have hs1:(k:Int)+2-1=((k+1:Nat):Int):=af;have hs2:(k:Int)+2-2=(k:Int):=af;clear hu hv htop hu0 hu1 hu2 H9 Ia vw hvp htl hlt
 go_enter Tryz.func214,Tryz.ntmps214
 go_wp2_with fail
 go_quiet (fail)
 go_wp2_with fail
 have hq0:IntKind.u64.wrap ((top:Int)/(v1:Int))=((top/v1:Nat):Int):=by
  rw [<- ap1];exact IntWalk.u64_in _ (by have:=HG.out.le;generalize top/v1=Q at *;omega)
 go_loopw [7,8] (fun a b wr => ∃ x rest q:Nat,x<=4294967297/\rest<=8589934591/\a = .int .u64 x/\b = .int .u64 rest/\Hid (Gs (val us) (val vs) top v1 u1 x rest)/\wr=w.drewN q) (fun a _ _=>(intOf a).toNat)
 case atStart=>exact ⟨top/v1,top%v1,_,HG.out.le,HG.out.small,congrArg _ hq0,congrArg _ (aqd top v1).symm,HG,rfl⟩
 case round =>
  obtain ⟨x,rest,q,hx,hr,rfl,rfl,hg,rfl⟩:=hrel;clear hq0
  by_cases h1:4294967295<rest
  ·have hxl:x<=4294967295:=by
    rcases aoM 4294967295 x with h2 | h2
    ·have:=hg.out.far h2;omega
    ·exact h2
   have HO:=Lib.hid (hg.out.out rfl rfl Hu.out Hv.out h'.bQ (by rw [yG.out,Hd.out.1,Hd.out.2.1]) Hd.out.2.2.2.1 hv1 FK.out hxl (.inl h1));have hb1:decide ((rest:Int)<=4294967295)=false:=decide_eq_false af
   go_wp2_with fail
   go_quiet (fail)
   go_wp2_with fail
   go_ret
   exact ⟨x,_,rfl,by rw [World.drewN_drewN],hxl,HO.out.1,HO.out.2⟩
  ·have hrl:rest<=4294967295:=af
   have hb1:((rest:Int)<=4294967295):=af;clear h1
   by_cases h2:4294967295<x
   ·have hQ:val us/val vs<x:=aoK VE.out h2
    have HN:=Lib.hid (hg.out.next hv1 af yG.out af Le.out hrl hQ);have hb2:(4294967295:Int)<(x:Int):=af;clear hQ
    go_wp2_with fail
    go_quiet (fail)
    go_wp2_with fail
    go_roundw
    case rel=>exact ⟨x-1,rest+v1,q+nq,af,af,congrArg _ af,congrArg _ af,HN,rfl⟩
    case measure=>simp [intOf];omega
   ·have hxl:x<=4294967295:=af
    obtain ⟨y,hy⟩ : ∃ y,y=x*v2:=⟨_,rfl⟩;obtain ⟨t,ht⟩ : ∃ t,t=rest*4294967296+u2:=⟨_,rfl⟩;have hmul:(x:Int)*(v2:Int)=(y:Int):=by rw [hy];simp
    have hyl:y<=18446744065119617025:=by rw [hy];exact apl (show x<=4294967295 from af) (show v2<=4294967295 from af)
    have hor2:bits .or .u64 ((rest:Int)*4294967296) (u2:Int)=(t:Int):=by rw [tY af hl3,ht];omega
    have hb2:decide ((4294967295:Int)<(x:Int))=false:=decide_eq_false af;have Hy:=Lib.hid hy;have Ht:=Lib.hid ht;clear h2 hy ht
    by_cases h3:t<y
    ·have hQ:val us/val vs<x:=hg.out.over rfl rfl Hu.out Hv.out h.bQ (by rw [yG.out,Hd.out.1,Hd.out.2.1]) Hd.out.2.2.2.1 FK.out (by rw [<- Hd.out.2.2.1,<- Hd.out.2.2.2.2,<- Hy.out,<- Ht.out];exact h3)
     have hx0:0<x:=ao0 (aoI _) hQ;have HN:=Lib.hid (hg.out.next hv1 af yG.out af Le.out hrl hQ);clear hQ
     go_wp2_with fail
     go_quiet (fail)
     go_wp2_with fail
     go_roundw
     case rel=>exact ⟨x-1,rest+v1,q+nq,af,af,congrArg _ af,congrArg _ af,HN,rfl⟩
     case measure=>simp [intOf];omega
    ·have HO:=Lib.hid (hg.out.out rfl rfl Hu.out Hv.out h'.bQ (by rw [yG.out,Hd.out.1,Hd.out.2.1]) Hd.out.2.2.2.1 hv1 FK.out hxl (.inr (by rw [<- Hd.out.2.2.1,<- Hd.out.2.2.2.2,<- Hy.out,<- Ht.out];omega)))
     go_wp2_with fail
     go_quiet (fail)
     go_wp2_with fail
     go_ret
     exact ⟨x,_,rfl,by rw [World.drewN_drewN],hxl,HO.out.1,HO.out.2⟩
theorem grown_drew(w:World)(s:Option Nat):w.grownBy w.drew s:=⟨rfl,rfl,rfl,aoG _,fun _ _ _=>rfl⟩
set_option maxRecDepth 100000 in
set_option maxHeartbeats 3200000 in
theorem ae6(g o x m U:Nat)(A':Option Addr)(cs ms:List Nat)(c c' B':Nat)(w:World)(hb:bF w g 113 cs)(hcw:bJ cs)(h':Rd w B' A' ms)(hB':B'<=w.heap.size)(hne:0<m -> ∀ a,A'=some a->a.block≠g)(hm:ms.length=m)(hl:m<=16777216)(hl':cs.length<=1099511627776)(ho:o+m+1<=cs.length)(hmc:m<=c)(_hx:x<=4294967295)(hU:lo cs (o+m+1)=lo cs o+pw o*U)(hp:0<val ms)(hx1:U/val ms<=x)(hx2:x<=U/val ms+1) :
  Calls Tryz.prog 213 #[.slice (some ⟨g,o,none⟩) (m+1:Nat) c,.slice A' m c',.int .u64 x] w fun e w' => ∃ (ds:List Nat),e = .returned (.int .u32 ((U/val ms:Nat):Int))/\bF w' g 113 ds /\
   ds.length=cs.length/\bJ ds/\(∀ j,j<o\/o+m+1<=j->dg ds j=dg cs j)/\lo ds (o+m+1)+pw o*(val ms*(U/val ms))=lo cs (o+m+1)/\w.grownBy w' (some g)/\w'.heap.size=w.heap.size:=by
 have Hm:=Lib.hid hm;have HU:=Lib.hid hU;have HX:=Lib.hid (And.intro hp (And.intro hx1 hx2));have rX:=Lib.hid hne;clear hm hU hp hx1 hx2 hne
 go_enter Tryz.func213,Tryz.ntmps213
 go_wp2_with fail
 go_loopw [7,8,15] (fun a b i wr => ∃ (k carry bo:Nat) (ds:List Nat),k<=m/\carry<=4294967295/\bo<=1/\i = .int .i64 k/\a = .int .u64 carry/\b = .int .u64 bo/\bF wr g 113 ds/\Hid (ds.length=cs.length)/\bJ ds /\
   Hid (∀ j,j<o\/o+k<=j->dg ds j=dg cs j)/\Hid (lo ds (o+k)+pw o*(lo ms k*x)=lo cs (o+k)+pw (o+k)*(carry+bo))/\Hid (w.grownBy wr (some g)/\wr.heap.size=w.heap.size)) (fun _ _ i _=>m-(intOf i).toNat)
 case atStart=>exact ⟨0,0,0,cs,aoI _,af,af,rfl,rfl,rfl,hb,Lib.hid rfl,hcw,Lib.hid (fun _ _=>rfl),Lib.hid (by simp [fH]),Lib.hid ⟨World.grownBy.refl w _,rfl⟩⟩
 case round =>
  obtain ⟨k,carry,bo,ds,hk,hcar,iM,rfl,rfl,rfl,hb1,hdl,hdw,hsame,hv,hg⟩:=hrel;clear hb
  by_cases hkm:k<m
  ·have hr:=h'.grown hg.out.1 hB' (fun hp=>rX.out af)
   obtain ⟨b,off,rfl,hbb,hcell,hlt⟩:=hr.at_ (k:=k) (by rw [Hm.out];omega);have hcc:=hb1.cell (i:=o+k) (by rw [hdl.out];omega);have sU:=fA hdw (o+k);have hfr:=hb1.frozen (o+k);obtain ⟨Ib,Ic⟩:=zX (x:=x) af hlt;have hN:x*dg ms k<=18446744065119617025:=by have:=apd x (dg ms k);omega
   obtain ⟨S,hS⟩ : ∃ S,S=carry+x*dg ms k:=⟨_,rfl⟩;have hSl:S<=18446744073709551615:=af;have hsum:(carry:Int)+(x:Int)*(dg ms k:Int)=(S:Int):=by rw [hS,apz,apd]
   have hand:bits .and .u64 (S:Int) 4294967295=((S%4294967296:Nat):Int):=FY af;obtain ⟨D,hD,hDl,lQ⟩:=rF (dg ds (o+k)) (S%4294967296);obtain ⟨F,hF,GH,lS⟩:=rF D bo;have hsw:=Lib.hid (afa sU iM lQ lS hDl);have hs1:S/4294967296<=4294967295:=af;have hF2:F/9223372036854775808<=1:=hsw.out.2;have hT:((S/4294967296:Nat):Int)=(S:Int)/4294967296:=af;have HS:=Lib.hid hS;obtain ⟨M,hM⟩ : ∃ M,M=S%4294967296:=⟨_,rfl⟩;rw [<- hM] at hand hD;clear lQ lS hS hM
   go_wp2_with fail
   go_roundw
   case rel =>
    refine ⟨k+1,S/4294967296,F/9223372036854775808,ds.set (o+k) (F%4294967296),af,hs1,hF2,by go_num,by go_num,by go_num,hb1.kE (by rw [hdl.out];omega) af,Lib.hid (by rw [aoO];exact hdl.out),gB hdw _ (aoN _ af),Lib.hid ?_,Lib.hid ?_,Lib.hid ⟨mZ hg.out.1 _ _,by simp [hg.out.2]⟩⟩
    ·intro j hj
     rw [iR _ (by rw [hdl.out];omega),if_neg af];exact hsame.out j af
    ·have e:=hsw.out.1
     rw [hsame.out (o+k) af] at e;exact ae9 (by rw [hdl.out];omega) hv.out HS.out e
   case measure=>simp [intOf];omega
  ·obtain rfl:k=m:=af
   have hcc:=hb1.cell (i:=o+k) (by rw [hdl.out];omega);have sU:=fA hdw (o+k);have hfr:=hb1.frozen (o+k);obtain ⟨D,hD,hDl,lQ⟩:=rF (dg ds (o+k)) carry;obtain ⟨F,hF,GH,lS⟩:=rF D bo;have CV:=Yo sU af iM lQ lS hDl;have hu:dg ds (o+k)=dg cs (o+k):=hsame.out _ af;have hlk:lo ms k=val ms:=di (by rw [Hm.out];exact aoG _);have HV:=Lib.hid (show lo ds (o+k)+pw o*(val ms*x)=lo cs (o+k)+pw (o+k)*(carry+bo) by rw [<- hlk];exact hv.out);have hlo:Hid (lo ds o=lo cs o):=Lib.hid (zU o fun j hj=>hsame.out j af);have Hu:=Lib.hid hu;clear lQ lS hu hlk;rcases CV with ⟨hcb,zn⟩ | ⟨hcb,zn⟩
   ·have hend:=Lib.hid (Yn (r:=F) (by rw [hdl.out];omega) HV.out Hu.out zn hcb hlo.out HU.out HX.out.1 HX.out.2.1)
    have hz:(F:Int)/9223372036854775808=0:=af;have hz2:(F:Int)%4294967296=(F:Int):=af;have hx3:(x:Int)%4294967296=(x:Int):=af;clear zn
    go_wp2_with fail
    go_ret
    refine ⟨ds.set (o+k) F,eP (by rw [<- hend.out.1]),hb1.kE (by rw [hdl.out];omega) rfl,by rw [aoO];exact hdl.out,gB hdw _ af,?_,hend.out.2,mZ hg.out.1 _ _,by simp [hg.out.2]⟩;intro j hj;rw [iR _ (by rw [hdl.out];omega),if_neg af];exact hsame.out j af
   ·have hz:(F:Int)/9223372036854775808=1:=af
    have HF:=Lib.hid zn;have hfm:(F:Int)%4294967296=((F%4294967296:Nat):Int):=af;have hfl:F%4294967296<=4294967295:=af;obtain ⟨f,hf⟩ : ∃ f,f=F%4294967296:=⟨_,rfl⟩;rw [<- hf] at hfm hfl;have Hf:=Lib.hid hf;clear zn hf;have hb2:=hb1.kE (i:=o+k) (z:=(f:Int)) (v:=f) (by rw [hdl.out];omega) rfl;have ZN:=hb2.cell (i:=o+k) (by rw [aoO,hdl.out];omega);rw [iR _ (by rw [hdl.out];omega),if_pos rfl] at ZN;have hfr2:=hb2.frozen (o+k);have hw2:=gB hdw (o+k) (v:=f) af;have hg2:=mZ hg.out.1 (o+k) (.int .u32 (f:Int));have hr2:=h'.grown hg2 hB' (fun hp=>rX.out (by rw [Hm.out] at hp;exact hp));have hsz2:B'<=(wr.setCell ⟨g,o+k,none⟩ (.int .u32 (f:Int))).heap.size:=by simp [hg.out.2];exact hB'
    go_wp2_with fail
    go_region_with (go_at_call 154;refine (Ls g o 1 A' (ds.set (o+k) f) ms k _ _ B' _ hb2.drew hw2 hr2.drew hsz2 rX.out Hm.out hl (by rw [aoO,hdl.out];omega) (by rw [aoO,hdl.out];omega) af).mono ?_;rintro e w2 ⟨r,es,rfl,hrl,hb3,hel,CV,Hl,OX,hg3,hsz3⟩;have ZO:=hb3.cell (i:=o+k) (by rw [hel,aoO,hdl.out];omega);rw [Hl (o+k) af,iR _ (by rw [hdl.out];omega),if_pos rfl] at ZO;have hfr3:=hb3.frozen (o+k);have Lc:=Lib.hid hel;have VF:=Lib.hid Hl;have VI:=Lib.hid OX;have VB:=Lib.hid hg3;have VO:=Lib.hid hsz3;clear hel Hl OX hg3 hsz3)
    all_goals
     have hlen:o+k<es.length:=by rw [Lc.out,aoO,hdl.out];omega
     have hb4:=hb3.kE (i:=o+k) (z:=IntKind.u32.wrap ((f:Int)+(r:Int))) (v:=(f+r)%4294967296) hlen (by rw [IntKind.wrap_u32];omega);have hend:=Ym (cs:=cs) (ds:=ds) (es:=es) (F:=F) (r:=r) hlen HV.out Hu.out sU af iM HF.out hcb hlo.out HU.out HX.out.1 HX.out.2.2 hdw CV hrl (by have e:=VI.out;rwa [PG _ _ (aoG _)] at e);rw [<- Hf.out] at hend;have HE:=Lib.hid hend.2;have hx4:=hend.1;obtain ⟨Q,hQ⟩ : ∃ Q,Q=U/val ms:=⟨_,rfl⟩;rw [<- hQ] at hx4 HE;have HQ:=Lib.hid hQ;have hx5:((x:Int)-1)%4294967296=(Q:Int):=af;clear hend hQ
     go_wp2_with fail
     go_ret
     rw [<- HQ.out];refine ⟨es.set (o+k) ((f+r)%4294967296),eP af,hb4,by rw [aoO,Lc.out,aoO];exact hdl.out,gB CV _ (aoN _ af),?_,HE.out,mZ (hg2.trans ((grown_drew _ _).trans VB.out)) _ _,by simp [VO.out,hg.out.2]⟩;intro j hj;rw [iR _ hlen,if_neg af,VF.out j af,iR _ (by rw [hdl.out];omega),if_neg af];exact hsame.out j af
end Go.Proofs.BGQ
