/- Part of a proof, said shortly. -/
import Derived.Test.YtbihljnjaondcaaGreatDoorAlt
import Derived.Test.YtbihljnjaondcaaGreatDoorT1
import Derived.Test.YtbihljnjaondcaaGreatDoorT3
import Derived.Test.YtbihljnjaondcaaGreatDoorT2
import Derived.Test.YtbihljnjaondcaaGreatDoorT8
import Derived.Test.YtbihljnjaondcaaGreatDoorT6
import Derived.Test.YtbihljnjaondcaaGreatDoorT4
import Derived.Test.YtbihljnjaondcaaGreatDoorT5
import Derived.Test.YtbihljnjaondcaaGreatDoorT7
namespace Lw
theorem bjx {U V V3 u3 B vl ul x:Nat} (hU:U=u3*B+ul) (hul:ul < B) (hV:V=V3*B+vl) (hx:u3+1≤x*V3) (hp:0 < V):U / V < x:=by
 rw [Nat.div_lt_iff_lt_mul hp]
 have h1:(u3+1)*B≤x*V3*B:=Nat.mul_le_mul_right _ hx
 have h2:x*V=x*V3*B+x*vl:=by rw [hV,Nat.mul_add,Nat.mul_assoc]
 rw [Nat.add_mul,Nat.one_mul] at h1
 omega
theorem bjw {U V V3 u3 B vl ul x:Nat} (hU:U=u3*B+ul) (hvl:vl < B) (hV:V=V3*B+vl) (hx:x*V3≤u3) (hxV:x≤V3+1) (hp:0 < V):x≤U / V+1:=by
 rcases Nat.eq_zero_or_pos x with h0 | h0
 ·rw [h0]; exact Nat.zero_le _
 ·obtain ⟨y,rfl⟩ : ∃ y,x=y+1:=⟨x - 1,by omega⟩
  have h1:y≤U / V:=by
   rw [Nat.le_div_iff_mul_le hp]
   have h2:y*V=y*V3*B+y*vl:=by rw [hV,Nat.mul_add,Nat.mul_assoc]
   have h3:y*vl≤V3*B:=Nat.mul_le_mul (by omega) (by omega)
   have h4:(y+1)*V3*B≤u3*B:=Nat.mul_le_mul_right _ hx
   have h5:(y+1)*V3*B=y*V3*B+V3*B:=by rw [Nat.add_mul,Nat.add_mul,Nat.one_mul]
   omega
  exact Nat.succ_le_succ h1
theorem a8B {l:List Nat} {k:Nat} (h:l.length=k+2):val l=(dg l (k+1)*4294967296+dg l k)*pw k+lo l k:=by
 have e:lo l (k+2)=val l:=acm (by omega)
 rw [show k+2=k+1+1 from rfl,acw,acw,afC] at e
 rw [← e,Nat.add_mul,Nat.mul_comm (dg l k),Nat.mul_comm (dg l (k+1)),Nat.mul_assoc,Nat.mul_assoc,Nat.mul_comm (dg l (k+1))]
 omega
theorem a8C {l:List Nat} {k:Nat} (h:l.length=k+3):val l=((dg l (k+2)*4294967296+dg l (k+1))*4294967296+dg l k)*pw k+lo l k:=by
 have e:lo l (k+3)=val l:=acm (by omega)
 have e1:=acw l (k+2)
 have e2:=acw l (k+1)
 have e3:=acw l k
 have p2:pw (k+2)=4294967296*(4294967296*pw k):=by rw [afC,afC]
 rw [afC] at e2
 rw [p2] at e1
 rw [← e,show k+3=k+2+1 from rfl,e1,show k+2=k+1+1 from rfl,e2,e3]
 generalize dg l (k+1+1)=a
 generalize dg l (k+1)=b
 generalize dg l k=c
 generalize pw k=p
 simp only [Nat.add_mul]
 have h1:a*4294967296*4294967296*p=4294967296*(4294967296*p)*a:=by ac_rfl
 have h2:b*4294967296*p=4294967296*p*b:=by ac_rfl
 have h3:c*p=p*c:=Nat.mul_comm _ _
 omega
structure Gs (U V top v1 u1:Nat) (x rest:Nat):Prop where
 ge:U / V≤x
 sum:x*v1+rest=top
 le:x≤4294967297
 far:4294967295 < x→rest≤4294967295
 small:rest≤8589934591
theorem Gs.start {U V top v1 u1 u0:Nat} (hv:2147483648≤v1) (hvl:v1≤4294967295) (ht:top=u0*4294967296+u1) (hu1:u1≤4294967295) (hu0:u0≤v1) (hQ:U / V≤top / v1) :
  Gs U V top v1 u1 (top / v1) (top % v1):=by
 have h1:=Nat.div_add_mod top v1
 have h2:=Nat.mod_lt top (show 0 < v1 by omega)
 have h3:top % v1≤4294967294:=by generalize top % v1=r at *; omega
 refine ⟨hQ,by rw [Nat.mul_comm]; exact h1,?_,fun _=>Nat.le_trans h3 (by omega),Nat.le_trans h3 (by omega)⟩
 have:top / v1 < 4294967298:=by
  rw [Nat.div_lt_iff_lt_mul (by omega)]
  omega
 exact Nat.le_of_lt_succ this
theorem Gs.next {U V top v1 u1 u0 x rest:Nat} (h:Gs U V top v1 u1 x rest) (hv:2147483648≤v1) (hvl:v1≤4294967295) (ht:top=u0*4294967296+u1) (hu1:u1≤4294967295) (hu0:u0≤v1)
  (hr:rest≤4294967295) (hx:U / V < x):Gs U V top v1 u1 (x - 1) (rest+v1):=by
 have hx0:0 < x:=Nat.lt_of_le_of_lt (Nat.zero_le _) hx
 obtain ⟨y,rfl⟩ : ∃ y,x=y+1:=⟨x - 1,by omega⟩
 have h1:=h.sum
 have h2:=h.le
 rw [Nat.add_mul,Nat.one_mul] at h1
 rw [Nat.add_sub_cancel]
 refine ⟨Nat.le_of_lt_succ hx,by omega,by omega,fun hy => ?_,by omega⟩
 have h3:4294967296*v1≤y*v1:=Nat.mul_le_mul_right _ hy
 have h4:u0*4294967296≤4294967296*v1:=by rw [Nat.mul_comm]; exact Nat.mul_le_mul_left _ hu0
 omega
theorem Gs.over {U V top v1 u1 x rest k:Nat} {us vs:List Nat} (h:Gs U V top v1 u1 x rest) (hU:U=val us) (hV:V=val vs) (hul:us.length=k+3) (hvl:vs.length=k+2) (hwu:Wds us)
  (ht:top=dg us (k+2)*4294967296+dg us (k+1)) (hv1:v1=dg vs (k+1)) (hp:0 < V) (hx:rest*4294967296+dg us k < x*dg vs k):U / V < x:=by
 subst hU hV ht hv1
 refine bjx (a8C hul) (ano hwu k) (a8B hvl) ?_ hp
 have h1:=h.sum
 rw [Nat.mul_add,← h1,Nat.add_mul,← Nat.mul_assoc]
 omega
theorem Gs.out {U V top v1 u1 x rest k:Nat} {us vs:List Nat} (h:Gs U V top v1 u1 x rest) (hU:U=val us) (hV:V=val vs) (hul:us.length=k+3) (hvl:vs.length=k+2) (hwv:Wds vs)
  (ht:top=dg us (k+2)*4294967296+dg us (k+1)) (hv1:v1=dg vs (k+1)) (hv:2147483648≤v1) (hp:0 < V) (hx:x≤4294967295) (he:4294967295 < rest∨x*dg vs k≤rest*4294967296+dg us k) :
  U / V≤x∧x≤U / V+1:=by
 refine ⟨h.ge,?_⟩
 subst hU hV ht hv1
 refine bjw (a8C hul) (ano hwv k) (a8B hvl) ?_ (by omega) hp
 have h1:=h.sum
 rw [Nat.mul_add,← h1,Nat.add_mul,← Nat.mul_assoc]
 rcases he with he | he
 ·have h2:x*dg vs k≤4294967295*4294967295:=Nat.mul_le_mul hx (by have:=ahv hwv k; omega)
  omega
 ·omega
theorem top_le {us vs:List Nat} {k:Nat} (hul:us.length=k+3) (hvl:vs.length=k+2) (hwv:Wds vs) (hlt:val us < 4294967296*val vs):dg us (k+2)≤dg vs (k+1):=by
 have h1:=a8C hul
 have h2:=afS hwv
 have h3:lo vs (k+1) < pw (k+1):=ano hwv _
 have e:lo vs (k+2)=val vs:=acm (by omega)
 rw [show k+2=k+1+1 from rfl,acw] at e
 rcases Nat.lt_or_ge (dg vs (k+1)) (dg us (k+2)) with h | h
 ·exfalso
  have h4:(dg vs (k+1)+1)*(4294967296*4294967296*pw k)≤dg us (k+2)*(4294967296*4294967296*pw k):=Nat.mul_le_mul_right _ h
  have h5:dg us (k+2)*(4294967296*4294967296*pw k)≤val us:=by
   rw [h1]
   generalize dg us (k+2)=a
   generalize dg us (k+1)=b
   generalize dg us k=c
   have:((a*4294967296+b)*4294967296+c)*pw k=a*(4294967296*4294967296*pw k)+(b*4294967296+c)*pw k:=by
    simp only [Nat.add_mul]
    have:a*4294967296*4294967296*pw k=a*(4294967296*4294967296*pw k):=by simp only [Nat.mul_assoc]
    omega
   omega
  rw [afC] at h3 e
  have h6:4294967296*val vs < (dg vs (k+1)+1)*(4294967296*4294967296*pw k):=by
   rw [← e,Nat.add_mul,Nat.one_mul]
   have:dg vs (k+1)*(4294967296*4294967296*pw k)=4294967296*(4294967296*pw k*dg vs (k+1)):=by ac_rfl
   rw [Nat.mul_add]
   have:4294967296*4294967296*pw k=4294967296*(4294967296*pw k):=by rw [Nat.mul_assoc]
   omega
  omega
 ·exact h
theorem bmu {us vs:List Nat} {k:Nat} (hul:us.length=k+3) (hvl:vs.length=k+2) (hwu:Wds us) (hv:0 < dg vs (k+1)) :
  val us / val vs≤(dg us (k+2)*4294967296+dg us (k+1)) / dg vs (k+1):=by
 have h1:=a8C hul
 have h2:=a8B hvl
 have hu:dg us k < 4294967296:=ahv hwu _
 have hl:=ano hwu k
 obtain ⟨top,ht⟩ : ∃ t,t=dg us (k+2)*4294967296+dg us (k+1):=⟨_,rfl⟩
 obtain ⟨v1,hv1⟩ : ∃ t,t=dg vs (k+1):=⟨_,rfl⟩
 rw [← ht] at h1 ⊢
 rw [← hv1] at h2 hv ⊢
 have h3:pw (k+1)*v1≤val vs:=by
  rw [h2,afC,Nat.add_mul]
  have:v1*4294967296*pw k=4294967296*pw k*v1:=by ac_rfl
  omega
 have h4:val us < (top+1)*pw (k+1):=by
  rw [h1,afC,Nat.add_mul,Nat.add_mul,Nat.one_mul]
  have:(dg us k+1)*pw k≤4294967296*pw k:=Nat.mul_le_mul_right _ hu
  rw [Nat.add_mul,Nat.one_mul] at this
  rw [Nat.mul_assoc]
  omega
 have h5:val us / val vs≤val us / (pw (k+1)*v1):=Nat.div_le_div_left h3 (Nat.mul_pos (anr _) hv)
 rw [← Nat.div_div_eq_div_mul] at h5
 refine Nat.le_trans h5 (Nat.div_le_div_right ?_)
 have:=(Nat.div_lt_iff_lt_mul (anr (k+1))).2 h4
 omega
end Lw
namespace Lw
theorem comb {a b r1 r2 u1 u2 v1 v2:Nat} (h1:u1*a=r1+v1*b) (h2:v2*b=r2+u2*a) (hd:u1*v2=u2*v1+1):a=v2*r1+v1*r2∧b=u2*r1+u1*r2:=by
 constructor
 ·have e1:v2*(u1*a)=v2*(r1+v1*b):=by rw [h1]
  have e2:v1*(v2*b)=v1*(r2+u2*a):=by rw [h2]
  have e3:u1*v2*a=(u2*v1+1)*a:=by rw [hd]
  have a1:v2*(u1*a)=u1*v2*a:=by ac_rfl
  have a2:v2*(v1*b)=v1*(v2*b):=by ac_rfl
  have a3:v1*(u2*a)=u2*v1*a:=by ac_rfl
  rw [Nat.mul_add] at e1 e2
  rw [Nat.add_mul,Nat.one_mul] at e3
  omega
 ·have e1:u2*(u1*a)=u2*(r1+v1*b):=by rw [h1]
  have e2:u1*(v2*b)=u1*(r2+u2*a):=by rw [h2]
  have e3:u1*v2*b=(u2*v1+1)*b:=by rw [hd]
  have a1:u1*(u2*a)=u2*(u1*a):=by ac_rfl
  have a2:u1*(v2*b)=u1*v2*b:=by ac_rfl
  have a3:u2*(v1*b)=u2*v1*b:=by ac_rfl
  rw [Nat.mul_add] at e1 e2
  rw [Nat.add_mul,Nat.one_mul] at e3
  omega
theorem bca {a b r1 r2 u1 u2 v1 v2:Nat} (h1:u1*a=r1+v1*b) (h2:v2*b=r2+u2*a) (ha:a=v2*r1+v1*r2) (hb:b=u2*r1+u1*r2):Nat.gcd r1 r2=Nat.gcd a b:=by
 apply Nat.dvd_antisymm
 ·refine Nat.dvd_gcd ?_ ?_
  ·rw [ha]; exact Nat.dvd_add (Nat.dvd_mul_left_of_dvd (Nat.gcd_dvd_left _ _) _) (Nat.dvd_mul_left_of_dvd (Nat.gcd_dvd_right _ _) _)
  ·rw [hb]; exact Nat.dvd_add (Nat.dvd_mul_left_of_dvd (Nat.gcd_dvd_left _ _) _) (Nat.dvd_mul_left_of_dvd (Nat.gcd_dvd_right _ _) _)
 ·refine Nat.dvd_gcd ?_ ?_
  ·refine (Nat.dvd_add_iff_left (Nat.dvd_mul_left_of_dvd (Nat.gcd_dvd_right a b) v1)).2 ?_
   rw [← h1]; exact Nat.dvd_mul_left_of_dvd (Nat.gcd_dvd_left _ _) _
  ·refine (Nat.dvd_add_iff_left (Nat.dvd_mul_left_of_dvd (Nat.gcd_dvd_left a b) u2)).2 ?_
   rw [← h2]; exact Nat.dvd_mul_left_of_dvd (Nat.gcd_dvd_right _ _) _
structure Lm (x0 y0 x y u1 u2 v1 v2:Nat) (o:Bool):Prop where
 eq:if o then x+v1*y0=u1*x0∧y+u2*x0=v2*y0 else x+u1*x0=v1*y0∧y+v2*y0=u2*x0
 det:if o then u1*v2=u2*v1+1 else u2*v1=u1*v2+1
 sum:x*v2+y*v1=x0
 le:y≤x
 bfA:u2≤v2
 uv:u1+u2≤v1+v2
 v2p:1≤v2
 boR:v1≤v2
 boB:u1≤v1∨u1=1
def Sp (a b u0 u1 v0 v1:Nat) (o:Bool):Prop :=
 u0 < 4294967296∧u1 < 4294967296∧v0 < 4294967296∧v1 < 4294967296 ∧ ∃ r1 r2,(if o then v0*b=r1+u0*a∧u1*a=r2+v1*b else u0*a=r1+v0*b∧v1*b=r2+u1*a)∧r2≤r1∧Nat.gcd r1 r2=Nat.gcd a b∧r1≤a∧(0 < v0→r1+r2≤a)
theorem Lm.start {x0 y0:Nat} (h:y0≤x0):Lm x0 y0 x0 y0 1 0 0 1 true:=⟨by simp,by simp,by simp,h,by omega,by omega,by omega,by omega,.inr rfl⟩
theorem Lm.next {x0 y0 x y u1 u2 v1 v2:Nat} {o:Bool} (h:Lm x0 y0 x y u1 u2 v1 v2 o) (h1:v2≤y):Lm x0 y0 y (x % y) u2 (u1+x / y*u2) v2 (v1+x / y*v2) (!o):=by
 have hy:0 < y:=Nat.lt_of_lt_of_le h.v2p h1
 have hm:=Nat.mod_lt x hy
 have hd:=Nat.div_add_mod x y
 have hq:1≤x / y:=by rw [Nat.le_div_iff_mul_le hy]; have:=h.le; omega
 generalize x % y=r at *
 generalize x / y=q at *
 obtain ⟨e,d,s,l,b1,b2,b3,b4,b5⟩:=h
 obtain ⟨p,rfl⟩ : ∃ p,q=p+1:=⟨q - 1,by omega⟩
 have hpu:p*u2≤p*v2:=Nat.mul_le_mul_left _ b1
 have hpv:0≤p*v2:=Nat.zero_le _
 rw [Nat.mul_add,Nat.mul_one] at hd
 simp only [Nat.add_mul,Nat.one_mul]
 refine ⟨?_,?_,?_,Nat.le_of_lt hm,by omega,by omega,by omega,by omega,.inl b1⟩
 ·cases o
  ·simp only [Bool.not_false,if_true,Bool.false_eq_true,if_false] at e ⊢
   refine ⟨e.2,?_⟩
   have e1:=e.1
   have e2:=e.2
   subst hd
   simp only [Nat.add_mul]
   have a1:p*(y+v2*y0)=p*(u2*x0):=by rw [e2]
   rw [Nat.mul_add] at a1
   have a2:p*(v2*y0)=p*v2*y0:=by rw [Nat.mul_assoc]
   have a3:p*(u2*x0)=p*u2*x0:=by rw [Nat.mul_assoc]
   have a4:p*y=y*p:=Nat.mul_comm _ _
   omega
  ·simp only [Bool.not_true,if_true,Bool.false_eq_true,if_false] at e ⊢
   refine ⟨e.2,?_⟩
   have e1:=e.1
   have e2:=e.2
   subst hd
   simp only [Nat.add_mul]
   have a1:p*(y+u2*x0)=p*(v2*y0):=by rw [e2]
   rw [Nat.mul_add] at a1
   have a2:p*(v2*y0)=p*v2*y0:=by rw [Nat.mul_assoc]
   have a3:p*(u2*x0)=p*u2*x0:=by rw [Nat.mul_assoc]
   have a4:p*y=y*p:=Nat.mul_comm _ _
   omega
 ·cases o
  ·simp only [Bool.not_false,if_true,Bool.false_eq_true,if_false] at d ⊢
   simp only [Nat.add_mul,Nat.mul_add]
   have a2:u2*(p*v2)=p*u2*v2:=by ac_rfl
   omega
  ·simp only [Bool.not_true,if_true,Bool.false_eq_true,if_false] at d ⊢
   simp only [Nat.add_mul,Nat.mul_add]
   have a2:u2*(p*v2)=p*u2*v2:=by ac_rfl
   omega
 ·subst hd
  rw [← s]
  simp only [Nat.add_mul,Nat.mul_add]
  have a2:y*(p*v2)=y*p*v2:=by rw [Nat.mul_assoc]
  omega
theorem Lm.small {x0 y0 x y u1 u2 v1 v2:Nat} {o:Bool} (h:Lm x0 y0 x y u1 u2 v1 v2 o) (h0:x0 < 18446744073709551616) (h1:v2≤y) :
  v2 < 4294967296∧v1 < 4294967296∧u1 < 4294967296∧u2 < 4294967296:=by
 have s:=h.sum
 have h2:v2*v2≤x*v2:=Nat.mul_le_mul_right _ (Nat.le_trans h1 h.le)
 have h3:v2 < 4294967296:=by
  refine Nat.lt_of_not_le fun hle => ?_
  have:=Nat.mul_le_mul hle hle
  omega
 have b1:=h.bfA
 have b2:=h.boR
 rcases h.boB with b3 | b3 <;> omega
theorem Lm.fits {x0 y0 x y u1 u2 v1 v2:Nat} {o:Bool} (h:Lm x0 y0 x y u1 u2 v1 v2 o) (h1:v2≤y):u1+x / y*u2≤v1+x / y*v2∧v1+x / y*v2≤x0:=by
 have hn:=h.next h1
 refine ⟨hn.bfA,?_⟩
 have hs:=hn.sum
 have hy:1≤y:=Nat.le_trans h.v2p h1
 have:1*(v1+x / y*v2)≤y*(v1+x / y*v2):=Nat.mul_le_mul_right _ hy
 omega
theorem a4V {K t x:Nat} {c:Nat} (h:c≤x) (ht:t < K):c*t≤K*x:=by
 rw [Nat.mul_comm K]; exact Nat.mul_le_mul h (Nat.le_of_lt ht)
theorem Lm.step {x0 y0 x y u1 u2 v1 v2 a b K:Nat} {o:Bool} (h:Lm x0 y0 x y u1 u2 v1 v2 o) (h0:x0 < 18446744073709551616) (h1:v2≤y) (h2:v1+v2≤x - y) (hK:0 < K) (hx:x0=a / K) (hy:y0=b / K) :
  Sp a b u1 u2 v1 v2 (!o):=by
 obtain ⟨c1,c2,c3,c4⟩:=h.small h0 h1
 refine ⟨c3,c4,c2,c1,?_⟩
 have ea:=Nat.div_add_mod a K
 have eb:=Nat.div_add_mod b K
 have la:=Nat.mod_lt a hK
 have lb:=Nat.mod_lt b hK
 rw [← hx] at ea
 rw [← hy] at eb
 generalize a % K=α at *
 generalize b % K=β at *
 obtain ⟨e,d,s,l,b1,b2,b3,b4,b5⟩:=h
 obtain ⟨z,rfl⟩ : ∃ z,x=y+z:=⟨x - y,by omega⟩
 rw [Nat.add_sub_cancel_left] at h2
 have fin : ∀ r1 r2,a=v2*r1+v1*r2→r1≤a∧(0 < v1→r1+r2≤a):=by
  intro r1 r2 ha
  have f1:1*r1≤v2*r1:=Nat.mul_le_mul_right _ b3
  refine ⟨by omega,fun hv => ?_⟩
  have f2:1*r2≤v1*r2:=Nat.mul_le_mul_right _ hv
  omega
 cases o
 ·simp only [Bool.not_false,if_true,Bool.false_eq_true,if_false] at e d ⊢
  have p1:u1*α≤K*(y+z):=a4V (by omega) la
  have p2:v2*β≤K*y:=a4V h1 lb
  have p3:(u1+u2)*α≤K*z:=a4V (by omega) la
  have q1:v1*b=(K*(y+z)+v1*β - u1*α)+u1*a:=by
   have t1:K*(v1*y0)=K*(y+z)+K*(u1*x0):=by rw [← e.1,Nat.mul_add]
   have t2:v1*(K*y0)=K*(v1*y0):=by ac_rfl
   have t3:u1*(K*x0)=K*(u1*x0):=by ac_rfl
   rw [← ea,← eb,Nat.mul_add v1,Nat.mul_add u1]
   omega
  have q2:u2*a=(K*y+u2*α - v2*β)+v2*b:=by
   have t1:K*(u2*x0)=K*y+K*(v2*y0):=by rw [← e.2,Nat.mul_add]
   have t2:v2*(K*y0)=K*(v2*y0):=by ac_rfl
   have t3:u2*(K*x0)=K*(u2*x0):=by ac_rfl
   rw [← ea,← eb,Nat.mul_add v2,Nat.mul_add u2]
   omega
  rw [Nat.mul_add] at p1
  rw [Nat.add_mul] at p3
  rw [Nat.mul_add] at q1
  obtain ⟨r1,hr1⟩ : ∃ r,r=K*y+K*z+v1*β - u1*α:=⟨_,rfl⟩
  obtain ⟨r2,hr2⟩ : ∃ r,r=K*y+u2*α - v2*β:=⟨_,rfl⟩
  rw [← hr1] at q1
  rw [← hr2] at q2
  obtain ⟨k1,k2⟩:=comb q1 q2 (by rw [Nat.mul_comm v1,d,Nat.mul_comm v2])
  have k3:=bca q1 q2 k1 k2
  refine ⟨r1,r2,⟨q1,q2⟩,by omega,by rw [k3,Nat.gcd_comm],fin _ _ k2⟩
 ·simp only [Bool.not_true,if_true,Bool.false_eq_true,if_false] at e d ⊢
  have p1:v1*β≤K*(y+z):=a4V (by omega) lb
  have p2:u2*α≤K*y:=a4V (by omega) la
  have p3:(v1+v2)*β≤K*z:=a4V (by omega) lb
  have q1:u1*a=(K*(y+z)+u1*α - v1*β)+v1*b:=by
   have t1:K*(u1*x0)=K*(y+z)+K*(v1*y0):=by rw [← e.1,Nat.mul_add]
   have t2:v1*(K*y0)=K*(v1*y0):=by ac_rfl
   have t3:u1*(K*x0)=K*(u1*x0):=by ac_rfl
   rw [← ea,← eb,Nat.mul_add v1,Nat.mul_add u1]
   omega
  have q2:v2*b=(K*y+v2*β - u2*α)+u2*a:=by
   have t1:K*(v2*y0)=K*y+K*(u2*x0):=by rw [← e.2,Nat.mul_add]
   have t2:v2*(K*y0)=K*(v2*y0):=by ac_rfl
   have t3:u2*(K*x0)=K*(u2*x0):=by ac_rfl
   rw [← ea,← eb,Nat.mul_add v2,Nat.mul_add u2]
   omega
  rw [Nat.mul_add] at p1
  rw [Nat.add_mul] at p3
  rw [Nat.mul_add] at q1
  obtain ⟨r1,hr1⟩ : ∃ r,r=K*y+K*z+u1*α - v1*β:=⟨_,rfl⟩
  obtain ⟨r2,hr2⟩ : ∃ r,r=K*y+v2*β - u2*α:=⟨_,rfl⟩
  rw [← hr1] at q1
  rw [← hr2] at q2
  obtain ⟨k1,k2⟩:=comb q1 q2 d
  have k3:=bca q1 q2 k1 k2
  refine ⟨r1,r2,⟨q1,q2⟩,by omega,k3,fin _ _ k1⟩
end Lw
namespace Lw
open Go
theorem a9n (S:Nat):S % 4294967296 < 4294967296:=Nat.mod_lt _ (by omega)
theorem bn9 {u S c D F:Nat} (hu:u < 4294967296) (hc:c≤1) (hD:a1E u (S % 4294967296) D) (hF:a1E D c F) (hDl:D≤18446744073709551615) :
  F % 4294967296+S+c=u+4294967296*(S / 4294967296+F / 9223372036854775808)∧F / 9223372036854775808≤1:=by
 have h:=ba7 hu (a9n S) hc hD hF hDl
 have h2:=Nat.mod_add_div S 4294967296
 omega
theorem bn7 {cs ds ms:List Nat} {o k carry bo x r S b':Nat} (h:o+k < ds.length) (hv:lo ds (o+k)+pw o*(lo ms k*x)=lo cs (o+k)+pw (o+k)*(carry+bo)) (hS:S=carry+x*dg ms k)
  (hw:r+S+bo=dg cs (o+k)+4294967296*(S / 4294967296+b')) :
  lo (ds.set (o+k) r) (o+k+1)+pw o*(lo ms (k+1)*x)=lo cs (o+k+1)+pw (o+k+1)*(S / 4294967296+b'):=by
 have e:pw (o+k)*(r+S+bo)=pw (o+k)*(dg cs (o+k)+4294967296*(S / 4294967296+b')):=by rw [hw]
 rw [ata _ h,acw ms,acw cs,afC]
 generalize S / 4294967296+b'=t at *
 have e1:pw o*((lo ms k+pw k*dg ms k)*x)=pw o*(lo ms k*x)+pw (o+k)*(x*dg ms k):=by
  rw [Nat.add_mul,Nat.mul_add,a2t]
  have:pw o*(pw k*dg ms k*x)=pw o*pw k*(x*dg ms k):=by ac_rfl
  rw [this]
 have e2:pw (o+k)*(4294967296*t)=4294967296*pw (o+k)*t:=by rw [← Nat.mul_assoc,Nat.mul_comm (pw (o+k))]
 rw [hS] at e
 simp only [Nat.mul_add] at e hv ⊢
 omega
theorem biB {u c b D F:Nat} (hu:u < 4294967296) (hc:c < 4294967296) (hb:b≤1) (hD:a1E u c D) (hF:a1E D b F) (hDl:D≤18446744073709551615) :
  (c+b≤u∧F=u - (c+b))∨(u < c+b∧F+(c+b)=18446744073709551616+u):=by
 have h1:=hD (by omega) (by omega)
 have h2:=hF (by omega) (by omega)
 split at h1 <;> split at h2 <;> omega
theorem biA {cs ds:List Nat} {o m c b x u U V r:Nat} (h:o+m < ds.length) (hv:lo ds (o+m)+pw o*(V*x)=lo cs (o+m)+pw (o+m)*(c+b)) (hu:u=dg cs (o+m)) (hr:r=u - (c+b)) (hcb:c+b≤u)
  (hs:lo ds o=lo cs o) (hU:lo cs (o+m+1)=lo cs o+pw o*U) (hp:0 < V) (hx:U / V≤x) :
  x=U / V∧lo (ds.set (o+m) r) (o+m+1)+pw o*(V*(U / V))=lo cs (o+m+1):=by
 have e1:lo (ds.set (o+m) r) (o+m+1)+pw o*(V*x)=lo cs (o+m+1):=by
  rw [ata _ h,acw cs,← hu]
  have:pw (o+m)*u=pw (o+m)*r+pw (o+m)*(c+b):=by rw [← Nat.mul_add]; congr 1; omega
  omega
 have e2:lo cs o≤lo (ds.set (o+m) r) (o+m+1):=by
  rw [← hs,ata _ h]
  have : ∀ k,lo ds o≤lo ds (o+k):=by
   intro k
   induction k with
   | zero=>exact Nat.le_refl _
   | succ k ih=>rw [show o+(k+1)=o+k+1 from rfl,acw]; omega
  have:=this m
  omega
 have e3:pw o*(V*x)≤pw o*U:=by omega
 have e4:V*x≤U:=Nat.le_of_mul_le_mul_left e3 (anr o)
 have e5:x≤U / V:=by rw [Nat.le_div_iff_mul_le hp,Nat.mul_comm]; exact e4
 have e6:x=U / V:=Nat.le_antisymm e5 hx
 exact ⟨e6,by rw [← e6]; exact e1⟩
theorem bku {l:List Nat} {o:Nat} (hw:Wds l) (m:Nat) : ∃ t,lo l (o+m)=lo l o+pw o*t∧t < pw m:=by
 refine ⟨lo (l.drop o) m,?_,ano (bbh hw o) m⟩
 induction m with
 | zero=>simp [akf]
 | succ m ih=>rw [show o+(m+1)=o+m+1 from rfl,acw,acw,a6e,ih,a2t,Nat.mul_add,Nat.mul_assoc]; omega
theorem biz {cs ds es:List Nat} {o m c b x u U V F r:Nat} (h:o+m < es.length) (hv:lo ds (o+m)+pw o*(V*x)=lo cs (o+m)+pw (o+m)*(c+b)) (hu:u=dg cs (o+m)) (hul:u < 4294967296) (hc:c < 4294967296) (hb:b≤1)
  (hF:F+(c+b)=18446744073709551616+u) (hcb:u < c+b) (hs:lo ds o=lo cs o) (hU:lo cs (o+m+1)=lo cs o+pw o*U) (hp:0 < V) (hx:x≤U / V+1) (hwd:Wds ds) (hwe:Wds es) (hr:r < 4294967296)
  (hg:lo es (o+m)+pw (o+m)*r=lo ds (o+m)+pw o*(V*1)) :
  x=U / V+1∧lo (es.set (o+m) ((F % 4294967296+r) % 4294967296)) (o+m+1)+pw o*(V*(U / V))=lo cs (o+m+1):=by
 have hlo:=acw cs (o+m)
 rw [← hu,hU] at hlo
 have hx1:x=U / V+1:=by
  refine Nat.le_antisymm hx ?_
  refine Nat.lt_of_not_le fun hle => ?_
  rw [Nat.le_div_iff_mul_le hp,Nat.mul_comm] at hle
  obtain ⟨t,ht,htl⟩:=bku (o:=o) hwd m
  have h1:pw (o+m)*(u+1)≤pw (o+m)*(c+b):=Nat.mul_le_mul_left _ hcb
  have h2:pw o*(V*x)≤pw o*U:=Nat.mul_le_mul_left _ hle
  have h3:pw o*(t+1)≤pw o*pw m:=Nat.mul_le_mul_left _ htl
  rw [← a2t] at h3
  rw [Nat.mul_add,Nat.mul_one] at h1 h3
  have:=anr o
  omega
 have hQ:V*(U / V)≤U:=Nat.mul_div_le U V
 refine ⟨hx1,?_⟩
 rw [hx1,Nat.mul_add V,Nat.mul_add (pw o)] at hv
 generalize U / V=Q at *
 have h2:pw o*(V*Q)≤pw o*U:=Nat.mul_le_mul_left _ hQ
 have hE:=ano hwe (o+m)
 have hr2:c+b≤u+r:=by
  refine Nat.le_of_not_lt fun hlt => ?_
  have h1:pw (o+m)*(u+r+1)≤pw (o+m)*(c+b):=Nat.mul_le_mul_left _ hlt
  rw [Nat.mul_add,Nat.mul_add,Nat.mul_one] at h1
  omega
 have hm:(F % 4294967296+r) % 4294967296+(c+b)=u+r:=by omega
 rw [ata _ h]
 generalize (F % 4294967296+r) % 4294967296=s at *
 have h5:pw (o+m)*s+pw (o+m)*(c+b)=pw (o+m)*u+pw (o+m)*r:=by rw [← Nat.mul_add,hm,Nat.mul_add]
 omega
theorem a6X {l:List Nat} {k:Nat} (h : ∀ j,k≤j→dg l j=0):val l=lo l k:=by
 rcases Nat.le_total l.length k with h1 | h1
 ·rw [acm h1]
 ·obtain ⟨d,hd⟩:=Nat.exists_eq_add_of_le h1
  have : ∀ d,lo l (k+d)=lo l k:=by
   intro d
   induction d with
   | zero=>rfl
   | succ d ih=>rw [show k+(d+1)=k+d+1 from rfl,acw,ih,h (k+d) (by omega)]; simp
  rw [← this d,← hd,acm (Nat.le_refl _)]
theorem a7b {l:List Nat} {k:Nat} (h:val l < pw k) : ∀ j,k≤j→dg l j=0:=by
 intro j hj
 have h1:lo l (j+1)≤val l:=by
  have:=a4a l (j+1)
  omega
 rw [acw] at h1
 have h2:pw k≤pw j:=ajj hj
 rcases Nat.eq_zero_or_pos (dg l j) with h0 | h0
 ·exact h0
 ·have:=Nat.mul_le_mul_left (pw j) h0
  omega
theorem a4M {l:List Nat} {i:Nat} (h:i≤l.length):val l=lo l i+pw i*val (l.drop i):=by
 have:=a4a l i
 rwa [Nat.min_eq_left h] at this
structure Ks (N V m:Nat) (us qs:List Nat) (j:Nat):Prop where
 sum:val us+V*(pw j*val (qs.drop j))=N
 rest:val (us.drop j) < V
theorem Ks.start {N V m n j:Nat} {us:List Nat} (hv:val us=N) (hj:j≤us.length) (hN:N < V*pw j):Ks N V m us (List.replicate n 0) j:=by
 refine ⟨?_,?_⟩
 ·rw [List.drop_replicate,a8z]; simpa using hv
 ·have h1:=a4M hj
  rw [hv] at h1
  refine Nat.lt_of_not_le fun h => ?_
  have:=Nat.mul_le_mul_left (pw j) h
  rw [Nat.mul_comm (pw j) V] at this
  omega
theorem Ks.part {N V m i:Nat} {us qs:List Nat} (h:Ks N V m us qs (i+1)) (hw:Wds us) (hi:i < us.length) (hV:V < pw m) :
  ∃ U,val ((us.drop i).take (m+1))=U∧val (us.drop i)=U∧U < 4294967296*V∧lo us (i+m+1)=lo us i+pw i*U∧val us=lo us (i+m+1):=by
 have h1:=a5o us hi
 have h2:=ahv hw i
 have h3:=h.rest
 have hU:val (us.drop i) < 4294967296*V:=by omega
 have hp:val (us.drop i) < pw (m+1):=by rw [afC]; omega
 have hz:val us < pw (i+m+1):=by
  rw [a4M (Nat.le_of_lt hi),Nat.add_assoc,a2t i]
  have h4:=ano hw i
  have h5:=Nat.mul_le_mul_left (pw i) hp
  rw [Nat.mul_succ] at h5
  omega
 have hl:=a6X (a7b hz)
 refine ⟨_,a6X (a7b hp) ▸ rfl,rfl,hU,?_,hl⟩
 rw [← hl]; exact a4M (Nat.le_of_lt hi)
theorem Ks.next {N V m i U:Nat} {us ds qs:List Nat} (h:Ks N V m us qs (i+1)) (hi:i < us.length) (hq:i < qs.length) (hdl:ds.length=us.length) (hU:val (us.drop i)=U) (hp:0 < V)
  (hz:val us < pw (i+m+1)) (hval:val us=lo us (i+m+1)) (hsame : ∀ j,j < i∨i+m+1≤j→dg ds j=dg us j)
  (hd:lo ds (i+m+1)+pw i*(V*(U / V))=lo us (i+m+1)):Ks N V m ds (qs.set i (U / V)) i:=by
 have h1:val ds=lo ds (i+m+1):=a6X fun j hj=>by rw [hsame j (.inr hj)]; exact a7b hz j hj
 rw [← h1,← hval] at hd
 refine ⟨?_,?_⟩
 ·have h2:=h.sum
  rw [a5o (qs.set i (U / V)) (k:=i) (by rw [List.length_set]; exact hq),am3 _ hq,if_pos rfl,a9w _ (by omega)]
  rw [← hd,afC] at h2
  generalize val (qs.drop (i+1))=R at *
  generalize U / V=Q at *
  rw [← h2]
  have e1:V*(pw i*(Q+4294967296*R))=pw i*(V*Q)+V*(4294967296*pw i*R):=by
   rw [Nat.mul_add,Nat.mul_add]
   have a1:V*(pw i*Q)=pw i*(V*Q):=by ac_rfl
   have a2:V*(pw i*(4294967296*R))=V*(4294967296*pw i*R):=by
    rw [← Nat.mul_assoc (pw i),Nat.mul_comm (pw i)]
   omega
  omega
 ·have h2:=a4M (l:=ds) (i:=i) (by omega)
  have h3:=a4M (Nat.le_of_lt hi)
  have h4:lo ds i=lo us i:=a6C i fun j hj=>hsame j (.inl hj)
  rw [hU] at h3
  have h5:pw i*(val (ds.drop i)+V*(U / V))=pw i*U:=by rw [Nat.mul_add]; omega
  have h6:=Nat.eq_of_mul_eq_mul_left (anr i) h5
  have h7:=Nat.div_add_mod U V
  have h8:=Nat.mod_lt U hp
  generalize V*(U / V)=t at *
  generalize U % V=s at *
  omega
theorem Ks.out {N V m:Nat} {us qs:List Nat} (h:Ks N V m us qs 0):val us=N % V∧val qs=N / V:=by
 have h1:=h.sum
 have h2:=h.rest
 rw [List.drop_zero,aNP,Nat.one_mul] at h1
 rw [List.drop_zero] at h2
 subst h1
 exact ⟨by rw [Nat.add_mul_mod_self_left,Nat.mod_eq_of_lt h2],by rw [Nat.add_mul_div_left _ _ (by omega),Nat.div_eq_of_lt h2,Nat.zero_add]⟩
end Lw
namespace Lw
theorem boI {d t P R:Nat} (hPR:R*P=4294967296) (hR:0 < R) (ht:t < P):(d*P+t) % 4294967296+4294967296*(d / R)=d*P+t:=by
 have h1:=Nat.div_add_mod d R
 have h2:=Nat.mod_lt d hR
 generalize d / R=q at *
 generalize d % R=s at *
 subst h1
 have h3:(s+1)*P≤R*P:=Nat.mul_le_mul_right _ h2
 rw [Nat.add_mul,Nat.one_mul,hPR] at h3
 have h4:(R*q+s)*P+t=(s*P+t)+4294967296*q:=by
  rw [← hPR,Nat.add_mul]
  have:R*q*P=R*P*q:=by ac_rfl
  omega
 rw [h4,Nat.add_mul_mod_self_left,Nat.mod_eq_of_lt (by omega)]
theorem boH {cs xs:List Nat} {k W t P R r:Nat} (h:k+W < cs.length) (hv:lo cs (k+W)+pw (k+W)*t=pw W*(lo xs k*P)) (hw:r+4294967296*(dg xs k / R)=dg xs k*P+t) :
  lo (cs.set (k+W) r) (k+W+1)+pw (k+W+1)*(dg xs k / R)=pw W*(lo xs (k+1)*P):=by
 rw [ata _ h,acw xs,afC]
 generalize dg xs k / R=t' at *
 have e1:pw (k+W)*(r+4294967296*t')=pw (k+W)*(dg xs k*P+t):=by rw [hw]
 have e2:pw W*((lo xs k+pw k*dg xs k)*P)=pw W*(lo xs k*P)+pw (k+W)*(dg xs k*P):=by
  rw [Nat.add_mul,Nat.mul_add,a2t]
  have:pw W*(pw k*dg xs k*P)=pw k*pw W*(dg xs k*P):=by ac_rfl
  omega
 have e3:pw (k+W)*(4294967296*t')=4294967296*pw (k+W)*t':=by rw [← Nat.mul_assoc,Nat.mul_comm (pw (k+W))]
 rw [Nat.mul_add,Nat.mul_add] at e1
 omega
theorem biq {d f P R:Nat} (hPR:R*P=4294967296):P*(d / P+f % P*R)=d - d % P+4294967296*(f % P):=by
 have h1:=Nat.div_add_mod d P
 rw [Nat.mul_add]
 have:P*(f % P*R)=R*P*(f % P):=by ac_rfl
 rw [this,hPR]
 omega
theorem bil {d f P R:Nat} (hPR:R*P=4294967296) (hP:0 < P) (hd:d < 4294967296):d / P < R∧d / P+f % P*R < 4294967296:=by
 have h1:d / P < R:=by rw [Nat.div_lt_iff_lt_mul hP]; omega
 refine ⟨h1,?_⟩
 have h2:=Nat.mod_lt f hP
 have h3:(f % P+1)*R≤P*R:=Nat.mul_le_mul_right _ h2
 rw [Nat.add_mul,Nat.one_mul,Nat.mul_comm P,hPR] at h3
 omega
theorem bip {cs ds:List Nat} {k P R r z:Nat} (h:k < cs.length) (hPR:R*P=4294967296) (hv:P*lo cs k+z=lo ds k+pw k*(dg ds k % P)) (hr:r=dg ds k / P+dg ds (k+1) % P*R) :
  P*lo (cs.set k r) (k+1)+z=lo ds (k+1)+pw (k+1)*(dg ds (k+1) % P):=by
 have h1:=biq (d:=dg ds k) (f:=dg ds (k+1)) hPR
 rw [← hr] at h1
 rw [ata _ h,acw,afC,Nat.mul_add]
 have h2:P*(pw k*r)=pw k*(P*r):=by ac_rfl
 have h3:=Nat.mod_le (dg ds k) P
 have h4:pw k*(dg ds k - dg ds k % P+4294967296*(dg ds (k+1) % P))+pw k*(dg ds k % P)=pw k*dg ds k+4294967296*pw k*(dg ds (k+1) % P):=by
  rw [← Nat.mul_add]
  have:pw k*(dg ds k - dg ds k % P+4294967296*(dg ds (k+1) % P)+dg ds k % P)=pw k*(dg ds k+4294967296*(dg ds (k+1) % P)):=by congr 1; omega
  rw [this,Nat.mul_add,← Nat.mul_assoc,Nat.mul_comm (pw k) 4294967296]
 rw [h2,h1]
 omega
theorem bio {cs ds:List Nat} {P z:Nat} (hP:0 < P) (hl:cs.length=ds.length) (hz:z < P) (hv:P*lo cs ds.length+z=lo ds ds.length+pw ds.length*(dg ds ds.length % P)):val cs=val ds / P:=by
 rw [a1F (Nat.le_refl _),acm (Nat.le_refl _),acm (by omega),Nat.zero_mod,Nat.mul_zero,Nat.add_zero] at hv
 rw [← hv,Nat.mul_add_div hP,Nat.div_eq_of_lt hz,Nat.add_zero]
theorem boY {l:List Nat} (hw:Wds l) (k:Nat):val (l.drop k)=val l / pw k:=by
 rcases Nat.le_total l.length k with h | h
 ·rw [List.drop_of_length_le h,a8y]
  have h1:=afS hw
  have h2:=ajj h
  rw [Nat.div_eq_of_lt (by omega)]
 ·rw [a4M h,Nat.add_mul_div_left _ _ (anr k),Nat.div_eq_of_lt (ano hw k),Nat.zero_add]
theorem bkr {l:List Nat} {n P R:Nat} (hw:Wds l) (hn:val l < pw (n+3)) (hPR:R*P=4294967296) (hR:0 < R) :
  (dg l (n+1)+4294967296*dg l (n+2))*P+dg l n / R=val l / (pw n*R):=by
 have h1:=a6X (a7b hn)
 have e1:=acw l (n+2)
 have e2:=acw l (n+1)
 have e3:=acw l n
 have p2:pw (n+2)=4294967296*(4294967296*pw n):=by rw [afC,afC]
 rw [afC] at e2
 rw [p2] at e1
 have e:val l=lo l n+pw n*(dg l n+R*(P*(dg l (n+1)+4294967296*dg l (n+2)))):=by
  rw [h1,show n+3=n+2+1 from rfl,e1,show n+2=n+1+1 from rfl,e2,e3,← Nat.mul_assoc R,hPR]
  generalize dg l (n+1+1)=a
  generalize dg l (n+1)=b
  simp only [Nat.mul_add]
  have a1:pw n*(4294967296*(4294967296*a))=4294967296*(4294967296*pw n)*a:=by ac_rfl
  have a2:pw n*(4294967296*b)=4294967296*pw n*b:=by ac_rfl
  omega
 rw [← Nat.div_div_eq_div_mul,e,Nat.add_mul_div_left _ _ (anr n),Nat.div_eq_of_lt (ano hw n),Nat.zero_add,Nat.add_mul_div_left _ _ hR,Nat.mul_comm P]
 omega
theorem bok {a b:List Nat} {k:Nat} (ha:Wds a) (hab:val b≤val a) (hal:a.length=k+1) (hb:val b < pw (k+1)):dg b k≤dg a k:=by
 have h1:=a6X (a7b hb)
 have h2:lo a (k+1)=val a:=acm (by omega)
 rw [acw] at h1 h2
 have h3:=ano ha k
 refine Nat.le_of_not_lt fun h => ?_
 have:=Nat.mul_le_mul_left (pw k) h
 rw [Nat.mul_succ] at this
 omega
theorem bh3 {S T b F D:Nat} (hb:b≤1) (hD:a1E (S % 4294967296) (T % 4294967296) D) (hF:a1E D b F) (hDl:D≤18446744073709551615) :
  F % 4294967296+T+b+4294967296*(S / 4294967296)=S+4294967296*(T / 4294967296+F / 9223372036854775808)∧F / 9223372036854775808≤1:=by
 have h:=ba7 (a9n S) (a9n T) hb hD hF hDl
 have h2:=Nat.mod_add_div S 4294967296
 have h3:=Nat.mod_add_div T 4294967296
 omega
theorem bh2 {cs xs ys:List Nat} {k cA cB b x y r b' S T:Nat} (h:k < cs.length) (hv:lo cs k+y*lo ys k+pw k*cA=x*lo xs k+pw k*(cB+b)) (hS:S=cA+x*dg xs k) (hT:T=cB+y*dg ys k)
  (hw:r+T+b+4294967296*(S / 4294967296)=S+4294967296*(T / 4294967296+b')) :
  lo (cs.set k r) (k+1)+y*lo ys (k+1)+pw (k+1)*(S / 4294967296)=x*lo xs (k+1)+pw (k+1)*(T / 4294967296+b'):=by
 have e:pw k*(r+T+b+4294967296*(S / 4294967296))=pw k*(S+4294967296*(T / 4294967296+b')):=by rw [hw]
 rw [ata _ h,acw ys,acw xs,afC]
 generalize S / 4294967296=s at *
 generalize T / 4294967296+b'=t at *
 subst hS hT
 have a1:pw k*(4294967296*s)=4294967296*pw k*s:=by rw [← Nat.mul_assoc,Nat.mul_comm (pw k)]
 have a2:pw k*(4294967296*t)=4294967296*pw k*t:=by rw [← Nat.mul_assoc,Nat.mul_comm (pw k)]
 have a3:y*(pw k*dg ys k)=pw k*(y*dg ys k):=by ac_rfl
 have a4:x*(pw k*dg xs k)=pw k*(x*dg xs k):=by ac_rfl
 simp only [Nat.mul_add] at e hv ⊢
 omega
theorem bh0 {cs xs ys:List Nat} {n cA cB b x y r:Nat} (hw:Wds cs) (hl:cs.length=n) (ha:xs.length≤n) (hb:ys.length≤n) (hv:lo cs n+y*lo ys n+pw n*cA=x*lo xs n+pw n*(cB+b)) (hr:x*val xs=r+y*val ys) (hrn:r < pw n):val cs=r:=by
 rw [acm (by omega),acm ha,acm hb,hr] at hv
 have h1:val cs+pw n*cA=r+pw n*(cB+b):=by omega
 have h2:=afS hw
 rw [hl] at h2
 have h3:=congrArg (· % pw n) h1
 simp only [Nat.add_mul_mod_self_left] at h3
 rw [Nat.mod_eq_of_lt h2,Nat.mod_eq_of_lt hrn] at h3
 exact h3
end Lw
