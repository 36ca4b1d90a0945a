/- Part of a proof, said shortly. -/
import Derived.Lib.TrailingZeros
import Derived.Shelf.Spec.TrailingZeros
import Derived.Deep.RegionHeld3
import Derived.Deep.RegionWith
import Derived.Test.YtkcpphebkmnonaaGreatDoorAlz
import Derived.Test.YtkcpphebkmnonaaGreatDoorC4
import Derived.Test.YtkcpphebkmnonaaGreatDoorC1
import Derived.Test.YtkcpphebkmnonaaGreatDoorC5
import Derived.Test.YtkcpphebkmnonaaGreatDoorC2
import Derived.Test.YtkcpphebkmnonaaGreatDoorC3
import Derived.Test.YtkcpphebkmnonaaGreatDoorC9
import Derived.Test.YtkcpphebkmnonaaGreatDoorC8
import Derived.Test.YtkcpphebkmnonaaGreatDoorC7
import Derived.Test.YtkcpphebkmnonaaGreatDoorC6
import Derived.Test.YtkcpphebkmnonaaGreatDoorC10
import Derived.Test.YtkcpphebkmnonaaGreatDoorC16
import Derived.Test.YtkcpphebkmnonaaGreatDoorC12
import Derived.Test.YtkcpphebkmnonaaGreatDoorC11
import Derived.Test.YtkcpphebkmnonaaGreatDoorC15
import Derived.Test.YtkcpphebkmnonaaGreatDoorC14
import Derived.Test.YtkcpphebkmnonaaGreatDoorC13
import Derived.Test.YtkcpphebkmnonaaGreatDoorC17
namespace Lw
theorem ajz(a b:Rat)(g h:Nat)(hg:g=a.num.natAbs.gcd b.den)(hh:h=b.num.natAbs.gcd a.den) :
  (a*b).num=(a.num/(g:Int))*(b.num/(h:Int))/\(a*b).den=(a.den/h)*(b.den/g):=by
 show (Rat.mul a b).num=_/\(Rat.mul a b).den=_;unfold Rat.mul;subst hg hh;simp only [Int.divExact_eq_ediv,Nat.divExact_eq_div];exact ⟨trivial,trivial⟩
end Lw
namespace Lw
theorem ahq(a b:Rat){g h:Int}(hg:g=(Nat.gcd a.num.natAbs b.den:Nat))(hh:h=(Nat.gcd b.num.natAbs a.den:Nat)) :
  (a*b).num=(a.num/g)*(b.num/h)/\((a*b).den:Int)=((a.den:Int)/h)*((b.den:Int)/g)/\g≠0/\h≠0:=by
 have h1:=ajz a b _ _ rfl rfl;have p1:0<Nat.gcd a.num.natAbs b.den:=Nat.gcd_pos_of_pos_right _ b.den_pos;have p2:0<Nat.gcd b.num.natAbs a.den:=Nat.gcd_pos_of_pos_right _ a.den_pos;subst hg hh;refine ⟨h1.1,?_,af,af⟩;rw [h1.2,auT,au0,au0]
end Lw
namespace Lw
open Go Go.RowKit
theorem aez{x:Nat}(h0:4294967296<=x)(h:x<18446744073709551616):bn x=[x%4294967296,x/4294967296]:=by
 have:=LK (l:=[x%4294967296,x/4294967296]) (Gh af af) (by simp [dg];omega);rw [val_two] at this;grind
end Lw
namespace Go.Proofs.BGQ
open Go Go.RowKit Lw
theorem ae4(w:World)(t:TypeId){a:Int}{x:Nat}(ha:a=x):bM (w.alloc (.cells #[.int .u32 a] t)) w.heap.size t [x]:=by
 subst ha;exact bM.new w t [x]
set_option maxRecDepth 100000 in
set_option maxHeartbeats 800000 in
theorem UM(x:Nat)(w:World)(_hx:x<=18446744073709551615)(h0:x≠0) :
  Calls Tryz.prog 134 #[.int .u64 x] w (rM w x):=by
 by_cases h1:x<4294967296
 ·have hd:=Ig h0 h1
  have hb:=ae4 w 113 (a:=(x:Int)) (x:=x) rfl;have hm:(x:Int)%4294967296=(x:Int):=af;have hz:(x:Int)/4294967296=0:=af;have HD:=Lib.hid hd;clear hd
  go_enter Tryz.func134,Tryz.ntmps134
  go_wp2_with fail
  go_ret
  refine ⟨_,_,lT (by rw [HD.out];rfl),by rw [HD.out];exact aut _,?_,(Below.refl _ _).alloc (aut _) _⟩;rw [HD.out];exact hb.rd (by rw [oM];exact ⟨h1,nI⟩)
 ·have hd:=aez (x:=x) af af
  have hb:=Ls w 113 (a:=(x:Int)%4294967296) (b:=(x:Int)/4294967296) (x:=x%4294967296) (y:=x/4294967296) af af;have hz:((x:Int)/4294967296==0)=false:=by rw [beq_eq_false_iff_ne];omega
  have HD:=Lib.hid hd;clear hd
  go_enter Tryz.func134,Tryz.ntmps134
  go_wp2_with fail
  go_ret
  refine ⟨_,_,lT (by rw [HD.out];rfl),by rw [HD.out];exact aut _,?_,(Below.refl _ _).alloc (aut _) _⟩;rw [HD.out];exact hb.rd (Gh af af)
set_option maxRecDepth 100000 in
set_option maxHeartbeats 800000 in
theorem size_any(z:Int)(w:World)(h1 : -9223372036854775808<=z)(h2:z<=9223372036854775807) :
  Calls Tryz.prog 132 #[.int .i64 z] w fun e w'=>e = .returned (.int .u64 (z.natAbs:Int))/\w=w':=by
 by_cases h0:z<0
 ·obtain ⟨D,N,hD,hN,yH,hNl,hDl⟩:=P9 h1 h0
  have HN:=Lib.hid (show N=z.natAbs from af);clear yH
  go_enter Tryz.func132,Tryz.ntmps132
  go_wp2_with fail
  go_ret
  exact ⟨dU (by rw [<- HN.out]),rfl⟩
 ·obtain ⟨N,rfl⟩:=au8 (show 0<=z from af)
  go_enter Tryz.func132,Tryz.ntmps132
  go_wp2_with fail
  go_ret
  exact ⟨rfl,rfl⟩
end Go.Proofs.BGQ
namespace Lw
open Go Go.RowKit
def abp(w:World)(q:Rat)(e:Ending)(w':World):Prop :=
 ∃ A c A' c',e = .returned (.agg #[.bool (rs q),.slice A (rn q).length c,.slice A' (rd q).length c'])/\(rn q).length<=c/\(rd q).length<=c'/\Rd w' w'.heap.size A (rn q)/\Rd w' w'.heap.size A' (rd q)/\Below w.heap.size w w'
def RZ(w:World)(N:Nat)(e:Ending)(w':World):Prop :=
 ∃ A n c,e = .returned (.slice A n c)/\Hid (n=(bn N).length/\n<=c/\Rd w' w'.heap.size A (bn N))/\Below w.heap.size w w'
end Lw
namespace Go.Proofs.BGQ
open Go Go.RowKit Lw
set_option maxRecDepth 100000 in
set_option maxHeartbeats 3200000 in
theorem Yr(n d:Int)(w:World)(n1 : -9223372036854775808<=n)(n2:n<=9223372036854775807)(d1 : -9223372036854775808<=d)(d2:d<=9223372036854775807)(hd:d≠0)(ht:Tz w) :
  Calls Tryz.prog 86 #[.int .i64 n,.int .i64 d] w (abp w (Rat.divInt n d)):=by
 by_cases h0:n=0
 ·subst h0
  have hz:Hid (Rat.divInt 0 d=0):=Lib.hid (avM d)
  go_enter Tryz.func86,Tryz.ntmps86
  go_wp2_with fail
  refine bodyPost_ret (v := .agg #[.bool false,.slice none 0 0,.slice none 0 0]) (by simp [results,Tryz.results86,go_sem]) rfl ?_;rw [hz.out];exact ⟨none,0,none,0,rfl,aut _,aut _,Rd.nil_ _ _ _,Rd.nil_ _ _ _,(Below.refl _ _).alloc (aut _) _⟩
 ·have hf:=Lib.hid (LV h0 hd)
  have hb0:(n==0)=false:=by rw [beq_eq_false_iff_ne];exact h0
  have hs1:=fun W=>size_any n W n1 n2;have hs2:=fun W=>size_any d W d1 d2;obtain ⟨x,hx⟩ : ∃ x,x=n.natAbs:=⟨_,rfl⟩;obtain ⟨y,hy⟩ : ∃ y,y=d.natAbs:=⟨_,rfl⟩;rw [<- hx] at hs1 hf;rw [<- hy] at hs2 hf;have hx0:x≠0:=af;have hy0:y≠0:=af;have hxl:x<=9223372036854775808:=af;have hyl:y<=9223372036854775808:=af;have hdv:=fun W hW=>UG x y W af af hx0 hy0 hW;have rU:=Nat.gcd_pos_of_pos_left y (show 0<x from af);have hgx:=Nat.div_pos (Nat.le_of_dvd af (avr x y)) rU;have MS:=Nat.div_pos (Nat.le_of_dvd af (avb x y)) rU;have MR:=auU x (Nat.gcd x y);have MV:=auU y (Nat.gcd x y);obtain ⟨g,hg⟩ : ∃ g,g=Nat.gcd x y:=⟨_,rfl⟩;rw [<- hg] at hdv hf rU hgx MS MR MV;obtain ⟨X,hX⟩ : ∃ X,X=x/g:=⟨_,rfl⟩;obtain ⟨Y,hY⟩ : ∃ Y,Y=y/g:=⟨_,rfl⟩;have qx:(x:Int)/(g:Int)=(X:Int):=by rw [hX];exact (au0 x g).symm
  have qy:(y:Int)/(g:Int)=(Y:Int):=by rw [hY];exact (au0 y g).symm
  rw [<- hX] at hf hgx MR;rw [<- hY] at hf MS MV;have qx2:IntKind.u64.wrap ((x:Int)/(g:Int))=(X:Int):=by rw [qx];exact IntWalk.u64_in _ af
  have qy2:IntKind.u64.wrap ((y:Int)/(g:Int))=(Y:Int):=by rw [qy];exact IntWalk.u64_in _ af
  have qx3:IntKind.u64.wrap (X:Int)=(X:Int):=IntWalk.u64_in _ af;have qy3:IntKind.u64.wrap (Y:Int)=(Y:Int):=IntWalk.u64_in _ af;have qx4:(x:Int).tdiv (g:Int)=(X:Int):=by rw [Int.tdiv_eq_ediv_of_nonneg af];exact qx
  have qy4:(y:Int).tdiv (g:Int)=(Y:Int):=by rw [Int.tdiv_eq_ediv_of_nonneg af];exact qy
  have qx5:IntKind.u64.wrap ((x:Int).tdiv (g:Int))=(X:Int):=by rw [qx4];exact qx3
  have qy5:IntKind.u64.wrap ((y:Int).tdiv (g:Int))=(Y:Int):=by rw [qy4];exact qy3
  have hg1:¬ ((g:Int)=0):=af;have hg0:((g:Int)==0)=false:=by rw [beq_eq_false_iff_ne];omega
  have jQ:=Lib.hid hs1;have HS2:=Lib.hid hs2;have zQ:=Lib.hid hdv;have HT:=Lib.hid ht;have HX:=Lib.hid (show ∀ W,Calls Tryz.prog 134 #[.int .u64 X] W (RZ W X) from fun W=>(UM X W af af).mono fun e w' ⟨A,c,he,hc,hr,hb⟩=>⟨A,_,c,he,Lib.hid ⟨rfl,hc,hr⟩,hb⟩);have HY:=Lib.hid (show ∀ W,Calls Tryz.prog 134 #[.int .u64 Y] W (RZ W Y) from fun W=>(UM Y W af af).mono fun e w' ⟨A,c,he,hc,hr,hb⟩=>⟨A,_,c,he,Lib.hid ⟨rfl,hc,hr⟩,hb⟩);clear hs1 hs2 hdv hx hy hg hX hY hgx MS MR MV ht hx0 hy0
  go_enter Tryz.func86,Tryz.ntmps86
  have hb1:=(Below.refl w.heap.size w).alloc (aut _) (.cells #[.bool false,.slice none 0 0,.slice none 0 0] 24)
  go_wp2_with fail
  refine (jQ.out _).mono ?_;rintro e w1 ⟨rfl,rfl⟩
  go_wp2_with fail
  refine (HS2.out _).mono ?_;rintro e w1 ⟨rfl,rfl⟩
  go_wp2_with fail
  refine (zQ.out _ (HT.out.next hb1)).mono ?_;rintro e w1 ⟨rfl,q,rfl⟩;have hT:=(bW.new w 24 (.bool false) (.slice none 0 0) (.slice none 0 0)).drewN q;have hW:=hb1.trans (below_drewN' w.heap.size _ q);clear hb1;generalize (w.alloc (.cells #[.bool false,.slice none 0 0,.slice none 0 0] 24)).drewN q=W0 at *
  go_wp2_with fail
  go_region_with
   (first
    | (go_at_call 134;refine ((fun (_:Below w.heap.size w W2)=>HY.out W2) hW2).mono ?_;rintro e w3 ⟨A2,m2,c2,rfl,hr2,hb2⟩;have hT:=hT.next hb2;have hW3:=bU hW2 hb2 (aut _);obtain ⟨e0,e1,e2,e3,e4,e5⟩:=hT.cells)
    | (go_at_call 134;refine (HX.out _).mono ?_;rintro e W2 ⟨A1,m1,c1,rfl,hr1,hb1⟩;have hT:=hT.drew.next hb1;have hW2:=bU hW.drew hb1 (aut _)))
  all_goals
   go_wp2_with fail
   refine bodyPost_ret (v := .agg #[.bool (!decide (n<0)==decide (d<0)),.slice A1 m1 c1,.slice A2 m2 c2]) (by simp [results,Tryz.results86,go_sem,e0,e1,e2]) rfl ?_;obtain ⟨rfl,hc1,hr1⟩:=hr1.out;obtain ⟨rfl,hc2,hr2⟩:=hr2.out;have hR1:=(hr1.next hb2 (aut _)).uS (D:=A1) (m:=(bn X).length) (d:=c1) hT (!decide (n<0)==decide (d<0)) (.slice A2 (bn Y).length c2);have hR2:=hr2.uS (D:=A1) (m:=(bn X).length) (d:=c1) hT (!decide (n<0)==decide (d<0)) (.slice A2 (bn Y).length c2);refine ⟨A1,c1,A2,c2,?_,?_,?_,?_,?_,((hW3.setCell (aut _) _).setCell (aut _) _).setCell (aut _) _⟩
   ·rw [hf.out.1,hf.out.2.1,hf.out.2.2];cases decide (n<0) <;> cases decide (d<0) <;> rfl
   ·rw [hf.out.2.1];exact hc1
   ·rw [hf.out.2.2];exact hc2
   ·rw [hf.out.2.1];exact hR1.more (by simpa using hb2.size)
   ·rw [hf.out.2.2];exact hR2.more (by simp)
section
variable {W0 w w':World} {bs:List Bx} {L L':List En} {ts:List Bt} {M M':List Qn}
theorem bu.hdi{v:Value}{z:Int}{k K:Nat}{b:Bool}(h:bu W0 w bs (⟨v,z,k,b⟩::L) ts M)(hk:dJ w ⟨v,z,k,b⟩->dJ w ⟨v,z,K,b⟩):bu W0 w bs (⟨v,z,K,b⟩::L) ts M:=h.tl.push (hk (h.env.ops _ ak))
theorem ac3{g:Nat}{t:TypeId}{x y:Value}(hg:g=w.heap.size):Two (w.alloc (.cells #[x,y] t)) g t x y:=by subst hg;exact Two.new w t x y
theorem zW{g g':Nat}{t:TypeId}{x y:Value}(h:Two w g t x y)(hg:g≠g')(u v:Value):Two ((w.setCell ⟨g',0,none⟩ u).setCell ⟨g',1,none⟩ v) g t x y:=(h.far (p:=⟨g',0,none⟩) hg u).far (p:=⟨g',1,none⟩) hg v
theorem bu.join{bs':List Bx}{L':List En}{M':List Qn}(h:bu W0 w bs L ts M)(h':bu w w' bs' L' [] M'):bu W0 w' (bs'++bs) L' ts M' :=
 ⟨⟨h'.env.ops,fun b hb=>by
  rcases List.mem_append.1 hb with hb | hb
  ·exact h'.env.box b hb
  ·exact (h.env.next h'.below).box b hb,bU h.below h'.below (aut _)⟩,h'.fr,(h.next h'.below).tri,h.tz,h.tab,fun b hb=>by
  rcases List.mem_append.1 hb with hb | hb
  ·exact auu h.below.size (h'.lo b hb)
  ·exact h.lo b hb,h.lot⟩
end
end Go.Proofs.BGQ
namespace Lw
open Go Go.RowKit
theorem ahl{x:Int} : mg x=[1]↔x.natAbs=1:=by unfold mg;exact Us
end Lw
namespace Go.Proofs.BGQ
open Go Go.RowKit Lw
section
variable {W0 w:World} {bs:List Bx} {L:List En} {ts:List Bt} {M:List Qn} {s s':Bool} {A A':Option Addr} {n c n' c' k k':Nat} {q:Rat} {x y:Int}
theorem yO(HE:bu W0 w bs L ts M)(h:⟨.agg #[.bool s,.slice A n c],x,k,true⟩∈L)(hk:k<=100000) :
  Calls Tryz.prog 93 #[.slice A n c] w fun e w'=>e = .returned (.bool (decide (x.natAbs=1)))/\bu W0 w' bs L ts M:=by
 obtain ⟨_,hn,hr,h1,h2⟩:=(HE.env.ops _ h).len;refine (AL A (mg x) n c _ w hr hn.symm af).mono fun e w' ⟨h3,h4⟩=>⟨?_,HE.next h4⟩;rw [h3]
 congr 2
 rw [decide_eq_decide];exact ahl
set_option maxRecDepth 100000 in
set_option maxHeartbeats 1600000 in
theorem H8(HE:bu W0 w bs L ts M)(h:⟨.agg #[.bool s,.slice A n c],x,k,true⟩∈L)(h':⟨.agg #[.bool s',.slice A' n' c'],y,k',true⟩∈L)(hk:k+k'<=100000) :
  Calls Tryz.prog 130 #[.agg #[.bool s,.slice A n c],.agg #[.bool s',.slice A' n' c']] w (gV W0 bs L ts M ((Nat.gcd x.natAbs y.natAbs:Nat):Int) (k+k'+2)):=by
 suffices hs:Calls Tryz.prog 130 #[.agg #[.bool s,.slice A n c],.agg #[.bool s',.slice A' n' c']] w (gV w [] L [] M ((Nat.gcd x.natAbs y.natAbs:Nat):Int) (k+k'+2)) from hs.mono fun _ _ hh=>gV.of HE hh
 have H1:=((HE.here.bI (.bool s) (.slice A n c)).bI (.bool s') (.slice A' n' c')).bI (.bool false) (.slice none 0 0);simp only [World.size_alloc] at H1
 by_cases hx:x.natAbs=1
 ·have HX:=Lib.hid (decide_eq_true hx)
  have HG:Hid (((Nat.gcd x.natAbs y.natAbs:Nat):Int)=1):=Lib.hid (by rw [hx,Nat.gcd_one_left];rfl);clear hx
  go_enter Tryz.func130,Tryz.ntmps130
  have HE:=H1;obtain ⟨q0,q1,q2,q3⟩:=HE.c2 ak;obtain ⟨q4,q5,q6,q7⟩:=HE.c2 au;obtain ⟨q8,q9,q10,q11⟩:=HE.c2 ay
  go_wp2_with fail
  refine (yO HE h af).mono ?_;rw [HX.out];rintro e w1 ⟨rfl,HE⟩;clear q0 q1 q2 q3 q4 q5 q6 q7 q8 q9 q10 q11;obtain ⟨q12,q13,dO,dP⟩:=HE.c2 ak;obtain ⟨q16,dQ,eu,eF⟩:=HE.c2 au;obtain ⟨fM,fO,q22,q23⟩:=HE.c2 ay
  go_wp2_with fail
  refine (II HE af af).mono ?_;rintro e w3 ⟨s1,D1,m1,d1,rfl,HE⟩;clear q12 q13 dO dP q16 dQ eu eF fM fO q22 q23;obtain ⟨q24,fU,gJ,gK⟩:=HE.c2 ak;obtain ⟨gX,gY,q30,gZ⟩:=HE.c2 au;obtain ⟨q32,iI,iJ,q35⟩:=HE.c2 ay
  go_wp2_with fail
  have HF:=HE.done2 ak s1 (.slice D1 m1 d1);refine bodyPost_ret (v := .agg #[.bool s1,.slice D1 m1 d1]) (by simp [results,Tryz.results130,go_sem,q24,fU]) rfl ?_;rw [HG.out];exact ⟨_,_,_,_,rfl,HF.tl.push ((HF.env.ops _ ak).weak af)⟩
 have HX:=Lib.hid (decide_eq_false hx);clear hx
 by_cases hy:y.natAbs=1
 ·have HY:=Lib.hid (decide_eq_true hy)
  have HG:Hid (((Nat.gcd x.natAbs y.natAbs:Nat):Int)=1):=Lib.hid (by rw [hy,Nat.gcd_one_right];rfl);clear hy
  go_enter Tryz.func130,Tryz.ntmps130
  have HE:=H1;obtain ⟨q0,q1,q2,q3⟩:=HE.c2 ak;obtain ⟨q4,q5,q6,q7⟩:=HE.c2 au;obtain ⟨q8,q9,q10,q11⟩:=HE.c2 ay
  go_wp2_with fail
  refine (yO HE h af).mono ?_;rw [HX.out];rintro e w1 ⟨rfl,HE⟩;clear q0 q1 q2 q3 q4 q5 q6 q7 q8 q9 q10 q11;obtain ⟨q12,q13,dO,dP⟩:=HE.c2 ak;obtain ⟨q16,dQ,eu,eF⟩:=HE.c2 au;obtain ⟨fM,fO,q22,q23⟩:=HE.c2 ay
  go_wp2_with fail
  refine (yO HE h' af).mono ?_;rw [HY.out];rintro e w2 ⟨rfl,HE⟩;clear q12 q13 dO dP q16 dQ eu eF fM fO q22 q23;obtain ⟨q24,fU,gJ,gK⟩:=HE.c2 ak;obtain ⟨gX,gY,q30,gZ⟩:=HE.c2 au;obtain ⟨q32,iI,iJ,q35⟩:=HE.c2 ay
  go_wp2_with fail
  refine (II HE af af).mono ?_;rintro e w3 ⟨s1,D1,m1,d1,rfl,HE⟩;clear q24 fU gJ gK gX gY q30 gZ q32 iI iJ q35;obtain ⟨jd,q37,jy,jX⟩:=HE.c2 ak;obtain ⟨jY,jZ,kP,kQ⟩:=HE.c2 au;obtain ⟨mF,mG,mJ,mM⟩:=HE.c2 ay
  go_wp2_with fail
  have HF:=HE.done2 ak s1 (.slice D1 m1 d1);refine bodyPost_ret (v := .agg #[.bool s1,.slice D1 m1 d1]) (by simp [results,Tryz.results130,go_sem,jd,q37]) rfl ?_;rw [HG.out];exact ⟨_,_,_,_,rfl,HF.tl.push ((HF.env.ops _ ak).weak af)⟩
 ·have HY:=Lib.hid (decide_eq_false hy)
  clear hy;obtain ⟨g,hg⟩ : ∃ g:Int,g=(Nat.gcd x.natAbs y.natAbs:Nat):=⟨_,rfl⟩;have HG:=Lib.hid hg;rw [<- hg];clear hg
  go_enter Tryz.func130,Tryz.ntmps130
  have HE:=H1;obtain ⟨q0,q1,q2,q3⟩:=HE.c2 ak;obtain ⟨q4,q5,q6,q7⟩:=HE.c2 au;obtain ⟨q8,q9,q10,q11⟩:=HE.c2 ay
  go_wp2_with fail
  refine (yO HE h af).mono ?_;rw [HX.out];rintro e w1 ⟨rfl,HE⟩;clear q0 q1 q2 q3 q4 q5 q6 q7 q8 q9 q10 q11;obtain ⟨q12,q13,dO,dP⟩:=HE.c2 ak;obtain ⟨q16,dQ,eu,eF⟩:=HE.c2 au;obtain ⟨fM,fO,q22,q23⟩:=HE.c2 ay
  go_wp2_with fail
  refine (yO HE h' af).mono ?_;rw [HY.out];rintro e w2 ⟨rfl,HE⟩;clear q12 q13 dO dP q16 dQ eu eF fM fO q22 q23;obtain ⟨q24,fU,gJ,gK⟩:=HE.c2 ak;obtain ⟨gX,gY,q30,gZ⟩:=HE.c2 au;obtain ⟨q32,iI,iJ,q35⟩:=HE.c2 ay
  go_wp2_with fail
  refine (VQ HE h h' hk).mono ?_;rintro e w3 ⟨s1,D1,m1,d1,rfl,HE⟩;rw [<- HG.out] at HE;clear q24 fU gJ gK gX gY q30 gZ q32 iI iJ q35;obtain ⟨jd,q37,jy,jX⟩:=HE.c2 ak;obtain ⟨jY,jZ,kP,kQ⟩:=HE.c2 au;obtain ⟨mF,mG,mJ,mM⟩:=HE.c2 ay
  go_wp2_with fail
  have HF:=HE.done2 ak s1 (.slice D1 m1 d1);refine bodyPost_ret (v := .agg #[.bool s1,.slice D1 m1 d1]) (by simp [results,Tryz.results130,go_sem,jd,q37]) rfl ?_;exact ⟨_,_,_,_,rfl,HF.tl.push ((HF.env.ops _ ak).weak af)⟩
set_option maxRecDepth 100000 in
set_option maxHeartbeats 1600000 in
theorem Dz(HE:bu W0 w bs L ts M)(h:⟨.agg #[.bool s,.slice A n c],x,k,true⟩∈L)(h':⟨.agg #[.bool s',.slice A' n' c'],y,k',true⟩∈L)(hk:k+k'<=100000)(hy:0<y) :
  Calls Tryz.prog 131 #[.agg #[.bool s,.slice A n c],.agg #[.bool s',.slice A' n' c']] w (gV W0 bs L ts M (x/y) (k+1)):=by
 suffices hs:Calls Tryz.prog 131 #[.agg #[.bool s,.slice A n c],.agg #[.bool s',.slice A' n' c']] w (gV w [] L [] M (x/y) (k+1)) from hs.mono fun _ _ hh=>gV.of HE hh
 have H1:=((HE.here.bI (.bool s) (.slice A n c)).bI (.bool s') (.slice A' n' c')).bI (.bool false) (.slice none 0 0);simp only [World.size_alloc] at H1;have HN:=Lib.hid (show y≠0 from af)
 by_cases hx:y.natAbs=1
 ·have HX:=Lib.hid (decide_eq_true hx)
  have HG:Hid (x/y=x):=Lib.hid (by rw [show y=1 from af,Int.ediv_one]);clear hx hy
  go_enter Tryz.func131,Tryz.ntmps131
  have HE:=H1;obtain ⟨q0,q1,q2,q3⟩:=HE.c2 ak;obtain ⟨q4,q5,q6,q7⟩:=HE.c2 au;obtain ⟨q8,q9,q10,q11⟩:=HE.c2 ay
  go_wp2_with fail
  refine (yO HE h' af).mono ?_;rw [HX.out];rintro e w1 ⟨rfl,HE⟩;clear q0 q1 q2 q3 q4 q5 q6 q7 q8 q9 q10 q11;obtain ⟨q12,q13,dO,dP⟩:=HE.c2 ak;obtain ⟨q16,dQ,eu,eF⟩:=HE.c2 au;obtain ⟨fM,fO,q22,q23⟩:=HE.c2 ay
  go_wp2_with fail
  have HF:=HE.done2 ak s (.slice A n c);refine bodyPost_ret (v := .agg #[.bool s,.slice A n c]) (by simp [results,Tryz.results131,go_sem,q12,q13]) rfl ?_;rw [HG.out];exact ⟨_,_,_,_,rfl,HF.push ((HF.env.ops _ h).weak af)⟩
 ·have HX:=Lib.hid (decide_eq_false hx)
  clear hx hy
  go_enter Tryz.func131,Tryz.ntmps131
  have HE:=H1;obtain ⟨q0,q1,q2,q3⟩:=HE.c2 ak;obtain ⟨q4,q5,q6,q7⟩:=HE.c2 au;obtain ⟨q8,q9,q10,q11⟩:=HE.c2 ay
  go_wp2_with fail
  refine (yO HE h' af).mono ?_;rw [HX.out];rintro e w1 ⟨rfl,HE⟩;clear q0 q1 q2 q3 q4 q5 q6 q7 q8 q9 q10 q11;obtain ⟨q12,q13,dO,dP⟩:=HE.c2 ak;obtain ⟨q16,dQ,eu,eF⟩:=HE.c2 au;obtain ⟨fM,fO,q22,q23⟩:=HE.c2 ay
  go_wp2_with fail
  refine (UJ HE h h' hk HN.out).mono ?_;rintro e w3 ⟨s1,D1,m1,d1,rfl,HE⟩;clear q12 q13 dO dP q16 dQ eu eF fM fO q22 q23;obtain ⟨q24,fU,gJ,gK⟩:=HE.c2 ak;obtain ⟨gX,gY,q30,gZ⟩:=HE.c2 au;obtain ⟨q32,iI,iJ,q35⟩:=HE.c2 ay
  go_wp2_with fail
  have HF:=HE.done2 ak s1 (.slice D1 m1 d1);refine bodyPost_ret (v := .agg #[.bool s1,.slice D1 m1 d1]) (by simp [results,Tryz.results131,go_sem,q24,fU]) rfl ?_;exact ⟨_,_,_,_,rfl,HF⟩
end
section
variable {W0 w:World} {bs:List Bx} {L:List En} {ts:List Bt} {M:List Qn} {s s':Bool} {A A' B B':Option Addr} {n c n' c' m d m' d' k k':Nat} {q r:Rat} {x y:Int}
theorem Yt(HE:bu W0 w bs L ts M)(n1 : -9223372036854775808<=x)(n2:x<=9223372036854775807)(d0:0<y)(d2:y<=9223372036854775807) :
  Calls Tryz.prog 86 #[.int .i64 x,.int .i64 y] w (dA W0 bs L ts M (Rat.divInt x y) 2):=by
 refine (Yr x y w n1 n2 af d2 af (HE.tz.next HE.below)).mono fun e w' hh => ?_;obtain ⟨A,c,A',c',rfl,hc,hc',hr,hr',hb⟩:=hh;have hl:=LM (n:=x) d0;have hp:pw 2=18446744073709551616:=rfl;exact ⟨_,_,_,_,_,_,_,rfl,(HE.next hb).cons (I8 hr hr' (uJ af) (Nr af) hc hc')⟩
end
section
variable {W0 w:World} {bs:List Bx} {L:List En} {ts:List Bt} {M:List Qn} {s s':Bool} {A A' B B':Option Addr} {n c n' c' m d m' d' k k':Nat} {q r:Rat} {x y:Int}
set_option maxRecDepth 100000 in
set_option maxHeartbeats 4000000 in
theorem ZJ(HE:bu W0 w bs L ts M)(h:⟨.agg #[.bool s,.slice A n c,.slice A' n' c'],q,k,true⟩∈M)(h':⟨.agg #[.bool s',.slice B m d,.slice B' m' d'],r,k',true⟩∈M)(hk:k+k'<=8000) :
  Calls Tryz.prog 84 #[.agg #[.bool s,.slice A n c,.slice A' n' c'],.agg #[.bool s',.slice B m d,.slice B' m' d']] w (dA W0 bs L ts M (q*r) (k+k'+2)):=by
 suffices hs:Calls Tryz.prog 84 #[.agg #[.bool s,.slice A n c,.slice A' n' c'],.agg #[.bool s',.slice B m d,.slice B' m' d']] w (dA w [] L [] M (q*r) (k+k'+2)) from hs.mono fun _ _ hh=>dA.of HE hh
 have H1:=((HE.here.bY (.bool s) (.slice A n c) (.slice A' n' c')).bY (.bool s') (.slice B m d) (.slice B' m' d')).bY (.bool false) (.slice none 0 0) (.slice none 0 0);simp only [World.size_alloc] at H1;have HP:=Lib.hid (WT (HE.fr _ h).lt (HE.fr _ h').lt)
 by_cases hb:(jM q&&jM r)=true
 ·have hb2:jM q=true/\jM r=true:=by simpa using hb
  obtain ⟨z1,z2⟩:=xK hb2.1;obtain ⟨z3,z4⟩:=xK hb2.2;have HB:=Lib.hid hb;have p1:=yU (a:=q.num) (b:=r.num) z1 z3;have p3:=yU (a:=(q.den:Int)) (b:=(r.den:Int)) af af;have p4:=Int.mul_pos (den_pos q) (den_pos r);have y1:IntKind.i64.wrap (q.num*r.num)=q.num*r.num:=nH af af;have y4:IntKind.i64.wrap ((q.den:Int)*(r.den:Int))=(q.den:Int)*(r.den:Int):=nH af af;have HS:=Lib.hid (show (-9223372036854775808<=q.num*r.num/\q.num*r.num<=9223372036854775807)/\0<(q.den:Int)*(r.den:Int)/\(q.den:Int)*(r.den:Int)<=9223372036854775807 from ⟨⟨af,af⟩,p4,af⟩);clear p1 p3 p4;clear hb hb2 z1 z2 z3 z4
  go_enter Tryz.func84,Tryz.ntmps84
  have HE:=H1;clear H1;obtain ⟨q0,q1,q2,q3,q4,q5⟩:=HE.c3 ak;obtain ⟨q6,q7,q8,q9,q10,q11⟩:=HE.c3 au;obtain ⟨q12,q13,dO,dP,q16,dQ⟩:=HE.c3 ay
  go_wp2_with fail
  refine (BI HE h h' af).mono ?_;clear HE;rw [HB.out,OT];rintro e w1 ⟨rfl,HE⟩;clear q0 q1 q2 q3 q4 q5 q6 q7 q8 q9 q10 q11 q12 q13 dO dP q16 dQ;have TA:=(Two.new w1 131 (.int .i64 q.num) (.int .i64 (q.den:Int))).alloc (.cells #[.int .i64 r.num,.int .i64 (r.den:Int)] 131);have TB:=Two.new (w1.alloc (.cells #[.int .i64 q.num,.int .i64 (q.den:Int)] 131)) 131 (.int .i64 r.num) (.int .i64 (r.den:Int));replace HE:=(HE.alloc (.cells #[.int .i64 q.num,.int .i64 (q.den:Int)] 131)).alloc (.cells #[.int .i64 r.num,.int .i64 (r.den:Int)] 131);simp only [World.size_alloc] at TA TB;obtain ⟨u0,u1,u2,u3⟩:=TA.facts;obtain ⟨v0,v1,v2,v3⟩:=TB.facts;obtain ⟨eu,eF,fM,fO,q22,q23⟩:=HE.c3 ak;obtain ⟨q24,fU,gJ,gK,gX,gY⟩:=HE.c3 au;obtain ⟨q30,gZ,q32,iI,iJ,q35⟩:=HE.c3 ay
  go_wp2_with fail
  refine (Yt HE HS.out.1.1 HS.out.1.2 HS.out.2.1 HS.out.2.2).mono ?_;rintro e w2 ⟨sx,Ax,nx,cx,Ay,ny,cy,rfl,HE⟩;rw [<- Nw] at HE;clear u0 u1 u2 u3 v0 v1 v2 v3 TA TB;clear eu eF fM fO q22 q23 q24 fU gJ gK gX gY q30 gZ q32 iI iJ q35;obtain ⟨jd,q37,jy,jX,jY,jZ⟩:=HE.c3 ak;obtain ⟨kP,kQ,mF,mG,mJ,mM⟩:=HE.c3 au;obtain ⟨oz,oC,oD,oG,oH,oI⟩:=HE.c3 ay
  go_wp2_with fail
  have HF:=HE.iG (D:=Ax) (m:=nx) (d:=cx) ak sx (.slice Ay ny cy);refine bodyPost_ret (v := .agg #[.bool sx,.slice Ax nx cx,.slice Ay ny cy]) (by simp [results,Tryz.results84,go_sem,jd,q37,jy]) rfl ?_;exact ⟨_,_,_,_,_,_,_,rfl,HF.bare.hd (·.weak af)⟩
 ·have HB:=Lib.hid (Bool.eq_false_iff.2 hb)
  obtain ⟨g,hg⟩ : ∃ g:Int,g=(Nat.gcd q.num.natAbs (r.den:Int).natAbs:Nat):=⟨_,rfl⟩;obtain ⟨t,ht⟩ : ∃ t:Int,t=(Nat.gcd r.num.natAbs (q.den:Int).natAbs:Nat):=⟨_,rfl⟩;have HG:=Lib.hid hg;have HH:=Lib.hid ht;rw [auy] at hg ht;have hl:=ahq q r hg ht;have HL:=Lib.hid (show (q*r).num=q.num/g*(r.num/t)/\((q*r).den:Int)=(q.den:Int)/t*((r.den:Int)/g)/\0<g/\0<t from ⟨hl.1,hl.2.1,af,af⟩);clear hg ht hl;clear hb
  go_enter Tryz.func84,Tryz.ntmps84
  have HE:=H1;clear H1;obtain ⟨q0,q1,q2,q3,q4,q5⟩:=HE.c3 ak;obtain ⟨q6,q7,q8,q9,q10,q11⟩:=HE.c3 au;obtain ⟨q12,q13,dO,dP,q16,dQ⟩:=HE.c3 ay
  go_wp2_with fail
  refine (BI HE h h' af).mono ?_;clear HE;rw [HB.out,OQ];rintro e w1 ⟨rfl,HE⟩;clear q0 q1 q2 q3 q4 q5 q6 q7 q8 q9 q10 q11 q12 q13 dO dP q16 dQ;have TA:=(Two.new w1 131 (.int .i64 0) (.int .i64 0)).alloc (.cells #[.int .i64 0,.int .i64 0] 131);have TB:=Two.new (w1.alloc (.cells #[.int .i64 0,.int .i64 0] 131)) 131 (.int .i64 0) (.int .i64 0);replace HE:=(HE.alloc (.cells #[.int .i64 0,.int .i64 0] 131)).alloc (.cells #[.int .i64 0,.int .i64 0] 131);simp only [World.size_alloc] at TA TB;clear TA TB;obtain ⟨eu,eF,fM,fO,q22,q23⟩:=HE.c3 ak;obtain ⟨q24,fU,gJ,gK,gX,gY⟩:=HE.c3 au;obtain ⟨q30,gZ,q32,iI,iJ,q35⟩:=HE.c3 ay
  go_wp2_with fail
  refine (y8 HE h).mono ?_;clear HE;rintro e w2 ⟨s1,D1,m1,d1,s2,D2,m2,d2,rfl,HE⟩;have HLW:=Lib.hid HE.below.size;clear eu eF fM fO q22 q23 q24 fU gJ gK gX gY q30 gZ q32 iI iJ q35;replace HE:=(HE.bI (.bool s1) (.slice D1 m1 d1)).bI (.bool s2) (.slice D2 m2 d2);simp only [World.size_alloc] at HE;obtain ⟨jd,q37,jy,jX⟩:=HE.c2 ak;obtain ⟨jY,jZ,kP,kQ⟩:=HE.c2 au;obtain ⟨mF,mG,mJ,mM,oz,oC⟩:=HE.c3 ak;obtain ⟨oD,oG,oH,oI,qE,qF⟩:=HE.c3 au;obtain ⟨qG,qH,qI,qJ,qK,qL⟩:=HE.c3 ay
  go_wp2_with fail
  refine (y8 HE h').mono ?_;clear HE;rintro e w3 ⟨s3,D3,m3,d3,s4,D4,m4,d4,rfl,HE⟩;have GV:=Lib.hid (HE.uM ak);clear jd q37 jy jX jY jZ kP kQ mF mG mJ mM oz oC oD oG oH oI qE qF qG qH qI qJ qK qL;replace HE:=(HE.bI (.bool s3) (.slice D3 m3 d3)).bI (.bool s4) (.slice D4 m4 d4);simp only [World.size_alloc] at HE;obtain ⟨qM,qN,qO,qP⟩:=HE.c2 ak;obtain ⟨qQ,qR,qU,qV⟩:=HE.c2 au;obtain ⟨qW,qX,sJ,sK⟩:=HE.c2 ay;obtain ⟨sN,sO,sQ,sS⟩:=HE.c2 az;obtain ⟨zh,zi,zk,zl,zn,zo⟩:=HE.c3 ak;obtain ⟨zq,zu,Bg,Bh,Bi,Bj⟩:=HE.c3 au;obtain ⟨Bl,Bo,Bq,Bv,E8,Fa⟩:=HE.c3 ay
  go_wp2_with fail
  generalize ((w3.alloc (.cells #[.bool s3,.slice D3 m3 d3] 79)).alloc (.cells #[.bool s4,.slice D4 m4 d4] 79))=W5 at *;have hS : ∀ v,Below W5.heap.size W5 v->(fun w'=>w'.cell? ⟨w2.heap.size,0,none⟩=some (.bool s1)/\w'.cell? ⟨w2.heap.size,1,none⟩=some (.slice D1 m1 d1)/\w'.cell? ⟨w2.heap.size+1,0,none⟩=some (.bool s2)/\w'.cell? ⟨w2.heap.size+1,1,none⟩=some (.slice D2 m2 d2)/\w'.cell? ⟨w3.heap.size,0,none⟩=some (.bool s3)/\w'.cell? ⟨w3.heap.size,1,none⟩=some (.slice D3 m3 d3)/\w'.cell? ⟨w3.heap.size+1,0,none⟩=some (.bool s4)/\w'.cell? ⟨w3.heap.size+1,1,none⟩=some (.slice D4 m4 d4)) v:=fun v hv=>bu.c4 (HE.next hv);have HR:=HE.here
  go_cut [12,13] (fun sl sm wx => ∃ (ga:Nat) (sa:Bool) (Aa:Option Addr) (na ca gb:Nat) (sb:Bool) (Ab:Option Addr) (nb cb:Nat),(sl = .pointer (some ⟨ga,0,none⟩)/\sm = .pointer (some ⟨gb,0,none⟩))/\W5.heap.size<=ga/\W5.heap.size<=gb/\Two wx ga 79 (.bool sa) (.slice Aa na ca)/\Two wx gb 79 (.bool sb) (.slice Ab nb cb)/\bu W5 wx [] (⟨.agg #[.bool sb,.slice Ab nb cb],t,k'+2+(k+2)+2,true⟩::⟨.agg #[.bool sa,.slice Aa na ca],g,k+2+(k'+2)+2,true⟩::⟨.agg #[.bool s3,.slice D3 m3 d3],r.num,k'+2,true⟩::⟨.agg #[.bool s4,.slice D4 m4 d4],(r.den:Int),k'+2,true⟩::⟨.agg #[.bool s1,.slice D1 m1 d1],q.num,k+2,true⟩::⟨.agg #[.bool s2,.slice D2 m2 d2],(q.den:Int),k+2,true⟩::L) [] M)
  case first =>
   go_region_held3 (fun w'=>w'.cell? ⟨w2.heap.size,0,none⟩=some (.bool s1)/\w'.cell? ⟨w2.heap.size,1,none⟩=some (.slice D1 m1 d1)/\w'.cell? ⟨w2.heap.size+1,0,none⟩=some (.bool s2)/\w'.cell? ⟨w2.heap.size+1,1,none⟩=some (.slice D2 m2 d2)/\w'.cell? ⟨w3.heap.size,0,none⟩=some (.bool s3)/\w'.cell? ⟨w3.heap.size,1,none⟩=some (.slice D3 m3 d3)/\w'.cell? ⟨w3.heap.size+1,0,none⟩=some (.bool s4)/\w'.cell? ⟨w3.heap.size+1,1,none⟩=some (.slice D4 m4 d4)) (first | (with_reducible first | exact hS _ HR.below | exact hS _ HR.drew.below | exact hS _ HR.b1.below | exact hS _ HR.b1.drew.below | exact hS _ HR.b2.below | exact hS _ HR.b2.drew.below) | (with_reducible refine hS _ ?_;(repeat' (first | with_reducible exact HR.below | with_reducible exact HR.drew.below | with_reducible refine Below.setCell ?_ ?_ _ | with_reducible refine Below.alloc ?_ ?_ _ | (simp only [World.size_setCell,World.size_alloc];omega) | omega));done))
    (first
     | (go_at_call 130;have _:=rJ;refine (H8 (by with_reducible first | exact HR | exact HR.drew | exact HR.b1 | exact HR.b1.drew | exact HR.b2 | exact HR.b2.drew) (by repeat (first | exact aZ | assumption | refine .tail _ ?_)) (by repeat (first | exact aZ | assumption | refine .tail _ ?_)) af).mono ?_;clear HR;rintro e w6 ⟨sb,Ab,nb,cb,rfl,HR⟩;rw [<- HH.out] at HR;have hz:=HR.below.size;(try (have hy:=HR.uM ak;have hn1:=avh hy;have hn2:=Nat.ne_of_gt hy));(try (have hx:=HR.uM au;have hn3:=avh hx;have hn4:=Nat.ne_of_gt hx));try obtain ⟨z0,z1,z2,z3⟩:=bu.c2 HR ak;try obtain ⟨z4,z5,z6,z7⟩:=bu.c2 HR au;try obtain ⟨z8,z9,z10,z11⟩:=bu.c2 HR.b1 ak;try obtain ⟨z12,z13,z14,z15⟩:=bu.c2 HR.b1 au)
     | (go_at_call 130;refine (H8 (by with_reducible first | exact HR | exact HR.drew | exact HR.b1 | exact HR.b1.drew | exact HR.b2 | exact HR.b2.drew) (by repeat (first | exact aZ | assumption | refine .tail _ ?_)) (by repeat (first | exact aZ | assumption | refine .tail _ ?_)) af).mono ?_;clear HR;rintro e wn ⟨sa,Aa,na,ca,rfl,HR⟩;rw [<- HG.out] at HR;have rJ:=HG;have hz:=HR.below.size;(try (have hy:=HR.uM ak;have hn1:=avh hy;have hn2:=Nat.ne_of_gt hy));(try (have hx:=HR.uM au;have hn3:=avh hx;have hn4:=Nat.ne_of_gt hx))))
   all_goals go_wp2_with fail
   all_goals go_meet
   all_goals (try have HT1:=HR.two ak)
   all_goals (try have HT2:=HR.two au)
   all_goals have HB:=HR.bare
   all_goals refine ⟨_,sa,Aa,na,ca,_,sb,Ab,nb,cb,⟨rfl,rfl⟩,?_,?_,?_,?_,?_⟩
   all_goals first | omega | (simp only [World.size_setCell,World.size_alloc];omega) | skip
   all_goals first | (with_reducible first | exact (Two.new _ _ _ _).alloc _ | exact ac3 (by simp only [World.size_setCell,World.size_alloc]) | exact (HT1.put _ _).alloc _ | exact zW (HT1.put _ _) af _ _ | exact (zW HT1 af _ _).put _ _ | exact (HT2.put _ _).alloc _ | exact zW (HT2.put _ _) af _ _ | exact (zW HT2 af _ _).put _ _) | (with_reducible first | exact (HB.alloc _).alloc _ | exact (bu.uZ HB HT1 af _ _).alloc _ | exact bu.uZ (bu.uZ HB HT1 af _ _) (zW HT2 af _ _) af _ _ | exact (bu.uZ HB HT2 af _ _).alloc _ | exact bu.uZ (bu.uZ HB HT2 af _ _) (zW HT1 af _ _) af _ _)
  case rest =>
   clear HR hS qM qN qO qP qQ qR qU qV qW qX sJ sK sN sO sQ sS zh zi zk zl zn zo zq zu Bg Bh Bi Bj Bl Bo Bq Bv E8 Fa;obtain ⟨ga,sa,Aa,na,ca,gb,sb,Ab,nb,cb,⟨rfl,rfl⟩,hga,hgb,hta,htb,HR⟩:=hcut;replace HE:=HE.join ((HR.Ld hta hga).Ld htb hgb);clear HR hta htb hga hgb;simp only [List.cons_append,avH] at HE;obtain ⟨Fb,Fe,Ff,Fg⟩:=HE.c2 ak;obtain ⟨Jf,Jg,Jh,Ji⟩:=HE.c2 au;obtain ⟨Jj,Jm,Jo,Jp⟩:=HE.c2 ay;obtain ⟨NI,NJ,NK,NL⟩:=HE.c2 az;obtain ⟨NM,NP,NQ,NR⟩:=HE.c2 aA;obtain ⟨NS,NT,NU,NV⟩:=HE.c2 aB;obtain ⟨NW,NY,NZ,N7,N8,N9⟩:=HE.c3 ak;obtain ⟨Oa,Ob,Oc,Oe,Og,Oh⟩:=HE.c3 au;obtain ⟨Oi,Oj,Ol,Om,Oo,Oq⟩:=HE.c3 ay
   go_wp2_with fail
   have hS : ∀ v,Below wc.heap.size wc v->(fun w'=>w'.cell? ⟨w2.heap.size,0,none⟩=some (.bool s1)/\w'.cell? ⟨w2.heap.size,1,none⟩=some (.slice D1 m1 d1)/\w'.cell? ⟨w2.heap.size+1,0,none⟩=some (.bool s2)/\w'.cell? ⟨w2.heap.size+1,1,none⟩=some (.slice D2 m2 d2)/\w'.cell? ⟨w3.heap.size,0,none⟩=some (.bool s3)/\w'.cell? ⟨w3.heap.size,1,none⟩=some (.slice D3 m3 d3)/\w'.cell? ⟨w3.heap.size+1,0,none⟩=some (.bool s4)/\w'.cell? ⟨w3.heap.size+1,1,none⟩=some (.slice D4 m4 d4)/\w'.cell? ⟨ga,0,none⟩=some (.bool sa)/\w'.cell? ⟨ga,1,none⟩=some (.slice Aa na ca)/\w'.cell? ⟨gb,0,none⟩=some (.bool sb)/\w'.cell? ⟨gb,1,none⟩=some (.slice Ab nb cb)) v:=fun v hv=>bu.c6 (HE.next hv);have HR:=HE.here
   go_cut [14] (fun sl wx => ∃ (gm:Nat) (sx:Bool) (Ax:Option Addr) (nx cx:Nat),sl = .pointer (some ⟨gm,0,none⟩)/\bu wc wx [⟨gm,.bool sx,.slice Ax nx cx⟩] (⟨.agg #[.bool sx,.slice Ax nx cx],q.num/g*(r.num/t),(k+2+1+(k'+2+1)+1),true⟩::⟨.agg #[.bool sb,.slice Ab nb cb],t,k'+2+(k+2)+2,true⟩::⟨.agg #[.bool sa,.slice Aa na ca],g,k+2+(k'+2)+2,true⟩::⟨.agg #[.bool s3,.slice D3 m3 d3],r.num,k'+2,true⟩::⟨.agg #[.bool s4,.slice D4 m4 d4],(r.den:Int),k'+2,true⟩::⟨.agg #[.bool s1,.slice D1 m1 d1],q.num,k+2,true⟩::⟨.agg #[.bool s2,.slice D2 m2 d2],(q.den:Int),k+2,true⟩::L) [] M)
   case first =>
    go_region_held3 (fun w'=>w'.cell? ⟨w2.heap.size,0,none⟩=some (.bool s1)/\w'.cell? ⟨w2.heap.size,1,none⟩=some (.slice D1 m1 d1)/\w'.cell? ⟨w2.heap.size+1,0,none⟩=some (.bool s2)/\w'.cell? ⟨w2.heap.size+1,1,none⟩=some (.slice D2 m2 d2)/\w'.cell? ⟨w3.heap.size,0,none⟩=some (.bool s3)/\w'.cell? ⟨w3.heap.size,1,none⟩=some (.slice D3 m3 d3)/\w'.cell? ⟨w3.heap.size+1,0,none⟩=some (.bool s4)/\w'.cell? ⟨w3.heap.size+1,1,none⟩=some (.slice D4 m4 d4)/\w'.cell? ⟨ga,0,none⟩=some (.bool sa)/\w'.cell? ⟨ga,1,none⟩=some (.slice Aa na ca)/\w'.cell? ⟨gb,0,none⟩=some (.bool sb)/\w'.cell? ⟨gb,1,none⟩=some (.slice Ab nb cb)) (with_reducible first | exact hS _ HR.below | exact hS _ HR.drew.below | exact hS _ (bu.bI HR (.bool false) (.slice none 0 0)).below | exact hS _ (bu.bI HR.drew (.bool false) (.slice none 0 0)).below | exact hS _ (bu.bI HR (.bool false) (.slice none 0 0)).drew.below | exact hS _ HK.below)
     (first
      | (go_at_call 131;refine (Dz (by with_reducible first | exact HR | exact HR.drew | exact bu.bI HR (.bool false) (.slice none 0 0) | exact bu.bI HR.drew (.bool false) (.slice none 0 0) | exact (bu.bI HR (.bool false) (.slice none 0 0)).drew) (by repeat (first | exact aZ | assumption | refine .tail _ ?_)) (by repeat (first | exact aZ | assumption | refine .tail _ ?_)) af (by first | exact HL.out.2.2.1 | exact HL.out.2.2.2)).mono ?_;rintro e wn ⟨sx,Ax,nx,cx,rfl,HR⟩)
      | (go_at_call 69;refine (AB (by with_reducible first | exact HR | exact HR.drew | exact bu.bI HR (.bool false) (.slice none 0 0) | exact bu.bI HR.drew (.bool false) (.slice none 0 0) | exact (bu.bI HR (.bool false) (.slice none 0 0)).drew) (by repeat (first | exact aZ | assumption | refine .tail _ ?_)) (by repeat (first | exact aZ | assumption | refine .tail _ ?_)) af).mono ?_;rintro e w6 ⟨sx,Ax,nx,cx,rfl,HR⟩;first | (have HK:=HR.jr ak [] (fun _ hb=>by simp at hb) sx (.slice Ax nx cx);obtain ⟨z0,z1,z2,z3⟩:=HR.c2 ak) | (have HK:=HR.bI (.bool sx) (.slice Ax nx cx))))
    all_goals
     go_wp2_with fail
     go_meet
     exact ⟨_,sx,Ax,nx,cx,rfl,(HK.hdi (K:=(k+2+1+(k'+2+1)+1)) (·.weak af)).pick (fun _ he=>by rcases List.mem_cons.1 he with rfl | he;exact ak;exact .tail _ (.tail _ (.tail _ (he)))) (fun _ he=>he)⟩
   case rest =>
    clear HR hS Fb Fe Ff Fg Jf Jg Jh Ji Jj Jm Jo Jp NI NJ NK NL NM NP NQ NR NS NT NU NV NW NY NZ N7 N8 N9 Oa Ob Oc Oe Og Oh Oi Oj Ol Om Oo Oq;obtain ⟨gm,sx,Ax,nx,cx,rfl,HR⟩:=hcut;replace HE:=HE.join HR;clear HR;simp only [List.cons_append,avH] at HE;obtain ⟨XC,XD,XE,XF⟩:=HE.c2 ak;obtain ⟨XG,XH,XI,XJ⟩:=HE.c2 au;obtain ⟨XK,XL,XM,XN⟩:=HE.c2 ay;obtain ⟨XO,XP,XQ,XR⟩:=HE.c2 az;obtain ⟨XT,XU,XV,XW⟩:=HE.c2 aA;obtain ⟨XX,XY,XZ,X0⟩:=HE.c2 aB;obtain ⟨X5,X6,X7,X8⟩:=HE.c2 aC;obtain ⟨X9,Ya,Yb,Yc,Yd,Ye⟩:=HE.c3 ak;obtain ⟨Yf,Yg,Yh,Yi,Yj,Yk⟩:=HE.c3 au;obtain ⟨Yl,Ym,Yn,Yo,Yp,Yq⟩:=HE.c3 ay
    go_wp2_with fail
    go_region_held3 (fun w'=>w'.cell? ⟨w2.heap.size,0,none⟩=some (.bool s1)/\w'.cell? ⟨w2.heap.size,1,none⟩=some (.slice D1 m1 d1)/\w'.cell? ⟨w2.heap.size+1,0,none⟩=some (.bool s2)/\w'.cell? ⟨w2.heap.size+1,1,none⟩=some (.slice D2 m2 d2)/\w'.cell? ⟨w3.heap.size,0,none⟩=some (.bool s3)/\w'.cell? ⟨w3.heap.size,1,none⟩=some (.slice D3 m3 d3)/\w'.cell? ⟨w3.heap.size+1,0,none⟩=some (.bool s4)/\w'.cell? ⟨w3.heap.size+1,1,none⟩=some (.slice D4 m4 d4)/\w'.cell? ⟨ga,0,none⟩=some (.bool sa)/\w'.cell? ⟨ga,1,none⟩=some (.slice Aa na ca)/\w'.cell? ⟨gb,0,none⟩=some (.bool sb)/\w'.cell? ⟨gb,1,none⟩=some (.slice Ab nb cb)/\w'.cell? ⟨gm,0,none⟩=some (.bool sx)/\w'.cell? ⟨gm,1,none⟩=some (.slice Ax nx cx)) (with_reducible first | exact bu.c7 HE | exact bu.c7 HE.drew | exact bu.c7 HK)
     (first
      | (go_at_call 131;refine (Dz (by with_reducible first | exact HE | exact HE.drew) (by repeat (first | exact aZ | assumption | refine .tail _ ?_)) (by repeat (first | exact aZ | assumption | refine .tail _ ?_)) af (by first | exact HL.out.2.2.1 | exact HL.out.2.2.2)).mono ?_;rintro e wn ⟨sx,Ax,nx,cx,rfl,HE⟩)
      | (go_at_call 69;refine (AB (by with_reducible first | exact HE | exact HE.drew) (by repeat (first | exact aZ | assumption | refine .tail _ ?_)) (by repeat (first | exact aZ | assumption | refine .tail _ ?_)) af).mono ?_;rintro e wn ⟨sx,Ax,nx,cx,rfl,HE⟩)
      | (go_at_call 120;refine (Nu (by with_reducible first | exact HE | exact HE.drew) (by repeat (first | exact aZ | assumption | refine .tail _ ?_)) (by repeat (first | exact aZ | assumption | refine .tail _ ?_)) HL.out.1 HL.out.2.1).mono ?_;rintro e w8 ⟨sx,Ax,nx,cx,Ay,ny,cy,rfl,HE⟩;have HK:=HE.iG (D:=Ax) (m:=nx) (d:=cx) ak sx (.slice Ay ny cy);obtain ⟨z0,z1,z2,z3,z4,z5⟩:=HE.c3 ak))
    go_wp2_with fail
    refine bodyPost_ret (v := .agg #[.bool sx,.slice Ax nx cx,.slice Ay ny cy]) (by simp [results,Tryz.results84,go_sem,z0,z1,z2]) rfl ?_;have HF:=HK.bare.hd (fun hh=>bV.tight hh HP.out.1 HP.out.2);exact ⟨_,_,_,_,_,_,_,rfl,HF.pick (fun _ he => .tail _ (.tail _ (.tail _ (.tail _ (.tail _ (.tail _ (.tail _ (.tail _ (.tail _ (.tail _ (he))))))))))) (fun _ he=>he)⟩
end
open bG
section
variable {W0 w:World} {U:List Box} {Ps:List (World->Prop)}
theorem Jc(w:World):Sem.run Tryz.prog (Array.mapM (fun (f:Go.Field)=>Prod.mk f.offset <$> Go.sizeOf f.type) #[{ name:= "X",type:=24,offset:=0,embedded:=false,tag:= "",pkgPath:= "",byteOffset:=0 },{ name:= "Y",type:=24,offset:=3,embedded:=false,tag:= "",pkgPath:= "",byteOffset:=56 }]) w = .ok #[(0,3),(3,3)] w:=ah
end
section
variable {W0 w:World} {U:List Box} {Ps:List (World->Prop)}
set_option maxRecDepth 100000 in
set_option maxHeartbeats 400000 in
theorem ZU(HT:Tz W0)(HB:Tab W0){iZ:Bool}{iP:Option Addr}{iY c1a:Nat}{GG:Option Addr}{IQ Ia:Nat}{zf:Rat}{jb:Nat}{b1a:Bool}{ja:Bool}{iQ:Option Addr}{n1b iR:Nat}{GH:Option Addr}{IU Ib:Nat}{zg:Rat}{jc:Nat}{b1b:Bool}(HS:St W0 U Ps w)(f1a:FV (.agg #[.bool iZ,.slice iP iY c1a,.slice GG IQ Ia]) zf jb b1a w)(mY:FV (.agg #[.bool ja,.slice iQ n1b iR,.slice GH IU Ib]) zg jc b1b w)(hk:jb+jc<=8000):bF Tryz.prog 66 [.agg #[.bool iZ,.slice iP iY c1a,.slice GG IQ Ia,.bool ja,.slice iQ n1b iR,.slice GH IU Ib]] w (QJ W0 U Ps (zf.num*(zg.den:Int)) (zg.num*(zf.den:Int)) ((zf.den:Int)*(zg.den:Int)) (jb+jc+4)):=by
 have HS:=HS.add (FV.stable _ _ _ _) f1a;have HS:=HS.add (FV.stable _ _ _ _) mY;clear f1a mY;refine df Tryz.func66 rfl Tryz.ntmps66 rfl<|Js<|JL.box (vs:=[.bool iZ,.slice iP iY c1a,.slice GG IQ Ia,.bool ja,.slice iQ n1b iR,.slice GH IU Ib]) HS rfl rfl rfl rfl (fun g21 di HS => ?_);refine JL.alloc (vs:=[.bool false,.slice none 0 0,.bool false,.slice none 0 0]) HS rfl ati rfl rfl (fun g22 dw HS => ?_);refine JL.alloc (vs:=[.bool false,.slice none 0 0]) HS rfl ath rfl rfl (fun g23 dR HS => ?_);refine Jn<|Js<|dH 0 rfl as2 rfl asR<|JL.load (.agg #[.bool iZ,.slice iP iY c1a,.slice GG IQ Ia]) HS 2 rfl rfl rfl asT asR rfl rfl<|JL.call rfl rfl Tryz.call110 (L6 HT HB HS (HS.at_ 1 rfl) af)<|?_;rintro v24 dY ⟨lF,kZ,lD,lg,kT,kG,kN,kJ,rfl,HS⟩;refine Lm rfl<|Lx rfl rfl<|Lx rfl rfl<|JL.alloc (vs:=[.bool false,.slice none 0 0]) HS rfl ath rfl rfl (fun kM dV HS => ?_);refine JL.alloc (vs:=[.bool false,.slice none 0 0]) HS rfl ath rfl rfl (fun DZ fA HS => ?_);refine JL.store HS rfl rfl (i:=1) rfl asW rfl rfl rfl (vs':=[.bool lF,.slice kZ lD lg]) rfl rfl (fun lH HS => ?_);refine JL.store HS rfl rfl (i:=0) rfl asW rfl rfl rfl (vs':=[.bool kT,.slice kG kN kJ]) rfl rfl (fun kE HS => ?_);refine Jn<|Js<|dH 3 rfl as2 rfl asR<|JL.load (.agg #[.bool ja,.slice iQ n1b iR,.slice GH IU Ib]) HS 4 rfl rfl rfl asT asR rfl rfl<|JL.call rfl rfl Tryz.call110 (L6 HT HB HS (HS.at_ 2 rfl) af)<|?_;rintro v29 jk ⟨OI,Kr,Nz,LC,JH,Gv,IZ,Hl,rfl,HS⟩;refine Lm rfl<|Lx rfl rfl<|Lx rfl rfl<|JL.alloc (vs:=[.bool false,.slice none 0 0]) HS rfl ath rfl rfl (fun UQ lI HS => ?_);refine JL.alloc (vs:=[.bool false,.slice none 0 0]) HS rfl ath rfl rfl (fun UR oL HS => ?_);refine JL.store HS rfl rfl (i:=1) rfl asW rfl rfl rfl (vs':=[.bool OI,.slice Kr Nz LC]) rfl rfl (fun w32 HS => ?_);refine JL.store HS rfl rfl (i:=0) rfl asW rfl rfl rfl (vs':=[.bool JH,.slice Gv IZ Hl]) rfl rfl (fun o8 HS => ?_);refine Jn<|JC.wE (HS.tg.u.u.u.u.u.u) (ι:=Bool×Option Addr×Nat×Nat×Bool×Option Addr×Nat×Nat×Bool×Option Addr×Nat×Nat) (fun ⟨xE,vH,xh,wo,xG,vI,xk,wu,zD,xX,yV,yu⟩=>[(2,.pointer (some ⟨g22,0,none⟩)),(3,.pointer (some ⟨g23,0,none⟩))]) (fun ⟨xE,vH,xh,wo,xG,vI,xk,wu,zD,xX,yV,yu⟩ w Ua Pa=>St W0 (⟨UR,79,[.bool JH,.slice Gv IZ Hl]⟩::⟨UQ,79,[.bool OI,.slice Kr Nz LC]⟩::⟨DZ,79,[.bool kT,.slice kG kN kJ]⟩::⟨kM,79,[.bool lF,.slice kZ lD lg]⟩::⟨g23,79,[.bool zD,.slice xX yV yu]⟩::⟨g22,81,[.bool xE,.slice vH xh wo,.bool xG,.slice vI xk wu]⟩::Ua) (FI (.agg #[.bool zD,.slice xX yV yu]) ((zf.den:Int)*(zg.den:Int)) ((jb+2)+(jc+2))::FI (.agg #[.bool xG,.slice vI xk wu]) (zg.num*(zf.den:Int)) ((jc+2)+(jb+2))::FI (.agg #[.bool xE,.slice vH xh wo]) (zf.num*(zg.den:Int)) ((jb+2)+(jc+2))::Pa) w) ?_ ?_
 ·skip
  refine JC.draw HS [10,11] ah (fun zK HS => ?_);refine Da (.agg #[.bool lF,.slice kZ lD lg]) 0 3 rfl HS.fb rfl rfl asZ asW<|Da (.agg #[.bool JH,.slice Gv IZ Hl]) 1 0 rfl HS.fb rfl rfl asZ asW<|Da (.agg #[.bool OI,.slice Kr Nz LC]) 3 1 rfl HS.fb rfl rfl asZ asW<|Da (.agg #[.bool kT,.slice kG kN kJ]) 4 2 rfl HS.fb rfl rfl asZ asW<|JR.any [2,7,8] ah rfl<|?_
  repeat' first
   | refine JR.any [5,7,8] (by decide +kernel) rfl ?_
   | refine JR.any [7,8] (by decide +kernel) rfl ?_
   | refine J1 8 (by decide +kernel) ?_
   | refine J1 9 (by decide +kernel) ?_
   | refine J1 7 (by decide +kernel) ?_
   | refine JR.any [5,8] (by decide +kernel) rfl ?_
   | refine J1 5 (by decide +kernel) ?_
   | refine JR.any [5,7] (by decide +kernel) rfl ?_
   | refine JR.any [2,8] (by decide +kernel) rfl ?_
   | refine J1 2 (by decide +kernel) ?_
   | refine JR.any [2,7] (by decide +kernel) rfl ?_
   |
    refine bC.is 2<|bC.call rfl rfl rfl atp (qo HT HB HS (HS.at_ 2 rfl) (HS.at_ 1 rfl) af) rfl (fun aqx arB abX => ?_) ?_;obtain ⟨xE,vH,xh,wo,rfl,HS⟩:=abX;refine ⟨HS.fb,?_⟩
   |
    refine bC.is 5<|bC.call rfl rfl rfl atp (qo HT HB HS (HS.at_ 1 rfl) (HS.at_ 4 rfl) af) rfl (fun aqz arD abY => ?_) ?_;obtain ⟨xG,vI,xk,wu,rfl,HS⟩:=abY;refine ⟨HS.fb,?_⟩;refine Dv (.agg #[.bool xE,.slice vH xh wo,.bool xG,.slice vI xk wu]) 6 rfl HS.fb (fun a ha w=>bG.run_build (ha.dm rfl) as7 ati Jd rfl)<|?_
   |
    refine bC.is 7<|bC.load (.agg #[.bool kT,.slice kG kN kJ]) HS 2 rfl rfl rfl rfl asZ asW rfl rfl rfl ?_ ?_;refine ⟨HS.fb,?_⟩
   |
    refine bC.is 8<|bC.load (.agg #[.bool JH,.slice Gv IZ Hl]) HS 0 rfl rfl rfl rfl asZ asW rfl rfl rfl ?_ ?_;refine ⟨HS.fb,?_⟩
   |
    refine bC.is 9<|bC.call rfl rfl rfl atp (qo HT HB HS (HS.at_ 5 rfl) (HS.at_ 3 rfl) af) rfl (fun aqA arF abZ => ?_) ?_;obtain ⟨zD,xX,yV,yu,rfl,HS⟩:=abZ;refine ⟨HS.fb,?_⟩;refine J1 10 ah<|?_
   |
    refine bC.is 10<|bC.store HS rfl rfl rfl 5 rfl as8 rfl rfl rfl (vs':=[.bool xE,.slice vH xh wo,.bool xG,.slice vI xk wu]) rfl rfl rfl (fun arH HS => ?_) ?_;refine ⟨(jU (s:=10) rfl rfl),?_⟩;refine J1 11 ah<|?_
   |
    refine bC.is 11<|bC.store HS rfl rfl rfl 4 rfl asW rfl rfl rfl (vs':=[.bool zD,.slice xX yV yu]) rfl rfl rfl (fun arI HS => ?_) ?_;refine ⟨(jU (s:=10) rfl rfl),?_⟩;exact JR.mt (xE,vH,xh,wo,xG,vI,xk,wu,zD,xX,yV,yu) HS
   | exact bC.nil
 ·skip
  rintro ⟨xE,vH,xh,wo,xG,vI,xk,wu,zD,xX,yV,yu⟩ asG HS
  try dsimp only at HS ⊢
  refine Jb Tryz.results66 (.agg rfl ato as8 (HS.box _ aB) rfl rfl) (.agg rfl asZ asW (HS.box _ aA) rfl rfl)<|?_;exact ⟨_,_,_,_,_,_,_,_,_,_,_,_,rfl,HS.Xu 7 9 2 1 0 rfl rfl rfl (fun _ h=>h.as rfl af) rfl (fun _ h=>h.as rfl af) rfl (fun _ h=>h.as rfl af)⟩
end
end Go.Proofs.BGQ
