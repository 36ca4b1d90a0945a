/- Part of a proof, said shortly. -/
import Derived.Shelf.Small.Bits
import Derived.Shelf.Small.Wraps
import Derived.Shelf.Strconv.Itoa0
import Derived.Shelf.Strconv.Itoa1
import Derived.Shelf.LaysM
import Derived.Shelf.Strconv.Itoa2
import Derived.Shelf.Strings.Search1
import Derived.Shelf.Strings.Search2
import Derived.Shelf.Strings.Search3
import Derived.Shelf.Strings.Cut
import Derived.Shelf.Strings.Shaped
import Derived.Shelf.Strconv.AppendUint10
import Derived.Shelf.Strings.Prefix
import Derived.Test.YtkcpphebkmnonaaGreatDoorProg
import Derived.Lib.TrailingZeros
import Derived.Shelf.Spec.TrailingZeros
import Derived.Deep.RegionHeld3
import Derived.Deep.RegionWith
import Derived.WalkKit
import Derived.Below
import Derived.Laws.Cells
import Derived.OrdersHeld
import Derived.LoopN
import Derived.Test.YtkcpphebkmnonaaGreatDoorAlzb
import Derived.Test.YtkcpphebkmnonaaGreatDoorC2b
import Derived.Test.YtkcpphebkmnonaaGreatDoorC4b
import Derived.Test.YtkcpphebkmnonaaGreatDoorC1b
import Derived.Test.YtkcpphebkmnonaaGreatDoorC5b
import Derived.Test.YtkcpphebkmnonaaGreatDoorC3b
import Derived.Test.YtkcpphebkmnonaaGreatDoorC9b
import Derived.Test.YtkcpphebkmnonaaGreatDoorC8b
import Derived.Test.YtkcpphebkmnonaaGreatDoorC7b
import Derived.Test.YtkcpphebkmnonaaGreatDoorC6b
import Derived.Test.YtkcpphebkmnonaaGreatDoorC11b
import Derived.Test.YtkcpphebkmnonaaGreatDoorC12b
import Derived.Test.YtkcpphebkmnonaaGreatDoorC17b
import Derived.Test.YtkcpphebkmnonaaGreatDoorC16b
import Derived.Test.YtkcpphebkmnonaaGreatDoorC15b
import Derived.Test.YtkcpphebkmnonaaGreatDoorC13b
import Derived.Test.YtkcpphebkmnonaaGreatDoorC14b
import Derived.Test.YtkcpphebkmnonaaGreatDoorC18b
set_option linter.unusedVariables false
set_option linter.unusedSimpArgs false
namespace Go.Proofs
open Go.Shelf BGQ
def Tryz.lays122_ren:Go.Shelf.Ren:=⟨fun | 122=>124 | 215=>167 | n=>n,fun | 3=>3 | 4=>4 | n=>n,fun | n=>n⟩
theorem Tryz.lays122:Go.Proofs.Lays.n122 Tryz.prog Tryz.lays122_ren := {
 mixed:=ah
 f122:=Tryz.func124.trans (congrArg some ah)
 f215:=Tryz.func167.trans (congrArg some ah)
 t3:=auw
 a3:=auF
 z3:=auG
 v3:=auH
 t4:=aud
 a4:=atQ
 z4:=atT
 v4:=auI }
open Go.RowKit in
theorem Tryz.cmp_Compare_int(x y:Int)(w:World) :
  Calls Tryz.prog 124 #[.int .i64 x,.int .i64 y] w fun e w'=>e = .returned (.int .i64 (Lib.compareInt x y))/\w'=w:=Any.cmp_Compare_int Tryz.lays122 x y w
end Go.Proofs
namespace Lw
theorem ahp(a b:Rat)(g h:Nat)(hg:g=a.num.natAbs.gcd b.den)(hh:h=b.num.natAbs.gcd a.den) :
  (a*b).num=(a.num/(g:Int))*(b.num/(h:Int))/\(a*b).den=(a.den/h)*(b.den/g):=by
 show (Rat.mul a b).num=_/\(Rat.mul a b).den=_;unfold Rat.mul;subst hg hh;simp only [Int.divExact_eq_ediv,Nat.divExact_eq_div];exact ⟨trivial,trivial⟩
theorem aho{a:Rat}(h:a≠0):(a⁻¹).num=(if a.num<0 then -(a.den:Int) else a.den)/\(a⁻¹).den=a.num.natAbs:=by
 show (Rat.inv a).num=_/\(Rat.inv a).den=_;unfold Rat.inv;have h0:a.num≠0:=fun e=>h (awo.1 e)
 split
 ·exact ⟨rfl,rfl⟩
 ·split
  ·exact ⟨rfl,rfl⟩
  ·omega
end Lw
namespace Lw
theorem afE(a b:Rat){g h:Int}(hg:g=(Nat.gcd a.num.natAbs b.den:Nat))(hh:h=(Nat.gcd b.num.natAbs a.den:Nat)) :
  (a*b).num=(a.num/g)*(b.num/h)/\((a*b).den:Int)=((a.den:Int)/h)*((b.den:Int)/g)/\g≠0/\h≠0:=by
 have h1:=ahp a b _ _ rfl rfl;have p1:0<Nat.gcd a.num.natAbs b.den:=Nat.gcd_pos_of_pos_right _ b.den_pos;have p2:0<Nat.gcd b.num.natAbs a.den:=Nat.gcd_pos_of_pos_right _ a.den_pos;subst hg hh;refine ⟨h1.1,?_,af,af⟩;rw [h1.2,aws,awU,awU]
end Lw
namespace Lw
theorem abG(a b:Rat):eX a b=if a.num*b.den<b.num*a.den then -1 else if a.num*b.den=b.num*a.den then 0 else 1:=by
 rcases tri a b with h | h | h
 ·rw [Kv h,if_pos ((Rat.lt_iff a b).1 h)]
 ·subst h;rw [Rk,if_neg af,if_pos rfl]
 ·have h2:=(Rat.lt_iff b a).1 h
  rw [Ku h,if_neg af,if_neg af]
end Lw
namespace Lw
open Go Go.RowKit
theorem acf{x:Nat}(h0:4294967296<=x)(h:x<18446744073709551616):bn x=[x%4294967296,x/4294967296]:=by
 have:=KC (l:=[x%4294967296,x/4294967296]) (Eu af af) (by simp [dg];omega);rw [val_two] at this;grind
end Lw
namespace Go.Proofs.BGQ
open Go Go.RowKit Lw
theorem acR(w:World)(t:TypeId){a:Int}{x:Nat}(ha:a=x):bH (w.alloc (.cells #[.int .u32 a] t)) w.heap.size t [x]:=by
 subst ha;exact bH.new w t [x]
set_option maxRecDepth 100000 in
set_option maxHeartbeats 800000 in
theorem S9(x:Nat)(w:World)(_hx:x<=18446744073709551615)(h0:x≠0) :
  Calls Tryz.prog 134 #[.int .u64 x] w (pY w x):=by
 by_cases h1:x<4294967296
 ·have hd:=FB h0 h1
  have hb:=acR w 113 (a:=(x:Int)) (x:=x) rfl;have hm:(x:Int)%4294967296=(x:Int):=af;have hz:(x:Int)/4294967296=0:=af;have HD:=Lib.hid hd;clear hd
  go_enter Tryz.func134,Tryz.ntmps134
  go_wp2_with fail
  go_ret
  refine ⟨_,_,lF (by rw [HD.out];rfl),by rw [HD.out];exact avW _,?_,(Below.refl _ _).alloc (avW _) _⟩;rw [HD.out];exact hb.rd (by rw [jP];exact ⟨h1,jo⟩)
 ·have hd:=acf (x:=x) af af
  have hb:=J8 w 113 (a:=(x:Int)%4294967296) (b:=(x:Int)/4294967296) (x:=x%4294967296) (y:=x/4294967296) af af;have hz:((x:Int)/4294967296==0)=false:=by rw [beq_eq_false_iff_ne];omega
  have HD:=Lib.hid hd;clear hd
  go_enter Tryz.func134,Tryz.ntmps134
  go_wp2_with fail
  go_ret
  refine ⟨_,_,lF (by rw [HD.out];rfl),by rw [HD.out];exact avW _,?_,(Below.refl _ _).alloc (avW _) _⟩;rw [HD.out];exact hb.rd (Eu af af)
set_option maxRecDepth 100000 in
set_option maxHeartbeats 800000 in
theorem size_any(z:Int)(w:World)(h1 : -9223372036854775808<=z)(h2:z<=9223372036854775807) :
  Calls Tryz.prog 132 #[.int .i64 z] w fun e w'=>e = .returned (.int .u64 (z.natAbs:Int))/\w=w':=by
 by_cases h0:z<0
 ·obtain ⟨D,N,hD,hN,xA,hNl,hDl⟩:=Oy h1 h0
  have HN:=Lib.hid (show N=z.natAbs from af);clear xA
  go_enter Tryz.func132,Tryz.ntmps132
  go_wp2_with fail
  go_ret
  exact ⟨fD (by rw [<- HN.out]),rfl⟩
 ·obtain ⟨N,rfl⟩:=awK (show 0<=z from af)
  go_enter Tryz.func132,Tryz.ntmps132
  go_wp2_with fail
  go_ret
  exact ⟨rfl,rfl⟩
set_option maxRecDepth 100000 in
set_option maxHeartbeats 800000 in
theorem ae9(A:Option Addr)(ns:List Nat)(n c B:Nat)(w:World)(h:Rd w B A ns)(hn:ns.length=n)(hl:n<=16777216) :
  Calls Tryz.prog 169 #[.slice A n c] w fun e w' => ∃ b:Bool,e = .returned (.bool b)/\(b=true↔(n=0\/n=1/\dg ns 0<2147483648))/\w=w':=by
 have Hn:=Lib.hid hn;clear hn
 by_cases h0:n=0
 ·subst h0
  go_enter avD,avE
  go_wp2_with fail
  go_ret
  exact ⟨true,rfl,by simp,rfl⟩
 ·have hb0:((n:Int)==0)=false:=by rw [beq_eq_false_iff_ne];omega
  by_cases h1:n=1
  ·subst h1
   obtain ⟨b,off,rfl,hb,hcell,hlt⟩:=h.at_ (k:=0) (by rw [Hn.out];omega);rw [awx] at hcell
   by_cases h2:dg ns 0<2147483648
   ·have h3:decide ((dg ns 0:Int)<2147483648)=true:=decide_eq_true af
    go_enter avD,avE
    go_wp2_with fail
    go_ret
    exact ⟨true,rfl,⟨fun _ => .inr ⟨trivial,h2⟩,fun _=>rfl⟩,rfl⟩
   ·have h3:decide ((dg ns 0:Int)<2147483648)=false:=decide_eq_false af
    go_enter avD,avE
    go_wp2_with fail
    go_ret
    exact ⟨false,rfl,by simp;omega,rfl⟩
  ·have hb1:((n:Int)==1)=false:=by rw [beq_eq_false_iff_ne];omega
   go_enter avD,avE
   go_wp2_with fail
   go_ret
   exact ⟨false,rfl,by simp;omega,rfl⟩
end Go.Proofs.BGQ
namespace Lw
open Go Go.RowKit
def ZG(w:World)(q:Rat)(e:Ending)(w':World):Prop :=
 ∃ A c A' c',e = .returned (.agg #[.bool (rs q),.slice A (rn q).length c,.slice A' (rd q).length c'])/\(rn q).length<=c/\(rd q).length<=c'/\Rd w' w'.heap.size A (rn q)/\Rd w' w'.heap.size A' (rd q)/\Below w.heap.size w w'
def Ql(w:World)(N:Nat)(e:Ending)(w':World):Prop :=
 ∃ A n c,e = .returned (.slice A n c)/\Hid (n=(bn N).length/\n<=c/\Rd w' w'.heap.size A (bn N))/\Below w.heap.size w w'
end Lw
namespace Go.Proofs.BGQ
open Go Go.RowKit Lw
set_option maxRecDepth 100000 in
set_option maxHeartbeats 3200000 in
theorem WN(n d:Int)(w:World)(n1 : -9223372036854775808<=n)(n2:n<=9223372036854775807)(d1 : -9223372036854775808<=d)(d2:d<=9223372036854775807)(hd:d≠0)(ht:Tz w) :
  Calls Tryz.prog 86 #[.int .i64 n,.int .i64 d] w (ZG w (Rat.divInt n d)):=by
 by_cases h0:n=0
 ·subst h0
  have hz:Hid (Rat.divInt 0 d=0):=Lib.hid (axw d)
  go_enter Tryz.func86,Tryz.ntmps86
  go_wp2_with fail
  refine bodyPost_ret (v := .agg #[.bool false,.slice none 0 0,.slice none 0 0]) (by simp [results,Tryz.results86,go_sem]) rfl ?_;rw [hz.out];exact ⟨none,0,none,0,rfl,avW _,avW _,Rd.nil_ _ _ _,Rd.nil_ _ _ _,(Below.refl _ _).alloc (avW _) _⟩
 ·have hf:=Lib.hid (KJ h0 hd)
  have hb0:(n==0)=false:=by rw [beq_eq_false_iff_ne];exact h0
  have hs1:=fun W=>size_any n W n1 n2;have hs2:=fun W=>size_any d W d1 d2;obtain ⟨x,hx⟩ : ∃ x,x=n.natAbs:=⟨_,rfl⟩;obtain ⟨y,hy⟩ : ∃ y,y=d.natAbs:=⟨_,rfl⟩;rw [<- hx] at hs1 hf;rw [<- hy] at hs2 hf;have hx0:x≠0:=af;have hy0:y≠0:=af;have hxl:x<=9223372036854775808:=af;have hyl:y<=9223372036854775808:=af;have hdv:=fun W hW=>SH x y W af af hx0 hy0 hW;have xK:=Nat.gcd_pos_of_pos_left y (show 0<x from af);have hgx:=Nat.div_pos (Nat.le_of_dvd af (axc x y)) xK;have Lu:=Nat.div_pos (Nat.le_of_dvd af (axd x y)) xK;have Ls:=awl x (Nat.gcd x y);have LC:=awl y (Nat.gcd x y);obtain ⟨g,hg⟩ : ∃ g,g=Nat.gcd x y:=⟨_,rfl⟩;rw [<- hg] at hdv hf xK hgx Lu Ls LC;obtain ⟨X,hX⟩ : ∃ X,X=x/g:=⟨_,rfl⟩;obtain ⟨Y,hY⟩ : ∃ Y,Y=y/g:=⟨_,rfl⟩;have qx:(x:Int)/(g:Int)=(X:Int):=by rw [hX];exact (awU x g).symm
  have qy:(y:Int)/(g:Int)=(Y:Int):=by rw [hY];exact (awU y g).symm
  rw [<- hX] at hf hgx Ls;rw [<- hY] at hf Lu LC;have qx2:IntKind.u64.wrap ((x:Int)/(g:Int))=(X:Int):=by rw [qx];exact IntWalk.u64_in _ af
  have qy2:IntKind.u64.wrap ((y:Int)/(g:Int))=(Y:Int):=by rw [qy];exact IntWalk.u64_in _ af
  have qx3:IntKind.u64.wrap (X:Int)=(X:Int):=IntWalk.u64_in _ af;have qy3:IntKind.u64.wrap (Y:Int)=(Y:Int):=IntWalk.u64_in _ af;have qx4:(x:Int).tdiv (g:Int)=(X:Int):=by rw [Int.tdiv_eq_ediv_of_nonneg af];exact qx
  have qy4:(y:Int).tdiv (g:Int)=(Y:Int):=by rw [Int.tdiv_eq_ediv_of_nonneg af];exact qy
  have qx5:IntKind.u64.wrap ((x:Int).tdiv (g:Int))=(X:Int):=by rw [qx4];exact qx3
  have qy5:IntKind.u64.wrap ((y:Int).tdiv (g:Int))=(Y:Int):=by rw [qy4];exact qy3
  have hg1:¬ ((g:Int)=0):=af;have hg0:((g:Int)==0)=false:=by rw [beq_eq_false_iff_ne];omega
  have jS:=Lib.hid hs1;have HS2:=Lib.hid hs2;have yM:=Lib.hid hdv;have HT:=Lib.hid ht;have HX:=Lib.hid (show ∀ W,Calls Tryz.prog 134 #[.int .u64 X] W (Ql W X) from fun W=>(S9 X W af af).mono fun e w' ⟨A,c,he,hc,hr,hb⟩=>⟨A,_,c,he,Lib.hid ⟨rfl,hc,hr⟩,hb⟩);have HY:=Lib.hid (show ∀ W,Calls Tryz.prog 134 #[.int .u64 Y] W (Ql W Y) from fun W=>(S9 Y W af af).mono fun e w' ⟨A,c,he,hc,hr,hb⟩=>⟨A,_,c,he,Lib.hid ⟨rfl,hc,hr⟩,hb⟩);clear hs1 hs2 hdv hx hy hg hX hY hgx Lu Ls LC ht hx0 hy0
  go_enter Tryz.func86,Tryz.ntmps86
  have hb1:=(Below.refl w.heap.size w).alloc (avW _) (.cells #[.bool false,.slice none 0 0,.slice none 0 0] 24)
  go_wp2_with fail
  refine (jS.out _).mono ?_;rintro e w1 ⟨rfl,rfl⟩
  go_wp2_with fail
  refine (HS2.out _).mono ?_;rintro e w1 ⟨rfl,rfl⟩
  go_wp2_with fail
  refine (yM.out _ (HT.out.next hb1)).mono ?_;rintro e w1 ⟨rfl,q,rfl⟩;have hT:=(cZ.new w 24 (.bool false) (.slice none 0 0) (.slice none 0 0)).drewN q;have hW:=hb1.trans (below_drewN' w.heap.size _ q);clear hb1;generalize (w.alloc (.cells #[.bool false,.slice none 0 0,.slice none 0 0] 24)).drewN q=W0 at *
  go_wp2_with fail
  go_region_with
   (first
    | (go_at_call 134;refine ((fun (_:Below w.heap.size w W2)=>HY.out W2) hW2).mono ?_;rintro e w3 ⟨A2,m2,c2,rfl,hr2,hb2⟩;have hT:=hT.next hb2;have hW3:=bP hW2 hb2 (avW _);obtain ⟨e0,e1,e2,e3,e4,e5⟩:=hT.cells)
    | (go_at_call 134;refine (HX.out _).mono ?_;rintro e W2 ⟨A1,m1,c1,rfl,hr1,hb1⟩;have hT:=hT.drew.next hb1;have hW2:=bP hW.drew hb1 (avW _)))
  all_goals
   go_wp2_with fail
   refine bodyPost_ret (v := .agg #[.bool (!decide (n<0)==decide (d<0)),.slice A1 m1 c1,.slice A2 m2 c2]) (by simp [results,Tryz.results86,go_sem,e0,e1,e2]) rfl ?_;obtain ⟨rfl,hc1,hr1⟩:=hr1.out;obtain ⟨rfl,hc2,hr2⟩:=hr2.out;have hR1:=(hr1.next hb2 (avW _)).sO (D:=A1) (m:=(bn X).length) (d:=c1) hT (!decide (n<0)==decide (d<0)) (.slice A2 (bn Y).length c2);have hR2:=hr2.sO (D:=A1) (m:=(bn X).length) (d:=c1) hT (!decide (n<0)==decide (d<0)) (.slice A2 (bn Y).length c2);refine ⟨A1,c1,A2,c2,?_,?_,?_,?_,?_,((hW3.setCell (avW _) _).setCell (avW _) _).setCell (avW _) _⟩
   ·rw [hf.out.1,hf.out.2.1,hf.out.2.2];cases decide (n<0) <;> cases decide (d<0) <;> rfl
   ·rw [hf.out.2.1];exact hc1
   ·rw [hf.out.2.2];exact hc2
   ·rw [hf.out.2.1];exact hR1.more (by simpa using hb2.size)
   ·rw [hf.out.2.2];exact hR2.more (by simp)
end Go.Proofs.BGQ
namespace Lw
open Go Go.RowKit
section
variable {w:World}
theorem Rd.af1{B g:Nat}{t:TypeId}{a c:Int}{A:Option Addr}{ns:List Nat}(h:Rd w B A ns)(h2:Two w g t (.int .i64 a) (.int .i64 c)){b off:Nat}(hn:0<ns.length)(hA:A=some ⟨b,off,none⟩):b≠g:=by
 rintro rfl;obtain ⟨b',off',hA',hb,hc⟩:=h.2 hn;rw [hA] at hA'
 injection hA' with e
 injection e with e1 e2;subst e1 e2;have h0:=hc 0 hn;unfold Two at h2;rw [cell_of_row w b _ _ t (0,0) h2] at h0;grind
theorem Rd.NM{B g i:Nat}{t:TypeId}{a c:Int}{A:Option Addr}{ns:List Nat}(h:Rd w B A ns)(h2:Two w g t (.int .i64 a) (.int .i64 c))(u:Value):Rd (w.setCell ⟨g,i,none⟩ u) B A ns :=
 ⟨h.1,fun hn=>by
  obtain ⟨b,off,hA,hb,hc⟩:=h.2 hn;have hne:=h.af1 h2 hn hA;refine ⟨b,off,hA,hb,fun j hj => ?_⟩;rw [<- hc j hj];exact World.cell?_setCell_other w _ _ u (fun e=>hne (by injection e with e1;first | exact e1 | exact e1.symm))⟩
end
end Lw
namespace Go.Proofs.BGQ
open Go Go.RowKit Lw
section
variable {W0 w w':World} {bs:List Bx} {L L':List En} {ts:List Bt} {M M':List Qn}
theorem UU{g i:Nat}{t:TypeId}{a b:Int}{e:En}(h:dK w e)(h2:Two w g t (.int .i64 a) (.int .i64 b))(u:Value):dK (w.setCell ⟨g,i,none⟩ u) e:=by
 obtain ⟨s,A,n,c,ns,B,e1,h3,h4,h5⟩:=h;exact ⟨s,A,n,c,ns,B,e1,h3.NM h2 u,by simpa using h4,h5⟩
theorem UT{g i:Nat}{t:TypeId}{a b:Int}{e:Qn}(h:dB w e)(h2:Two w g t (.int .i64 a) (.int .i64 b))(u:Value):dB (w.setCell ⟨g,i,none⟩ u) e:=by
 obtain ⟨s,A,n,c,A',n',c',ns,ms,e1,r1,r2,e2⟩:=h;exact ⟨s,A,n,c,A',n',c',ns,ms,e1,(r1.NM h2 u).more (by simp),(r2.NM h2 u).more (by simp),e2⟩
theorem bu.Yg{g:Nat}{t:TypeId}{a b:Int}(h:bu W0 w bs L ts M)(h1:Two w g t (.int .i64 a) (.int .i64 b))(hg:W0.heap.size<=g)(x y:Int)(_hbs:bs=[]) :
  bu W0 ((w.setCell ⟨g,0,none⟩ (.int .i64 x)).setCell ⟨g,1,none⟩ (.int .i64 y)) [] L ts M:=by
 have k1:Two (w.setCell ⟨g,0,none⟩ (.int .i64 x)) g t (.int .i64 x) (.int .i64 b):=by
  unfold Two at h1 ⊢;simp [World.setCell,awQ,h1]
 exact ⟨⟨fun e he=>UU (UU (h.env.ops e he) h1 _) k1 _,fun _ hb=>by simp at hb,(h.below.setCell hg _).setCell hg _⟩,fun e he=>UT (UT (h.fr e he) h1 _) k1 _,
  fun b hb=>((h.tri b hb).far (p:=⟨g,0,none⟩) ((h.tri b hb).vO h1) _).far (p:=⟨g,1,none⟩) ((h.tri b hb).vO h1) _,h.tz,h.tab,fun _ hb=>by simp at hb,h.lot⟩
theorem aaF{g:Nat}{t:TypeId}{x y:Value}(hg:g=w.heap.size):Two (w.alloc (.cells #[x,y] t)) g t x y:=by subst hg;exact Two.new w t x y
theorem yR{g g':Nat}{t:TypeId}{x y:Value}(h:Two w g t x y)(hg:g≠g')(u v:Value):Two ((w.setCell ⟨g',0,none⟩ u).setCell ⟨g',1,none⟩ v) g t x y:=(h.far (p:=⟨g',0,none⟩) hg u).far (p:=⟨g',1,none⟩) hg v
theorem bu.join{bs':List Bx}{L':List En}{M':List Qn}(h:bu W0 w bs L ts M)(h':bu w w' bs' L' [] M'):bu W0 w' (bs'++bs) L' ts M' :=
 ⟨⟨h'.env.ops,fun b hb=>by
  rcases awE.1 hb with hb | hb
  ·exact h'.env.box b hb
  ·exact (h.env.next h'.below).box b hb,bP h.below h'.below (avW _)⟩,h'.fr,(h.next h'.below).tri,h.tz,h.tab,fun b hb=>by
  rcases awE.1 hb with hb | hb
  ·exact avX h.below.size (h'.lo b hb)
  ·exact h.lo b hb,h.lot⟩
end
end Go.Proofs.BGQ
namespace Lw
open Go Go.RowKit
theorem afz{x:Int} : mg x=[1]↔x.natAbs=1:=by unfold mg;exact RS
def pz(N:Nat):Bool:=decide (N<2147483648)
theorem acd{N:Nat} : ((bn N).length=0\/(bn N).length=1/\dg (bn N) 0<2147483648)↔N<2147483648:=by
 by_cases h0:N=0
 ·subst h0;simp [show bn 0=[] from rfl]
 ·by_cases h1:N<4294967296
  ·rw [FB h0 h1];simp [dg]
  ·constructor
   ·rintro (h | ⟨h,_⟩)
    ·exact absurd (jM.1 (awc h)) h0
    ·have:=fG (dY N)
     rw [bQ,h] at this;unfold pw at this;omega
   ·omega
def dn(q:Rat):Nat:=if q.num=0 then 0 else q.den
theorem ahu(q:Rat):rd q=bn (dn q):=by
 unfold rd dn;split
 ·rfl
 ·rfl
theorem acs{q:Rat} : dn q<2147483648->q.den<2147483648:=by
 unfold dn;split
 ·simp_all
 ·exact id
end Lw
namespace Go.Proofs.BGQ
open Go Go.RowKit Lw
section
variable {W0 w:World} {bs:List Bx} {L:List En} {ts:List Bt} {M:List Qn} {s s':Bool} {A A':Option Addr} {n c n' c' k k':Nat} {q:Rat} {x y:Int}
theorem xX(HE:bu W0 w bs L ts M)(h:⟨.agg #[.bool s,.slice A n c],x,k,true⟩∈L)(hk:k<=100000) :
  Calls Tryz.prog 93 #[.slice A n c] w fun e w'=>e = .returned (.bool (decide (x.natAbs=1)))/\bu W0 w' bs L ts M:=by
 obtain ⟨_,hn,hr,h1,h2⟩:=(HE.env.ops _ h).len;refine (zx A (mg x) n c _ w hr hn.symm af).mono fun e w' ⟨h3,h4⟩=>⟨?_,HE.next h4⟩;rw [h3]
 congr 2
 rw [decide_eq_decide];exact afz
set_option maxRecDepth 100000 in
set_option maxHeartbeats 1600000 in
theorem Ru(HE:bu W0 w bs L ts M)(h:⟨.agg #[.bool s,.slice A n c],x,k,true⟩∈L)(h':⟨.agg #[.bool s',.slice A' n' c'],y,k',true⟩∈L)(hk:k+k'<=100000) :
  Calls Tryz.prog 130 #[.agg #[.bool s,.slice A n c],.agg #[.bool s',.slice A' n' c']] w (gI W0 bs L ts M ((Nat.gcd x.natAbs y.natAbs:Nat):Int) (k+k'+2)):=by
 suffices hs:Calls Tryz.prog 130 #[.agg #[.bool s,.slice A n c],.agg #[.bool s',.slice A' n' c']] w (gI w [] L [] M ((Nat.gcd x.natAbs y.natAbs:Nat):Int) (k+k'+2)) from hs.mono fun _ _ hh=>gI.of HE hh
 have H1:=((HE.here.bT (.bool s) (.slice A n c)).bT (.bool s') (.slice A' n' c')).bT (.bool false) (.slice none 0 0);simp only [World.size_alloc] at H1
 by_cases hx:x.natAbs=1
 ·have HX:=Lib.hid (decide_eq_true hx)
  have HG:Hid (((Nat.gcd x.natAbs y.natAbs:Nat):Int)=1):=Lib.hid (by rw [hx,Nat.gcd_one_left];rfl);clear hx
  go_enter Tryz.func130,Tryz.ntmps130
  have HE:=H1;obtain ⟨q0,q1,q2,q3⟩:=HE.c2 ak;obtain ⟨q4,q5,q6,q7⟩:=HE.c2 au;obtain ⟨q8,q9,q10,q11⟩:=HE.c2 ay
  go_wp2_with fail
  refine (xX HE h af).mono ?_;rw [HX.out];rintro e w1 ⟨rfl,HE⟩;clear q0 q1 q2 q3 q4 q5 q6 q7 q8 q9 q10 q11;obtain ⟨q12,q13,fP,fQ⟩:=HE.c2 ak;obtain ⟨q16,fU,gJ,gK⟩:=HE.c2 au;obtain ⟨ig,iq,q22,q23⟩:=HE.c2 ay
  go_wp2_with fail
  refine (xW HE af af).mono ?_;rintro e w3 ⟨s1,D1,m1,d1,rfl,HE⟩;clear q12 q13 fP fQ q16 fU gJ gK ig iq q22 q23;obtain ⟨q24,iC,iH,iI⟩:=HE.c2 ak;obtain ⟨iU,iV,q30,iW⟩:=HE.c2 au;obtain ⟨q32,jc,jd,q35⟩:=HE.c2 ay
  go_wp2_with fail
  have HF:=HE.done2 ak s1 (.slice D1 m1 d1);refine bodyPost_ret (v := .agg #[.bool s1,.slice D1 m1 d1]) (by simp [results,Tryz.results130,go_sem,q24,iC]) rfl ?_;rw [HG.out];exact ⟨_,_,_,_,rfl,HF.tl.push ((HF.env.ops _ ak).weak af)⟩
 have HX:=Lib.hid (decide_eq_false hx);clear hx
 by_cases hy:y.natAbs=1
 ·have HY:=Lib.hid (decide_eq_true hy)
  have HG:Hid (((Nat.gcd x.natAbs y.natAbs:Nat):Int)=1):=Lib.hid (by rw [hy,Nat.gcd_one_right];rfl);clear hy
  go_enter Tryz.func130,Tryz.ntmps130
  have HE:=H1;obtain ⟨q0,q1,q2,q3⟩:=HE.c2 ak;obtain ⟨q4,q5,q6,q7⟩:=HE.c2 au;obtain ⟨q8,q9,q10,q11⟩:=HE.c2 ay
  go_wp2_with fail
  refine (xX HE h af).mono ?_;rw [HX.out];rintro e w1 ⟨rfl,HE⟩;clear q0 q1 q2 q3 q4 q5 q6 q7 q8 q9 q10 q11;obtain ⟨q12,q13,fP,fQ⟩:=HE.c2 ak;obtain ⟨q16,fU,gJ,gK⟩:=HE.c2 au;obtain ⟨ig,iq,q22,q23⟩:=HE.c2 ay
  go_wp2_with fail
  refine (xX HE h' af).mono ?_;rw [HY.out];rintro e w2 ⟨rfl,HE⟩;clear q12 q13 fP fQ q16 fU gJ gK ig iq q22 q23;obtain ⟨q24,iC,iH,iI⟩:=HE.c2 ak;obtain ⟨iU,iV,q30,iW⟩:=HE.c2 au;obtain ⟨q32,jc,jd,q35⟩:=HE.c2 ay
  go_wp2_with fail
  refine (xW HE af af).mono ?_;rintro e w3 ⟨s1,D1,m1,d1,rfl,HE⟩;clear q24 iC iH iI iU iV q30 iW q32 jc jd q35;obtain ⟨jX,q37,kL,kQ⟩:=HE.c2 ak;obtain ⟨kR,kS,lq,lC⟩:=HE.c2 au;obtain ⟨nJ,nK,nM,nN⟩:=HE.c2 ay
  go_wp2_with fail
  have HF:=HE.done2 ak s1 (.slice D1 m1 d1);refine bodyPost_ret (v := .agg #[.bool s1,.slice D1 m1 d1]) (by simp [results,Tryz.results130,go_sem,jX,q37]) rfl ?_;rw [HG.out];exact ⟨_,_,_,_,rfl,HF.tl.push ((HF.env.ops _ ak).weak af)⟩
 ·have HY:=Lib.hid (decide_eq_false hy)
  clear hy;obtain ⟨g,hg⟩ : ∃ g:Int,g=(Nat.gcd x.natAbs y.natAbs:Nat):=⟨_,rfl⟩;have HG:=Lib.hid hg;rw [<- hg];clear hg
  go_enter Tryz.func130,Tryz.ntmps130
  have HE:=H1;obtain ⟨q0,q1,q2,q3⟩:=HE.c2 ak;obtain ⟨q4,q5,q6,q7⟩:=HE.c2 au;obtain ⟨q8,q9,q10,q11⟩:=HE.c2 ay
  go_wp2_with fail
  refine (xX HE h af).mono ?_;rw [HX.out];rintro e w1 ⟨rfl,HE⟩;clear q0 q1 q2 q3 q4 q5 q6 q7 q8 q9 q10 q11;obtain ⟨q12,q13,fP,fQ⟩:=HE.c2 ak;obtain ⟨q16,fU,gJ,gK⟩:=HE.c2 au;obtain ⟨ig,iq,q22,q23⟩:=HE.c2 ay
  go_wp2_with fail
  refine (xX HE h' af).mono ?_;rw [HY.out];rintro e w2 ⟨rfl,HE⟩;clear q12 q13 fP fQ q16 fU gJ gK ig iq q22 q23;obtain ⟨q24,iC,iH,iI⟩:=HE.c2 ak;obtain ⟨iU,iV,q30,iW⟩:=HE.c2 au;obtain ⟨q32,jc,jd,q35⟩:=HE.c2 ay
  go_wp2_with fail
  refine (UQ HE h h' hk).mono ?_;rintro e w3 ⟨s1,D1,m1,d1,rfl,HE⟩;rw [<- HG.out] at HE;clear q24 iC iH iI iU iV q30 iW q32 jc jd q35;obtain ⟨jX,q37,kL,kQ⟩:=HE.c2 ak;obtain ⟨kR,kS,lq,lC⟩:=HE.c2 au;obtain ⟨nJ,nK,nM,nN⟩:=HE.c2 ay
  go_wp2_with fail
  have HF:=HE.done2 ak s1 (.slice D1 m1 d1);refine bodyPost_ret (v := .agg #[.bool s1,.slice D1 m1 d1]) (by simp [results,Tryz.results130,go_sem,jX,q37]) rfl ?_;exact ⟨_,_,_,_,rfl,HF.tl.push ((HF.env.ops _ ak).weak af)⟩
set_option maxRecDepth 100000 in
set_option maxHeartbeats 1600000 in
theorem Q8(HE:bu W0 w bs L ts M)(h:⟨.agg #[.bool s,.slice A n c],x,k,true⟩∈L)(h':⟨.agg #[.bool s',.slice A' n' c'],y,k',true⟩∈L)(hk:k+k'<=100000)(hy:0<y) :
  Calls Tryz.prog 131 #[.agg #[.bool s,.slice A n c],.agg #[.bool s',.slice A' n' c']] w (gI W0 bs L ts M (x/y) (k+1)):=by
 suffices hs:Calls Tryz.prog 131 #[.agg #[.bool s,.slice A n c],.agg #[.bool s',.slice A' n' c']] w (gI w [] L [] M (x/y) (k+1)) from hs.mono fun _ _ hh=>gI.of HE hh
 have H1:=((HE.here.bT (.bool s) (.slice A n c)).bT (.bool s') (.slice A' n' c')).bT (.bool false) (.slice none 0 0);simp only [World.size_alloc] at H1;have HN:=Lib.hid (show y≠0 from af)
 by_cases hx:y.natAbs=1
 ·have HX:=Lib.hid (decide_eq_true hx)
  have HG:Hid (x/y=x):=Lib.hid (by rw [show y=1 from af,Int.ediv_one]);clear hx hy
  go_enter Tryz.func131,Tryz.ntmps131
  have HE:=H1;obtain ⟨q0,q1,q2,q3⟩:=HE.c2 ak;obtain ⟨q4,q5,q6,q7⟩:=HE.c2 au;obtain ⟨q8,q9,q10,q11⟩:=HE.c2 ay
  go_wp2_with fail
  refine (xX HE h' af).mono ?_;rw [HX.out];rintro e w1 ⟨rfl,HE⟩;clear q0 q1 q2 q3 q4 q5 q6 q7 q8 q9 q10 q11;obtain ⟨q12,q13,fP,fQ⟩:=HE.c2 ak;obtain ⟨q16,fU,gJ,gK⟩:=HE.c2 au;obtain ⟨ig,iq,q22,q23⟩:=HE.c2 ay
  go_wp2_with fail
  have HF:=HE.done2 ak s (.slice A n c);refine bodyPost_ret (v := .agg #[.bool s,.slice A n c]) (by simp [results,Tryz.results131,go_sem,q12,q13]) rfl ?_;rw [HG.out];exact ⟨_,_,_,_,rfl,HF.push ((HF.env.ops _ h).weak af)⟩
 ·have HX:=Lib.hid (decide_eq_false hx)
  clear hx hy
  go_enter Tryz.func131,Tryz.ntmps131
  have HE:=H1;obtain ⟨q0,q1,q2,q3⟩:=HE.c2 ak;obtain ⟨q4,q5,q6,q7⟩:=HE.c2 au;obtain ⟨q8,q9,q10,q11⟩:=HE.c2 ay
  go_wp2_with fail
  refine (xX HE h' af).mono ?_;rw [HX.out];rintro e w1 ⟨rfl,HE⟩;clear q0 q1 q2 q3 q4 q5 q6 q7 q8 q9 q10 q11;obtain ⟨q12,q13,fP,fQ⟩:=HE.c2 ak;obtain ⟨q16,fU,gJ,gK⟩:=HE.c2 au;obtain ⟨ig,iq,q22,q23⟩:=HE.c2 ay
  go_wp2_with fail
  refine (SL HE h h' hk HN.out).mono ?_;rintro e w3 ⟨s1,D1,m1,d1,rfl,HE⟩;clear q12 q13 fP fQ q16 fU gJ gK ig iq q22 q23;obtain ⟨q24,iC,iH,iI⟩:=HE.c2 ak;obtain ⟨iU,iV,q30,iW⟩:=HE.c2 au;obtain ⟨q32,jc,jd,q35⟩:=HE.c2 ay
  go_wp2_with fail
  have HF:=HE.done2 ak s1 (.slice D1 m1 d1);refine bodyPost_ret (v := .agg #[.bool s1,.slice D1 m1 d1]) (by simp [results,Tryz.results131,go_sem,q24,iC]) rfl ?_;exact ⟨_,_,_,_,rfl,HF⟩
end
end Go.Proofs.BGQ
namespace Lw
open Go Go.RowKit
theorem RQ{N:Nat}(h0:N≠0)(h:N<4294967296):(bn N).length=1/\dg (bn N) 0=N:=by
 rw [FB h0 h];exact ⟨rfl,rfl⟩
def kU(q:Rat):Bool:=pz q.num.natAbs&&pz (dn q)
theorem zZ{q:Rat}(h:kU q=true):q.num.natAbs<2147483648/\q.den<2147483648:=by
 have h1:pz q.num.natAbs=true/\pz (dn q)=true:=by simpa [kU] using h
 unfold pz at h1;exact ⟨of_decide_eq_true h1.1,acs (of_decide_eq_true h1.2)⟩
end Lw
namespace Go.Proofs.BGQ
open Go Go.RowKit Lw
section
variable {W0 w:World} {bs:List Bx} {L:List En} {ts:List Bt} {M:List Qn} {s s':Bool} {A A' B B':Option Addr} {n c n' c' m d m' d' k k':Nat} {q r:Rat} {x y:Int}
set_option maxRecDepth 100000 in
set_option maxHeartbeats 1600000 in
theorem Yl(HE:bu W0 w bs L ts M)(h:⟨.agg #[.bool s,.slice A n c,.slice A' n' c'],q,k,true⟩∈M)(h1:q.num.natAbs<2147483648)(h2:q.den<2147483648) :
  Calls Tryz.prog 170 #[.agg #[.bool s,.slice A n c,.slice A' n' c']] w fun e w'=>e = .returned (.agg #[.int .i64 q.num,.int .i64 (q.den:Int)])/\bu W0 w' bs L ts M:=by
 suffices hs:Calls Tryz.prog 170 #[.agg #[.bool s,.slice A n c,.slice A' n' c']] w (fun e w'=>e = .returned (.agg #[.int .i64 q.num,.int .i64 (q.den:Int)])/\bu w w' [] L [] M) from hs.mono fun _ _ hh=>⟨hh.1,HE.back hh.2⟩
 have H1:=(HE.here.dm (.bool s) (.slice A n c) (.slice A' n' c')).alloc (.cells #[.int .i64 0,.int .i64 0] 131);obtain ⟨hs,hn,hn',r1,r2,-⟩:=(H1.fr _ h).own
 by_cases hq:q=0
 ·obtain rfl:=(o7 hn).2 hq
  obtain ⟨e0,e1,e2,e3,e4,e5⟩:=H1.c3 ak;have HQ:=Lib.hid (show q.num=0/\q.den=1 by subst hq;exact ⟨rfl,rfl⟩);clear hs hn hn' r1 r2 hq h1 h2;have H2:=(HE.here.dm (.bool s) (.slice A 0 c) (.slice A' n' c')).alloc (.cells #[.int .i64 0,.int .i64 1] 131)
  go_enter Tryz.func170,Tryz.ntmps170
  go_wp2_with fail
  refine bodyPost_ret (v := .agg #[.int .i64 0,.int .i64 1]) (by simp [results,Tryz.results170,go_sem]) rfl ?_;rw [HQ.out.1,HQ.out.2];exact ⟨rfl,H2.bare⟩
 ·have hN0:q.num.natAbs≠0:=fun e=>hq (awo.1 (axE.1 e))
  rw [DZ hq] at hn' r2;unfold rn at hn r1;obtain ⟨l1,g1⟩:=RQ hN0 af;obtain ⟨l2,g2⟩:=RQ q.den_nz af;rw [l1] at hn;rw [l2] at hn';obtain ⟨b,off,rfl,-,hcell,-⟩:=r1.at_ (k:=0) af;obtain ⟨b',off',rfl,-,hcell',-⟩:=r2.at_ (k:=0) af;rw [g1,awx] at hcell;rw [g2,awx] at hcell';subst hn hn';obtain ⟨N,hN⟩ : ∃ N,N=q.num.natAbs:=⟨_,rfl⟩;obtain ⟨D,hD⟩ : ∃ D,D=q.den:=⟨_,rfl⟩;rw [<- hN] at hcell h1;rw [<- hD] at hcell' h2;have u1:IntKind.i64.wrap (N:Int)=(N:Int):=pG af af;have u2:IntKind.i64.wrap (D:Int)=(D:Int):=pG af af;have u3:IntKind.i64.wrap (-(N:Int)) = -(N:Int):=pG af af;obtain ⟨e0,e1,e2,e3,e4,e5⟩:=H1.c3 ak
  by_cases hneg:q.num<0
  ·have HQ:=Lib.hid (show -(N:Int)=q.num/\(D:Int)=(q.den:Int) from ⟨af,af⟩)
   obtain rfl:s=true:=by rw [hs];exact decide_eq_true hneg
   have H2:=(HE.here.dm (.bool true) (.slice (some ⟨b,off,none⟩) 1 c) (.slice (some ⟨b',off',none⟩) 1 c')).alloc (.cells #[.int .i64 (-(N:Int)),aj D] 131);clear hs r1 r2 hq hN0 l1 g1 l2 g2 hN hD hneg
   go_enter Tryz.func170,Tryz.ntmps170
   go_wp2_with fail
   go_region
   go_wp2_with fail
   refine bodyPost_ret (v := .agg #[.int .i64 (-(N:Int)),aj D]) (by simp [results,Tryz.results170,go_sem]) rfl ?_;rw [<- HQ.out.1,<- HQ.out.2];exact ⟨rfl,H2.drew.bare⟩
  ·have HQ:=Lib.hid (show (N:Int)=q.num/\(D:Int)=(q.den:Int) from ⟨af,af⟩)
   obtain rfl:s=false:=by rw [hs];exact decide_eq_false hneg
   have H2:=(HE.here.dm (.bool false) (.slice (some ⟨b,off,none⟩) 1 c) (.slice (some ⟨b',off',none⟩) 1 c')).alloc (.cells #[aj N,aj D] 131);clear hs r1 r2 hq hN0 l1 g1 l2 g2 hN hD hneg
   go_enter Tryz.func170,Tryz.ntmps170
   go_wp2_with fail
   go_region
   go_wp2_with fail
   refine bodyPost_ret (v := .agg #[aj N,aj D]) (by simp [results,Tryz.results170,go_sem]) rfl ?_;rw [<- HQ.out.1,<- HQ.out.2];exact ⟨rfl,H2.drew.bare⟩
theorem Gl{N B:Nat}(hr:Rd w B A (bn N))(hn:n=(bn N).length)(hk:n<=100000) :
  Calls Tryz.prog 169 #[.slice A n c] w fun e w'=>e = .returned (.bool (pz N))/\w=w':=by
 refine (ae9 A (bn N) n c _ w hr hn.symm af).mono fun e w' ⟨b,h1,h2,h3⟩ => ?_;refine ⟨?_,h3⟩;rw [h1]
 congr 2
 rw [Bool.eq_iff_iff,h2,hn,acd];unfold pz;rw [decide_eq_true_iff]
def Ik(b:Bool)(q r:Rat):Value:=if b then .tuple #[.agg #[.int .i64 q.num,.int .i64 (q.den:Int)],.agg #[.int .i64 r.num,.int .i64 (r.den:Int)],.bool true] else .tuple #[.agg #[.int .i64 0,.int .i64 0],.agg #[.int .i64 0,.int .i64 0],.bool false]
theorem Yi(q r:Rat):Ik true q r = .tuple #[.agg #[.int .i64 q.num,.int .i64 (q.den:Int)],.agg #[.int .i64 r.num,.int .i64 (r.den:Int)],.bool true]:=rfl
theorem Yh(q r:Rat):Ik false q r = .tuple #[.agg #[.int .i64 0,.int .i64 0],.agg #[.int .i64 0,.int .i64 0],.bool false]:=rfl
set_option maxRecDepth 100000 in
set_option maxHeartbeats 2400000 in
theorem Il(HE:bu W0 w bs L ts M)(h:⟨.agg #[.bool s,.slice A n c,.slice A' n' c'],q,k,true⟩∈M)(h':⟨.agg #[.bool s',.slice B m d,.slice B' m' d'],r,k',true⟩∈M)(hk:k+k'<=100000) :
  Calls Tryz.prog 129 #[.agg #[.bool s,.slice A n c,.slice A' n' c'],.agg #[.bool s',.slice B m d,.slice B' m' d']] w fun e w'=>e = .returned (Ik (kU q&&kU r) q r)/\bu W0 w' bs L ts M:=by
 suffices hs:Calls Tryz.prog 129 #[.agg #[.bool s,.slice A n c,.slice A' n' c'],.agg #[.bool s',.slice B m d,.slice B' m' d']] w (fun e w'=>e = .returned (Ik (kU q&&kU r) q r)/\bu w w' [] L [] M) from hs.mono fun _ _ hh=>⟨hh.1,HE.back hh.2⟩
 have H1:=(((HE.here.dm (.bool s) (.slice A n c) (.slice A' n' c')).dm (.bool s') (.slice B m d) (.slice B' m' d')).alloc (.cells #[.int .i64 0,.int .i64 0] 131)).alloc (.cells #[.int .i64 0,.int .i64 0] 131);have TA:=(Two.new ((w.alloc (.cells #[.bool s,.slice A n c,.slice A' n' c'] 24)).alloc (.cells #[.bool s',.slice B m d,.slice B' m' d'] 24)) 131 (.int .i64 0) (.int .i64 0)).alloc (.cells #[.int .i64 0,.int .i64 0] 131);have TB:=Two.new (((w.alloc (.cells #[.bool s,.slice A n c,.slice A' n' c'] 24)).alloc (.cells #[.bool s',.slice B m d,.slice B' m' d'] 24)).alloc (.cells #[.int .i64 0,.int .i64 0] 131)) 131 (.int .i64 0) (.int .i64 0);simp only [World.size_alloc] at H1 TA TB;obtain ⟨-,hn,hn',r1,r2,hl1,hl2,-⟩:=(H1.fr _ h).own;obtain ⟨-,hm,hm',r3,r4,hl3,hl4,-⟩:=(H1.fr _ h').own;rw [ahu] at hn' r2 hm' r4;unfold rn at hn r1 hm r3;have c1:=Lib.hid (Gl (c:=c) r1 hn af);have c2:=Lib.hid (Gl (c:=c') r2 hn' af);have c3:=Lib.hid (Gl (c:=d) r3 hm af);have c4:=Lib.hid (Gl (c:=d') r4 hm' af);have hq1:kU q=true->q.num.natAbs<2147483648/\q.den<2147483648:=zZ;have hq2:kU r=true->r.num.natAbs<2147483648/\r.den<2147483648:=zZ;obtain ⟨e0,e1,e2,e3,e4,e5⟩:=H1.c3 au;obtain ⟨f0,f1,f2,f3,f4,f5⟩:=H1.c3 ak;unfold kU at hq1 hq2 ⊢;generalize pz q.num.natAbs=b1 at *;generalize pz (dn q)=b2 at *;generalize pz r.num.natAbs=b3 at *;generalize pz (dn r)=b4 at *;have Qb:=Lib.hid hq1;have Qc:=Lib.hid hq2;clear hn hn' hm hm' r1 r2 r3 r4 hl1 hl2 hl3 hl4 hq1 hq2
 cases b1
 ·go_enter avj,avk
  go_wp2_with fail
  refine c1.out.mono ?_;rintro e w1 ⟨rfl,rfl⟩
  go_wp2_with fail
  refine bodyPost_ret (v := .tuple #[.agg #[.int .i64 0,.int .i64 0],.agg #[.int .i64 0,.int .i64 0],.bool false]) (by simp [results,Tryz.results129,go_sem]) rfl ?_;exact ⟨rfl,H1.bare⟩
 cases b2
 ·go_enter avj,avk
  go_wp2_with fail
  refine c1.out.mono ?_;rintro e w1 ⟨rfl,rfl⟩
  go_wp2_with fail
  refine c2.out.mono ?_;rintro e w1 ⟨rfl,rfl⟩
  go_wp2_with fail
  refine bodyPost_ret (v := .tuple #[.agg #[.int .i64 0,.int .i64 0],.agg #[.int .i64 0,.int .i64 0],.bool false]) (by simp [results,Tryz.results129,go_sem]) rfl ?_;exact ⟨rfl,H1.bare⟩
 cases b3
 ·go_enter avj,avk
  go_wp2_with fail
  refine c1.out.mono ?_;rintro e w1 ⟨rfl,rfl⟩
  go_wp2_with fail
  refine c2.out.mono ?_;rintro e w1 ⟨rfl,rfl⟩
  go_wp2_with fail
  refine c3.out.mono ?_;rintro e w1 ⟨rfl,rfl⟩
  go_wp2_with fail
  refine bodyPost_ret (v := .tuple #[.agg #[.int .i64 0,.int .i64 0],.agg #[.int .i64 0,.int .i64 0],.bool false]) (by simp [results,Tryz.results129,go_sem]) rfl ?_;exact ⟨rfl,H1.bare⟩
 cases b4
 ·go_enter avj,avk
  go_wp2_with fail
  refine c1.out.mono ?_;rintro e w1 ⟨rfl,rfl⟩
  go_wp2_with fail
  refine c2.out.mono ?_;rintro e w1 ⟨rfl,rfl⟩
  go_wp2_with fail
  refine c3.out.mono ?_;rintro e w1 ⟨rfl,rfl⟩
  go_wp2_with fail
  refine c4.out.mono ?_;rintro e w1 ⟨rfl,rfl⟩
  go_wp2_with fail
  refine bodyPost_ret (v := .tuple #[.agg #[.int .i64 0,.int .i64 0],.agg #[.int .i64 0,.int .i64 0],.bool false]) (by simp [results,Tryz.results129,go_sem]) rfl ?_;exact ⟨rfl,H1.bare⟩
 go_enter avj,avk
 go_wp2_with fail
 refine c1.out.mono ?_;rintro e w1 ⟨rfl,rfl⟩
 go_wp2_with fail
 refine c2.out.mono ?_;rintro e w1 ⟨rfl,rfl⟩
 go_wp2_with fail
 refine c3.out.mono ?_;rintro e w1 ⟨rfl,rfl⟩
 go_wp2_with fail
 refine c4.out.mono ?_;rintro e w1 ⟨rfl,rfl⟩
 go_wp2_with fail
 have HE:=H1
 go_region_held3 (fun w'=>w'.cell? ⟨w.heap.size,0,none⟩=some (.bool s)/\w'.cell? ⟨w.heap.size,1,none⟩=some (.slice A n c)/\w'.cell? ⟨w.heap.size,2,none⟩=some (.slice A' n' c')/\w'.cell? ⟨w.heap.size+1,0,none⟩=some (.bool s')/\w'.cell? ⟨w.heap.size+1,1,none⟩=some (.slice B m d)/\w'.cell? ⟨w.heap.size+1,2,none⟩=some (.slice B' m' d')) (with_reducible first | exact bu.t2 HE | exact bu.t2 HE.drew | exact bu.t2 HK | exact bu.t2 P6)
  (first
   | (go_at_call 170;have _:=wY;refine (Yl (bu.here (by with_reducible first | exact HE | exact HE.drew)) h' (Qc.out rfl).1 (Qc.out rfl).2).mono ?_;rintro e wm ⟨rfl,yN⟩;replace TA:=TA.next yN.below;replace TB:=TB.next yN.below;have HE:=bu.back (by with_reducible first | exact HE | exact HE.drew) yN;obtain ⟨a0,a1,a2,a3⟩:=TA.facts;obtain ⟨b0,b1,b2,b3⟩:=TB.facts;have P6:=HE.Yg TA af q.num (q.den:Int) rfl;have HK:=P6.Yg ((TB.far (p:=⟨w.heap.size+1+1,0,none⟩) (by simp) _).far (p:=⟨w.heap.size+1+1,1,none⟩) (by simp) _) af r.num (r.den:Int) rfl)
   | (go_at_call 170;refine (Yl (bu.here (by with_reducible first | exact HE | exact HE.drew)) h (Qb.out rfl).1 (Qb.out rfl).2).mono ?_;rintro e wn ⟨rfl,wY⟩;replace TA:=TA.next (sH wY.below);replace TB:=TB.next (sH wY.below);have HE:=bu.back (by with_reducible first | exact HE | exact HE.drew) wY))
 have TA1:=((TA.put (.int .i64 q.num) (.int .i64 (q.den:Int))).far (p:=⟨w.heap.size+1+1+1,0,none⟩) (by simp) (.int .i64 r.num)).far (p:=⟨w.heap.size+1+1+1,1,none⟩) (by simp) (.int .i64 (r.den:Int));have TB1:=((TB.far (p:=⟨w.heap.size+1+1,0,none⟩) (by simp) (.int .i64 q.num)).far (p:=⟨w.heap.size+1+1,1,none⟩) (by simp) (.int .i64 (q.den:Int))).put (.int .i64 r.num) (.int .i64 (r.den:Int))
 go_wp2_with fail
 obtain ⟨x0,x1,-,-⟩:=TA1.facts;obtain ⟨y0,y1,-,-⟩:=TB1.facts;refine bodyPost_ret (v := .tuple #[.agg #[.int .i64 q.num,.int .i64 (q.den:Int)],.agg #[.int .i64 r.num,.int .i64 (r.den:Int)],.bool true]) (by simp [results,Tryz.results129,go_sem,x0,x1,y0,y1]) rfl ?_;exact ⟨rfl,HK.bare⟩
end
end Go.Proofs.BGQ
namespace Lw
open Go
theorem Gx{a b:Int}(h1:a.natAbs<2147483648)(h2:b.natAbs<2147483648):(a*b).natAbs<=4611686014132420609:=by
 rw [awC];exact awy (show a.natAbs<=2147483647 from af) (show b.natAbs<=2147483647 from af)
theorem Rj(a b:Rat):eX a b=dX (a.num*b.den) (b.num*a.den):=abG a b
theorem abz(a b:Int):Lib.compareInt a b=dX a b:=by
 unfold Lib.compareInt dX
 split <;> (try split) <;> (try split) <;> omega
end Lw
namespace Go.Proofs.BGQ
open Go Go.RowKit Lw
section
variable {W0 w:World} {bs:List Bx} {L:List En} {ts:List Bt} {M:List Qn} {s s':Bool} {A A' B B':Option Addr} {n c n' c' m d m' d' k k':Nat} {q r:Rat} {x y:Int}
set_option maxRecDepth 100000 in
set_option maxHeartbeats 4000000 in
theorem abN(HE:bu W0 w bs L ts M)(h:⟨.agg #[.bool s,.slice A n c,.slice A' n' c'],q,k,true⟩∈M)(h':⟨.agg #[.bool s',.slice B m d,.slice B' m' d'],r,k',true⟩∈M)(hk:k+k'<=8000) :
  Calls Tryz.prog 85 #[.agg #[.bool s,.slice A n c,.slice A' n' c'],.agg #[.bool s',.slice B m d,.slice B' m' d']] w (fun e w'=>e = .returned (.int .i64 (eX q r))/\bu W0 w' bs L ts M):=by
 suffices hs:Calls Tryz.prog 85 #[.agg #[.bool s,.slice A n c,.slice A' n' c'],.agg #[.bool s',.slice B m d,.slice B' m' d']] w (fun e w'=>e = .returned (.int .i64 (eX q r))/\bu w w' [] L [] M) from hs.mono fun _ _ hh=>⟨hh.1,HE.back hh.2⟩
 have H1:=(HE.here.dm (.bool s) (.slice A n c) (.slice A' n' c')).dm (.bool s') (.slice B m d) (.slice B' m' d');simp only [World.size_alloc] at H1
 by_cases hb:(kU q&&kU r)=true
 ·have hb2:kU q=true/\kU r=true:=by simpa using hb
  obtain ⟨z1,z2⟩:=zZ hb2.1;obtain ⟨z3,z4⟩:=zZ hb2.2;have HB:=Lib.hid hb;have p1:=Gx (a:=q.num) (b:=(r.den:Int)) z1 af;have p2:=Gx (a:=r.num) (b:=(q.den:Int)) z3 af;have y1:IntKind.i64.wrap (q.num*(r.den:Int))=q.num*(r.den:Int):=pG af af;have y2:IntKind.i64.wrap (r.num*(q.den:Int))=r.num*(q.den:Int):=pG af af;clear p1 p2;clear hb hb2 z1 z2 z3 z4
  go_enter Tryz.func85,Tryz.ntmps85
  have HE:=H1;clear H1;obtain ⟨q0,q1,q2,q3,q4,q5⟩:=HE.c3 ak;obtain ⟨q6,q7,q8,q9,q10,q11⟩:=HE.c3 au
  go_wp2_with fail
  refine (Il HE h h' af).mono ?_;clear HE;rw [HB.out,Yi];rintro e w1 ⟨rfl,HE⟩;clear q0 q1 q2 q3 q4 q5 q6 q7 q8 q9 q10 q11;have TA:=(Two.new w1 131 (.int .i64 q.num) (.int .i64 (q.den:Int))).alloc (.cells #[.int .i64 r.num,.int .i64 (r.den:Int)] 131);have TB:=Two.new (w1.alloc (.cells #[.int .i64 q.num,.int .i64 (q.den:Int)] 131)) 131 (.int .i64 r.num) (.int .i64 (r.den:Int));replace HE:=(HE.alloc (.cells #[.int .i64 q.num,.int .i64 (q.den:Int)] 131)).alloc (.cells #[.int .i64 r.num,.int .i64 (r.den:Int)] 131);simp only [World.size_alloc] at TA TB;obtain ⟨u0,u1,u2,u3⟩:=TA.facts;obtain ⟨v0,v1,v2,v3⟩:=TB.facts;obtain ⟨q12,q13,fP,fQ,q16,fU⟩:=HE.c3 ak;obtain ⟨gJ,gK,ig,iq,q22,q23⟩:=HE.c3 au
  go_wp2_with fail
  refine (Tryz.cmp_Compare_int _ _ _).mono ?_;rintro e w2 ⟨rfl,rfl⟩
  go_wp2_with fail
  go_ret
  exact ⟨fD (by rw [abz,Rj]),HE.bare⟩
 ·have HB:=Lib.hid (Bool.eq_false_iff.2 hb)
  clear hb
  go_enter Tryz.func85,Tryz.ntmps85
  have HE:=H1;clear H1;obtain ⟨q0,q1,q2,q3,q4,q5⟩:=HE.c3 ak;obtain ⟨q6,q7,q8,q9,q10,q11⟩:=HE.c3 au
  go_wp2_with fail
  refine (Il HE h h' af).mono ?_;clear HE;rw [HB.out,Yh];rintro e w1 ⟨rfl,HE⟩;clear q0 q1 q2 q3 q4 q5 q6 q7 q8 q9 q10 q11;have TA:=(Two.new w1 131 (.int .i64 0) (.int .i64 0)).alloc (.cells #[.int .i64 0,.int .i64 0] 131);have TB:=Two.new (w1.alloc (.cells #[.int .i64 0,.int .i64 0] 131)) 131 (.int .i64 0) (.int .i64 0);replace HE:=(HE.alloc (.cells #[.int .i64 0,.int .i64 0] 131)).alloc (.cells #[.int .i64 0,.int .i64 0] 131);simp only [World.size_alloc] at TA TB;clear TA TB;obtain ⟨q12,q13,fP,fQ,q16,fU⟩:=HE.c3 ak;obtain ⟨gJ,gK,ig,iq,q22,q23⟩:=HE.c3 au
  go_wp2_with fail
  refine (DJ HE h).mono ?_;clear HE;rintro e w2 ⟨s1,D1,m1,d1,s2,D2,m2,d2,rfl,HE⟩;have ZV:=Lib.hid HE.below.size;clear q12 q13 fP fQ q16 fU gJ gK ig iq q22 q23;replace HE:=(HE.bT (.bool s1) (.slice D1 m1 d1)).bT (.bool s2) (.slice D2 m2 d2);simp only [World.size_alloc] at HE;obtain ⟨q24,iC,iH,iI⟩:=HE.c2 ak;obtain ⟨iU,iV,q30,iW⟩:=HE.c2 au;obtain ⟨q32,jc,jd,q35,jX,q37⟩:=HE.c3 ak;obtain ⟨kL,kQ,kR,kS,lq,lC⟩:=HE.c3 au
  go_wp2_with fail
  refine (DJ HE h').mono ?_;clear HE;rintro e w3 ⟨s3,D3,m3,d3,s4,D4,m4,d4,rfl,HE⟩;have ZR:=Lib.hid (HE.vI ak);clear q24 iC iH iI iU iV q30 iW q32 jc jd q35 jX q37 kL kQ kR kS lq lC;replace HE:=(HE.bT (.bool s3) (.slice D3 m3 d3)).bT (.bool s4) (.slice D4 m4 d4);simp only [World.size_alloc] at HE;obtain ⟨nJ,nK,nM,nN⟩:=HE.c2 ak;obtain ⟨qC,qE,qF,qG⟩:=HE.c2 au;obtain ⟨qH,qI,sQ,sS⟩:=HE.c2 ay;obtain ⟨sU,sV,sW,sZ⟩:=HE.c2 az;obtain ⟨tq,tH,tJ,tK,tV,tX⟩:=HE.c3 ak;obtain ⟨tY,tZ,uf,ug,uh,uj⟩:=HE.c3 au
  go_wp2_with fail
  go_region_held3 (fun w'=>w'.cell? ⟨w2.heap.size,0,none⟩=some (.bool s1)/\w'.cell? ⟨w2.heap.size,1,none⟩=some (.slice D1 m1 d1)/\w'.cell? ⟨w2.heap.size+1,0,none⟩=some (.bool s2)/\w'.cell? ⟨w2.heap.size+1,1,none⟩=some (.slice D2 m2 d2)/\w'.cell? ⟨w3.heap.size,0,none⟩=some (.bool s3)/\w'.cell? ⟨w3.heap.size,1,none⟩=some (.slice D3 m3 d3)/\w'.cell? ⟨w3.heap.size+1,0,none⟩=some (.bool s4)/\w'.cell? ⟨w3.heap.size+1,1,none⟩=some (.slice D4 m4 d4)) (with_reducible first | exact bu.c4 HE | exact bu.c4 HE.drew)
   (first
    | (go_at_call 67;have _:=HM;refine (UO (by with_reducible first | exact HE | exact HE.drew) (by repeat (first | exact aZ | assumption | refine .tail _ ?_)) (by repeat (first | exact aZ | assumption | refine .tail _ ?_)) af).mono ?_;rintro e wn ⟨rfl,HE⟩)
    | (go_at_call 69;refine (xR (by with_reducible first | exact HE | exact HE.drew) (by repeat (first | exact aZ | assumption | refine .tail _ ?_)) (by repeat (first | exact aZ | assumption | refine .tail _ ?_)) af).mono ?_;rintro e wn ⟨sx,Ax,nx,cx,rfl,HE⟩;have HM:=HE))
  go_wp2_with fail
  go_ret
  exact ⟨fD (by rw [Rj]),HE.bare.tl.tl.tl.tl.tl.tl⟩
end
section
variable {W0 w:World} {bs:List Bx} {L:List En} {ts:List Bt} {M:List Qn} {s s':Bool} {A A' B B':Option Addr} {n c n' c' m d m' d' k k':Nat} {q r:Rat} {x y:Int}
theorem ahq(HE:bu W0 w bs L ts M)(n1 : -9223372036854775808<=x)(n2:x<=9223372036854775807)(d0:0<y)(d2:y<=9223372036854775807) :
  Calls Tryz.prog 86 #[.int .i64 x,.int .i64 y] w (dR W0 bs L ts M (Rat.divInt x y) 2):=by
 refine (WN x y w n1 n2 af d2 af (HE.tz.next HE.below)).mono fun e w' hh => ?_;obtain ⟨A,c,A',c',rfl,hc,hc',hr,hr',hb⟩:=hh;have hl:=BU (n:=x) d0;have hp:pw 2=18446744073709551616:=rfl;exact ⟨_,_,_,_,_,_,_,rfl,(HE.next hb).cons (GM hr hr' (qp af) (Gq af) hc hc')⟩
end
section
variable {W0 w:World} {bs:List Bx} {L:List En} {ts:List Bt} {M:List Qn} {s s':Bool} {A A' B B':Option Addr} {n c n' c' m d m' d' k k':Nat} {q r:Rat} {x y:Int}
set_option maxRecDepth 100000 in
set_option maxHeartbeats 4000000 in
theorem ajC(HE:bu W0 w bs L ts M)(h:⟨.agg #[.bool s,.slice A n c,.slice A' n' c'],q,k,true⟩∈M)(h':⟨.agg #[.bool s',.slice B m d,.slice B' m' d'],r,k',true⟩∈M)(hk:k+k'<=8000) :
  Calls Tryz.prog 84 #[.agg #[.bool s,.slice A n c,.slice A' n' c'],.agg #[.bool s',.slice B m d,.slice B' m' d']] w (dR W0 bs L ts M (q*r) (k+k'+2)):=by
 suffices hs:Calls Tryz.prog 84 #[.agg #[.bool s,.slice A n c,.slice A' n' c'],.agg #[.bool s',.slice B m d,.slice B' m' d']] w (dR w [] L [] M (q*r) (k+k'+2)) from hs.mono fun _ _ hh=>dR.of HE hh
 have H1:=((HE.here.dm (.bool s) (.slice A n c) (.slice A' n' c')).dm (.bool s') (.slice B m d) (.slice B' m' d')).dm (.bool false) (.slice none 0 0) (.slice none 0 0);simp only [World.size_alloc] at H1;have HP:=Lib.hid (VC (HE.fr _ h).lt (HE.fr _ h').lt)
 by_cases hb:(kU q&&kU r)=true
 ·have hb2:kU q=true/\kU r=true:=by simpa using hb
  obtain ⟨z1,z2⟩:=zZ hb2.1;obtain ⟨z3,z4⟩:=zZ hb2.2;have HB:=Lib.hid hb;have p1:=Gx (a:=q.num) (b:=r.num) z1 z3;have p3:=Gx (a:=(q.den:Int)) (b:=(r.den:Int)) af af;have p4:=Int.mul_pos (den_pos q) (den_pos r);have y1:IntKind.i64.wrap (q.num*r.num)=q.num*r.num:=pG af af;have y4:IntKind.i64.wrap ((q.den:Int)*(r.den:Int))=(q.den:Int)*(r.den:Int):=pG af af;have HS:=Lib.hid (show (-9223372036854775808<=q.num*r.num/\q.num*r.num<=9223372036854775807)/\0<(q.den:Int)*(r.den:Int)/\(q.den:Int)*(r.den:Int)<=9223372036854775807 from ⟨⟨af,af⟩,p4,af⟩);clear p1 p3 p4;clear hb hb2 z1 z2 z3 z4
  go_enter Tryz.func84,Tryz.ntmps84
  have HE:=H1;clear H1;obtain ⟨q0,q1,q2,q3,q4,q5⟩:=HE.c3 ak;obtain ⟨q6,q7,q8,q9,q10,q11⟩:=HE.c3 au;obtain ⟨q12,q13,fP,fQ,q16,fU⟩:=HE.c3 ay
  go_wp2_with fail
  refine (Il HE h h' af).mono ?_;clear HE;rw [HB.out,Yi];rintro e w1 ⟨rfl,HE⟩;clear q0 q1 q2 q3 q4 q5 q6 q7 q8 q9 q10 q11 q12 q13 fP fQ q16 fU;have TA:=(Two.new w1 131 (.int .i64 q.num) (.int .i64 (q.den:Int))).alloc (.cells #[.int .i64 r.num,.int .i64 (r.den:Int)] 131);have TB:=Two.new (w1.alloc (.cells #[.int .i64 q.num,.int .i64 (q.den:Int)] 131)) 131 (.int .i64 r.num) (.int .i64 (r.den:Int));replace HE:=(HE.alloc (.cells #[.int .i64 q.num,.int .i64 (q.den:Int)] 131)).alloc (.cells #[.int .i64 r.num,.int .i64 (r.den:Int)] 131);simp only [World.size_alloc] at TA TB;obtain ⟨u0,u1,u2,u3⟩:=TA.facts;obtain ⟨v0,v1,v2,v3⟩:=TB.facts;obtain ⟨gJ,gK,ig,iq,q22,q23⟩:=HE.c3 ak;obtain ⟨q24,iC,iH,iI,iU,iV⟩:=HE.c3 au;obtain ⟨q30,iW,q32,jc,jd,q35⟩:=HE.c3 ay
  go_wp2_with fail
  refine (ahq HE HS.out.1.1 HS.out.1.2 HS.out.2.1 HS.out.2.2).mono ?_;rintro e w2 ⟨sx,Ax,nx,cx,Ay,ny,cy,rfl,HE⟩;rw [<- ML] at HE;clear u0 u1 u2 u3 v0 v1 v2 v3 TA TB;clear gJ gK ig iq q22 q23 q24 iC iH iI iU iV q30 iW q32 jc jd q35;obtain ⟨jX,q37,kL,kQ,kR,kS⟩:=HE.c3 ak;obtain ⟨lq,lC,nJ,nK,nM,nN⟩:=HE.c3 au;obtain ⟨qC,qE,qF,qG,qH,qI⟩:=HE.c3 ay
  go_wp2_with fail
  have HF:=HE.ja (D:=Ax) (m:=nx) (d:=cx) ak sx (.slice Ay ny cy);refine bodyPost_ret (v := .agg #[.bool sx,.slice Ax nx cx,.slice Ay ny cy]) (by simp [results,Tryz.results84,go_sem,jX,q37,kL]) rfl ?_;exact ⟨_,_,_,_,_,_,_,rfl,HF.bare.hd (·.weak af)⟩
 ·have HB:=Lib.hid (Bool.eq_false_iff.2 hb)
  obtain ⟨g,hg⟩ : ∃ g:Int,g=(Nat.gcd q.num.natAbs (r.den:Int).natAbs:Nat):=⟨_,rfl⟩;obtain ⟨t,ht⟩ : ∃ t:Int,t=(Nat.gcd r.num.natAbs (q.den:Int).natAbs:Nat):=⟨_,rfl⟩;have HG:=Lib.hid hg;have HH:=Lib.hid ht;rw [av2] at hg ht;have hl:=afE q r hg ht;have HL:=Lib.hid (show (q*r).num=q.num/g*(r.num/t)/\((q*r).den:Int)=(q.den:Int)/t*((r.den:Int)/g)/\0<g/\0<t from ⟨hl.1,hl.2.1,af,af⟩);clear hg ht hl;clear hb
  go_enter Tryz.func84,Tryz.ntmps84
  have HE:=H1;clear H1;obtain ⟨q0,q1,q2,q3,q4,q5⟩:=HE.c3 ak;obtain ⟨q6,q7,q8,q9,q10,q11⟩:=HE.c3 au;obtain ⟨q12,q13,fP,fQ,q16,fU⟩:=HE.c3 ay
  go_wp2_with fail
  refine (Il HE h h' af).mono ?_;clear HE;rw [HB.out,Yh];rintro e w1 ⟨rfl,HE⟩;clear q0 q1 q2 q3 q4 q5 q6 q7 q8 q9 q10 q11 q12 q13 fP fQ q16 fU;have TA:=(Two.new w1 131 (.int .i64 0) (.int .i64 0)).alloc (.cells #[.int .i64 0,.int .i64 0] 131);have TB:=Two.new (w1.alloc (.cells #[.int .i64 0,.int .i64 0] 131)) 131 (.int .i64 0) (.int .i64 0);replace HE:=(HE.alloc (.cells #[.int .i64 0,.int .i64 0] 131)).alloc (.cells #[.int .i64 0,.int .i64 0] 131);simp only [World.size_alloc] at TA TB;clear TA TB;obtain ⟨gJ,gK,ig,iq,q22,q23⟩:=HE.c3 ak;obtain ⟨q24,iC,iH,iI,iU,iV⟩:=HE.c3 au;obtain ⟨q30,iW,q32,jc,jd,q35⟩:=HE.c3 ay
  go_wp2_with fail
  refine (DJ HE h).mono ?_;clear HE;rintro e w2 ⟨s1,D1,m1,d1,s2,D2,m2,d2,rfl,HE⟩;have ZV:=Lib.hid HE.below.size;clear gJ gK ig iq q22 q23 q24 iC iH iI iU iV q30 iW q32 jc jd q35;replace HE:=(HE.bT (.bool s1) (.slice D1 m1 d1)).bT (.bool s2) (.slice D2 m2 d2);simp only [World.size_alloc] at HE;obtain ⟨jX,q37,kL,kQ⟩:=HE.c2 ak;obtain ⟨kR,kS,lq,lC⟩:=HE.c2 au;obtain ⟨nJ,nK,nM,nN,qC,qE⟩:=HE.c3 ak;obtain ⟨qF,qG,qH,qI,sQ,sS⟩:=HE.c3 au;obtain ⟨sU,sV,sW,sZ,tq,tH⟩:=HE.c3 ay
  go_wp2_with fail
  refine (DJ HE h').mono ?_;clear HE;rintro e w3 ⟨s3,D3,m3,d3,s4,D4,m4,d4,rfl,HE⟩;have ZR:=Lib.hid (HE.vI ak);clear jX q37 kL kQ kR kS lq lC nJ nK nM nN qC qE qF qG qH qI sQ sS sU sV sW sZ tq tH;replace HE:=(HE.bT (.bool s3) (.slice D3 m3 d3)).bT (.bool s4) (.slice D4 m4 d4);simp only [World.size_alloc] at HE;obtain ⟨tJ,tK,tV,tX⟩:=HE.c2 ak;obtain ⟨tY,tZ,uf,ug⟩:=HE.c2 au;obtain ⟨uh,uj,vT,vU⟩:=HE.c2 ay;obtain ⟨vV,vW,vX,vY⟩:=HE.c2 az;obtain ⟨DL,DN,DR,DU,DV,DW⟩:=HE.c3 ak;obtain ⟨DX,DY,GV,GX,GY,GZ⟩:=HE.c3 au;obtain ⟨G5,G6,G7,G8,Np,Nq⟩:=HE.c3 ay
  go_wp2_with fail
  generalize ((w3.alloc (.cells #[.bool s3,.slice D3 m3 d3] 79)).alloc (.cells #[.bool s4,.slice D4 m4 d4] 79))=W5 at *;have hS : ∀ v,Below W5.heap.size W5 v->(fun w'=>w'.cell? ⟨w2.heap.size,0,none⟩=some (.bool s1)/\w'.cell? ⟨w2.heap.size,1,none⟩=some (.slice D1 m1 d1)/\w'.cell? ⟨w2.heap.size+1,0,none⟩=some (.bool s2)/\w'.cell? ⟨w2.heap.size+1,1,none⟩=some (.slice D2 m2 d2)/\w'.cell? ⟨w3.heap.size,0,none⟩=some (.bool s3)/\w'.cell? ⟨w3.heap.size,1,none⟩=some (.slice D3 m3 d3)/\w'.cell? ⟨w3.heap.size+1,0,none⟩=some (.bool s4)/\w'.cell? ⟨w3.heap.size+1,1,none⟩=some (.slice D4 m4 d4)) v:=fun v hv=>bu.c4 (HE.next hv);have HR:=HE.here
  go_cut [12,13] (fun sl sm wx => ∃ (ga:Nat) (sa:Bool) (Aa:Option Addr) (na ca gb:Nat) (sb:Bool) (Ab:Option Addr) (nb cb:Nat),(sl = .pointer (some ⟨ga,0,none⟩)/\sm = .pointer (some ⟨gb,0,none⟩))/\W5.heap.size<=ga/\W5.heap.size<=gb/\Two wx ga 79 (.bool sa) (.slice Aa na ca)/\Two wx gb 79 (.bool sb) (.slice Ab nb cb)/\bu W5 wx [] (⟨.agg #[.bool sb,.slice Ab nb cb],t,k'+2+(k+2)+2,true⟩::⟨.agg #[.bool sa,.slice Aa na ca],g,k+2+(k'+2)+2,true⟩::⟨.agg #[.bool s3,.slice D3 m3 d3],r.num,k'+2,true⟩::⟨.agg #[.bool s4,.slice D4 m4 d4],(r.den:Int),k'+2,true⟩::⟨.agg #[.bool s1,.slice D1 m1 d1],q.num,k+2,true⟩::⟨.agg #[.bool s2,.slice D2 m2 d2],(q.den:Int),k+2,true⟩::L) [] M)
  case first =>
   go_region_held3 (fun w'=>w'.cell? ⟨w2.heap.size,0,none⟩=some (.bool s1)/\w'.cell? ⟨w2.heap.size,1,none⟩=some (.slice D1 m1 d1)/\w'.cell? ⟨w2.heap.size+1,0,none⟩=some (.bool s2)/\w'.cell? ⟨w2.heap.size+1,1,none⟩=some (.slice D2 m2 d2)/\w'.cell? ⟨w3.heap.size,0,none⟩=some (.bool s3)/\w'.cell? ⟨w3.heap.size,1,none⟩=some (.slice D3 m3 d3)/\w'.cell? ⟨w3.heap.size+1,0,none⟩=some (.bool s4)/\w'.cell? ⟨w3.heap.size+1,1,none⟩=some (.slice D4 m4 d4)) (first | (with_reducible first | exact hS _ HR.below | exact hS _ HR.drew.below | exact hS _ HR.b1.below | exact hS _ HR.b1.drew.below | exact hS _ HR.b2.below | exact hS _ HR.b2.drew.below) | (with_reducible refine hS _ ?_;(repeat' (first | with_reducible exact HR.below | with_reducible exact HR.drew.below | with_reducible refine Below.setCell ?_ ?_ _ | with_reducible refine Below.alloc ?_ ?_ _ | (simp only [World.size_setCell,World.size_alloc];omega) | omega));done))
    (first
     | (go_at_call 130;have _:=pX;refine (Ru (by with_reducible first | exact HR | exact HR.drew | exact HR.b1 | exact HR.b1.drew | exact HR.b2 | exact HR.b2.drew) (by repeat (first | exact aZ | assumption | refine .tail _ ?_)) (by repeat (first | exact aZ | assumption | refine .tail _ ?_)) af).mono ?_;clear HR;rintro e w6 ⟨sb,Ab,nb,cb,rfl,HR⟩;rw [<- HH.out] at HR;have hz:=HR.below.size;(try (have hy:=HR.vI ak;have hn1:=aw2 hy;have hn2:=Nat.ne_of_gt hy));(try (have hx:=HR.vI au;have hn3:=aw2 hx;have hn4:=Nat.ne_of_gt hx));try obtain ⟨z0,z1,z2,z3⟩:=bu.c2 HR ak;try obtain ⟨z4,z5,z6,z7⟩:=bu.c2 HR au;try obtain ⟨z8,z9,z10,z11⟩:=bu.c2 HR.b1 ak;try obtain ⟨z12,z13,z14,z15⟩:=bu.c2 HR.b1 au)
     | (go_at_call 130;refine (Ru (by with_reducible first | exact HR | exact HR.drew | exact HR.b1 | exact HR.b1.drew | exact HR.b2 | exact HR.b2.drew) (by repeat (first | exact aZ | assumption | refine .tail _ ?_)) (by repeat (first | exact aZ | assumption | refine .tail _ ?_)) af).mono ?_;clear HR;rintro e wn ⟨sa,Aa,na,ca,rfl,HR⟩;rw [<- HG.out] at HR;have pX:=HG;have hz:=HR.below.size;(try (have hy:=HR.vI ak;have hn1:=aw2 hy;have hn2:=Nat.ne_of_gt hy));(try (have hx:=HR.vI au;have hn3:=aw2 hx;have hn4:=Nat.ne_of_gt hx))))
   all_goals go_wp2_with fail
   all_goals go_meet
   all_goals (try have HT1:=HR.two ak)
   all_goals (try have HT2:=HR.two au)
   all_goals have HB:=HR.bare
   all_goals refine ⟨_,sa,Aa,na,ca,_,sb,Ab,nb,cb,⟨rfl,rfl⟩,?_,?_,?_,?_,?_⟩
   all_goals first | omega | (simp only [World.size_setCell,World.size_alloc];omega) | skip
   all_goals first | (with_reducible first | exact (Two.new _ _ _ _).alloc _ | exact aaF (by simp only [World.size_setCell,World.size_alloc]) | exact (HT1.put _ _).alloc _ | exact yR (HT1.put _ _) af _ _ | exact (yR HT1 af _ _).put _ _ | exact (HT2.put _ _).alloc _ | exact yR (HT2.put _ _) af _ _ | exact (yR HT2 af _ _).put _ _) | (with_reducible first | exact (HB.alloc _).alloc _ | exact (bu.uD HB HT1 af _ _).alloc _ | exact bu.uD (bu.uD HB HT1 af _ _) (yR HT2 af _ _) af _ _ | exact (bu.uD HB HT2 af _ _).alloc _ | exact bu.uD (bu.uD HB HT2 af _ _) (yR HT1 af _ _) af _ _)
  case rest =>
   clear HR hS tJ tK tV tX tY tZ uf ug uh uj vT vU vV vW vX vY DL DN DR DU DV DW DX DY GV GX GY GZ G5 G6 G7 G8 Np Nq;obtain ⟨ga,sa,Aa,na,ca,gb,sb,Ab,nb,cb,⟨rfl,rfl⟩,hga,hgb,hta,htb,HR⟩:=hcut;replace HE:=HE.join ((HR.yS hta hga).yS htb hgb);clear HR hta htb hga hgb;simp only [List.cons_append,awj] at HE;obtain ⟨Nr,Ns,Nu,Nv⟩:=HE.c2 ak;obtain ⟨Wx,Wy,WA,WB⟩:=HE.c2 au;obtain ⟨WE,WG,WH,WI⟩:=HE.c2 ay;obtain ⟨agK,agL,agM,agN⟩:=HE.c2 az;obtain ⟨agP,agQ,agR,agS⟩:=HE.c2 aA;obtain ⟨agT,agU,agV,agW⟩:=HE.c2 aB;obtain ⟨agX,agY,agZ,ag0,ag1,ag2⟩:=HE.c3 ak;obtain ⟨ag3,ag4,ag5,ag6,ag7,ag8⟩:=HE.c3 au;obtain ⟨ag9,ag',aha,ahb,ahc,ahd⟩:=HE.c3 ay
   go_wp2_with fail
   have hS : ∀ v,Below wc.heap.size wc v->(fun w'=>w'.cell? ⟨w2.heap.size,0,none⟩=some (.bool s1)/\w'.cell? ⟨w2.heap.size,1,none⟩=some (.slice D1 m1 d1)/\w'.cell? ⟨w2.heap.size+1,0,none⟩=some (.bool s2)/\w'.cell? ⟨w2.heap.size+1,1,none⟩=some (.slice D2 m2 d2)/\w'.cell? ⟨w3.heap.size,0,none⟩=some (.bool s3)/\w'.cell? ⟨w3.heap.size,1,none⟩=some (.slice D3 m3 d3)/\w'.cell? ⟨w3.heap.size+1,0,none⟩=some (.bool s4)/\w'.cell? ⟨w3.heap.size+1,1,none⟩=some (.slice D4 m4 d4)/\w'.cell? ⟨ga,0,none⟩=some (.bool sa)/\w'.cell? ⟨ga,1,none⟩=some (.slice Aa na ca)/\w'.cell? ⟨gb,0,none⟩=some (.bool sb)/\w'.cell? ⟨gb,1,none⟩=some (.slice Ab nb cb)) v:=fun v hv=>bu.c6 (HE.next hv);have HR:=HE.here
   go_cut [14] (fun sl wx => ∃ (gm:Nat) (sx:Bool) (Ax:Option Addr) (nx cx:Nat),sl = .pointer (some ⟨gm,0,none⟩)/\bu wc wx [⟨gm,.bool sx,.slice Ax nx cx⟩] (⟨.agg #[.bool sx,.slice Ax nx cx],q.num/g*(r.num/t),(k+2+1+(k'+2+1)+1),true⟩::⟨.agg #[.bool sb,.slice Ab nb cb],t,k'+2+(k+2)+2,true⟩::⟨.agg #[.bool sa,.slice Aa na ca],g,k+2+(k'+2)+2,true⟩::⟨.agg #[.bool s3,.slice D3 m3 d3],r.num,k'+2,true⟩::⟨.agg #[.bool s4,.slice D4 m4 d4],(r.den:Int),k'+2,true⟩::⟨.agg #[.bool s1,.slice D1 m1 d1],q.num,k+2,true⟩::⟨.agg #[.bool s2,.slice D2 m2 d2],(q.den:Int),k+2,true⟩::L) [] M)
   case first =>
    go_region_held3 (fun w'=>w'.cell? ⟨w2.heap.size,0,none⟩=some (.bool s1)/\w'.cell? ⟨w2.heap.size,1,none⟩=some (.slice D1 m1 d1)/\w'.cell? ⟨w2.heap.size+1,0,none⟩=some (.bool s2)/\w'.cell? ⟨w2.heap.size+1,1,none⟩=some (.slice D2 m2 d2)/\w'.cell? ⟨w3.heap.size,0,none⟩=some (.bool s3)/\w'.cell? ⟨w3.heap.size,1,none⟩=some (.slice D3 m3 d3)/\w'.cell? ⟨w3.heap.size+1,0,none⟩=some (.bool s4)/\w'.cell? ⟨w3.heap.size+1,1,none⟩=some (.slice D4 m4 d4)/\w'.cell? ⟨ga,0,none⟩=some (.bool sa)/\w'.cell? ⟨ga,1,none⟩=some (.slice Aa na ca)/\w'.cell? ⟨gb,0,none⟩=some (.bool sb)/\w'.cell? ⟨gb,1,none⟩=some (.slice Ab nb cb)) (with_reducible first | exact hS _ HR.below | exact hS _ HR.drew.below | exact hS _ (bu.bT HR (.bool false) (.slice none 0 0)).below | exact hS _ (bu.bT HR.drew (.bool false) (.slice none 0 0)).below | exact hS _ (bu.bT HR (.bool false) (.slice none 0 0)).drew.below | exact hS _ HK.below)
     (first
      | (go_at_call 131;refine (Q8 (by with_reducible first | exact HR | exact HR.drew | exact bu.bT HR (.bool false) (.slice none 0 0) | exact bu.bT HR.drew (.bool false) (.slice none 0 0) | exact (bu.bT HR (.bool false) (.slice none 0 0)).drew) (by repeat (first | exact aZ | assumption | refine .tail _ ?_)) (by repeat (first | exact aZ | assumption | refine .tail _ ?_)) af (by first | exact HL.out.2.2.1 | exact HL.out.2.2.2)).mono ?_;rintro e wn ⟨sx,Ax,nx,cx,rfl,HR⟩)
      | (go_at_call 69;refine (xR (by with_reducible first | exact HR | exact HR.drew | exact bu.bT HR (.bool false) (.slice none 0 0) | exact bu.bT HR.drew (.bool false) (.slice none 0 0) | exact (bu.bT HR (.bool false) (.slice none 0 0)).drew) (by repeat (first | exact aZ | assumption | refine .tail _ ?_)) (by repeat (first | exact aZ | assumption | refine .tail _ ?_)) af).mono ?_;rintro e w6 ⟨sx,Ax,nx,cx,rfl,HR⟩;first | (have HK:=HR.jH ak [] (fun _ hb=>by simp at hb) sx (.slice Ax nx cx);obtain ⟨z0,z1,z2,z3⟩:=HR.c2 ak) | (have HK:=HR.bT (.bool sx) (.slice Ax nx cx))))
    all_goals
     go_wp2_with fail
     go_meet
     exact ⟨_,sx,Ax,nx,cx,rfl,(HK.hdi (K:=(k+2+1+(k'+2+1)+1)) (·.weak af)).pick (fun _ he=>by rcases List.mem_cons.1 he with rfl | he;exact ak;exact .tail _ (.tail _ (.tail _ (he)))) (fun _ he=>he)⟩
   case rest =>
    clear HR hS Nr Ns Nu Nv Wx Wy WA WB WE WG WH WI agK agL agM agN agP agQ agR agS agT agU agV agW agX agY agZ ag0 ag1 ag2 ag3 ag4 ag5 ag6 ag7 ag8 ag9 ag' aha ahb ahc ahd;obtain ⟨gm,sx,Ax,nx,cx,rfl,HR⟩:=hcut;replace HE:=HE.join HR;clear HR;simp only [List.cons_append,awj] at HE;obtain ⟨aoK,aoL,aoM,aoN⟩:=HE.c2 ak;obtain ⟨aoO,aoP,aoQ,aoR⟩:=HE.c2 au;obtain ⟨aoS,aoT,aoU,aoV⟩:=HE.c2 ay;obtain ⟨aoW,aoX,aoY,aoZ⟩:=HE.c2 az;obtain ⟨ao0,ao1,ao2,ao3⟩:=HE.c2 aA;obtain ⟨ao4,ao5,ao6,ao7⟩:=HE.c2 aB;obtain ⟨ao8,ao9,apa,apb⟩:=HE.c2 aC;obtain ⟨apc,apd,ape,apf,apg,aph⟩:=HE.c3 ak;obtain ⟨apj,apk,apl,apm,apn,apo⟩:=HE.c3 au;obtain ⟨apq,apr,aps,apt,apu,apv⟩:=HE.c3 ay
    go_wp2_with fail
    go_region_held3 (fun w'=>w'.cell? ⟨w2.heap.size,0,none⟩=some (.bool s1)/\w'.cell? ⟨w2.heap.size,1,none⟩=some (.slice D1 m1 d1)/\w'.cell? ⟨w2.heap.size+1,0,none⟩=some (.bool s2)/\w'.cell? ⟨w2.heap.size+1,1,none⟩=some (.slice D2 m2 d2)/\w'.cell? ⟨w3.heap.size,0,none⟩=some (.bool s3)/\w'.cell? ⟨w3.heap.size,1,none⟩=some (.slice D3 m3 d3)/\w'.cell? ⟨w3.heap.size+1,0,none⟩=some (.bool s4)/\w'.cell? ⟨w3.heap.size+1,1,none⟩=some (.slice D4 m4 d4)/\w'.cell? ⟨ga,0,none⟩=some (.bool sa)/\w'.cell? ⟨ga,1,none⟩=some (.slice Aa na ca)/\w'.cell? ⟨gb,0,none⟩=some (.bool sb)/\w'.cell? ⟨gb,1,none⟩=some (.slice Ab nb cb)/\w'.cell? ⟨gm,0,none⟩=some (.bool sx)/\w'.cell? ⟨gm,1,none⟩=some (.slice Ax nx cx)) (with_reducible first | exact bu.c7 HE | exact bu.c7 HE.drew | exact bu.c7 HK)
     (first
      | (go_at_call 131;refine (Q8 (by with_reducible first | exact HE | exact HE.drew) (by repeat (first | exact aZ | assumption | refine .tail _ ?_)) (by repeat (first | exact aZ | assumption | refine .tail _ ?_)) af (by first | exact HL.out.2.2.1 | exact HL.out.2.2.2)).mono ?_;rintro e wn ⟨sx,Ax,nx,cx,rfl,HE⟩)
      | (go_at_call 69;refine (xR (by with_reducible first | exact HE | exact HE.drew) (by repeat (first | exact aZ | assumption | refine .tail _ ?_)) (by repeat (first | exact aZ | assumption | refine .tail _ ?_)) af).mono ?_;rintro e wn ⟨sx,Ax,nx,cx,rfl,HE⟩)
      | (go_at_call 120;refine (MI (by with_reducible first | exact HE | exact HE.drew) (by repeat (first | exact aZ | assumption | refine .tail _ ?_)) (by repeat (first | exact aZ | assumption | refine .tail _ ?_)) HL.out.1 HL.out.2.1).mono ?_;rintro e w8 ⟨sx,Ax,nx,cx,Ay,ny,cy,rfl,HE⟩;have HK:=HE.ja (D:=Ax) (m:=nx) (d:=cx) ak sx (.slice Ay ny cy);obtain ⟨z0,z1,z2,z3,z4,z5⟩:=HE.c3 ak))
    go_wp2_with fail
    refine bodyPost_ret (v := .agg #[.bool sx,.slice Ax nx cx,.slice Ay ny cy]) (by simp [results,Tryz.results84,go_sem,z0,z1,z2]) rfl ?_;have HF:=HK.bare.hd (fun hh=>dB.tight hh HP.out.1 HP.out.2);exact ⟨_,_,_,_,_,_,_,rfl,HF.pick (fun _ he => .tail _ (.tail _ (.tail _ (.tail _ (.tail _ (.tail _ (.tail _ (.tail _ (.tail _ (.tail _ (he))))))))))) (fun _ he=>he)⟩
end
end Go.Proofs.BGQ
namespace Lw
open Go Go.RowKit
theorem ae5{q:Rat}(h:q≠0):rs q⁻¹=rs q/\rn q⁻¹=rd q/\rd q⁻¹=rn q:=by
 obtain ⟨h1,h2⟩:=aho h;have hz:q.num≠0:=fun e=>h (awo.1 e);have hd:=den_pos q;unfold rs rn rd;rw [h1,h2,if_neg hz]
 by_cases hn:q.num<0
 ·rw [if_pos hn,if_neg af,decide_eq_true hn,decide_eq_true af,axl,av2]
  exact ⟨rfl,rfl,rfl⟩
 ·rw [if_neg hn,if_neg af,decide_eq_false hn,decide_eq_false af,av2]
  exact ⟨rfl,rfl,rfl⟩
end Lw
namespace Go.Proofs.BGQ
open Go Go.RowKit Lw
section
variable {W0 w:World} {bs:List Bx} {L:List En} {ts:List Bt} {M:List Qn} {s s':Bool} {A A':Option Addr} {n c n' c' k k':Nat} {q:Rat} {v:Value} {b:Bool}
set_option maxRecDepth 100000 in
set_option maxHeartbeats 1600000 in
theorem ae6(HE:bu W0 w bs L ts M)(h:⟨.agg #[.bool s,.slice A n c,.slice A' n' c'],q,k,true⟩∈M)(hq:q≠0) :
  Calls Tryz.prog 168 #[.agg #[.bool s,.slice A n c,.slice A' n' c']] w (dR W0 bs L ts M q⁻¹ k):=by
 have H1:=(HE.here.dm (.bool s) (.slice A n c) (.slice A' n' c')).dm (.bool false) (.slice none 0 0) (.slice none 0 0);have H2:=((HE.here.dm (.bool s) (.slice A n c) (.slice A' n' c')).dm (.bool s) (.slice A' n' c') (.slice A n c)).bare;simp only [World.size_alloc] at H1;obtain ⟨e0,e1,e2,e3,e4,e5⟩:=H1.c3 au;have HQ:=Lib.hid hq;clear hq;refine Calls.mono (R:=dR w [] L [] M q⁻¹ k) ?_ fun _ _ hh=>dR.of HE hh
 go_enter Tryz.func168,Tryz.ntmps168
 go_wp2_with fail
 refine bodyPost_ret (v := .agg #[.bool s,.slice A' n' c',.slice A n c]) (by simp [results,Tryz.results168,go_sem]) rfl ?_;obtain ⟨h1,h2,h3,h4,h5,h6,h7,h8,h9⟩:=(H2.fr _ h).own;obtain ⟨f1,f2,f3⟩:=ae5 HQ.out;rw [<- f2] at h5 h3;rw [<- f3] at h4 h2;exact ⟨_,_,_,_,_,_,_,rfl,H2.cons ⟨s,A',n',c',A,n,c,rn q⁻¹,rd q⁻¹,rfl,h5,h4,h3.symm,h2.symm,h7,h6,h9,h8,by rw [h1,<- f1];exact yh _,by rw [h1,<- f1];exact zf _⟩⟩
end
section
variable {W0 w:World} {bs:List Bx} {L:List En} {ts:List Bt} {M:List Qn} {s s':Bool} {A A' B B':Option Addr} {n c n' c' m d m' d' k k':Nat} {q r:Rat} {x y:Int} {b b':Bool}
set_option maxRecDepth 100000 in
set_option maxHeartbeats 2400000 in
theorem acU(HE:bu W0 w bs L ts M)(h:⟨.agg #[.bool s,.slice A n c,.slice A' n' c'],q,k,b⟩∈M)(h':⟨.agg #[.bool s',.slice B m d,.slice B' m' d'],r,k',b'⟩∈M)(hk:k+k'<=8000) :
  Calls Tryz.prog 46 #[.agg #[.bool s,.slice A n c,.slice A' n' c'],.agg #[.bool s',.slice B m d,.slice B' m' d']] w (fun e w'=>e = .returned (.int .i64 (eX q r))/\bu W0 w' bs L ts M):=by
 refine Calls.mono (R:=(fun e w'=>e = .returned (.int .i64 (eX q r))/\bu w w' [] L [] M)) ?_ fun _ _ hh=>⟨hh.1,HE.back hh.2⟩;replace HE:=(HE.here.dm (.bool s) (.slice A n c) (.slice A' n' c')).dm (.bool s') (.slice B m d) (.slice B' m' d');simp only [World.size_alloc] at HE;obtain ⟨q0,q1,q2,q3,q4,q5⟩:=HE.c3 ak;obtain ⟨q6,q7,q8,q9,q10,q11⟩:=HE.c3 au;have TA:=HE.ji au;have TB:=HE.ji ak
 go_enter Tryz.func46,Tryz.ntmps46
 go_wp2_with fail
 go_region_held3 (fun w'=>w'.cell? ⟨w.heap.size,0,none⟩=some (.bool s)/\w'.cell? ⟨w.heap.size,1,none⟩=some (.slice A n c)/\w'.cell? ⟨w.heap.size,2,none⟩=some (.slice A' n' c')/\w'.cell? ⟨w.heap.size+1,0,none⟩=some (.bool s')/\w'.cell? ⟨w.heap.size+1,1,none⟩=some (.slice B m d)/\w'.cell? ⟨w.heap.size+1,2,none⟩=some (.slice B' m' d')) (with_reducible first | exact cZ.cc TA TB | exact cZ.cc TA.drew TB.drew)
  (first
   | (go_at_call 83;refine (zB (by with_reducible first | exact HE | exact HE.drew) (by repeat (first | exact aZ | assumption | refine .tail _ ?_)) af).mono ?_;rintro e wn ⟨sx,Ax,nx,cx,Ay,ny,cy,rfl,HE⟩;have TA:=HE.ji au;have TB:=HE.ji ak)
   | (go_at_call 85;refine (abN (by with_reducible first | exact HE | exact HE.drew) (by repeat (first | exact aZ | assumption | refine .tail _ ?_)) (by repeat (first | exact aZ | assumption | refine .tail _ ?_)) af).mono ?_;rintro e wn ⟨rfl,HE⟩;have TA:=HE.ji au;have TB:=HE.ji ak))
 go_wp2_with fail
 go_ret
 exact ⟨rfl,HE.bare.pick (fun _ he=>he) (fun _ he => .tail _ (.tail _ (he)))⟩
set_option maxRecDepth 100000 in
set_option maxHeartbeats 2400000 in
theorem adr(HE:bu W0 w bs L ts M)(h:⟨.agg #[.bool s,.slice A n c,.slice A' n' c'],q,k,b⟩∈M)(hk:k<=100000) :
  Calls Tryz.prog 126 #[.agg #[.bool s,.slice A n c,.slice A' n' c']] w fun e w'=>e = .returned (.int .i64 (iO q))/\bu W0 w' bs L ts M:=by
 refine Calls.mono (R:=fun e w'=>e = .returned (.int .i64 (iO q))/\bu w w' [] L [] M) ?_ fun _ _ hh=>⟨hh.1,HE.back hh.2⟩;replace HE:=HE.here.dm (.bool s) (.slice A n c) (.slice A' n' c');have HS:=Lib.hid (Yb q);obtain ⟨q0,q1,q2,q3,q4,q5⟩:=HE.c3 ak;have HK:=Lib.hid (zB HE h hk)
 by_cases hq:q=0
 ·have HQ:=Lib.hid hq
  clear hq hk
  go_enter Tryz.func126,Tryz.ntmps126
  go_wp2_with fail
  refine HK.out.mono ?_;rintro e w1 ⟨sx,Ax,nx,cx,Ay,ny,cy,rfl,HE⟩;have hn:=((HE.fr _ ak).own).2.1;obtain rfl:=(o7 hn).2 HQ.out;clear q0 q1 q2 q3 q4 q5 hn;have HF:=(HE.ja (D:=Ax) (m:=0) (d:=cx) ak sx (.slice Ay ny cy)).bare;have TA:=(HE.ji ak).put (.bool sx) (.slice Ax 0 cx) (.slice Ay ny cy);obtain ⟨q0,q1,q2,q3,q4,q5⟩:=HE.c3 ak;obtain ⟨z0,z1,z2,z3,z4,z5⟩:=TA.cells
  go_wp2_with fail
  go_ret
  exact ⟨fD (by rw [HQ.out,NP]),HF.Am⟩
 ·by_cases hneg:q.num<0
  ·have HQ:=Lib.hid (show iO q = -1 by rw [HS.out,if_pos hneg])
   have HN:=Lib.hid (show q≠0/\rs q=true from ⟨hq,decide_eq_true hneg⟩);clear hq hneg hk
   go_enter Tryz.func126,Tryz.ntmps126
   go_wp2_with fail
   refine HK.out.mono ?_;rintro e w1 ⟨sx,Ax,nx,cx,Ay,ny,cy,rfl,HE⟩;have hn:=(HE.fr _ ak).own;have hn0:((nx:Int)==0)=false:=by rw [beq_eq_false_iff_ne];have:=mt (o7 hn.2.1).1 HN.out.1;omega
   obtain rfl:sx=true:=hn.1.trans HN.out.2;clear q0 q1 q2 q3 q4 q5 hn;have HF:=(HE.ja (D:=Ax) (m:=nx) (d:=cx) ak true (.slice Ay ny cy)).bare;have TA:=(HE.ji ak).put (.bool true) (.slice Ax nx cx) (.slice Ay ny cy);obtain ⟨q0,q1,q2,q3,q4,q5⟩:=HE.c3 ak;obtain ⟨z0,z1,z2,z3,z4,z5⟩:=TA.cells
   go_wp2_with fail
   go_ret
   exact ⟨fD HQ.out.symm,HF.Am⟩
  ·have HQ:=Lib.hid (show iO q=1 by rw [HS.out,if_neg hneg,if_neg (fun e=>hq (awo.1 e))])
   have HN:=Lib.hid (show q≠0/\rs q=false from ⟨hq,decide_eq_false hneg⟩);clear hq hneg hk
   go_enter Tryz.func126,Tryz.ntmps126
   go_wp2_with fail
   refine HK.out.mono ?_;rintro e w1 ⟨sx,Ax,nx,cx,Ay,ny,cy,rfl,HE⟩;have hn:=(HE.fr _ ak).own;have hn0:((nx:Int)==0)=false:=by rw [beq_eq_false_iff_ne];have:=mt (o7 hn.2.1).1 HN.out.1;omega
   obtain rfl:sx=false:=hn.1.trans HN.out.2;clear q0 q1 q2 q3 q4 q5 hn;have HF:=(HE.ja (D:=Ax) (m:=nx) (d:=cx) ak false (.slice Ay ny cy)).bare;have TA:=(HE.ji ak).put (.bool false) (.slice Ax nx cx) (.slice Ay ny cy);obtain ⟨q0,q1,q2,q3,q4,q5⟩:=HE.c3 ak;obtain ⟨z0,z1,z2,z3,z4,z5⟩:=TA.cells
   go_wp2_with fail
   go_ret
   exact ⟨fD HQ.out.symm,HF.Am⟩
theorem ahr(HE:bu W0 w bs L ts M)(n1 : -9223372036854775808<=x)(n2:x<=9223372036854775807)(d1 : -9223372036854775808<=y)(d2:y<=9223372036854775807)(d0:y≠0) :
  Calls Tryz.prog 86 #[.int .i64 x,.int .i64 y] w (dR W0 bs L ts M (Rat.divInt x y) 2):=by
 refine (WN x y w n1 n2 d1 d2 d0 (HE.tz.next HE.below)).mono fun e w' hh => ?_;obtain ⟨A,c,A',c',rfl,hc,hc',hr,hr',hb⟩:=hh;have hp:pw 2=18446744073709551616:=rfl
 have h1:(Rat.divInt x y).num.natAbs<=x.natAbs:=by
  rw [awL];refine avX (Int.natAbs_ediv_le_natAbs _ _) ?_;rw [awC,Int.natAbs_sign_of_ne_zero d0,awp];exact avW _
 have h2:(Rat.divInt x y).den<=y.natAbs:=by rw [awM,if_neg d0];exact awl _ _
 exact ⟨_,_,_,_,_,_,_,rfl,(HE.next hb).cons (GM hr hr' (qp af) (Gq af) hc hc')⟩
set_option maxRecDepth 100000 in
set_option maxHeartbeats 1600000 in
theorem ac6(HE:bu W0 w bs L ts M)(n1 : -9223372036854775808<=x)(n2:x<=9223372036854775807) :
  Calls Tryz.prog 47 #[.int .i64 x] w (dR W0 bs L ts M (x:Rat) 2):=by
 refine Calls.mono (R:=dR w [] L [] M (x:Rat) 2) ?_ fun _ _ hh=>dR.of HE hh;replace HE:=HE.here.dm (.bool false) (.slice none 0 0) (.slice none 0 0);have HX:=Lib.hid (show Rat.divInt x 1=(x:Rat) from Rat.ext (by rw [awL];simp) (by rw [awM];simp));have HN:=Lib.hid (show -9223372036854775808<=x/\x<=9223372036854775807 from ⟨n1,n2⟩);clear n1 n2;obtain ⟨q0,q1,q2,q3,q4,q5⟩:=HE.c3 ak
 go_enter Tryz.func47,Tryz.ntmps47
 go_wp2_with fail
 refine (ahr HE HN.out.1 HN.out.2 af af af).mono ?_;rw [HX.out];rintro e w1 ⟨sx,Ax,nx,cx,Ay,ny,cy,rfl,HE⟩;clear q0 q1 q2 q3 q4 q5;obtain ⟨q0,q1,q2,q3,q4,q5⟩:=HE.c3 ak
 go_wp2_with fail
 refine bodyPost_ret (v := .agg #[.bool sx,.slice Ax nx cx,.slice Ay ny cy]) (by simp [results,Tryz.results47,go_sem,q0,q1,q2]) rfl ?_;exact ⟨_,_,_,_,_,_,_,rfl,(HE.ja (D:=Ax) (m:=nx) (d:=cx) ak sx (.slice Ay ny cy)).bare⟩
end
section
variable {W0 w:World} {bs:List Bx} {L:List En} {ts:List Bt} {M:List Qn} {s s':Bool} {A A' B B':Option Addr} {n c n' c' m d m' d' k k':Nat} {q r:Rat} {x y:Int} {b b':Bool}
set_option maxRecDepth 100000 in
set_option maxHeartbeats 4000000 in
theorem acY(HE:bu W0 w bs L ts M)(h:⟨.agg #[.bool s,.slice A n c,.slice A' n' c'],q,k,b⟩∈M)(h':⟨.agg #[.bool s',.slice B m d,.slice B' m' d'],r,k',b'⟩∈M)(hk:k+k'<=8000)(hr:r≠0) :
  Calls Tryz.prog 127 #[.agg #[.bool s,.slice A n c,.slice A' n' c'],.agg #[.bool s',.slice B m d,.slice B' m' d']] w (mY W0 bs L ts M (q*r⁻¹) (k+k'+2)):=by
 refine Calls.mono (R:=mY w [] L [] M (q*r⁻¹) (k+k'+2)) ?_ fun _ _ hh=>mY.of HE hh;have HQ:=Lib.hid hr;clear hr;replace HE:=((HE.here.dm (.bool s) (.slice A n c) (.slice A' n' c')).dm (.bool s') (.slice B m d) (.slice B' m' d')).dm (.bool false) (.slice none 0 0) (.slice none 0 0);simp only [World.size_alloc] at HE;obtain ⟨q0,q1,q2,q3,q4,q5⟩:=HE.c3 ak;obtain ⟨q6,q7,q8,q9,q10,q11⟩:=HE.c3 au;obtain ⟨q12,q13,fP,fQ,q16,fU⟩:=HE.c3 ay
 go_enter Tryz.func127,Tryz.ntmps127
 go_wp2_with fail
 go_region_with
  (first
   | (go_at_call 83;have _:=pX;refine (zB (by with_reducible first | exact HE | exact HE.drew) (.tail _ h') af).mono ?_;rintro e w2 ⟨sb,Ba,ma,da,Bb,mb,db,rfl,HE⟩;obtain ⟨v0,v1,v2,v3,v4,v5⟩:=HE.c3 ay;obtain ⟨v6,v7,v8,v9,v10,v11⟩:=HE.c3 au)
   | (go_at_call 83;refine (zB (by with_reducible first | exact HE | exact HE.drew) h af).mono ?_;rintro e w1 ⟨sa,Aa,na,ca,Ab,nb,cb,rfl,HE⟩;have pX:=HE;obtain ⟨u0,u1,u2,u3,u4,u5⟩:=HE.c3 ay;obtain ⟨u6,u7,u8,u9,u10,u11⟩:=HE.c3 au))
 all_goals
  first | clear q0 q1 q2 q3 q4 q5 q6 q7 q8 q9 q10 q11 q12 q13 fP fQ q16 fU u0 u1 u2 u3 u4 u5 u6 u7 u8 u9 u10 u11 v0 v1 v2 v3 v4 v5 v6 v7 v8 v9 v10 v11 pX | skip
  have HA:=HE.fr _ au;have HB:=HE.fr _ ak;have hn0:((ma:Int)==0)=false:=by rw [beq_eq_false_iff_ne];have:=mt (o7 HB.own.2.1).1 HQ.out;omega
  replace HE:=(HE.Nk (s':=sa) (D:=Aa) (m:=na) (d:=ca) (v := .slice Ab nb cb) ay [⟨w.heap.size+1+1,.bool false,.slice none 0 0,.slice none 0 0⟩,⟨w.heap.size+1,.bool s',.slice B m d,.slice B' m' d'⟩] (fun b hb=>by simp only [List.mem_cons,List.not_mem_nil,or_false] at hb;rcases hb with rfl | rfl <;> exact ⟨(by repeat (first | exact aZ | assumption | refine .tail _ ?_)),by dsimp only;omega⟩)).Nk (s':=sb) (D:=Ba) (m:=ma) (d:=da) (v := .slice Bb mb db) ay [⟨w.heap.size,.bool sa,.slice Aa na ca,.slice Ab nb cb⟩,⟨w.heap.size+1+1,.bool false,.slice none 0 0,.slice none 0 0⟩] (fun b hb=>by simp only [List.mem_cons,List.not_mem_nil,or_false] at hb;rcases hb with rfl | rfl <;> exact ⟨(by repeat (first | exact aZ | assumption | refine .tail _ ?_)),by dsimp only;omega⟩);clear HA HB;generalize (((((((w2.setCell ⟨w.heap.size,0,none⟩ (.bool sa)).setCell ⟨w.heap.size,1,none⟩ (.slice Aa na ca)).setCell ⟨w.heap.size,2,none⟩ (.slice Ab nb cb)).setCell ⟨w.heap.size+1,0,none⟩ (.bool sb)).setCell ⟨w.heap.size+1,1,none⟩ (.slice Ba ma da)).setCell ⟨w.heap.size+1,2,none⟩ (.slice Bb mb db)))=W5 at *;obtain ⟨gJ,gK,ig,iq,q22,q23⟩:=HE.c3 ak;obtain ⟨q24,iC,iH,iI,iU,iV⟩:=HE.c3 au;obtain ⟨q30,iW,q32,jc,jd,q35⟩:=HE.c3 ay
  go_wp2_with fail
  have TA:=HE.ji au;have TB:=HE.ji ak
  go_region_held3 (fun w'=>w'.cell? ⟨w.heap.size,0,none⟩=some (.bool sa)/\w'.cell? ⟨w.heap.size,1,none⟩=some (.slice Aa na ca)/\w'.cell? ⟨w.heap.size,2,none⟩=some (.slice Ab nb cb)/\w'.cell? ⟨w.heap.size+1,0,none⟩=some (.bool sb)/\w'.cell? ⟨w.heap.size+1,1,none⟩=some (.slice Ba ma da)/\w'.cell? ⟨w.heap.size+1,2,none⟩=some (.slice Bb mb db)) (with_reducible first | exact cZ.cc TA TB | exact cZ.cc TA.drew TB.drew | exact cZ.cc UA UB)
   (first
    | (go_at_call 168;refine (ae6 (by with_reducible first | exact HE | exact HE.drew) (by repeat (first | exact aZ | assumption | refine .tail _ ?_)) HQ.out).mono ?_;rintro e wn ⟨sx,Ax,nx,cx,Ay,ny,cy,rfl,HE⟩;have TA:=HE.ji au;have TB:=HE.ji ak)
    | (go_at_call 84;refine (ajC (by with_reducible first | exact HE | exact HE.drew) (by repeat (first | exact aZ | assumption | refine .tail _ ?_)) (by repeat (first | exact aZ | assumption | refine .tail _ ?_)) af).mono ?_;rintro e wn ⟨sx,Ax,nx,cx,Ay,ny,cy,rfl,HE⟩;have TA:=HE.ji au;have TB:=HE.ji ak;have UA:=TA.FH (g':=w.heap.size+1+1) af (.bool sx) (.slice Ax nx cx) (.slice Ay ny cy);have UB:=TB.FH (g':=w.heap.size+1+1) af (.bool sx) (.slice Ax nx cx) (.slice Ay ny cy);obtain ⟨z0,z1,z2,z3,z4,z5⟩:=HE.c3 ay))
  go_wp2_with fail
  refine bodyPost_ret (v := .tuple #[.agg #[.bool sx,.slice Ax nx cx,.slice Ay ny cy],.nilIface]) (by simp [results,Tryz.results127,go_sem,z0,z1,z2]) rfl ?_;have HK:=(HE.ja (D:=Ax) (m:=nx) (d:=cx) ay sx (.slice Ay ny cy)).bare;exact ⟨_,_,_,_,_,_,_,rfl,HK.pick (fun _ he=>he) (fun _ he=>by rcases List.mem_cons.1 he with rfl | he;exact ak;exact .tail _ (.tail _ (.tail _ (.tail _ he))))⟩
end
section
variable {W0 w:World} {bs:List Bx} {L:List En} {ts:List Bt} {M:List Qn} {s s':Bool} {A A' B B':Option Addr} {n c n' c' m d m' d' k k':Nat} {q r:Rat} {b b':Bool}
set_option maxRecDepth 100000 in
set_option maxHeartbeats 1600000 in
theorem ac4(HE:bu W0 w bs L ts M)(h:⟨.agg #[.bool s,.slice A n c,.slice A' n' c'],q,k,b⟩∈M)(hk:k<=100000) :
  Calls Tryz.prog 91 #[.agg #[.bool s,.slice A n c,.slice A' n' c']] w (dR W0 bs L ts M (-q) k):=by
 refine Calls.mono (R:=dR w [] L [] M (-q) k) ?_ fun _ _ hh=>dR.of HE hh;replace HE:=(HE.here.dm (.bool s) (.slice A n c) (.slice A' n' c')).dm (.bool false) (.slice none 0 0) (.slice none 0 0);simp only [World.size_alloc] at HE;obtain ⟨q0,q1,q2,q3,q4,q5⟩:=HE.c3 au
 go_enter Tryz.func91,Tryz.ntmps91
 go_wp2_with fail
 refine (zB HE h hk).mono ?_;clear HE;rintro e w1 ⟨s1,A1,n1,c1,B1,m1,d1,rfl,HE⟩;clear q0 q1 q2 q3 q4 q5
 go_wp2_with fail
 refine (Ri HE ak hk).mono ?_;clear HE;rintro e w2 ⟨s2,A2,n2,c2,B2,m2,d2,rfl,HE⟩
 go_wp2_with fail
 refine (VX HE ak hk).mono ?_;clear HE;rintro e w3 ⟨sx,Ax,nx,cx,Ay,ny,cy,rfl,HE⟩;obtain ⟨q0,q1,q2,q3,q4,q5⟩:=HE.c3 ak
 go_wp2_with fail
 refine bodyPost_ret (v := .agg #[.bool sx,.slice Ax nx cx,.slice Ay ny cy]) (by simp [results,Tryz.results91,go_sem,q0,q1,q2]) rfl ?_;have HK:=(HE.ja (D:=Ax) (m:=nx) (d:=cx) ak sx (.slice Ay ny cy)).bare;exact ⟨_,_,_,_,_,_,_,rfl,HK.pick (fun _ he=>he) (fun _ he=>by rcases List.mem_cons.1 he with rfl | he;exact ak;exact .tail _ (.tail _ (.tail _ he)))⟩
end
end Go.Proofs.BGQ
namespace bF
open Go Go.RowKit
section
variable {P:Program} {ρ:Operand->Value} {w:World} {dst:Option Tmp} {ty:TypeId} {pos:String} {bD:Array Edge} {gd:Option (Nat×Bool)}
theorem aiB{t t':TypeId}{x y:Operand}{k:IntKind}{a b:Int}{c:Bool}(hx:ρ x = .int k a)(hy:ρ y = .int k b)(h:decide (a >= b)=c):(execOp ρ ⟨dst,.binOp .geq t x y t',ty,pos,bD,gd⟩).run P w = .ok (.value (.bool c)) w :=
 zQ hx hy (by rw [<- h];rfl) (.inr (.inr (.inr (.inl rfl))))
theorem Ia{t t':TypeId}{x y:Operand}{a b c:Bool}(hx:ρ x = .bool a)(hy:ρ y = .bool b)(hu : ∀ w,(underlying t).run P w = .ok .bool w)(h:(a != b)=c) :
  (execOp ρ ⟨dst,.binOp .neq t x y t',ty,pos,bD,gd⟩).run P w = .ok (.value (.bool c)) w:=by
 subst h;simp [execOp,hx,hy,eqGuard,binOp,SB hu,bne]
end
end bF
namespace bF
open Go Go.RowKit
section
variable {P:Program} {ops:Array Oper} {Q:Exit->Act->World->Prop} {late:List Nat} {S:World->Prop} {N d fuel:Nat} {T:List (Nat×Value)} {w:World} {U:List Box} {listed:Array Bool} {o:Oper} {v:Value}
theorem Jl1{t et:TypeId}{x:Operand}{g off:Nat}{vs:List Value}{ty:TypeId}{pos:String}{bD:Array Edge}(v:Value)(i j:Nat)(hc:vG ops late listed i=true)(hi:ops[i]? = some ⟨some d,.load t x,ty,pos,bD,none⟩)(hq : ∀ c a w,Q (.panic c) (a.put (some d) v) w->Q (.panic c) a w)(hN:Nat.ble (d+1) N=true)(hS:dI late listed->Boxed U w)(hx:ev T x=some (.pointer (some ⟨g,off,none⟩)))(hj:U[j]? = some ⟨g,et,vs⟩)(hg : ∀ w,(isAgg t).run P w = .ok false w)(hv:vs[off]? = some v)(h:JR P ops Q late (Boxed U) fuel (listed.setIfInBounds i true) N ((d,v)::T) w):JR P ops Q late (Boxed U) (fuel+1) listed N T w :=
 have ⟨a,b,c,e,f⟩:=Gm hc
 JR.iR v i j hi a b c e hq hN hS f hx hj hg hv rfl h
end
section
variable {P:Program} {ops:Array Oper} {Q:Exit->Act->World->Prop} {late:List Nat} {S:World->Prop} {N d fuel:Nat} {T:List (Nat×Value)} {W0 w w':World} {U:List Box} {Ps:List (World->Prop)} {listed:Array Bool} {o:Oper} {rest:List Oper}
theorem Do{t et:TypeId}{x:Operand}{g off:Nat}{vs:List Value}{ty:TypeId}{pos:String}{bD:Array Edge}(v:Value)(i j:Nat)(hi:ops[i]? = some ⟨some d,.load t x,ty,pos,bD,none⟩)(hS:dI late listed->Boxed U w)(hx:ev T x=some (.pointer (some ⟨g,off,none⟩)))(hj:U[j]? = some ⟨g,et,vs⟩)(hg : ∀ w,(isAgg t).run P w = .ok false w)(h:JR P ops Q late (Boxed U) fuel (listed.setIfInBounds i true) N ((d,v)::T) w)(hv:vs[off]? = some v:=by rfl)(hc:vG ops late listed i=true:=by kernel_rfl)(hN:Nat.ble (d+1) N=true:=by rfl)(hq : ∀ c a w,Q (.panic c) (a.put (some d) v) w->Q (.panic c) a w:=by exact fun _ _ _ h=>h):JR P ops Q late (Boxed U) (fuel+1) listed N T w:=Jl1 v i j hc hi hq hN hS hx hj hg hv h
end
end bF
namespace Go.Proofs.BGQ
open Go Go.RowKit Lw
section
variable {W0 w:World} {bs:List Bx} {L:List En} {ts:List Bt} {M:List Qn} {v v':Value} {q r:Rat} {k k':Nat} {b b':Bool}
theorem acV(HE:bu W0 w bs L ts M)(h:⟨v,q,k,b⟩∈M)(h':⟨v',r,k',b'⟩∈M)(hk:k+k'<=8000) :
  Calls Tryz.prog 46 #[v,v'] w fun e w'=>e = .returned (.int .i64 (eX q r))/\bu W0 w' bs L ts M:=by
 obtain ⟨s,A,n,c,A',n',c',e1⟩:=(HE.fr _ h).shape;obtain ⟨t,B,m,d,B',m',d',e2⟩:=(HE.fr _ h').shape;dsimp only at e1 e2;subst e1 e2;exact acU HE h h' hk
theorem ads(HE:bu W0 w bs L ts M)(h:⟨v,q,k,b⟩∈M)(hk:k<=100000) :
  Calls Tryz.prog 126 #[v] w fun e w'=>e = .returned (.int .i64 (iO q))/\bu W0 w' bs L ts M:=by
 obtain ⟨s,A,n,c,A',n',c',e1⟩:=(HE.fr _ h).shape;dsimp only at e1;subst e1;exact adr HE h hk
end
section
variable {W0 w:World} {bs:List Bx} {L:List En} {ts:List Bt} {M:List Qn} {v v':Value} {q r:Rat} {x y:Int} {k k':Nat} {b b':Bool}
theorem ail(HE:bu W0 w bs L ts M)(h:⟨v,q,k,b⟩∈M)(hk:k<=3000) :
  Calls Tryz.prog 54 #[v] w fun e w'=>e = .returned (.bool b)/\bu W0 w' bs L ts M:=by
 obtain ⟨s,A,n,c,A',n',c',e1⟩:=(HE.fr _ h).shape;dsimp only at e1;subst e1;exact Ho HE h hk
theorem ac7(HE:bu W0 w bs L ts M)(n1 : -9223372036854775808<=x)(n2:x<=9223372036854775807) :
  Calls Tryz.prog 47 #[.int .i64 x] w (oq W0 bs L ts M (x:Rat) 2):=(ac6 HE n1 n2).mono fun _ _ hh=>oq.of hh
end
open bF
section
variable {W0 w w':World} {U:List Box} {Ps:List (World->Prop)} {v v':Value} {q r:Rat} {x y:Int} {k k':Nat} {b b':Bool} {f:FuncId} {vs:List Value} {L:List En} {M:List Qn}
section
variable {b1 b2 s1 s2:Bool} {c1 c2 d1 d2 k1 k2 m1 m2 n1 n2:Nat} {A1 A2 B1 B2:Option Addr} {q1 q2:Rat}
theorem ac3(HT:Tz W0)(HB:Tab W0)(HS:St W0 U Ps w)(f1:FV (avS s1 A1 n1 c1 B1 m1 d1) q1 k1 b1 w)(hk:k1<=100000):bC Tryz.prog 91 [(avS s1 A1 n1 c1 B1 m1 d1)] w (lK W0 U Ps (-q1) (k1)) :=
 Cb HS (ac4 ((St.start HS HT HB).cons f1) ak hk)
theorem acS(HT:Tz W0)(HB:Tab W0)(HS:St W0 U Ps w)(f1:FV (avS s1 A1 n1 c1 B1 m1 d1) q1 k1 b1 w)(f2:FV (avS s2 A2 n2 c2 B2 m2 d2) q2 k2 b2 w)(hk:k1+k2<=8000):bC Tryz.prog 46 [(avS s1 A1 n1 c1 B1 m1 d1),(avS s2 A2 n2 c2 B2 m2 d2)] w (di W0 U Ps (.int .i64 (eX q1 q2))) :=
 ni HS (acV (((St.start HS HT HB).cons f2).cons f1) ak au hk)
theorem adq(HT:Tz W0)(HB:Tab W0)(HS:St W0 U Ps w)(f1:FV (avS s1 A1 n1 c1 B1 m1 d1) q1 k1 b1 w)(hk:k1<=100000):bC Tryz.prog 126 [(avS s1 A1 n1 c1 B1 m1 d1)] w (di W0 U Ps (.int .i64 (iO q1))) :=
 ni HS (ads ((St.start HS HT HB).cons f1) ak hk)
theorem acW(HT:Tz W0)(HB:Tab W0)(HS:St W0 U Ps w)(f1:FV (avS s1 A1 n1 c1 B1 m1 d1) q1 k1 b1 w)(f2:FV (avS s2 A2 n2 c2 B2 m2 d2) q2 k2 b2 w)(hk:k1+k2<=8000)(hr:q2≠0):bC Tryz.prog 127 [(avS s1 A1 n1 c1 B1 m1 d1),(avS s2 A2 n2 c2 B2 m2 d2)] w (fJ W0 U Ps (q1*q2⁻¹) (k1+k2+2) (.nilIface)) :=
 zn HS (acY (((St.start HS HT HB).cons f2).cons f1) ak au hk hr)
theorem SN(HT:Tz W0)(HB:Tab W0)(HS:St W0 U Ps w){z1:Int}(h1 : -9223372036854775808<=z1)(h2:z1<=9223372036854775807):bC Tryz.prog 47 [.int .i64 z1] w (lK W0 U Ps ((z1:Rat)) (2)) :=
 FN HS (ac7 (St.start HS HT HB)  h1 h2)
theorem Xd(HT:Tz W0)(HB:Tab W0)(HS:St W0 U Ps w)(f1:FV (avS s1 A1 n1 c1 B1 m1 d1) q1 k1 b1 w)(hk:k1<=3000):bC Tryz.prog 54 [(avS s1 A1 n1 c1 B1 m1 d1)] w (di W0 U Ps (.bool b1)) :=
 ni HS (ail ((St.start HS HT HB).cons f1) ak hk)
end
end
def Both(P:Program)(f f':FuncId)(q:Rat)(k:Nat)(b:Bool)(z:Int)(r:Rat)(K:Nat)(er er':Value):Prop :=
 ∀ (W0 w:World) (U:List Box) (Ps:List (World->Prop)) (s:Bool) (A:Option Addr) (n c:Nat) (B:Option Addr) (m d:Nat),Tz W0->Tab W0->St W0 U Ps w->FV (avS s A n c B m d) q k b w ->
  bC P f [(avS s A n c B m d),.int .i64 z] w (fJ W0 U Ps r K er)/\bC P f' [(avS s A n c B m d),.int .i64 z] w (fJ W0 U Ps r K er')
end Go.Proofs.BGQ
namespace Lw
open Go Go.RowKit bF
section
variable {s:Bool} {A B:Option Addr} {n c m d k:Nat} {q:Rat} {w:World}
theorem FV.lens(h:FV (avS s A n c B m d) q k true w):n<=k/\m<=k:=by
 obtain ⟨_,_,_,_,_,h6,h7,_⟩:=dB.own h;exact ⟨h6,h7⟩
theorem Xh{q:Rat} : rs q=true↔q<0:=by
 unfold rs;rw [decide_eq_true_iff,Rat.lt_iff];simp
theorem age{q:Rat}(h:q≠0):q⁻¹.num.natAbs=q.den/\(q⁻¹.num<0↔q.num<0)/\q⁻¹.den=q.num.natAbs/\q.num≠0/\q⁻¹.num≠0:=by
 have h0:q.num≠0:=fun e=>h (awo.1 e);have hd:q.den≠0:=q.den_nz;rw [Rat.num_inv,Rat.den_inv,if_neg h0];rcases Int.lt_trichotomy q.num 0 with hn | hn | hn
 ·rw [Int.sign_eq_neg_one_of_neg hn]
  refine ⟨by simp,?_,rfl,h0,?_⟩ <;> omega
 ·exact absurd hn h0
 ·rw [axj hn]
  refine ⟨by simp,?_,rfl,h0,?_⟩ <;> omega
theorem aim{q:Rat}(h:q≠0):rs q⁻¹=rs q/\rn q⁻¹=rd q/\rd q⁻¹=rn q:=by
 obtain ⟨h1,h2,h3,h4,h5⟩:=age h;unfold rs rn rd;rw [h1,h3,if_neg h4,if_neg h5];exact ⟨decide_eq_decide.2 h2,rfl,rfl⟩
theorem FV.inv(h:FV (avS s A n c B m d) q k true w)(hq:q≠0):FV (avS s B m d A n c) q⁻¹ k true w:=by
 obtain ⟨e1,e2,e3⟩:=aim hq;have:=h.lens;exact FV.mk (h.neg.trans e1.symm) (by rw [e2];exact h.den) (by rw [e3];exact h.num) this.2 this.1
end
theorem ai7(q:Rat):decide (iO q > 0)=decide (0<q):=by rw [Ye];exact Rn q 0
end Lw
namespace Lw
open Go Go.RowKit bF
theorem Yf(q:Rat):(iO q != 0)=(!(decide (q=0))):=by rw [<- Ij];rfl
def jh(u:Bool)(q:Rat):Int:=if u then 1 else if q<0 then 2 else 0
def dw(u1:Bool)(q1:Rat)(u2:Bool)(q2:Rat):Int:=if jh u1 q1=jh u2 q2 then eX q1 q2 else if jh u1 q1<jh u2 q2 then -1 else 1
def tin(u1:Bool)(q1:Rat)(u2:Bool)(q2:Rat)(u3:Bool)(q3:Rat):Bool:=decide (dw u1 q1 u2 q2=0)||decide (dw (jf u3 q3 u1 (-q1)) (jO u3 q3 u1 (-q1)) (jf u2 q2 u1 (-q1)) (jO u2 q2 u1 (-q1))<=0)
def lH(u1:Bool)(q1:Rat)(u2:Bool)(q2:Rat):Bool:=if jf u2 q2 u1 (-q1) then jf u1 q1 false 1 else if 0<jO u2 q2 u1 (-q1) then jf u1 q1 false (jO u2 q2 u1 (-q1)*(2:Rat)⁻¹) else jf u1 q1 true 0
def Aj(u1:Bool)(q1:Rat)(u2:Bool)(q2:Rat):Rat:=if jf u2 q2 u1 (-q1) then jO u1 q1 false 1 else if 0<jO u2 q2 u1 (-q1) then jO u1 q1 false (jO u2 q2 u1 (-q1)*(2:Rat)⁻¹) else jO u1 q1 true 0
theorem ajJ{u:Bool}{q:Rat}(h:u=true->q=0):u=true -> -q=0:=fun e=>by rw [h e];rfl
end Lw
namespace Go.Proofs.BGQ
open Go Go.RowKit Lw bF
section
variable {W0 w:World} {U:List Box} {Ps:List (World->Prop)}
set_option maxRecDepth 100000 in
set_option maxHeartbeats 400000 in
theorem zO(HT:Tz W0)(HB:Tab W0){s1:Bool}{A1:Option Addr}{n1 c1:Nat}{B1:Option Addr}{m1 d1:Nat}{q1:Rat}{k1:Nat}{b1:Bool}{u1:Bool}(HS:St W0 U Ps w)(f1:FV (.agg #[.bool s1,.slice A1 n1 c1,.slice B1 m1 d1]) q1 k1 b1 w)(hk:k1<=900)(hg:dM b1 u1 q1):bC Tryz.prog 17 [.agg #[.bool s1,.slice A1 n1 c1,.slice B1 m1 d1,.bool u1]] w (di W0 U Ps (.int .i64 0)):=by
 have HS:=HS.add (FV.stable _ _ _ _) f1;clear f1;refine cO Tryz.func17 rfl Tryz.ntmps17 rfl<|Js<|JL.box (vs:=[.bool s1,.slice A1 n1 c1,.slice B1 m1 d1,.bool u1]) HS rfl rfl rfl rfl (fun g21 dN HS => ?_);refine La rfl<|Jn<|JC.seq<|Js<|dS 0 rfl atI rfl atz<|JL.load (.agg #[.bool s1,.slice A1 n1 c1,.slice B1 m1 d1]) HS 0 rfl rfl rfl atD atz rfl rfl<|JL.call rfl rfl Tryz.call54 (Xd HT HB HS (HS.at_ 0 rfl) af)<|?_;rintro v22 dO ⟨rfl,HS⟩;refine Lz (.bool (!b1)) (fun a ha=>iE (ha.ev rfl))<|?_
 cases b1
 ·skip
  refine Lm rfl<|Lq<|Lq<|Lq<|kz<|kz<|kz<|kz<|Lq<|Lt rfl rfl<|Jn<|JC.bK rfl<|Js<|La rfl<|Jn<|Ja Tryz.results17 (.tmp rfl)<|?_;exact ⟨(absurd hg (by simp_all [dM])),HS.o0 1 1⟩
 ·skip
  refine Lm rfl<|bz (.pointer (some ⟨g21,3,none⟩)) (fun a ha=>je (ha.ev rfl) atI rfl atT rfl rfl)<|bz (.bool u1) (fun a ha=>lY (ha.ev rfl) atQ (HS.box _ ak) rfl)<|bJ rfl<|?_
  cases u1
  ·skip
   refine Lq<|Lq<|Lq<|Lq<|bz (.bool false) (fun a ha=>wz (ha.ev rfl) (ha.ev rfl))<|Lf rfl rfl<|Jn<|JC.bG rfl<|Jk<|Js<|La rfl<|Jn<|Ja Tryz.results17 (.tmp rfl)<|?_;exact ⟨rfl,HS.o0 1 1⟩
  ·skip
   refine bz (.pointer (some ⟨g21,0,none⟩)) (fun a ha=>je (ha.ev rfl) atI rfl atz rfl rfl)<|bz (.agg #[.bool s1,.slice A1 n1 c1,.slice B1 m1 d1]) (fun a ha=>dJ (ha.ev rfl) atD atz (HS.box _ ak) rfl rfl)<|JL.dD rfl rfl rfl rfl rfl rfl avm (D8 HT HB HS (HS.at_ 0 rfl) af)<|?_;rintro v25 gy ⟨rfl,HS⟩;refine bz (.bool (!(decide (q1=0)))) (fun a ha=>gG (ha.ev rfl) (ha.ev rfl) (Yf _))<|bz (.bool (!(decide (q1=0)))) (fun a ha=>lU (ha.ev rfl) (ha.ev rfl))<|Lf rfl rfl<|Jn<|?_
   cases F8:((decide (q1=0)))
   ·skip
    refine JC.bK rfl<|Js<|La rfl<|Jn<|Ja Tryz.results17 (.tmp rfl)<|?_;exact ⟨(absurd hg (by simp_all [dM])),HS.o0 1 1⟩
   ·skip
    refine JC.bG rfl<|Jk<|Js<|La rfl<|Jn<|Ja Tryz.results17 (.tmp rfl)<|?_;exact ⟨rfl,HS.o0 1 1⟩
set_option maxRecDepth 100000 in
set_option maxHeartbeats 400000 in
theorem NE(HT:Tz W0)(HB:Tab W0){s1:Bool}{A1:Option Addr}{n1 c1:Nat}{B1:Option Addr}{m1 d1:Nat}{q1:Rat}{k1:Nat}{b1:Bool}{u1:Bool}(HS:St W0 U Ps w)(f1:FV (.agg #[.bool s1,.slice A1 n1 c1,.slice B1 m1 d1]) q1 k1 b1 w)(hk:k1<=900)(hg:¬ dM b1 u1 q1):bC Tryz.prog 17 [.agg #[.bool s1,.slice A1 n1 c1,.slice B1 m1 d1,.bool u1]] w (di W0 U Ps (.int .i64 2)):=by
 have HS:=HS.add (FV.stable _ _ _ _) f1;clear f1;refine cO Tryz.func17 rfl Tryz.ntmps17 rfl<|Js<|JL.box (vs:=[.bool s1,.slice A1 n1 c1,.slice B1 m1 d1,.bool u1]) HS rfl rfl rfl rfl (fun g21 dN HS => ?_);refine La rfl<|Jn<|JC.seq<|Js<|dS 0 rfl atI rfl atz<|JL.load (.agg #[.bool s1,.slice A1 n1 c1,.slice B1 m1 d1]) HS 0 rfl rfl rfl atD atz rfl rfl<|JL.call rfl rfl Tryz.call54 (Xd HT HB HS (HS.at_ 0 rfl) af)<|?_;rintro v22 dO ⟨rfl,HS⟩;refine Lz (.bool (!b1)) (fun a ha=>iE (ha.ev rfl))<|?_
 cases b1
 ·skip
  refine Lm rfl<|Lq<|Lq<|Lq<|kz<|kz<|kz<|kz<|Lq<|Lt rfl rfl<|Jn<|JC.bK rfl<|Js<|La rfl<|Jn<|Ja Tryz.results17 (.tmp rfl)<|?_;exact ⟨rfl,HS.o0 1 1⟩
 ·skip
  refine Lm rfl<|bz (.pointer (some ⟨g21,3,none⟩)) (fun a ha=>je (ha.ev rfl) atI rfl atT rfl rfl)<|bz (.bool u1) (fun a ha=>lY (ha.ev rfl) atQ (HS.box _ ak) rfl)<|bJ rfl<|?_
  cases u1
  ·skip
   refine Lq<|Lq<|Lq<|Lq<|bz (.bool false) (fun a ha=>wz (ha.ev rfl) (ha.ev rfl))<|Lf rfl rfl<|Jn<|JC.bG rfl<|Jk<|Js<|La rfl<|Jn<|Ja Tryz.results17 (.tmp rfl)<|?_;exact ⟨(absurd (by simp_all [dM]) hg),HS.o0 1 1⟩
  ·skip
   refine bz (.pointer (some ⟨g21,0,none⟩)) (fun a ha=>je (ha.ev rfl) atI rfl atz rfl rfl)<|bz (.agg #[.bool s1,.slice A1 n1 c1,.slice B1 m1 d1]) (fun a ha=>dJ (ha.ev rfl) atD atz (HS.box _ ak) rfl rfl)<|JL.dD rfl rfl rfl rfl rfl rfl avm (D8 HT HB HS (HS.at_ 0 rfl) af)<|?_;rintro v25 gy ⟨rfl,HS⟩;refine bz (.bool (!(decide (q1=0)))) (fun a ha=>gG (ha.ev rfl) (ha.ev rfl) (Yf _))<|bz (.bool (!(decide (q1=0)))) (fun a ha=>lU (ha.ev rfl) (ha.ev rfl))<|Lf rfl rfl<|Jn<|?_
   cases F8:((decide (q1=0)))
   ·skip
    refine JC.bK rfl<|Js<|La rfl<|Jn<|Ja Tryz.results17 (.tmp rfl)<|?_;exact ⟨rfl,HS.o0 1 1⟩
   ·skip
    refine JC.bG rfl<|Jk<|Js<|La rfl<|Jn<|Ja Tryz.results17 (.tmp rfl)<|?_;exact ⟨(absurd (by simp_all [dM]) hg),HS.o0 1 1⟩
set_option maxRecDepth 100000 in
set_option maxHeartbeats 400000 in
theorem aiy(HT:Tz W0)(HB:Tab W0){s1:Bool}{A1:Option Addr}{n1 c1:Nat}{B1:Option Addr}{m1 d1:Nat}{q1:Rat}{k1:Nat}{b1:Bool}{u1:Bool}{s2:Bool}{A2:Option Addr}{n2 c2:Nat}{B2:Option Addr}{m2 d2:Nat}{q2:Rat}{k2:Nat}{b2:Bool}{u2:Bool}(HS:St W0 U Ps w)(f1:FV (.agg #[.bool s1,.slice A1 n1 c1,.slice B1 m1 d1]) q1 k1 b1 w)(f2:FV (.agg #[.bool s2,.slice A2 n2 c2,.slice B2 m2 d2]) q2 k2 b2 w)(hk:k1+k2<=800):bC Tryz.prog 23 [.agg #[.bool s1,.slice A1 n1 c1,.slice B1 m1 d1,.bool u1],.agg #[.bool s2,.slice A2 n2 c2,.slice B2 m2 d2,.bool u2]] w (di W0 U Ps (.bool (decide (u1=u2/\q1=q2)))):=by
 have HS:=HS.add (FV.stable _ _ _ _) f1;have HS:=HS.add (FV.stable _ _ _ _) f2;clear f1 f2;refine cO Tryz.func23 rfl Tryz.ntmps23 rfl<|Js<|JL.box (vs:=[.bool s1,.slice A1 n1 c1,.slice B1 m1 d1,.bool u1]) HS rfl rfl rfl rfl (fun g21 dN HS => ?_);refine JL.box (vs:=[.bool s2,.slice A2 n2 c2,.slice B2 m2 d2,.bool u2]) HS rfl rfl rfl rfl (fun g22 dO HS => ?_);refine La rfl<|Jn<|Js<|dS 3 rfl atI rfl atT<|JL.iR (.bool u1) HS 1 rfl rfl rfl atQ rfl<|dS 3 rfl atI rfl atT<|JL.iR (.bool u2) HS 0 rfl rfl rfl atQ rfl<|Lz (.bool (u1==u2)) (fun a ha=>Xp (ha.ev rfl) (ha.ev rfl) auS rfl)<|?_
 cases xO:((u1==u2))
 ·skip
  refine Lm rfl<|Lq<|Lq<|Lq<|Lq<|Lq<|Lq<|Lf rfl rfl<|La rfl<|Jn<|Ja Tryz.results23 (.tmp rfl)<|?_;exact ⟨(congrArg Value.bool (by simp_all)),HS.o0 2 2⟩
 ·skip
  refine Lm rfl<|bz (.pointer (some ⟨g21,0,none⟩)) (fun a ha=>je (ha.ev rfl) atI rfl atz rfl rfl)<|bz (.agg #[.bool s1,.slice A1 n1 c1,.slice B1 m1 d1]) (fun a ha=>dJ (ha.ev rfl) atD atz (HS.box _ au) rfl rfl)<|bz (.pointer (some ⟨g22,0,none⟩)) (fun a ha=>je (ha.ev rfl) atI rfl atz rfl rfl)<|bz (.agg #[.bool s2,.slice A2 n2 c2,.slice B2 m2 d2]) (fun a ha=>dJ (ha.ev rfl) atD atz (HS.box _ ak) rfl rfl)<|JL.dD rfl rfl rfl rfl rfl rfl avn (D7 HT HB HS (HS.at_ 1 rfl) (HS.at_ 0 rfl) af)<|?_;rintro v24 gu ⟨rfl,HS⟩;refine bz (.bool (decide (q1=q2))) (fun a ha=>dh (ha.ev rfl) (ha.ev rfl) (BL _ _))<|Lt rfl rfl<|La rfl<|Jn<|Ja Tryz.results23 (.tmp rfl)<|?_;exact ⟨(congrArg Value.bool (by simp_all)),HS.o0 2 2⟩
end
end Go.Proofs.BGQ
namespace Lw
theorem Rp.self{a:Tn}(h:a.1=true->a.2=0):Rp a (if a.1 then 0 else 1) (if a.1 then 1 else a.2):=by
 obtain ⟨u,q⟩:=a
 cases u
 ·exact .inr ⟨rfl,by simp,by simp⟩
 ·exact .inl ⟨rfl,h rfl,rfl,by simp⟩
theorem Ap{a b:Tn}(ha:tok a)(hb:tok b):tok (tA a b):=(Rp.add (Rp.self ha) (Rp.self hb)).ok
theorem wJ{a:Tn}(ha:tok a):tok (tN a):=(Rp.neg (Rp.self ha)).ok
theorem Yv{a b:Tn}(ha:tok a)(hb:tok b):tA a b=tA b a:=(Rp.add (Rp.self ha) (Rp.self hb)).uniq (Rp.add (Rp.self hb) (Rp.self ha)) (by grind)
theorem Yt{a b c:Tn}(ha:tok a)(hb:tok b)(hc:tok c):tA (tA a b) c=tA a (tA b c) :=
 (Rp.add (Rp.add (Rp.self ha) (Rp.self hb)) (Rp.self hc)).uniq (Rp.add (Rp.self ha) (Rp.add (Rp.self hb) (Rp.self hc))) (by grind)
theorem wI{a:Tn}(ha:tok a):tA a (tN a)=(false,0):=(Rp.add (Rp.self ha) (Rp.neg (Rp.self ha))).uniq Rp.one (by grind)
theorem Yx{a:Tn}(ha:tok a):tA a (false,0)=a:=(Rp.add (Rp.self ha) Rp.one).uniq (Rp.self ha) (by grind)
theorem Yu{a x:Tn}(ha:tok a)(hx:tok x):tA (tA x (tN a)) a=x:=by
 rw [Yt hx (wJ ha) ha,Yv (wJ ha) ha,wI ha,Yx hx]
theorem ajn{a e:Tn}(ha:tok a)(he:tok e):tA (tA a e) (tN a)=e:=by
 rw [Yv ha he,Yt he ha (wJ ha),wI ha,Yx he]
theorem Af{a x y:Tn}(ha:tok a)(hx:tok x)(hy:tok y)(h:tA x (tN a)=tA y (tN a)):x=y:=by
 rw [<- Yu ha hx,h,Yu ha hy]
def fA(a b:Tn):Int:=dw a.1 a.2 b.1 b.2
theorem l7{a b:Tn}(ha:tok a)(hb:tok b):fA a b=0↔a=b:=by
 obtain ⟨u,q⟩:=a;obtain ⟨u',q'⟩:=b;unfold fA dw jh eX;unfold tok at ha hb
 cases u <;> cases u' <;> simp only [Prod.mk.injEq] <;> grind
theorem NZ(a b:Tn):fA b a = -fA a b:=by
 obtain ⟨u,q⟩:=a;obtain ⟨u',q'⟩:=b;unfold fA dw jh eX
 cases u <;> cases u' <;> simp only <;> grind
theorem ajI{a b x:Tn}(h1:fA a b<0)(h2:fA b x<0):fA a x<0:=by
 obtain ⟨u,q⟩:=a;obtain ⟨u',q'⟩:=b;obtain ⟨u2,q2⟩:=x;unfold fA dw jh eX at *
 cases u <;> cases u' <;> cases u2 <;> simp only at * <;> grind
theorem ajH(a b:Tn):fA a b = -1\/fA a b=0\/fA a b=1:=by
 obtain ⟨u,q⟩:=a;obtain ⟨u',q'⟩:=b;unfold fA dw jh eX
 cases u <;> cases u' <;> simp only <;> grind
def tI(a b x:Tn):Bool:=tin a.1 a.2 b.1 b.2 x.1 x.2
theorem Iq(a b x:Tn):tI a b x=(decide (fA a b=0)||decide (fA (tA x (tN a)) (tA b (tN a))<=0)):=rfl
theorem ajp{a b x:Tn}(ha:tok a)(hb:tok b)(hx:tok x)(h1:fA a b≠0)(h2:fA b x≠0)(h3:fA a x≠0):tI a b x = !tI a x b:=by
 rw [Iq,Iq,decide_eq_false h1,decide_eq_false h3,Bool.false_or,Bool.false_or,NZ (tA x (tN a))]
 have h:fA (tA x (tN a)) (tA b (tN a))≠0:=fun e=>by
  have e2:=(l7 (Ap hx (wJ ha)) (Ap hb (wJ ha))).1 e;exact h2 ((l7 hb hx).2 (Af ha hx hb e2).symm)
 by_cases h4:fA (tA x (tN a)) (tA b (tN a))<=0
 ·rw [decide_eq_true h4,decide_eq_false af];rfl
 ·rw [decide_eq_false h4,decide_eq_true af];rfl
def tB(a b:Tn):Tn:=(lH a.1 a.2 b.1 b.2,Aj a.1 a.2 b.1 b.2)
def tE(d:Tn):Tn:=if d.1 then (false,1) else if 0<d.2 then (false,d.2*(2:Rat)⁻¹) else (true,0)
theorem Ah(a b:Tn):tB a b=tA a (tE (tA b (tN a))):=by
 unfold tB lH Aj tE tA tN;dsimp only
 split
 ·rfl
 ·split <;> rfl
theorem NV(d:Tn):tok (tE d):=by
 unfold tE tok
 split
 ·simp
 ·split <;> simp
theorem TY{q:Rat}(h:0<q):0<q*(2:Rat)⁻¹/\q*(2:Rat)⁻¹<q:=by
 have h2:(2:Rat)*2⁻¹=1:=by decide +kernel
 have h3:(0:Rat)<2⁻¹:=by decide +kernel
 have h4:=axe h h3;refine ⟨h4,?_⟩;have:q=q*2⁻¹+q*2⁻¹:=by grind
 grind
theorem ajo(d:Tn):tE d≠(false,0):=by
 unfold tE
 split
 ·simp
 ·split
  ·rename_i h1 h2
   intro e;have:=(TY h2).1
   injection e with _ e;grind
  ·simp
theorem Yy{d:Tn}(hd:tok d)(hn:d≠(false,0)):fA (tE d) d<0:=by
 obtain ⟨u,q⟩:=d;unfold tE
 cases u
 ·have:q≠0:=fun e=>hn (by rw [e])
  by_cases h:0<q
  ·have h2:=TY h
   simp only [h,if_true];simp;unfold fA dw jh eX;simp only;grind
  ·simp only [h,if_false];simp
   unfold fA dw jh eX;simp only;grind
 ·simp only [if_true]
  unfold fA dw jh;have:¬ (1:Rat)<0:=ai;simp [this]
theorem NU{a b:Tn}(ha:tok a)(hb:tok b):tI a b (tB a b)=true/\tB a b≠a/\(a≠b->tB a b≠b):=by
 have hd:=Ap hb (wJ ha);have he:=NV (tA b (tN a));have off:=ajn ha he;refine ⟨?_,?_,?_⟩
 ·rw [Iq,Ah,off]
  by_cases h:a=b
  ·rw [decide_eq_true ((l7 ha hb).2 h)];rfl
  ·have hn:tA b (tN a)≠(false,0):=fun e=>h (Af ha ha hb (by rw [e,wI ha]))
   have:=Yy hd hn;rw [decide_eq_true (p:=fA (tE _) _<=0) af,Bool.or_true]
 ·intro e
  rw [Ah] at e;rw [e,wI ha] at off;exact ajo _ off.symm
 ·intro h e
  have hn:tA b (tN a)≠(false,0):=fun e=>h (Af ha ha hb (by rw [e,wI ha]));have h1:=Yy hd hn;rw [Ah] at e;rw [e] at off;rw [<- off,(l7 hd hd).2 rfl] at h1;omega
end Lw
namespace Lw
def pI(a b x:Tn):Bool:=if fA a b<0 then decide (fA a x<=0)&&decide (fA x b<=0) else decide (fA a x<=0)||decide (fA x b<=0)
def dt(x y z t:Rat):Rat:=x*t-y*z
def jG(x1 y1 x2 y2 x3 y3:Rat):Rat:=dt x1 y1 x2 y2*dt x2 y2 x3 y3*dt x3 y3 x1 y1
theorem Eh{c p:Rat}(h:c≠0):c*c*p<0↔p<0:=by
 have h2:0<c*c:=by
  have:=uG c;rcases Rat.le_iff_lt_or_eq.1 this with h3 | h3
  ·exact h3
  ·exact absurd h3.symm (iD h h)
 constructor
 ·intro h3
  by_cases hp:p<0
  ·exact hp
  ·have:=Rat.mul_nonneg (Rat.le_of_lt h2) (Rat.not_lt.1 hp)
   grind
 ·intro h3
  have:=axe h2 (show 0 < -p by grind);grind
theorem X9{a b:Rat}(ha:a≠0)(hb:b≠0):a*b<0↔¬ (a<0↔b<0):=by
 by_cases h1:a<0 <;> by_cases h2:b<0
 ·have:=axe (show 0 < -a by grind) (show 0 < -b by grind)
  simp only [h1,h2,iff_self,not_true,iff_false];grind
 ·have:=axe (show 0 < -a by grind) (show 0<b by grind)
  simp only [h1,h2,true_iff,not_false_iff,iff_true];grind
 ·have:=axe (show 0<a by grind) (show 0 < -b by grind)
  simp only [h1,h2,not_false_iff,iff_true];grind
 ·have:=axe (show 0<a by grind) (show 0<b by grind)
  simp only [h1,h2,iff_self,not_true,iff_false];grind
theorem sg3{a b c:Rat}(ha:a≠0)(hb:b≠0)(hc:c≠0):a*b*c<0↔¬ (¬ (a<0↔b<0)↔c<0):=by
 rw [X9 (iD ha hb) hc,X9 ha hb]
theorem Wi{a b x:Tn}{x1 y1 x2 y2 x3 y3:Rat}(ha:Rp a x1 y1)(hx:Rp x x2 y2)(hb:Rp b x3 y3)(h1:a≠x)(h2:x≠b)(h3:b≠a):pI a b x=decide (jG x1 y1 x2 y2 x3 y3<0):=by
 obtain ⟨u,q⟩:=a;obtain ⟨u',q'⟩:=x;obtain ⟨u2,q2⟩:=b;rcases ha with ⟨a1,a2,a3,a4⟩ | ⟨a1,a2,a3⟩ <;> rcases hx with ⟨b1,b2,b3,b4⟩ | ⟨b1,b2,b3⟩ <;> rcases hb with ⟨c1,c2,c3,c4⟩ | ⟨c1,c2,c3⟩ <;> simp only at a1 a2 a3 b1 b2 b3 c1 c2 c3 <;> subst a1 b1 c1
 ·exact absurd (by rw [a2,b2]) h1
 ·exact absurd (by rw [a2,b2]) h1
 ·exact absurd (by rw [a2,c2]) h3
 ·have e:jG x1 y1 x2 y2 x3 y3=(y1*x2*x3)*(y1*x2*x3)*(q'-q2):=by unfold jG dt;grind
  have n:jG x1 y1 x2 y2 x3 y3<0↔q'-q2<0:=e ▸ Eh (p:=q'-q2) (iD (iD a4 b2) c2);have h4:q'≠q2:=fun e=>h2 (by rw [e]);rw [show decide (jG x1 y1 x2 y2 x3 y3<0)=decide (q'-q2<0) from decide_eq_decide.2 n];unfold pI fA dw jh eX;simp only;grind
 ·exact absurd (by rw [b2,c2]) h2
 ·have e:jG x1 y1 x2 y2 x3 y3=(x1*y2*x3)*(x1*y2*x3)*(q2-q):=by unfold jG dt;grind
  have n:jG x1 y1 x2 y2 x3 y3<0↔q2-q<0:=e ▸ Eh (p:=q2-q) (iD (iD a2 b4) c2);have h4:q2≠q:=fun e=>h3 (by rw [e]);rw [show decide (jG x1 y1 x2 y2 x3 y3<0)=decide (q2-q<0) from decide_eq_decide.2 n];unfold pI fA dw jh eX;simp only;grind
 ·have e:jG x1 y1 x2 y2 x3 y3=(x1*x2*y3)*(x1*x2*y3)*(q-q'):=by unfold jG dt;grind
  have n:jG x1 y1 x2 y2 x3 y3<0↔q-q'<0:=e ▸ Eh (p:=q-q') (iD (iD a2 b2) c4);have h4:q≠q':=fun e=>h1 (by rw [e]);rw [show decide (jG x1 y1 x2 y2 x3 y3<0)=decide (q-q'<0) from decide_eq_decide.2 n];unfold pI fA dw jh eX;simp only;grind
 ·have e:jG x1 y1 x2 y2 x3 y3=(x1*x2*x3)*(x1*x2*x3)*((q'-q)*(q2-q')*(q-q2)):=by unfold jG dt;grind
  have n:jG x1 y1 x2 y2 x3 y3<0↔(q'-q)*(q2-q')*(q-q2)<0:=e ▸ Eh (p:=(q'-q)*(q2-q')*(q-q2)) (iD (iD a2 b2) c2);have h4:q≠q':=fun e=>h1 (by rw [e]);have h5:q'≠q2:=fun e=>h2 (by rw [e]);have h6:q2≠q:=fun e=>h3 (by rw [e]);have s:=sg3 (a:=q'-q) (b:=q2-q') (c:=q-q2) (by grind) (by grind) (by grind);have d1:q'-q<0↔q'<q:=by grind
  have d2:q2-q'<0↔q2<q':=by grind
  have d3:q-q2<0↔q<q2:=by grind
  rw [d1,d2,d3] at s;rw [show decide (jG x1 y1 x2 y2 x3 y3<0)=decide (¬ (¬ (q'<q↔q2<q')↔q<q2)) from decide_eq_decide.2 (n.trans s)];clear e n s d1 d2 d3 a3 b3 c3 a2 b2 c2;unfold pI fA dw jh eX;simp only;grind
theorem Nb{a b x:Tn}(ha:tok a)(hb:tok b)(hx:tok x):pI a b x=tI a b x:=by
 rw [Iq]
 by_cases h1:a=b
 ·subst h1
  have e:=(l7 ha ha).2 rfl;rw [decide_eq_true e,Bool.true_or];unfold pI;rw [if_neg af,NZ a x]
  by_cases h:fA a x<=0
  ·rw [decide_eq_true h];rfl
  ·rw [decide_eq_false h,decide_eq_true af];rfl
 rw [decide_eq_false (mt (l7 ha hb).1 h1),Bool.false_or];have z:tok (false,0):=fun h=>by cases h
 have hd:=Ap hb (wJ ha);have he:=Ap hx (wJ ha);have n0:tA b (tN a)≠(false,0):=fun e=>h1 (Af ha ha hb (by rw [e,wI ha]))
 have lo : ∀ {d:Tn},tok d->fA (false,0) d<=0:=fun {d} hd=>by
  obtain ⟨u,q⟩:=d;unfold fA dw jh eX
  cases u <;> simp only <;> grind
 have Vg:fA (false,0) (tA b (tN a))<0:=by
  have:=lo hd;have:=mt (l7 z hd).1 (Ne.symm n0);omega
 have key : ∀ {e:Tn},tok e->pI (false,0) (tA b (tN a)) e=decide (fA e (tA b (tN a))<=0):=fun {e} he=>by
  unfold pI;rw [if_pos Vg,decide_eq_true (lo he),Bool.true_and]
 rw [<- key he]
 by_cases h2:a=x
 ·subst h2
  rw [wI ha,key z,decide_eq_true (Int.le_of_lt Vg)];unfold pI;have e:=(l7 ha ha).2 rfl;rw [e]
  split
  ·rw [decide_eq_true (p:=fA a b<=0) af];rfl
  ·rfl
 by_cases h3:x=b
 ·subst h3
  rw [key hd,(l7 hd hd).2 rfl];unfold pI;have e:=(l7 hx hx).2 rfl;rw [e]
  split
  ·rw [decide_eq_true (p:=fA a x<=0) af];rfl
  ·exact Bool.or_true _
 have ra:=Rp.self ha;have rb:=Rp.self hb;have rx:=Rp.self hx;generalize (if a.1 then (0:Rat) else 1)=x1 at ra;generalize (if a.1 then (1:Rat) else a.2)=y1 at ra;generalize (if b.1 then (0:Rat) else 1)=x3 at rb;generalize (if b.1 then (1:Rat) else b.2)=y3 at rb;generalize (if x.1 then (0:Rat) else 1)=x2 at rx;generalize (if x.1 then (1:Rat) else x.2)=y2 at rx;rw [Wi ra rx rb h2 h3 (Ne.symm h1)];have m2:tA x (tN a)≠(false,0):=fun e=>h2 (Af ha ha hx (by rw [e,wI ha]));have m3:tA x (tN a)≠tA b (tN a):=fun e=>h3 (Af ha hx hb e);have N:=Rp.norm ra;rw [Wi (a:=(false,0)) (x1:=x1*x1+y1*y1) (y1:=0) (.inr ⟨rfl,N,by simp⟩) (Rp.sub ra rx) (Rp.sub ra rb) (Ne.symm m2) m3 n0];apply decide_eq_decide.2;have e:jG (x1*x1+y1*y1) 0 (x2*x1+y2*y1) (y2*x1-x2*y1) (x3*x1+y3*y1) (y3*x1-x3*y1)=(x1*x1+y1*y1)*(x1*x1+y1*y1)*((x1*x1+y1*y1)*jG x1 y1 x2 y2 x3 y3):=by unfold jG dt;grind
 rw [e,Eh N]
 have N2:0<x1*x1+y1*y1:=by
  have:=uG x1;have:=uG y1;grind
 constructor
 ·intro h;have:=axe N2 (show 0 < -jG x1 y1 x2 y2 x3 y3 by grind);grind
 ·intro h
  by_cases hp:jG x1 y1 x2 y2 x3 y3<0
  ·exact hp
  ·have:=Rat.mul_nonneg (Rat.le_of_lt N2) (Rat.not_lt.1 hp);grind
end Lw
namespace Go.Proofs.BGQ
open Go Go.RowKit Lw bF
section
variable {W0 w:World} {U:List Box} {Ps:List (World->Prop)}
def ku(u:Bool)(q:Rat):Int:=if u then 0 else if q<0 then 1 else -1
theorem Xh(q:Rat):rs q=decide (q<0):=by
 unfold rs;apply decide_eq_decide.2;rw [<- Int.not_le,Rat.num_nonneg,Rat.not_le]
theorem GN(u1:Bool)(q1:Rat)(u2:Bool)(q2:Rat)(u3:Bool)(q3:Rat):pI (u1,q1) (u2,q2) (u3,q3)=if decide (dw u1 q1 u2 q2<0)=true then decide (dw u1 q1 u3 q3<=0)&&decide (dw u3 q3 u2 q2<=0) else decide (dw u1 q1 u3 q3<=0)||decide (dw u3 q3 u2 q2<=0):=by
 unfold pI fA
 by_cases h:dw u1 q1 u2 q2<0
 ·rw [if_pos h,if_pos (decide_eq_true h)]
 ·rw [if_neg h,if_neg (by rw [decide_eq_false h];decide)]
theorem ajR(u:Bool)(q:Rat)(v:Bool)(r:Rat):dX (ku u q) (ku v r)=dX (jh u q) (jh v r):=by
 unfold ku jh
 cases u <;> cases v <;> simp only [if_true,if_false,Bool.false_eq_true] <;> (try split) <;> (try split) <;> rfl
theorem Oa(u:Bool)(q:Rat)(v:Bool)(r:Rat):ku u q=ku v r↔jh u q=jh v r:=by
 unfold ku jh
 cases u <;> cases v <;> simp only [if_true,if_false,Bool.false_eq_true] <;> (try split) <;> (try split) <;> simp
theorem ajw{u:Bool}{q:Rat}{v:Bool}{r:Rat}(h:ku u q=ku v r):eX q r=dw u q v r:=by
 rw [dw,if_pos ((Oa u q v r).1 h)]
theorem ajx{u:Bool}{q:Rat}{v:Bool}{r:Rat}(h:¬ ku u q=ku v r):dX (ku u q) (ku v r)=dw u q v r:=by
 rw [dw,if_neg (mt (Oa u q v r).2 h),ajR];have h1:=mt (Oa u q v r).2 h;unfold dX
 by_cases h2:jh u q<jh v r
 ·rw [if_pos h2,if_pos h2]
 ·rw [if_neg h2,if_neg h2,if_neg h1]
theorem abw{x y:Int}(h:decide (x<y)=true) : -1=dX x y:=by have:=of_decide_eq_true h;unfold dX;rw [if_pos this]
theorem abv{x y:Int}(h:decide (x > y)=true):1=dX x y:=by have:=of_decide_eq_true h;unfold dX;rw [if_neg af,if_neg af]
theorem abu{x y:Int}(h:decide (x<y)=false)(h':decide (x > y)=false):0=dX x y:=by have h1:=of_decide_eq_false h;have h2:=of_decide_eq_false h';unfold dX;rw [if_neg h1,if_pos af]
set_option maxRecDepth 100000 in
set_option maxHeartbeats 400000 in
theorem ajZ(HT:Tz W0)(HB:Tab W0){g:Nat}{u1:Bool}{u2:Bool}{u3:Bool}{s1:Bool}{A1:Option Addr}{n1 c1:Nat}{B1:Option Addr}{m1 d1:Nat}{q1:Rat}{k1:Nat}{b1:Bool}{s2:Bool}{A2:Option Addr}{n2 c2:Nat}{B2:Option Addr}{m2 d2:Nat}{q2:Rat}{k2:Nat}{b2:Bool}{s3:Bool}{A3:Option Addr}{n3 c3:Nat}{B3:Option Addr}{m3 d3:Nat}{q3:Rat}{k3:Nat}{b3:Bool}(HS:St W0 (⟨g,26,[.bool s1,.slice A1 n1 c1,.slice B1 m1 d1,.bool u1,.bool s2,.slice A2 n2 c2,.slice B2 m2 d2,.bool u2,.bool s3,.slice A3 n3 c3,.slice B3 m3 d3,.bool u3]⟩::U) Ps w)(f1:FV (.agg #[.bool s1,.slice A1 n1 c1,.slice B1 m1 d1]) q1 k1 b1 w)(f2:FV (.agg #[.bool s2,.slice A2 n2 c2,.slice B2 m2 d2]) q2 k2 b2 w)(f3:FV (.agg #[.bool s3,.slice A3 n3 c3,.slice B3 m3 d3]) q3 k3 b3 w)(hk1:k1<=1000)(hk2:k2<=1000)(hk3:k3<=1000)(hg1:dM b1 u1 q1)(hg2:dM b2 u2 q2)(hg3:dM b3 u3 q3):bC Tryz.prog 49 [.slice (some ⟨g,0,none⟩) 3 3] w (di W0 (⟨g,26,[.bool s1,.slice A1 n1 c1,.slice B1 m1 d1,.bool u1,.bool s2,.slice A2 n2 c2,.slice B2 m2 d2,.bool u2,.bool s3,.slice A3 n3 c3,.slice B3 m3 d3,.bool u3]⟩::U) Ps (.nilIface)):=by
 have HS:=HS.add (FV.stable _ _ _ _) f1;have HS:=HS.add (FV.stable _ _ _ _) f2;have HS:=HS.add (FV.stable _ _ _ _) f3;clear f1 f2 f3;refine cO Tryz.func49 rfl Tryz.ntmps49 rfl<|Js<|La rfl<|Jn<|JC.seq<|Js<|Lm rfl<|Ll rfl atP<|Lm rfl<|Jn<|JC.block<|JC.yF 40<|Js<|Lz (.bool true) (fun a ha=>dU (ha.ev rfl) (ha.ev rfl) ai)<|Jn<|JC.seq<|JC.bK rfl<|Jk<|JC.seq<|JC.block<|Js<|Lz (.pointer (some ⟨g,0,none⟩)) (fun a ha=>kT (ha.ev rfl) (ha.ev rfl) atP atA (j:=0) rfl ai rfl)<|JL.load (.agg #[.bool s1,.slice A1 n1 c1,.slice B1 m1 d1,.bool u1]) HS 0 rfl rfl rfl atC atA rfl rfl<|JL.alloc (vs:=[.bool false,.slice none 0 0,.slice none 0 0,.bool false]) HS rfl atG rfl rfl (fun g21 dN HS => ?_);refine JL.store HS rfl rfl (i:=0) rfl atA rfl rfl rfl (vs':=[.bool s1,.slice A1 n1 c1,.slice B1 m1 d1,.bool u1]) rfl rfl (fun dO HS => ?_);refine Jn<|Js<|JL.load (.agg #[.bool s1,.slice A1 n1 c1,.slice B1 m1 d1,.bool u1]) HS 0 rfl rfl rfl atC atA rfl rfl<|JL.call rfl rfl auP (AB HT HB HS (HS.at_ 2 rfl) af hg1)<|?_;rintro v23 fH ⟨rfl,HS⟩;refine La rfl<|Jn<|Js<|Lm rfl<|Lz (.bool false) (fun a ha=>gB (ha.ev rfl) rfl atJ)<|Jn<|JC.bG rfl<|JC.kF (fun _ _ h=>h)<|JC.region<|Lz (.int .i64 1) (fun a ha=>iw (ha.ev rfl) (ha.ev rfl) ai)<|Lm rfl<|JL.again 39 (fun _ _ h=>h)<|Js<|Lz (.bool true) (fun a ha=>dU (ha.ev rfl) (ha.ev rfl) ai)<|Jn<|JC.seq<|JC.bK rfl<|Jk<|JC.seq<|JC.block<|Js<|Lz (.pointer (some ⟨g,4,none⟩)) (fun a ha=>kT (ha.ev rfl) (ha.ev rfl) atP atA (j:=1) rfl ai rfl)<|JL.load (.agg #[.bool s2,.slice A2 n2 c2,.slice B2 m2 d2,.bool u2]) HS 1 rfl rfl rfl atC atA rfl rfl<|JL.alloc (vs:=[.bool false,.slice none 0 0,.slice none 0 0,.bool false]) HS rfl atG rfl rfl (fun g24 gu HS => ?_);refine JL.store HS rfl rfl (i:=0) rfl atA rfl rfl rfl (vs':=[.bool s2,.slice A2 n2 c2,.slice B2 m2 d2,.bool u2]) rfl rfl (fun gy HS => ?_);refine Jn<|Js<|JL.load (.agg #[.bool s2,.slice A2 n2 c2,.slice B2 m2 d2,.bool u2]) HS 0 rfl rfl rfl atC atA rfl rfl<|JL.call rfl rfl auP (AB HT HB HS (HS.at_ 1 rfl) af hg2)<|?_;rintro v26 iJ ⟨rfl,HS⟩
 refine La rfl<|Jn<|Js<|Lm rfl<|Lz (.bool false) (fun a ha=>gB (ha.ev rfl) rfl atJ)<|Jn<|JC.bG rfl<|JC.kF (fun _ _ h=>h)<|JC.region<|Lz (.int .i64 2) (fun a ha=>iw (ha.ev rfl) (ha.ev rfl) ai)<|Lm rfl<|JL.again 38 (fun _ _ h=>h)<|Js<|Lz (.bool true) (fun a ha=>dU (ha.ev rfl) (ha.ev rfl) ai)<|Jn<|JC.seq<|JC.bK rfl<|Jk<|JC.seq<|JC.block<|Js<|Lz (.pointer (some ⟨g,8,none⟩)) (fun a ha=>kT (ha.ev rfl) (ha.ev rfl) atP atA (j:=2) rfl ai rfl)<|JL.load (.agg #[.bool s3,.slice A3 n3 c3,.slice B3 m3 d3,.bool u3]) HS 2 rfl rfl rfl atC atA rfl rfl<|JL.alloc (vs:=[.bool false,.slice none 0 0,.slice none 0 0,.bool false]) HS rfl atG rfl rfl (fun FK kN HS => ?_);refine JL.store HS rfl rfl (i:=0) rfl atA rfl rfl rfl (vs':=[.bool s3,.slice A3 n3 c3,.slice B3 m3 d3,.bool u3]) rfl rfl (fun lI HS => ?_);refine Jn<|Js<|JL.load (.agg #[.bool s3,.slice A3 n3 c3,.slice B3 m3 d3,.bool u3]) HS 0 rfl rfl rfl atC atA rfl rfl<|JL.call rfl rfl auP (AB HT HB HS (HS.at_ 0 rfl) af hg3)<|?_;rintro v29 kW ⟨rfl,HS⟩;refine La rfl<|Jn<|Js<|Lm rfl<|Lz (.bool false) (fun a ha=>gB (ha.ev rfl) rfl atJ)<|Jn<|JC.bG rfl<|JC.kF (fun _ _ h=>h)<|JC.region<|Lz (.int .i64 3) (fun a ha=>iw (ha.ev rfl) (ha.ev rfl) ai)<|Lm rfl<|JL.again 37 (fun _ _ h=>h)<|Js<|Lz (.bool false) (fun a ha=>dU (ha.ev rfl) (ha.ev rfl) ai)<|Jn<|JC.seq<|JC.bG rfl<|JC.exit (fun _ _ h=>h) (fun _ _ h=>h)<|Js<|La rfl<|Jn<|Ja Tryz.results49 (.tmp rfl)<|?_;exact ⟨rfl,HS.o0 3 3⟩
set_option maxRecDepth 100000 in
set_option maxHeartbeats 400000 in
theorem aj8(HT:Tz W0)(HB:Tab W0){s1:Bool}{A1:Option Addr}{n1 c1:Nat}{B1:Option Addr}{m1 d1:Nat}{q1:Rat}{k1:Nat}{b1:Bool}{u1:Bool}(HS:St W0 U Ps w)(f1:FV (.agg #[.bool s1,.slice A1 n1 c1,.slice B1 m1 d1]) q1 k1 b1 w)(hk:k1<=8000):bC Tryz.prog 52 [.agg #[.bool s1,.slice A1 n1 c1,.slice B1 m1 d1,.bool u1]] w (EG W0 U Ps (-q1) (u1) (k1)):=by
 have HS:=HS.add (FV.stable _ _ _ _) f1;clear f1;refine cO Tryz.func52 rfl Tryz.ntmps52 rfl<|Js<|JL.box (vs:=[.bool s1,.slice A1 n1 c1,.slice B1 m1 d1,.bool u1]) HS rfl rfl rfl rfl (fun g21 dN HS => ?_);refine JL.alloc (vs:=[.bool false,.slice none 0 0,.slice none 0 0,.bool false]) HS rfl atG rfl rfl (fun g22 dO HS => ?_);refine Jn<|JC.seq<|JC.draw HS [6] ah (fun fH HS => ?_);refine lM 0 0 rfl HS.b0 rfl atI rfl atz<|Da (.agg #[.bool s1,.slice A1 n1 c1,.slice B1 m1 d1]) 1 1 rfl HS.b0 rfl rfl atD atz<|lM 3 3 rfl HS.b0 rfl atI rfl atT<|Do (.bool u1) 4 1 rfl HS.b0 rfl rfl atQ<|bV 2 rfl rfl rfl Tryz.call91 (ac3 HT HB HS (HS.at_ 0 rfl) af)<|?_;rintro aqy arZ ⟨XH,OM,VJ,QG,PE,Vr,Rx,rfl,HS⟩;refine ⟨HS.b0,?_⟩;refine Dv (.agg #[.bool XH,.slice OM VJ QG,.slice PE Vr Rx,.bool u1]) 5 rfl HS.b0 (fun a ha w=>bF.run_build (ha.bW rfl) atI atG jb rfl)<|iZ 6 [.bool XH,.slice OM VJ QG,.slice PE Vr Rx,.bool u1] HS 0 rfl rfl rfl rfl atA (fun _ HS=>⟨(gZ (s:=6) rfl rfl),?_⟩);refine JR.next ah (fun _ _ h=>h)<|Ja Tryz.results52 (.agg rfl atC atA (HS.box _ ak) rfl rfl)<|?_;exact ⟨_,_,_,_,_,_,_,rfl,HS.oh 2 2 0 rfl (fun _ h=>h.as rfl af)⟩
set_option maxRecDepth 100000 in
set_option maxHeartbeats 400000 in
theorem YL(_HT:Tz W0)(_HB:Tab W0){s1:Bool}{A1:Option Addr}{n1 c1:Nat}{B1:Option Addr}{m1 d1:Nat}{q1:Rat}{k1:Nat}{u1:Bool}(HS:St W0 U Ps w)(f1:FV (.agg #[.bool s1,.slice A1 n1 c1,.slice B1 m1 d1]) q1 k1 true w)(hk:k1<=8000):bC Tryz.prog 125 [.agg #[.bool s1,.slice A1 n1 c1,.slice B1 m1 d1,.bool u1]] w (di W0 U Ps (.int .i64 (ku u1 q1))):=by
 have HS:=HS.add (FV.stable _ _ _ _) f1;clear f1;have hn1:=(FV.neg (HS.at_ 0 rfl)).trans (Xh q1);refine cO Tryz.func125 rfl Tryz.ntmps125 rfl<|Js<|JL.box (vs:=[.bool s1,.slice A1 n1 c1,.slice B1 m1 d1,.bool u1]) HS rfl rfl rfl rfl (fun g21 dN HS => ?_);refine La rfl<|Jn<|JC.seq<|JC.block<|Js<|dS 3 rfl atI rfl atT<|JL.iR (.bool u1) HS 0 rfl rfl rfl atQ rfl<|La rfl<|Jn<|?_
 cases u1
 ·skip
  refine JC.bG rfl<|Js<|dS 0 rfl atI rfl atz<|dS 0 rfl atL rfl atT<|JL.iR (.bool s1) HS 0 rfl rfl rfl atQ rfl<|La rfl<|Jn<|?_
  cases s1
  ·skip
   refine JC.bG rfl<|JC.kF (fun _ _ h=>h)<|Js<|La rfl<|Jn<|Ja (v := .int .i64 (-1)) Tryz.results125 (.tmp rfl)<|?_;exact ⟨(congrArg (Value.int .i64) (by simp_all [ku])),HS.o0 1 1⟩
  ·skip
   refine JC.bK rfl<|Js<|La rfl<|Jn<|Ja Tryz.results125 (.tmp rfl)<|?_;exact ⟨(congrArg (Value.int .i64) (by simp_all [ku])),HS.o0 1 1⟩
 ·skip
  refine JC.bK rfl<|Js<|La rfl<|Jn<|Ja Tryz.results125 (.tmp rfl)<|?_;exact ⟨(congrArg (Value.int .i64) (by simp_all [ku])),HS.o0 1 1⟩
set_option maxRecDepth 100000 in
set_option maxHeartbeats 400000 in
theorem Y2(_HT:Tz W0)(_HB:Tab W0){z1:Int}(HS:St W0 U Ps w)   : bC Tryz.prog 167 [.int .i64 z1] w (di W0 U Ps (.bool false)):=by
 refine cO Tryz.func167 rfl Tryz.ntmps167 rfl<|Js<|La rfl<|Jn<|Js<|Lm rfl<|Lm rfl<|Lz (.bool false) (fun a ha=>gG (ha.ev rfl) (ha.ev rfl) (by simp))<|La rfl<|Jn<|Ja Tryz.results167 (.tmp rfl)<|?_;exact ⟨rfl,HS.o0 0 0⟩
set_option maxRecDepth 100000 in
set_option maxHeartbeats 400000 in
theorem alu(HT:Tz W0)(HB:Tab W0){z1:Int}{z2:Int}(HS:St W0 U Ps w)   : bC Tryz.prog 124 [.int .i64 z1,.int .i64 z2] w (di W0 U Ps (.int .i64 (dX z1 z2))):=by
 refine cO Tryz.func124 rfl Tryz.ntmps124 rfl<|Js<|La rfl<|Jn<|Js<|Lm rfl<|JL.call rfl rfl Tryz.call167 (Y2 HT HB HS  )<|?_;rintro v21 dN ⟨rfl,HS⟩;refine La rfl<|Jn<|Js<|Lm rfl<|JL.call rfl rfl Tryz.call167 (Y2 HT HB HS  )<|?_;rintro v22 dO ⟨rfl,HS⟩;refine La rfl<|Jn<|JC.seq<|Js<|Lm rfl<|Jn<|JC.bG rfl<|Jk<|JC.seq<|Js<|Lm rfl<|Jn<|JC.bG rfl<|Jk<|JC.seq<|Js<|Lm rfl<|Lm rfl<|Lb rfl rfl<|Jn<|?_
 cases xO:(decide (z1<z2))
 ·skip
  refine JC.bG rfl<|Jk<|JC.seq<|Js<|Lm rfl<|Lm rfl<|Lz (.bool (decide (z1 > z2))) (fun a ha=>dH (ha.ev rfl) (ha.ev rfl) rfl)<|Jn<|?_
  cases rQ:(decide (z1 > z2))
  ·skip
   refine JC.bG rfl<|Jk<|Js<|La rfl<|Jn<|Ja Tryz.results124 (.tmp rfl)<|?_;exact ⟨(congrArg (Value.int .i64) (abu (by assumption) (by assumption))),HS.o0 0 0⟩
  ·skip
   refine JC.bK rfl<|Js<|La rfl<|Jn<|Ja Tryz.results124 (.tmp rfl)<|?_;exact ⟨(congrArg (Value.int .i64) (abv (by assumption))),HS.o0 0 0⟩
 ·skip
  refine JC.bK rfl<|Js<|La rfl<|Jn<|Ja (v := .int .i64 (-1)) Tryz.results124 (.tmp rfl)<|?_;exact ⟨(congrArg (Value.int .i64) (abw (by assumption))),HS.o0 0 0⟩
set_option maxRecDepth 100000 in
set_option maxHeartbeats 400000 in
theorem IB(HT:Tz W0)(HB:Tab W0){s1:Bool}{A1:Option Addr}{n1 c1:Nat}{B1:Option Addr}{m1 d1:Nat}{q1:Rat}{k1:Nat}{u1:Bool}{s2:Bool}{A2:Option Addr}{n2 c2:Nat}{B2:Option Addr}{m2 d2:Nat}{q2:Rat}{k2:Nat}{u2:Bool}(HS:St W0 U Ps w)(f1:FV (.agg #[.bool s1,.slice A1 n1 c1,.slice B1 m1 d1]) q1 k1 true w)(f2:FV (.agg #[.bool s2,.slice A2 n2 c2,.slice B2 m2 d2]) q2 k2 true w)(hk:k1+k2<=8000):bC Tryz.prog 77 [.agg #[.bool s1,.slice A1 n1 c1,.slice B1 m1 d1,.bool u1],.agg #[.bool s2,.slice A2 n2 c2,.slice B2 m2 d2,.bool u2]] w (di W0 U Ps (.int .i64 (dw u1 q1 u2 q2))):=by
 have HS:=HS.add (FV.stable _ _ _ _) f1;have HS:=HS.add (FV.stable _ _ _ _) f2;clear f1 f2;refine cO Tryz.func77 rfl Tryz.ntmps77 rfl<|Js<|JL.box (vs:=[.bool s1,.slice A1 n1 c1,.slice B1 m1 d1,.bool u1]) HS rfl rfl rfl rfl (fun g21 dN HS => ?_);refine JL.box (vs:=[.bool s2,.slice A2 n2 c2,.slice B2 m2 d2,.bool u2]) HS rfl rfl rfl rfl (fun g22 dO HS => ?_);refine La rfl<|Jn<|JC.seq<|JC.seq<|JC.draw HS [] ah (fun fH HS => ?_);refine Da (.agg #[.bool s1,.slice A1 n1 c1,.slice B1 m1 d1,.bool u1]) 0 1 rfl HS.b0 rfl rfl atC atA<|Da (.agg #[.bool s2,.slice A2 n2 c2,.slice B2 m2 d2,.bool u2]) 2 0 rfl HS.b0 rfl rfl atC atA<|bV 1 rfl rfl rfl Tryz.call125 (YL HT HB HS (HS.at_ 1 rfl) af)<|?_;rintro aqx arY ⟨rfl,HS⟩;refine ⟨HS.b0,?_⟩;refine bV 3 rfl rfl rfl Tryz.call125 (YL HT HB HS (HS.at_ 0 rfl) af)<|?_;rintro aqz ar0 ⟨rfl,HS⟩;refine ⟨HS.b0,?_⟩;refine bV 4 rfl rfl rfl Tryz.call124 (alu HT HB HS  )<|?_;rintro akv akW ⟨rfl,HS⟩;refine ⟨HS.b0,?_⟩;refine Ds 5 rfl HS.b0 rfl<|JR.next ah (fun _ _ h=>h)<|Js<|Lm rfl<|Lz (.bool (!(decide ((ku u1 q1)=(ku u2 q2))))) (fun a ha=>gG (ha.ev rfl) (ha.ev rfl) (Ky _ _))<|Jn<|?_
 cases Ux:((decide ((ku u1 q1)=(ku u2 q2))))
 ·skip
  refine JC.bK rfl<|Js<|Lm rfl<|La rfl<|Jn<|Ja Tryz.results77 (.tmp rfl)<|?_;exact ⟨(congrArg (Value.int .i64) (ajx (of_decide_eq_false (by assumption)))),HS.o0 2 2⟩
 ·skip
  refine JC.bG rfl<|Jk<|Js<|dS 0 rfl atI rfl atz<|JL.load (.agg #[.bool s1,.slice A1 n1 c1,.slice B1 m1 d1]) HS 1 rfl rfl rfl atD atz rfl rfl<|dS 0 rfl atI rfl atz<|JL.load (.agg #[.bool s2,.slice A2 n2 c2,.slice B2 m2 d2]) HS 0 rfl rfl rfl atD atz rfl rfl<|JL.call rfl rfl Tryz.call46 (acS HT HB HS (HS.at_ 1 rfl) (HS.at_ 0 rfl) af)<|?_;rintro v26 iJ ⟨rfl,HS⟩;refine La rfl<|Jn<|Ja Tryz.results77 (.tmp rfl)<|?_;exact ⟨(congrArg (Value.int .i64) (ajw (of_decide_eq_true (by assumption)))),HS.o0 2 2⟩
set_option maxRecDepth 100000 in
set_option maxHeartbeats 400000 in
theorem akk(HT:Tz W0)(HB:Tab W0){s1:Bool}{A1:Option Addr}{n1 c1:Nat}{B1:Option Addr}{m1 d1:Nat}{q1:Rat}{k1:Nat}{u1:Bool}(HS:St W0 U Ps w)(f1:FV (.agg #[.bool s1,.slice A1 n1 c1,.slice B1 m1 d1]) q1 k1 true w)(hk:k1<=2000):bC Tryz.prog 78 [.agg #[.bool s1,.slice A1 n1 c1,.slice B1 m1 d1,.bool u1]] w (EG W0 U Ps ((tE (u1,q1)).2) ((tE (u1,q1)).1) (k1+6)):=by
 have HS:=HS.add (FV.stable _ _ _ _) f1;clear f1;refine cO Tryz.func78 rfl Tryz.ntmps78 rfl<|Js<|JL.box (vs:=[.bool s1,.slice A1 n1 c1,.slice B1 m1 d1,.bool u1]) HS rfl rfl rfl rfl (fun g21 dN HS => ?_);refine JL.alloc (vs:=[.bool false,.slice none 0 0,.slice none 0 0,.bool false]) HS rfl atG rfl rfl (fun g22 dO HS => ?_);refine Jn<|JC.seq<|JC.block<|Js<|dS 3 rfl atI rfl atT<|JL.iR (.bool u1) HS 1 rfl rfl rfl atQ rfl<|La rfl<|Jn<|?_
 cases u1
 ·skip
  refine JC.bG rfl<|Js<|dS 0 rfl atI rfl atz<|JL.load (.agg #[.bool s1,.slice A1 n1 c1,.slice B1 m1 d1]) HS 1 rfl rfl rfl atD atz rfl rfl<|JL.call rfl rfl Tryz.call126 (adq HT HB HS (HS.at_ 0 rfl) af)<|?_;rintro v24 gu ⟨rfl,HS⟩;refine Lz (.bool (decide (0<q1))) (fun a ha=>dH (ha.ev rfl) (ha.ev rfl) (ai7 _))<|La rfl<|Jn<|?_
  cases Ux:((decide (0<q1)))
  ·skip
   refine JC.bG rfl<|JC.kF (fun _ _ h=>h)<|Js<|Lz (.agg #[.bool false,.slice none 0 0,.slice none 0 0,.bool true]) (fun a ha=>bF.run_build (ha.bW rfl) atI atG jb rfl)<|JL.store HS rfl rfl (i:=0) rfl atA rfl rfl rfl (vs':=[.bool false,.slice none 0 0,.slice none 0 0,.bool true]) rfl rfl (fun iJ HS => ?_);refine Jn<|Ja Tryz.results78 (.agg rfl atC atA (HS.box _ ak) rfl rfl)<|?_;exact ⟨_,_,_,_,_,_,_,(yT (by simp_all [tE])),(HS.add (FV.stable _ _ _ _) (FV.zero 0 _)).out 2 2 0 rfl rfl rfl (fun _ h=>h.as (by simp_all [tE]) af)⟩
  ·skip
   refine JC.bK rfl<|JC.Rw HS.tg (ι:=Bool×Option Addr×Nat×Nat×Option Addr×Nat×Nat×Bool×Option Addr×Nat×Nat×Option Addr×Nat×Nat×Nat) (fun ⟨Ef,Bc,Dy,BJ,Bf,Dp,BN,pg,nY,o5,oG,og,oZ,oI,zl⟩=>[(2,.pointer (some ⟨g22,0,none⟩)),(3,.pointer (some ⟨zl,0,none⟩))]) (fun ⟨Ef,Bc,Dy,BJ,Bf,Dp,BN,pg,nY,o5,oG,og,oZ,oI,zl⟩ w Ua Pa=>St W0 (⟨zl,24,[.bool pg,.slice nY o5 oG,.slice og oZ oI]⟩::Ua) (FV (.agg #[.bool pg,.slice nY o5 oG,.slice og oZ oI]) (q1*(2:Rat)⁻¹) (k1+2+2) true::FV (.agg #[.bool Ef,.slice Bc Dy BJ,.slice Bf Dp BN]) (2:Rat) 2 true::Pa) w) ?_ ?_
   ·skip
    refine JC.draw HS [] ah (fun lI HS => ?_);refine lM 0 0 rfl HS.fb rfl atI rfl atz<|Da (.agg #[.bool s1,.slice A1 n1 c1,.slice B1 m1 d1]) 1 1 rfl HS.fb rfl rfl atD atz<|JR.any [2,7] ah rfl<|?_
    repeat' first
     | refine JR.any [3,7] (by decide +kernel) rfl ?_
     | refine J1 7 (by decide +kernel) ?_
     | refine J1 8 (by decide +kernel) ?_
     | refine J1 3 (by decide +kernel) ?_
     | refine J1 2 (by decide +kernel) ?_
     |
      refine bZ.is 2<|bZ.call rfl rfl rfl Tryz.call47 (SN HT HB HS  ai ai) rfl (fun YR YZ ZZ => ?_) ?_;obtain ⟨Ef,Bc,Dy,BJ,Bf,Dp,BN,rfl,HS⟩:=ZZ;refine ⟨HS.fb,?_⟩
     |
      refine bZ.is 3<|bZ.call rfl rfl rfl Tryz.call127 (acW HT HB HS (HS.at_ 1 rfl) (HS.at_ 0 rfl) af ai) rfl (fun aky akZ Z4 => ?_) ?_;obtain ⟨pg,nY,o5,oG,og,oZ,oI,rfl,HS⟩:=Z4;refine ⟨HS.fb,?_⟩;refine Dm 4 rfl HS.fb rfl<|Dx 5 rfl HS.fb rfl rfl<|Dx 6 rfl HS.fb rfl rfl<|?_
     |
      refine bZ.is 7<|bZ.alloc (vs:=[.bool false,.slice none 0 0,.slice none 0 0]) HS rfl rfl atF rfl rfl rfl (fun zl asf HS => ?_) ?_;refine ⟨HS.fb,?_⟩
     |
      refine bZ.is 8<|bZ.store HS rfl rfl rfl 0 rfl atz rfl rfl rfl (vs':=[.bool pg,.slice nY o5 oG,.slice og oZ oI]) rfl rfl rfl (fun asg HS => ?_) ?_;have HS:St W0 (_::_) _ _:=HS;refine ⟨HS.fb,?_⟩;refine Ds 9 rfl HS.fb rfl<|?_;exact JR.mt (Ef,Bc,Dy,BJ,Bf,Dp,BN,pg,nY,o5,oG,og,oZ,oI,zl) HS
     | exact bZ.nil
   ·skip
    rintro ⟨Ef,Bc,Dy,BJ,Bf,Dp,BN,pg,nY,o5,oG,og,oZ,oI,zl⟩ atv HS
    try dsimp only at HS ⊢
    refine Js<|JL.load (.agg #[.bool pg,.slice nY o5 oG,.slice og oZ oI]) HS 0 rfl rfl rfl atD atz rfl rfl<|Lz (.agg #[.bool pg,.slice nY o5 oG,.slice og oZ oI,.bool false]) (fun a ha=>bF.run_build (ha.bW rfl) atI atG jb rfl)<|JL.store HS rfl rfl (i:=1) rfl atA rfl rfl rfl (vs':=[.bool pg,.slice nY o5 oG,.slice og oZ oI,.bool false]) rfl rfl (fun kW HS => ?_);refine Jn<|Ja Tryz.results78 (.agg rfl atC atA (HS.box _ au) rfl rfl)<|?_;exact ⟨_,_,_,_,_,_,_,(yT (by simp_all [tE])),HS.oh 3 3 0 rfl (fun _ h=>h.as (by simp_all [tE]) af)⟩
 ·skip
  refine JC.bK rfl<|Js<|JL.call rfl rfl Tryz.call47 (SN HT HB HS  ai ai)<|?_;rintro v30 nS ⟨mQ,l9,n30,mJ,pU,m30,d30,rfl,HS⟩;refine Lz (.agg #[.bool mQ,.slice l9 n30 mJ,.slice pU m30 d30,.bool false]) (fun a ha=>bF.run_build (ha.bW rfl) atI atG jb rfl)<|JL.store HS rfl rfl (i:=0) rfl atA rfl rfl rfl (vs':=[.bool mQ,.slice l9 n30 mJ,.slice pU m30 d30,.bool false]) rfl rfl (fun nT HS => ?_);refine Jn<|Ja Tryz.results78 (.agg rfl atC atA (HS.box _ ak) rfl rfl)<|?_;exact ⟨_,_,_,_,_,_,_,(yT (by simp_all [tE])),HS.oh 2 2 0 rfl (fun _ h=>h.as (by simp_all [tE]) af)⟩
set_option maxRecDepth 100000 in
set_option maxHeartbeats 400000 in
theorem qM(HT:Tz W0)(HB:Tab W0){s1:Bool}{A1:Option Addr}{n1 c1:Nat}{B1:Option Addr}{m1 d1:Nat}{q1:Rat}{k1:Nat}{b1:Bool}{u1:Bool}{s2:Bool}{A2:Option Addr}{n2 c2:Nat}{B2:Option Addr}{m2 d2:Nat}{q2:Rat}{k2:Nat}{b2:Bool}{u2:Bool}(HS:St W0 U Ps w)(f1:FV (.agg #[.bool s1,.slice A1 n1 c1,.slice B1 m1 d1]) q1 k1 b1 w)(f2:FV (.agg #[.bool s2,.slice A2 n2 c2,.slice B2 m2 d2]) q2 k2 b2 w)(hk1:k1<=200)(hk2:k2<=200)(hg1:dM b1 u1 q1)(hg2:dM b2 u2 q2):bC Tryz.prog 33 [.agg #[.bool s1,.slice A1 n1 c1,.slice B1 m1 d1,.bool u1],.agg #[.bool s2,.slice A2 n2 c2,.slice B2 m2 d2,.bool u2]] w (di W0 U Ps (.tuple #[.int .i64 (dw u1 q1 u2 q2),.nilIface])):=by
 have HS:=HS.add (FV.stable _ _ _ _) f1;have HS:=HS.add (FV.stable _ _ _ _) f2;clear f1 f2;obtain ⟨rfl,t1⟩:=hg1;have hg1:dM true u1 q1:=⟨rfl,t1⟩;obtain ⟨rfl,t2⟩:=hg2;have hg2:dM true u2 q2:=⟨rfl,t2⟩;refine cO Tryz.func33 rfl Tryz.ntmps33 rfl<|Js<|JL.box (vs:=[.bool s1,.slice A1 n1 c1,.slice B1 m1 d1,.bool u1]) HS rfl rfl rfl rfl (fun g21 dN HS => ?_);refine JL.box (vs:=[.bool s2,.slice A2 n2 c2,.slice B2 m2 d2,.bool u2]) HS rfl rfl rfl rfl (fun g22 dO HS => ?_);refine La rfl<|La rfl<|Jn<|JC.seq<|Js<|JL.load (.agg #[.bool s1,.slice A1 n1 c1,.slice B1 m1 d1,.bool u1]) HS 1 rfl rfl rfl atC atA rfl rfl<|JL.load (.agg #[.bool s2,.slice A2 n2 c2,.slice B2 m2 d2,.bool u2]) HS 0 rfl rfl rfl atC atA rfl rfl<|JL.buildSlice (vs:=[.bool s1,.slice A1 n1 c1,.slice B1 m1 d1,.bool u1,.bool s2,.slice A2 n2 c2,.slice B2 m2 d2,.bool u2]) HS rfl (fun a ha=>ha.bW rfl) atP atA atG rfl rfl ah rfl (fun g23 fH HS => ?_);refine JL.call rfl rfl auQ (Og HT HB HS (HS.at_ 1 rfl) (HS.at_ 0 rfl) af af hg1 hg2)<|?_;rintro v24 gu ⟨rfl,HS⟩;refine La rfl<|Jn<|Js<|Lm rfl<|Lz (.bool false) (fun a ha=>gB (ha.ev rfl) rfl atJ)<|Jn<|JC.bG rfl<|Jk<|Js<|JL.load (.agg #[.bool s1,.slice A1 n1 c1,.slice B1 m1 d1,.bool u1]) HS 2 rfl rfl rfl atC atA rfl rfl<|JL.load (.agg #[.bool s2,.slice A2 n2 c2,.slice B2 m2 d2,.bool u2]) HS 1 rfl rfl rfl atC atA rfl rfl<|JL.call rfl rfl avF (IB HT HB HS (HS.at_ 1 rfl) (HS.at_ 0 rfl) af)<|?_;rintro v25 gy ⟨rfl,HS⟩;refine La rfl<|La rfl<|Jn<|Jb Tryz.results33 (.tmp rfl) (.tmp rfl)<|?_;exact ⟨rfl,HS.o0 3 2⟩
set_option maxRecDepth 100000 in
set_option maxHeartbeats 400000 in
theorem yE(HT:Tz W0)(HB:Tab W0){s1:Bool}{A1:Option Addr}{n1 c1:Nat}{B1:Option Addr}{m1 d1:Nat}{q1:Rat}{k1:Nat}{b1:Bool}{u1:Bool}{s2:Bool}{A2:Option Addr}{n2 c2:Nat}{B2:Option Addr}{m2 d2:Nat}{q2:Rat}{k2:Nat}{b2:Bool}{u2:Bool}{s3:Bool}{A3:Option Addr}{n3 c3:Nat}{B3:Option Addr}{m3 d3:Nat}{q3:Rat}{k3:Nat}{b3:Bool}{u3:Bool}(HS:St W0 U Ps w)(f1:FV (.agg #[.bool s1,.slice A1 n1 c1,.slice B1 m1 d1]) q1 k1 b1 w)(f2:FV (.agg #[.bool s2,.slice A2 n2 c2,.slice B2 m2 d2]) q2 k2 b2 w)(f3:FV (.agg #[.bool s3,.slice A3 n3 c3,.slice B3 m3 d3]) q3 k3 b3 w)(hk1:k1<=200)(hk2:k2<=200)(hk3:k3<=200)(hg1:dM b1 u1 q1)(hg2:dM b2 u2 q2)(hg3:dM b3 u3 q3):bC Tryz.prog 41 [.agg #[.bool s1,.slice A1 n1 c1,.slice B1 m1 d1,.bool u1],.agg #[.bool s2,.slice A2 n2 c2,.slice B2 m2 d2,.bool u2],.agg #[.bool s3,.slice A3 n3 c3,.slice B3 m3 d3,.bool u3]] w (di W0 U Ps (.tuple #[.bool (pI (u1,q1) (u2,q2) (u3,q3)),.nilIface])):=by
 have HS:=HS.add (FV.stable _ _ _ _) f1;have HS:=HS.add (FV.stable _ _ _ _) f2;have HS:=HS.add (FV.stable _ _ _ _) f3;clear f1 f2 f3;obtain ⟨rfl,t1⟩:=hg1;have hg1:dM true u1 q1:=⟨rfl,t1⟩;obtain ⟨rfl,t2⟩:=hg2;have hg2:dM true u2 q2:=⟨rfl,t2⟩;obtain ⟨rfl,t3⟩:=hg3;have hg3:dM true u3 q3:=⟨rfl,t3⟩;refine cO Tryz.func41 rfl Tryz.ntmps41 rfl<|Js<|JL.box (vs:=[.bool s1,.slice A1 n1 c1,.slice B1 m1 d1,.bool u1]) HS rfl rfl rfl rfl (fun g21 dN HS => ?_);refine JL.box (vs:=[.bool s2,.slice A2 n2 c2,.slice B2 m2 d2,.bool u2]) HS rfl rfl rfl rfl (fun g22 dO HS => ?_);refine JL.box (vs:=[.bool s3,.slice A3 n3 c3,.slice B3 m3 d3,.bool u3]) HS rfl rfl rfl rfl (fun g23 fH HS => ?_);refine La rfl<|La rfl<|Jn<|JC.seq<|Js<|JL.load (.agg #[.bool s1,.slice A1 n1 c1,.slice B1 m1 d1,.bool u1]) HS 2 rfl rfl rfl atC atA rfl rfl<|JL.load (.agg #[.bool s2,.slice A2 n2 c2,.slice B2 m2 d2,.bool u2]) HS 1 rfl rfl rfl atC atA rfl rfl<|JL.load (.agg #[.bool s3,.slice A3 n3 c3,.slice B3 m3 d3,.bool u3]) HS 0 rfl rfl rfl atC atA rfl rfl<|JL.buildSlice (vs:=[.bool s1,.slice A1 n1 c1,.slice B1 m1 d1,.bool u1,.bool s2,.slice A2 n2 c2,.slice B2 m2 d2,.bool u2,.bool s3,.slice A3 n3 c3,.slice B3 m3 d3,.bool u3]) HS rfl (fun a ha=>ha.bW rfl) atP atA atG rfl rfl ah rfl (fun g24 gu HS => ?_);refine JL.call rfl rfl auQ (ajZ HT HB HS (HS.at_ 2 rfl) (HS.at_ 1 rfl) (HS.at_ 0 rfl) af af af hg1 hg2 hg3)<|?_;rintro v25 gy ⟨rfl,HS⟩;refine La rfl<|Jn<|Js<|Lm rfl<|Lz (.bool false) (fun a ha=>gB (ha.ev rfl) rfl atJ)<|Jn<|JC.bG rfl<|Jk<|JC.seq<|JC.draw HS [] ah (fun iJ HS => ?_);refine Da (.agg #[.bool s1,.slice A1 n1 c1,.slice B1 m1 d1,.bool u1]) 0 3 rfl HS.b0 rfl rfl atC atA<|Da (.agg #[.bool s3,.slice A3 n3 c3,.slice B3 m3 d3,.bool u3]) 1 1 rfl HS.b0 rfl rfl atC atA<|Da (.agg #[.bool s3,.slice A3 n3 c3,.slice B3 m3 d3,.bool u3]) 4 1 rfl HS.b0 rfl rfl atC atA<|Da (.agg #[.bool s2,.slice A2 n2 c2,.slice B2 m2 d2,.bool u2]) 5 2 rfl HS.b0 rfl rfl atC atA<|bV 2 rfl rfl rfl avF (IB HT HB HS (HS.at_ 2 rfl) (HS.at_ 0 rfl) af)<|?_
 rintro YR YZ ⟨rfl,HS⟩;refine ⟨HS.b0,?_⟩;refine Dv (.bool (decide ((dw u1 q1 u3 q3)<=0))) 3 rfl HS.b0 (fun a ha w=>yu (ha.ev rfl) (ha.ev rfl) rfl)<|bV 6 rfl rfl rfl avF (IB HT HB HS (HS.at_ 0 rfl) (HS.at_ 1 rfl) af)<|?_;rintro akA ak1 ⟨rfl,HS⟩;refine ⟨HS.b0,?_⟩;refine Dv (.bool (decide ((dw u3 q3 u2 q2)<=0))) 7 rfl HS.b0 (fun a ha w=>yu (ha.ev rfl) (ha.ev rfl) rfl)<|Ds 8 rfl HS.b0 rfl<|Ds 9 rfl HS.b0 rfl<|JR.next ah (fun _ _ h=>h)<|JC.seq<|Js<|JL.load (.agg #[.bool s1,.slice A1 n1 c1,.slice B1 m1 d1,.bool u1]) HS 3 rfl rfl rfl atC atA rfl rfl<|JL.load (.agg #[.bool s2,.slice A2 n2 c2,.slice B2 m2 d2,.bool u2]) HS 2 rfl rfl rfl atC atA rfl rfl<|JL.call rfl rfl avF (IB HT HB HS (HS.at_ 2 rfl) (HS.at_ 1 rfl) af)<|?_;rintro v28 lI ⟨rfl,HS⟩;refine Lb rfl rfl<|Jn<|?_
 cases xP:((decide ((dw u1 q1 u2 q2)<0)))
 ·skip
  refine JC.bG rfl<|Jk<|Js<|Lm rfl<|?_
  cases Uy:((decide ((dw u1 q1 u3 q3)<=0)))
  ·skip
   refine Lm rfl<|bJ rfl<|Lf rfl rfl<|La rfl<|La rfl<|Jn<|Jb Tryz.results41 (.tmp rfl) (.tmp rfl)<|?_;exact ⟨(congrArg (fun z=>Value.tuple #[.bool z,.nilIface]) (by rw [GN,xP,Uy];rfl)),HS.o0 4 3⟩
  ·skip
   refine Lm rfl<|Lq<|Lt rfl rfl<|La rfl<|La rfl<|Jn<|Jb Tryz.results41 (.tmp rfl) (.tmp rfl)<|?_;exact ⟨(congrArg (fun z=>Value.tuple #[.bool z,.nilIface]) (by rw [GN,xP,Uy];rfl)),HS.o0 4 3⟩
 ·skip
  refine JC.bK rfl<|Js<|Lm rfl<|?_
  cases CZ:((decide ((dw u1 q1 u3 q3)<=0)))
  ·skip
   refine Lm rfl<|Lq<|Lf rfl rfl<|La rfl<|La rfl<|Jn<|Jb Tryz.results41 (.tmp rfl) (.tmp rfl)<|?_;exact ⟨(congrArg (fun z=>Value.tuple #[.bool z,.nilIface]) (by rw [GN,xP,CZ];rfl)),HS.o0 4 3⟩
  ·skip
   refine Lm rfl<|bJ rfl<|Lt rfl rfl<|La rfl<|La rfl<|Jn<|Jb Tryz.results41 (.tmp rfl) (.tmp rfl)<|?_;exact ⟨(congrArg (fun z=>Value.tuple #[.bool z,.nilIface]) (by rw [GN,xP,CZ];rfl)),HS.o0 4 3⟩
set_option maxRecDepth 100000 in
set_option maxHeartbeats 400000 in
theorem ajY(HT:Tz W0)(HB:Tab W0){s1:Bool}{A1:Option Addr}{n1 c1:Nat}{B1:Option Addr}{m1 d1:Nat}{q1:Rat}{k1:Nat}{b1:Bool}{u1:Bool}{s2:Bool}{A2:Option Addr}{n2 c2:Nat}{B2:Option Addr}{m2 d2:Nat}{q2:Rat}{k2:Nat}{b2:Bool}{u2:Bool}(HS:St W0 U Ps w)(f1:FV (.agg #[.bool s1,.slice A1 n1 c1,.slice B1 m1 d1]) q1 k1 b1 w)(f2:FV (.agg #[.bool s2,.slice A2 n2 c2,.slice B2 m2 d2]) q2 k2 b2 w)(hk1:k1<=200)(hk2:k2<=200)(hg1:dM b1 u1 q1)(hg2:dM b2 u2 q2):bC Tryz.prog 34 [.agg #[.bool s1,.slice A1 n1 c1,.slice B1 m1 d1,.bool u1],.agg #[.bool s2,.slice A2 n2 c2,.slice B2 m2 d2,.bool u2]] w (mD W0 U Ps (Aj u1 q1 u2 q2) (lH u1 q1 u2 q2) (6*k1+4*k2+60) (.nilIface)):=by
 have HS:=HS.add (FV.stable _ _ _ _) f1;have HS:=HS.add (FV.stable _ _ _ _) f2;clear f1 f2;obtain ⟨rfl,t1⟩:=hg1;have hg1:dM true u1 q1:=⟨rfl,t1⟩;obtain ⟨rfl,t2⟩:=hg2;have hg2:dM true u2 q2:=⟨rfl,t2⟩;refine cO Tryz.func34 rfl Tryz.ntmps34 rfl<|Js<|JL.box (vs:=[.bool s1,.slice A1 n1 c1,.slice B1 m1 d1,.bool u1]) HS rfl rfl rfl rfl (fun g21 dN HS => ?_);refine JL.box (vs:=[.bool s2,.slice A2 n2 c2,.slice B2 m2 d2,.bool u2]) HS rfl rfl rfl rfl (fun g22 dO HS => ?_);refine JL.alloc (vs:=[.bool false,.slice none 0 0,.slice none 0 0,.bool false]) HS rfl atG rfl rfl (fun g23 fH HS => ?_);refine La rfl<|Jn<|JC.seq<|Js<|JL.load (.agg #[.bool s1,.slice A1 n1 c1,.slice B1 m1 d1,.bool u1]) HS 2 rfl rfl rfl atC atA rfl rfl<|JL.load (.agg #[.bool s2,.slice A2 n2 c2,.slice B2 m2 d2,.bool u2]) HS 1 rfl rfl rfl atC atA rfl rfl<|JL.buildSlice (vs:=[.bool s1,.slice A1 n1 c1,.slice B1 m1 d1,.bool u1,.bool s2,.slice A2 n2 c2,.slice B2 m2 d2,.bool u2]) HS rfl (fun a ha=>ha.bW rfl) atP atA atG rfl rfl ah rfl (fun g24 gu HS => ?_);refine JL.call rfl rfl auQ (Og HT HB HS (HS.at_ 1 rfl) (HS.at_ 0 rfl) af af hg1 hg2)<|?_;rintro v25 gy ⟨rfl,HS⟩;refine La rfl<|Jn<|Js<|Lm rfl<|Lz (.bool false) (fun a ha=>gB (ha.ev rfl) rfl atJ)<|Jn<|JC.bG rfl<|Jk<|JC.seq<|JC.draw HS [7] ah (fun iJ HS => ?_);refine Da (.agg #[.bool s1,.slice A1 n1 c1,.slice B1 m1 d1,.bool u1]) 0 3 rfl HS.b0 rfl rfl atC atA<|Da (.agg #[.bool s2,.slice A2 n2 c2,.slice B2 m2 d2,.bool u2]) 1 2 rfl HS.b0 rfl rfl atC atA<|Da (.agg #[.bool s1,.slice A1 n1 c1,.slice B1 m1 d1,.bool u1]) 2 3 rfl HS.b0 rfl rfl atC atA<|bV 3 rfl rfl rfl Tryz.call52 (aj8 HT HB HS (HS.at_ 1 rfl) af)<|?_;rintro aky akZ ⟨pg,nY,o5,oG,og,oZ,oI,rfl,HS⟩;refine ⟨HS.b0,?_⟩;refine bV 4 rfl rfl rfl Tryz.call76 (Oe HT HB HS (HS.at_ 1 rfl) (HS.at_ 0 rfl) af t2 (ajJ t1))<|?_;rintro akz ak0 ⟨XM,OV,VP,QL,amd,an4,amX,rfl,HS⟩;refine ⟨HS.b0,?_⟩;refine bV 5 rfl rfl rfl Tryz.call78 (akk HT HB HS (HS.at_ 0 rfl) af)<|?_;rintro aqL ase ⟨apW,alZ,aos,amI,ame,an5,amY,rfl,HS⟩;refine ⟨HS.b0,?_⟩
 refine bV 6 rfl rfl rfl Tryz.call76 (Oe HT HB HS (HS.at_ 4 rfl) (HS.at_ 0 rfl) af t1 (NV _))<|?_;rintro akA ak1 ⟨aiQ,Zj,afS,abk,Zw,afs,abU,rfl,HS⟩;refine ⟨HS.b0,?_⟩;refine iZ 7 [.bool aiQ,.slice Zj afS abk,.slice Zw afs abU,.bool (jf u1 q1 ((tE ((jf u2 q2 u1 (-q1)),(jO u2 q2 u1 (-q1)))).1) ((tE ((jf u2 q2 u1 (-q1)),(jO u2 q2 u1 (-q1)))).2))] HS 1 rfl rfl rfl rfl atA (fun _ HS=>⟨(gZ (s:=7) rfl rfl),?_⟩);refine Ds 8 rfl (gZ (s:=7) rfl rfl) rfl<|JR.next ah (fun _ _ h=>h)<|Jb Tryz.results34 (.agg rfl atC atA (HS.box _ au) rfl rfl) (.tmp rfl)<|?_;exact ⟨_,_,_,_,_,_,_,(Iy (congrArg Prod.fst (Ah (u1,q1) (u2,q2)).symm)),HS.oh 4 6 0 rfl (fun _ h=>h.as (congrArg Prod.snd (Ah (u1,q1) (u2,q2)).symm) af)⟩
end
section
variable {W0 w:World} {U:List Box} {Ps:List (World->Prop)}
set_option maxRecDepth 100000 in
set_option maxHeartbeats 400000 in
theorem akh(_HT:Tz W0)(_HB:Tab W0){g:Nat}{s1:Bool}{A1:Option Addr}{n1 c1:Nat}{B1:Option Addr}{m1 d1:Nat}{s2:Bool}{A2:Option Addr}{n2 c2:Nat}{B2:Option Addr}{m2 d2:Nat}{s3:Bool}{A3:Option Addr}{n3 c3:Nat}{B3:Option Addr}{m3 d3:Nat}(HS:St W0 (⟨g,24,[.bool s1,.slice A1 n1 c1,.slice B1 m1 d1,.bool s2,.slice A2 n2 c2,.slice B2 m2 d2,.bool s3,.slice A3 n3 c3,.slice B3 m3 d3]⟩::U) Ps w)   : bC Tryz.prog 12 [.slice (some ⟨g,0,none⟩) 3 3] w (di W0 (⟨g,24,[.bool s1,.slice A1 n1 c1,.slice B1 m1 d1,.bool s2,.slice A2 n2 c2,.slice B2 m2 d2,.bool s3,.slice A3 n3 c3,.slice B3 m3 d3]⟩::U) Ps (.bool (decide (n1<=6/\m1<=6/\n2<=6/\m2<=6/\n3<=6/\m3<=6)))):=by
 refine cO Tryz.func12 rfl Tryz.ntmps12 rfl<|Js<|La rfl<|Jn<|JC.seq<|Js<|Lm rfl<|Ll rfl auo<|Lm rfl<|Jn<|JC.block<|JC.yF 40<|Js<|Lz (.bool true) (fun a ha=>dU (ha.ev rfl) (ha.ev rfl) ai)<|Jn<|JC.seq<|JC.bK rfl<|Jk<|JC.seq<|JC.block<|Js<|Lz (.pointer (some ⟨g,0,none⟩)) (fun a ha=>kT (ha.ev rfl) (ha.ev rfl) auo atz (j:=0) rfl ai rfl)<|JL.load (.agg #[.bool s1,.slice A1 n1 c1,.slice B1 m1 d1]) HS 0 rfl rfl rfl atD atz rfl rfl<|JL.alloc (vs:=[.bool false,.slice none 0 0,.slice none 0 0]) HS rfl atF rfl rfl (fun g21 dN HS => ?_);refine JL.store HS rfl rfl (i:=0) rfl atz rfl rfl rfl (vs':=[.bool s1,.slice A1 n1 c1,.slice B1 m1 d1]) rfl rfl (fun dO HS => ?_);refine Jn<|Js<|dS 1 rfl atL rfl atY<|JL.iR (.slice A1 n1 c1) HS 0 rfl rfl rfl atZ rfl<|Ll rfl auh<|Lz (.bool (decide ((n1:Int) > 6))) (fun a ha=>dH (ha.ev rfl) (ha.ev rfl) rfl)<|?_
 cases xO:(decide ((n1:Int) > 6))
 ·skip
  have Lp:=of_decide_eq_false xO;refine Lm rfl<|bz (.pointer (some ⟨g21,2,none⟩)) (fun a ha=>je (ha.ev rfl) atL rfl atY rfl rfl)<|bz (.slice B1 m1 d1) (fun a ha=>lY (ha.ev rfl) atZ (HS.box _ ak) rfl)<|bz (aj m1) (fun a ha=>yw (ha.ev rfl) auh)<|bz (.bool (decide ((m1:Int) > 6))) (fun a ha=>dH (ha.ev rfl) (ha.ev rfl) rfl)<|Lf rfl rfl<|Jn<|?_
  cases rQ:(decide ((m1:Int) > 6))
  ·skip
   have hd24:=of_decide_eq_false rQ;refine JC.bG rfl<|JC.kF (fun _ _ h=>h)<|JC.region<|Lz (.int .i64 1) (fun a ha=>iw (ha.ev rfl) (ha.ev rfl) ai)<|Lm rfl<|JL.again 39 (fun _ _ h=>h)<|Js<|Lz (.bool true) (fun a ha=>dU (ha.ev rfl) (ha.ev rfl) ai)<|Jn<|JC.seq<|JC.bK rfl<|Jk<|JC.seq<|JC.block<|Js<|Lz (.pointer (some ⟨g,3,none⟩)) (fun a ha=>kT (ha.ev rfl) (ha.ev rfl) auo atz (j:=1) rfl ai rfl)<|JL.load (.agg #[.bool s2,.slice A2 n2 c2,.slice B2 m2 d2]) HS 1 rfl rfl rfl atD atz rfl rfl<|JL.alloc (vs:=[.bool false,.slice none 0 0,.slice none 0 0]) HS rfl atF rfl rfl (fun lV gy HS => ?_);refine JL.store HS rfl rfl (i:=0) rfl atz rfl rfl rfl (vs':=[.bool s2,.slice A2 n2 c2,.slice B2 m2 d2]) rfl rfl (fun iJ HS => ?_);refine Jn<|Js<|dS 1 rfl atL rfl atY<|JL.iR (.slice A2 n2 c2) HS 0 rfl rfl rfl atZ rfl<|Ll rfl auh<|Lz (.bool (decide ((n2:Int) > 6))) (fun a ha=>dH (ha.ev rfl) (ha.ev rfl) rfl)<|?_
   cases rU:(decide ((n2:Int) > 6))
   ·skip
    have hd27:=of_decide_eq_false rU;refine Lm rfl<|bz (.pointer (some ⟨lV,2,none⟩)) (fun a ha=>je (ha.ev rfl) atL rfl atY rfl rfl)<|bz (.slice B2 m2 d2) (fun a ha=>lY (ha.ev rfl) atZ (HS.box _ ak) rfl)<|bz (aj m2) (fun a ha=>yw (ha.ev rfl) auh)<|bz (.bool (decide ((m2:Int) > 6))) (fun a ha=>dH (ha.ev rfl) (ha.ev rfl) rfl)<|Lf rfl rfl<|Jn<|?_
    cases rV:(decide ((m2:Int) > 6))
    ·skip
     have hd28:=of_decide_eq_false rV;refine JC.bG rfl<|JC.kF (fun _ _ h=>h)<|JC.region<|Lz (.int .i64 2) (fun a ha=>iw (ha.ev rfl) (ha.ev rfl) ai)<|Lm rfl<|JL.again 38 (fun _ _ h=>h)<|Js<|Lz (.bool true) (fun a ha=>dU (ha.ev rfl) (ha.ev rfl) ai)<|Jn<|JC.seq<|JC.bK rfl<|Jk<|JC.seq<|JC.block<|Js<|Lz (.pointer (some ⟨g,6,none⟩)) (fun a ha=>kT (ha.ev rfl) (ha.ev rfl) auo atz (j:=2) rfl ai rfl)<|JL.load (.agg #[.bool s3,.slice A3 n3 c3,.slice B3 m3 d3]) HS 2 rfl rfl rfl atD atz rfl rfl<|JL.alloc (vs:=[.bool false,.slice none 0 0,.slice none 0 0]) HS rfl atF rfl rfl (fun FM kW HS => ?_);refine JL.store HS rfl rfl (i:=0) rfl atz rfl rfl rfl (vs':=[.bool s3,.slice A3 n3 c3,.slice B3 m3 d3]) rfl rfl (fun nS HS => ?_);refine Jn<|Js<|dS 1 rfl atL rfl atY<|JL.iR (.slice A3 n3 c3) HS 0 rfl rfl rfl atZ rfl<|Ll rfl auh<|Lz (.bool (decide ((n3:Int) > 6))) (fun a ha=>dH (ha.ev rfl) (ha.ev rfl) rfl)<|?_
     cases CZ:(decide ((n3:Int) > 6))
     ·skip
      have hd31:=of_decide_eq_false CZ;refine Lm rfl<|bz (.pointer (some ⟨FM,2,none⟩)) (fun a ha=>je (ha.ev rfl) atL rfl atY rfl rfl)<|bz (.slice B3 m3 d3) (fun a ha=>lY (ha.ev rfl) atZ (HS.box _ ak) rfl)<|bz (aj m3) (fun a ha=>yw (ha.ev rfl) auh)<|bz (.bool (decide ((m3:Int) > 6))) (fun a ha=>dH (ha.ev rfl) (ha.ev rfl) rfl)<|Lf rfl rfl<|Jn<|?_
      cases Uz:(decide ((m3:Int) > 6))
      ·skip
       have hd32:=of_decide_eq_false Uz;refine JC.bG rfl<|JC.kF (fun _ _ h=>h)<|JC.region<|Lz (.int .i64 3) (fun a ha=>iw (ha.ev rfl) (ha.ev rfl) ai)<|Lm rfl<|JL.again 37 (fun _ _ h=>h)<|Js<|Lz (.bool false) (fun a ha=>dU (ha.ev rfl) (ha.ev rfl) ai)<|Jn<|JC.seq<|JC.bG rfl<|JC.exit (fun _ _ h=>h) (fun _ _ h=>h)<|Js<|La rfl<|Jn<|Ja Tryz.results12 (.tmp rfl)<|?_;exact ⟨(congrArg Value.bool (decide_eq_true af).symm),HS.o0 3 0⟩
      ·skip
       have hd32:=of_decide_eq_true Uz;refine JC.bK rfl<|Js<|La rfl<|Jn<|Ja Tryz.results12 (.tmp rfl)<|?_;exact ⟨(congrArg Value.bool (decide_eq_false af).symm),HS.o0 3 0⟩
     ·skip
      have hd31:=of_decide_eq_true CZ;refine Lm rfl<|Lq<|Lq<|Lq<|Lq<|Lt rfl rfl<|Jn<|JC.bK rfl<|Js<|La rfl<|Jn<|Ja Tryz.results12 (.tmp rfl)<|?_;exact ⟨(congrArg Value.bool (decide_eq_false af).symm),HS.o0 3 0⟩
    ·skip
     have hd28:=of_decide_eq_true rV;refine JC.bK rfl<|Js<|La rfl<|Jn<|Ja Tryz.results12 (.tmp rfl)<|?_;exact ⟨(congrArg Value.bool (decide_eq_false af).symm),HS.o0 2 0⟩
   ·skip
    have hd27:=of_decide_eq_true rU;refine Lm rfl<|Lq<|Lq<|Lq<|Lq<|Lt rfl rfl<|Jn<|JC.bK rfl<|Js<|La rfl<|Jn<|Ja Tryz.results12 (.tmp rfl)<|?_;exact ⟨(congrArg Value.bool (decide_eq_false af).symm),HS.o0 2 0⟩
  ·skip
   have hd24:=of_decide_eq_true rQ;refine JC.bK rfl<|Js<|La rfl<|Jn<|Ja Tryz.results12 (.tmp rfl)<|?_;exact ⟨(congrArg Value.bool (decide_eq_false af).symm),HS.o0 1 0⟩
 ·skip
  have Lp:=of_decide_eq_true xO;refine Lm rfl<|Lq<|Lq<|Lq<|Lq<|Lt rfl rfl<|Jn<|JC.bK rfl<|Js<|La rfl<|Jn<|Ja Tryz.results12 (.tmp rfl)<|?_;exact ⟨(congrArg Value.bool (decide_eq_false af).symm),HS.o0 1 0⟩
set_option maxRecDepth 100000 in
set_option maxHeartbeats 400000 in
theorem aj2(HT:Tz W0)(HB:Tab W0){g:Nat}{u1:Bool}{u2:Bool}{u3:Bool}{s1:Bool}{A1:Option Addr}{n1 c1:Nat}{B1:Option Addr}{m1 d1:Nat}{q1:Rat}{k1:Nat}{b1:Bool}{s2:Bool}{A2:Option Addr}{n2 c2:Nat}{B2:Option Addr}{m2 d2:Nat}{q2:Rat}{k2:Nat}{b2:Bool}{s3:Bool}{A3:Option Addr}{n3 c3:Nat}{B3:Option Addr}{m3 d3:Nat}{q3:Rat}{k3:Nat}{b3:Bool}(HS:St W0 (⟨g,26,[.bool s1,.slice A1 n1 c1,.slice B1 m1 d1,.bool u1,.bool s2,.slice A2 n2 c2,.slice B2 m2 d2,.bool u2,.bool s3,.slice A3 n3 c3,.slice B3 m3 d3,.bool u3]⟩::U) Ps w)(f1:FV (.agg #[.bool s1,.slice A1 n1 c1,.slice B1 m1 d1]) q1 k1 b1 w)(f2:FV (.agg #[.bool s2,.slice A2 n2 c2,.slice B2 m2 d2]) q2 k2 b2 w)(f3:FV (.agg #[.bool s3,.slice A3 n3 c3,.slice B3 m3 d3]) q3 k3 b3 w)(hk1:k1<=900)(hk2:k2<=900)(hk3:k3<=900)(hg1:dM b1 u1 q1)(hg2:dM b2 u2 q2)(hg3:dM b3 u3 q3):bC Tryz.prog 43 [.slice (some ⟨g,0,none⟩) 3 3] w (di W0 (⟨g,26,[.bool s1,.slice A1 n1 c1,.slice B1 m1 d1,.bool u1,.bool s2,.slice A2 n2 c2,.slice B2 m2 d2,.bool u2,.bool s3,.slice A3 n3 c3,.slice B3 m3 d3,.bool u3]⟩::U) Ps (.bool true)):=by
 have HS:=HS.add (FV.stable _ _ _ _) f1;have HS:=HS.add (FV.stable _ _ _ _) f2;have HS:=HS.add (FV.stable _ _ _ _) f3;clear f1 f2 f3;refine cO Tryz.func43 rfl Tryz.ntmps43 rfl<|Js<|La rfl<|Jn<|JC.seq<|Js<|Lm rfl<|Ll rfl atP<|Lm rfl<|Jn<|JC.block<|JC.yF 40<|Js<|Lz (.bool true) (fun a ha=>dU (ha.ev rfl) (ha.ev rfl) ai)<|Jn<|JC.seq<|JC.bK rfl<|Jk<|JC.seq<|JC.block<|Js<|Lz (.pointer (some ⟨g,0,none⟩)) (fun a ha=>kT (ha.ev rfl) (ha.ev rfl) atP atA (j:=0) rfl ai rfl)<|JL.load (.agg #[.bool s1,.slice A1 n1 c1,.slice B1 m1 d1,.bool u1]) HS 0 rfl rfl rfl atC atA rfl rfl<|JL.alloc (vs:=[.bool false,.slice none 0 0,.slice none 0 0,.bool false]) HS rfl atG rfl rfl (fun g21 dN HS => ?_);refine JL.store HS rfl rfl (i:=0) rfl atA rfl rfl rfl (vs':=[.bool s1,.slice A1 n1 c1,.slice B1 m1 d1,.bool u1]) rfl rfl (fun dO HS => ?_);refine Jn<|Js<|JL.load (.agg #[.bool s1,.slice A1 n1 c1,.slice B1 m1 d1,.bool u1]) HS 0 rfl rfl rfl atC atA rfl rfl<|JL.call rfl rfl aup (zO HT HB HS (HS.at_ 2 rfl) af hg1)<|?_;rintro v23 fH ⟨rfl,HS⟩;refine Lz (.bool false) (fun a ha=>gG (ha.ev rfl) (ha.ev rfl) ai)<|Jn<|JC.bG rfl<|JC.kF (fun _ _ h=>h)<|JC.region<|Lz (.int .i64 1) (fun a ha=>iw (ha.ev rfl) (ha.ev rfl) ai)<|Lm rfl<|JL.again 39 (fun _ _ h=>h)<|Js<|Lz (.bool true) (fun a ha=>dU (ha.ev rfl) (ha.ev rfl) ai)<|Jn<|JC.seq<|JC.bK rfl<|Jk<|JC.seq<|JC.block<|Js<|Lz (.pointer (some ⟨g,4,none⟩)) (fun a ha=>kT (ha.ev rfl) (ha.ev rfl) atP atA (j:=1) rfl ai rfl)<|JL.load (.agg #[.bool s2,.slice A2 n2 c2,.slice B2 m2 d2,.bool u2]) HS 1 rfl rfl rfl atC atA rfl rfl<|JL.alloc (vs:=[.bool false,.slice none 0 0,.slice none 0 0,.bool false]) HS rfl atG rfl rfl (fun g24 gu HS => ?_);refine JL.store HS rfl rfl (i:=0) rfl atA rfl rfl rfl (vs':=[.bool s2,.slice A2 n2 c2,.slice B2 m2 d2,.bool u2]) rfl rfl (fun gy HS => ?_);refine Jn<|Js<|JL.load (.agg #[.bool s2,.slice A2 n2 c2,.slice B2 m2 d2,.bool u2]) HS 0 rfl rfl rfl atC atA rfl rfl<|JL.call rfl rfl aup (zO HT HB HS (HS.at_ 1 rfl) af hg2)<|?_;rintro v26 iJ ⟨rfl,HS⟩;refine Lz (.bool false) (fun a ha=>gG (ha.ev rfl) (ha.ev rfl) ai)<|Jn<|JC.bG rfl<|JC.kF (fun _ _ h=>h)<|JC.region<|Lz (.int .i64 2) (fun a ha=>iw (ha.ev rfl) (ha.ev rfl) ai)<|Lm rfl<|JL.again 38 (fun _ _ h=>h)<|Js<|Lz (.bool true) (fun a ha=>dU (ha.ev rfl) (ha.ev rfl) ai)<|Jn<|JC.seq<|JC.bK rfl<|Jk<|JC.seq<|JC.block<|Js<|Lz (.pointer (some ⟨g,8,none⟩)) (fun a ha=>kT (ha.ev rfl) (ha.ev rfl) atP atA (j:=2) rfl ai rfl)<|JL.load (.agg #[.bool s3,.slice A3 n3 c3,.slice B3 m3 d3,.bool u3]) HS 2 rfl rfl rfl atC atA rfl rfl<|JL.alloc (vs:=[.bool false,.slice none 0 0,.slice none 0 0,.bool false]) HS rfl atG rfl rfl (fun FK kN HS => ?_)
 refine JL.store HS rfl rfl (i:=0) rfl atA rfl rfl rfl (vs':=[.bool s3,.slice A3 n3 c3,.slice B3 m3 d3,.bool u3]) rfl rfl (fun lI HS => ?_);refine Jn<|Js<|JL.load (.agg #[.bool s3,.slice A3 n3 c3,.slice B3 m3 d3,.bool u3]) HS 0 rfl rfl rfl atC atA rfl rfl<|JL.call rfl rfl aup (zO HT HB HS (HS.at_ 0 rfl) af hg3)<|?_;rintro v29 kW ⟨rfl,HS⟩;refine Lz (.bool false) (fun a ha=>gG (ha.ev rfl) (ha.ev rfl) ai)<|Jn<|JC.bG rfl<|JC.kF (fun _ _ h=>h)<|JC.region<|Lz (.int .i64 3) (fun a ha=>iw (ha.ev rfl) (ha.ev rfl) ai)<|Lm rfl<|JL.again 37 (fun _ _ h=>h)<|Js<|Lz (.bool false) (fun a ha=>dU (ha.ev rfl) (ha.ev rfl) ai)<|Jn<|JC.seq<|JC.bG rfl<|JC.exit (fun _ _ h=>h) (fun _ _ h=>h)<|Js<|La rfl<|Jn<|Ja Tryz.results43 (.tmp rfl)<|?_;exact ⟨rfl,HS.o0 3 3⟩
set_option maxRecDepth 100000 in
set_option maxHeartbeats 400000 in
theorem aj1(HT:Tz W0)(HB:Tab W0){g:Nat}{u1:Bool}{u2:Bool}{u3:Bool}{s1:Bool}{A1:Option Addr}{n1 c1:Nat}{B1:Option Addr}{m1 d1:Nat}{q1:Rat}{k1:Nat}{b1:Bool}{s2:Bool}{A2:Option Addr}{n2 c2:Nat}{B2:Option Addr}{m2 d2:Nat}{q2:Rat}{k2:Nat}{b2:Bool}{s3:Bool}{A3:Option Addr}{n3 c3:Nat}{B3:Option Addr}{m3 d3:Nat}{q3:Rat}{k3:Nat}{b3:Bool}(HS:St W0 (⟨g,26,[.bool s1,.slice A1 n1 c1,.slice B1 m1 d1,.bool u1,.bool s2,.slice A2 n2 c2,.slice B2 m2 d2,.bool u2,.bool s3,.slice A3 n3 c3,.slice B3 m3 d3,.bool u3]⟩::U) Ps w)(f1:FV (.agg #[.bool s1,.slice A1 n1 c1,.slice B1 m1 d1]) q1 k1 b1 w)(f2:FV (.agg #[.bool s2,.slice A2 n2 c2,.slice B2 m2 d2]) q2 k2 b2 w)(f3:FV (.agg #[.bool s3,.slice A3 n3 c3,.slice B3 m3 d3]) q3 k3 b3 w)(hk1:k1<=900)(hk2:k2<=900)(hk3:k3<=900)(hg:¬ (dM b1 u1 q1/\dM b2 u2 q2/\dM b3 u3 q3)):bC Tryz.prog 43 [.slice (some ⟨g,0,none⟩) 3 3] w (di W0 (⟨g,26,[.bool s1,.slice A1 n1 c1,.slice B1 m1 d1,.bool u1,.bool s2,.slice A2 n2 c2,.slice B2 m2 d2,.bool u2,.bool s3,.slice A3 n3 c3,.slice B3 m3 d3,.bool u3]⟩::U) Ps (.bool false)):=by
 have HS:=HS.add (FV.stable _ _ _ _) f1;have HS:=HS.add (FV.stable _ _ _ _) f2;have HS:=HS.add (FV.stable _ _ _ _) f3;clear f1 f2 f3;refine cO Tryz.func43 rfl Tryz.ntmps43 rfl<|Js<|La rfl<|Jn<|JC.seq<|Js<|Lm rfl<|Ll rfl atP<|Lm rfl<|Jn<|JC.block<|JC.yF 40<|Js<|Lz (.bool true) (fun a ha=>dU (ha.ev rfl) (ha.ev rfl) ai)<|Jn<|JC.seq<|JC.bK rfl<|Jk<|JC.seq<|JC.block<|Js<|Lz (.pointer (some ⟨g,0,none⟩)) (fun a ha=>kT (ha.ev rfl) (ha.ev rfl) atP atA (j:=0) rfl ai rfl)<|JL.load (.agg #[.bool s1,.slice A1 n1 c1,.slice B1 m1 d1,.bool u1]) HS 0 rfl rfl rfl atC atA rfl rfl<|JL.alloc (vs:=[.bool false,.slice none 0 0,.slice none 0 0,.bool false]) HS rfl atG rfl rfl (fun g21 dN HS => ?_);refine JL.store HS rfl rfl (i:=0) rfl atA rfl rfl rfl (vs':=[.bool s1,.slice A1 n1 c1,.slice B1 m1 d1,.bool u1]) rfl rfl (fun dO HS => ?_);refine Jn<|Js<|JL.load (.agg #[.bool s1,.slice A1 n1 c1,.slice B1 m1 d1,.bool u1]) HS 0 rfl rfl rfl atC atA rfl rfl<|?_
 by_cases qi:dM b1 u1 q1
 ·skip
  refine JL.call rfl rfl aup (zO HT HB HS (HS.at_ 2 rfl) af qi)<|?_;rintro v24 gu ⟨rfl,HS⟩;refine Lz (.bool false) (fun a ha=>gG (ha.ev rfl) (ha.ev rfl) ai)<|Jn<|JC.bG rfl<|JC.kF (fun _ _ h=>h)<|JC.region<|Lz (.int .i64 1) (fun a ha=>iw (ha.ev rfl) (ha.ev rfl) ai)<|Lm rfl<|JL.again 39 (fun _ _ h=>h)<|Js<|Lz (.bool true) (fun a ha=>dU (ha.ev rfl) (ha.ev rfl) ai)<|Jn<|JC.seq<|JC.bK rfl<|Jk<|JC.seq<|JC.block<|Js<|Lz (.pointer (some ⟨g,4,none⟩)) (fun a ha=>kT (ha.ev rfl) (ha.ev rfl) atP atA (j:=1) rfl ai rfl)<|JL.load (.agg #[.bool s2,.slice A2 n2 c2,.slice B2 m2 d2,.bool u2]) HS 1 rfl rfl rfl atC atA rfl rfl<|JL.alloc (vs:=[.bool false,.slice none 0 0,.slice none 0 0,.bool false]) HS rfl atG rfl rfl (fun lV gy HS => ?_);refine JL.store HS rfl rfl (i:=0) rfl atA rfl rfl rfl (vs':=[.bool s2,.slice A2 n2 c2,.slice B2 m2 d2,.bool u2]) rfl rfl (fun iJ HS => ?_);refine Jn<|Js<|JL.load (.agg #[.bool s2,.slice A2 n2 c2,.slice B2 m2 d2,.bool u2]) HS 0 rfl rfl rfl atC atA rfl rfl<|?_
  by_cases hc27:dM b2 u2 q2
  ·skip
   refine JL.call rfl rfl aup (zO HT HB HS (HS.at_ 1 rfl) af hc27)<|?_;rintro v28 lI ⟨rfl,HS⟩;refine Lz (.bool false) (fun a ha=>gG (ha.ev rfl) (ha.ev rfl) ai)<|Jn<|JC.bG rfl<|JC.kF (fun _ _ h=>h)<|JC.region<|Lz (.int .i64 2) (fun a ha=>iw (ha.ev rfl) (ha.ev rfl) ai)<|Lm rfl<|JL.again 38 (fun _ _ h=>h)<|Js<|Lz (.bool true) (fun a ha=>dU (ha.ev rfl) (ha.ev rfl) ai)<|Jn<|JC.seq<|JC.bK rfl<|Jk<|JC.seq<|JC.block<|Js<|Lz (.pointer (some ⟨g,8,none⟩)) (fun a ha=>kT (ha.ev rfl) (ha.ev rfl) atP atA (j:=2) rfl ai rfl)<|JL.load (.agg #[.bool s3,.slice A3 n3 c3,.slice B3 m3 d3,.bool u3]) HS 2 rfl rfl rfl atC atA rfl rfl<|JL.alloc (vs:=[.bool false,.slice none 0 0,.slice none 0 0,.bool false]) HS rfl atG rfl rfl (fun FM kW HS => ?_);refine JL.store HS rfl rfl (i:=0) rfl atA rfl rfl rfl (vs':=[.bool s3,.slice A3 n3 c3,.slice B3 m3 d3,.bool u3]) rfl rfl (fun nS HS => ?_);refine Jn<|Js<|JL.load (.agg #[.bool s3,.slice A3 n3 c3,.slice B3 m3 d3,.bool u3]) HS 0 rfl rfl rfl atC atA rfl rfl<|?_
   by_cases hc31:dM b3 u3 q3
   ·skip
    refine JL.call rfl rfl aup (zO HT HB HS (HS.at_ 0 rfl) af hc31)<|?_;rintro v32 w32 ⟨rfl,HS⟩;refine Lz (.bool false) (fun a ha=>gG (ha.ev rfl) (ha.ev rfl) ai)<|Jn<|JC.bG rfl<|JC.kF (fun _ _ h=>h)<|JC.region<|Lz (.int .i64 3) (fun a ha=>iw (ha.ev rfl) (ha.ev rfl) ai)<|Lm rfl<|JL.again 37 (fun _ _ h=>h)<|Js<|Lz (.bool false) (fun a ha=>dU (ha.ev rfl) (ha.ev rfl) ai)<|Jn<|JC.seq<|JC.bG rfl<|JC.exit (fun _ _ h=>h) (fun _ _ h=>h)<|Js<|La rfl<|Jn<|Ja Tryz.results43 (.tmp rfl)<|?_;exact ⟨(absurd ⟨qi,hc27,hc31⟩ hg),HS.o0 3 3⟩
   ·skip
    refine JL.call rfl rfl aup (NE HT HB HS (HS.at_ 0 rfl) af hc31)<|?_;rintro v33 yH ⟨rfl,HS⟩;refine Lz (.bool true) (fun a ha=>gG (ha.ev rfl) (ha.ev rfl) ai)<|Jn<|JC.bK rfl<|Js<|La rfl<|Jn<|Ja Tryz.results43 (.tmp rfl)<|?_;exact ⟨rfl,HS.o0 3 3⟩
  ·skip
   refine JL.call rfl rfl aup (NE HT HB HS (HS.at_ 1 rfl) af hc27)<|?_;rintro v34 Et ⟨rfl,HS⟩;refine Lz (.bool true) (fun a ha=>gG (ha.ev rfl) (ha.ev rfl) ai)<|Jn<|JC.bK rfl<|Js<|La rfl<|Jn<|Ja Tryz.results43 (.tmp rfl)<|?_;exact ⟨rfl,HS.o0 2 3⟩
 ·skip
  refine JL.call rfl rfl aup (NE HT HB HS (HS.at_ 2 rfl) af qi)<|?_;rintro v35 Ot ⟨rfl,HS⟩;refine Lz (.bool true) (fun a ha=>gG (ha.ev rfl) (ha.ev rfl) ai)<|Jn<|JC.bK rfl<|Js<|La rfl<|Jn<|Ja Tryz.results43 (.tmp rfl)<|?_;exact ⟨rfl,HS.o0 1 3⟩
end
end Go.Proofs.BGQ
