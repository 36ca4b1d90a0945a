/- Part of a proof, said shortly. -/
import Derived.Deep.RegionHeld3
import Derived.Test.YtkcpphebkmnonaaGreatDoorAlzb
import Derived.Test.YtkcpphebkmnonaaGreatDoorC13b
import Derived.Test.YtkcpphebkmnonaaGreatDoorC4b
import Derived.Test.YtkcpphebkmnonaaGreatDoorC2b
import Derived.Test.YtkcpphebkmnonaaGreatDoorC1b
import Derived.Test.YtkcpphebkmnonaaGreatDoorC3b
namespace Lw
open Go Go.RowKit
theorem Env.SI{t:TypeId}{W0 w:World}{L:List En}{g1 g3:Nat}{x1 y1 x3 y3:Value}(h:Env t W0 w [⟨g1,x1,y1⟩,⟨g3,x3,y3⟩] L):w.cell? ⟨g1,0,none⟩=some x1/\w.cell? ⟨g1,1,none⟩=some y1:=by
 obtain ⟨a,b,_⟩:=h.cells2;grind
theorem ajc(x y:Int):dL (x-y)=dX x y:=by unfold dL dX;grind
theorem aaX{w:World}{s1 s2:Bool}{A1 A2:Option Addr}{n1 n2 c1 c2 B1 B2 k1 k2:Nat}{l1 l2:List Nat}(t:TypeId)(r1:Rd w B1 A1 l1)(r2:Rd w B2 A2 l2)(hB1:B1<=w.heap.size)(hB2:B2<=w.heap.size)(e1:l1.length=n1)(e2:l2.length=n2)(q1:n1<=c1)(q2:n2<=c2)(h1:n1<=k1)(h2:n2<=k2) :
  Env t w ((w.alloc (.cells #[.bool s1,.slice A1 n1 c1] t)).alloc (.cells #[.bool s2,.slice A2 n2 c2] t))
   [⟨w.heap.size,.bool s1,.slice A1 n1 c1⟩,⟨w.heap.size+1,.bool s2,.slice A2 n2 c2⟩]
   [⟨.agg #[.bool s1,.slice A1 n1 c1],zv s1 l1,k1,vB s1 l1⟩,⟨.agg #[.bool s2,.slice A2 n2 c2],zv s2 l2,k2,vB s2 l2⟩]:=by
 have hb:=(((Below.refl w.heap.size w).alloc (avW _) (.cells #[.bool s1,.slice A1 n1 c1] t)).alloc (by simp) (.cells #[.bool s2,.slice A2 n2 c2] t));refine ⟨fun e he => ?_,fun b hb' => ?_,hb⟩
 ·simp only [List.mem_cons,List.not_mem_nil,or_false] at he
  rcases he with rfl | rfl
  ·exact dK.here r1 hB1 hb e1 h1 q1
  ·exact dK.here r2 hB2 hb e2 h2 q2
 ·simp only [List.mem_cons,List.not_mem_nil,or_false] at hb'
  rcases hb' with rfl | rfl
  ·exact (Two.new w t _ _).alloc _
  ·have:=Two.new (w.alloc (.cells #[.bool s1,.slice A1 n1 c1] t)) t (.bool s2) (.slice A2 n2 c2)
   rwa [World.size_alloc] at this
theorem af'(x:Int) : -x=if (!sg x)=true then -(val (mg x):Int) else (val (mg x):Int):=by
 rw [gX];unfold sg;grind
theorem afF(x y:Int):x*y=if (sg x != sg y)=true then -(val (bn (val (mg x)*val (mg y))):Int) else (val (bn (val (mg x)*val (mg y))):Int):=by
 rw [bQ,gX,gX];exact VA x y
theorem add_same(x y:Int)(h:(sg x==sg y)=true):x+y=if sg x=true then -(val (bn (val (mg x)+val (mg y))):Int) else (val (bn (val (mg x)+val (mg y))):Int):=by
 rw [bQ,gX,gX];have:=Yp (sg x) (sg y) h x.natAbs y.natAbs;rw [uH,uH] at this;rw [this];rfl
theorem aaK(x y:Int)(h:(sg x==sg y)=false)(hle:val (mg y)<=val (mg x)):x+y=if sg x=true then -(val (bn (val (mg x)-val (mg y))):Int) else (val (bn (val (mg x)-val (mg y))):Int):=by
 rw [bQ];rw [gX,gX] at *;have:=Yq (sg x) (sg y) h (N:=x.natAbs) (M:=y.natAbs) hle;rw [uH,uH] at this;rw [this];rfl
theorem aaJ(x y:Int)(h:(sg x==sg y)=false)(hle:val (mg x)<=val (mg y)):x+y=if sg y=true then -(val (bn (val (mg y)-val (mg x))):Int) else (val (bn (val (mg y)-val (mg x))):Int):=by
 rw [bQ];rw [gX,gX] at *;have:=Yr (sg x) (sg y) h (N:=x.natAbs) (M:=y.natAbs) hle;rw [uH,uH] at this;rw [this];rfl
end Lw
namespace Go.Proofs.BGQ
open Go Go.RowKit Lw
section
variable {t:TypeId} {W0 w:World} {bs:List Bx} {L:List En} {M:List Sn} {u u':Value} {k k':Nat} {l l':List Nat}
theorem ajB(HE:eu t W0 w bs L M)(h:⟨u,l,k⟩∈M)(h':⟨u',l',k'⟩∈M)(hk:k+k'<=100000) :
  Calls Tryz.prog 149 #[u,u'] w fun e w' => ∃ u,e = .returned u/\eu t W0 w' bs L (⟨u,bn (val l*val l'),k+k'+1⟩::M):=by
 obtain ⟨A,n,c,B,e1,h2,h3,h4,h5,h6⟩:=HE.kV _ h;obtain ⟨A',n',c',B',e1',h2',h3',h4',h5',h6'⟩:=HE.kV _ h';dsimp only at *;subst e1 e1'
 have hz:(bn (val l*val l')).length<=k+k'+1:=iy (by
  have:=lt_mul (x:=(val l:Int)) (y:=(val l':Int)) (k:=k) (k':=k') (by rw [av2];exact av1 (fG h2.bU) (fM af)) (by rw [av2];exact av1 (fG h2'.bU) (fM af))
  rwa [<- aws,av2] at this)
 exact (Hg A A' l l' n n' c c' B B' w h2 h2' h3 h3' h4 h4' af af).mono fun e w' hh=>N7 HE hh hz
end
set_option maxRecDepth 100000 in
set_option maxHeartbeats 4000000 in
theorem ahM(s:Bool)(A:Option Addr)(ns:List Nat)(n c B:Nat)(w:World)(h:Rd w B A ns)(hB:B<=w.heap.size)(hn:ns.length=n)(hl:n<=10000)(hc:n<=c) :
  Calls Tryz.prog 108 #[.agg #[.bool s,.slice A n c]] w (kY w (-(zv s ns))):=by
 have HE:=aaW (s1:=s) 79 h hB hn hc (avW n);clear h;generalize zv s ns=x at *;generalize vB s ns=bb at *
 go_enter Tryz.func108,Tryz.ntmps108
 go_wp2_with fail
 go_region_held3 (fun w'=>w'.cell? ⟨w.heap.size,0,none⟩=some (.bool s)/\w'.cell? ⟨w.heap.size,1,none⟩=some (.slice A n c)) (first | exact HE.env.SI | exact HE.drew.env.SI | exact HE.env.agF af _ _)
  (first
   | (go_at_call 146;refine (vP (by first | exact HE | exact HE.drew) aZ af).mono ?_;rintro e wn ⟨rfl,HE⟩)
   | (go_at_call 145;refine (zH (by first | exact HE | exact HE.drew) aZ af).mono ?_;rintro e wn ⟨u,rfl,HE⟩)
   | (go_at_call 143;refine (xy (!sg x) (-x) (by first | exact HE | exact HE.drew) aZ af (af' x)).mono ?_;rintro e wn ⟨A9,c9,rfl,dZ,fF,HE⟩;obtain ⟨f0,f1,f2,f3⟩:=HE.env.second.facts))
 go_wp2
 refine bodyPost_ret (v := .agg #[.bool (sg (-x)),.slice A9 (mg (-x)).length c9]) (by simp [results,Tryz.results108,go_sem,f0,f1]) rfl ?_;exact iY HE.env.second fF (avW _) dZ HE.env.below af
set_option maxRecDepth 100000 in
set_option maxHeartbeats 4000000 in
theorem ahL(s s':Bool)(A A':Option Addr)(ns ms:List Nat)(n m c c' B B':Nat)(w:World)(h:Rd w B A ns)(h':Rd w B' A' ms)(hB:B<=w.heap.size)(hB':B'<=w.heap.size)(hn:ns.length=n)(hm:ms.length=m)(hl:n<=10000)(hl':m<=10000)(hc:n<=c)(hc':m<=c') :
  Calls Tryz.prog 105 #[.agg #[.bool s,.slice A n c],.agg #[.bool s',.slice A' m c']] w (kY w (zv s ns*zv s' ms)):=by
 have HE:=BF (s1:=s) (s2:=s') 79 h h' hB hB' hn hm hc hc' (avW n) (avW m);clear h h';generalize zv s ns=x at *;generalize zv s' ms=y at *;generalize vB s ns=bb at *;generalize vB s' ms=bb' at *
 go_enter Tryz.func105,Tryz.ntmps105
 go_wp2_with fail
 go_region_held3 (fun w'=>w'.cell? ⟨w.heap.size,0,none⟩=some (.bool s)/\w'.cell? ⟨w.heap.size,1,none⟩=some (.slice A n c)/\w'.cell? ⟨w.heap.size+1,0,none⟩=some (.bool s')/\w'.cell? ⟨w.heap.size+1,1,none⟩=some (.slice A' m c')) (first | exact HE.env.lS | exact HE.drew.env.lS | exact HE.env.jH af af _ _)
  (first
   | (go_at_call 146;refine (vP (by first | exact HE | exact HE.drew) aZ af).mono ?_;rintro e wn ⟨rfl,HE⟩)
   | (go_at_call 145;refine (zH (by first | exact HE | exact HE.drew) aZ af).mono ?_;rintro e wn ⟨u,rfl,HE⟩)
   | (go_at_call 149;refine (ajB (by first | exact HE | exact HE.drew) aZ aZ af).mono ?_;rintro e wn ⟨u,rfl,HE⟩)
   | (go_at_call 143;refine (xy (sg x != sg y) (x*y) (by first | exact HE | exact HE.drew) aZ af (afF x y)).mono ?_;rintro e wn ⟨A9,c9,rfl,dZ,fF,HE⟩;obtain ⟨f0,f1,f2,f3⟩:=HE.env.third.facts))
 go_wp2
 refine bodyPost_ret (v := .agg #[.bool (sg (x*y)),.slice A9 (mg (x*y)).length c9]) (by simp [results,Tryz.results105,go_sem,f0,f1]) rfl ?_;exact iY HE.env.third fF (avW _) dZ HE.env.below af
theorem ahV{t:TypeId}{W0 w:World}{bs:List Bx}{L:List En}{v v':Value}{x y:Int}{k k':Nat}{b b':Bool}(HE:Env t W0 w bs L)(h:⟨v,x,k,b⟩∈L)(h':⟨v',y,k',b'⟩∈L)(hk:k<=10000/\k'<=10000) :
  Calls Tryz.prog 105 #[v,v'] w fun e w' => ∃ A c,e = .returned (.agg #[.bool (sg (x*y)),.slice A (mg (x*y)).length c])/\(mg (x*y)).length<=c/\Rd w' w'.heap.size A (mg (x*y)) /\
   Env t W0 w' bs (⟨.agg #[.bool (sg (x*y)),.slice A (mg (x*y)).length c],x*y,k+k'+1,true⟩::L):=by
 have H1:=HE.ops _ h;have H2:=HE.ops _ h';have hz:=lt_mul H1.lt H2.lt;obtain ⟨s,A,n,c,ns,B,e1,h2,h3,h4,h5,h6,e7,h8⟩:=H1;obtain ⟨s',A',n',c',ns',B',e1',h2',h3',h4',h5',h6',fK,h8'⟩:=H2;dsimp only at e1 e7 e1' fK h5 h5' hz;subst e1 e1' e7 fK;refine (ahL s s' A A' ns ns' n n' c c' B B' w h2 h2' h3 h3' h4 h4' af af h6 h6').mono ?_;rintro e w' ⟨A9,c9,rfl,dZ,fF,lW⟩;exact ⟨A9,c9,rfl,dZ,fF,(HE.next lW).cons ⟨_,A9,_,c9,mg _,_,rfl,fF,avW _,rfl,qp hz,dZ,uK _,qN _⟩⟩
theorem WT{t:TypeId}{W0 w:World}{bs:List Bx}{L:List En}{v:Value}{x:Int}{k:Nat}{b:Bool}(HE:Env t W0 w bs L)(h:⟨v,x,k,b⟩∈L)(hk:k<=10000) :
  Calls Tryz.prog 108 #[v] w fun e w' => ∃ u,e = .returned u/\Env t W0 w' bs (⟨u,-x,k,true⟩::L):=by
 have H1:=HE.ops _ h;have hz:(-x).natAbs<pw k:=by have:=H1.lt;simpa using this
 obtain ⟨s,A,n,c,ns,B,e1,h2,h3,h4,h5,h6,e7,h8⟩:=H1;dsimp only at e1 e7 h5;subst e1 e7;exact (ahM s A ns n c B w h2 h3 h4 af h6).mono fun e w' hh=>wP HE hh hz
set_option maxRecDepth 100000 in
set_option maxHeartbeats 4000000 in
theorem ahH(s s':Bool)(A A':Option Addr)(ns ms:List Nat)(n m c c' B B':Nat)(w:World)(h:Rd w B A ns)(h':Rd w B' A' ms)(hB:B<=w.heap.size)(hB':B'<=w.heap.size)(hn:ns.length=n)(hm:ms.length=m)(hl:n<=10000)(hl':m<=10000)(hc:n<=c)(hc':m<=c') :
  Calls Tryz.prog 107 #[.agg #[.bool s,.slice A n c],.agg #[.bool s',.slice A' m c']] w (kY w (zv s ns+zv s' ms)):=by
 have HE:=BF (s1:=s) (s2:=s') 79 h h' hB hB' hn hm hc hc' (avW n) (avW m);clear h h';generalize zv s ns=x at *;generalize zv s' ms=y at *;generalize vB s ns=bb at *;generalize vB s' ms=bb' at *
 go_enter Tryz.func107,Tryz.ntmps107
 go_wp2_with fail
 go_region_held3 (fun w'=>w'.cell? ⟨w.heap.size,0,none⟩=some (.bool s)/\w'.cell? ⟨w.heap.size,1,none⟩=some (.slice A n c)/\w'.cell? ⟨w.heap.size+1,0,none⟩=some (.bool s')/\w'.cell? ⟨w.heap.size+1,1,none⟩=some (.slice A' m c')) (first | exact HE.env.lS | exact HE.drew.env.lS | exact HE.env.jH af af _ _)
  (first
   | (go_at_call 145;refine (zH (by first | exact HE | exact HE.drew) aZ af).mono ?_;rintro e wn ⟨u,rfl,HE⟩))
 go_wp2_with fail
 cases hs:(sg x==sg y)
 ·go_region_held3 (fun w'=>w'.cell? ⟨w.heap.size,0,none⟩=some (.bool s)/\w'.cell? ⟨w.heap.size,1,none⟩=some (.slice A n c)/\w'.cell? ⟨w.heap.size+1,0,none⟩=some (.bool s')/\w'.cell? ⟨w.heap.size+1,1,none⟩=some (.slice A' m c')) (first | exact HE.env.lS | exact HE.drew.env.lS | exact HE.env.jH af af _ _)
   (first
    | (go_at_call 146;refine (vP (by first | exact HE | exact HE.drew) aZ af).mono ?_;rintro e wn ⟨rfl,HE⟩))
  go_wp2_with fail
  refine (abM HE au ak af).mono ?_;rintro e wn ⟨rfl,HE⟩;rcases av3 (val (mg x)) (val (mg y)) with hd | hd
  ·have hcmp:jB (val (mg x)) (val (mg y))<0:=Fj hd
   obtain ⟨q1,q2,q3,q4⟩:=HE.env.lS
   go_wp2_with fail
   refine (vP HE aZ af).mono ?_;rintro e wn ⟨rfl,HE⟩;clear q1 q2 q3 q4
   go_wp2_with fail
   refine (MK HE aZ aZ af (xY x) (awg hd)).mono ?_;rintro e wn ⟨u,rfl,HE⟩
   go_wp2_with fail
   refine (xy (sg y) (x+y) HE aZ af (aaJ x y hs (awg hd))).mono ?_;rintro e wn ⟨A9,c9,rfl,dZ,fF,HE⟩;obtain ⟨f0,f1,f2,f3⟩:=HE.env.third.facts
   go_wp2
   refine bodyPost_ret (v := .agg #[.bool (sg (x+y)),.slice A9 (mg (x+y)).length c9]) (by simp [results,Tryz.results107,go_sem,f0,f1]) rfl ?_;exact iY HE.env.third fF (avW _) dZ HE.env.below af
  ·have hcmp:0<=jB (val (mg x)) (val (mg y)):=by have:=Fp hd;omega
   obtain ⟨q1,q2,q3,q4⟩:=HE.env.lS
   go_wp2_with fail
   refine (vP HE aZ af).mono ?_;rintro e wn ⟨rfl,HE⟩;clear q1 q2 q3 q4
   go_wp2_with fail
   refine (MK HE aZ aZ af (xY y) hd).mono ?_;rintro e wn ⟨u,rfl,HE⟩
   go_wp2_with fail
   refine (xy (sg x) (x+y) HE aZ af (aaK x y hs hd)).mono ?_;rintro e wn ⟨A9,c9,rfl,dZ,fF,HE⟩;obtain ⟨f0,f1,f2,f3⟩:=HE.env.third.facts
   go_wp2
   refine bodyPost_ret (v := .agg #[.bool (sg (x+y)),.slice A9 (mg (x+y)).length c9]) (by simp [results,Tryz.results107,go_sem,f0,f1]) rfl ?_;exact iY HE.env.third fF (avW _) dZ HE.env.below af
 ·go_region_held3 (fun w'=>w'.cell? ⟨w.heap.size,0,none⟩=some (.bool s)/\w'.cell? ⟨w.heap.size,1,none⟩=some (.slice A n c)/\w'.cell? ⟨w.heap.size+1,0,none⟩=some (.bool s')/\w'.cell? ⟨w.heap.size+1,1,none⟩=some (.slice A' m c')) (first | exact HE.env.lS | exact HE.drew.env.lS | exact HE.env.jH af af _ _)
   (first
    | (go_at_call 146;refine (vP (by first | exact HE | exact HE.drew) aZ af).mono ?_;rintro e wn ⟨rfl,HE⟩))
  obtain ⟨q1,q2,q3,q4⟩:=HE.env.lS
  go_wp2_with fail
  refine (vP HE aZ af).mono ?_;rintro e wn ⟨rfl,HE⟩;clear q1 q2 q3 q4
  go_wp2_with fail
  refine (Wu HE aZ aZ af).mono ?_;rintro e wn ⟨u,rfl,HE⟩
  go_wp2_with fail
  refine (xy (sg x) (x+y) HE aZ af (add_same x y hs)).mono ?_;rintro e wn ⟨A9,c9,rfl,dZ,fF,HE⟩;obtain ⟨f0,f1,f2,f3⟩:=HE.env.third.facts
  go_wp2
  refine bodyPost_ret (v := .agg #[.bool (sg (x+y)),.slice A9 (mg (x+y)).length c9]) (by simp [results,Tryz.results107,go_sem,f0,f1]) rfl ?_;exact iY HE.env.third fF (avW _) dZ HE.env.below af
theorem WS{t:TypeId}{W0 w:World}{bs:List Bx}{L:List En}{v v':Value}{x y:Int}{k k':Nat}{b b':Bool}(HE:Env t W0 w bs L)(h:⟨v,x,k,b⟩∈L)(h':⟨v',y,k',b'⟩∈L)(hk:k<=10000/\k'<=10000) :
  Calls Tryz.prog 107 #[v,v'] w fun e w' => ∃ A c,e = .returned (.agg #[.bool (sg (x+y)),.slice A (mg (x+y)).length c])/\(mg (x+y)).length<=c/\Rd w' w'.heap.size A (mg (x+y)) /\
   Env t W0 w' bs (⟨.agg #[.bool (sg (x+y)),.slice A (mg (x+y)).length c],x+y,k+k'+1,true⟩::L):=by
 have H1:=HE.ops _ h;have H2:=HE.ops _ h';have hz:=zG H1.lt H2.lt;obtain ⟨s,A,n,c,ns,B,e1,h2,h3,h4,h5,h6,e7,h8⟩:=H1;obtain ⟨s',A',n',c',ns',B',e1',h2',h3',h4',h5',h6',fK,h8'⟩:=H2;dsimp only at e1 e7 e1' fK h5 h5' hz;subst e1 e1' e7 fK;refine (ahH s s' A A' ns ns' n n' c c' B B' w h2 h2' h3 h3' h4 h4' af af h6 h6').mono ?_;rintro e w' ⟨A9,c9,rfl,dZ,fF,lW⟩;exact ⟨A9,c9,rfl,dZ,fF,(HE.next lW).cons ⟨_,A9,_,c9,mg _,_,rfl,fF,avW _,rfl,qp hz,dZ,uK _,qN _⟩⟩
set_option maxRecDepth 100000 in
set_option maxHeartbeats 4000000 in
theorem ahN(s s':Bool)(A A':Option Addr)(ns ms:List Nat)(n m c c' B B':Nat)(w:World)(h:Rd w B A ns)(h':Rd w B' A' ms)(hB:B<=w.heap.size)(hB':B'<=w.heap.size)(hn:ns.length=n)(hm:ms.length=m)(hl:n<=10000)(hl':m<=10000)(hc:n<=c)(hc':m<=c') :
  Calls Tryz.prog 142 #[.agg #[.bool s,.slice A n c],.agg #[.bool s',.slice A' m c']] w (kY w (zv s ns-zv s' ms)):=by
 have HE:=BF (s1:=s) (s2:=s') 79 h h' hB hB' hn hm hc hc' (avW n) (avW m);clear h h';generalize zv s ns=x at *;generalize zv s' ms=y at *;generalize vB s ns=bb at *;generalize vB s' ms=bb' at *;rw [Int.sub_eq_add_neg];replace HE:=HE.env
 go_enter Tryz.func142,Tryz.ntmps142
 go_wp2_with fail
 go_region_held3 (fun w'=>w'.cell? ⟨w.heap.size,0,none⟩=some (.bool s)/\w'.cell? ⟨w.heap.size,1,none⟩=some (.slice A n c)/\w'.cell? ⟨w.heap.size+1,0,none⟩=some (.bool s')/\w'.cell? ⟨w.heap.size+1,1,none⟩=some (.slice A' m c')) (first | exact HE.lS | exact HE.drew.lS | exact HE.jH af af _ _)
  (first
   | (go_at_call 108;refine (WT (by first | exact HE | exact HE.drew) aZ af).mono ?_;rintro e wn ⟨u,rfl,HE⟩)
   | (go_at_call 107;refine (WS (by first | exact HE | exact HE.drew) aZ aZ af).mono ?_;rintro e wn ⟨A9,c9,rfl,dZ,fF,HE⟩;obtain ⟨f0,f1,f2,f3⟩:=HE.third.facts))
 go_wp2
 refine bodyPost_ret (v := .agg #[.bool (sg (x + -y)),.slice A9 (mg (x + -y)).length c9]) (by simp [results,Tryz.results142,go_sem,f0,f1]) rfl ?_;exact iY HE.third fF (avW _) dZ HE.below af
theorem ah1{t:TypeId}{W0 w:World}{bs:List Bx}{L:List En}{v v':Value}{x y:Int}{k k':Nat}{b b':Bool}(HE:Env t W0 w bs L)(h:⟨v,x,k,b⟩∈L)(h':⟨v',y,k',b'⟩∈L)(hk:k<=10000/\k'<=10000) :
  Calls Tryz.prog 142 #[v,v'] w fun e w' => ∃ A c,e = .returned (.agg #[.bool (sg (x-y)),.slice A (mg (x-y)).length c])/\(mg (x-y)).length<=c/\Rd w' w'.heap.size A (mg (x-y)) /\
   Env t W0 w' bs (⟨.agg #[.bool (sg (x-y)),.slice A (mg (x-y)).length c],x-y,k+k'+1,true⟩::L):=by
 have H1:=HE.ops _ h;have H2:=HE.ops _ h';have hz:=Vl H1.lt H2.lt;obtain ⟨s,A,n,c,ns,B,e1,h2,h3,h4,h5,h6,e7,h8⟩:=H1;obtain ⟨s',A',n',c',ns',B',e1',h2',h3',h4',h5',h6',fK,h8'⟩:=H2;dsimp only at e1 e7 e1' fK h5 h5' hz;subst e1 e1' e7 fK;refine (ahN s s' A A' ns ns' n n' c c' B B' w h2 h2' h3 h3' h4 h4' af af h6 h6').mono ?_;rintro e w' ⟨A9,c9,rfl,dZ,fF,lW⟩;exact ⟨A9,c9,rfl,dZ,fF,(HE.next lW).cons ⟨_,A9,_,c9,mg _,_,rfl,fF,avW _,rfl,qp hz,dZ,uK _,qN _⟩⟩
set_option maxRecDepth 100000 in
set_option maxHeartbeats 4000000 in
theorem ahI(s s':Bool)(A A':Option Addr)(ns ms:List Nat)(n m c c' B B':Nat)(w:World)(h:Rd w B A ns)(h':Rd w B' A' ms)(hB:B<=w.heap.size)(hB':B'<=w.heap.size)(hn:ns.length=n)(hm:ms.length=m)(hl:n<=10000)(hl':m<=10000)(hc:n<=c)(hc':m<=c') :
  Calls Tryz.prog 96 #[.agg #[.bool s,.slice A n c],.agg #[.bool s',.slice A' m c']] w fun e w'=>e = .returned (.int .i64 (dX (zv s ns) (zv s' ms)))/\Below w.heap.size w w':=by
 have HE:=aaX (s1:=s) (s2:=s') 79 h h' hB hB' hn hm hc hc' (avW n) (avW m);clear h h';generalize zv s ns=x at *;generalize zv s' ms=y at *;generalize vB s ns=bb at *;generalize vB s' ms=bb' at *;have HC:=Lib.hid (ajc x y);obtain ⟨q1,q2,q3,q4⟩:=HE.cells2
 go_enter Tryz.func96,Tryz.ntmps96
 go_wp2_with fail
 refine (ah1 HE aZ aZ af).mono ?_;rintro e wn ⟨A9,c9,rfl,dZ,fF,HE⟩;clear q1 q2 q3 q4
 go_wp2_with fail
 refine (WW HE ak af).mono ?_;rintro e wn ⟨rfl,HE⟩
 go_wp2_with fail
 go_ret
 exact ⟨fD HC.out,HE.below⟩
theorem ahQ{t:TypeId}{W0 w:World}{bs:List Bx}{L:List En}{v v':Value}{x y:Int}{k k':Nat}{b b':Bool}(HE:Env t W0 w bs L)(h:⟨v,x,k,b⟩∈L)(h':⟨v',y,k',b'⟩∈L)(hk:k<=10000/\k'<=10000) :
  Calls Tryz.prog 96 #[v,v'] w fun e w'=>e = .returned (.int .i64 (dX x y))/\Env t W0 w' bs L:=by
 obtain ⟨s,A,n,c,ns,B,e1,h2,h3,h4,h5,h6,e7,h8⟩:=HE.ops _ h;obtain ⟨s',A',n',c',ns',B',e1',h2',h3',h4',h5',h6',fK,h8'⟩:=HE.ops _ h';dsimp only at e1 e7 e1' fK h5 h5';subst e1 e1' e7 fK;exact (ahI s s' A A' ns ns' n n' c c' B B' w h2 h2' h3 h3' h4 h4' af af h6 h6').mono fun e w' hh=>⟨hh.1,HE.next hh.2⟩
end Go.Proofs.BGQ
