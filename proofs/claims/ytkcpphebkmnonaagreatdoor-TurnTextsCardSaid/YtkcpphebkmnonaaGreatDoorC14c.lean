/- Part of a proof, said shortly. -/
import Derived.Deep.RegionHeld3
import Derived.Test.YtkcpphebkmnonaaGreatDoorAlzc
import Derived.Test.YtkcpphebkmnonaaGreatDoorC13c
import Derived.Test.YtkcpphebkmnonaaGreatDoorC5c
import Derived.Test.YtkcpphebkmnonaaGreatDoorC2c
import Derived.Test.YtkcpphebkmnonaaGreatDoorC1c
import Derived.Test.YtkcpphebkmnonaaGreatDoorC4c
import Derived.Test.YtkcpphebkmnonaaGreatDoorC3c
namespace Lw
open Go Go.RowKit
theorem Env.Ny{t:TypeId}{W0 w:World}{L:List En}{g1 g3:Nat}{x1 y1 x3 y3:Value}(h:Env t W0 w [⟨g1,x1,y1⟩,⟨g3,x3,y3⟩] L):w.cell? ⟨g1,0,none⟩=some x1/\w.cell? ⟨g1,1,none⟩=some y1:=by
 obtain ⟨a,b,_⟩:=h.cells2;grind
theorem aeV(x y:Int):dD (x-y)=eY x y:=by unfold dD eY;grind
theorem Wx{w:World}{s1 s2:Bool}{A1 A2:Option Addr}{n1 n2 c1 c2 B1 B2 k1 k2:Nat}{l1 l2:List Nat}(t:TypeId)(r1:Rd w B1 A1 l1)(r2:Rd w B2 A2 l2)(hB1:B1<=w.heap.size)(hB2:B2<=w.heap.size)(e1:l1.length=n1)(e2:l2.length=n2)(q1:n1<=c1)(q2:n2<=c2)(h1:n1<=k1)(h2:n2<=k2) :
  Env t w ((w.alloc (.cells #[.bool s1,.slice A1 n1 c1] t)).alloc (.cells #[.bool s2,.slice A2 n2 c2] t))
   [⟨w.heap.size,.bool s1,.slice A1 n1 c1⟩,⟨w.heap.size+1,.bool s2,.slice A2 n2 c2⟩]
   [⟨.agg #[.bool s1,.slice A1 n1 c1],zv s1 l1,k1,vB s1 l1⟩,⟨.agg #[.bool s2,.slice A2 n2 c2],zv s2 l2,k2,vB s2 l2⟩]:=by
 have hb:=(((Below.refl w.heap.size w).alloc (aoG _) (.cells #[.bool s1,.slice A1 n1 c1] t)).alloc (by simp) (.cells #[.bool s2,.slice A2 n2 c2] t));refine ⟨fun e he => ?_,fun b hb' => ?_,hb⟩
 ·simp only [List.mem_cons,List.not_mem_nil,or_false] at he
  rcases he with rfl | rfl
  ·exact dB.here r1 hB1 hb e1 h1 q1
  ·exact dB.here r2 hB2 hb e2 h2 q2
 ·simp only [List.mem_cons,List.not_mem_nil,or_false] at hb'
  rcases hb' with rfl | rfl
  ·exact (Two.new w t _ _).alloc _
  ·have:=Two.new (w.alloc (.cells #[.bool s1,.slice A1 n1 c1] t)) t (.bool s2) (.slice A2 n2 c2)
   rwa [World.size_alloc] at this
theorem abO(x:Int) : -x=if (!sg x)=true then -(val (mg x):Int) else (val (mg x):Int):=by
 rw [eX];unfold sg;grind
theorem abf(x y:Int):x*y=if (sg x != sg y)=true then -(val (bn (val (mg x)*val (mg y))):Int) else (val (bn (val (mg x)*val (mg y))):Int):=by
 rw [bM,eX,eX];exact PU x y
theorem add_same(x y:Int)(h:(sg x==sg y)=true):x+y=if sg x=true then -(val (bn (val (mg x)+val (mg y))):Int) else (val (bn (val (mg x)+val (mg y))):Int):=by
 rw [bM,eX,eX];have:=SN (sg x) (sg y) h x.natAbs y.natAbs;rw [qj,qj] at this;rw [this];rfl
theorem VY(x y:Int)(h:(sg x==sg y)=false)(hle:val (mg y)<=val (mg x)):x+y=if sg x=true then -(val (bn (val (mg x)-val (mg y))):Int) else (val (bn (val (mg x)-val (mg y))):Int):=by
 rw [bM];rw [eX,eX] at *;have:=SQ (sg x) (sg y) h (N:=x.natAbs) (M:=y.natAbs) hle;rw [qj,qj] at this;rw [this];rfl
theorem VX(x y:Int)(h:(sg x==sg y)=false)(hle:val (mg x)<=val (mg y)):x+y=if sg y=true then -(val (bn (val (mg y)-val (mg x))):Int) else (val (bn (val (mg y)-val (mg x))):Int):=by
 rw [bM];rw [eX,eX] at *;have:=SS (sg x) (sg y) h (N:=x.natAbs) (M:=y.natAbs) hle;rw [qj,qj] at this;rw [this];rfl
end Lw
namespace Go.Proofs.BGQ
open Go Go.RowKit Lw
section
variable {t:TypeId} {W0 w:World} {bs:List Bx} {L:List En} {M:List Sn} {u u':Value} {k k':Nat} {l l':List Nat}
theorem aff(HE:dP t W0 w bs L M)(h:⟨u,l,k⟩∈M)(h':⟨u',l',k'⟩∈M)(hk:k+k'<=100000) :
  Calls Tryz.prog 149 #[u,u'] w fun e w' => ∃ u,e = .returned u/\dP t W0 w' bs L (⟨u,bn (val l*val l'),k+k'+1⟩::M):=by
 obtain ⟨A,n,c,B,e1,h2,h3,h4,h5,h6⟩:=HE.jy _ h;obtain ⟨A',n',c',B',e1',h2',h3',h4',h5',h6'⟩:=HE.jy _ h';dsimp only at *;subst e1 e1'
 have hz:(bn (val l*val l')).length<=k+k'+1:=fD (by
  have:=lt_mul (x:=(val l:Int)) (y:=(val l':Int)) (k:=k) (k':=k') (by rw [aoL];exact aoK (eu h2.bQ) (dU af)) (by rw [aoL];exact aoK (eu h2'.bQ) (dU af))
  rwa [<- apd,aoL] at this)
 exact (DL A A' l l' n n' c c' B B' w h2 h2' h3 h3' h4 h4' af af).mono fun e w' hh=>JG HE hh hz
end
set_option maxRecDepth 100000 in
set_option maxHeartbeats 4000000 in
theorem adl(s:Bool)(A:Option Addr)(ns:List Nat)(n c B:Nat)(w:World)(h:Rd w B A ns)(hB:B<=w.heap.size)(hn:ns.length=n)(hl:n<=10000)(hc:n<=c) :
  Calls Tryz.prog 108 #[.agg #[.bool s,.slice A n c]] w (jD w (-(zv s ns))):=by
 have HE:=Wv (s1:=s) 79 h hB hn hc (aoG n);clear h;generalize zv s ns=x at *;generalize vB s ns=bb at *
 go_enter Tryz.func108,Tryz.ntmps108
 go_wp2_with fail
 go_region_held3 (fun w'=>w'.cell? ⟨w.heap.size,0,none⟩=some (.bool s)/\w'.cell? ⟨w.heap.size,1,none⟩=some (.slice A n c)) (first | exact HE.env.Ny | exact HE.drew.env.Ny | exact HE.env.acD af _ _)
  (first
   | (go_at_call 146;refine (qU (by first | exact HE | exact HE.drew) aZ af).mono ?_;rintro e wn ⟨rfl,HE⟩)
   | (go_at_call 145;refine (vP (by first | exact HE | exact HE.drew) aZ af).mono ?_;rintro e wn ⟨u,rfl,HE⟩)
   | (go_at_call 143;refine (sK (!sg x) (-x) (by first | exact HE | exact HE.drew) aZ af (abO x)).mono ?_;rintro e wn ⟨A9,c9,rfl,dM,dS,HE⟩;obtain ⟨f0,f1,f2,f3⟩:=HE.env.second.facts))
 go_wp2
 refine bodyPost_ret (v := .agg #[.bool (sg (-x)),.slice A9 (mg (-x)).length c9]) (by simp [results,Tryz.results108,go_sem,f0,f1]) rfl ?_;exact fZ HE.env.second dS (aoG _) dM HE.env.below af
set_option maxRecDepth 100000 in
set_option maxHeartbeats 4000000 in
theorem adk(s s':Bool)(A A':Option Addr)(ns ms:List Nat)(n m c c' B B':Nat)(w:World)(h:Rd w B A ns)(h':Rd w B' A' ms)(hB:B<=w.heap.size)(hB':B'<=w.heap.size)(hn:ns.length=n)(hm:ms.length=m)(hl:n<=10000)(hl':m<=10000)(hc:n<=c)(hc':m<=c') :
  Calls Tryz.prog 105 #[.agg #[.bool s,.slice A n c],.agg #[.bool s',.slice A' m c']] w (jD w (zv s ns*zv s' ms)):=by
 have HE:=yM (s1:=s) (s2:=s') 79 h h' hB hB' hn hm hc hc' (aoG n) (aoG m);clear h h';generalize zv s ns=x at *;generalize zv s' ms=y at *;generalize vB s ns=bb at *;generalize vB s' ms=bb' at *
 go_enter Tryz.func105,Tryz.ntmps105
 go_wp2_with fail
 go_region_held3 (fun w'=>w'.cell? ⟨w.heap.size,0,none⟩=some (.bool s)/\w'.cell? ⟨w.heap.size,1,none⟩=some (.slice A n c)/\w'.cell? ⟨w.heap.size+1,0,none⟩=some (.bool s')/\w'.cell? ⟨w.heap.size+1,1,none⟩=some (.slice A' m c')) (first | exact HE.env.jQ | exact HE.drew.env.jQ | exact HE.env.iF af af _ _)
  (first
   | (go_at_call 146;refine (qU (by first | exact HE | exact HE.drew) aZ af).mono ?_;rintro e wn ⟨rfl,HE⟩)
   | (go_at_call 145;refine (vP (by first | exact HE | exact HE.drew) aZ af).mono ?_;rintro e wn ⟨u,rfl,HE⟩)
   | (go_at_call 149;refine (aff (by first | exact HE | exact HE.drew) aZ aZ af).mono ?_;rintro e wn ⟨u,rfl,HE⟩)
   | (go_at_call 143;refine (sK (sg x != sg y) (x*y) (by first | exact HE | exact HE.drew) aZ af (abf x y)).mono ?_;rintro e wn ⟨A9,c9,rfl,dM,dS,HE⟩;obtain ⟨f0,f1,f2,f3⟩:=HE.env.third.facts))
 go_wp2
 refine bodyPost_ret (v := .agg #[.bool (sg (x*y)),.slice A9 (mg (x*y)).length c9]) (by simp [results,Tryz.results105,go_sem,f0,f1]) rfl ?_;exact fZ HE.env.third dS (aoG _) dM HE.env.below af
theorem adu{t:TypeId}{W0 w:World}{bs:List Bx}{L:List En}{v v':Value}{x y:Int}{k k':Nat}{b b':Bool}(HE:Env t W0 w bs L)(h:⟨v,x,k,b⟩∈L)(h':⟨v',y,k',b'⟩∈L)(hk:k<=10000/\k'<=10000) :
  Calls Tryz.prog 105 #[v,v'] w fun e w' => ∃ A c,e = .returned (.agg #[.bool (sg (x*y)),.slice A (mg (x*y)).length c])/\(mg (x*y)).length<=c/\Rd w' w'.heap.size A (mg (x*y)) /\
   Env t W0 w' bs (⟨.agg #[.bool (sg (x*y)),.slice A (mg (x*y)).length c],x*y,k+k'+1,true⟩::L):=by
 have H1:=HE.ops _ h;have H2:=HE.ops _ h';have hz:=lt_mul H1.lt H2.lt;obtain ⟨s,A,n,c,ns,B,e1,h2,h3,h4,h5,h6,e7,h8⟩:=H1;obtain ⟨s',A',n',c',ns',B',e1',h2',h3',h4',h5',h6',dZ,h8'⟩:=H2;dsimp only at e1 e7 e1' dZ h5 h5' hz;subst e1 e1' e7 dZ;refine (adk s s' A A' ns ns' n n' c c' B B' w h2 h2' h3 h3' h4 h4' af af h6 h6').mono ?_;rintro e w' ⟨A9,c9,rfl,dM,dS,jF⟩;exact ⟨A9,c9,rfl,dM,dS,(HE.next jF).cons ⟨_,A9,_,c9,mg _,_,rfl,dS,aoG _,rfl,pq hz,dM,og _,mO _⟩⟩
theorem QS{t:TypeId}{W0 w:World}{bs:List Bx}{L:List En}{v:Value}{x:Int}{k:Nat}{b:Bool}(HE:Env t W0 w bs L)(h:⟨v,x,k,b⟩∈L)(hk:k<=10000) :
  Calls Tryz.prog 108 #[v] w fun e w' => ∃ u,e = .returned u/\Env t W0 w' bs (⟨u,-x,k,true⟩::L):=by
 have H1:=HE.ops _ h;have hz:(-x).natAbs<pw k:=by have:=H1.lt;simpa using this
 obtain ⟨s,A,n,c,ns,B,e1,h2,h3,h4,h5,h6,e7,h8⟩:=H1;dsimp only at e1 e7 h5;subst e1 e7;exact (adl s A ns n c B w h2 h3 h4 af h6).mono fun e w' hh=>rH HE hh hz
set_option maxRecDepth 100000 in
set_option maxHeartbeats 4000000 in
theorem adf(s s':Bool)(A A':Option Addr)(ns ms:List Nat)(n m c c' B B':Nat)(w:World)(h:Rd w B A ns)(h':Rd w B' A' ms)(hB:B<=w.heap.size)(hB':B'<=w.heap.size)(hn:ns.length=n)(hm:ms.length=m)(hl:n<=10000)(hl':m<=10000)(hc:n<=c)(hc':m<=c') :
  Calls Tryz.prog 107 #[.agg #[.bool s,.slice A n c],.agg #[.bool s',.slice A' m c']] w (jD w (zv s ns+zv s' ms)):=by
 have HE:=yM (s1:=s) (s2:=s') 79 h h' hB hB' hn hm hc hc' (aoG n) (aoG m);clear h h';generalize zv s ns=x at *;generalize zv s' ms=y at *;generalize vB s ns=bb at *;generalize vB s' ms=bb' at *
 go_enter Tryz.func107,Tryz.ntmps107
 go_wp2_with fail
 go_region_held3 (fun w'=>w'.cell? ⟨w.heap.size,0,none⟩=some (.bool s)/\w'.cell? ⟨w.heap.size,1,none⟩=some (.slice A n c)/\w'.cell? ⟨w.heap.size+1,0,none⟩=some (.bool s')/\w'.cell? ⟨w.heap.size+1,1,none⟩=some (.slice A' m c')) (first | exact HE.env.jQ | exact HE.drew.env.jQ | exact HE.env.iF af af _ _)
  (first
   | (go_at_call 145;refine (vP (by first | exact HE | exact HE.drew) aZ af).mono ?_;rintro e wn ⟨u,rfl,HE⟩))
 go_wp2_with fail
 cases hs:(sg x==sg y)
 ·go_region_held3 (fun w'=>w'.cell? ⟨w.heap.size,0,none⟩=some (.bool s)/\w'.cell? ⟨w.heap.size,1,none⟩=some (.slice A n c)/\w'.cell? ⟨w.heap.size+1,0,none⟩=some (.bool s')/\w'.cell? ⟨w.heap.size+1,1,none⟩=some (.slice A' m c')) (first | exact HE.env.jQ | exact HE.drew.env.jQ | exact HE.env.iF af af _ _)
   (first
    | (go_at_call 146;refine (qU (by first | exact HE | exact HE.drew) aZ af).mono ?_;rintro e wn ⟨rfl,HE⟩))
  go_wp2_with fail
  refine (XA HE au ak af).mono ?_;rintro e wn ⟨rfl,HE⟩;rcases aoM (val (mg x)) (val (mg y)) with hd | hd
  ·have hcmp:gZ (val (mg x)) (val (mg y))<0:=BZ hd
   obtain ⟨q1,q2,q3,q4⟩:=HE.env.jQ
   go_wp2_with fail
   refine (qU HE aZ af).mono ?_;rintro e wn ⟨rfl,HE⟩;clear q1 q2 q3 q4
   go_wp2_with fail
   refine (Iy HE aZ aZ af (tK x) (aoZ hd)).mono ?_;rintro e wn ⟨u,rfl,HE⟩
   go_wp2_with fail
   refine (sK (sg y) (x+y) HE aZ af (VX x y hs (aoZ hd))).mono ?_;rintro e wn ⟨A9,c9,rfl,dM,dS,HE⟩;obtain ⟨f0,f1,f2,f3⟩:=HE.env.third.facts
   go_wp2
   refine bodyPost_ret (v := .agg #[.bool (sg (x+y)),.slice A9 (mg (x+y)).length c9]) (by simp [results,Tryz.results107,go_sem,f0,f1]) rfl ?_;exact fZ HE.env.third dS (aoG _) dM HE.env.below af
  ·have hcmp:0<=gZ (val (mg x)) (val (mg y)):=by have:=Cb hd;omega
   obtain ⟨q1,q2,q3,q4⟩:=HE.env.jQ
   go_wp2_with fail
   refine (qU HE aZ af).mono ?_;rintro e wn ⟨rfl,HE⟩;clear q1 q2 q3 q4
   go_wp2_with fail
   refine (Iy HE aZ aZ af (tK y) hd).mono ?_;rintro e wn ⟨u,rfl,HE⟩
   go_wp2_with fail
   refine (sK (sg x) (x+y) HE aZ af (VY x y hs hd)).mono ?_;rintro e wn ⟨A9,c9,rfl,dM,dS,HE⟩;obtain ⟨f0,f1,f2,f3⟩:=HE.env.third.facts
   go_wp2
   refine bodyPost_ret (v := .agg #[.bool (sg (x+y)),.slice A9 (mg (x+y)).length c9]) (by simp [results,Tryz.results107,go_sem,f0,f1]) rfl ?_;exact fZ HE.env.third dS (aoG _) dM HE.env.below af
 ·go_region_held3 (fun w'=>w'.cell? ⟨w.heap.size,0,none⟩=some (.bool s)/\w'.cell? ⟨w.heap.size,1,none⟩=some (.slice A n c)/\w'.cell? ⟨w.heap.size+1,0,none⟩=some (.bool s')/\w'.cell? ⟨w.heap.size+1,1,none⟩=some (.slice A' m c')) (first | exact HE.env.jQ | exact HE.drew.env.jQ | exact HE.env.iF af af _ _)
   (first
    | (go_at_call 146;refine (qU (by first | exact HE | exact HE.drew) aZ af).mono ?_;rintro e wn ⟨rfl,HE⟩))
  obtain ⟨q1,q2,q3,q4⟩:=HE.env.jQ
  go_wp2_with fail
  refine (qU HE aZ af).mono ?_;rintro e wn ⟨rfl,HE⟩;clear q1 q2 q3 q4
  go_wp2_with fail
  refine (Qy HE aZ aZ af).mono ?_;rintro e wn ⟨u,rfl,HE⟩
  go_wp2_with fail
  refine (sK (sg x) (x+y) HE aZ af (add_same x y hs)).mono ?_;rintro e wn ⟨A9,c9,rfl,dM,dS,HE⟩;obtain ⟨f0,f1,f2,f3⟩:=HE.env.third.facts
  go_wp2
  refine bodyPost_ret (v := .agg #[.bool (sg (x+y)),.slice A9 (mg (x+y)).length c9]) (by simp [results,Tryz.results107,go_sem,f0,f1]) rfl ?_;exact fZ HE.env.third dS (aoG _) dM HE.env.below af
theorem QO{t:TypeId}{W0 w:World}{bs:List Bx}{L:List En}{v v':Value}{x y:Int}{k k':Nat}{b b':Bool}(HE:Env t W0 w bs L)(h:⟨v,x,k,b⟩∈L)(h':⟨v',y,k',b'⟩∈L)(hk:k<=10000/\k'<=10000) :
  Calls Tryz.prog 107 #[v,v'] w fun e w' => ∃ A c,e = .returned (.agg #[.bool (sg (x+y)),.slice A (mg (x+y)).length c])/\(mg (x+y)).length<=c/\Rd w' w'.heap.size A (mg (x+y)) /\
   Env t W0 w' bs (⟨.agg #[.bool (sg (x+y)),.slice A (mg (x+y)).length c],x+y,k+k'+1,true⟩::L):=by
 have H1:=HE.ops _ h;have H2:=HE.ops _ h';have hz:=vO H1.lt H2.lt;obtain ⟨s,A,n,c,ns,B,e1,h2,h3,h4,h5,h6,e7,h8⟩:=H1;obtain ⟨s',A',n',c',ns',B',e1',h2',h3',h4',h5',h6',dZ,h8'⟩:=H2;dsimp only at e1 e7 e1' dZ h5 h5' hz;subst e1 e1' e7 dZ;refine (adf s s' A A' ns ns' n n' c c' B B' w h2 h2' h3 h3' h4 h4' af af h6 h6').mono ?_;rintro e w' ⟨A9,c9,rfl,dM,dS,jF⟩;exact ⟨A9,c9,rfl,dM,dS,(HE.next jF).cons ⟨_,A9,_,c9,mg _,_,rfl,dS,aoG _,rfl,pq hz,dM,og _,mO _⟩⟩
set_option maxRecDepth 100000 in
set_option maxHeartbeats 4000000 in
theorem adm(s s':Bool)(A A':Option Addr)(ns ms:List Nat)(n m c c' B B':Nat)(w:World)(h:Rd w B A ns)(h':Rd w B' A' ms)(hB:B<=w.heap.size)(hB':B'<=w.heap.size)(hn:ns.length=n)(hm:ms.length=m)(hl:n<=10000)(hl':m<=10000)(hc:n<=c)(hc':m<=c') :
  Calls Tryz.prog 142 #[.agg #[.bool s,.slice A n c],.agg #[.bool s',.slice A' m c']] w (jD w (zv s ns-zv s' ms)):=by
 have HE:=yM (s1:=s) (s2:=s') 79 h h' hB hB' hn hm hc hc' (aoG n) (aoG m);clear h h';generalize zv s ns=x at *;generalize zv s' ms=y at *;generalize vB s ns=bb at *;generalize vB s' ms=bb' at *;rw [Int.sub_eq_add_neg];replace HE:=HE.env
 go_enter Tryz.func142,Tryz.ntmps142
 go_wp2_with fail
 go_region_held3 (fun w'=>w'.cell? ⟨w.heap.size,0,none⟩=some (.bool s)/\w'.cell? ⟨w.heap.size,1,none⟩=some (.slice A n c)/\w'.cell? ⟨w.heap.size+1,0,none⟩=some (.bool s')/\w'.cell? ⟨w.heap.size+1,1,none⟩=some (.slice A' m c')) (first | exact HE.jQ | exact HE.drew.jQ | exact HE.iF af af _ _)
  (first
   | (go_at_call 108;refine (QS (by first | exact HE | exact HE.drew) aZ af).mono ?_;rintro e wn ⟨u,rfl,HE⟩)
   | (go_at_call 107;refine (QO (by first | exact HE | exact HE.drew) aZ aZ af).mono ?_;rintro e wn ⟨A9,c9,rfl,dM,dS,HE⟩;obtain ⟨f0,f1,f2,f3⟩:=HE.third.facts))
 go_wp2
 refine bodyPost_ret (v := .agg #[.bool (sg (x + -y)),.slice A9 (mg (x + -y)).length c9]) (by simp [results,Tryz.results142,go_sem,f0,f1]) rfl ?_;exact fZ HE.third dS (aoG _) dM HE.below af
theorem adA{t:TypeId}{W0 w:World}{bs:List Bx}{L:List En}{v v':Value}{x y:Int}{k k':Nat}{b b':Bool}(HE:Env t W0 w bs L)(h:⟨v,x,k,b⟩∈L)(h':⟨v',y,k',b'⟩∈L)(hk:k<=10000/\k'<=10000) :
  Calls Tryz.prog 142 #[v,v'] w fun e w' => ∃ A c,e = .returned (.agg #[.bool (sg (x-y)),.slice A (mg (x-y)).length c])/\(mg (x-y)).length<=c/\Rd w' w'.heap.size A (mg (x-y)) /\
   Env t W0 w' bs (⟨.agg #[.bool (sg (x-y)),.slice A (mg (x-y)).length c],x-y,k+k'+1,true⟩::L):=by
 have H1:=HE.ops _ h;have H2:=HE.ops _ h';have hz:=PR H1.lt H2.lt;obtain ⟨s,A,n,c,ns,B,e1,h2,h3,h4,h5,h6,e7,h8⟩:=H1;obtain ⟨s',A',n',c',ns',B',e1',h2',h3',h4',h5',h6',dZ,h8'⟩:=H2;dsimp only at e1 e7 e1' dZ h5 h5' hz;subst e1 e1' e7 dZ;refine (adm s s' A A' ns ns' n n' c c' B B' w h2 h2' h3 h3' h4 h4' af af h6 h6').mono ?_;rintro e w' ⟨A9,c9,rfl,dM,dS,jF⟩;exact ⟨A9,c9,rfl,dM,dS,(HE.next jF).cons ⟨_,A9,_,c9,mg _,_,rfl,dS,aoG _,rfl,pq hz,dM,og _,mO _⟩⟩
set_option maxRecDepth 100000 in
set_option maxHeartbeats 4000000 in
theorem adg(s s':Bool)(A A':Option Addr)(ns ms:List Nat)(n m c c' B B':Nat)(w:World)(h:Rd w B A ns)(h':Rd w B' A' ms)(hB:B<=w.heap.size)(hB':B'<=w.heap.size)(hn:ns.length=n)(hm:ms.length=m)(hl:n<=10000)(hl':m<=10000)(hc:n<=c)(hc':m<=c') :
  Calls Tryz.prog 96 #[.agg #[.bool s,.slice A n c],.agg #[.bool s',.slice A' m c']] w fun e w'=>e = .returned (.int .i64 (eY (zv s ns) (zv s' ms)))/\Below w.heap.size w w':=by
 have HE:=Wx (s1:=s) (s2:=s') 79 h h' hB hB' hn hm hc hc' (aoG n) (aoG m);clear h h';generalize zv s ns=x at *;generalize zv s' ms=y at *;generalize vB s ns=bb at *;generalize vB s' ms=bb' at *;have HC:=Lib.hid (aeV x y);obtain ⟨q1,q2,q3,q4⟩:=HE.cells2
 go_enter Tryz.func96,Tryz.ntmps96
 go_wp2_with fail
 refine (adA HE aZ aZ af).mono ?_;rintro e wn ⟨A9,c9,rfl,dM,dS,HE⟩;clear q1 q2 q3 q4
 go_wp2_with fail
 refine (QX HE ak af).mono ?_;rintro e wn ⟨rfl,HE⟩
 go_wp2_with fail
 go_ret
 exact ⟨eP HC.out,HE.below⟩
theorem adp{t:TypeId}{W0 w:World}{bs:List Bx}{L:List En}{v v':Value}{x y:Int}{k k':Nat}{b b':Bool}(HE:Env t W0 w bs L)(h:⟨v,x,k,b⟩∈L)(h':⟨v',y,k',b'⟩∈L)(hk:k<=10000/\k'<=10000) :
  Calls Tryz.prog 96 #[v,v'] w fun e w'=>e = .returned (.int .i64 (eY x y))/\Env t W0 w' bs L:=by
 obtain ⟨s,A,n,c,ns,B,e1,h2,h3,h4,h5,h6,e7,h8⟩:=HE.ops _ h;obtain ⟨s',A',n',c',ns',B',e1',h2',h3',h4',h5',h6',dZ,h8'⟩:=HE.ops _ h';dsimp only at e1 e7 e1' dZ h5 h5';subst e1 e1' e7 dZ;exact (adg s s' A A' ns ns' n n' c c' B B' w h2 h2' h3 h3' h4 h4' af af h6 h6').mono fun e w' hh=>⟨hh.1,HE.next hh.2⟩
end Go.Proofs.BGQ
