/- Part of a proof, said shortly. -/
import Derived.Deep.RegionHeld3
import Derived.Test.YtmmgoghiiionfaaGreatDoorAlz
import Derived.Test.YtmmgoghiiionfaaGreatDoorC12
import Derived.Test.YtmmgoghiiionfaaGreatDoorC3
import Derived.Test.YtmmgoghiiionfaaGreatDoorC2
import Derived.Test.YtmmgoghiiionfaaGreatDoorC1
set_option linter.unusedVariables false
set_option linter.unusedSimpArgs false
namespace Lw
open Go Go.RowKit
theorem Env.MX{t:TypeId}{W0 w:World}{L:List En}{g1 g3:Nat}{x1 y1 x3 y3:Value}(h:Env t W0 w [⟨g1,x1,y1⟩,⟨g3,x3,y3⟩] L):w.cell? ⟨g1,0,none⟩=some x1/\w.cell? ⟨g1,1,none⟩=some y1:=by
 obtain ⟨a,b,_⟩:=h.cells2;grind
theorem ady(x y:Int):fG (x-y)=kT x y:=by unfold fG kT;grind
theorem VJ{w:World}{s1 s2:Bool}{A1 A2:Option Addr}{n1 n2 c1 c2 B1 B2 k1 k2:Nat}{l1 l2:List Nat}(t:TypeId)(r1:Rd w B1 A1 l1)(r2:Rd w B2 A2 l2)(hB1:B1<=w.heap.size)(hB2:B2<=w.heap.size)(e1:l1.length=n1)(e2:l2.length=n2)(q1:n1<=c1)(q2:n2<=c2)(h1:n1<=k1)(h2:n2<=k2) :
  Env t w ((w.alloc (.cells #[.bool s1,.slice A1 n1 c1] t)).alloc (.cells #[.bool s2,.slice A2 n2 c2] t))
   [⟨w.heap.size,.bool s1,.slice A1 n1 c1⟩,⟨w.heap.size+1,.bool s2,.slice A2 n2 c2⟩]
   [⟨.agg #[.bool s1,.slice A1 n1 c1],zv s1 l1,k1,vB s1 l1⟩,⟨.agg #[.bool s2,.slice A2 n2 c2],zv s2 l2,k2,vB s2 l2⟩]:=by
 have hb:=(((Below.refl w.heap.size w).alloc (ahj _) (.cells #[.bool s1,.slice A1 n1 c1] t)).alloc (by simp) (.cells #[.bool s2,.slice A2 n2 c2] t));refine ⟨fun e he => ?_,fun b hb' => ?_,hb⟩
 ·simp only [List.mem_cons,List.not_mem_nil,or_false] at he
  rcases he with rfl | rfl
  ·exact cZ.here r1 hB1 hb e1 h1 q1
  ·exact cZ.here r2 hB2 hb e2 h2 q2
 ·simp only [List.mem_cons,List.not_mem_nil,or_false] at hb'
  rcases hb' with rfl | rfl
  ·exact (Two.new w t _ _).alloc _
  ·have:=Two.new (w.alloc (.cells #[.bool s1,.slice A1 n1 c1] t)) t (.bool s2) (.slice A2 n2 c2)
   rwa [World.size_alloc] at this
theorem aaq(x:Int) : -x=if (!sg x)=true then -(val (mg x):Int) else (val (mg x):Int):=by
 rw [fU];unfold sg;grind
theorem aal(x y:Int):x*y=if (sg x != sg y)=true then -(val (bg (val (mg x)*val (mg y))):Int) else (val (bg (val (mg x)*val (mg y))):Int):=by
 rw [bG,fU,fU];exact aak x y
theorem add_same(x y:Int)(h:(sg x==sg y)=true):x+y=if sg x=true then -(val (bg (val (mg x)+val (mg y))):Int) else (val (bg (val (mg x)+val (mg y))):Int):=by
 rw [bG,fU,fU];have:=adL (sg x) (sg y) h x.natAbs y.natAbs;rw [uY,uY] at this;rw [this];rfl
theorem Vh(x y:Int)(h:(sg x==sg y)=false)(hle:val (mg y)<=val (mg x)):x+y=if sg x=true then -(val (bg (val (mg x)-val (mg y))):Int) else (val (bg (val (mg x)-val (mg y))):Int):=by
 rw [bG];rw [fU,fU] at *;have:=adM (sg x) (sg y) h (N:=x.natAbs) (M:=y.natAbs) hle;rw [uY,uY] at this;rw [this];rfl
theorem Vg(x y:Int)(h:(sg x==sg y)=false)(hle:val (mg x)<=val (mg y)):x+y=if sg y=true then -(val (bg (val (mg y)-val (mg x))):Int) else (val (bg (val (mg y)-val (mg x))):Int):=by
 rw [bG];rw [fU,fU] at *;have:=adN (sg x) (sg y) h (N:=x.natAbs) (M:=y.natAbs) hle;rw [uY,uY] at this;rw [this];rfl
end Lw
namespace Go.Proofs.AZQ
open Go Go.RowKit Lw
section
variable {t:TypeId} {W0 w:World} {bs:List Bx} {L:List En} {M:List Sn} {u u':Value} {k k':Nat} {l l':List Nat}
theorem adV(HE:dA t W0 w bs L M)(h:⟨u,l,k⟩∈M)(h':⟨u',l',k'⟩∈M)(hk:k+k'<=100000) :
  Calls Tryz.prog 206 #[u,u'] w fun e w' => ∃ u,e = .returned u/\dA t W0 w' bs L (⟨u,bg (val l*val l'),k+k'+1⟩::M):=by
 obtain ⟨A,n,c,B,e1,h2,h3,h4,h5,h6⟩:=HE.iM _ h;obtain ⟨A',n',c',B',e1',h2',h3',h4',h5',h6'⟩:=HE.iM _ h';dsimp only at *;subst e1 e1'
 have hz:(bg (val l*val l')).length<=k+k'+1:=gQ (by
  have:=lt_mul (x:=(val l:Int)) (y:=(val l':Int)) (k:=k) (k':=k') (by rw [ahx];exact ahr (dQ h2.bI) (dY af)) (by rw [ahx];exact ahr (dQ h2'.bI) (dY af))
  rwa [<- aid,ahx] at this)
 exact (ab6 A A' l l' n n' c c' B B' w h2 h2' h3 h3' h4 h4' af af).mono fun e w' hh=>I9 HE hh hz
end
set_option maxRecDepth 100000 in
set_option maxHeartbeats 4000000 in
theorem abQ(s:Bool)(A:Option Addr)(ns:List Nat)(n c B:Nat)(w:World)(h:Rd w B A ns)(hB:B<=w.heap.size)(hn:ns.length=n)(hl:n<=10000)(hc:n<=c) :
  Calls Tryz.prog 178 #[.agg #[.bool s,.slice A n c]] w (kQ w (-(zv s ns))):=by
 have HE:=VI (s1:=s) 109 h hB hn hc (ahj n);clear h;generalize zv s ns=x at *;generalize vB s ns=bb at *
 go_enter Tryz.func178,Tryz.ntmps178
 go_wp2_with fail
 go_region_held3 (fun w'=>w'.cell? ⟨w.heap.size,0,none⟩=some (.bool s)/\w'.cell? ⟨w.heap.size,1,none⟩=some (.slice A n c)) (first | exact HE.env.MX | exact HE.drew.env.MX | exact HE.env.abh af _ _)
  (first
   | (go_at_call 197;refine (pO (by first | exact HE | exact HE.drew) aY af).mono ?_;rintro e wn ⟨rfl,HE⟩)
   | (go_at_call 196;refine (uD (by first | exact HE | exact HE.drew) aY af).mono ?_;rintro e wn ⟨u,rfl,HE⟩)
   | (go_at_call 186;refine (qW (!sg x) (-x) (by first | exact HE | exact HE.drew) aY af (aaq x)).mono ?_;rintro e wn ⟨A9,c9,rfl,dM,dG,HE⟩;obtain ⟨f0,f1,f2,f3⟩:=HE.env.second.facts))
 go_wp2
 refine bodyPost_ret (v := .agg #[.bool (sg (-x)),.slice A9 (mg (-x)).length c9]) (by simp [results,Tryz.results178,go_sem,f0,f1]) rfl ?_;exact jW HE.env.second dG (ahj _) dM HE.env.below af
set_option maxRecDepth 100000 in
set_option maxHeartbeats 4000000 in
theorem abP(s s':Bool)(A A':Option Addr)(ns ms:List Nat)(n m c c' B B':Nat)(w:World)(h:Rd w B A ns)(h':Rd w B' A' ms)(hB:B<=w.heap.size)(hB':B'<=w.heap.size)(hn:ns.length=n)(hm:ms.length=m)(hl:n<=10000)(hl':m<=10000)(hc:n<=c)(hc':m<=c') :
  Calls Tryz.prog 142 #[.agg #[.bool s,.slice A n c],.agg #[.bool s',.slice A' m c']] w (kQ w (zv s ns*zv s' ms)):=by
 have HE:=wF (s1:=s) (s2:=s') 109 h h' hB hB' hn hm hc hc' (ahj n) (ahj m);clear h h';generalize zv s ns=x at *;generalize zv s' ms=y at *;generalize vB s ns=bb at *;generalize vB s' ms=bb' at *
 go_enter Tryz.func142,Tryz.ntmps142
 go_wp2_with fail
 go_region_held3 (fun w'=>w'.cell? ⟨w.heap.size,0,none⟩=some (.bool s)/\w'.cell? ⟨w.heap.size,1,none⟩=some (.slice A n c)/\w'.cell? ⟨w.heap.size+1,0,none⟩=some (.bool s')/\w'.cell? ⟨w.heap.size+1,1,none⟩=some (.slice A' m c')) (first | exact HE.env.jd | exact HE.drew.env.jd | exact HE.env.ji af af _ _)
  (first
   | (go_at_call 197;refine (pO (by first | exact HE | exact HE.drew) aY af).mono ?_;rintro e wn ⟨rfl,HE⟩)
   | (go_at_call 196;refine (uD (by first | exact HE | exact HE.drew) aY af).mono ?_;rintro e wn ⟨u,rfl,HE⟩)
   | (go_at_call 206;refine (adV (by first | exact HE | exact HE.drew) aY aY af).mono ?_;rintro e wn ⟨u,rfl,HE⟩)
   | (go_at_call 186;refine (qW (sg x != sg y) (x*y) (by first | exact HE | exact HE.drew) aY af (aal x y)).mono ?_;rintro e wn ⟨A9,c9,rfl,dM,dG,HE⟩;obtain ⟨f0,f1,f2,f3⟩:=HE.env.third.facts))
 go_wp2
 refine bodyPost_ret (v := .agg #[.bool (sg (x*y)),.slice A9 (mg (x*y)).length c9]) (by simp [results,Tryz.results142,go_sem,f0,f1]) rfl ?_;exact jW HE.env.third dG (ahj _) dM HE.env.below af
theorem ab1{t:TypeId}{W0 w:World}{bs:List Bx}{L:List En}{v v':Value}{x y:Int}{k k':Nat}{b b':Bool}(HE:Env t W0 w bs L)(h:⟨v,x,k,b⟩∈L)(h':⟨v',y,k',b'⟩∈L)(hk:k<=10000/\k'<=10000) :
  Calls Tryz.prog 142 #[v,v'] w fun e w' => ∃ A c,e = .returned (.agg #[.bool (sg (x*y)),.slice A (mg (x*y)).length c])/\(mg (x*y)).length<=c/\Rd w' w'.heap.size A (mg (x*y)) /\
   Env t W0 w' bs (⟨.agg #[.bool (sg (x*y)),.slice A (mg (x*y)).length c],x*y,k+k'+1,true⟩::L):=by
 have H1:=HE.ops _ h;have H2:=HE.ops _ h';have hz:=lt_mul H1.lt H2.lt;obtain ⟨s,A,n,c,ns,B,e1,h2,h3,h4,h5,h6,e7,h8⟩:=H1;obtain ⟨s',A',n',c',ns',B',e1',h2',h3',h4',h5',h6',gV,h8'⟩:=H2;dsimp only at e1 e7 e1' gV h5 h5' hz;subst e1 e1' e7 gV;refine (abP s s' A A' ns ns' n n' c c' B B' w h2 h2' h3 h3' h4 h4' af af h6 h6').mono ?_;rintro e w' ⟨A9,c9,rfl,dM,dG,jG⟩;exact ⟨A9,c9,rfl,dM,dG,(HE.next jG).cons ⟨_,A9,_,c9,mg _,_,rfl,dG,ahj _,rfl,rC hz,dM,sG _,qw _⟩⟩
theorem QY{t:TypeId}{W0 w:World}{bs:List Bx}{L:List En}{v:Value}{x:Int}{k:Nat}{b:Bool}(HE:Env t W0 w bs L)(h:⟨v,x,k,b⟩∈L)(hk:k<=10000) :
  Calls Tryz.prog 178 #[v] w fun e w' => ∃ u,e = .returned u/\Env t W0 w' bs (⟨u,-x,k,true⟩::L):=by
 have H1:=HE.ops _ h;have hz:(-x).natAbs<pw k:=by have:=H1.lt;simpa using this
 obtain ⟨s,A,n,c,ns,B,e1,h2,h3,h4,h5,h6,e7,h8⟩:=H1;dsimp only at e1 e7 h5;subst e1 e7;exact (abQ s A ns n c B w h2 h3 h4 af h6).mono fun e w' hh=>DD HE hh hz
set_option maxRecDepth 100000 in
set_option maxHeartbeats 4000000 in
theorem abL(s s':Bool)(A A':Option Addr)(ns ms:List Nat)(n m c c' B B':Nat)(w:World)(h:Rd w B A ns)(h':Rd w B' A' ms)(hB:B<=w.heap.size)(hB':B'<=w.heap.size)(hn:ns.length=n)(hm:ms.length=m)(hl:n<=10000)(hl':m<=10000)(hc:n<=c)(hc':m<=c') :
  Calls Tryz.prog 141 #[.agg #[.bool s,.slice A n c],.agg #[.bool s',.slice A' m c']] w (kQ w (zv s ns+zv s' ms)):=by
 have HE:=wF (s1:=s) (s2:=s') 109 h h' hB hB' hn hm hc hc' (ahj n) (ahj m);clear h h';generalize zv s ns=x at *;generalize zv s' ms=y at *;generalize vB s ns=bb at *;generalize vB s' ms=bb' at *
 go_enter Tryz.func141,Tryz.ntmps141
 go_wp2_with fail
 go_region_held3 (fun w'=>w'.cell? ⟨w.heap.size,0,none⟩=some (.bool s)/\w'.cell? ⟨w.heap.size,1,none⟩=some (.slice A n c)/\w'.cell? ⟨w.heap.size+1,0,none⟩=some (.bool s')/\w'.cell? ⟨w.heap.size+1,1,none⟩=some (.slice A' m c')) (first | exact HE.env.jd | exact HE.drew.env.jd | exact HE.env.ji af af _ _)
  (first
   | (go_at_call 196;refine (uD (by first | exact HE | exact HE.drew) aY af).mono ?_;rintro e wn ⟨u,rfl,HE⟩))
 go_wp2_with fail
 cases hs:(sg x==sg y)
 ·go_region_held3 (fun w'=>w'.cell? ⟨w.heap.size,0,none⟩=some (.bool s)/\w'.cell? ⟨w.heap.size,1,none⟩=some (.slice A n c)/\w'.cell? ⟨w.heap.size+1,0,none⟩=some (.bool s')/\w'.cell? ⟨w.heap.size+1,1,none⟩=some (.slice A' m c')) (first | exact HE.env.jd | exact HE.drew.env.jd | exact HE.env.ji af af _ _)
   (first
    | (go_at_call 197;refine (pO (by first | exact HE | exact HE.drew) aY af).mono ?_;rintro e wn ⟨rfl,HE⟩))
  go_wp2_with fail
  refine (WL HE au ak af).mono ?_;rintro e wn ⟨rfl,HE⟩;rcases ahs (val (mg x)) (val (mg y)) with hd | hd
  ·have hcmp:iQ (val (mg x)) (val (mg y))<0:=ES hd
   obtain ⟨q1,q2,q3,q4⟩:=HE.env.jd
   go_wp2_with fail
   refine (pO HE aY af).mono ?_;rintro e wn ⟨rfl,HE⟩;clear q1 q2 q3 q4
   go_wp2_with fail
   refine (GY HE aY aY af (GX x) (ahN hd)).mono ?_;rintro e wn ⟨u,rfl,HE⟩
   go_wp2_with fail
   refine (qW (sg y) (x+y) HE aY af (Vg x y hs (ahN hd))).mono ?_;rintro e wn ⟨A9,c9,rfl,dM,dG,HE⟩;obtain ⟨f0,f1,f2,f3⟩:=HE.env.third.facts
   go_wp2
   refine bodyPost_ret (v := .agg #[.bool (sg (x+y)),.slice A9 (mg (x+y)).length c9]) (by simp [results,Tryz.results141,go_sem,f0,f1]) rfl ?_;exact jW HE.env.third dG (ahj _) dM HE.env.below af
  ·have hcmp:0<=iQ (val (mg x)) (val (mg y)):=by have:=ET hd;omega
   obtain ⟨q1,q2,q3,q4⟩:=HE.env.jd
   go_wp2_with fail
   refine (pO HE aY af).mono ?_;rintro e wn ⟨rfl,HE⟩;clear q1 q2 q3 q4
   go_wp2_with fail
   refine (GY HE aY aY af (GX y) hd).mono ?_;rintro e wn ⟨u,rfl,HE⟩
   go_wp2_with fail
   refine (qW (sg x) (x+y) HE aY af (Vh x y hs hd)).mono ?_;rintro e wn ⟨A9,c9,rfl,dM,dG,HE⟩;obtain ⟨f0,f1,f2,f3⟩:=HE.env.third.facts
   go_wp2
   refine bodyPost_ret (v := .agg #[.bool (sg (x+y)),.slice A9 (mg (x+y)).length c9]) (by simp [results,Tryz.results141,go_sem,f0,f1]) rfl ?_;exact jW HE.env.third dG (ahj _) dM HE.env.below af
 ·go_region_held3 (fun w'=>w'.cell? ⟨w.heap.size,0,none⟩=some (.bool s)/\w'.cell? ⟨w.heap.size,1,none⟩=some (.slice A n c)/\w'.cell? ⟨w.heap.size+1,0,none⟩=some (.bool s')/\w'.cell? ⟨w.heap.size+1,1,none⟩=some (.slice A' m c')) (first | exact HE.env.jd | exact HE.drew.env.jd | exact HE.env.ji af af _ _)
   (first
    | (go_at_call 197;refine (pO (by first | exact HE | exact HE.drew) aY af).mono ?_;rintro e wn ⟨rfl,HE⟩))
  obtain ⟨q1,q2,q3,q4⟩:=HE.env.jd
  go_wp2_with fail
  refine (pO HE aY af).mono ?_;rintro e wn ⟨rfl,HE⟩;clear q1 q2 q3 q4
  go_wp2_with fail
  refine (Qr HE aY aY af).mono ?_;rintro e wn ⟨u,rfl,HE⟩
  go_wp2_with fail
  refine (qW (sg x) (x+y) HE aY af (add_same x y hs)).mono ?_;rintro e wn ⟨A9,c9,rfl,dM,dG,HE⟩;obtain ⟨f0,f1,f2,f3⟩:=HE.env.third.facts
  go_wp2
  refine bodyPost_ret (v := .agg #[.bool (sg (x+y)),.slice A9 (mg (x+y)).length c9]) (by simp [results,Tryz.results141,go_sem,f0,f1]) rfl ?_;exact jW HE.env.third dG (ahj _) dM HE.env.below af
theorem QX{t:TypeId}{W0 w:World}{bs:List Bx}{L:List En}{v v':Value}{x y:Int}{k k':Nat}{b b':Bool}(HE:Env t W0 w bs L)(h:⟨v,x,k,b⟩∈L)(h':⟨v',y,k',b'⟩∈L)(hk:k<=10000/\k'<=10000) :
  Calls Tryz.prog 141 #[v,v'] w fun e w' => ∃ A c,e = .returned (.agg #[.bool (sg (x+y)),.slice A (mg (x+y)).length c])/\(mg (x+y)).length<=c/\Rd w' w'.heap.size A (mg (x+y)) /\
   Env t W0 w' bs (⟨.agg #[.bool (sg (x+y)),.slice A (mg (x+y)).length c],x+y,k+k'+1,true⟩::L):=by
 have H1:=HE.ops _ h;have H2:=HE.ops _ h';have hz:=xG H1.lt H2.lt;obtain ⟨s,A,n,c,ns,B,e1,h2,h3,h4,h5,h6,e7,h8⟩:=H1;obtain ⟨s',A',n',c',ns',B',e1',h2',h3',h4',h5',h6',gV,h8'⟩:=H2;dsimp only at e1 e7 e1' gV h5 h5' hz;subst e1 e1' e7 gV;refine (abL s s' A A' ns ns' n n' c c' B B' w h2 h2' h3 h3' h4 h4' af af h6 h6').mono ?_;rintro e w' ⟨A9,c9,rfl,dM,dG,jG⟩;exact ⟨A9,c9,rfl,dM,dG,(HE.next jG).cons ⟨_,A9,_,c9,mg _,_,rfl,dG,ahj _,rfl,rC hz,dM,sG _,qw _⟩⟩
set_option maxRecDepth 100000 in
set_option maxHeartbeats 4000000 in
theorem abR(s s':Bool)(A A':Option Addr)(ns ms:List Nat)(n m c c' B B':Nat)(w:World)(h:Rd w B A ns)(h':Rd w B' A' ms)(hB:B<=w.heap.size)(hB':B'<=w.heap.size)(hn:ns.length=n)(hm:ms.length=m)(hl:n<=10000)(hl':m<=10000)(hc:n<=c)(hc':m<=c') :
  Calls Tryz.prog 198 #[.agg #[.bool s,.slice A n c],.agg #[.bool s',.slice A' m c']] w (kQ w (zv s ns-zv s' ms)):=by
 have HE:=wF (s1:=s) (s2:=s') 109 h h' hB hB' hn hm hc hc' (ahj n) (ahj m);clear h h';generalize zv s ns=x at *;generalize zv s' ms=y at *;generalize vB s ns=bb at *;generalize vB s' ms=bb' at *;rw [Int.sub_eq_add_neg];replace HE:=HE.env
 go_enter Tryz.func198,Tryz.ntmps198
 go_wp2_with fail
 go_region_held3 (fun w'=>w'.cell? ⟨w.heap.size,0,none⟩=some (.bool s)/\w'.cell? ⟨w.heap.size,1,none⟩=some (.slice A n c)/\w'.cell? ⟨w.heap.size+1,0,none⟩=some (.bool s')/\w'.cell? ⟨w.heap.size+1,1,none⟩=some (.slice A' m c')) (first | exact HE.jd | exact HE.drew.jd | exact HE.ji af af _ _)
  (first
   | (go_at_call 178;refine (QY (by first | exact HE | exact HE.drew) aY af).mono ?_;rintro e wn ⟨u,rfl,HE⟩)
   | (go_at_call 141;refine (QX (by first | exact HE | exact HE.drew) aY aY af).mono ?_;rintro e wn ⟨A9,c9,rfl,dM,dG,HE⟩;obtain ⟨f0,f1,f2,f3⟩:=HE.third.facts))
 go_wp2
 refine bodyPost_ret (v := .agg #[.bool (sg (x + -y)),.slice A9 (mg (x + -y)).length c9]) (by simp [results,Tryz.results198,go_sem,f0,f1]) rfl ?_;exact jW HE.third dG (ahj _) dM HE.below af
theorem ab5{t:TypeId}{W0 w:World}{bs:List Bx}{L:List En}{v v':Value}{x y:Int}{k k':Nat}{b b':Bool}(HE:Env t W0 w bs L)(h:⟨v,x,k,b⟩∈L)(h':⟨v',y,k',b'⟩∈L)(hk:k<=10000/\k'<=10000) :
  Calls Tryz.prog 198 #[v,v'] w fun e w' => ∃ A c,e = .returned (.agg #[.bool (sg (x-y)),.slice A (mg (x-y)).length c])/\(mg (x-y)).length<=c/\Rd w' w'.heap.size A (mg (x-y)) /\
   Env t W0 w' bs (⟨.agg #[.bool (sg (x-y)),.slice A (mg (x-y)).length c],x-y,k+k'+1,true⟩::L):=by
 have H1:=HE.ops _ h;have H2:=HE.ops _ h';have hz:=aab H1.lt H2.lt;obtain ⟨s,A,n,c,ns,B,e1,h2,h3,h4,h5,h6,e7,h8⟩:=H1;obtain ⟨s',A',n',c',ns',B',e1',h2',h3',h4',h5',h6',gV,h8'⟩:=H2;dsimp only at e1 e7 e1' gV h5 h5' hz;subst e1 e1' e7 gV;refine (abR s s' A A' ns ns' n n' c c' B B' w h2 h2' h3 h3' h4 h4' af af h6 h6').mono ?_;rintro e w' ⟨A9,c9,rfl,dM,dG,jG⟩;exact ⟨A9,c9,rfl,dM,dG,(HE.next jG).cons ⟨_,A9,_,c9,mg _,_,rfl,dG,ahj _,rfl,rC hz,dM,sG _,qw _⟩⟩
set_option maxRecDepth 100000 in
set_option maxHeartbeats 4000000 in
theorem abM(s s':Bool)(A A':Option Addr)(ns ms:List Nat)(n m c c' B B':Nat)(w:World)(h:Rd w B A ns)(h':Rd w B' A' ms)(hB:B<=w.heap.size)(hB':B'<=w.heap.size)(hn:ns.length=n)(hm:ms.length=m)(hl:n<=10000)(hl':m<=10000)(hc:n<=c)(hc':m<=c') :
  Calls Tryz.prog 135 #[.agg #[.bool s,.slice A n c],.agg #[.bool s',.slice A' m c']] w fun e w'=>e = .returned (.int .i64 (kT (zv s ns) (zv s' ms)))/\Below w.heap.size w w':=by
 have HE:=VJ (s1:=s) (s2:=s') 109 h h' hB hB' hn hm hc hc' (ahj n) (ahj m);clear h h';generalize zv s ns=x at *;generalize zv s' ms=y at *;generalize vB s ns=bb at *;generalize vB s' ms=bb' at *;have HC:=Lib.hid (ady x y);obtain ⟨q1,q2,q3,q4⟩:=HE.cells2
 go_enter Tryz.func135,Tryz.ntmps135
 go_wp2_with fail
 refine (ab5 HE aY aY af).mono ?_;rintro e wn ⟨A9,c9,rfl,dM,dG,HE⟩;clear q1 q2 q3 q4
 go_wp2_with fail
 refine (Q5 HE ak af).mono ?_;rintro e wn ⟨rfl,HE⟩
 go_wp2_with fail
 go_ret
 exact ⟨eF HC.out,HE.below⟩
theorem abV{t:TypeId}{W0 w:World}{bs:List Bx}{L:List En}{v v':Value}{x y:Int}{k k':Nat}{b b':Bool}(HE:Env t W0 w bs L)(h:⟨v,x,k,b⟩∈L)(h':⟨v',y,k',b'⟩∈L)(hk:k<=10000/\k'<=10000) :
  Calls Tryz.prog 135 #[v,v'] w fun e w'=>e = .returned (.int .i64 (kT x y))/\Env t W0 w' bs L:=by
 obtain ⟨s,A,n,c,ns,B,e1,h2,h3,h4,h5,h6,e7,h8⟩:=HE.ops _ h;obtain ⟨s',A',n',c',ns',B',e1',h2',h3',h4',h5',h6',gV,h8'⟩:=HE.ops _ h';dsimp only at e1 e7 e1' gV h5 h5';subst e1 e1' e7 gV;exact (abM s s' A A' ns ns' n n' c c' B B' w h2 h2' h3 h3' h4 h4' af af h6 h6').mono fun e w' hh=>⟨hh.1,HE.next hh.2⟩
end Go.Proofs.AZQ
