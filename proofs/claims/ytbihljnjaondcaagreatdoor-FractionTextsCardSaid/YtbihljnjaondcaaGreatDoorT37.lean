/- Part of a proof, said shortly. -/
import Derived.Deep.RegionHeld3
import Derived.Test.YtbihljnjaondcaaGreatDoorAlt
import Derived.Test.YtbihljnjaondcaaGreatDoorT36
import Derived.Test.YtbihljnjaondcaaGreatDoorT35
import Derived.Test.YtbihljnjaondcaaGreatDoorT12
import Derived.Test.YtbihljnjaondcaaGreatDoorT6
import Derived.Test.YtbihljnjaondcaaGreatDoorT4
import Derived.Test.YtbihljnjaondcaaGreatDoorT3
import Derived.Test.YtbihljnjaondcaaGreatDoorT2
import Derived.Test.YtbihljnjaondcaaGreatDoorT1
import Derived.Test.YtbihljnjaondcaaGreatDoorT5
import Derived.Test.YtbihljnjaondcaaGreatDoorT9
import Derived.Test.YtbihljnjaondcaaGreatDoorT8
import Derived.Test.YtbihljnjaondcaaGreatDoorT7
import Derived.Test.YtbihljnjaondcaaGreatDoorT13
import Derived.Test.YtbihljnjaondcaaGreatDoorT10
import Derived.Test.YtbihljnjaondcaaGreatDoorT11
namespace Lw
open Go Go.RowKit
theorem Env.bcz {t:TypeId} {W0 w:World} {L:List En} {g1 g3:Nat} {x1 y1 x3 y3:Value} (h:Env t W0 w [⟨g1,x1,y1⟩,⟨g3,x3,y3⟩] L):w.cell? ⟨g1,0,none⟩=some x1∧w.cell? ⟨g1,1,none⟩=some y1:=by
 obtain ⟨a,b,_⟩:=h.cells2
 exact ⟨a,b⟩
theorem bnS (x y:Int):afm (x - y)=ahw x y:=by unfold afm ahw; grind
theorem bhc {w:World} {s1 s2:Bool} {A1 A2:Option Addr} {n1 n2 c1 c2 B1 B2 k1 k2:Nat} {l1 l2:List Nat} (t:TypeId) (r1:Rd w B1 A1 l1) (r2:Rd w B2 A2 l2) (hB1:B1≤w.heap.size) (hB2:B2≤w.heap.size) (e1:l1.length=n1) (e2:l2.length=n2)
  (q1:n1≤c1) (q2:n2≤c2) (h1:n1≤k1) (h2:n2≤k2) :
  Env t w ((w.alloc (.cells #[.bool s1,.slice A1 n1 c1] t)).alloc (.cells #[.bool s2,.slice A2 n2 c2] t))
   [⟨w.heap.size,.bool s1,.slice A1 n1 c1⟩,⟨w.heap.size+1,.bool s2,.slice A2 n2 c2⟩]
   [⟨.agg #[.bool s1,.slice A1 n1 c1],zv s1 l1,k1,vB s1 l1⟩,⟨.agg #[.bool s2,.slice A2 n2 c2],zv s2 l2,k2,vB s2 l2⟩]:=by
 have hb:=(((Below.refl w.heap.size w).alloc (Nat.le_refl _) (.cells #[.bool s1,.slice A1 n1 c1] t)).alloc (by simp) (.cells #[.bool s2,.slice A2 n2 c2] t))
 refine ⟨fun e he => ?_,fun b hb' => ?_,hb⟩
 ·simp only [List.mem_cons,List.not_mem_nil,or_false] at he
  rcases he with rfl | rfl
  ·exact Opd.here r1 hB1 hb e1 h1 q1
  ·exact Opd.here r2 hB2 hb e2 h2 q2
 ·simp only [List.mem_cons,List.not_mem_nil,or_false] at hb'
  rcases hb' with rfl | rfl
  ·exact (Two.new w t _ _).alloc _
  ·have:=Two.new (w.alloc (.cells #[.bool s1,.slice A1 n1 c1] t)) t (.bool s2) (.slice A2 n2 c2)
   rwa [World.size_alloc] at this
theorem bla (x:Int) : -x=if (!sg x)=true then -(val (mg x):Int) else (val (mg x):Int):=by
 rw [aiz]; unfold sg
 by_cases h:x < 0
 ·simp [h]; omega
 ·simp [h]; omega
theorem bkO (x y:Int):x*y=if (sg x != sg y)=true then -(val (Uy (val (mg x)*val (mg y))):Int) else (val (Uy (val (mg x)*val (mg y))):Int):=by
 rw [aar,aiz,aiz]; exact bdR x y
theorem add_same (x y:Int) (h:(sg x==sg y)=true):x+y=if sg x=true then -(val (Uy (val (mg x)+val (mg y))):Int) else (val (Uy (val (mg x)+val (mg y))):Int):=by
 rw [aar,aiz,aiz]
 have:=sv_eq (sg x) (sg y) h x.natAbs y.natAbs
 rw [a2D,a2D] at this
 rw [this]; rfl
theorem bg0 (x y:Int) (h:(sg x==sg y)=false) (hle:val (mg y)≤val (mg x)):x+y=if sg x=true then -(val (Uy (val (mg x) - val (mg y))):Int) else (val (Uy (val (mg x) - val (mg y))):Int):=by
 rw [aar]
 rw [aiz,aiz] at *
 have:=bfs (sg x) (sg y) h (N:=x.natAbs) (M:=y.natAbs) hle
 rw [a2D,a2D] at this
 rw [this]; rfl
theorem bgZ (x y:Int) (h:(sg x==sg y)=false) (hle:val (mg x)≤val (mg y)):x+y=if sg y=true then -(val (Uy (val (mg y) - val (mg x))):Int) else (val (Uy (val (mg y) - val (mg x))):Int):=by
 rw [aar]
 rw [aiz,aiz] at *
 have:=bft (sg x) (sg y) h (N:=x.natAbs) (M:=y.natAbs) hle
 rw [a2D,a2D] at this
 rw [this]; rfl
end Lw
namespace Go.Proofs.YtbihljnjaondcaaGreatDoor
open Go Go.RowKit Lw
section
variable {t:TypeId} {W0 w:World} {bs:List Bx} {L:List En} {M:List Sn} {u u':Value} {k k':Nat} {l l':List Nat}
theorem boa (HE:afs t W0 w bs L M) (h:⟨u,l,k⟩∈M) (h':⟨u',l',k'⟩∈M) (hk:k+k'≤100000) :
  Calls Tryz.prog 166 #[u,u'] w fun e w' => ∃ u,e = .returned u∧afs t W0 w' bs L (⟨u,Uy (val l*val l'),k+k'+1⟩ :: M):=by
 obtain ⟨A,n,c,B,e1,h2,h3,h4,h5,h6⟩:=HE.sls _ h
 obtain ⟨A',n',c',B',e1',h2',h3',h4',h5',h6'⟩:=HE.sls _ h'
 dsimp only at *
 subst e1 e1'
 have hz:(Uy (val l*val l')).length≤k+k'+1:=aj9 (by
  have:=lt_mul (x:=(val l:Int)) (y:=(val l':Int)) (k:=k) (k':=k') (by rw [Int.natAbs_natCast]; exact Nat.lt_of_lt_of_le (afS h2.wds) (ajj (by omega))) (by rw [Int.natAbs_natCast]; exact Nat.lt_of_lt_of_le (afS h2'.wds) (ajj (by omega)))
  rwa [← Int.natCast_mul,Int.natAbs_natCast] at this)
 exact (a8h A A' l l' n n' c c' B B' w h2 h2' h3 h3' h4 h4' (by omega) (by omega)).mono fun e w' hh=>bba HE hh hz
end
set_option maxRecDepth 100000 in
set_option maxHeartbeats 4000000 in
theorem bmV (s:Bool) (A:Option Addr) (ns:List Nat) (n c B:Nat) (w:World) (h:Rd w B A ns) (hB:B≤w.heap.size) (hn:ns.length=n) (hl:n≤10000) (hc:n≤c) :
  Calls Tryz.prog 167 #[.agg #[.bool s,.slice A n c]] w (atE w (-(zv s ns))):=by
 have HE:=bhb (s1:=s) 39 h hB hn hc (Nat.le_refl n)
 clear h
 generalize zv s ns=x at *
 generalize vB s ns=bb at *
 go_enter Tryz.func167,Tryz.ntmps167
 go_wp2_with fail
 go_region_held3 (fun w'=>w'.cell? ⟨w.heap.size,0,none⟩=some (.bool s)∧w'.cell? ⟨w.heap.size,1,none⟩=some (.slice A n c)) (first | exact HE.env.bcz | exact HE.drew.env.bcz | exact HE.env.blU (by omega) _ _)
  (first
   | (go_at_call 160; refine (a2r (by first | exact HE | exact HE.drew) (by first | exact .head _ | exact .tail _ (.head _) | exact .tail _ (.tail _ (.head _)) | exact .tail _ (.tail _ (.tail _ (.head _))) | exact .tail _ (.tail _ (.tail _ (.tail _ (.head _)))) | exact .tail _ (.tail _ (.tail _ (.tail _ (.tail _ (.head _)))))) (by omega)).mono ?_; rintro e wn ⟨rfl,HE⟩)
   | (go_at_call 159; refine (a4Q (by first | exact HE | exact HE.drew) (by first | exact .head _ | exact .tail _ (.head _) | exact .tail _ (.tail _ (.head _)) | exact .tail _ (.tail _ (.tail _ (.head _))) | exact .tail _ (.tail _ (.tail _ (.tail _ (.head _)))) | exact .tail _ (.tail _ (.tail _ (.tail _ (.tail _ (.head _)))))) (by omega)).mono ?_; rintro e wn ⟨u,rfl,HE⟩)
   | (go_at_call 161; refine (a2Y (!sg x) (-x) (by first | exact HE | exact HE.drew) (by first | exact .head _ | exact .tail _ (.head _) | exact .tail _ (.tail _ (.head _)) | exact .tail _ (.tail _ (.tail _ (.head _))) | exact .tail _ (.tail _ (.tail _ (.tail _ (.head _)))) | exact .tail _ (.tail _ (.tail _ (.tail _ (.tail _ (.head _)))))) (by omega) (bla x)).mono ?_; rintro e wn ⟨A9,c9,rfl,hc9,hr9,HE⟩; obtain ⟨f0,f1,f2,f3⟩:=HE.env.second.facts))
 go_wp2
 refine bodyPost_ret (v := .agg #[.bool (sg (-x)),.slice A9 (mg (-x)).length c9]) (by simp [results,Tryz.results167,go_sem,f0,f1]) rfl ?_
 exact alf HE.env.second hr9 (Nat.le_refl _) hc9 HE.env.below (by omega)
set_option maxRecDepth 100000 in
set_option maxHeartbeats 4000000 in
theorem bmU (s s':Bool) (A A':Option Addr) (ns ms:List Nat) (n m c c' B B':Nat) (w:World) (h:Rd w B A ns) (h':Rd w B' A' ms) (hB:B≤w.heap.size) (hB':B'≤w.heap.size)
  (hn:ns.length=n) (hm:ms.length=m) (hl:n≤10000) (hl':m≤10000) (hc:n≤c) (hc':m≤c') :
  Calls Tryz.prog 100 #[.agg #[.bool s,.slice A n c],.agg #[.bool s',.slice A' m c']] w (atE w (zv s ns*zv s' ms)):=by
 have HE:=a5W (s1:=s) (s2:=s') 39 h h' hB hB' hn hm hc hc' (Nat.le_refl n) (Nat.le_refl m)
 clear h h'
 generalize zv s ns=x at *
 generalize zv s' ms=y at *
 generalize vB s ns=bb at *
 generalize vB s' ms=bb' at *
 go_enter Tryz.func100,Tryz.ntmps100
 go_wp2_with fail
 go_region_held3 (fun w'=>w'.cell? ⟨w.heap.size,0,none⟩=some (.bool s)∧w'.cell? ⟨w.heap.size,1,none⟩=some (.slice A n c)∧w'.cell? ⟨w.heap.size+1,0,none⟩=some (.bool s')∧w'.cell? ⟨w.heap.size+1,1,none⟩=some (.slice A' m c')) (first | exact HE.env.atA | exact HE.drew.env.atA | exact HE.env.anq (by omega) (by omega) _ _)
  (first
   | (go_at_call 160; refine (a2r (by first | exact HE | exact HE.drew) (by first | exact .head _ | exact .tail _ (.head _) | exact .tail _ (.tail _ (.head _)) | exact .tail _ (.tail _ (.tail _ (.head _))) | exact .tail _ (.tail _ (.tail _ (.tail _ (.head _)))) | exact .tail _ (.tail _ (.tail _ (.tail _ (.tail _ (.head _)))))) (by omega)).mono ?_; rintro e wn ⟨rfl,HE⟩)
   | (go_at_call 159; refine (a4Q (by first | exact HE | exact HE.drew) (by first | exact .head _ | exact .tail _ (.head _) | exact .tail _ (.tail _ (.head _)) | exact .tail _ (.tail _ (.tail _ (.head _))) | exact .tail _ (.tail _ (.tail _ (.tail _ (.head _)))) | exact .tail _ (.tail _ (.tail _ (.tail _ (.tail _ (.head _)))))) (by omega)).mono ?_; rintro e wn ⟨u,rfl,HE⟩)
   | (go_at_call 166; refine (boa (by first | exact HE | exact HE.drew) (by first | exact .head _ | exact .tail _ (.head _) | exact .tail _ (.tail _ (.head _)) | exact .tail _ (.tail _ (.tail _ (.head _))) | exact .tail _ (.tail _ (.tail _ (.tail _ (.head _)))) | exact .tail _ (.tail _ (.tail _ (.tail _ (.tail _ (.head _)))))) (by first | exact .head _ | exact .tail _ (.head _) | exact .tail _ (.tail _ (.head _)) | exact .tail _ (.tail _ (.tail _ (.head _))) | exact .tail _ (.tail _ (.tail _ (.tail _ (.head _)))) | exact .tail _ (.tail _ (.tail _ (.tail _ (.tail _ (.head _)))))) (by omega)).mono ?_; rintro e wn ⟨u,rfl,HE⟩)
   | (go_at_call 161; refine (a2Y (sg x != sg y) (x*y) (by first | exact HE | exact HE.drew) (by first | exact .head _ | exact .tail _ (.head _) | exact .tail _ (.tail _ (.head _)) | exact .tail _ (.tail _ (.tail _ (.head _))) | exact .tail _ (.tail _ (.tail _ (.tail _ (.head _)))) | exact .tail _ (.tail _ (.tail _ (.tail _ (.tail _ (.head _)))))) (by omega) (bkO x y)).mono ?_; rintro e wn ⟨A9,c9,rfl,hc9,hr9,HE⟩; obtain ⟨f0,f1,f2,f3⟩:=HE.env.third.facts))
 go_wp2
 refine bodyPost_ret (v := .agg #[.bool (sg (x*y)),.slice A9 (mg (x*y)).length c9]) (by simp [results,Tryz.results100,go_sem,f0,f1]) rfl ?_
 exact alf HE.env.third hr9 (Nat.le_refl _) hc9 HE.env.below (by omega)
theorem bm4 {t:TypeId} {W0 w:World} {bs:List Bx} {L:List En} {v v':Value} {x y:Int} {k k':Nat} {b b':Bool} (HE:Env t W0 w bs L) (h:⟨v,x,k,b⟩∈L) (h':⟨v',y,k',b'⟩∈L) (hk:k≤10000∧k'≤10000) :
  Calls Tryz.prog 100 #[v,v'] w fun e w' => ∃ A c,e = .returned (.agg #[.bool (sg (x*y)),.slice A (mg (x*y)).length c])∧(mg (x*y)).length≤c∧Rd w' w'.heap.size A (mg (x*y)) ∧
   Env t W0 w' bs (⟨.agg #[.bool (sg (x*y)),.slice A (mg (x*y)).length c],x*y,k+k'+1,true⟩ :: L):=by
 have H1:=HE.ops _ h
 have H2:=HE.ops _ h'
 have hz:=lt_mul H1.lt H2.lt
 obtain ⟨s,A,n,c,ns,B,e1,h2,h3,h4,h5,h6,e7,h8⟩:=H1
 obtain ⟨s',A',n',c',ns',B',e1',h2',h3',h4',h5',h6',e7',h8'⟩:=H2
 dsimp only at e1 e7 e1' e7' h5 h5' hz
 subst e1 e1' e7 e7'
 refine (bmU s s' A A' ns ns' n n' c c' B B' w h2 h2' h3 h3' h4 h4' (by omega) (by omega) h6 h6').mono ?_
 rintro e w' ⟨A9,c9,rfl,hc9,hr9,hb9⟩
 exact ⟨A9,c9,rfl,hc9,hr9,(HE.next hb9).cons ⟨_,A9,_,c9,mg _,_,rfl,hr9,Nat.le_refl _,rfl,a1t hz,hc9,a1k _,a1f _⟩⟩
theorem beF {t:TypeId} {W0 w:World} {bs:List Bx} {L:List En} {v:Value} {x:Int} {k:Nat} {b:Bool} (HE:Env t W0 w bs L) (h:⟨v,x,k,b⟩∈L) (hk:k≤10000) :
  Calls Tryz.prog 167 #[v] w fun e w' => ∃ u,e = .returned u∧Env t W0 w' bs (⟨u,-x,k,true⟩ :: L):=by
 have H1:=HE.ops _ h
 have hz:(-x).natAbs < pw k:=by have:=H1.lt; simpa using this
 obtain ⟨s,A,n,c,ns,B,e1,h2,h3,h4,h5,h6,e7,h8⟩:=H1
 dsimp only at e1 e7 h5
 subst e1 e7
 exact (bmV s A ns n c B w h2 h3 h4 (by omega) h6).mono fun e w' hh=>a5s HE hh hz
set_option maxRecDepth 100000 in
set_option maxHeartbeats 4000000 in
theorem bmQ (s s':Bool) (A A':Option Addr) (ns ms:List Nat) (n m c c' B B':Nat) (w:World) (h:Rd w B A ns) (h':Rd w B' A' ms) (hB:B≤w.heap.size) (hB':B'≤w.heap.size)
  (hn:ns.length=n) (hm:ms.length=m) (hl:n≤10000) (hl':m≤10000) (hc:n≤c) (hc':m≤c') :
  Calls Tryz.prog 97 #[.agg #[.bool s,.slice A n c],.agg #[.bool s',.slice A' m c']] w (atE w (zv s ns+zv s' ms)):=by
 have HE:=a5W (s1:=s) (s2:=s') 39 h h' hB hB' hn hm hc hc' (Nat.le_refl n) (Nat.le_refl m)
 clear h h'
 generalize zv s ns=x at *
 generalize zv s' ms=y at *
 generalize vB s ns=bb at *
 generalize vB s' ms=bb' at *
 go_enter Tryz.func97,Tryz.ntmps97
 go_wp2_with fail
 go_region_held3 (fun w'=>w'.cell? ⟨w.heap.size,0,none⟩=some (.bool s)∧w'.cell? ⟨w.heap.size,1,none⟩=some (.slice A n c)∧w'.cell? ⟨w.heap.size+1,0,none⟩=some (.bool s')∧w'.cell? ⟨w.heap.size+1,1,none⟩=some (.slice A' m c')) (first | exact HE.env.atA | exact HE.drew.env.atA | exact HE.env.anq (by omega) (by omega) _ _)
  (first
   | (go_at_call 159; refine (a4Q (by first | exact HE | exact HE.drew) (by first | exact .head _ | exact .tail _ (.head _) | exact .tail _ (.tail _ (.head _)) | exact .tail _ (.tail _ (.tail _ (.head _))) | exact .tail _ (.tail _ (.tail _ (.tail _ (.head _)))) | exact .tail _ (.tail _ (.tail _ (.tail _ (.tail _ (.head _)))))) (by omega)).mono ?_; rintro e wn ⟨u,rfl,HE⟩))
 go_wp2_with fail
 cases hs:(sg x==sg y)
 ·go_region_held3 (fun w'=>w'.cell? ⟨w.heap.size,0,none⟩=some (.bool s)∧w'.cell? ⟨w.heap.size,1,none⟩=some (.slice A n c)∧w'.cell? ⟨w.heap.size+1,0,none⟩=some (.bool s')∧w'.cell? ⟨w.heap.size+1,1,none⟩=some (.slice A' m c')) (first | exact HE.env.atA | exact HE.drew.env.atA | exact HE.env.anq (by omega) (by omega) _ _)
   (first
    | (go_at_call 160; refine (a2r (by first | exact HE | exact HE.drew) (by first | exact .head _ | exact .tail _ (.head _) | exact .tail _ (.tail _ (.head _)) | exact .tail _ (.tail _ (.tail _ (.head _))) | exact .tail _ (.tail _ (.tail _ (.tail _ (.head _)))) | exact .tail _ (.tail _ (.tail _ (.tail _ (.tail _ (.head _)))))) (by omega)).mono ?_; rintro e wn ⟨rfl,HE⟩))
  go_wp2_with fail
  refine (bhL HE (.tail _ (.head _)) (.head _) (by omega)).mono ?_
  rintro e wn ⟨rfl,HE⟩
  rcases Nat.lt_or_ge (val (mg x)) (val (mg y)) with hd | hd
  ·have hcmp:alg (val (mg x)) (val (mg y)) < 0:=a6b hd
   obtain ⟨q1,q2,q3,q4⟩:=HE.env.atA
   go_wp2_with fail
   refine (a2r HE (by first | exact .head _ | exact .tail _ (.head _) | exact .tail _ (.tail _ (.head _)) | exact .tail _ (.tail _ (.tail _ (.head _))) | exact .tail _ (.tail _ (.tail _ (.tail _ (.head _)))) | exact .tail _ (.tail _ (.tail _ (.tail _ (.tail _ (.head _)))))) (by omega)).mono ?_
   rintro e wn ⟨rfl,HE⟩
   clear q1 q2 q3 q4
   go_wp2_with fail
   refine (bat HE (by first | exact .head _ | exact .tail _ (.head _) | exact .tail _ (.tail _ (.head _)) | exact .tail _ (.tail _ (.tail _ (.head _))) | exact .tail _ (.tail _ (.tail _ (.tail _ (.head _)))) | exact .tail _ (.tail _ (.tail _ (.tail _ (.tail _ (.head _)))))) (by first | exact .head _ | exact .tail _ (.head _) | exact .tail _ (.tail _ (.head _)) | exact .tail _ (.tail _ (.tail _ (.head _))) | exact .tail _ (.tail _ (.tail _ (.tail _ (.head _)))) | exact .tail _ (.tail _ (.tail _ (.tail _ (.tail _ (.head _)))))) (by omega) (a3q x) (Nat.le_of_lt hd)).mono ?_
   rintro e wn ⟨u,rfl,HE⟩
   go_wp2_with fail
   refine (a2Y (sg y) (x+y) HE (by first | exact .head _ | exact .tail _ (.head _) | exact .tail _ (.tail _ (.head _)) | exact .tail _ (.tail _ (.tail _ (.head _))) | exact .tail _ (.tail _ (.tail _ (.tail _ (.head _)))) | exact .tail _ (.tail _ (.tail _ (.tail _ (.tail _ (.head _)))))) (by omega) (bgZ x y hs (Nat.le_of_lt hd))).mono ?_
   rintro e wn ⟨A9,c9,rfl,hc9,hr9,HE⟩
   obtain ⟨f0,f1,f2,f3⟩:=HE.env.third.facts
   go_wp2
   refine bodyPost_ret (v := .agg #[.bool (sg (x+y)),.slice A9 (mg (x+y)).length c9]) (by simp [results,Tryz.results97,go_sem,f0,f1]) rfl ?_
   exact alf HE.env.third hr9 (Nat.le_refl _) hc9 HE.env.below (by omega)
  ·have hcmp:0≤alg (val (mg x)) (val (mg y)):=by have:=a6c hd; omega
   obtain ⟨q1,q2,q3,q4⟩:=HE.env.atA
   go_wp2_with fail
   refine (a2r HE (by first | exact .head _ | exact .tail _ (.head _) | exact .tail _ (.tail _ (.head _)) | exact .tail _ (.tail _ (.tail _ (.head _))) | exact .tail _ (.tail _ (.tail _ (.tail _ (.head _)))) | exact .tail _ (.tail _ (.tail _ (.tail _ (.tail _ (.head _)))))) (by omega)).mono ?_
   rintro e wn ⟨rfl,HE⟩
   clear q1 q2 q3 q4
   go_wp2_with fail
   refine (bat HE (by first | exact .head _ | exact .tail _ (.head _) | exact .tail _ (.tail _ (.head _)) | exact .tail _ (.tail _ (.tail _ (.head _))) | exact .tail _ (.tail _ (.tail _ (.tail _ (.head _)))) | exact .tail _ (.tail _ (.tail _ (.tail _ (.tail _ (.head _)))))) (by first | exact .head _ | exact .tail _ (.head _) | exact .tail _ (.tail _ (.head _)) | exact .tail _ (.tail _ (.tail _ (.head _))) | exact .tail _ (.tail _ (.tail _ (.tail _ (.head _)))) | exact .tail _ (.tail _ (.tail _ (.tail _ (.tail _ (.head _)))))) (by omega) (a3q y) hd).mono ?_
   rintro e wn ⟨u,rfl,HE⟩
   go_wp2_with fail
   refine (a2Y (sg x) (x+y) HE (by first | exact .head _ | exact .tail _ (.head _) | exact .tail _ (.tail _ (.head _)) | exact .tail _ (.tail _ (.tail _ (.head _))) | exact .tail _ (.tail _ (.tail _ (.tail _ (.head _)))) | exact .tail _ (.tail _ (.tail _ (.tail _ (.tail _ (.head _)))))) (by omega) (bg0 x y hs hd)).mono ?_
   rintro e wn ⟨A9,c9,rfl,hc9,hr9,HE⟩
   obtain ⟨f0,f1,f2,f3⟩:=HE.env.third.facts
   go_wp2
   refine bodyPost_ret (v := .agg #[.bool (sg (x+y)),.slice A9 (mg (x+y)).length c9]) (by simp [results,Tryz.results97,go_sem,f0,f1]) rfl ?_
   exact alf HE.env.third hr9 (Nat.le_refl _) hc9 HE.env.below (by omega)
 ·go_region_held3 (fun w'=>w'.cell? ⟨w.heap.size,0,none⟩=some (.bool s)∧w'.cell? ⟨w.heap.size,1,none⟩=some (.slice A n c)∧w'.cell? ⟨w.heap.size+1,0,none⟩=some (.bool s')∧w'.cell? ⟨w.heap.size+1,1,none⟩=some (.slice A' m c')) (first | exact HE.env.atA | exact HE.drew.env.atA | exact HE.env.anq (by omega) (by omega) _ _)
   (first
    | (go_at_call 160; refine (a2r (by first | exact HE | exact HE.drew) (by first | exact .head _ | exact .tail _ (.head _) | exact .tail _ (.tail _ (.head _)) | exact .tail _ (.tail _ (.tail _ (.head _))) | exact .tail _ (.tail _ (.tail _ (.tail _ (.head _)))) | exact .tail _ (.tail _ (.tail _ (.tail _ (.tail _ (.head _)))))) (by omega)).mono ?_; rintro e wn ⟨rfl,HE⟩))
  obtain ⟨q1,q2,q3,q4⟩:=HE.env.atA
  go_wp2_with fail
  refine (a2r HE (by first | exact .head _ | exact .tail _ (.head _) | exact .tail _ (.tail _ (.head _)) | exact .tail _ (.tail _ (.tail _ (.head _))) | exact .tail _ (.tail _ (.tail _ (.tail _ (.head _)))) | exact .tail _ (.tail _ (.tail _ (.tail _ (.tail _ (.head _)))))) (by omega)).mono ?_
  rintro e wn ⟨rfl,HE⟩
  clear q1 q2 q3 q4
  go_wp2_with fail
  refine (bej HE (by first | exact .head _ | exact .tail _ (.head _) | exact .tail _ (.tail _ (.head _)) | exact .tail _ (.tail _ (.tail _ (.head _))) | exact .tail _ (.tail _ (.tail _ (.tail _ (.head _)))) | exact .tail _ (.tail _ (.tail _ (.tail _ (.tail _ (.head _)))))) (by first | exact .head _ | exact .tail _ (.head _) | exact .tail _ (.tail _ (.head _)) | exact .tail _ (.tail _ (.tail _ (.head _))) | exact .tail _ (.tail _ (.tail _ (.tail _ (.head _)))) | exact .tail _ (.tail _ (.tail _ (.tail _ (.tail _ (.head _)))))) (by omega)).mono ?_
  rintro e wn ⟨u,rfl,HE⟩
  go_wp2_with fail
  refine (a2Y (sg x) (x+y) HE (by first | exact .head _ | exact .tail _ (.head _) | exact .tail _ (.tail _ (.head _)) | exact .tail _ (.tail _ (.tail _ (.head _))) | exact .tail _ (.tail _ (.tail _ (.tail _ (.head _)))) | exact .tail _ (.tail _ (.tail _ (.tail _ (.tail _ (.head _)))))) (by omega) (add_same x y hs)).mono ?_
  rintro e wn ⟨A9,c9,rfl,hc9,hr9,HE⟩
  obtain ⟨f0,f1,f2,f3⟩:=HE.env.third.facts
  go_wp2
  refine bodyPost_ret (v := .agg #[.bool (sg (x+y)),.slice A9 (mg (x+y)).length c9]) (by simp [results,Tryz.results97,go_sem,f0,f1]) rfl ?_
  exact alf HE.env.third hr9 (Nat.le_refl _) hc9 HE.env.below (by omega)
theorem beE {t:TypeId} {W0 w:World} {bs:List Bx} {L:List En} {v v':Value} {x y:Int} {k k':Nat} {b b':Bool} (HE:Env t W0 w bs L) (h:⟨v,x,k,b⟩∈L) (h':⟨v',y,k',b'⟩∈L) (hk:k≤10000∧k'≤10000) :
  Calls Tryz.prog 97 #[v,v'] w fun e w' => ∃ A c,e = .returned (.agg #[.bool (sg (x+y)),.slice A (mg (x+y)).length c])∧(mg (x+y)).length≤c∧Rd w' w'.heap.size A (mg (x+y)) ∧
   Env t W0 w' bs (⟨.agg #[.bool (sg (x+y)),.slice A (mg (x+y)).length c],x+y,k+k'+1,true⟩ :: L):=by
 have H1:=HE.ops _ h
 have H2:=HE.ops _ h'
 have hz:=a4P H1.lt H2.lt
 obtain ⟨s,A,n,c,ns,B,e1,h2,h3,h4,h5,h6,e7,h8⟩:=H1
 obtain ⟨s',A',n',c',ns',B',e1',h2',h3',h4',h5',h6',e7',h8'⟩:=H2
 dsimp only at e1 e7 e1' e7' h5 h5' hz
 subst e1 e1' e7 e7'
 refine (bmQ s s' A A' ns ns' n n' c c' B B' w h2 h2' h3 h3' h4 h4' (by omega) (by omega) h6 h6').mono ?_
 rintro e w' ⟨A9,c9,rfl,hc9,hr9,hb9⟩
 exact ⟨A9,c9,rfl,hc9,hr9,(HE.next hb9).cons ⟨_,A9,_,c9,mg _,_,rfl,hr9,Nat.le_refl _,rfl,a1t hz,hc9,a1k _,a1f _⟩⟩
set_option maxRecDepth 100000 in
set_option maxHeartbeats 4000000 in
theorem bmW (s s':Bool) (A A':Option Addr) (ns ms:List Nat) (n m c c' B B':Nat) (w:World) (h:Rd w B A ns) (h':Rd w B' A' ms) (hB:B≤w.heap.size) (hB':B'≤w.heap.size)
  (hn:ns.length=n) (hm:ms.length=m) (hl:n≤10000) (hl':m≤10000) (hc:n≤c) (hc':m≤c') :
  Calls Tryz.prog 183 #[.agg #[.bool s,.slice A n c],.agg #[.bool s',.slice A' m c']] w (atE w (zv s ns - zv s' ms)):=by
 have HE:=a5W (s1:=s) (s2:=s') 39 h h' hB hB' hn hm hc hc' (Nat.le_refl n) (Nat.le_refl m)
 clear h h'
 generalize zv s ns=x at *
 generalize zv s' ms=y at *
 generalize vB s ns=bb at *
 generalize vB s' ms=bb' at *
 rw [Int.sub_eq_add_neg]
 replace HE:=HE.env
 go_enter Tryz.func183,Tryz.ntmps183
 go_wp2_with fail
 go_region_held3 (fun w'=>w'.cell? ⟨w.heap.size,0,none⟩=some (.bool s)∧w'.cell? ⟨w.heap.size,1,none⟩=some (.slice A n c)∧w'.cell? ⟨w.heap.size+1,0,none⟩=some (.bool s')∧w'.cell? ⟨w.heap.size+1,1,none⟩=some (.slice A' m c')) (first | exact HE.atA | exact HE.drew.atA | exact HE.anq (by omega) (by omega) _ _)
  (first
   | (go_at_call 167; refine (beF (by first | exact HE | exact HE.drew) (by first | exact .head _ | exact .tail _ (.head _) | exact .tail _ (.tail _ (.head _)) | exact .tail _ (.tail _ (.tail _ (.head _))) | exact .tail _ (.tail _ (.tail _ (.tail _ (.head _)))) | exact .tail _ (.tail _ (.tail _ (.tail _ (.tail _ (.head _)))))) (by omega)).mono ?_; rintro e wn ⟨u,rfl,HE⟩)
   | (go_at_call 97; refine (beE (by first | exact HE | exact HE.drew) (by first | exact .head _ | exact .tail _ (.head _) | exact .tail _ (.tail _ (.head _)) | exact .tail _ (.tail _ (.tail _ (.head _))) | exact .tail _ (.tail _ (.tail _ (.tail _ (.head _)))) | exact .tail _ (.tail _ (.tail _ (.tail _ (.tail _ (.head _)))))) (by first | exact .head _ | exact .tail _ (.head _) | exact .tail _ (.tail _ (.head _)) | exact .tail _ (.tail _ (.tail _ (.head _))) | exact .tail _ (.tail _ (.tail _ (.tail _ (.head _)))) | exact .tail _ (.tail _ (.tail _ (.tail _ (.tail _ (.head _)))))) (by omega)).mono ?_; rintro e wn ⟨A9,c9,rfl,hc9,hr9,HE⟩; obtain ⟨f0,f1,f2,f3⟩:=HE.third.facts))
 go_wp2
 refine bodyPost_ret (v := .agg #[.bool (sg (x + -y)),.slice A9 (mg (x + -y)).length c9]) (by simp [results,Tryz.results183,go_sem,f0,f1]) rfl ?_
 exact alf HE.third hr9 (Nat.le_refl _) hc9 HE.below (by omega)
theorem bm9 {t:TypeId} {W0 w:World} {bs:List Bx} {L:List En} {v v':Value} {x y:Int} {k k':Nat} {b b':Bool} (HE:Env t W0 w bs L) (h:⟨v,x,k,b⟩∈L) (h':⟨v',y,k',b'⟩∈L) (hk:k≤10000∧k'≤10000) :
  Calls Tryz.prog 183 #[v,v'] w fun e w' => ∃ A c,e = .returned (.agg #[.bool (sg (x - y)),.slice A (mg (x - y)).length c])∧(mg (x - y)).length≤c∧Rd w' w'.heap.size A (mg (x - y)) ∧
   Env t W0 w' bs (⟨.agg #[.bool (sg (x - y)),.slice A (mg (x - y)).length c],x - y,k+k'+1,true⟩ :: L):=by
 have H1:=HE.ops _ h
 have H2:=HE.ops _ h'
 have hz:=bkD H1.lt H2.lt
 obtain ⟨s,A,n,c,ns,B,e1,h2,h3,h4,h5,h6,e7,h8⟩:=H1
 obtain ⟨s',A',n',c',ns',B',e1',h2',h3',h4',h5',h6',e7',h8'⟩:=H2
 dsimp only at e1 e7 e1' e7' h5 h5' hz
 subst e1 e1' e7 e7'
 refine (bmW s s' A A' ns ns' n n' c c' B B' w h2 h2' h3 h3' h4 h4' (by omega) (by omega) h6 h6').mono ?_
 rintro e w' ⟨A9,c9,rfl,hc9,hr9,hb9⟩
 exact ⟨A9,c9,rfl,hc9,hr9,(HE.next hb9).cons ⟨_,A9,_,c9,mg _,_,rfl,hr9,Nat.le_refl _,rfl,a1t hz,hc9,a1k _,a1f _⟩⟩
set_option maxRecDepth 100000 in
set_option maxHeartbeats 4000000 in
theorem bmR (s s':Bool) (A A':Option Addr) (ns ms:List Nat) (n m c c' B B':Nat) (w:World) (h:Rd w B A ns) (h':Rd w B' A' ms) (hB:B≤w.heap.size) (hB':B'≤w.heap.size)
  (hn:ns.length=n) (hm:ms.length=m) (hl:n≤10000) (hl':m≤10000) (hc:n≤c) (hc':m≤c') :
  Calls Tryz.prog 118 #[.agg #[.bool s,.slice A n c],.agg #[.bool s',.slice A' m c']] w fun e w'=>e = .returned (.int .i64 (ahw (zv s ns) (zv s' ms)))∧Below w.heap.size w w':=by
 have HE:=bhc (s1:=s) (s2:=s') 39 h h' hB hB' hn hm hc hc' (Nat.le_refl n) (Nat.le_refl m)
 clear h h'
 generalize zv s ns=x at *
 generalize zv s' ms=y at *
 generalize vB s ns=bb at *
 generalize vB s' ms=bb' at *
 have HC:=Lib.hid (bnS x y)
 obtain ⟨q1,q2,q3,q4⟩:=HE.cells2
 go_enter Tryz.func118,Tryz.ntmps118
 go_wp2_with fail
 refine (bm9 HE (by first | exact .head _ | exact .tail _ (.head _) | exact .tail _ (.tail _ (.head _)) | exact .tail _ (.tail _ (.tail _ (.head _))) | exact .tail _ (.tail _ (.tail _ (.tail _ (.head _)))) | exact .tail _ (.tail _ (.tail _ (.tail _ (.tail _ (.head _)))))) (by first | exact .head _ | exact .tail _ (.head _) | exact .tail _ (.tail _ (.head _)) | exact .tail _ (.tail _ (.tail _ (.head _))) | exact .tail _ (.tail _ (.tail _ (.tail _ (.head _)))) | exact .tail _ (.tail _ (.tail _ (.tail _ (.tail _ (.head _)))))) (by omega)).mono ?_
 rintro e wn ⟨A9,c9,rfl,hc9,hr9,HE⟩
 clear q1 q2 q3 q4
 go_wp2_with fail
 refine (beJ HE (.head _) (by omega)).mono ?_
 rintro e wn ⟨rfl,HE⟩
 go_wp2_with fail
 go_ret
 exact ⟨ahy HC.out,HE.below⟩
theorem bmZ {t:TypeId} {W0 w:World} {bs:List Bx} {L:List En} {v v':Value} {x y:Int} {k k':Nat} {b b':Bool} (HE:Env t W0 w bs L) (h:⟨v,x,k,b⟩∈L) (h':⟨v',y,k',b'⟩∈L) (hk:k≤10000∧k'≤10000) :
  Calls Tryz.prog 118 #[v,v'] w fun e w'=>e = .returned (.int .i64 (ahw x y))∧Env t W0 w' bs L:=by
 obtain ⟨s,A,n,c,ns,B,e1,h2,h3,h4,h5,h6,e7,h8⟩:=HE.ops _ h
 obtain ⟨s',A',n',c',ns',B',e1',h2',h3',h4',h5',h6',e7',h8'⟩:=HE.ops _ h'
 dsimp only at e1 e7 e1' e7' h5 h5'
 subst e1 e1' e7 e7'
 exact (bmR s s' A A' ns ns' n n' c c' B B' w h2 h2' h3 h3' h4 h4' (by omega) (by omega) h6 h6').mono fun e w' hh=>⟨hh.1,HE.next hh.2⟩
end Go.Proofs.YtbihljnjaondcaaGreatDoor
