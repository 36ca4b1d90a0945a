/- Part of a proof, said shortly. -/
import Derived.Deep.RegionWith
import Derived.Test.YtbihljnjaondcaaGreatDoorAlt
import Derived.Test.YtbihljnjaondcaaGreatDoorT23
import Derived.Test.YtbihljnjaondcaaGreatDoorT22
import Derived.Test.YtbihljnjaondcaaGreatDoorT21
import Derived.Test.YtbihljnjaondcaaGreatDoorT20
import Derived.Test.YtbihljnjaondcaaGreatDoorT14
import Derived.Test.YtbihljnjaondcaaGreatDoorT4
import Derived.Test.YtbihljnjaondcaaGreatDoorT3
import Derived.Test.YtbihljnjaondcaaGreatDoorT2
import Derived.Test.YtbihljnjaondcaaGreatDoorT1
import Derived.Test.YtbihljnjaondcaaGreatDoorT13
import Derived.Test.YtbihljnjaondcaaGreatDoorT9
import Derived.Test.YtbihljnjaondcaaGreatDoorT8
import Derived.Test.YtbihljnjaondcaaGreatDoorT6
import Derived.Test.YtbihljnjaondcaaGreatDoorT5
import Derived.Test.YtbihljnjaondcaaGreatDoorT7
import Derived.Test.YtbihljnjaondcaaGreatDoorT19
import Derived.Test.YtbihljnjaondcaaGreatDoorT18
import Derived.Test.YtbihljnjaondcaaGreatDoorT16
import Derived.Test.YtbihljnjaondcaaGreatDoorT15
import Derived.Test.YtbihljnjaondcaaGreatDoorT17
import Derived.Test.YtbihljnjaondcaaGreatDoorT10
import Derived.Test.YtbihljnjaondcaaGreatDoorT11
import Derived.Test.YtbihljnjaondcaaGreatDoorT12
namespace Go.Proofs.YtbihljnjaondcaaGreatDoor
open Go Go.RowKit Lw
section
variable {W0 w:World} {bs:List Bx} {L:List En} {ts:List Bt} {M:List Qn} {s s':Bool} {A A' B B':Option Addr} {n c n' c' m d m' d' k k':Nat} {q r:Rat} {x y:Int} {b b':Bool}
set_option maxRecDepth 100000 in
set_option maxHeartbeats 2400000 in
theorem biW (HE:Uz W0 w bs L ts M) (h:⟨.agg #[.bool s,.slice A n c,.slice A' n' c'],q,k,b⟩∈M) (h':⟨.agg #[.bool s',.slice B m d,.slice B' m' d'],r,k',b'⟩∈M) (hk:k+k'≤8000) :
  Calls Tryz.prog 74 #[.agg #[.bool s,.slice A n c,.slice A' n' c'],.agg #[.bool s',.slice B m d,.slice B' m' d']] w (akn W0 bs L ts M (q*r) (k+k'+2)):=by
 refine Calls.mono (R:=(akn w [] L [] M (q*r) (k+k'+2))) ?_ fun _ _ hh=>akn.of HE hh
 replace HE:=(HE.here.ae' (.bool s) (.slice A n c) (.slice A' n' c')).ae' (.bool s') (.slice B m d) (.slice B' m' d')
 replace HE:=HE.ae' (.bool false) (.slice none 0 0) (.slice none 0 0)
 simp only [World.size_alloc] at HE
 obtain ⟨q0,q1,q2,q3,q4,q5⟩:=HE.c3 (.head _)
 obtain ⟨q6,q7,q8,q9,q10,q11⟩:=HE.c3 (.tail _ (.head _))
 obtain ⟨q12,q13,q14,q15,q16,q17⟩:=HE.c3 (.tail _ (.tail _ (.head _)))
 have TA:=HE.aN9 (.tail _ (.tail _ (.head _)))
 have TB:=HE.aN9 (.tail _ (.head _))
 go_enter Tryz.func74,Tryz.ntmps74
 go_wp2_with fail
 go_region_held3 (fun w'=>w'.cell? ⟨w.heap.size,0,none⟩=some (.bool s)∧w'.cell? ⟨w.heap.size,1,none⟩=some (.slice A n c)∧w'.cell? ⟨w.heap.size,2,none⟩=some (.slice A' n' c')∧w'.cell? ⟨w.heap.size+1,0,none⟩=some (.bool s')∧w'.cell? ⟨w.heap.size+1,1,none⟩=some (.slice B m d)∧w'.cell? ⟨w.heap.size+1,2,none⟩=some (.slice B' m' d')) (with_reducible first | exact Tri.cc TA TB | exact Tri.cc TA.drew TB.drew | exact Tri.cc UA UB)
  (first
   | (go_at_call 83; refine (a3n (by with_reducible first | exact HE | exact HE.drew) (by repeat (first | exact .head _ | assumption | refine .tail _ ?_)) (by omega)).mono ?_; rintro e wn ⟨sx,Ax,nx,cx,Ay,ny,cy,rfl,HE⟩; have TA:=HE.aN9 (.tail _ (.tail _ (.head _))); have TB:=HE.aN9 (.tail _ (.head _)))
   | (go_at_call 148; refine (bob (by with_reducible first | exact HE | exact HE.drew) (by repeat (first | exact .head _ | assumption | refine .tail _ ?_)) (by repeat (first | exact .head _ | assumption | refine .tail _ ?_)) (by omega)).mono ?_; rintro e wn ⟨sx,Ax,nx,cx,Ay,ny,cy,rfl,HE⟩; have TA:=HE.aN9 (.tail _ (.tail _ (.head _))); have TB:=HE.aN9 (.tail _ (.head _)); have UA:=TA.a9B (g':=w.heap.size+1+1) (by omega) (.bool sx) (.slice Ax nx cx) (.slice Ay ny cy); have UB:=TB.a9B (g':=w.heap.size+1+1) (by omega) (.bool sx) (.slice Ax nx cx) (.slice Ay ny cy); obtain ⟨z0,z1,z2,z3,z4,z5⟩:=HE.c3 (.head _)))
 go_wp2_with fail
 refine bodyPost_ret (v := .agg #[.bool sx,.slice Ax nx cx,.slice Ay ny cy]) (by simp [results,Tryz.results74,go_sem,z0,z1,z2]) rfl ?_
 have HK:=(HE.as9 (D:=Ax) (m:=nx) (d:=cx) (.head _) sx (.slice Ay ny cy)).bare
 skip
 exact ⟨_,_,_,_,_,_,_,rfl,HK.pick (fun _ he=>he) (fun _ he=>by rcases List.mem_cons.1 he with rfl | he; exact .head _; exact .tail _ (.tail _ (.tail _ (he))))⟩
theorem bez (HE:Uz W0 w bs L ts M) (n1 : -9223372036854775808≤x) (n2:x≤9223372036854775807) (d1 : -9223372036854775808≤y) (d2:y≤9223372036854775807) (d0:y≠0) :
  Calls Tryz.prog 150 #[.int .i64 x,.int .i64 y] w (akn W0 bs L ts M (Rat.divInt x y) 2):=by
 refine (bey x y w n1 n2 d1 d2 d0 (HE.tz.next HE.below)).mono fun e w' hh => ?_
 obtain ⟨A,c,A',c',rfl,hc,hc',hr,hr',hb⟩:=hh
 have hp:pw 2=18446744073709551616:=rfl
 have h1:(Rat.divInt x y).num.natAbs≤x.natAbs:=by
  rw [Rat.num_divInt]
  refine Nat.le_trans (Int.natAbs_ediv_le_natAbs _ _) ?_
  rw [Int.natAbs_mul,Int.natAbs_sign_of_ne_zero d0,Nat.one_mul]
  exact Nat.le_refl _
 have h2:(Rat.divInt x y).den≤y.natAbs:=by rw [Rat.den_divInt,if_neg d0]; exact Nat.div_le_self _ _
 exact ⟨_,_,_,_,_,_,_,rfl,(HE.next hb).cons (baB hr hr' (a1t (by omega)) (baj (by omega)) hc hc')⟩
set_option maxRecDepth 100000 in
set_option maxHeartbeats 1600000 in
theorem biY (HE:Uz W0 w bs L ts M) (n1 : -9223372036854775808≤x) (n2:x≤9223372036854775807) :
  Calls Tryz.prog 81 #[.int .i64 x] w (akn W0 bs L ts M (x:Rat) 2):=by
 refine Calls.mono (R:=akn w [] L [] M (x:Rat) 2) ?_ fun _ _ hh=>akn.of HE hh
 replace HE:=HE.here.ae' (.bool false) (.slice none 0 0) (.slice none 0 0)
 have HX:=Lib.hid (show Rat.divInt x 1=(x:Rat) from Rat.ext (by rw [Rat.num_divInt]; simp) (by rw [Rat.den_divInt]; simp))
 have HN:=Lib.hid (show -9223372036854775808≤x∧x≤9223372036854775807 from ⟨n1,n2⟩)
 clear n1 n2
 obtain ⟨q0,q1,q2,q3,q4,q5⟩:=HE.c3 (.head _)
 go_enter Tryz.func81,Tryz.ntmps81
 go_wp2_with fail
 refine (bez HE HN.out.1 HN.out.2 (by omega) (by omega) (by omega)).mono ?_
 rw [HX.out]
 rintro e w1 ⟨sx,Ax,nx,cx,Ay,ny,cy,rfl,HE⟩
 clear q0 q1 q2 q3 q4 q5
 obtain ⟨q0,q1,q2,q3,q4,q5⟩:=HE.c3 (.head _)
 go_wp2_with fail
 refine bodyPost_ret (v := .agg #[.bool sx,.slice Ax nx cx,.slice Ay ny cy]) (by simp [results,Tryz.results81,go_sem,q0,q1,q2]) rfl ?_
 exact ⟨_,_,_,_,_,_,_,rfl,(HE.as9 (D:=Ax) (m:=nx) (d:=cx) (.head _) sx (.slice Ay ny cy)).bare⟩
end
end Go.Proofs.YtbihljnjaondcaaGreatDoor
namespace Go.Proofs.YtbihljnjaondcaaGreatDoor
open Go Go.RowKit Lw
section
variable {W0 w:World} {bs:List Bx} {L:List En} {ts:List Bt} {M:List Qn} {s s':Bool} {A A' B B':Option Addr} {n c n' c' m d m' d' k k':Nat} {q r:Rat} {x y:Int} {b b':Bool}
def atw (W0:World) (bs:List Bx) (L:List En) (ts:List Bt) (M:List Qn) (q:Rat) (k:Nat) (e:Ending) (w':World):Prop :=
 ∃ (s:Bool) (A:Option Addr) (n c:Nat) (A':Option Addr) (n' c':Nat),e = .returned (.tuple #[.agg #[.bool s,.slice A n c,.slice A' n' c'],.nilIface])∧Uz W0 w' bs L ts (⟨.agg #[.bool s,.slice A n c,.slice A' n' c'],q,k,true⟩ :: M)
theorem atw.of {w':World} {e:Ending} (h:Uz W0 w bs L ts M) (hh:atw w [] L [] M q k e w'):atw W0 bs L ts M q k e w':=by
 obtain ⟨s,A,n,c,A',n',c',rfl,he⟩:=hh
 exact ⟨s,A,n,c,A',n',c',rfl,h.back he⟩
end
end Go.Proofs.YtbihljnjaondcaaGreatDoor
namespace Lw
open Go Go.RowKit
theorem bhA (x:Int):ahw x x=0:=by unfold ahw; simp
theorem bhF {x y:Int} (h:x≠y):(ahw x y != 0)=true:=by
 rw [bne_iff_ne]; unfold ahw; split <;> first | omega | (split <;> omega)
end Lw
namespace Go.Proofs.YtbihljnjaondcaaGreatDoor
open Go Go.RowKit Lw
section
variable {W0 w:World} {bs:List Bx} {L:List En} {ts:List Bt} {M:List Qn} {s s':Bool} {A A' B B':Option Addr} {n c n' c' m d m' d' k k':Nat} {q r:Rat} {x y:Int} {b b':Bool}
set_option maxRecDepth 100000 in
set_option maxHeartbeats 1600000 in
theorem bcB (HE:Uz W0 w bs L ts M) (n1 : -9223372036854775808≤x) (n2:x≤9223372036854775807) (d1 : -9223372036854775808≤y) (d2:y≤9223372036854775807) (hy:y≠0) :
  Calls Tryz.prog 80 #[.int .i64 x,.int .i64 y] w (atw W0 bs L ts M (Rat.divInt x y) 2):=by
 refine Calls.mono (R:=atw w [] L [] M (Rat.divInt x y) 2) ?_ fun _ _ hh=>atw.of HE hh
 replace HE:=HE.here.ae' (.bool false) (.slice none 0 0) (.slice none 0 0)
 have hy0:(y==0)=false:=by rw [beq_eq_false_iff_ne]; exact hy
 have HC:=Lib.hid (bez HE n1 n2 d1 d2 hy)
 clear n1 n2 d1 d2 hy
 generalize Rat.divInt x y=q at *
 obtain ⟨q0,q1,q2,q3,q4,q5⟩:=HE.c3 (.head _)
 go_enter Tryz.func80,Tryz.ntmps80
 go_wp2_with fail
 refine HC.out.mono ?_
 clear HE HC
 rintro e w1 ⟨sx,Ax,nx,cx,Ay,ny,cy,rfl,HE⟩
 clear q0 q1 q2 q3 q4 q5
 obtain ⟨q0,q1,q2,q3,q4,q5⟩:=HE.c3 (.head _)
 go_wp2_with fail
 refine bodyPost_ret (v := .tuple #[.agg #[.bool sx,.slice Ax nx cx,.slice Ay ny cy],.nilIface]) (by simp [results,Tryz.results80,go_sem,q0,q1,q2]) rfl ?_
 exact ⟨_,_,_,_,_,_,_,rfl,(HE.as9 (D:=Ax) (m:=nx) (d:=cx) (.head _) sx (.slice Ay ny cy)).bare⟩
set_option maxRecDepth 100000 in
set_option maxHeartbeats 1600000 in
theorem biO (HE:Uz W0 w bs L ts M) (h:⟨.agg #[.bool s,.slice A n c,.slice A' n' c'],q,k,b⟩∈M) (hk:k≤40000) :
  Calls Tryz.prog 23 #[.agg #[.bool s,.slice A n c,.slice A' n' c']] w (ag6 W0 bs L ts M q.floor (k+2+1)):=by
 refine Calls.mono (R:=ag6 w [] L [] M q.floor (k+2+1)) ?_ fun _ _ hh=>ag6.of HE hh
 replace HE:=(HE.here.ae' (.bool s) (.slice A n c) (.slice A' n' c')).abb (.bool false) (.slice none 0 0)
 simp only [World.size_alloc] at HE
 obtain ⟨q0,q1,q2,q3,q4,q5⟩:=HE.c3 (.head _)
 go_enter Tryz.func23,Tryz.ntmps23
 go_wp2_with fail
 refine (a3n HE h (by omega)).mono ?_
 clear HE
 rintro e w1 ⟨sx,Ax,nx,cx,Ay,ny,cy,rfl,HE⟩
 go_wp2_with fail
 refine (a2s HE (.head _)).mono ?_
 clear HE
 rintro e w2 ⟨s1,D1,m1,d1,s2,D2,m2,d2,rfl,HE⟩
 go_wp2_with fail
 refine (a7z HE (.head _) (.tail _ (.head _)) (by omega) (bch q)).mono ?_
 rw [biV]
 clear HE
 rintro e w3 ⟨s3,D3,m3,d3,rfl,HE⟩
 clear q0 q1 q2 q3 q4 q5
 obtain ⟨z0,z1,z2,z3⟩:=HE.c2 (.head _)
 go_wp2_with fail
 refine bodyPost_ret (v := .agg #[.bool s3,.slice D3 m3 d3]) (by simp [results,Tryz.results23,go_sem,z0,z1]) rfl ?_
 exact ⟨_,_,_,_,rfl,(HE.done2 (.head _) s3 (.slice D3 m3 d3)).pick (fun _ he=>by rcases List.mem_cons.1 he with rfl | he; exact .head _; exact .tail _ (.tail _ (.tail _ he))) (fun _ he => .tail _ he)⟩
set_option maxRecDepth 100000 in
set_option maxHeartbeats 2400000 in
theorem bfr (HE:Uz W0 w bs L ts M) (h:⟨.agg #[.bool s,.slice A n c],x,k,true⟩∈L) (hk:k≤30000) (hx:0≤x) (hsq:((rt x.natAbs:Nat):Int)*((rt x.natAbs:Nat):Int)=x) :
  Calls Tryz.prog 92 #[.agg #[.bool s,.slice A n c]] w (fun e w' => ∃ (s:Bool) (D:Option Addr) (m d:Nat),e = .returned (.tuple #[.agg #[.bool s,.slice D m d],.bool true])∧Uz W0 w' bs (⟨.agg #[.bool s,.slice D m d],((rt x.natAbs:Nat):Int),k,true⟩ :: L) ts M):=by
 refine Calls.mono (R:=fun e w' => ∃ (s:Bool) (D:Option Addr) (m d:Nat),e = .returned (.tuple #[.agg #[.bool s,.slice D m d],.bool true])∧Uz w w' [] (⟨.agg #[.bool s,.slice D m d],((rt x.natAbs:Nat):Int),k,true⟩ :: L) [] M) ?_ fun _ _ ⟨s,D,m,d,e1,he⟩=>⟨s,D,m,d,e1,HE.back he⟩
 replace HE:=(HE.here.abb (.bool s) (.slice A n c)).abb (.bool false) (.slice none 0 0)
 simp only [World.size_alloc] at HE
 obtain ⟨R,hR⟩ : ∃ R:Int,R=((rt x.natAbs:Nat):Int):=⟨_,rfl⟩
 have HR:=Lib.hid hR
 rw [← hR] at hsq ⊢
 have HS:=Lib.hid (show ahw (R*R) x=0 by rw [hsq]; exact bhA x)
 have HX:=Lib.hid hx
 clear hx hsq hR
 obtain ⟨q0,q1,q2,q3⟩:=HE.c2 (.tail _ (.head _))
 go_enter Tryz.func92,Tryz.ntmps92
 go_wp2_with fail
 refine (bdA HE h (by omega) HX.out).mono ?_
 rw [← HR.out]
 clear HE
 rintro e w1 ⟨s1,D1,m1,d1,rfl,HE⟩
 replace HE:=HE.abb (.bool s1) (.slice D1 m1 d1)
 clear q0 q1 q2 q3
 obtain ⟨q0,q1,q2,q3⟩:=HE.c2 (.head _)
 obtain ⟨q4,q5,q6,q7⟩:=HE.c2 (.tail _ (.tail _ (.head _)))
 obtain ⟨q8,q9,q10,q11⟩:=HE.c2 (.tail _ (.head _))
 go_wp2_with fail
 go_region_held3 (fun w'=>w'.cell? ⟨w.heap.size,0,none⟩=some (.bool s)∧w'.cell? ⟨w.heap.size,1,none⟩=some (.slice A n c)∧w'.cell? ⟨w.heap.size+1,0,none⟩=some (.bool false)∧w'.cell? ⟨w.heap.size+1,1,none⟩=some (.slice none 0 0)∧w'.cell? ⟨w1.heap.size,0,none⟩=some (.bool s1)∧w'.cell? ⟨w1.heap.size,1,none⟩=some (.slice D1 m1 d1)) (with_reducible first | exact Uz.r3 HE | exact Uz.r3 HE.drew)
  (first
   | (go_at_call 91; refine (a2n (by with_reducible first | exact HE | exact HE.drew) (by repeat (first | exact .head _ | assumption | refine .tail _ ?_)) (by repeat (first | exact .head _ | assumption | refine .tail _ ?_)) (by omega)).mono ?_; rintro e wn ⟨sx,Ax,nx,cx,rfl,HE⟩)
   | (go_at_call 112; refine (bac (by with_reducible first | exact HE | exact HE.drew) (by repeat (first | exact .head _ | assumption | refine .tail _ ?_)) (by repeat (first | exact .head _ | assumption | refine .tail _ ?_)) (by omega)).mono ?_; rw [HS.out]; rintro e wn ⟨rfl,HE⟩; obtain ⟨z0,z1,z2,z3⟩:=HE.c2 (.head _); obtain ⟨z4,z5,z6,z7⟩:=HE.c2 (.tail _ (.head _))))
 go_wp2_with fail
 refine bodyPost_ret (v := .tuple #[.agg #[.bool s1,.slice D1 m1 d1],.bool true]) (by simp [results,Tryz.results92,go_sem,z4,z5]) rfl ?_
 exact ⟨_,_,_,_,rfl,(HE.done2 (.tail _ (.head _)) s1 (.slice D1 m1 d1)).pick (fun _ he => .tail _ he) (fun _ he=>he)⟩
set_option maxRecDepth 100000 in
set_option maxHeartbeats 2400000 in
theorem bnY (HE:Uz W0 w bs L ts M) (h:⟨.agg #[.bool s,.slice A n c],x,k,true⟩∈L) (hk:k≤30000) (hx:0≤x) (hsq:((rt x.natAbs:Nat):Int)*((rt x.natAbs:Nat):Int)≠x) :
  Calls Tryz.prog 92 #[.agg #[.bool s,.slice A n c]] w (fun e w'=>e = .returned (.tuple #[.agg #[.bool false,.slice none 0 0],.bool false])∧Uz W0 w' bs L ts M):=by
 refine Calls.mono (R:=fun e w'=>e = .returned (.tuple #[.agg #[.bool false,.slice none 0 0],.bool false])∧Uz w w' [] L [] M) ?_ fun _ _ hh=>⟨hh.1,HE.back hh.2⟩
 replace HE:=(HE.here.abb (.bool s) (.slice A n c)).abb (.bool false) (.slice none 0 0)
 simp only [World.size_alloc] at HE
 obtain ⟨R,hR⟩ : ∃ R:Int,R=((rt x.natAbs:Nat):Int):=⟨_,rfl⟩
 have HR:=Lib.hid hR
 rw [← hR] at hsq
 obtain ⟨z,hz⟩ : ∃ z:Int,z=ahw (R*R) x:=⟨_,rfl⟩
 have HZ:=Lib.hid hz
 have hzb:(z != 0)=true:=by rw [hz]; exact bhF hsq
 have HX:=Lib.hid hx
 clear hx hsq hR hz
 obtain ⟨q0,q1,q2,q3⟩:=HE.c2 (.tail _ (.head _))
 go_enter Tryz.func92,Tryz.ntmps92
 go_wp2_with fail
 refine (bdA HE h (by omega) HX.out).mono ?_
 rw [← HR.out]
 clear HE
 rintro e w1 ⟨s1,D1,m1,d1,rfl,HE⟩
 replace HE:=HE.abb (.bool s1) (.slice D1 m1 d1)
 clear q0 q1 q2 q3
 obtain ⟨q0,q1,q2,q3⟩:=HE.c2 (.head _)
 obtain ⟨q4,q5,q6,q7⟩:=HE.c2 (.tail _ (.tail _ (.head _)))
 obtain ⟨q8,q9,q10,q11⟩:=HE.c2 (.tail _ (.head _))
 go_wp2_with fail
 go_region_held3 (fun w'=>w'.cell? ⟨w.heap.size,0,none⟩=some (.bool s)∧w'.cell? ⟨w.heap.size,1,none⟩=some (.slice A n c)∧w'.cell? ⟨w.heap.size+1,0,none⟩=some (.bool false)∧w'.cell? ⟨w.heap.size+1,1,none⟩=some (.slice none 0 0)∧w'.cell? ⟨w1.heap.size,0,none⟩=some (.bool s1)∧w'.cell? ⟨w1.heap.size,1,none⟩=some (.slice D1 m1 d1)) (with_reducible first | exact Uz.r3 HE | exact Uz.r3 HE.drew)
  (first
   | (go_at_call 91; refine (a2n (by with_reducible first | exact HE | exact HE.drew) (by repeat (first | exact .head _ | assumption | refine .tail _ ?_)) (by repeat (first | exact .head _ | assumption | refine .tail _ ?_)) (by omega)).mono ?_; rintro e wn ⟨sx,Ax,nx,cx,rfl,HE⟩)
   | (go_at_call 112; refine (bac (by with_reducible first | exact HE | exact HE.drew) (by repeat (first | exact .head _ | assumption | refine .tail _ ?_)) (by repeat (first | exact .head _ | assumption | refine .tail _ ?_)) (by omega)).mono ?_; rw [← HZ.out]; rintro e wn ⟨rfl,HE⟩; obtain ⟨z0,z1,z2,z3⟩:=HE.c2 (.head _); obtain ⟨z4,z5,z6,z7⟩:=HE.c2 (.tail _ (.head _))))
 go_wp2_with fail
 have HF:=HE.done2 (.tail _ (.head _)) false (.slice none 0 0)
 refine bodyPost_ret (v := .tuple #[.agg #[.bool false,.slice none 0 0],.bool false]) (by simp [results,Tryz.results92,go_sem,z4,z5]) rfl ?_
 exact ⟨rfl,HF.tl.tl⟩
theorem bki (HE:Uz W0 w bs L ts M) (h:⟨.agg #[.bool s,.slice A n c],x,k,true⟩∈L) (hk:k≤30000) (hx:x < 0) :
  Calls Tryz.prog 158 #[.agg #[.bool s,.slice A n c]] w fun e w'=>e = .returned (.tuple #[.agg #[.bool false,.slice none 0 0],.iface 74 (.int .i64 3)])∧Uz W0 w' bs L ts M:=by
 obtain ⟨h1,h2,h3,h4,h5⟩:=(HE.env.ops _ h).len
 refine (bni s A (mg x) n c _ w h3 (Nat.le_refl _) h2.symm (by omega) h5 (by rw [h1,a1k]; exact hx)).mono fun e w' hh=>⟨hh.1,HE.next hh.2⟩
set_option maxRecDepth 100000 in
set_option maxHeartbeats 2400000 in
theorem bnX (HE:Uz W0 w bs L ts M) (h:⟨.agg #[.bool s,.slice A n c],x,k,true⟩∈L) (hk:k≤30000) (hx:x < 0) :
  Calls Tryz.prog 92 #[.agg #[.bool s,.slice A n c]] w (fun e w'=>e = .returned (.tuple #[.agg #[.bool false,.slice none 0 0],.bool false])∧Uz W0 w' bs L ts M):=by
 refine Calls.mono (R:=fun e w'=>e = .returned (.tuple #[.agg #[.bool false,.slice none 0 0],.bool false])∧Uz w w' [] L [] M) ?_ fun _ _ hh=>⟨hh.1,HE.back hh.2⟩
 replace HE:=(HE.here.abb (.bool s) (.slice A n c)).abb (.bool false) (.slice none 0 0)
 simp only [World.size_alloc] at HE
 have HX:=Lib.hid hx
 clear hx
 obtain ⟨q0,q1,q2,q3⟩:=HE.c2 (.tail _ (.head _))
 go_enter Tryz.func92,Tryz.ntmps92
 go_wp2_with fail
 refine (bki HE h (by omega) HX.out).mono ?_
 clear HE
 rintro e w1 ⟨rfl,HE⟩
 replace HE:=HE.abb (.bool false) (.slice none 0 0)
 clear q0 q1 q2 q3
 obtain ⟨q0,q1,q2,q3⟩:=HE.c2 (.head _)
 obtain ⟨q4,q5,q6,q7⟩:=HE.c2 (.tail _ (.tail _ (.head _)))
 obtain ⟨q8,q9,q10,q11⟩:=HE.c2 (.tail _ (.head _))
 go_wp2_with fail
 go_region
 all_goals
  go_wp2_with fail
  have HF:=HE.done2 (.tail _ (.head _)) false (.slice none 0 0)
  refine bodyPost_ret (v := .tuple #[.agg #[.bool false,.slice none 0 0],.bool false]) (by simp [results,Tryz.results92,go_sem,q8,q9]) rfl ?_
  first | exact ⟨rfl,HF⟩ | exact ⟨rfl,HF.drew⟩
end
end Go.Proofs.YtbihljnjaondcaaGreatDoor
