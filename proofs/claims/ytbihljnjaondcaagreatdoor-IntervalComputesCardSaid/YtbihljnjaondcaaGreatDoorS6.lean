/- Part of a proof, said shortly. -/
import Derived.Test.YtbihljnjaondcaaGreatDoorAlz
import Derived.Test.YtbihljnjaondcaaGreatDoorC13
import Derived.Test.YtbihljnjaondcaaGreatDoorC12
import Derived.Test.YtbihljnjaondcaaGreatDoorC11
import Derived.Test.YtbihljnjaondcaaGreatDoorC10
import Derived.Test.YtbihljnjaondcaaGreatDoorC6
import Derived.Test.YtbihljnjaondcaaGreatDoorC2
import Derived.Test.YtbihljnjaondcaaGreatDoorC1
import Derived.Test.YtbihljnjaondcaaGreatDoorC5
import Derived.Test.YtbihljnjaondcaaGreatDoorC4
import Derived.Test.YtbihljnjaondcaaGreatDoorC3
import Derived.Test.YtbihljnjaondcaaGreatDoorC9
import Derived.Test.YtbihljnjaondcaaGreatDoorC8
import Derived.Test.YtbihljnjaondcaaGreatDoorC7
import Derived.Test.YtbihljnjaondcaaGreatDoorC16
import Derived.Test.YtbihljnjaondcaaGreatDoorC14
import Derived.Test.YtbihljnjaondcaaGreatDoorC20
import Derived.Test.YtbihljnjaondcaaGreatDoorC15
import Derived.Test.YtbihljnjaondcaaGreatDoorS1
import Derived.Test.YtbihljnjaondcaaGreatDoorC19
import Derived.Test.YtbihljnjaondcaaGreatDoorC18
import Derived.Test.YtbihljnjaondcaaGreatDoorC17
open Go.Proofs.YtbihljnjaondcaaGreatDoor (a0p a0q a0r a0s yw bU fO cO PS iy1 PT FX iy4 iy5 iy6 Yo iy8 iy9 aAJ)
namespace Go.Proofs.YtbihljnjaondcaaGreatDoor
open Go Go.RowKit Lw
section
variable {W0 w:World} {bs:List Bx} {L:List En} {ts:List Bt} {M:List Qn} {s s':Bool} {A A' B B':Option Addr} {n c n' c' m d m' d' k k':Nat} {q r:Rat} {x y:Int} {b b':Bool}
set_option maxRecDepth 100000 in
set_option maxHeartbeats 2400000 in
theorem ay3 (HE:bG W0 w bs L ts M) (h:⟨.agg #[.bool s,.slice A n c,.slice A' n' c'],q,k,b⟩∈M) (h':⟨.agg #[.bool s',.slice B m d,.slice B' m' d'],r,k',b'⟩∈M) (hk:k+k'≤8000) :
  Calls Tryz.prog 73 #[.agg #[.bool s,.slice A n c,.slice A' n' c'],.agg #[.bool s',.slice B m d,.slice B' m' d']] w (jB W0 bs L ts M (q - r) (k+k'+2)):=by
 refine Calls.mono (R:=(jB w [] L [] M (q - r) (k+k'+2))) ?_ fun _ _ hh=>jB.of HE hh
 replace HE:=(HE.here.gQ (.bool s) (.slice A n c) (.slice A' n' c')).gQ (.bool s') (.slice B m d) (.slice B' m' d')
 replace HE:=HE.gQ (.bool false) (.slice none 0 0) (.slice none 0 0)
 simp only [World.size_alloc] at HE
 obtain ⟨q0,q1,q2,q3,q4,q5⟩:=HE.c3 (.head _)
 obtain ⟨q6,q7,q8,q9,q10,q11⟩:=HE.c3 (.tail _ (.head _))
 obtain ⟨q12,q13,jC,jD,q16,jE⟩:=HE.c3 (.tail _ (.tail _ (.head _)))
 have TA:=HE.rD (.tail _ (.tail _ (.head _)))
 have TB:=HE.rD (.tail _ (.head _))
 go_enter Tryz.func73,Tryz.ntmps73
 go_wp2_with fail
 go_region_held3 (fun w'=>w'.cell? ⟨w.heap.size,0,none⟩=some (.bool s)∧w'.cell? ⟨w.heap.size,1,none⟩=some (.slice A n c)∧w'.cell? ⟨w.heap.size,2,none⟩=some (.slice A' n' c')∧w'.cell? ⟨w.heap.size+1,0,none⟩=some (.bool s')∧w'.cell? ⟨w.heap.size+1,1,none⟩=some (.slice B m d)∧w'.cell? ⟨w.heap.size+1,2,none⟩=some (.slice B' m' d')) (with_reducible first | exact iG.cc TA TB | exact iG.cc TA.drew TB.drew | exact iG.cc UA UB)
  (first
   | (go_at_call 83; refine (zT (by with_reducible first | exact HE | exact HE.drew) (by repeat (first | exact .head _ | assumption | refine .tail _ ?_)) (by omega)).mono ?_; rintro e wn ⟨sx,Ax,nx,cx,Ay,ny,cy,rfl,HE⟩; have TA:=HE.rD (.tail _ (.tail _ (.head _))); have TB:=HE.rD (.tail _ (.head _)))
   | (go_at_call 145; refine (apt (by with_reducible first | exact HE | exact HE.drew) (by repeat (first | exact .head _ | assumption | refine .tail _ ?_)) (by omega)).mono ?_; rintro e wn ⟨sx,Ax,nx,cx,Ay,ny,cy,rfl,HE⟩; have TA:=HE.rD (.tail _ (.tail _ (.head _))); have TB:=HE.rD (.tail _ (.head _)))
   | (go_at_call 147; refine (apK (by with_reducible first | exact HE | exact HE.drew) (by repeat (first | exact .head _ | assumption | refine .tail _ ?_)) (by repeat (first | exact .head _ | assumption | refine .tail _ ?_)) (by omega)).mono ?_; rintro e wn ⟨sx,Ax,nx,cx,Ay,ny,cy,rfl,HE⟩; have TA:=HE.rD (.tail _ (.tail _ (.head _))); have TB:=HE.rD (.tail _ (.head _)); have UA:=TA.IW (g':=w.heap.size+1+1) (by omega) (.bool sx) (.slice Ax nx cx) (.slice Ay ny cy); have UB:=TB.IW (g':=w.heap.size+1+1) (by omega) (.bool sx) (.slice Ax nx cx) (.slice Ay ny cy); obtain ⟨z0,z1,z2,z3,z4,z5⟩:=HE.c3 (.head _)))
 go_wp2_with fail
 refine bodyPost_ret (v := .agg #[.bool sx,.slice Ax nx cx,.slice Ay ny cy]) (by simp [results,Tryz.results73,go_sem,z0,z1,z2]) rfl ?_
 have HK:=(HE.tK (D:=Ax) (m:=nx) (d:=cx) (.head _) sx (.slice Ay ny cy)).bare
 rw [← Rat.sub_eq_add_neg] at HK
 exact ⟨_,_,_,_,_,_,_,rfl,HK.pick (fun _ he=>he) (fun _ he=>by rcases List.mem_cons.1 he with rfl | he; exact .head _; exact .tail _ (.tail _ (.tail _ (.tail _ (he)))))⟩
end
end Go.Proofs.YtbihljnjaondcaaGreatDoor
namespace Go.Proofs.YtbihljnjaondcaaGreatDoor
open Go Go.RowKit Lw
section
variable {W0 w:World} {bs:List Bx} {L:List En} {ts:List Bt} {M:List Qn} {v v':Value} {q r:Rat} {k k':Nat} {b b':Bool}
theorem ay4 (HE:bG W0 w bs L ts M) (h:⟨v,q,k,b⟩∈M) (h':⟨v',r,k',b'⟩∈M) (hk:k+k'≤8000) :
  Calls Tryz.prog 73 #[v,v'] w (xH W0 bs L ts M (q - r) (k+k'+2)):=by
 obtain ⟨s,A,n,c,A',n',c',e1⟩:=(HE.fr _ h).shape
 obtain ⟨t,B,m,d,B',m',d',e2⟩:=(HE.fr _ h').shape
 dsimp only at e1 e2
 subst e1 e2
 exact (ay3 HE h h' hk).mono fun _ _ hh=>xH.of hh
end
end Go.Proofs.YtbihljnjaondcaaGreatDoor
namespace Go.Proofs.YtbihljnjaondcaaGreatDoor
open Go Go.RowKit Lw bZ
section
variable {W0 w w':World} {U:List Box} {Ps:List (World→Prop)} {v v':Value} {q r:Rat} {x y:Int} {k k':Nat} {b b':Bool} {f:FuncId} {vs:List Value} {L:List En} {M:List Qn}
theorem UD (HT:Tz W0) (HB:Tab W0) (HS:St W0 U Ps w) {s1:Bool} {A1:Option Addr} {n1 c1:Nat} {B1:Option Addr} {m1 d1:Nat} {q1:Rat} {k1:Nat} {b1:Bool} {s2:Bool} {A2:Option Addr} {n2 c2:Nat} {B2:Option Addr} {m2 d2:Nat} {q2:Rat} {k2:Nat} {b2:Bool} (f1:FV (a0p s1 A1 n1 c1 B1 m1 d1) q1 k1 b1 w) (f2:FV (a0p s2 A2 n2 c2 B2 m2 d2) q2 k2 b2 w) (hk:k1+k2≤8000):bY Tryz.prog 73 [(a0p s1 A1 n1 c1 B1 m1 d1),(a0p s2 A2 n2 c2 B2 m2 d2)] w (xY W0 U Ps (q1 - q2) (k1+k2+2)) :=
 GM HS (ay4 (((St.start HS HT HB).cons f2).cons f1) (.head _) (.tail _ (.head _)) hk)
end
end Go.Proofs.YtbihljnjaondcaaGreatDoor
