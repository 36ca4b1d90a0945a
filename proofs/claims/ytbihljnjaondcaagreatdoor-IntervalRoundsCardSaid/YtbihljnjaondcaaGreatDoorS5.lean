/- Part of a proof, said shortly. -/
import Derived.Deep.RegionHeld3
import Derived.Deep.RegionWith
import Derived.Test.YtbihljnjaondcaaGreatDoorAlz
import Derived.Test.YtbihljnjaondcaaGreatDoorC19
import Derived.Test.YtbihljnjaondcaaGreatDoorC16
import Derived.Test.YtbihljnjaondcaaGreatDoorC14
import Derived.Test.YtbihljnjaondcaaGreatDoorC13
import Derived.Test.YtbihljnjaondcaaGreatDoorC12
import Derived.Test.YtbihljnjaondcaaGreatDoorC11
import Derived.Test.YtbihljnjaondcaaGreatDoorC10
import Derived.Test.YtbihljnjaondcaaGreatDoorC6
import Derived.Test.YtbihljnjaondcaaGreatDoorC2
import Derived.Test.YtbihljnjaondcaaGreatDoorC1
import Derived.Test.YtbihljnjaondcaaGreatDoorC5
import Derived.Test.YtbihljnjaondcaaGreatDoorC4
import Derived.Test.YtbihljnjaondcaaGreatDoorC3
import Derived.Test.YtbihljnjaondcaaGreatDoorC9
import Derived.Test.YtbihljnjaondcaaGreatDoorC8
import Derived.Test.YtbihljnjaondcaaGreatDoorC7
import Derived.Test.YtbihljnjaondcaaGreatDoorC18
import Derived.Test.YtbihljnjaondcaaGreatDoorC17
import Derived.Test.YtbihljnjaondcaaGreatDoorC20
import Derived.Test.YtbihljnjaondcaaGreatDoorC15
import Derived.Test.YtbihljnjaondcaaGreatDoorS1
open Go.Proofs.YtbihljnjaondcaaGreatDoor (a0p a0q a0r a0s yw bU fO cO PS iy1 PT FX iy4 iy5 iy6 Yo iy8 iy9 aAJ)
namespace Go.Proofs.YtbihljnjaondcaaGreatDoor
open Go Go.RowKit Lw
section
variable {W0 w:World} {bs:List Bx} {L:List En} {ts:List Bt} {M:List Qn} {s s':Bool} {A A' B B':Option Addr} {n c n' c' m d m' d' k k':Nat} {q r:Rat} {x y:Int} {b b':Bool}
set_option maxRecDepth 100000 in
set_option maxHeartbeats 3200000 in
theorem aEv (HE:bG W0 w bs L ts M) (h:⟨.agg #[.bool s,.slice A n c,.slice A' n' c'],q,k,b⟩∈M) (h':⟨.agg #[.bool s',.slice B m d,.slice B' m' d'],r,k',b'⟩∈M) (hk:k+k'≤1000) :
  Calls Tryz.prog 94 #[.agg #[.bool s,.slice A n c,.slice A' n' c'],.agg #[.bool s',.slice B m d,.slice B' m' d']] w (jB W0 bs L ts M (q*r) (k+k'+2)):=by
 refine Calls.mono (R:=(jB w [] L [] M (q*r) (k+k'+2))) ?_ fun _ _ hh=>jB.of HE hh
 have HP:=Lib.hid (ao2 (UQ HE h) (UQ HE h'))
 have HD:=Lib.hid (Int.mul_ne_zero (tJ q) (tJ r))
 replace HE:=((HE.here.gQ (.bool s) (.slice A n c) (.slice A' n' c')).gQ (.bool s') (.slice B m d) (.slice B' m' d')).gQ (.bool false) (.slice none 0 0) (.slice none 0 0)
 simp only [World.size_alloc] at HE
 obtain ⟨q0,q1,q2,q3,q4,q5⟩:=HE.c3 (.head _)
 obtain ⟨q6,q7,q8,q9,q10,q11⟩:=HE.c3 (.tail _ (.head _))
 obtain ⟨q12,q13,jC,jD,q16,jE⟩:=HE.c3 (.tail _ (.tail _ (.head _)))
 go_enter Tryz.func94,Tryz.ntmps94
 go_wp2_with fail
 refine (KX HE h (by omega)).mono ?_
 clear HE
 rintro e w1 ⟨s1,D1,m1,d1,s2,D2,m2,d2,rfl,HE⟩
 replace HE:=(HE.fF (.bool s1) (.slice D1 m1 d1)).fF (.bool s2) (.slice D2 m2 d2)
 simp only [World.size_alloc] at HE
 clear q0 q1 q2 q3 q4 q5 q6 q7 q8 q9 q10 q11 q12 q13 jC jD q16 jE
 obtain ⟨kL,kM,lH,lI⟩:=HE.c2 (.head _)
 obtain ⟨q22,q23,q24,mG⟩:=HE.c2 (.tail _ (.head _))
 obtain ⟨mX,mY,nV,nX,q30,nY⟩:=HE.c3 (.head _)
 obtain ⟨q32,og,pg,q35,vS,q37⟩:=HE.c3 (.tail _ (.head _))
 obtain ⟨wG,wX,wY,wZ,xA,xB⟩:=HE.c3 (.tail _ (.tail _ (.head _)))
 go_wp2_with fail
 refine (KX HE h' (by omega)).mono ?_
 clear HE
 rintro e w2 ⟨s3,D3,m3,d3,s4,D4,m4,d4,rfl,HE⟩
 replace HE:=(HE.fF (.bool s3) (.slice D3 m3 d3)).fF (.bool s4) (.slice D4 m4 d4)
 simp only [World.size_alloc] at HE
 clear kL kM lH lI q22 q23 q24 mG mX mY nV nX q30 nY q32 og pg q35 vS q37 wG wX wY wZ xA xB
 obtain ⟨yG,yH,yI,yJ⟩:=HE.c2 (.head _)
 obtain ⟨zq,zu,zx,zy⟩:=HE.c2 (.tail _ (.head _))
 obtain ⟨zA,zB,He,Hg⟩:=HE.c2 (.tail _ (.tail _ (.head _)))
 obtain ⟨Jq,Jr,Js,Jt⟩:=HE.c2 (.tail _ (.tail _ (.tail _ (.head _))))
 obtain ⟨Ju,Jw,Jy,Jz,JA,JB⟩:=HE.c3 (.head _)
 obtain ⟨JD,JE,JF,JG,JH,JI⟩:=HE.c3 (.tail _ (.head _))
 obtain ⟨KP,KQ,KR,KT,KU,KW⟩:=HE.c3 (.tail _ (.tail _ (.head _)))
 go_wp2_with fail
 go_region_held3 (fun w'=>w'.cell? ⟨w1.heap.size,0,none⟩=some (.bool s1)∧w'.cell? ⟨w1.heap.size,1,none⟩=some (.slice D1 m1 d1)∧w'.cell? ⟨w1.heap.size+1,0,none⟩=some (.bool s2)∧w'.cell? ⟨w1.heap.size+1,1,none⟩=some (.slice D2 m2 d2)∧w'.cell? ⟨w2.heap.size,0,none⟩=some (.bool s3)∧w'.cell? ⟨w2.heap.size,1,none⟩=some (.slice D3 m3 d3)∧w'.cell? ⟨w2.heap.size+1,0,none⟩=some (.bool s4)∧w'.cell? ⟨w2.heap.size+1,1,none⟩=some (.slice D4 m4 d4)) (first | exact ⟨(HE.c2 (.tail _ (.tail _ (.tail _ (.head _))))).1,(HE.c2 (.tail _ (.tail _ (.tail _ (.head _))))).2.1,(HE.c2 (.tail _ (.tail _ (.head _)))).1,(HE.c2 (.tail _ (.tail _ (.head _)))).2.1,(HE.c2 (.tail _ (.head _))).1,(HE.c2 (.tail _ (.head _))).2.1,(HE.c2 (.head _)).1,(HE.c2 (.head _)).2.1⟩ | exact ⟨(HE.drew.c2 (.tail _ (.tail _ (.tail _ (.head _))))).1,(HE.drew.c2 (.tail _ (.tail _ (.tail _ (.head _))))).2.1,(HE.drew.c2 (.tail _ (.tail _ (.head _)))).1,(HE.drew.c2 (.tail _ (.tail _ (.head _)))).2.1,(HE.drew.c2 (.tail _ (.head _))).1,(HE.drew.c2 (.tail _ (.head _))).2.1,(HE.drew.c2 (.head _)).1,(HE.drew.c2 (.head _)).2.1⟩ | exact ⟨(HK.c2 (.tail _ (.tail _ (.tail _ (.head _))))).1,(HK.c2 (.tail _ (.tail _ (.tail _ (.head _))))).2.1,(HK.c2 (.tail _ (.tail _ (.head _)))).1,(HK.c2 (.tail _ (.tail _ (.head _)))).2.1,(HK.c2 (.tail _ (.head _))).1,(HK.c2 (.tail _ (.head _))).2.1,(HK.c2 (.head _)).1,(HK.c2 (.head _)).2.1⟩)
  (first
   | (go_at_call 100; refine (aef (by with_reducible first | exact HE | exact HE.drew) (by repeat (first | exact .head _ | assumption | refine .tail _ ?_)) (by repeat (first | exact .head _ | assumption | refine .tail _ ?_)) (by omega)).mono ?_; rintro e wn ⟨sx,Ax,nx,cx,rfl,HE⟩)
   | (go_at_call 103; refine (X6 (by with_reducible first | exact HE | exact HE.drew) (by repeat (first | exact .head _ | assumption | refine .tail _ ?_)) (by repeat (first | exact .head _ | assumption | refine .tail _ ?_)) (by omega) HD.out).mono ?_; rintro e wn ⟨sx,Ax,nx,cx,Ay,ny,cy,rfl,HE⟩; have HK:=HE.tK (D:=Ax) (m:=nx) (d:=cx) (.head _) sx (.slice Ay ny cy); obtain ⟨z0,z1,z2,z3,z4,z5⟩:=HE.c3 (.head _)))
 go_wp2_with fail
 refine bodyPost_ret (v := .agg #[.bool sx,.slice Ax nx cx,.slice Ay ny cy]) (by simp [results,Tryz.results94,go_sem,z0,z1,z2]) rfl ?_
 have HF:=HK.bare
 rw [← ais] at HF
 replace HF:=HF.hd (fun hh=>fJ.tight hh HP.out.1 HP.out.2)
 exact ⟨_,_,_,_,_,_,_,rfl,HF.pick (fun e he => .tail _ (.tail _ (.tail _ (.tail _ (.tail _ (.tail _ (he))))))) (fun _ he=>he)⟩
end
end Go.Proofs.YtbihljnjaondcaaGreatDoor
namespace Go.Proofs.YtbihljnjaondcaaGreatDoor
open Go Go.RowKit Lw
section
variable {W0 w:World} {bs:List Bx} {L:List En} {ts:List Bt} {M:List Qn} {s s':Bool} {A A' B B':Option Addr} {n c n' c' m d m' d' k k':Nat} {q r:Rat} {x y:Int} {b b':Bool}
set_option maxRecDepth 100000 in
set_option maxHeartbeats 1600000 in
theorem ajd (HE:bG W0 w bs L ts M) (h:⟨.agg #[.bool s,.slice A n c],x,k,b⟩∈L) (h':⟨.agg #[.bool s',.slice A' n' c'],y,k',b'⟩∈L) (hk:k+k'≤4000) (hy:y≠0) :
  Calls Tryz.prog 101 #[.agg #[.bool s,.slice A n c],.agg #[.bool s',.slice A' n' c']] w (fun e w' => ∃ (s:Bool) (A:Option Addr) (n c:Nat) (A':Option Addr) (n' c':Nat),e = .returned (.tuple #[.agg #[.bool s,.slice A n c,.slice A' n' c'],.int .i64 0])∧bG W0 w' bs L ts (⟨.agg #[.bool s,.slice A n c,.slice A' n' c'],Rat.divInt x y,k+1+(k'+1),true⟩ :: M)):=by
 refine Calls.mono (R:=(fun e w' => ∃ (s:Bool) (A:Option Addr) (n c:Nat) (A':Option Addr) (n' c':Nat),e = .returned (.tuple #[.agg #[.bool s,.slice A n c,.slice A' n' c'],.int .i64 0])∧bG w w' [] L [] (⟨.agg #[.bool s,.slice A n c,.slice A' n' c'],Rat.divInt x y,k+1+(k'+1),true⟩ :: M))) ?_ fun _ _ hh=>by obtain ⟨s,A,n,c,A',n',c',e1,he⟩:=hh; exact ⟨s,A,n,c,A',n',c',e1,HE.back he⟩
 replace HE:=((HE.here.fF (.bool s) (.slice A n c)).fF (.bool s') (.slice A' n' c')).gQ (.bool false) (.slice none 0 0) (.slice none 0 0)
 simp only [World.size_alloc] at HE
 have hs:(sV y==0)=false:=by rw [beq_eq_false_iff_ne]; unfold sV; split; decide; first | decide | (rw [if_neg hy]; decide)
 have HY:=Lib.hid hy
 clear hy
 obtain ⟨q0,q1,q2,q3⟩:=HE.c2 (.head _)
 obtain ⟨q4,q5,q6,q7⟩:=HE.c2 (.tail _ (.head _))
 obtain ⟨q8,q9,q10,q11,q12,q13⟩:=HE.c3 (.head _)
 go_enter Tryz.func101,Tryz.ntmps101
 go_wp2_with fail
 refine (Tv HE h' (by omega)).mono ?_
 clear HE
 rintro e w1 ⟨rfl,HE⟩
 clear q0 q1 q2 q3 q4 q5 q6 q7 q8 q9 q10 q11 q12 q13
 obtain ⟨jC,jD,q16,jE⟩:=HE.c2 (.head _)
 obtain ⟨kL,kM,lH,lI⟩:=HE.c2 (.tail _ (.head _))
 obtain ⟨q22,q23,q24,mG,mX,mY⟩:=HE.c3 (.head _)
 go_wp2_with fail
 refine (X6 HE h h' hk HY.out).mono ?_
 clear HE
 rintro e w2 ⟨sx,Ax,nx,cx,Ay,ny,cy,rfl,HE⟩
 clear jC jD q16 jE kL kM lH lI q22 q23 q24 mG mX mY
 obtain ⟨z0,z1,z2,z3,z4,z5⟩:=HE.c3 (.head _)
 go_wp2_with fail
 refine bodyPost_ret (v := .tuple #[.agg #[.bool sx,.slice Ax nx cx,.slice Ay ny cy],.int .i64 0]) (by simp [results,Tryz.results101,go_sem,z0,z1,z2]) rfl ?_
 exact ⟨_,_,_,_,_,_,_,rfl,(HE.tK (D:=Ax) (m:=nx) (d:=cx) (.head _) sx (.slice Ay ny cy)).bare⟩
end
end Go.Proofs.YtbihljnjaondcaaGreatDoor
namespace Go.Proofs.YtbihljnjaondcaaGreatDoor
open Go Go.RowKit Lw
section
variable {W0 w:World} {bs:List Bx} {L:List En} {ts:List Bt} {M:List Qn} {v v':Value} {q r:Rat} {k k':Nat} {b b':Bool}
theorem aEw (HE:bG W0 w bs L ts M) (h:⟨v,q,k,b⟩∈M) (h':⟨v',r,k',b'⟩∈M) (hk:k+k'≤800) :
  Calls Tryz.prog 94 #[v,v'] w (xH W0 bs L ts M (q*r) (k+k'+2)):=by
 obtain ⟨s,A,n,c,A',n',c',e1⟩:=(HE.fr _ h).shape
 obtain ⟨t,B,m,d,B',m',d',e2⟩:=(HE.fr _ h').shape
 dsimp only at e1 e2
 subst e1 e2
 exact (aEv HE h h' (by omega)).mono fun _ _ hh=>xH.of hh
end
end Go.Proofs.YtbihljnjaondcaaGreatDoor
namespace Go.Proofs.YtbihljnjaondcaaGreatDoor
open Go Go.RowKit Lw bZ
section
variable {W0 w w':World} {U:List Box} {Ps:List (World→Prop)} {v v':Value} {q r:Rat} {x y:Int} {k k':Nat} {b b':Bool} {f:FuncId} {vs:List Value} {L:List En} {M:List Qn}
theorem Qc (HT:Tz W0) (HB:Tab W0) (HS:St W0 U Ps w) {s1:Bool} {A1:Option Addr} {n1 c1:Nat} {B1:Option Addr} {m1 d1:Nat} {q1:Rat} {k1:Nat} {b1:Bool} {s2:Bool} {A2:Option Addr} {n2 c2:Nat} {B2:Option Addr} {m2 d2:Nat} {q2:Rat} {k2:Nat} {b2:Bool} (f1:FV (a0p s1 A1 n1 c1 B1 m1 d1) q1 k1 b1 w) (f2:FV (a0p s2 A2 n2 c2 B2 m2 d2) q2 k2 b2 w) (hk:k1+k2≤800):bY Tryz.prog 94 [(a0p s1 A1 n1 c1 B1 m1 d1),(a0p s2 A2 n2 c2 B2 m2 d2)] w (xY W0 U Ps (q1*q2) (k1+k2+2)) :=
 GM HS (aEw (((St.start HS HT HB).cons f2).cons f1) (.head _) (.tail _ (.head _)) hk)
end
end Go.Proofs.YtbihljnjaondcaaGreatDoor
