/- Part of a proof, said shortly. -/
import Derived.Lib.TrailingZeros
import Derived.Deep.RegionWith
import Derived.Test.YtbihljnjaondcaaGreatDoorAlz
import Derived.Test.YtbihljnjaondcaaGreatDoorC5
import Derived.Test.YtbihljnjaondcaaGreatDoorC1
import Derived.Test.YtbihljnjaondcaaGreatDoorC20
import Derived.Test.YtbihljnjaondcaaGreatDoorS5
import Derived.Test.YtbihljnjaondcaaGreatDoorC16
import Derived.Test.YtbihljnjaondcaaGreatDoorS6
import Derived.Test.YtbihljnjaondcaaGreatDoorS18
import Derived.Test.YtbihljnjaondcaaGreatDoorC14
import Derived.Test.YtbihljnjaondcaaGreatDoorC13
import Derived.Test.YtbihljnjaondcaaGreatDoorC12
import Derived.Test.YtbihljnjaondcaaGreatDoorC11
import Derived.Test.YtbihljnjaondcaaGreatDoorC10
import Derived.Test.YtbihljnjaondcaaGreatDoorC6
import Derived.Test.YtbihljnjaondcaaGreatDoorC2
import Derived.Test.YtbihljnjaondcaaGreatDoorC4
import Derived.Test.YtbihljnjaondcaaGreatDoorC3
import Derived.Test.YtbihljnjaondcaaGreatDoorC9
import Derived.Test.YtbihljnjaondcaaGreatDoorC8
import Derived.Test.YtbihljnjaondcaaGreatDoorC7
import Derived.Test.YtbihljnjaondcaaGreatDoorS7
import Derived.Test.YtbihljnjaondcaaGreatDoorC19
import Derived.Test.YtbihljnjaondcaaGreatDoorC18
import Derived.Test.YtbihljnjaondcaaGreatDoorC17
import Derived.Test.YtbihljnjaondcaaGreatDoorS11
import Derived.Test.YtbihljnjaondcaaGreatDoorC15
import Derived.Test.YtbihljnjaondcaaGreatDoorS1
import Derived.Test.YtbihljnjaondcaaGreatDoorS9
import Derived.Test.YtbihljnjaondcaaGreatDoorC21
import Derived.Test.YtbihljnjaondcaaGreatDoorS14
import Derived.Test.YtbihljnjaondcaaGreatDoorC25
set_option maxRecDepth 100000
open Go.Proofs.YtbihljnjaondcaaGreatDoor (a0p a0q a0r a0s yw bU fO cO PS iy1 PT FX iy4 iy5 iy6 Yo iy8 iy9 aAJ)
set_option linter.unusedVariables false
set_option linter.unusedSimpArgs false
namespace Lw
theorem axM (a b:Rat):qF a b = -qF b a:=by
 rcases tri a b with h | h | h
 ·rw [Ut h,Us h]
 ·subst h; rw [ag9]; rfl
 ·rw [Ut h,Us h]; rfl
end Lw
namespace Go.Proofs.YtbihljnjaondcaaGreatDoor
open Go Go.RowKit Lw
section
variable {W0 w:World} {bs:List Bx} {L:List En} {ts:List Bt} {M:List Qn} {s s':Bool} {A A' B B':Option Addr} {n c n' c' m d m' d' k k':Nat} {q r:Rat} {x y:Int} {b b':Bool}
theorem al7 (q r:Rat):(qF q r = -1∧gY q r=q∧gX q r=r)∨(qF q r=0∧gY q r=q∧gX q r=q)∨(qF q r=1∧gY q r=r∧gX q r=q):=by
 have hs:qF r q = -(qF q r):=by have:=axM q r; omega
 rcases tri q r with h | h | h
 ·left; rw [Ut h] at hs ⊢; unfold gY gX; rw [hs]; exact ⟨rfl,rfl,rfl⟩
 ·right; left; have e:=al9.2 h; rw [e] at hs ⊢; unfold gY gX; rw [hs]; exact ⟨rfl,rfl,rfl⟩
 ·right; right; rw [Us h] at hs ⊢; unfold gY gX; rw [hs]; exact ⟨rfl,rfl,rfl⟩
set_option maxRecDepth 100000 in
set_option maxHeartbeats 3200000 in
theorem aEt (HE:bG W0 w bs L ts M) (h:⟨.agg #[.bool s,.slice A n c,.slice A' n' c'],q,k,b⟩∈M) (h':⟨.agg #[.bool s',.slice B m d,.slice B' m' d'],r,k',b'⟩∈M) (hk:k+k'≤900) :
  Calls Tryz.prog 139 #[.agg #[.bool s,.slice A n c,.slice A' n' c'],.agg #[.bool s',.slice B m d,.slice B' m' d']] w (jB W0 bs L ts M (gY q r) (k+k'+2)):=by
 refine Calls.mono (R:=(jB w [] L [] M (gY q r) (k+k'+2))) ?_ fun _ _ hh=>jB.of HE hh
 replace HE:=((HE.here.gQ (.bool s) (.slice A n c) (.slice A' n' c')).gQ (.bool s') (.slice B m d) (.slice B' m' d')).gQ (.bool false) (.slice none 0 0) (.slice none 0 0)
 simp only [World.size_alloc] at HE
 rcases al7 q r with hc | hc | hc
 ·have HS:=Lib.hid hc
  clear hc
  obtain ⟨q0,q1,q2,q3,q4,q5⟩:=HE.c3 (.head _)
  obtain ⟨q6,q7,q8,q9,q10,q11⟩:=HE.c3 (.tail _ (.head _))
  obtain ⟨q12,q13,jC,jD,q16,jE⟩:=HE.c3 (.tail _ (.tail _ (.head _)))
  go_enter Tryz.func139,Tryz.ntmps139
  go_wp2_with fail
  refine (Tq HE h h' (by omega)).mono ?_
  rw [HS.out.1]
  clear HE
  rintro e w1 ⟨rfl,HE⟩
  clear q0 q1 q2 q3 q4 q5 q6 q7 q8 q9 q10 q11 q12 q13 jC jD q16 jE
  obtain ⟨kL,kM,lH,lI,q22,q23⟩:=HE.c3 (.head _)
  obtain ⟨q24,mG,mX,mY,nV,nX⟩:=HE.c3 (.tail _ (.head _))
  obtain ⟨q30,nY,q32,og,pg,q35⟩:=HE.c3 (.tail _ (.tail _ (.head _)))
  go_wp2_with fail
  replace HE:=HE.zero 0
  refine (Qa HE (.tail _ h) (.head _) (by omega)).mono ?_
  rw [Rat.add_zero]
  clear HE
  rintro e w2 ⟨sx,Ax,nx,cx,Ay,ny,cy,rfl,HE⟩
  clear kL kM lH lI q22 q23 q24 mG mX mY nV nX q30 nY q32 og pg q35
  obtain ⟨z0,z1,z2,z3,z4,z5⟩:=HE.c3 (.head _)
  go_wp2_with fail
  refine bodyPost_ret (v := .agg #[.bool sx,.slice Ax nx cx,.slice Ay ny cy]) (by simp [results,Tryz.results139,go_sem,z0,z1,z2]) rfl ?_
  have HK:=(HE.tK (D:=Ax) (m:=nx) (d:=cx) (.head _) sx (.slice Ay ny cy)).bare
  rw [HS.out.2.1]
  exact ⟨_,_,_,_,_,_,_,rfl,(HK.pick (M':=⟨_,_,_,_⟩ :: M) (fun _ he=>he) (fun _ he=>by rcases List.mem_cons.1 he with rfl | he; exact .head _; exact .tail _ (.tail _ he))).hd (·.weak (by omega))⟩
 ·have HS:=Lib.hid hc
  clear hc
  obtain ⟨q0,q1,q2,q3,q4,q5⟩:=HE.c3 (.head _)
  obtain ⟨q6,q7,q8,q9,q10,q11⟩:=HE.c3 (.tail _ (.head _))
  obtain ⟨q12,q13,jC,jD,q16,jE⟩:=HE.c3 (.tail _ (.tail _ (.head _)))
  go_enter Tryz.func139,Tryz.ntmps139
  go_wp2_with fail
  refine (Tq HE h h' (by omega)).mono ?_
  rw [HS.out.1]
  clear HE
  rintro e w1 ⟨rfl,HE⟩
  clear q0 q1 q2 q3 q4 q5 q6 q7 q8 q9 q10 q11 q12 q13 jC jD q16 jE
  obtain ⟨kL,kM,lH,lI,q22,q23⟩:=HE.c3 (.head _)
  obtain ⟨q24,mG,mX,mY,nV,nX⟩:=HE.c3 (.tail _ (.head _))
  obtain ⟨q30,nY,q32,og,pg,q35⟩:=HE.c3 (.tail _ (.tail _ (.head _)))
  go_wp2_with fail
  replace HE:=HE.zero 0
  refine (Qa HE (.tail _ h) (.head _) (by omega)).mono ?_
  rw [Rat.add_zero]
  clear HE
  rintro e w2 ⟨sx,Ax,nx,cx,Ay,ny,cy,rfl,HE⟩
  clear kL kM lH lI q22 q23 q24 mG mX mY nV nX q30 nY q32 og pg q35
  obtain ⟨z0,z1,z2,z3,z4,z5⟩:=HE.c3 (.head _)
  go_wp2_with fail
  refine bodyPost_ret (v := .agg #[.bool sx,.slice Ax nx cx,.slice Ay ny cy]) (by simp [results,Tryz.results139,go_sem,z0,z1,z2]) rfl ?_
  have HK:=(HE.tK (D:=Ax) (m:=nx) (d:=cx) (.head _) sx (.slice Ay ny cy)).bare
  rw [HS.out.2.1]
  exact ⟨_,_,_,_,_,_,_,rfl,(HK.pick (M':=⟨_,_,_,_⟩ :: M) (fun _ he=>he) (fun _ he=>by rcases List.mem_cons.1 he with rfl | he; exact .head _; exact .tail _ (.tail _ he))).hd (·.weak (by omega))⟩
 ·have HS:=Lib.hid hc
  clear hc
  obtain ⟨q0,q1,q2,q3,q4,q5⟩:=HE.c3 (.head _)
  obtain ⟨q6,q7,q8,q9,q10,q11⟩:=HE.c3 (.tail _ (.head _))
  obtain ⟨q12,q13,jC,jD,q16,jE⟩:=HE.c3 (.tail _ (.tail _ (.head _)))
  go_enter Tryz.func139,Tryz.ntmps139
  go_wp2_with fail
  refine (Tq HE h h' (by omega)).mono ?_
  rw [HS.out.1]
  clear HE
  rintro e w1 ⟨rfl,HE⟩
  clear q0 q1 q2 q3 q4 q5 q6 q7 q8 q9 q10 q11 q12 q13 jC jD q16 jE
  obtain ⟨kL,kM,lH,lI,q22,q23⟩:=HE.c3 (.head _)
  obtain ⟨q24,mG,mX,mY,nV,nX⟩:=HE.c3 (.tail _ (.head _))
  obtain ⟨q30,nY,q32,og,pg,q35⟩:=HE.c3 (.tail _ (.tail _ (.head _)))
  go_wp2_with fail
  replace HE:=HE.zero 0
  refine (Qa HE (.tail _ h') (.head _) (by omega)).mono ?_
  rw [Rat.add_zero]
  clear HE
  rintro e w2 ⟨sx,Ax,nx,cx,Ay,ny,cy,rfl,HE⟩
  clear kL kM lH lI q22 q23 q24 mG mX mY nV nX q30 nY q32 og pg q35
  obtain ⟨z0,z1,z2,z3,z4,z5⟩:=HE.c3 (.head _)
  go_wp2_with fail
  refine bodyPost_ret (v := .agg #[.bool sx,.slice Ax nx cx,.slice Ay ny cy]) (by simp [results,Tryz.results139,go_sem,z0,z1,z2]) rfl ?_
  have HK:=(HE.tK (D:=Ax) (m:=nx) (d:=cx) (.head _) sx (.slice Ay ny cy)).bare
  rw [HS.out.2.1]
  exact ⟨_,_,_,_,_,_,_,rfl,(HK.pick (M':=⟨_,_,_,_⟩ :: M) (fun _ he=>he) (fun _ he=>by rcases List.mem_cons.1 he with rfl | he; exact .head _; exact .tail _ (.tail _ he))).hd (·.weak (by omega))⟩
set_option maxRecDepth 100000 in
set_option maxHeartbeats 3200000 in
theorem aEr (HE:bG W0 w bs L ts M) (h:⟨.agg #[.bool s,.slice A n c,.slice A' n' c'],q,k,b⟩∈M) (h':⟨.agg #[.bool s',.slice B m d,.slice B' m' d'],r,k',b'⟩∈M) (hk:k+k'≤900) :
  Calls Tryz.prog 138 #[.agg #[.bool s,.slice A n c,.slice A' n' c'],.agg #[.bool s',.slice B m d,.slice B' m' d']] w (jB W0 bs L ts M (gX q r) (k+k'+2)):=by
 refine Calls.mono (R:=(jB w [] L [] M (gX q r) (k+k'+2))) ?_ fun _ _ hh=>jB.of HE hh
 replace HE:=((HE.here.gQ (.bool s) (.slice A n c) (.slice A' n' c')).gQ (.bool s') (.slice B m d) (.slice B' m' d')).gQ (.bool false) (.slice none 0 0) (.slice none 0 0)
 simp only [World.size_alloc] at HE
 rcases al7 q r with hc | hc | hc
 ·have HS:=Lib.hid hc
  clear hc
  obtain ⟨q0,q1,q2,q3,q4,q5⟩:=HE.c3 (.head _)
  obtain ⟨q6,q7,q8,q9,q10,q11⟩:=HE.c3 (.tail _ (.head _))
  obtain ⟨q12,q13,jC,jD,q16,jE⟩:=HE.c3 (.tail _ (.tail _ (.head _)))
  go_enter Tryz.func138,Tryz.ntmps138
  go_wp2_with fail
  refine (Tq HE h h' (by omega)).mono ?_
  rw [HS.out.1]
  clear HE
  rintro e w1 ⟨rfl,HE⟩
  clear q0 q1 q2 q3 q4 q5 q6 q7 q8 q9 q10 q11 q12 q13 jC jD q16 jE
  obtain ⟨kL,kM,lH,lI,q22,q23⟩:=HE.c3 (.head _)
  obtain ⟨q24,mG,mX,mY,nV,nX⟩:=HE.c3 (.tail _ (.head _))
  obtain ⟨q30,nY,q32,og,pg,q35⟩:=HE.c3 (.tail _ (.tail _ (.head _)))
  go_wp2_with fail
  replace HE:=HE.zero 0
  refine (Qa HE (.tail _ h') (.head _) (by omega)).mono ?_
  rw [Rat.add_zero]
  clear HE
  rintro e w2 ⟨sx,Ax,nx,cx,Ay,ny,cy,rfl,HE⟩
  clear kL kM lH lI q22 q23 q24 mG mX mY nV nX q30 nY q32 og pg q35
  obtain ⟨z0,z1,z2,z3,z4,z5⟩:=HE.c3 (.head _)
  go_wp2_with fail
  refine bodyPost_ret (v := .agg #[.bool sx,.slice Ax nx cx,.slice Ay ny cy]) (by simp [results,Tryz.results138,go_sem,z0,z1,z2]) rfl ?_
  have HK:=(HE.tK (D:=Ax) (m:=nx) (d:=cx) (.head _) sx (.slice Ay ny cy)).bare
  rw [HS.out.2.2]
  exact ⟨_,_,_,_,_,_,_,rfl,(HK.pick (M':=⟨_,_,_,_⟩ :: M) (fun _ he=>he) (fun _ he=>by rcases List.mem_cons.1 he with rfl | he; exact .head _; exact .tail _ (.tail _ he))).hd (·.weak (by omega))⟩
 ·have HS:=Lib.hid hc
  clear hc
  obtain ⟨q0,q1,q2,q3,q4,q5⟩:=HE.c3 (.head _)
  obtain ⟨q6,q7,q8,q9,q10,q11⟩:=HE.c3 (.tail _ (.head _))
  obtain ⟨q12,q13,jC,jD,q16,jE⟩:=HE.c3 (.tail _ (.tail _ (.head _)))
  go_enter Tryz.func138,Tryz.ntmps138
  go_wp2_with fail
  refine (Tq HE h h' (by omega)).mono ?_
  rw [HS.out.1]
  clear HE
  rintro e w1 ⟨rfl,HE⟩
  clear q0 q1 q2 q3 q4 q5 q6 q7 q8 q9 q10 q11 q12 q13 jC jD q16 jE
  obtain ⟨kL,kM,lH,lI,q22,q23⟩:=HE.c3 (.head _)
  obtain ⟨q24,mG,mX,mY,nV,nX⟩:=HE.c3 (.tail _ (.head _))
  obtain ⟨q30,nY,q32,og,pg,q35⟩:=HE.c3 (.tail _ (.tail _ (.head _)))
  go_wp2_with fail
  replace HE:=HE.zero 0
  refine (Qa HE (.tail _ h) (.head _) (by omega)).mono ?_
  rw [Rat.add_zero]
  clear HE
  rintro e w2 ⟨sx,Ax,nx,cx,Ay,ny,cy,rfl,HE⟩
  clear kL kM lH lI q22 q23 q24 mG mX mY nV nX q30 nY q32 og pg q35
  obtain ⟨z0,z1,z2,z3,z4,z5⟩:=HE.c3 (.head _)
  go_wp2_with fail
  refine bodyPost_ret (v := .agg #[.bool sx,.slice Ax nx cx,.slice Ay ny cy]) (by simp [results,Tryz.results138,go_sem,z0,z1,z2]) rfl ?_
  have HK:=(HE.tK (D:=Ax) (m:=nx) (d:=cx) (.head _) sx (.slice Ay ny cy)).bare
  rw [HS.out.2.2]
  exact ⟨_,_,_,_,_,_,_,rfl,(HK.pick (M':=⟨_,_,_,_⟩ :: M) (fun _ he=>he) (fun _ he=>by rcases List.mem_cons.1 he with rfl | he; exact .head _; exact .tail _ (.tail _ he))).hd (·.weak (by omega))⟩
 ·have HS:=Lib.hid hc
  clear hc
  obtain ⟨q0,q1,q2,q3,q4,q5⟩:=HE.c3 (.head _)
  obtain ⟨q6,q7,q8,q9,q10,q11⟩:=HE.c3 (.tail _ (.head _))
  obtain ⟨q12,q13,jC,jD,q16,jE⟩:=HE.c3 (.tail _ (.tail _ (.head _)))
  go_enter Tryz.func138,Tryz.ntmps138
  go_wp2_with fail
  refine (Tq HE h h' (by omega)).mono ?_
  rw [HS.out.1]
  clear HE
  rintro e w1 ⟨rfl,HE⟩
  clear q0 q1 q2 q3 q4 q5 q6 q7 q8 q9 q10 q11 q12 q13 jC jD q16 jE
  obtain ⟨kL,kM,lH,lI,q22,q23⟩:=HE.c3 (.head _)
  obtain ⟨q24,mG,mX,mY,nV,nX⟩:=HE.c3 (.tail _ (.head _))
  obtain ⟨q30,nY,q32,og,pg,q35⟩:=HE.c3 (.tail _ (.tail _ (.head _)))
  go_wp2_with fail
  replace HE:=HE.zero 0
  refine (Qa HE (.tail _ h) (.head _) (by omega)).mono ?_
  rw [Rat.add_zero]
  clear HE
  rintro e w2 ⟨sx,Ax,nx,cx,Ay,ny,cy,rfl,HE⟩
  clear kL kM lH lI q22 q23 q24 mG mX mY nV nX q30 nY q32 og pg q35
  obtain ⟨z0,z1,z2,z3,z4,z5⟩:=HE.c3 (.head _)
  go_wp2_with fail
  refine bodyPost_ret (v := .agg #[.bool sx,.slice Ax nx cx,.slice Ay ny cy]) (by simp [results,Tryz.results138,go_sem,z0,z1,z2]) rfl ?_
  have HK:=(HE.tK (D:=Ax) (m:=nx) (d:=cx) (.head _) sx (.slice Ay ny cy)).bare
  rw [HS.out.2.2]
  exact ⟨_,_,_,_,_,_,_,rfl,(HK.pick (M':=⟨_,_,_,_⟩ :: M) (fun _ he=>he) (fun _ he=>by rcases List.mem_cons.1 he with rfl | he; exact .head _; exact .tail _ (.tail _ he))).hd (·.weak (by omega))⟩
end
end Go.Proofs.YtbihljnjaondcaaGreatDoor
namespace Go.Proofs.YtbihljnjaondcaaGreatDoor
open Go Go.RowKit Lw
section
variable {W0 w:World} {bs:List Bx} {L:List En} {ts:List Bt} {M:List Qn} {v v':Value} {q r:Rat} {k k':Nat} {b b':Bool}
theorem aEu (HE:bG W0 w bs L ts M) (h:⟨v,q,k,b⟩∈M) (h':⟨v',r,k',b'⟩∈M) (hk:k+k'≤800) :
  Calls Tryz.prog 139 #[v,v'] w (xH W0 bs L ts M (gY q r) (k+k'+2)):=by
 obtain ⟨s,A,n,c,A',n',c',e1⟩:=(HE.fr _ h).shape
 obtain ⟨t,B,m,d,B',m',d',e2⟩:=(HE.fr _ h').shape
 dsimp only at e1 e2
 subst e1 e2
 exact (aEt HE h h' (by omega)).mono fun _ _ hh=>xH.of hh
theorem aEs (HE:bG W0 w bs L ts M) (h:⟨v,q,k,b⟩∈M) (h':⟨v',r,k',b'⟩∈M) (hk:k+k'≤800) :
  Calls Tryz.prog 138 #[v,v'] w (xH W0 bs L ts M (gX q r) (k+k'+2)):=by
 obtain ⟨s,A,n,c,A',n',c',e1⟩:=(HE.fr _ h).shape
 obtain ⟨t,B,m,d,B',m',d',e2⟩:=(HE.fr _ h').shape
 dsimp only at e1 e2
 subst e1 e2
 exact (aEr HE h h' (by omega)).mono fun _ _ hh=>xH.of hh
end
end Go.Proofs.YtbihljnjaondcaaGreatDoor
namespace Go.Proofs.YtbihljnjaondcaaGreatDoor
open Go Go.RowKit Lw bZ
section
variable {W0 w w':World} {U:List Box} {Ps:List (World→Prop)} {v v':Value} {q r:Rat} {x y:Int} {k k':Nat} {b b':Bool} {f:FuncId} {vs:List Value} {L:List En} {M:List Qn}
theorem vg (HT:Tz W0) (HB:Tab W0) (HS:St W0 U Ps w) {s1:Bool} {A1:Option Addr} {n1 c1:Nat} {B1:Option Addr} {m1 d1:Nat} {q1:Rat} {k1:Nat} {b1:Bool} {s2:Bool} {A2:Option Addr} {n2 c2:Nat} {B2:Option Addr} {m2 d2:Nat} {q2:Rat} {k2:Nat} {b2:Bool} (f1:FV (a0p s1 A1 n1 c1 B1 m1 d1) q1 k1 b1 w) (f2:FV (a0p s2 A2 n2 c2 B2 m2 d2) q2 k2 b2 w) (hk:k1+k2≤800):bY Tryz.prog 139 [(a0p s1 A1 n1 c1 B1 m1 d1),(a0p s2 A2 n2 c2 B2 m2 d2)] w (xY W0 U Ps (gY q1 q2) (k1+k2+2)) :=
 GM HS (aEu (((St.start HS HT HB).cons f2).cons f1) (.head _) (.tail _ (.head _)) hk)
theorem yK (HT:Tz W0) (HB:Tab W0) (HS:St W0 U Ps w) {s1:Bool} {A1:Option Addr} {n1 c1:Nat} {B1:Option Addr} {m1 d1:Nat} {q1:Rat} {k1:Nat} {b1:Bool} {s2:Bool} {A2:Option Addr} {n2 c2:Nat} {B2:Option Addr} {m2 d2:Nat} {q2:Rat} {k2:Nat} {b2:Bool} (f1:FV (a0p s1 A1 n1 c1 B1 m1 d1) q1 k1 b1 w) (f2:FV (a0p s2 A2 n2 c2 B2 m2 d2) q2 k2 b2 w) (hk:k1+k2≤800):bY Tryz.prog 138 [(a0p s1 A1 n1 c1 B1 m1 d1),(a0p s2 A2 n2 c2 B2 m2 d2)] w (xY W0 U Ps (gX q1 q2) (k1+k2+2)) :=
 GM HS (aEs (((St.start HS HT HB).cons f2).cons f1) (.head _) (.tail _ (.head _)) hk)
end
end Go.Proofs.YtbihljnjaondcaaGreatDoor
namespace Lw
theorem aA8 (q:Rat):gY q q=q:=by rw [SH]; split <;> rfl
theorem aA2 (q:Rat):gX q q=q:=by rw [PW]; split <;> rfl
theorem adx {q r:Rat} (h:q≤r):gY q r=q:=by rw [SH,if_neg (by grind)]
theorem YL {q r:Rat} (h:q≤r):gX q r=r:=by rw [PW]; split <;> grind
end Lw
namespace Lw
open Go Go.RowKit bZ
theorem ajC (q:Rat):gY (q+0) q=q:=by rw [Rat.add_zero,aA8]
theorem ajB (q:Rat):gX (q+0) q=q:=by rw [Rat.add_zero,aA2]
theorem aFC (q r:Rat):gY (gY (q+0) q) r=gY q r:=by rw [ajC]
theorem aFB (q r:Rat):gX (gX (q+0) q) r=gX q r:=by rw [ajB]
end Lw
namespace Go.Proofs.YtbihljnjaondcaaGreatDoor
open Go Go.RowKit Lw bZ
section
variable {W0 w:World} {U:List Box} {Ps:List (World→Prop)}
variable {s1:Bool} {A1:Option Addr} {n1 c1:Nat} {B1:Option Addr} {m1 d1:Nat} {ax:Bool} {ay:Option Addr} {aj c1a:Nat} {az:Option Addr} {ak aA:Nat} {aB:Bool} {aC:Option Addr} {n1b aG:Nat} {aF:Option Addr} {au aH:Nat} {s2:Bool} {A2:Option Addr} {n2 c2:Nat} {B2:Option Addr} {m2 d2:Nat}
set_option maxHeartbeats 1600000 in
theorem aei (HT:Tz W0) (HB:Tab W0) {g:Nat} {q1:Rat} {k1:Nat} {b1:Bool} {q2:Rat} {k2:Nat} {b2:Bool} (HS:St W0 (⟨g,24,(a0s s1 A1 n1 c1 B1 m1 d1 s2 A2 n2 c2 B2 m2 d2)⟩ :: U) Ps w) (f1:FV (a0p s1 A1 n1 c1 B1 m1 d1) q1 k1 b1 w) (f2:FV (a0p s2 A2 n2 c2 B2 m2 d2) q2 k2 b2 w) (hk:k1+(k1+k2)≤780):bY Tryz.prog 123 [.slice (some ⟨g,0,none⟩) 2 2] w (xG W0 (⟨g,24,(a0s s1 A1 n1 c1 B1 m1 d1 s2 A2 n2 c2 B2 m2 d2)⟩ :: U) Ps (gY q1 q2) (gX q1 q2) (k1+(k1+k2)+12)):=by
 have HS:=HS.add (FV.stable _ _ _ _) f1
 have HS:=HS.add (FV.stable _ _ _ _) f2
 clear f1 f2
 refine iL Tryz.func123 rfl Tryz.ntmps123 rfl ?_
 refine JC.seq ?_
 refine JC.region ?_
 refine JL.alloc (vs:=cO) HS rfl aYt rfl rfl (fun g1 w1 HS => ?_)
 refine jn ?_
 refine JC.cut (ι:=Yo) (fun ⟨jq,iT,jl,ja,iW,jh,jd,iO,iH,n2009,iJ,iI,iM,iK,gZ⟩=>[(0,.slice (some ⟨g,0,none⟩) 2 2),(2,.pointer (some ⟨g1,0,none⟩)),(3,.pointer (some ⟨gZ,0,none⟩))]) (fun ⟨jq,iT,jl,ja,iW,jh,jd,iO,iH,n2009,iJ,iI,iM,iK,gZ⟩ w=>St W0 (⟨gZ,48,(a0s jq iT jl ja iW jh jd iO iH n2009 iJ iI iM iK)⟩ :: ⟨g1,48,cO⟩ :: ⟨g,24,(a0s s1 A1 n1 c1 B1 m1 d1 s2 A2 n2 c2 B2 m2 d2)⟩ :: U) (FV (a0p iO iH n2009 iJ iI iM iK) (q1+0) (k1+0+2) true :: FV (a0p jq iT jl ja iW jh jd) (q1+0) (k1+0+2) true :: FV (a0p s2 A2 n2 c2 B2 m2 d2) q2 k2 b2 :: FV (a0p s1 A1 n1 c1 B1 m1 d1) q1 k1 b1 :: Ps) w) ?_ ?_
 ·skip
  refine JC.draw HS [] (by kernel_rfl) (fun w3 HS => ?_)
  refine Dv (.slice (some ⟨g,0,none⟩) 2 2) 0 rfl HS.b0 (fun a ha w=>run_move (ha.ev rfl)) ?_
  refine Dv (.pointer (some ⟨g,0,none⟩)) 1 rfl HS.b0 (fun a ha w=>zC (ha.ev rfl) (ha.ev rfl) aYC aYn (j:=0) rfl (by decide) rfl) ?_
  refine Da (a0p s1 A1 n1 c1 B1 m1 d1) 2 1 rfl HS.b0 rfl rfl aYp aYn ?_
  refine Dv yw 3 rfl HS.b0 (fun a ha w=>bZ.run_build (vs:=[]) (by simp only [List.map_cons,List.map_nil]) aYx aYs Dh rfl) ?_
  refine Dv (.slice (some ⟨g,0,none⟩) 2 2) 5 rfl HS.b0 (fun a ha w=>run_move (ha.ev rfl)) ?_
  refine Dv (.pointer (some ⟨g,0,none⟩)) 6 rfl HS.b0 (fun a ha w=>zC (ha.ev rfl) (ha.ev rfl) aYC aYn (j:=0) rfl (by decide) rfl) ?_
  refine Da (a0p s1 A1 n1 c1 B1 m1 d1) 7 1 rfl HS.b0 rfl rfl aYp aYn ?_
  refine Dv yw 8 rfl HS.b0 (fun a ha w=>bZ.run_build (vs:=[]) (by simp only [List.map_cons,List.map_nil]) aYx aYs Dh rfl) ?_
  refine JR.any [4,11] (by kernel_rfl) rfl ?_
  refine ai.call rfl rfl rfl aYR (Bf HT HB HS (HS.at_ 1 rfl) (FV.zero 0 _) (by omega)) rfl (fun ZJ ZX Iu => ?_) ?_
  ·skip
   obtain ⟨jq,iT,jl,ja,iW,jh,jd,rfl,HS⟩:=Iu
   refine ⟨HS.b0,?_⟩
   refine JR.any [9,11] (by kernel_rfl) rfl ?_
   refine ai.call rfl rfl rfl aYR (Bf HT HB HS (HS.at_ 2 rfl) (FV.zero 0 _) (by omega)) rfl (fun Qs QB CB => ?_) ?_
   ·skip
    obtain ⟨iO,iH,n2009,iJ,iI,iM,iK,rfl,HS⟩:=CB
    refine ⟨HS.b0,?_⟩
    refine Dv (a0r jq iT jl ja iW jh jd iO iH n2009 iJ iI iM iK) 10 rfl HS.b0 (fun a ha w=>bZ.run_build (vs:=[(0,(a0p jq iT jl ja iW jh jd)),(1,(a0p iO iH n2009 iJ iI iM iK))]) (by simp only [List.map_cons,List.map_nil,ha.ev (x := .tmp 10) (v:=(a0p jq iT jl ja iW jh jd)) rfl,ha.ev (x := .tmp 15) (v:=(a0p iO iH n2009 iJ iI iM iK)) rfl]) aYr aYt pV rfl) ?_
    refine jy (vs:=cO) 11 HS rfl aYt rfl (fun gZ _ HS=>⟨HS.b1,?_⟩)
    refine bF 12 (a0s jq iT jl ja iW jh jd iO iH n2009 iJ iI iM iK) HS 0 rfl rfl rfl rfl aYo (fun _ HS=>⟨HS.b1,?_⟩)
    exact JR.mt (jq,iT,jl,ja,iW,jh,jd,iO,iH,n2009,iJ,iI,iM,iK,gZ) HS
   refine ai.alloc (vs:=cO) HS rfl rfl aYt rfl rfl rfl (fun gZ ZY HS => ?_) ai.nil
   refine ⟨HS.b1,?_⟩
   refine bJ 9 rfl rfl rfl aYR (Bf HT HB HS (HS.at_ 2 rfl) (FV.zero 0 _) (by omega)) (fun Qs QB CB => ?_)
   obtain ⟨iO,iH,n2009,iJ,iI,iM,iK,rfl,HS⟩:=CB
   refine ⟨HS.b1,?_⟩
   refine Dv (a0r jq iT jl ja iW jh jd iO iH n2009 iJ iI iM iK) 10 rfl HS.b1 (fun a ha w=>bZ.run_build (vs:=[(0,(a0p jq iT jl ja iW jh jd)),(1,(a0p iO iH n2009 iJ iI iM iK))]) (by simp only [List.map_cons,List.map_nil,ha.ev (x := .tmp 10) (v:=(a0p jq iT jl ja iW jh jd)) rfl,ha.ev (x := .tmp 15) (v:=(a0p iO iH n2009 iJ iI iM iK)) rfl]) aYr aYt pV rfl) ?_
   refine bF 12 (a0s jq iT jl ja iW jh jd iO iH n2009 iJ iI iM iK) HS 0 rfl rfl rfl rfl aYo (fun _ HS=>⟨HS.b1,?_⟩)
   exact JR.mt (jq,iT,jl,ja,iW,jh,jd,iO,iH,n2009,iJ,iI,iM,iK,gZ) HS
  refine ai.alloc (vs:=cO) HS rfl rfl aYt rfl rfl rfl (fun gZ ZY HS => ?_) ai.nil
  refine ⟨HS.b1,?_⟩
  refine bJ 4 rfl rfl rfl aYR (Bf HT HB HS (HS.at_ 1 rfl) (FV.zero 0 _) (by omega)) (fun ZJ ZX Iu => ?_)
  obtain ⟨jq,iT,jl,ja,iW,jh,jd,rfl,HS⟩:=Iu
  refine ⟨HS.b1,?_⟩
  refine bJ 9 rfl rfl rfl aYR (Bf HT HB HS (HS.at_ 2 rfl) (FV.zero 0 _) (by omega)) (fun Qs QB CB => ?_)
  obtain ⟨iO,iH,n2009,iJ,iI,iM,iK,rfl,HS⟩:=CB
  refine ⟨HS.b1,?_⟩
  refine Dv (a0r jq iT jl ja iW jh jd iO iH n2009 iJ iI iM iK) 10 rfl HS.b1 (fun a ha w=>bZ.run_build (vs:=[(0,(a0p jq iT jl ja iW jh jd)),(1,(a0p iO iH n2009 iJ iI iM iK))]) (by simp only [List.map_cons,List.map_nil,ha.ev (x := .tmp 10) (v:=(a0p jq iT jl ja iW jh jd)) rfl,ha.ev (x := .tmp 15) (v:=(a0p iO iH n2009 iJ iI iM iK)) rfl]) aYr aYt pV rfl) ?_
  refine bF 12 (a0s jq iT jl ja iW jh jd iO iH n2009 iJ iI iM iK) HS 0 rfl rfl rfl rfl aYo (fun _ HS=>⟨HS.b1,?_⟩)
  exact JR.mt (jq,iT,jl,ja,iW,jh,jd,iO,iH,n2009,iJ,iI,iM,iK,gZ) HS
 ·skip
  rintro ⟨jq,iT,jl,ja,iW,jh,jd,iO,iH,n2009,iJ,iI,iM,iK,gZ⟩ ati HS
  try dsimp only at HS ⊢
  refine JC.seq ?_
  refine JC.seq ?_
  refine JC.region ?_
  refine Lv (.slice (some ⟨g,0,none⟩) 2 2) (fun a ha=>run_move (ha.ev rfl)) ?_
  refine Lv (.int .i64 2) (fun a ha=>yV (ha.ev rfl) aYC) ?_
  refine Lv (.int .i64 0) (fun a ha=>run_move (ha.ev rfl)) ?_
  refine jn ?_
  refine JC.block ?_
  refine JC.Qr 40 ?_
  refine JC.seq ?_
  refine JC.region ?_
  refine Lv (.bool true) (fun a ha=>qX (ha.ev rfl) (ha.ev rfl) (by decide)) ?_
  refine jn ?_
  refine JC.seq ?_
  refine JC.iy rfl ?_
  refine JC.jF (fun _ _ h=>h) ?_
  refine JC.seq ?_
  refine JC.block ?_
  refine JC.seq ?_
  refine JC.region ?_
  refine Lv (.pointer (some ⟨g,0,none⟩)) (fun a ha=>zC (ha.ev rfl) (ha.ev rfl) aYC aYn (j:=0) rfl (by decide) rfl) ?_
  refine JL.load (a0p s1 A1 n1 c1 B1 m1 d1) HS 2 rfl rfl rfl aYp aYn rfl rfl ?_
  refine JL.alloc (vs:=bU) HS rfl aYs rfl rfl (fun g4 w4 HS => ?_)
  refine JL.store HS rfl rfl (i:=0) rfl aYn rfl rfl rfl (vs':=(a0q s1 A1 n1 c1 B1 m1 d1)) rfl rfl (fun w5 HS => ?_)
  refine jn ?_
  refine JC.IL (ι:=PS) (fun ⟨jw,iV,jo,jc,iZ,jk,jf,rq,qh,qV,qC,qo,qO,qJ⟩=>[(0,.slice (some ⟨g,0,none⟩) 2 2),(2,.pointer (some ⟨g1,0,none⟩)),(3,.pointer (some ⟨gZ,0,none⟩)),(5,.pointer (some ⟨g4,0,none⟩)),(17,.slice (some ⟨g,0,none⟩) 2 2),(18,.int .i64 2),(19,.int .i64 0),(20,.bool true),(21,.pointer (some ⟨g,0,none⟩)),(22,(a0p s1 A1 n1 c1 B1 m1 d1))]) (fun ⟨jw,iV,jo,jc,iZ,jk,jf,rq,qh,qV,qC,qo,qO,qJ⟩ w=>St W0 (⟨g4,24,(a0q s1 A1 n1 c1 B1 m1 d1)⟩ :: ⟨gZ,48,(a0s jw iV jo jc iZ jk jf rq qh qV qC qo qO qJ)⟩ :: ⟨g1,48,cO⟩ :: ⟨g,24,(a0s s1 A1 n1 c1 B1 m1 d1 s2 A2 n2 c2 B2 m2 d2)⟩ :: U) (FV (a0p rq qh qV qC qo qO qJ) (gX (q1+0) q1) ((k1+0+2)+k1+2) true :: FV (a0p jw iV jo jc iZ jk jf) (gY (q1+0) q1) ((k1+0+2)+k1+2) true :: FV (a0p iO iH n2009 iJ iI iM iK) (q1+0) (k1+0+2) true :: FV (a0p jq iT jl ja iW jh jd) (q1+0) (k1+0+2) true :: FV (a0p s2 A2 n2 c2 B2 m2 d2) q2 k2 b2 :: FV (a0p s1 A1 n1 c1 B1 m1 d1) q1 k1 b1 :: Ps) w) ?_ ?_
  ·skip
   refine JC.draw HS [9,11] (by kernel_rfl) (fun w8 HS => ?_)
   refine Dv (.pointer (some ⟨gZ,0,none⟩)) 0 rfl HS.b0 (fun a ha w=>bH (ha.ev rfl) aYr rfl aYn rfl rfl) ?_
   refine Da (a0p jq iT jl ja iW jh jd) 1 1 rfl HS.b0 rfl rfl aYp aYn ?_
   refine Da (a0p s1 A1 n1 c1 B1 m1 d1) 2 0 rfl HS.b0 rfl rfl aYp aYn ?_
   refine Dv (.pointer (some ⟨gZ,3,none⟩)) 4 rfl HS.b0 (fun a ha w=>bH (ha.ev rfl) aYr rfl aYn rfl rfl) ?_
   refine Da (a0p iO iH n2009 iJ iI iM iK) 5 1 rfl HS.b0 rfl rfl aYp aYn ?_
   refine JR.any [3,6] (by kernel_rfl) rfl ?_
   refine ai.call rfl rfl rfl aYB (vg HT HB HS (HS.at_ 1 rfl) (HS.at_ 3 rfl) (by omega)) rfl (fun Qu QC CG => ?_) ?_
   ·skip
    obtain ⟨jw,iV,jo,jc,iZ,jk,jf,rfl,HS⟩:=CG
    refine ⟨HS.b0,?_⟩
    refine Dv (.pointer (some ⟨gZ,0,none⟩)) 8 rfl HS.b0 (fun a ha w=>bH (ha.ev rfl) aYr rfl aYn rfl rfl) ?_
    refine J1 6 (by kernel_rfl) ?_
    refine ai.load (a0p s1 A1 n1 c1 B1 m1 d1) HS 0 rfl rfl rfl rfl aYp aYn rfl rfl rfl ?_ ai.nil
    refine ⟨HS.b0,?_⟩
    refine bJ 7 rfl rfl rfl aYI (yK HT HB HS (HS.at_ 1 rfl) (HS.at_ 4 rfl) (by omega)) (fun VD QD FO => ?_)
    obtain ⟨rq,qh,qV,qC,qo,qO,qJ,rfl,HS⟩:=FO
    refine ⟨HS.b0,?_⟩
    refine bF 9 (a0s jw iV jo jc iZ jk jf iO iH n2009 iJ iI iM iK) HS 1 rfl rfl rfl rfl aYn (fun _ HS=>⟨(eX (s:=9) rfl rfl),?_⟩)
    refine Dv (.pointer (some ⟨gZ,3,none⟩)) 10 rfl (eX (s:=9) rfl rfl) (fun a ha w=>bH (ha.ev rfl) aYr rfl aYn rfl rfl) ?_
    refine bF 11 (a0s jw iV jo jc iZ jk jf rq qh qV qC qo qO qJ) HS 1 rfl rfl rfl rfl aYn (fun _ HS=>⟨(eX (s:=9) rfl rfl),?_⟩)
    exact JR.mt (jw,iV,jo,jc,iZ,jk,jf,rq,qh,qV,qC,qo,qO,qJ) HS
   refine ai.load (a0p s1 A1 n1 c1 B1 m1 d1) HS 0 rfl rfl rfl rfl aYp aYn rfl rfl rfl ?_ ai.nil
   refine ⟨HS.b0,?_⟩
   refine bJ 3 rfl rfl rfl aYB (vg HT HB HS (HS.at_ 1 rfl) (HS.at_ 3 rfl) (by omega)) (fun Qu QC CG => ?_)
   obtain ⟨jw,iV,jo,jc,iZ,jk,jf,rfl,HS⟩:=CG
   refine ⟨HS.b0,?_⟩
   refine Dv (.pointer (some ⟨gZ,0,none⟩)) 8 rfl HS.b0 (fun a ha w=>bH (ha.ev rfl) aYr rfl aYn rfl rfl) ?_
   refine bJ 7 rfl rfl rfl aYI (yK HT HB HS (HS.at_ 1 rfl) (HS.at_ 4 rfl) (by omega)) (fun VD QD FO => ?_)
   obtain ⟨rq,qh,qV,qC,qo,qO,qJ,rfl,HS⟩:=FO
   refine ⟨HS.b0,?_⟩
   refine bF 9 (a0s jw iV jo jc iZ jk jf iO iH n2009 iJ iI iM iK) HS 1 rfl rfl rfl rfl aYn (fun _ HS=>⟨(eX (s:=9) rfl rfl),?_⟩)
   refine Dv (.pointer (some ⟨gZ,3,none⟩)) 10 rfl (eX (s:=9) rfl rfl) (fun a ha w=>bH (ha.ev rfl) aYr rfl aYn rfl rfl) ?_
   refine bF 11 (a0s jw iV jo jc iZ jk jf rq qh qV qC qo qO qJ) HS 1 rfl rfl rfl rfl aYn (fun _ HS=>⟨(eX (s:=9) rfl rfl),?_⟩)
   exact JR.mt (jw,iV,jo,jc,iZ,jk,jf,rq,qh,qV,qC,qo,qO,qJ) HS
  ·skip
   rintro ⟨jw,iV,jo,jc,iZ,jk,jf,rq,qh,qV,qC,qo,qO,qJ⟩ akp HS
   try dsimp only at HS ⊢
   refine JL.EH (fun _ _ h=>h) ?_
   refine JC.region ?_
   refine Lv (.int .i64 1) (fun a ha=>BX (ha.ev rfl) (ha.ev rfl) (by decide)) ?_
   refine Lv (.int .i64 1) (fun a ha=>run_move (ha.ev rfl)) ?_
   refine JL.again 39 (fun _ _ h=>h) ?_
   refine JC.seq ?_
   refine JC.region ?_
   refine Lv (.bool true) (fun a ha=>qX (ha.ev rfl) (ha.ev rfl) (by decide)) ?_
   refine jn ?_
   refine JC.seq ?_
   refine JC.iy rfl ?_
   refine JC.jF (fun _ _ h=>h) ?_
   refine JC.seq ?_
   refine JC.block ?_
   refine JC.seq ?_
   refine JC.region ?_
   refine Lv (.pointer (some ⟨g,3,none⟩)) (fun a ha=>zC (ha.ev rfl) (ha.ev rfl) aYC aYn (j:=1) rfl (by decide) rfl) ?_
   refine JL.load (a0p s2 A2 n2 c2 B2 m2 d2) HS 3 rfl rfl rfl aYp aYn rfl rfl ?_
   refine JL.alloc (vs:=bU) HS rfl aYs rfl rfl (fun g9 w9 HS => ?_)
   refine JL.store HS rfl rfl (i:=0) rfl aYn rfl rfl rfl (vs':=(a0q s2 A2 n2 c2 B2 m2 d2)) rfl rfl (fun w10 HS => ?_)
   refine jn ?_
   refine JC.IL (ι:=PS) (fun ⟨wI,vZ,wF,wz,wu,wE,wB,xg,wK,wW,wQ,wL,wV,wR⟩=>[(0,.slice (some ⟨g,0,none⟩) 2 2),(2,.pointer (some ⟨g1,0,none⟩)),(3,.pointer (some ⟨gZ,0,none⟩)),(5,.pointer (some ⟨g9,0,none⟩)),(17,.slice (some ⟨g,0,none⟩) 2 2),(18,.int .i64 2),(19,.int .i64 1),(20,.bool true),(21,.pointer (some ⟨g,3,none⟩)),(22,(a0p s2 A2 n2 c2 B2 m2 d2)),(33,.int .i64 1)]) (fun ⟨wI,vZ,wF,wz,wu,wE,wB,xg,wK,wW,wQ,wL,wV,wR⟩ w=>St W0 (⟨g9,24,(a0q s2 A2 n2 c2 B2 m2 d2)⟩ :: ⟨g4,24,(a0q s1 A1 n1 c1 B1 m1 d1)⟩ :: ⟨gZ,48,(a0s wI vZ wF wz wu wE wB xg wK wW wQ wL wV wR)⟩ :: ⟨g1,48,cO⟩ :: ⟨g,24,(a0s s1 A1 n1 c1 B1 m1 d1 s2 A2 n2 c2 B2 m2 d2)⟩ :: U) (FV (a0p xg wK wW wQ wL wV wR) (gX (gX (q1+0) q1) q2) (((k1+0+2)+k1+2)+k2+2) true :: FV (a0p wI vZ wF wz wu wE wB) (gY (gY (q1+0) q1) q2) (((k1+0+2)+k1+2)+k2+2) true :: FV (a0p rq qh qV qC qo qO qJ) (gX (q1+0) q1) ((k1+0+2)+k1+2) true :: FV (a0p jw iV jo jc iZ jk jf) (gY (q1+0) q1) ((k1+0+2)+k1+2) true :: FV (a0p iO iH n2009 iJ iI iM iK) (q1+0) (k1+0+2) true :: FV (a0p jq iT jl ja iW jh jd) (q1+0) (k1+0+2) true :: FV (a0p s2 A2 n2 c2 B2 m2 d2) q2 k2 b2 :: FV (a0p s1 A1 n1 c1 B1 m1 d1) q1 k1 b1 :: Ps) w) ?_ ?_
   ·skip
    refine JC.draw HS [9,11] (by kernel_rfl) (fun Gl HS => ?_)
    refine Dv (.pointer (some ⟨gZ,0,none⟩)) 0 rfl HS.b0 (fun a ha w=>bH (ha.ev rfl) aYr rfl aYn rfl rfl) ?_
    refine Da (a0p jw iV jo jc iZ jk jf) 1 2 rfl HS.b0 rfl rfl aYp aYn ?_
    refine Da (a0p s2 A2 n2 c2 B2 m2 d2) 2 0 rfl HS.b0 rfl rfl aYp aYn ?_
    refine Dv (.pointer (some ⟨gZ,3,none⟩)) 4 rfl HS.b0 (fun a ha w=>bH (ha.ev rfl) aYr rfl aYn rfl rfl) ?_
    refine Da (a0p rq qh qV qC qo qO qJ) 5 2 rfl HS.b0 rfl rfl aYp aYn ?_
    refine JR.any [3,6] (by kernel_rfl) rfl ?_
    refine ai.call rfl rfl rfl aYB (vg HT HB HS (HS.at_ 1 rfl) (HS.at_ 4 rfl) (by omega)) rfl (fun ajK ae4 QT => ?_) ?_
    ·skip
     obtain ⟨wI,vZ,wF,wz,wu,wE,wB,rfl,HS⟩:=QT
     refine ⟨HS.b0,?_⟩
     refine Dv (.pointer (some ⟨gZ,0,none⟩)) 8 rfl HS.b0 (fun a ha w=>bH (ha.ev rfl) aYr rfl aYn rfl rfl) ?_
     refine J1 6 (by kernel_rfl) ?_
     refine ai.load (a0p s2 A2 n2 c2 B2 m2 d2) HS 0 rfl rfl rfl rfl aYp aYn rfl rfl rfl ?_ ai.nil
     refine ⟨HS.b0,?_⟩
     refine bJ 7 rfl rfl rfl aYI (yK HT HB HS (HS.at_ 1 rfl) (HS.at_ 5 rfl) (by omega)) (fun ajL aj0 QW => ?_)
     obtain ⟨xg,wK,wW,wQ,wL,wV,wR,rfl,HS⟩:=QW
     refine ⟨HS.b0,?_⟩
     refine bF 9 (a0s wI vZ wF wz wu wE wB rq qh qV qC qo qO qJ) HS 2 rfl rfl rfl rfl aYn (fun _ HS=>⟨(eX (s:=9) rfl rfl),?_⟩)
     refine Dv (.pointer (some ⟨gZ,3,none⟩)) 10 rfl (eX (s:=9) rfl rfl) (fun a ha w=>bH (ha.ev rfl) aYr rfl aYn rfl rfl) ?_
     refine bF 11 (a0s wI vZ wF wz wu wE wB xg wK wW wQ wL wV wR) HS 2 rfl rfl rfl rfl aYn (fun _ HS=>⟨(eX (s:=9) rfl rfl),?_⟩)
     exact JR.mt (wI,vZ,wF,wz,wu,wE,wB,xg,wK,wW,wQ,wL,wV,wR) HS
    refine ai.load (a0p s2 A2 n2 c2 B2 m2 d2) HS 0 rfl rfl rfl rfl aYp aYn rfl rfl rfl ?_ ai.nil
    refine ⟨HS.b0,?_⟩
    refine bJ 3 rfl rfl rfl aYB (vg HT HB HS (HS.at_ 1 rfl) (HS.at_ 4 rfl) (by omega)) (fun ajK ae4 QT => ?_)
    obtain ⟨wI,vZ,wF,wz,wu,wE,wB,rfl,HS⟩:=QT
    refine ⟨HS.b0,?_⟩
    refine Dv (.pointer (some ⟨gZ,0,none⟩)) 8 rfl HS.b0 (fun a ha w=>bH (ha.ev rfl) aYr rfl aYn rfl rfl) ?_
    refine bJ 7 rfl rfl rfl aYI (yK HT HB HS (HS.at_ 1 rfl) (HS.at_ 5 rfl) (by omega)) (fun ajL aj0 QW => ?_)
    obtain ⟨xg,wK,wW,wQ,wL,wV,wR,rfl,HS⟩:=QW
    refine ⟨HS.b0,?_⟩
    refine bF 9 (a0s wI vZ wF wz wu wE wB rq qh qV qC qo qO qJ) HS 2 rfl rfl rfl rfl aYn (fun _ HS=>⟨(eX (s:=9) rfl rfl),?_⟩)
    refine Dv (.pointer (some ⟨gZ,3,none⟩)) 10 rfl (eX (s:=9) rfl rfl) (fun a ha w=>bH (ha.ev rfl) aYr rfl aYn rfl rfl) ?_
    refine bF 11 (a0s wI vZ wF wz wu wE wB xg wK wW wQ wL wV wR) HS 2 rfl rfl rfl rfl aYn (fun _ HS=>⟨(eX (s:=9) rfl rfl),?_⟩)
    exact JR.mt (wI,vZ,wF,wz,wu,wE,wB,xg,wK,wW,wQ,wL,wV,wR) HS
   ·skip
    rintro ⟨wI,vZ,wF,wz,wu,wE,wB,xg,wK,wW,wQ,wL,wV,wR⟩ aHw HS
    try dsimp only at HS ⊢
    refine JL.EH (fun _ _ h=>h) ?_
    refine JC.region ?_
    refine Lv (.int .i64 2) (fun a ha=>BX (ha.ev rfl) (ha.ev rfl) (by decide)) ?_
    refine Lv (.int .i64 2) (fun a ha=>run_move (ha.ev rfl)) ?_
    refine JL.again 38 (fun _ _ h=>h) ?_
    refine JC.seq ?_
    refine JC.region ?_
    refine Lv (.bool false) (fun a ha=>qX (ha.ev rfl) (ha.ev rfl) (by decide)) ?_
    refine jn ?_
    refine JC.seq ?_
    refine JC.jA rfl ?_
    refine JC.exit (fun _ _ h=>h) (fun _ _ h=>h) ?_
    refine JC.seq ?_
    refine JC.region ?_
    refine JL.load (a0r wI vZ wF wz wu wE wB xg wK wW wQ wL wV wR) HS 2 rfl rfl rfl aYq aYo rfl rfl ?_
    refine JL.store HS rfl rfl (i:=3) rfl aYo rfl rfl rfl (vs':=(a0s wI vZ wF wz wu wE wB xg wK wW wQ wL wV wR)) rfl rfl (fun JX HS => ?_)
    refine jn ?_
    refine JC.ret (fun a ha => ?_)
    repeat (first | refine dh ?_ | refine df ?_)
    refine fG (v:=(a0r wI vZ wF wz wu wE wB xg wK wW wQ wL wV wR)) ha Tryz.results123 (.agg rfl aYq aYo (HS.box _ (.tail _ (.tail _ (.tail _ (.head _))))) rfl rfl) ⟨_,rfl,?_⟩
    exact ⟨_,_,_,_,_,_,_,_,_,_,_,_,_,_,rfl,HS.tY 4 8 1 0 rfl rfl rfl (fun _ h=>h.as (aFC _ _) (by omega)) rfl (fun _ h=>h.as (aFB _ _) (by omega))⟩
set_option maxHeartbeats 400000 in
theorem aen (HT:Tz W0) (HB:Tab W0) {af:Rat} {bC:Nat} {bu:Bool} {ah:Rat} {bD:Nat} {bn:Bool} {q2:Rat} {k2:Nat} {b2:Bool} (HS:St W0 U Ps w) (f1a:FV (a0p ax ay aj c1a az ak aA) af bC bu w) (bI:FV (a0p aB aC n1b aG aF au aH) ah bD bn w) (f2:FV (a0p s2 A2 n2 c2 B2 m2 d2) q2 k2 b2 w) (hk:bC+bD+k2≤600):bY Tryz.prog 43 [(a0r ax ay aj c1a az ak aA aB aC n1b aG aF au aH),(a0p s2 A2 n2 c2 B2 m2 d2)] w (iP W0 U Ps (.bool (decide ((bV bu bn af ah)≤q2)&&decide (q2≤(bW bu bn af ah))))):=by
 have HS:=HS.add (FV.stable _ _ _ _) f1a
 have HS:=HS.add (FV.stable _ _ _ _) bI
 have HS:=HS.add (FV.stable _ _ _ _) f2
 clear f1a bI f2
 refine iL Tryz.func43 rfl Tryz.ntmps43 rfl ?_
 refine JC.seq ?_
 refine JC.region ?_
 refine JL.box (vs:=(a0s ax ay aj c1a az ak aA aB aC n1b aG aF au aH)) HS rfl rfl rfl rfl (fun g1 w1 HS => ?_)
 refine JL.box (vs:=(a0q s2 A2 n2 c2 B2 m2 d2)) HS rfl rfl rfl rfl (fun g2 w2 HS => ?_)
 refine Lv (.bool false) (fun a ha=>run_assign (ha.ev rfl)) ?_
 refine jn ?_
 refine JC.seq ?_
 refine JC.region ?_
 refine JL.load (a0r ax ay aj c1a az ak aA aB aC n1b aG aF au aH) HS 1 rfl rfl rfl aYq aYo rfl rfl ?_
 refine JL.call rfl rfl aYE (vT HT HB HS (HS.at_ 2 rfl) (HS.at_ 1 rfl) (by omega)) (fun v3 w3 HR3 => ?_)
 obtain ⟨jS,jZ,kK,kD,kz,kH,kF,l7,lK,lY,lS,lN,lW,lU,rfl,HS⟩:=HR3
 refine JL.store HS rfl rfl (i:=1) rfl aYo rfl rfl rfl (vs':=(a0s jS jZ kK kD kz kH kF l7 lK lY lS lN lW lU)) rfl rfl (fun w4 HS => ?_)
 refine jn ?_
 refine JC.seq ?_
 refine JC.region ?_
 refine Lv (.pointer (some ⟨g1,0,none⟩)) (fun a ha=>bH (ha.ev rfl) aYr rfl aYn rfl rfl) ?_
 refine JL.load (a0p jS jZ kK kD kz kH kF) HS 1 rfl rfl rfl aYp aYn rfl rfl ?_
 refine JL.load (a0p s2 A2 n2 c2 B2 m2 d2) HS 0 rfl rfl rfl aYp aYn rfl rfl ?_
 refine JL.call rfl rfl aZd (Qb HT HB HS (HS.at_ 0 rfl) (HS.at_ 2 rfl) (by omega)) (fun v5 w5 vk => ?_)
 obtain ⟨rfl,HS⟩:=vk
 refine Lv (.bool (decide ((bV bu bn af ah)≤q2))) (fun a ha=>Qh (ha.ev rfl) (ha.ev rfl) (Ru _ _)) ?_
 cases EN:((decide ((bV bu bn af ah)≤q2)))
 ·skip
  refine Lv (.bool false) (fun a ha=>run_move (ha.ev rfl)) ?_
  refine Lp ?_
  refine Lp ?_
  refine Lp ?_
  refine Lp ?_
  refine Lp ?_
  refine Lv (.bool false) (fun a ha=>gB (ha.ev rfl) (ha.ev rfl)) ?_
  refine Lv (.bool false) (fun a ha=>run_assign (ha.ev rfl)) ?_
  refine jn ?_
  refine JC.ret (fun a ha => ?_)
  repeat (first | refine dh ?_ | refine df ?_)
  refine fG (v := .bool false) ha Tryz.results43 (.tmp rfl) ⟨_,rfl,?_⟩
  exact ⟨rfl,HS.gy 2 5 rfl rfl⟩
 ·skip
  refine Lv (.bool true) (fun a ha=>run_move (ha.ev rfl)) ?_
  refine Lg (a0p s2 A2 n2 c2 B2 m2 d2) (fun a ha=>gU (ha.ev rfl) aYp aYn (HS.box _ (.head _)) rfl rfl) ?_
  refine Lg (.pointer (some ⟨g1,3,none⟩)) (fun a ha=>bH (ha.ev rfl) aYr rfl aYn rfl rfl) ?_
  refine Lg (a0p l7 lK lY lS lN lW lU) (fun a ha=>gU (ha.ev rfl) aYp aYn (HS.box _ (.tail _ (.head _))) rfl rfl) ?_
  refine JL.cZ rfl rfl rfl rfl rfl rfl aZd (Qb HT HB HS (HS.at_ 2 rfl) (HS.at_ 1 rfl) (by omega)) (fun v7 w7 wM => ?_)
  obtain ⟨rfl,HS⟩:=wM
  refine Lg (.bool (decide (q2≤(bW bu bn af ah)))) (fun a ha=>Qh (ha.ev rfl) (ha.ev rfl) (Ru _ _)) ?_
  refine Lv (.bool (decide (q2≤(bW bu bn af ah)))) (fun a ha=>eY (ha.ev rfl) (ha.ev rfl)) ?_
  refine Lv (.bool (decide (q2≤(bW bu bn af ah)))) (fun a ha=>run_assign (ha.ev rfl)) ?_
  refine jn ?_
  refine JC.ret (fun a ha => ?_)
  repeat (first | refine dh ?_ | refine df ?_)
  refine fG (v := .bool (decide (q2≤(bW bu bn af ah)))) ha Tryz.results43 (.tmp rfl) ⟨_,rfl,?_⟩
  exact ⟨rfl,HS.gy 2 5 rfl rfl⟩
end
end Go.Proofs.YtbihljnjaondcaaGreatDoor
