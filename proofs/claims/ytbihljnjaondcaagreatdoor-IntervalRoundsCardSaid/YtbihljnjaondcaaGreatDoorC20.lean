/- Part of a proof, said shortly. -/
import Derived.Deep.RegionWith
import Derived.Deep.LoopGhost
import Derived.Test.YtbihljnjaondcaaGreatDoorAlz
import Derived.Test.YtbihljnjaondcaaGreatDoorC16
import Derived.Test.YtbihljnjaondcaaGreatDoorC14
import Derived.Test.YtbihljnjaondcaaGreatDoorC13
import Derived.Test.YtbihljnjaondcaaGreatDoorC12
import Derived.Test.YtbihljnjaondcaaGreatDoorC11
import Derived.Test.YtbihljnjaondcaaGreatDoorC10
import Derived.Test.YtbihljnjaondcaaGreatDoorC6
import Derived.Test.YtbihljnjaondcaaGreatDoorC2
import Derived.Test.YtbihljnjaondcaaGreatDoorC1
import Derived.Test.YtbihljnjaondcaaGreatDoorC5
import Derived.Test.YtbihljnjaondcaaGreatDoorC4
import Derived.Test.YtbihljnjaondcaaGreatDoorC3
import Derived.Test.YtbihljnjaondcaaGreatDoorC9
import Derived.Test.YtbihljnjaondcaaGreatDoorC8
import Derived.Test.YtbihljnjaondcaaGreatDoorC7
import Derived.Test.YtbihljnjaondcaaGreatDoorC19
import Derived.Test.YtbihljnjaondcaaGreatDoorC18
import Derived.Test.YtbihljnjaondcaaGreatDoorC17
import Derived.Test.YtbihljnjaondcaaGreatDoorC15
open Go.Proofs.YtbihljnjaondcaaGreatDoor (a0p a0q a0r a0s yw bU fO cO PS iy1 PT FX iy4 iy5 iy6 Yo iy8 iy9 aAJ)
namespace Lw
open Go Go.RowKit
def gY (q r:Rat):Rat:=if qF r q < 0 then r else q
def gX (q r:Rat):Rat:=if 0 < qF r q then r else q
end Lw
namespace Go.Proofs.YtbihljnjaondcaaGreatDoor
open Go Go.RowKit Lw
section
variable {W0 w:World} {bs:List Bx} {L:List En} {ts:List Bt} {M:List Qn} {s s':Bool} {A A' B B':Option Addr} {n c n' c' m d m' d' k k':Nat} {q r:Rat} {x y:Int} {b b':Bool}
set_option maxRecDepth 100000 in
set_option maxHeartbeats 4000000 in
theorem ayO (HE:bG W0 w bs L ts M) (h:⟨.agg #[.bool s,.slice A n c,.slice A' n' c'],q,k,b⟩∈M) (h':⟨.agg #[.bool s',.slice B m d,.slice B' m' d'],r,k',b'⟩∈M) (hk:k+k'≤8000) :
  Calls Tryz.prog 137 #[.agg #[.bool s,.slice A n c,.slice A' n' c'],.agg #[.bool s',.slice B m d,.slice B' m' d']] w (jB W0 bs L ts M (gY q r) (k+k')):=by
 refine Calls.mono (R:=(jB w [] L [] M (gY q r) (k+k'))) ?_ fun _ _ hh=>jB.of HE hh
 by_cases hc:qF r q < 0
 ·have HV:=Lib.hid (show gY q r=r by unfold gY; rw [if_pos hc])
  have hcc:decide (qF r q < 0)=true:=by rw [decide_eq_true hc]
  clear hc
  replace HE:=((HE.here.gQ (.bool s) (.slice A n c) (.slice A' n' c')).gQ (.bool s') (.slice B m d) (.slice B' m' d')).gQ (.bool false) (.slice none 0 0) (.slice none 0 0)
  simp only [World.size_alloc] at HE
  obtain ⟨q0,q1,q2,q3,q4,q5⟩:=HE.c3 (.head _)
  obtain ⟨q6,q7,q8,q9,q10,q11⟩:=HE.c3 (.tail _ (.head _))
  obtain ⟨q12,q13,jC,jD,q16,jE⟩:=HE.c3 (.tail _ (.tail _ (.head _)))
  go_enter Tryz.func137,Tryz.ntmps137
  go_wp2_with fail
  go_region_with
   (first
    | (go_at_call 83; have _:=y8; refine (zT (by with_reducible first | exact HE | exact HE.drew) (.tail _ h') (by omega)).mono ?_; rintro e w2 ⟨sb,Ba,ma,da,Bb,mb,db,rfl,HE⟩; obtain ⟨v0,v1,v2,v3,v4,v5⟩:=HE.c3 (.tail _ (.tail _ (.head _))); obtain ⟨v6,v7,v8,v9,v10,v11⟩:=HE.c3 (.tail _ (.head _)))
    | (go_at_call 83; refine (zT (by with_reducible first | exact HE | exact HE.drew) h (by omega)).mono ?_; rintro e w1 ⟨sa,Aa,na,ca,Ab,nb,cb,rfl,HE⟩; have y8:=HE; obtain ⟨u0,u1,u2,u3,u4,u5⟩:=HE.c3 (.tail _ (.tail _ (.head _))); obtain ⟨u6,u7,u8,u9,u10,u11⟩:=HE.c3 (.tail _ (.head _))))
  all_goals
   first | clear q0 q1 q2 q3 q4 q5 q6 q7 q8 q9 q10 q11 q12 q13 jC jD q16 jE u0 u1 u2 u3 u4 u5 u6 u7 u8 u9 u10 u11 v0 v1 v2 v3 v4 v5 v6 v7 v8 v9 v10 v11 y8 | skip
   replace HE:=(HE.G9 (s':=sa) (D:=Aa) (m:=na) (d:=ca) (v := .slice Ab nb cb) (.tail _ (.tail _ (.head _))) [⟨w.heap.size+1+1,.bool false,.slice none 0 0,.slice none 0 0⟩,⟨w.heap.size+1,.bool s',.slice B m d,.slice B' m' d'⟩] (fun b hb=>by simp only [List.mem_cons,List.not_mem_nil,or_false] at hb; rcases hb with rfl | rfl <;> exact ⟨(by repeat (first | exact .head _ | assumption | refine .tail _ ?_)),by dsimp only; omega⟩)).G9 (s':=sb) (D:=Ba) (m:=ma) (d:=da) (v := .slice Bb mb db) (.tail _ (.tail _ (.head _))) [⟨w.heap.size,.bool sa,.slice Aa na ca,.slice Ab nb cb⟩,⟨w.heap.size+1+1,.bool false,.slice none 0 0,.slice none 0 0⟩] (fun b hb=>by simp only [List.mem_cons,List.not_mem_nil,or_false] at hb; rcases hb with rfl | rfl <;> exact ⟨(by repeat (first | exact .head _ | assumption | refine .tail _ ?_)),by dsimp only; omega⟩)
   generalize (((((((w2.setCell ⟨w.heap.size,0,none⟩ (.bool sa)).setCell ⟨w.heap.size,1,none⟩ (.slice Aa na ca)).setCell ⟨w.heap.size,2,none⟩ (.slice Ab nb cb)).setCell ⟨w.heap.size+1,0,none⟩ (.bool sb)).setCell ⟨w.heap.size+1,1,none⟩ (.slice Ba ma da)).setCell ⟨w.heap.size+1,2,none⟩ (.slice Bb mb db)))=W5 at *
   obtain ⟨kL,kM,lH,lI,q22,q23⟩:=HE.c3 (.head _)
   obtain ⟨q24,mG,mX,mY,nV,nX⟩:=HE.c3 (.tail _ (.head _))
   obtain ⟨q30,nY,q32,og,pg,q35⟩:=HE.c3 (.tail _ (.tail _ (.head _)))
   go_wp2_with fail
   refine (XH HE (.head _) (.tail _ (.head _)) (by omega)).mono ?_
   clear HE
   rintro e w3 ⟨rfl,HE⟩
   clear kL kM lH lI q22 q23 q24 mG mX mY nV nX q30 nY q32 og pg q35
   obtain ⟨vS,q37,wG,wX,wY,wZ⟩:=HE.c3 (.head _)
   obtain ⟨xA,xB,yG,yH,yI,yJ⟩:=HE.c3 (.tail _ (.head _))
   obtain ⟨zq,zu,zx,zy,zA,zB⟩:=HE.c3 (.tail _ (.tail _ (.head _)))
   go_wp2_with fail
   refine (Rq HE (.head _) (by omega)).mono ?_
   clear HE
   rintro e w4 ⟨sx,Ax,nx,cx,Ay,ny,cy,rfl,HE⟩
   clear vS q37 wG wX wY wZ xA xB yG yH yI yJ zq zu zx zy zA zB
   obtain ⟨z0,z1,z2,z3,z4,z5⟩:=HE.c3 (.tail _ (.tail _ (.head _)))
   go_wp2_with fail
   refine bodyPost_ret (v := .agg #[.bool sx,.slice Ax nx cx,.slice Ay ny cy]) (by simp [results,Tryz.results137,go_sem,z0,z1,z2]) rfl ?_
   have HK:=(HE.tK (D:=Ax) (m:=nx) (d:=cx) (.tail _ (.tail _ (.head _))) sx (.slice Ay ny cy)).bare
   rw [HV.out]
   exact ⟨_,_,_,_,_,_,_,rfl,(HK.pick (M':=⟨_,_,_,_⟩ :: M) (fun _ he=>he) (fun _ he=>by rcases List.mem_cons.1 he with rfl | he; exact .head _; exact .tail _ (.tail _ (.tail _ he)))).hd (·.weak (by omega))⟩
 ·have HV:=Lib.hid (show gY q r=q by unfold gY; rw [if_neg hc])
  have hcc:decide (qF r q < 0)=false:=by rw [decide_eq_false hc]
  clear hc
  replace HE:=((HE.here.gQ (.bool s) (.slice A n c) (.slice A' n' c')).gQ (.bool s') (.slice B m d) (.slice B' m' d')).gQ (.bool false) (.slice none 0 0) (.slice none 0 0)
  simp only [World.size_alloc] at HE
  obtain ⟨q0,q1,q2,q3,q4,q5⟩:=HE.c3 (.head _)
  obtain ⟨q6,q7,q8,q9,q10,q11⟩:=HE.c3 (.tail _ (.head _))
  obtain ⟨q12,q13,jC,jD,q16,jE⟩:=HE.c3 (.tail _ (.tail _ (.head _)))
  go_enter Tryz.func137,Tryz.ntmps137
  go_wp2_with fail
  go_region_with
   (first
    | (go_at_call 83; have _:=y8; refine (zT (by with_reducible first | exact HE | exact HE.drew) (.tail _ h') (by omega)).mono ?_; rintro e w2 ⟨sb,Ba,ma,da,Bb,mb,db,rfl,HE⟩; obtain ⟨v0,v1,v2,v3,v4,v5⟩:=HE.c3 (.tail _ (.tail _ (.head _))); obtain ⟨v6,v7,v8,v9,v10,v11⟩:=HE.c3 (.tail _ (.head _)))
    | (go_at_call 83; refine (zT (by with_reducible first | exact HE | exact HE.drew) h (by omega)).mono ?_; rintro e w1 ⟨sa,Aa,na,ca,Ab,nb,cb,rfl,HE⟩; have y8:=HE; obtain ⟨u0,u1,u2,u3,u4,u5⟩:=HE.c3 (.tail _ (.tail _ (.head _))); obtain ⟨u6,u7,u8,u9,u10,u11⟩:=HE.c3 (.tail _ (.head _))))
  all_goals
   first | clear q0 q1 q2 q3 q4 q5 q6 q7 q8 q9 q10 q11 q12 q13 jC jD q16 jE u0 u1 u2 u3 u4 u5 u6 u7 u8 u9 u10 u11 v0 v1 v2 v3 v4 v5 v6 v7 v8 v9 v10 v11 y8 | skip
   replace HE:=(HE.G9 (s':=sa) (D:=Aa) (m:=na) (d:=ca) (v := .slice Ab nb cb) (.tail _ (.tail _ (.head _))) [⟨w.heap.size+1+1,.bool false,.slice none 0 0,.slice none 0 0⟩,⟨w.heap.size+1,.bool s',.slice B m d,.slice B' m' d'⟩] (fun b hb=>by simp only [List.mem_cons,List.not_mem_nil,or_false] at hb; rcases hb with rfl | rfl <;> exact ⟨(by repeat (first | exact .head _ | assumption | refine .tail _ ?_)),by dsimp only; omega⟩)).G9 (s':=sb) (D:=Ba) (m:=ma) (d:=da) (v := .slice Bb mb db) (.tail _ (.tail _ (.head _))) [⟨w.heap.size,.bool sa,.slice Aa na ca,.slice Ab nb cb⟩,⟨w.heap.size+1+1,.bool false,.slice none 0 0,.slice none 0 0⟩] (fun b hb=>by simp only [List.mem_cons,List.not_mem_nil,or_false] at hb; rcases hb with rfl | rfl <;> exact ⟨(by repeat (first | exact .head _ | assumption | refine .tail _ ?_)),by dsimp only; omega⟩)
   generalize (((((((w2.setCell ⟨w.heap.size,0,none⟩ (.bool sa)).setCell ⟨w.heap.size,1,none⟩ (.slice Aa na ca)).setCell ⟨w.heap.size,2,none⟩ (.slice Ab nb cb)).setCell ⟨w.heap.size+1,0,none⟩ (.bool sb)).setCell ⟨w.heap.size+1,1,none⟩ (.slice Ba ma da)).setCell ⟨w.heap.size+1,2,none⟩ (.slice Bb mb db)))=W5 at *
   obtain ⟨kL,kM,lH,lI,q22,q23⟩:=HE.c3 (.head _)
   obtain ⟨q24,mG,mX,mY,nV,nX⟩:=HE.c3 (.tail _ (.head _))
   obtain ⟨q30,nY,q32,og,pg,q35⟩:=HE.c3 (.tail _ (.tail _ (.head _)))
   go_wp2_with fail
   refine (XH HE (.head _) (.tail _ (.head _)) (by omega)).mono ?_
   clear HE
   rintro e w3 ⟨rfl,HE⟩
   clear kL kM lH lI q22 q23 q24 mG mX mY nV nX q30 nY q32 og pg q35
   obtain ⟨vS,q37,wG,wX,wY,wZ⟩:=HE.c3 (.head _)
   obtain ⟨xA,xB,yG,yH,yI,yJ⟩:=HE.c3 (.tail _ (.head _))
   obtain ⟨zq,zu,zx,zy,zA,zB⟩:=HE.c3 (.tail _ (.tail _ (.head _)))
   go_wp2_with fail
   refine (Rq HE (.tail _ (.head _)) (by omega)).mono ?_
   clear HE
   rintro e w4 ⟨sx,Ax,nx,cx,Ay,ny,cy,rfl,HE⟩
   clear vS q37 wG wX wY wZ xA xB yG yH yI yJ zq zu zx zy zA zB
   obtain ⟨z0,z1,z2,z3,z4,z5⟩:=HE.c3 (.tail _ (.tail _ (.head _)))
   go_wp2_with fail
   refine bodyPost_ret (v := .agg #[.bool sx,.slice Ax nx cx,.slice Ay ny cy]) (by simp [results,Tryz.results137,go_sem,z0,z1,z2]) rfl ?_
   have HK:=(HE.tK (D:=Ax) (m:=nx) (d:=cx) (.tail _ (.tail _ (.head _))) sx (.slice Ay ny cy)).bare
   rw [HV.out]
   exact ⟨_,_,_,_,_,_,_,rfl,(HK.pick (M':=⟨_,_,_,_⟩ :: M) (fun _ he=>he) (fun _ he=>by rcases List.mem_cons.1 he with rfl | he; exact .head _; exact .tail _ (.tail _ (.tail _ he)))).hd (·.weak (by omega))⟩
set_option maxRecDepth 100000 in
set_option maxHeartbeats 4000000 in
theorem ayM (HE:bG W0 w bs L ts M) (h:⟨.agg #[.bool s,.slice A n c,.slice A' n' c'],q,k,b⟩∈M) (h':⟨.agg #[.bool s',.slice B m d,.slice B' m' d'],r,k',b'⟩∈M) (hk:k+k'≤8000) :
  Calls Tryz.prog 136 #[.agg #[.bool s,.slice A n c,.slice A' n' c'],.agg #[.bool s',.slice B m d,.slice B' m' d']] w (jB W0 bs L ts M (gX q r) (k+k')):=by
 refine Calls.mono (R:=(jB w [] L [] M (gX q r) (k+k'))) ?_ fun _ _ hh=>jB.of HE hh
 by_cases hc:0 < qF r q
 ·have HV:=Lib.hid (show gX q r=r by unfold gX; rw [if_pos hc])
  have hcc:decide (0 < qF r q)=true:=by rw [decide_eq_true hc]
  clear hc
  replace HE:=((HE.here.gQ (.bool s) (.slice A n c) (.slice A' n' c')).gQ (.bool s') (.slice B m d) (.slice B' m' d')).gQ (.bool false) (.slice none 0 0) (.slice none 0 0)
  simp only [World.size_alloc] at HE
  obtain ⟨q0,q1,q2,q3,q4,q5⟩:=HE.c3 (.head _)
  obtain ⟨q6,q7,q8,q9,q10,q11⟩:=HE.c3 (.tail _ (.head _))
  obtain ⟨q12,q13,jC,jD,q16,jE⟩:=HE.c3 (.tail _ (.tail _ (.head _)))
  go_enter Tryz.func136,Tryz.ntmps136
  go_wp2_with fail
  go_region_with
   (first
    | (go_at_call 83; have _:=y8; refine (zT (by with_reducible first | exact HE | exact HE.drew) (.tail _ h') (by omega)).mono ?_; rintro e w2 ⟨sb,Ba,ma,da,Bb,mb,db,rfl,HE⟩; obtain ⟨v0,v1,v2,v3,v4,v5⟩:=HE.c3 (.tail _ (.tail _ (.head _))); obtain ⟨v6,v7,v8,v9,v10,v11⟩:=HE.c3 (.tail _ (.head _)))
    | (go_at_call 83; refine (zT (by with_reducible first | exact HE | exact HE.drew) h (by omega)).mono ?_; rintro e w1 ⟨sa,Aa,na,ca,Ab,nb,cb,rfl,HE⟩; have y8:=HE; obtain ⟨u0,u1,u2,u3,u4,u5⟩:=HE.c3 (.tail _ (.tail _ (.head _))); obtain ⟨u6,u7,u8,u9,u10,u11⟩:=HE.c3 (.tail _ (.head _))))
  all_goals
   first | clear q0 q1 q2 q3 q4 q5 q6 q7 q8 q9 q10 q11 q12 q13 jC jD q16 jE u0 u1 u2 u3 u4 u5 u6 u7 u8 u9 u10 u11 v0 v1 v2 v3 v4 v5 v6 v7 v8 v9 v10 v11 y8 | skip
   replace HE:=(HE.G9 (s':=sa) (D:=Aa) (m:=na) (d:=ca) (v := .slice Ab nb cb) (.tail _ (.tail _ (.head _))) [⟨w.heap.size+1+1,.bool false,.slice none 0 0,.slice none 0 0⟩,⟨w.heap.size+1,.bool s',.slice B m d,.slice B' m' d'⟩] (fun b hb=>by simp only [List.mem_cons,List.not_mem_nil,or_false] at hb; rcases hb with rfl | rfl <;> exact ⟨(by repeat (first | exact .head _ | assumption | refine .tail _ ?_)),by dsimp only; omega⟩)).G9 (s':=sb) (D:=Ba) (m:=ma) (d:=da) (v := .slice Bb mb db) (.tail _ (.tail _ (.head _))) [⟨w.heap.size,.bool sa,.slice Aa na ca,.slice Ab nb cb⟩,⟨w.heap.size+1+1,.bool false,.slice none 0 0,.slice none 0 0⟩] (fun b hb=>by simp only [List.mem_cons,List.not_mem_nil,or_false] at hb; rcases hb with rfl | rfl <;> exact ⟨(by repeat (first | exact .head _ | assumption | refine .tail _ ?_)),by dsimp only; omega⟩)
   generalize (((((((w2.setCell ⟨w.heap.size,0,none⟩ (.bool sa)).setCell ⟨w.heap.size,1,none⟩ (.slice Aa na ca)).setCell ⟨w.heap.size,2,none⟩ (.slice Ab nb cb)).setCell ⟨w.heap.size+1,0,none⟩ (.bool sb)).setCell ⟨w.heap.size+1,1,none⟩ (.slice Ba ma da)).setCell ⟨w.heap.size+1,2,none⟩ (.slice Bb mb db)))=W5 at *
   obtain ⟨kL,kM,lH,lI,q22,q23⟩:=HE.c3 (.head _)
   obtain ⟨q24,mG,mX,mY,nV,nX⟩:=HE.c3 (.tail _ (.head _))
   obtain ⟨q30,nY,q32,og,pg,q35⟩:=HE.c3 (.tail _ (.tail _ (.head _)))
   go_wp2_with fail
   refine (XH HE (.head _) (.tail _ (.head _)) (by omega)).mono ?_
   clear HE
   rintro e w3 ⟨rfl,HE⟩
   clear kL kM lH lI q22 q23 q24 mG mX mY nV nX q30 nY q32 og pg q35
   obtain ⟨vS,q37,wG,wX,wY,wZ⟩:=HE.c3 (.head _)
   obtain ⟨xA,xB,yG,yH,yI,yJ⟩:=HE.c3 (.tail _ (.head _))
   obtain ⟨zq,zu,zx,zy,zA,zB⟩:=HE.c3 (.tail _ (.tail _ (.head _)))
   go_wp2_with fail
   refine (Rq HE (.head _) (by omega)).mono ?_
   clear HE
   rintro e w4 ⟨sx,Ax,nx,cx,Ay,ny,cy,rfl,HE⟩
   clear vS q37 wG wX wY wZ xA xB yG yH yI yJ zq zu zx zy zA zB
   obtain ⟨z0,z1,z2,z3,z4,z5⟩:=HE.c3 (.tail _ (.tail _ (.head _)))
   go_wp2_with fail
   refine bodyPost_ret (v := .agg #[.bool sx,.slice Ax nx cx,.slice Ay ny cy]) (by simp [results,Tryz.results136,go_sem,z0,z1,z2]) rfl ?_
   have HK:=(HE.tK (D:=Ax) (m:=nx) (d:=cx) (.tail _ (.tail _ (.head _))) sx (.slice Ay ny cy)).bare
   rw [HV.out]
   exact ⟨_,_,_,_,_,_,_,rfl,(HK.pick (M':=⟨_,_,_,_⟩ :: M) (fun _ he=>he) (fun _ he=>by rcases List.mem_cons.1 he with rfl | he; exact .head _; exact .tail _ (.tail _ (.tail _ he)))).hd (·.weak (by omega))⟩
 ·have HV:=Lib.hid (show gX q r=q by unfold gX; rw [if_neg hc])
  have hcc:decide (0 < qF r q)=false:=by rw [decide_eq_false hc]
  clear hc
  replace HE:=((HE.here.gQ (.bool s) (.slice A n c) (.slice A' n' c')).gQ (.bool s') (.slice B m d) (.slice B' m' d')).gQ (.bool false) (.slice none 0 0) (.slice none 0 0)
  simp only [World.size_alloc] at HE
  obtain ⟨q0,q1,q2,q3,q4,q5⟩:=HE.c3 (.head _)
  obtain ⟨q6,q7,q8,q9,q10,q11⟩:=HE.c3 (.tail _ (.head _))
  obtain ⟨q12,q13,jC,jD,q16,jE⟩:=HE.c3 (.tail _ (.tail _ (.head _)))
  go_enter Tryz.func136,Tryz.ntmps136
  go_wp2_with fail
  go_region_with
   (first
    | (go_at_call 83; have _:=y8; refine (zT (by with_reducible first | exact HE | exact HE.drew) (.tail _ h') (by omega)).mono ?_; rintro e w2 ⟨sb,Ba,ma,da,Bb,mb,db,rfl,HE⟩; obtain ⟨v0,v1,v2,v3,v4,v5⟩:=HE.c3 (.tail _ (.tail _ (.head _))); obtain ⟨v6,v7,v8,v9,v10,v11⟩:=HE.c3 (.tail _ (.head _)))
    | (go_at_call 83; refine (zT (by with_reducible first | exact HE | exact HE.drew) h (by omega)).mono ?_; rintro e w1 ⟨sa,Aa,na,ca,Ab,nb,cb,rfl,HE⟩; have y8:=HE; obtain ⟨u0,u1,u2,u3,u4,u5⟩:=HE.c3 (.tail _ (.tail _ (.head _))); obtain ⟨u6,u7,u8,u9,u10,u11⟩:=HE.c3 (.tail _ (.head _))))
  all_goals
   first | clear q0 q1 q2 q3 q4 q5 q6 q7 q8 q9 q10 q11 q12 q13 jC jD q16 jE u0 u1 u2 u3 u4 u5 u6 u7 u8 u9 u10 u11 v0 v1 v2 v3 v4 v5 v6 v7 v8 v9 v10 v11 y8 | skip
   replace HE:=(HE.G9 (s':=sa) (D:=Aa) (m:=na) (d:=ca) (v := .slice Ab nb cb) (.tail _ (.tail _ (.head _))) [⟨w.heap.size+1+1,.bool false,.slice none 0 0,.slice none 0 0⟩,⟨w.heap.size+1,.bool s',.slice B m d,.slice B' m' d'⟩] (fun b hb=>by simp only [List.mem_cons,List.not_mem_nil,or_false] at hb; rcases hb with rfl | rfl <;> exact ⟨(by repeat (first | exact .head _ | assumption | refine .tail _ ?_)),by dsimp only; omega⟩)).G9 (s':=sb) (D:=Ba) (m:=ma) (d:=da) (v := .slice Bb mb db) (.tail _ (.tail _ (.head _))) [⟨w.heap.size,.bool sa,.slice Aa na ca,.slice Ab nb cb⟩,⟨w.heap.size+1+1,.bool false,.slice none 0 0,.slice none 0 0⟩] (fun b hb=>by simp only [List.mem_cons,List.not_mem_nil,or_false] at hb; rcases hb with rfl | rfl <;> exact ⟨(by repeat (first | exact .head _ | assumption | refine .tail _ ?_)),by dsimp only; omega⟩)
   generalize (((((((w2.setCell ⟨w.heap.size,0,none⟩ (.bool sa)).setCell ⟨w.heap.size,1,none⟩ (.slice Aa na ca)).setCell ⟨w.heap.size,2,none⟩ (.slice Ab nb cb)).setCell ⟨w.heap.size+1,0,none⟩ (.bool sb)).setCell ⟨w.heap.size+1,1,none⟩ (.slice Ba ma da)).setCell ⟨w.heap.size+1,2,none⟩ (.slice Bb mb db)))=W5 at *
   obtain ⟨kL,kM,lH,lI,q22,q23⟩:=HE.c3 (.head _)
   obtain ⟨q24,mG,mX,mY,nV,nX⟩:=HE.c3 (.tail _ (.head _))
   obtain ⟨q30,nY,q32,og,pg,q35⟩:=HE.c3 (.tail _ (.tail _ (.head _)))
   go_wp2_with fail
   refine (XH HE (.head _) (.tail _ (.head _)) (by omega)).mono ?_
   clear HE
   rintro e w3 ⟨rfl,HE⟩
   clear kL kM lH lI q22 q23 q24 mG mX mY nV nX q30 nY q32 og pg q35
   obtain ⟨vS,q37,wG,wX,wY,wZ⟩:=HE.c3 (.head _)
   obtain ⟨xA,xB,yG,yH,yI,yJ⟩:=HE.c3 (.tail _ (.head _))
   obtain ⟨zq,zu,zx,zy,zA,zB⟩:=HE.c3 (.tail _ (.tail _ (.head _)))
   go_wp2_with fail
   refine (Rq HE (.tail _ (.head _)) (by omega)).mono ?_
   clear HE
   rintro e w4 ⟨sx,Ax,nx,cx,Ay,ny,cy,rfl,HE⟩
   clear vS q37 wG wX wY wZ xA xB yG yH yI yJ zq zu zx zy zA zB
   obtain ⟨z0,z1,z2,z3,z4,z5⟩:=HE.c3 (.tail _ (.tail _ (.head _)))
   go_wp2_with fail
   refine bodyPost_ret (v := .agg #[.bool sx,.slice Ax nx cx,.slice Ay ny cy]) (by simp [results,Tryz.results136,go_sem,z0,z1,z2]) rfl ?_
   have HK:=(HE.tK (D:=Ax) (m:=nx) (d:=cx) (.tail _ (.tail _ (.head _))) sx (.slice Ay ny cy)).bare
   rw [HV.out]
   exact ⟨_,_,_,_,_,_,_,rfl,(HK.pick (M':=⟨_,_,_,_⟩ :: M) (fun _ he=>he) (fun _ he=>by rcases List.mem_cons.1 he with rfl | he; exact .head _; exact .tail _ (.tail _ (.tail _ he)))).hd (·.weak (by omega))⟩
end
end Go.Proofs.YtbihljnjaondcaaGreatDoor
namespace Go.Proofs.YtbihljnjaondcaaGreatDoor
open Go Go.RowKit Lw
section
variable {W0 w:World} {bs:List Bx} {L:List En} {ts:List Bt} {M:List Qn} {s s':Bool} {A A':Option Addr} {n c n' c' k k':Nat} {x y:Int} {b b':Bool}
set_option maxRecDepth 100000 in
set_option maxHeartbeats 1600000 in
theorem ayX (HE:bG W0 w bs L ts M) (h:⟨.agg #[.bool s,.slice A n c],x,k,b⟩∈L) (h':⟨.agg #[.bool s',.slice A' n' c'],y,k',b'⟩∈L) (hk:k+k'≤40000) (hy:0 < y) :
  Calls Tryz.prog 193 #[.agg #[.bool s,.slice A n c],.agg #[.bool s',.slice A' n' c']] w (Bv W0 bs L ts M (Rat.divInt x y) (k+1+(k'+1))):=by
 refine Calls.mono (R:=Bv w [] L [] M (Rat.divInt x y) (k+1+(k'+1))) ?_ fun _ _ hh=>Bv.of HE hh
 replace HE:=((HE.here.fF (.bool s) (.slice A n c)).fF (.bool s') (.slice A' n' c')).gQ (.bool false) (.slice none 0 0) (.slice none 0 0)
 simp only [World.size_alloc] at HE
 have HS:=Lib.hid (show sV y=1 by unfold sV; rw [if_neg (by omega),if_neg (by omega)])
 have HY:=Lib.hid hy
 clear hy
 obtain ⟨q0,q1,q2,q3⟩:=HE.c2 (.head _)
 obtain ⟨q4,q5,q6,q7⟩:=HE.c2 (.tail _ (.head _))
 go_enter Tryz.func193,Tryz.ntmps193
 go_wp2_with fail
 refine (ah8 HE h' (by omega)).mono ?_
 rw [HS.out]
 clear HE
 rintro e w1 ⟨rfl,HE⟩
 clear q0 q1 q2 q3 q4 q5 q6 q7
 obtain ⟨q0,q1,q2,q3⟩:=HE.c2 (.head _)
 obtain ⟨q4,q5,q6,q7⟩:=HE.c2 (.tail _ (.head _))
 go_wp2_with fail
 refine (ajb HE h h' hk HY.out).mono ?_
 clear HE
 rintro e w2 ⟨sx,Ax,nx,cx,Ay,ny,cy,rfl,HE⟩
 clear q0 q1 q2 q3 q4 q5 q6 q7
 obtain ⟨q0,q1,q2,q3,q4,q5⟩:=HE.c3 (.head _)
 have TF:=(HE.rD (.head _)).put (.bool sx) (.slice Ax nx cx) (.slice Ay ny cy)
 go_wp2_with fail
 obtain ⟨x0,x1,x2,-,-,-⟩:=TF.cells
 refine bodyPost_ret (v := .tuple #[.agg #[.bool sx,.slice Ax nx cx,.slice Ay ny cy],.nilIface]) (by simp [results,Tryz.results193,go_sem,x0,x1,x2]) rfl ?_
 exact ⟨_,_,_,_,_,_,_,rfl,(HE.tK (D:=Ax) (m:=nx) (d:=cx) (.head _) sx (.slice Ay ny cy)).bare⟩
end
end Go.Proofs.YtbihljnjaondcaaGreatDoor
namespace Go.Proofs.YtbihljnjaondcaaGreatDoor
open Go Go.RowKit Lw
section
variable {W0 w:World} {bs:List Bx} {L:List En} {ts:List Bt} {M:List Qn} {s s':Bool} {A A' B B':Option Addr} {n c n' c' m d m' d' k k':Nat} {q r:Rat} {x y:Int} {b b':Bool}
set_option maxRecDepth 100000 in
set_option maxHeartbeats 3200000 in
theorem ayW (HE:bG W0 w bs L ts M) (h:⟨.agg #[.bool s,.slice A n c],x,k,b⟩∈L) (h':⟨.agg #[.bool s',.slice A' n' c'],y,k',b'⟩∈L) (hk:k+k'≤40000) (hy:y < 0) :
  Calls Tryz.prog 193 #[.agg #[.bool s,.slice A n c],.agg #[.bool s',.slice A' n' c']] w (Bv W0 bs L ts M (Rat.divInt x y) (k+1+(k'+1))):=by
 refine Calls.mono (R:=(Bv w [] L [] M (Rat.divInt x y) (k+1+(k'+1)))) ?_ fun _ _ hh=>Bv.of HE hh
 replace HE:=((HE.here.fF (.bool s) (.slice A n c)).fF (.bool s') (.slice A' n' c')).gQ (.bool false) (.slice none 0 0) (.slice none 0 0)
 simp only [World.size_alloc] at HE
 have HS:=Lib.hid (show sV y = -1 by unfold sV; rw [if_pos (by omega)])
 have HN:=Lib.hid (amD x y)
 have HY:=Lib.hid (show 0 < -y by omega)
 clear hy
 rw [← HN.out]
 obtain ⟨q0,q1,q2,q3⟩:=HE.c2 (.head _)
 obtain ⟨q4,q5,q6,q7⟩:=HE.c2 (.tail _ (.head _))
 obtain ⟨q8,q9,q10,q11,q12,q13⟩:=HE.c3 (.head _)
 go_enter Tryz.func193,Tryz.ntmps193
 go_wp2_with fail
 refine (ah8 HE h' (by omega)).mono ?_
 rw [HS.out]
 clear HE
 rintro e w2 ⟨rfl,HE⟩
 clear q0 q1 q2 q3 q4 q5 q6 q7 q8 q9 q10 q11 q12 q13
 obtain ⟨jC,jD,q16,jE⟩:=HE.c2 (.head _)
 obtain ⟨kL,kM,lH,lI⟩:=HE.c2 (.tail _ (.head _))
 go_wp2_with fail
 go_region_with
  (first
   | (go_at_call 225; have _:=y8; refine (aod (by with_reducible first | exact HE | exact HE.drew) (.tail _ h') (by omega)).mono ?_; rintro e wb ⟨sb,Ab,nb,cb,rfl,HE⟩; obtain ⟨v0,v1,v2,v3⟩:=HE.c2 (.tail _ (.head _)); obtain ⟨v4,v5,v6,v7⟩:=HE.c2 (.head _))
   | (go_at_call 225; refine (aod (by with_reducible first | exact HE | exact HE.drew) h (by omega)).mono ?_; rintro e wa ⟨sa,Aa,na,ca,rfl,HE⟩; have y8:=HE; obtain ⟨u0,u1,u2,u3⟩:=HE.c2 (.tail _ (.head _)); obtain ⟨u4,u5,u6,u7⟩:=HE.c2 (.head _)))
 all_goals
  first | clear jC jD q16 jE kL kM lH lI u0 u1 u2 u3 u4 u5 u6 u7 v0 v1 v2 v3 v4 v5 v6 v7 y8 | skip
  replace HE:=(HE.zo (.tail _ (.head _)) [⟨w.heap.size+1,.bool s',.slice A' n' c'⟩] (fun b hb=>by simp only [List.mem_cons,List.not_mem_nil,or_false] at hb; subst hb; exact ⟨(by repeat (first | exact .head _ | refine .tail _ ?_)),by dsimp only; omega⟩) sa (.slice Aa na ca)).zo (.tail _ (.head _)) [⟨w.heap.size,.bool sa,.slice Aa na ca⟩] (fun b hb=>by simp only [List.mem_cons,List.not_mem_nil,or_false] at hb; subst hb; exact ⟨(by repeat (first | exact .head _ | refine .tail _ ?_)),by dsimp only; omega⟩) sb (.slice Ab nb cb)
  generalize ((((wb.setCell ⟨w.heap.size,0,none⟩ (.bool sa)).setCell ⟨w.heap.size,1,none⟩ (.slice Aa na ca)).setCell ⟨w.heap.size+1,0,none⟩ (.bool sb)).setCell ⟨w.heap.size+1,1,none⟩ (.slice Ab nb cb))=W5 at *
  obtain ⟨q22,q23,q24,mG⟩:=HE.c2 (.head _)
  obtain ⟨mX,mY,nV,nX⟩:=HE.c2 (.tail _ (.head _))
  obtain ⟨q30,nY,q32,og,pg,q35⟩:=HE.c3 (.head _)
  go_wp2_with fail
  refine (ajb HE (by repeat (first | exact .head _ | assumption | refine .tail _ ?_)) (by repeat (first | exact .head _ | assumption | refine .tail _ ?_)) (by omega) HY.out).mono ?_
  clear HE
  rintro e w6 ⟨sx,Ax,nx,cx,Ay,ny,cy,rfl,HE⟩
  clear q22 q23 q24 mG mX mY nV nX q30 nY q32 og pg q35
  obtain ⟨vS,q37,wG,wX,wY,wZ⟩:=HE.c3 (.head _)
  have TF:=(HE.rD (.head _)).put (.bool sx) (.slice Ax nx cx) (.slice Ay ny cy)
  go_wp2_with fail
  obtain ⟨z0,z1,z2,-,-,-⟩:=TF.cells
  refine bodyPost_ret (v := .tuple #[.agg #[.bool sx,.slice Ax nx cx,.slice Ay ny cy],.nilIface]) (by simp [results,Tryz.results193,go_sem,z0,z1,z2]) rfl ?_
  have HK:=(HE.tK (D:=Ax) (m:=nx) (d:=cx) (.head _) sx (.slice Ay ny cy)).bare
  exact ⟨_,_,_,_,_,_,_,rfl,HK.pick (fun e he => .tail _ (.tail _ he)) (fun _ he=>he)⟩
set_option maxRecDepth 100000 in
set_option maxHeartbeats 1600000 in
theorem aEy (HE:bG W0 w bs L ts M) (n1 : -9223372036854775808≤x) (n2:x≤9223372036854775807) :
  Calls Tryz.prog 93 #[.int .i64 x] w (jB W0 bs L ts M (x:Rat) 6):=by
 refine Calls.mono (R:=(jB w [] L [] M (x:Rat) 6)) ?_ fun _ _ hh=>jB.of HE hh
 replace HE:=HE.here.gQ (.bool false) (.slice none 0 0) (.slice none 0 0)
 have HX:=Lib.hid (show Rat.divInt x 1=(x:Rat) from Rat.ext (by rw [Rat.num_divInt]; simp) (by rw [Rat.den_divInt]; simp))
 have HN:=Lib.hid (show -9223372036854775808≤x∧x≤9223372036854775807 from ⟨n1,n2⟩)
 clear n1 n2
 obtain ⟨q0,q1,q2,q3,q4,q5⟩:=HE.c3 (.head _)
 go_enter Tryz.func93,Tryz.ntmps93
 go_wp2_with fail
 refine (Zj HE HN.out.1 HN.out.2).mono ?_
 clear HE
 rintro e w1 ⟨s1,A1,n1,c1,rfl,HE⟩
 clear q0 q1 q2 q3 q4 q5
 go_wp2_with fail
 refine (Y7 HE).mono ?_
 clear HE
 rintro e w2 ⟨s2,A2,n2,c2,rfl,HE⟩
 go_wp2_with fail
 refine (X6 HE (.tail _ (.head _)) (.head _) (by omega) (by omega)).mono ?_
 rw [HX.out]
 clear HE
 rintro e w3 ⟨sx,Ax,nx,cx,Ay,ny,cy,rfl,HE⟩
 obtain ⟨q6,q7,q8,q9,q10,q11⟩:=HE.c3 (.head _)
 go_wp2_with fail
 refine bodyPost_ret (v := .agg #[.bool sx,.slice Ax nx cx,.slice Ay ny cy]) (by simp [results,Tryz.results93,go_sem,q6,q7,q8]) rfl ?_
 have HK:=(HE.tK (D:=Ax) (m:=nx) (d:=cx) (.head _) sx (.slice Ay ny cy)).bare
 exact ⟨_,_,_,_,_,_,_,rfl,HK.pick (fun e he => .tail _ (.tail _ he)) (fun _ he=>he)⟩
end
end Go.Proofs.YtbihljnjaondcaaGreatDoor
namespace Go.Proofs.YtbihljnjaondcaaGreatDoor
open Go Go.RowKit Lw
section
variable {W0 w:World} {bs:List Bx} {L:List En} {ts:List Bt} {M:List Qn} {v v':Value} {q r:Rat} {k k':Nat} {b b':Bool}
theorem aEk (HE:bG W0 w bs L ts M) (h:⟨v,q,k,b⟩∈M) (h':⟨v',r,k',b'⟩∈M) (hk:k+k'≤800) :
  Calls Tryz.prog 122 #[v,v'] w fun e w'=>e = .returned (.int .i64 (qF q r))∧bG W0 w' bs L ts M:=by
 obtain ⟨s,A,n,c,A',n',c',e1⟩:=(HE.fr _ h).shape
 obtain ⟨t,B,m,d,B',m',d',e2⟩:=(HE.fr _ h').shape
 dsimp only at e1 e2
 subst e1 e2
 exact Tq HE h h' (by omega)
theorem ayP (HE:bG W0 w bs L ts M) (h:⟨v,q,k,b⟩∈M) (h':⟨v',r,k',b'⟩∈M) (hk:k+k'≤8000) :
  Calls Tryz.prog 137 #[v,v'] w (xH W0 bs L ts M (gY q r) (k+k')):=by
 obtain ⟨s,A,n,c,A',n',c',e1⟩:=(HE.fr _ h).shape
 obtain ⟨t,B,m,d,B',m',d',e2⟩:=(HE.fr _ h').shape
 dsimp only at e1 e2
 subst e1 e2
 exact (ayO HE h h' (by omega)).mono fun _ _ hh=>xH.of hh
theorem ayN (HE:bG W0 w bs L ts M) (h:⟨v,q,k,b⟩∈M) (h':⟨v',r,k',b'⟩∈M) (hk:k+k'≤8000) :
  Calls Tryz.prog 136 #[v,v'] w (xH W0 bs L ts M (gX q r) (k+k')):=by
 obtain ⟨s,A,n,c,A',n',c',e1⟩:=(HE.fr _ h).shape
 obtain ⟨t,B,m,d,B',m',d',e2⟩:=(HE.fr _ h').shape
 dsimp only at e1 e2
 subst e1 e2
 exact (ayM HE h h' (by omega)).mono fun _ _ hh=>xH.of hh
end
end Go.Proofs.YtbihljnjaondcaaGreatDoor
namespace Lw
open Go Go.RowKit
def IB (w:World) (g:Nat) (t:TypeId) (a b c d:Value):Prop:=w.heap[g]? = some (.cells #[a,b,c,d] t (0,0))
section
variable {w w':World} {g:Nat} {t:TypeId} {a b c d:Value}
theorem IB.lt (h:IB w g t a b c d):g < w.heap.size:=by
 rcases Nat.lt_or_ge g w.heap.size with hlt | hge
 ·exact hlt
 ·unfold IB at h; rw [Array.getElem?_eq_none hge] at h; cases h
theorem IB.new (w:World) (t:TypeId) (a b c d:Value):IB (w.alloc (.cells #[a,b,c,d] t)) w.heap.size t a b c d:=heap_alloc_new w _
theorem IB.next (h:IB w g t a b c d) (hb:Below w.heap.size w w'):IB w' g t a b c d:=(hb.block g h.lt).trans h
theorem IB.cells (h:IB w g t a b c d):w.cell? ⟨g,0,none⟩=some a∧w.cell? ⟨g,1,none⟩=some b∧w.cell? ⟨g,2,none⟩=some c∧w.cell? ⟨g,3,none⟩=some d:=by
 unfold IB at h
 exact ⟨by rw [cell_of_row w g 0 _ t (0,0) h]; rfl,by rw [cell_of_row w g 1 _ t (0,0) h]; rfl,by rw [cell_of_row w g 2 _ t (0,0) h]; rfl,by rw [cell_of_row w g 3 _ t (0,0) h]; rfl⟩
end
end Lw
namespace Go.Proofs.YtbihljnjaondcaaGreatDoor
open Go Go.RowKit Lw
def afO (W0:World) (bs:List Bx) (L:List En) (ts:List Bt) (M:List Qn) (q:Rat) (k:Nat) (er:Value) (e:Ending) (w':World):Prop :=
 ∃ (s:Bool) (A:Option Addr) (n c:Nat) (A':Option Addr) (n' c':Nat),e = .returned (.tuple #[.agg #[.bool s,.slice A n c,.slice A' n' c'],er])∧bG W0 w' bs L ts (⟨.agg #[.bool s,.slice A n c,.slice A' n' c'],q,k,true⟩ :: M)
section
variable {W0 w:World} {bs:List Bx} {L:List En} {ts:List Bt} {M:List Qn} {v v':Value} {q r:Rat} {x y:Int} {k k':Nat} {b b':Bool}
theorem afO.weak {k K:Nat} {er:Value} {e:Ending} (h:afO W0 bs L ts M q k er e w) (hk:k≤K):afO W0 bs L ts M q K er e w:=by
 obtain ⟨s,A,n,c,A',n',c',e1,he⟩:=h
 exact ⟨s,A,n,c,A',n',c',e1,he.hd (·.weak hk)⟩
theorem aEC (HE:bG W0 w bs L ts M) (h:⟨v,q,k,b⟩∈M) (hk:k≤3000) :
  Calls Tryz.prog 130 #[v] w fun e w'=>e = .returned (.bool b)∧bG W0 w' bs L ts M:=by
 obtain ⟨s,A,n,c,A',n',c',e1⟩:=(HE.fr _ h).shape
 dsimp only at e1
 subst e1
 exact aed HE h hk
theorem aEz (HE:bG W0 w bs L ts M) (n1 : -9223372036854775808≤x) (n2:x≤9223372036854775807) :
  Calls Tryz.prog 93 #[.int .i64 x] w (xH W0 bs L ts M (x:Rat) 6):=(aEy HE n1 n2).mono fun _ _ hh=>xH.of hh
end
end Go.Proofs.YtbihljnjaondcaaGreatDoor
namespace Go.Proofs.YtbihljnjaondcaaGreatDoor
open Go Go.RowKit Lw
section
variable {W0 w:World} {bs:List Bx} {L:List En} {ts:List Bt} {M:List Qn} {s s':Bool} {A A' B B':Option Addr} {n c n' c' m d m' d' k k':Nat} {q r:Rat} {x y:Int} {b b':Bool}
instance (x:Int):Decidable (Sq x):=inferInstanceAs (Decidable (_∧_))
end
end Go.Proofs.YtbihljnjaondcaaGreatDoor
namespace Lw
open Go Go.RowKit bZ
theorem Rd.keeps {w w':World} {gs:List Nat} {A:Option Addr} {ns:List Nat} (h:Rd w w.heap.size A ns) (ha:Gx gs w w'):Rd w' w'.heap.size A ns:=by
 refine ⟨h.1,fun hn => ?_⟩
 obtain ⟨b,off,rfl,hb,hc⟩:=h.2 hn
 have hsame:w'.heap[b]? = w.heap[b]? := by
  refine ha.same b hb (fun hm => ?_)
  obtain ⟨c,t,f,h1,h2⟩:=(ha.soft b hm hb).1
  have h0:=hc 0 hn
  unfold World.cell? at h0
  simp only [h1] at h0
  have h3:=h2 (off+0) _ (by simpa using h0)
  cases h3
 refine ⟨b,off,rfl,Nat.lt_of_lt_of_le hb ha.size,fun j hj => ?_⟩
 rw [← hc j hj]
 exact World.cell?_of_block (w:=w) hsame
theorem fJ.stable (e:Qn):Stable (fun w=>fJ w e):=fun gs w w' ha h=>by
 obtain ⟨s,A,n,c,A',n',c',ns,ms,h1,h2,h3,h4⟩:=h
 exact ⟨s,A,n,c,A',n',c',ns,ms,h1,h2.keeps ha,h3.keeps ha,h4⟩
theorem pF.stable (e:En):Stable (fun w=>pF w e):=fun gs w w' ha h=>by
 obtain ⟨s,A,n,c,ns,B,h1,h2,h3,h4⟩:=h
 exact ⟨s,A,n,c,ns,w'.heap.size,h1,(h2.more h3).keeps ha,Nat.le_refl _,h4⟩
def FV (v:Value) (q:Rat) (k:Nat) (b:Bool) (w:World):Prop:=fJ w ⟨v,q,k,b⟩
def FI (v:Value) (z:Int) (k:Nat) (w:World):Prop:=pF w ⟨v,z,k,true⟩
theorem FV.stable (v:Value) (q:Rat) (k:Nat) (b:Bool):Stable (FV v q k b):=fJ.stable _
theorem FI.stable (v:Value) (z:Int) (k:Nat):Stable (FI v z k):=pF.stable _
theorem FV.shape {v:Value} {q:Rat} {k:Nat} {b:Bool} {w:World} (h:FV v q k b w) : ∃ (s:Bool) (A:Option Addr) (n c:Nat) (A':Option Addr) (n' c':Nat),v=(a0p s A n c A' n' c'):=by
 obtain ⟨s,A,n,c,A',n',c',_,_,h1,_⟩:=h
 exact ⟨s,A,n,c,A',n',c',h1⟩
theorem FV.weak {v:Value} {q:Rat} {k K:Nat} {w:World} (h:FV v q k true w) (hk:k≤K):FV v q K true w:=fJ.weak h hk
theorem FI.weak {v:Value} {z:Int} {k K:Nat} {w:World} (h:FI v z k w) (hk:k≤K):FI v z K w:=pF.weak h hk
theorem FV.as {v:Value} {q r:Rat} {k K:Nat} {w:World} (h:FV v q k true w) (hq:q=r) (hk:k≤K):FV v r K true w:=hq ▸ h.weak hk
theorem FI.as {v:Value} {z y:Int} {k K:Nat} {w:World} (h:FI v z k w) (hq:z=y) (hk:k≤K):FI v y K w:=hq ▸ h.weak hk
theorem FV.zero (k:Nat) (w:World):FV yw 0 k true w :=
 ⟨false,none,0,0,none,0,0,[],[],rfl,Rd.nil_ _ _ _,Rd.nil_ _ _ _,rfl,rfl,Nat.zero_le _,Nat.zero_le _,Nat.le_refl _,Nat.le_refl _,rfl,rfl⟩
theorem FI.zero (w:World):FI (.agg #[.bool false,.slice none 0 0]) 0 0 w:=⟨false,none,0,0,[],0,rfl,Rd.nil_ _ _ _,Nat.zero_le _,rfl,Nat.le_refl _,Nat.le_refl _,rfl,rfl⟩
section
variable (W0:World) (U:List Box) (Ps:List (World→Prop))
def iP (v:Value) (u:Value) (w:World):Prop:=u=v∧St W0 U Ps w
def xY (q:Rat) (k:Nat) (u:Value) (w:World):Prop := ∃ (s:Bool) (A:Option Addr) (n c:Nat) (B:Option Addr) (m d:Nat),u=(a0p s A n c B m d)∧St W0 U (FV (a0p s A n c B m d) q k true :: Ps) w
def Gp (z:Int) (k:Nat) (u:Value) (w:World):Prop := ∃ (s:Bool) (A:Option Addr) (n c:Nat),u = .agg #[.bool s,.slice A n c]∧St W0 U (FI (.agg #[.bool s,.slice A n c]) z k :: Ps) w
def Bo (q:Rat) (k:Nat) (er:Value) (u:Value) (w:World):Prop := ∃ (s:Bool) (A:Option Addr) (n c:Nat) (B:Option Addr) (m d:Nat),u = .tuple #[(a0p s A n c B m d),er]∧St W0 U (FV (a0p s A n c B m d) q k true :: Ps) w
def aaK (z:Int) (k:Nat) (er:Value) (u:Value) (w:World):Prop := ∃ (s:Bool) (A:Option Addr) (n c:Nat),u = .tuple #[.agg #[.bool s,.slice A n c],er]∧St W0 U (FI (.agg #[.bool s,.slice A n c]) z k :: Ps) w
def afz (x y:Int) (k:Nat) (u:Value) (w:World):Prop := ∃ (s:Bool) (A:Option Addr) (n c:Nat) (s':Bool) (A':Option Addr) (n' c':Nat),u = .tuple #[.agg #[.bool s,.slice A n c],.agg #[.bool s',.slice A' n' c']]∧St W0 U (FI (.agg #[.bool s,.slice A n c]) x k :: FI (.agg #[.bool s',.slice A' n' c']) y k :: Ps) w
def afA (x y:Int) (k k':Nat) (er:Value) (u:Value) (w:World):Prop := ∃ (s:Bool) (A:Option Addr) (n c:Nat) (s':Bool) (A':Option Addr) (n' c':Nat),u = .tuple #[.agg #[.bool s,.slice A n c],.agg #[.bool s',.slice A' n' c'],er]∧St W0 U (FI (.agg #[.bool s,.slice A n c]) x k :: FI (.agg #[.bool s',.slice A' n' c']) y k' :: Ps) w
def xG (lo hi:Rat) (k:Nat) (u:Value) (w:World):Prop := ∃ (s:Bool) (A:Option Addr) (n c:Nat) (B:Option Addr) (m d:Nat) (s':Bool) (A':Option Addr) (n' c':Nat) (B':Option Addr) (m' d':Nat),u=(a0r s A n c B m d s' A' n' c' B' m' d') ∧
 St W0 U (FV (a0p s A n c B m d) lo k true :: FV (a0p s' A' n' c' B' m' d') hi k true :: Ps) w
def yY (lo hi:Rat) (k:Nat) (er:Value) (u:Value) (w:World):Prop := ∃ (s:Bool) (A:Option Addr) (n c:Nat) (B:Option Addr) (m d:Nat) (s':Bool) (A':Option Addr) (n' c':Nat) (B':Option Addr) (m' d':Nat),u = .tuple #[(a0r s A n c B m d s' A' n' c' B' m' d'),er] ∧
 St W0 U (FV (a0p s A n c B m d) lo k true :: FV (a0p s' A' n' c' B' m' d') hi k true :: Ps) w
end
theorem St.init (W:World):St W [] [] W:=⟨Below.refl _ _,(fun _ h=>by cases h),(fun _ h=>by cases h),.nil,(fun _ h=>by cases h),(fun _ h=>by cases h)⟩
theorem law_true {P:Program} {f:FuncId} {vs:List Value} {W:World} (h:bY P f vs W (iP W [] [] (.bool true))):Calls P f vs.toArray W fun e w'=>e = .returned (.bool true)∧Below W.heap.size W w' :=
 Calls.mono h fun e w' hh=>by
  obtain ⟨v,rfl,rfl,hs⟩:=hh
  exact ⟨rfl,hs.below⟩
end Lw
namespace Go.Proofs.YtbihljnjaondcaaGreatDoor
open Go Go.RowKit Lw bZ
section
variable {W0 w w':World} {U:List Box} {Ps:List (World→Prop)} {v v':Value} {q r:Rat} {x y:Int} {k k':Nat} {b b':Bool} {f:FuncId} {vs:List Value} {L:List En} {M:List Qn}
theorem St.start (HS:St W0 U Ps w) (ht:Tz W0) (hb:Tab W0):bG w w [] [] [] []:=bG.start (ht.next HS.below) (hb.next HS.below)
theorem GM (HS:St W0 U Ps w) (h:Calls Tryz.prog f vs.toArray w (xH w [] L [] M q k)):bY Tryz.prog f vs w (xY W0 U Ps q k) :=
 h.mono fun e w' hh=>by
  obtain ⟨u,rfl,he⟩:=hh
  obtain ⟨s,A,n,c,A',n',c',e1⟩:=(he.fr _ (.head _)).shape
  dsimp only at e1
  subst e1
  exact ⟨_,rfl,s,A,n,c,A',n',c',rfl,(HS.next he.below).add (FV.stable _ q k true) (he.fr _ (.head _))⟩
theorem ana (HS:St W0 U Ps w) (h:Calls Tryz.prog f vs.toArray w (jB w [] L [] M q k)):bY Tryz.prog f vs w (xY W0 U Ps q k) :=
 h.mono fun e w' hh=>by
  obtain ⟨s,A,n,c,A',n',c',rfl,he⟩:=hh
  exact ⟨_,rfl,s,A,n,c,A',n',c',rfl,(HS.next he.below).add (FV.stable _ q k true) (he.fr _ (.head _))⟩
theorem NP (HS:St W0 U Ps w) (h:Calls Tryz.prog f vs.toArray w (uS w [] L [] M x k)):bY Tryz.prog f vs w (Gp W0 U Ps x k) :=
 h.mono fun e w' hh=>by
  obtain ⟨s,A,n,c,rfl,he⟩:=hh
  exact ⟨_,rfl,s,A,n,c,rfl,(HS.next he.below).add (FI.stable _ x k) (he.env.ops _ (.head _))⟩
theorem GN (HS:St W0 U Ps w) {u:Value} (h:Calls Tryz.prog f vs.toArray w (fun e w'=>e = .returned u∧bG w w' [] L [] M)):bY Tryz.prog f vs w (iP W0 U Ps u) :=
 h.mono fun e w' hh=>by
  obtain ⟨rfl,he⟩:=hh
  exact ⟨_,rfl,rfl,HS.next he.below⟩
theorem NQ (HS:St W0 U Ps w) {er:Value} (h:Calls Tryz.prog f vs.toArray w (fun e w' => ∃ (s:Bool) (A:Option Addr) (n c:Nat) (A':Option Addr) (n' c':Nat),e = .returned (.tuple #[(a0p s A n c A' n' c'),er])∧bG w w' [] L [] (⟨(a0p s A n c A' n' c'),q,k,true⟩ :: M))):bY Tryz.prog f vs w (Bo W0 U Ps q k er) :=
 h.mono fun e w' hh=>by
  obtain ⟨s,A,n,c,A',n',c',rfl,he⟩:=hh
  exact ⟨_,rfl,s,A,n,c,A',n',c',rfl,(HS.next he.below).add (FV.stable _ q k true) (he.fr _ (.head _))⟩
theorem am7 (HS:St W0 U Ps w) {er:Value} (h:Calls Tryz.prog f vs.toArray w (fun e w' => ∃ (s:Bool) (A:Option Addr) (n c:Nat),e = .returned (.tuple #[.agg #[.bool s,.slice A n c],er])∧bG w w' [] (⟨.agg #[.bool s,.slice A n c],x,k,true⟩ :: L) [] M)):bY Tryz.prog f vs w (aaK W0 U Ps x k er) :=
 h.mono fun e w' hh=>by
  obtain ⟨s,A,n,c,rfl,he⟩:=hh
  exact ⟨_,rfl,s,A,n,c,rfl,(HS.next he.below).add (FI.stable _ x k) (he.env.ops _ (.head _))⟩
theorem am8 (HS:St W0 U Ps w) (h:Calls Tryz.prog f vs.toArray w (FM w [] L [] M x y k)):bY Tryz.prog f vs w (afz W0 U Ps x y k) :=
 h.mono fun e w' hh=>by
  obtain ⟨s,A,n,c,s',A',n',c',rfl,he⟩:=hh
  exact ⟨_,rfl,s,A,n,c,s',A',n',c',rfl,((HS.next he.below).add (FI.stable _ y k) (he.env.ops _ (.tail _ (.head _)))).add (FI.stable _ x k) (he.env.ops _ (.head _))⟩
theorem am9 (HS:St W0 U Ps w) {er:Value} (h:Calls Tryz.prog f vs.toArray w (fun e w' => ∃ (s s':Bool) (D D':Option Addr) (m d m' d':Nat),e = .returned (.tuple #[.agg #[.bool s,.slice D m d],.agg #[.bool s',.slice D' m' d'],er])∧bG w w' [] (⟨.agg #[.bool s,.slice D m d],x,k,true⟩ :: ⟨.agg #[.bool s',.slice D' m' d'],y,k',true⟩ :: L) [] M)):bY Tryz.prog f vs w (afA W0 U Ps x y k k' er) :=
 h.mono fun e w' hh=>by
  obtain ⟨s,s',D,D',m,d,m',d',rfl,he⟩:=hh
  exact ⟨_,rfl,s,D,m,d,s',D',m',d',rfl,((HS.next he.below).add (FI.stable _ y k') (he.env.ops _ (.tail _ (.head _)))).add (FI.stable _ x k) (he.env.ops _ (.head _))⟩
theorem xu (HT:Tz W0) (HB:Tab W0) (HS:St W0 U Ps w) {s1:Bool} {A1:Option Addr} {n1 c1:Nat} {B1:Option Addr} {m1 d1:Nat} {q1:Rat} {k1:Nat} {b1:Bool} {s2:Bool} {A2:Option Addr} {n2 c2:Nat} {B2:Option Addr} {m2 d2:Nat} {q2:Rat} {k2:Nat} {b2:Bool} (f1:FV (a0p s1 A1 n1 c1 B1 m1 d1) q1 k1 b1 w) (f2:FV (a0p s2 A2 n2 c2 B2 m2 d2) q2 k2 b2 w) (hk:k1+k2≤8000):bY Tryz.prog 72 [(a0p s1 A1 n1 c1 B1 m1 d1),(a0p s2 A2 n2 c2 B2 m2 d2)] w (xY W0 U Ps (q1+q2) (k1+k2+2)) :=
 GM HS (ayA (((St.start HS HT HB).cons f2).cons f1) (.head _) (.tail _ (.head _)) hk)
theorem iQ (HT:Tz W0) (HB:Tab W0) (HS:St W0 U Ps w) {s1:Bool} {A1:Option Addr} {n1 c1:Nat} {B1:Option Addr} {m1 d1:Nat} {q1:Rat} {k1:Nat} {b1:Bool} {s2:Bool} {A2:Option Addr} {n2 c2:Nat} {B2:Option Addr} {m2 d2:Nat} {q2:Rat} {k2:Nat} {b2:Bool} (f1:FV (a0p s1 A1 n1 c1 B1 m1 d1) q1 k1 b1 w) (f2:FV (a0p s2 A2 n2 c2 B2 m2 d2) q2 k2 b2 w) (hk:k1+k2≤8000):bY Tryz.prog 74 [(a0p s1 A1 n1 c1 B1 m1 d1),(a0p s2 A2 n2 c2 B2 m2 d2)] w (xY W0 U Ps (q1*q2) (k1+k2+2)) :=
 GM HS (ayR (((St.start HS HT HB).cons f2).cons f1) (.head _) (.tail _ (.head _)) hk)
theorem ahr (HT:Tz W0) (HB:Tab W0) (HS:St W0 U Ps w) {s1:Bool} {A1:Option Addr} {n1 c1:Nat} {B1:Option Addr} {m1 d1:Nat} {q1:Rat} {k1:Nat} {b1:Bool} {s2:Bool} {A2:Option Addr} {n2 c2:Nat} {B2:Option Addr} {m2 d2:Nat} {q2:Rat} {k2:Nat} {b2:Bool} (f1:FV (a0p s1 A1 n1 c1 B1 m1 d1) q1 k1 b1 w) (f2:FV (a0p s2 A2 n2 c2 B2 m2 d2) q2 k2 b2 w) (hk:k1+k2≤8000):bY Tryz.prog 137 [(a0p s1 A1 n1 c1 B1 m1 d1),(a0p s2 A2 n2 c2 B2 m2 d2)] w (xY W0 U Ps (gY q1 q2) (k1+k2)) :=
 GM HS (ayP (((St.start HS HT HB).cons f2).cons f1) (.head _) (.tail _ (.head _)) hk)
theorem ahq (HT:Tz W0) (HB:Tab W0) (HS:St W0 U Ps w) {s1:Bool} {A1:Option Addr} {n1 c1:Nat} {B1:Option Addr} {m1 d1:Nat} {q1:Rat} {k1:Nat} {b1:Bool} {s2:Bool} {A2:Option Addr} {n2 c2:Nat} {B2:Option Addr} {m2 d2:Nat} {q2:Rat} {k2:Nat} {b2:Bool} (f1:FV (a0p s1 A1 n1 c1 B1 m1 d1) q1 k1 b1 w) (f2:FV (a0p s2 A2 n2 c2 B2 m2 d2) q2 k2 b2 w) (hk:k1+k2≤8000):bY Tryz.prog 136 [(a0p s1 A1 n1 c1 B1 m1 d1),(a0p s2 A2 n2 c2 B2 m2 d2)] w (xY W0 U Ps (gX q1 q2) (k1+k2)) :=
 GM HS (ayN (((St.start HS HT HB).cons f2).cons f1) (.head _) (.tail _ (.head _)) hk)
theorem X5 (HT:Tz W0) (HB:Tab W0) (HS:St W0 U Ps w) {s1:Bool} {A1:Option Addr} {n1 c1:Nat} {B1:Option Addr} {m1 d1:Nat} {q1:Rat} {k1:Nat} {b1:Bool} (f1:FV (a0p s1 A1 n1 c1 B1 m1 d1) q1 k1 b1 w) (hk:k1≤100000):bY Tryz.prog 71 [(a0p s1 A1 n1 c1 B1 m1 d1)] w (xY W0 U Ps (-q1) (k1)) :=
 ana HS (ayS ((St.start HS HT HB).cons f1) (.head _) hk)
theorem ahs (HT:Tz W0) (HB:Tab W0) (HS:St W0 U Ps w) {s1:Bool} {A1:Option Addr} {n1 c1:Nat} {B1:Option Addr} {m1 d1:Nat} {q1:Rat} {k1:Nat} {b1:Bool} (f1:FV (a0p s1 A1 n1 c1 B1 m1 d1) q1 k1 b1 w) (hk:k1≤100000):bY Tryz.prog 113 [(a0p s1 A1 n1 c1 B1 m1 d1)] w (iP W0 U Ps (.bool b1)) :=
 GN HS (ay6 ((St.start HS HT HB).cons f1) (.head _) hk)
theorem amZ (HT:Tz W0) (HB:Tab W0) (HS:St W0 U Ps w) {s1:Bool} {A1:Option Addr} {n1 c1:Nat} {B1:Option Addr} {m1 d1:Nat} {q1:Rat} {k1:Nat} {b1:Bool} (f1:FV (a0p s1 A1 n1 c1 B1 m1 d1) q1 k1 b1 w) (hk:k1≤40000):bY Tryz.prog 29 [(a0p s1 A1 n1 c1 B1 m1 d1)] w (iP W0 U Ps (.string ⟨(wJ q1).toArray⟩)) :=
 GN HS (ay5 ((St.start HS HT HB).cons f1) (.head _) hk)
theorem ayU (HT:Tz W0) (HB:Tab W0) (HS:St W0 U Ps w) {s1:Bool} {A1:Option Addr} {n1 c1:Nat} {B1:Option Addr} {m1 d1:Nat} {q1:Rat} {k1:Nat} {b1:Bool} (f1:FV (a0p s1 A1 n1 c1 B1 m1 d1) q1 k1 b1 w) (hk:k1≤100000):bY Tryz.prog 222 [(a0p s1 A1 n1 c1 B1 m1 d1)] w (afz W0 U Ps (q1.num) ((q1.den:Int)) (k1+2)) :=
 am8 HS (ayV ((St.start HS HT HB).cons f1) (.head _) hk)
theorem ahp (HT:Tz W0) (HB:Tab W0) (HS:St W0 U Ps w) {z1:Int} {z2:Int}  (h1 : -9223372036854775808≤z1) (h2:z1≤9223372036854775807) (h3 : -9223372036854775808≤z2) (h4:z2≤9223372036854775807) (hy:z2≠0):bY Tryz.prog 80 [.int .i64 z1,.int .i64 z2] w (Bo W0 U Ps (Rat.divInt z1 z2) (2) (.nilIface)) :=
 NQ HS (ayL (St.start HS HT HB)  h1 h2 h3 h4 hy)
theorem Vm (HT:Tz W0) (HB:Tab W0) (HS:St W0 U Ps w) {z1:Int}  (h1 : -9223372036854775808≤z1) (h2:z1≤9223372036854775807):bY Tryz.prog 93 [.int .i64 z1] w (xY W0 U Ps ((z1:Rat)) (6)) :=
 GM HS (aEz (St.start HS HT HB)  h1 h2)
theorem ayG (HT:Tz W0) (HB:Tab W0) (HS:St W0 U Ps w) {s1:Bool} {A1:Option Addr} {n1 c1:Nat} {B1:Option Addr} {m1 d1:Nat} {q1:Rat} {k1:Nat} {b1:Bool} {m2:Nat} (f1:FV (a0p s1 A1 n1 c1 B1 m1 d1) q1 k1 b1 w) (hk:k1≤8000) (hm:m2≤256):bY Tryz.prog 15 [(a0p s1 A1 n1 c1 B1 m1 d1),.int .i64 (m2:Int)] w (Bo W0 U Ps (Rat.divInt (q1.num*((2 ^ m2:Nat):Int) / (q1.den:Int)) ((2 ^ m2:Nat):Int)) (2*k1+60) (.nilIface)) :=
 NQ HS (ayH ((St.start HS HT HB).cons f1) (.head _) hk hm)
theorem Qb (HT:Tz W0) (HB:Tab W0) (HS:St W0 U Ps w) {s1:Bool} {A1:Option Addr} {n1 c1:Nat} {B1:Option Addr} {m1 d1:Nat} {q1:Rat} {k1:Nat} {b1:Bool} {s2:Bool} {A2:Option Addr} {n2 c2:Nat} {B2:Option Addr} {m2 d2:Nat} {q2:Rat} {k2:Nat} {b2:Bool} (f1:FV (a0p s1 A1 n1 c1 B1 m1 d1) q1 k1 b1 w) (f2:FV (a0p s2 A2 n2 c2 B2 m2 d2) q2 k2 b2 w) (hk:k1+k2≤800):bY Tryz.prog 122 [(a0p s1 A1 n1 c1 B1 m1 d1),(a0p s2 A2 n2 c2 B2 m2 d2)] w (iP W0 U Ps (.int .i64 (qF q1 q2))) :=
 GN HS (aEk (((St.start HS HT HB).cons f2).cons f1) (.head _) (.tail _ (.head _)) hk)
theorem aqV (HT:Tz W0) (HB:Tab W0) (HS:St W0 U Ps w) {s1:Bool} {A1:Option Addr} {n1 c1:Nat} {B1:Option Addr} {m1 d1:Nat} {q1:Rat} {k1:Nat} {b1:Bool} (f1:FV (a0p s1 A1 n1 c1 B1 m1 d1) q1 k1 b1 w) (hk:k1≤3000):bY Tryz.prog 130 [(a0p s1 A1 n1 c1 B1 m1 d1)] w (iP W0 U Ps (.bool b1)) :=
 GN HS (aEC ((St.start HS HT HB).cons f1) (.head _) hk)
theorem az9 (HT:Tz W0) (HB:Tab W0) (HS:St W0 U Ps w) {s1:Bool} {A1:Option Addr} {n1 c1:Nat} {x1:Int} {k1:Nat} {s2:Bool} {A2:Option Addr} {n2 c2:Nat} {x2:Int} {k2:Nat} (f1:FI (.agg #[.bool s1,.slice A1 n1 c1]) x1 k1 w) (f2:FI (.agg #[.bool s2,.slice A2 n2 c2]) x2 k2 w) (hk:k1+k2≤100000):bY Tryz.prog 192 [.agg #[.bool s1,.slice A1 n1 c1],.agg #[.bool s2,.slice A2 n2 c2]] w (Gp W0 U Ps (x1+x2) (k1+k2+1)) :=
 NP HS (an' (((St.start HS HT HB).push f2).push f1) (.head _) (.tail _ (.head _)) hk)
theorem Aw (HT:Tz W0) (HB:Tab W0) (HS:St W0 U Ps w) {s1:Bool} {A1:Option Addr} {n1 c1:Nat} {x1:Int} {k1:Nat} {s2:Bool} {A2:Option Addr} {n2 c2:Nat} {x2:Int} {k2:Nat} (f1:FI (.agg #[.bool s1,.slice A1 n1 c1]) x1 k1 w) (f2:FI (.agg #[.bool s2,.slice A2 n2 c2]) x2 k2 w) (hk:k1+k2≤100000):bY Tryz.prog 91 [.agg #[.bool s1,.slice A1 n1 c1],.agg #[.bool s2,.slice A2 n2 c2]] w (Gp W0 U Ps (x1*x2) (k1+k2+1)) :=
 NP HS (Su (((St.start HS HT HB).push f2).push f1) (.head _) (.tail _ (.head _)) hk)
theorem ah7 (HT:Tz W0) (HB:Tab W0) (HS:St W0 U Ps w) {s1:Bool} {A1:Option Addr} {n1 c1:Nat} {x1:Int} {k1:Nat} {s2:Bool} {A2:Option Addr} {n2 c2:Nat} {x2:Int} {k2:Nat} (f1:FI (.agg #[.bool s1,.slice A1 n1 c1]) x1 k1 w) (f2:FI (.agg #[.bool s2,.slice A2 n2 c2]) x2 k2 w) (hk:k1+k2≤100000):bY Tryz.prog 112 [.agg #[.bool s1,.slice A1 n1 c1],.agg #[.bool s2,.slice A2 n2 c2]] w (iP W0 U Ps (.int .i64 (vP x1 x2))) :=
 GN HS (aoa (((St.start HS HT HB).push f2).push f1) (.head _) (.tail _ (.head _)) hk)
theorem aok (HT:Tz W0) (HB:Tab W0) (HS:St W0 U Ps w) {s1:Bool} {A1:Option Addr} {n1 c1:Nat} {x1:Int} {k1:Nat} (f1:FI (.agg #[.bool s1,.slice A1 n1 c1]) x1 k1 w) (hk:k1≤100000):bY Tryz.prog 223 [.agg #[.bool s1,.slice A1 n1 c1]] w (iP W0 U Ps (.int .i64 (sV x1))) :=
 GN HS (ah8 ((St.start HS HT HB).push f1) (.head _) hk)
theorem aAr (HT:Tz W0) (HB:Tab W0) (HS:St W0 U Ps w) {z1:Int}  (h1 : -9223372036854775808≤z1) (h2:z1≤9223372036854775807):bY Tryz.prog 111 [.int .i64 z1] w (Gp W0 U Ps (z1) (2)) :=
 NP HS (ac0 (St.start HS HT HB)  h1 h2)
theorem Bd (HT:Tz W0) (HB:Tab W0) (HS:St W0 U Ps w) {s1:Bool} {A1:Option Addr} {n1 c1:Nat} {x1:Int} {k1:Nat} {s2:Bool} {A2:Option Addr} {n2 c2:Nat} {x2:Int} {k2:Nat} (f1:FI (.agg #[.bool s1,.slice A1 n1 c1]) x1 k1 w) (f2:FI (.agg #[.bool s2,.slice A2 n2 c2]) x2 k2 w) (hk:k1+k2≤100000) (hy:x2≠0):bY Tryz.prog 155 [.agg #[.bool s1,.slice A1 n1 c1],.agg #[.bool s2,.slice A2 n2 c2]] w (afA W0 U Ps (x1 / x2) (x1 % x2) (k1+1) (k2) (.nilIface)) :=
 am9 HS (aob (((St.start HS HT HB).push f2).push f1) (.head _) (.tail _ (.head _)) hk hy)
theorem aAw (HT:Tz W0) (HB:Tab W0) (HS:St W0 U Ps w) {s1:Bool} {A1:Option Addr} {n1 c1:Nat} {x1:Int} {k1:Nat} (f1:FI (.agg #[.bool s1,.slice A1 n1 c1]) x1 k1 w) (hk:k1≤100000) (hx:0≤x1):bY Tryz.prog 158 [.agg #[.bool s1,.slice A1 n1 c1]] w (aaK W0 U Ps (((rt x1.natAbs:Nat):Int)) (k1) (.nilIface)) :=
 am7 HS (aAx ((St.start HS HT HB).push f1) (.head _) hk hx)
end
end Go.Proofs.YtbihljnjaondcaaGreatDoor
namespace Go.Proofs.YtbihljnjaondcaaGreatDoor
open Go Go.RowKit Lw bZ
section
variable {W0 w:World} {U:List Box} {Ps:List (World→Prop)}
theorem two_pos (m:Nat):(((2 ^ m:Nat):Int))≠0:=by
 have:=Nat.two_pow_pos m
 omega
end
end Go.Proofs.YtbihljnjaondcaaGreatDoor
namespace Go.Proofs.YtbihljnjaondcaaGreatDoor
open Go Go.RowKit Lw bZ
section
variable {W0 w:World} {U:List Box} {Ps:List (World→Prop)}
theorem St.same (HS:St W0 U Ps w) {f:FuncId} {vs:List Value} {u:Value} (h:Calls Tryz.prog f vs.toArray w (fun e w'=>e = .returned u∧w=w')):bY Tryz.prog f vs w (iP W0 U Ps u) :=
 h.mono fun e w' hh=>by
  obtain ⟨rfl,rfl⟩:=hh
  exact ⟨_,rfl,rfl,HS⟩
theorem aBz (HS:St W0 U Ps w):bY Tryz.prog 20 [.nilIface] w (iP W0 U Ps (.int .i64 0)):=St.same HS (aBy w)
theorem Bo.more {f:FuncId} {vs:List Value} {q r:Rat} {er:Value} {k K:Nat} (h:bY Tryz.prog f vs w (Bo W0 U Ps q k er)) (hq:q=r) (hk:k≤K):bY Tryz.prog f vs w (Bo W0 U Ps r K er) :=
 Calls.mono h fun e w' hh=>by
  subst hq
  obtain ⟨u,rfl,s,A,n,c,B,m,d,rfl,hs⟩:=hh
  exact ⟨_,rfl,_,_,_,_,_,_,_,rfl,hs.out 0 1 0 rfl rfl rfl (fun _ h=>h.weak hk)⟩
theorem Bo.of {f:FuncId} {vs:List Value} {er:Value} {q:Rat} {k:Nat} (HS:St W0 U Ps w) {L:List En} {M:List Qn} (h:Calls Tryz.prog f vs.toArray w (fun e w' => ∃ (s:Bool) (A:Option Addr) (n c:Nat) (A':Option Addr) (n' c':Nat),e = .returned (.tuple #[(a0p s A n c A' n' c'),er])∧bG w w' [] L [] (⟨(a0p s A n c A' n' c'),q,k,true⟩ :: M))):bY Tryz.prog f vs w (Bo W0 U Ps q k er):=NQ HS h
end
def Both (P:Program) (f f':FuncId) (q:Rat) (k:Nat) (b:Bool) (z:Int) (r:Rat) (K:Nat) (er er':Value):Prop :=
 ∀ (W0 w:World) (U:List Box) (Ps:List (World→Prop)) (s:Bool) (A:Option Addr) (n c:Nat) (B:Option Addr) (m d:Nat),Tz W0→Tab W0→St W0 U Ps w→FV (a0p s A n c B m d) q k b w →
  bY P f [(a0p s A n c B m d),.int .i64 z] w (Bo W0 U Ps r K er)∧bY P f' [(a0p s A n c B m d),.int .i64 z] w (Bo W0 U Ps r K er')
def y9 (er:Value) (code:Int):Prop := ∀ (W0 w:World) (U:List Box) (Ps:List (World→Prop)),St W0 U Ps w→bY Tryz.prog 20 [er] w (iP W0 U Ps (.int .i64 code))
theorem y9.nil_:y9 .nilIface 0:=fun _ _ _ _ HS=>aBz HS
end Go.Proofs.YtbihljnjaondcaaGreatDoor
