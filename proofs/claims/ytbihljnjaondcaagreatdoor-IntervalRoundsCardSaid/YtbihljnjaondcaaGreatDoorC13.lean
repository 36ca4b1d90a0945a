/- Part of a proof, said shortly. -/
import Derived.Deep.RegionWith
import Derived.Test.YtbihljnjaondcaaGreatDoorAlz
import Derived.Test.YtbihljnjaondcaaGreatDoorC12
import Derived.Test.YtbihljnjaondcaaGreatDoorC11
import Derived.Test.YtbihljnjaondcaaGreatDoorC10
import Derived.Test.YtbihljnjaondcaaGreatDoorC6
import Derived.Test.YtbihljnjaondcaaGreatDoorC2
import Derived.Test.YtbihljnjaondcaaGreatDoorC1
import Derived.Test.YtbihljnjaondcaaGreatDoorC5
import Derived.Test.YtbihljnjaondcaaGreatDoorC4
import Derived.Test.YtbihljnjaondcaaGreatDoorC3
import Derived.Test.YtbihljnjaondcaaGreatDoorC9
import Derived.Test.YtbihljnjaondcaaGreatDoorC8
import Derived.Test.YtbihljnjaondcaaGreatDoorC7
namespace Go.Proofs.YtbihljnjaondcaaGreatDoor
open Go Go.RowKit Lw
section
variable {W0 w:World} {bs:List Bx} {L:List En} {ts:List Bt} {M:List Qn} {s s':Bool} {A A' B B':Option Addr} {n c n' c' m d m' d' k k':Nat} {q r:Rat} {x y:Int}
set_option maxRecDepth 100000 in
set_option maxHeartbeats 4000000 in
theorem ash (HE:bG W0 w bs L ts M) (h:⟨.agg #[.bool s,.slice A n c,.slice A' n' c'],q,k,true⟩∈M) (h':⟨.agg #[.bool s',.slice B m d,.slice B' m' d'],r,k',true⟩∈M) (hk:k+k'≤8000) :
  Calls Tryz.prog 148 #[.agg #[.bool s,.slice A n c,.slice A' n' c'],.agg #[.bool s',.slice B m d,.slice B' m' d']] w (jB W0 bs L ts M (q*r) (k+k'+2)):=by
 suffices hs:Calls Tryz.prog 148 #[.agg #[.bool s,.slice A n c,.slice A' n' c'],.agg #[.bool s',.slice B m d,.slice B' m' d']] w (jB w [] L [] M (q*r) (k+k'+2)) from hs.mono fun _ _ hh=>jB.of HE hh
 have H1:=((HE.here.gQ (.bool s) (.slice A n c) (.slice A' n' c')).gQ (.bool s') (.slice B m d) (.slice B' m' d')).gQ (.bool false) (.slice none 0 0) (.slice none 0 0)
 simp only [World.size_alloc] at H1
 have HP:=Lib.hid (ao2 (HE.fr _ h).lt (HE.fr _ h').lt)
 by_cases hb:(zU q&&zU r)=true
 ·have hb2:zU q=true∧zU r=true:=by simpa using hb
  obtain ⟨z1,z2⟩:=Ql hb2.1
  obtain ⟨z3,z4⟩:=Ql hb2.2
  have HB:=Lib.hid hb
  have p1:=SK (a:=q.num) (b:=r.num) z1 z3
  have p3:=SK (a:=(q.den:Int)) (b:=(r.den:Int)) (by omega) (by omega)
  have p4:=Int.mul_pos (den_pos q) (den_pos r)
  have y1:IntKind.i64.wrap (q.num*r.num)=q.num*r.num:=Bh (by omega) (by omega)
  have y4:IntKind.i64.wrap ((q.den:Int)*(r.den:Int))=(q.den:Int)*(r.den:Int):=Bh (by omega) (by omega)
  have HS:=Lib.hid (show (-9223372036854775808≤q.num*r.num∧q.num*r.num≤9223372036854775807)∧0 < (q.den:Int)*(r.den:Int)∧(q.den:Int)*(r.den:Int)≤9223372036854775807 from ⟨⟨by omega,by omega⟩,p4,by omega⟩)
  clear p1 p3 p4
  clear hb hb2 z1 z2 z3 z4
  go_enter Tryz.func148,Tryz.ntmps148
  have HE:=H1
  clear H1
  obtain ⟨q0,q1,q2,q3,q4,q5⟩:=HE.c3 (.head _)
  obtain ⟨q6,q7,q8,q9,q10,q11⟩:=HE.c3 (.tail _ (.head _))
  obtain ⟨q12,q13,jC,jD,q16,jE⟩:=HE.c3 (.tail _ (.tail _ (.head _)))
  go_wp2_with fail
  refine (Vx HE h h' (by omega)).mono ?_
  clear HE
  rw [HB.out,ajx]
  rintro e w1 ⟨rfl,HE⟩
  clear q0 q1 q2 q3 q4 q5 q6 q7 q8 q9 q10 q11 q12 q13 jC jD q16 jE
  have TA:=(Two.new w1 150 (.int .i64 q.num) (.int .i64 (q.den:Int))).alloc (.cells #[.int .i64 r.num,.int .i64 (r.den:Int)] 150)
  have TB:=Two.new (w1.alloc (.cells #[.int .i64 q.num,.int .i64 (q.den:Int)] 150)) 150 (.int .i64 r.num) (.int .i64 (r.den:Int))
  replace HE:=(HE.alloc (.cells #[.int .i64 q.num,.int .i64 (q.den:Int)] 150)).alloc (.cells #[.int .i64 r.num,.int .i64 (r.den:Int)] 150)
  simp only [World.size_alloc] at TA TB
  obtain ⟨u0,u1,u2,u3⟩:=TA.facts
  obtain ⟨v0,v1,v2,v3⟩:=TB.facts
  obtain ⟨kL,kM,lH,lI,q22,q23⟩:=HE.c3 (.head _)
  obtain ⟨q24,mG,mX,mY,nV,nX⟩:=HE.c3 (.tail _ (.head _))
  obtain ⟨q30,nY,q32,og,pg,q35⟩:=HE.c3 (.tail _ (.tail _ (.head _)))
  go_wp2_with fail
  refine (aqB HE HS.out.1.1 HS.out.1.2 HS.out.2.1 HS.out.2.2).mono ?_
  rintro e w2 ⟨sx,Ax,nx,cx,Ay,ny,cy,rfl,HE⟩
  rw [← ais] at HE
  clear u0 u1 u2 u3 v0 v1 v2 v3 TA TB
  clear kL kM lH lI q22 q23 q24 mG mX mY nV nX q30 nY q32 og pg q35
  obtain ⟨vS,q37,wG,wX,wY,wZ⟩:=HE.c3 (.head _)
  obtain ⟨xA,xB,yG,yH,yI,yJ⟩:=HE.c3 (.tail _ (.head _))
  obtain ⟨zq,zu,zx,zy,zA,zB⟩:=HE.c3 (.tail _ (.tail _ (.head _)))
  go_wp2_with fail
  have HF:=HE.tK (D:=Ax) (m:=nx) (d:=cx) (.head _) sx (.slice Ay ny cy)
  refine bodyPost_ret (v := .agg #[.bool sx,.slice Ax nx cx,.slice Ay ny cy]) (by simp [results,Tryz.results148,go_sem,vS,q37,wG]) rfl ?_
  exact ⟨_,_,_,_,_,_,_,rfl,HF.bare.hd (·.weak (by omega))⟩
 ·have HB:=Lib.hid (Bool.eq_false_iff.2 hb)
  obtain ⟨g,hg⟩ : ∃ g:Int,g=(Nat.gcd q.num.natAbs (r.den:Int).natAbs:Nat):=⟨_,rfl⟩
  obtain ⟨t,ht⟩ : ∃ t:Int,t=(Nat.gcd r.num.natAbs (q.den:Int).natAbs:Nat):=⟨_,rfl⟩
  have HG:=Lib.hid hg
  have HH:=Lib.hid ht
  rw [Int.natAbs_natCast] at hg ht
  have hl:=aBf q r hg ht
  have HL:=Lib.hid (show (q*r).num=q.num / g*(r.num / t)∧((q*r).den:Int)=(q.den:Int) / t*((r.den:Int) / g)∧0 < g∧0 < t from ⟨hl.1,hl.2.1,by omega,by omega⟩)
  clear hg ht hl
  clear hb
  go_enter Tryz.func148,Tryz.ntmps148
  have HE:=H1
  clear H1
  obtain ⟨q0,q1,q2,q3,q4,q5⟩:=HE.c3 (.head _)
  obtain ⟨q6,q7,q8,q9,q10,q11⟩:=HE.c3 (.tail _ (.head _))
  obtain ⟨q12,q13,jC,jD,q16,jE⟩:=HE.c3 (.tail _ (.tail _ (.head _)))
  go_wp2_with fail
  refine (Vx HE h h' (by omega)).mono ?_
  clear HE
  rw [HB.out,ajw]
  rintro e w1 ⟨rfl,HE⟩
  clear q0 q1 q2 q3 q4 q5 q6 q7 q8 q9 q10 q11 q12 q13 jC jD q16 jE
  have TA:=(Two.new w1 150 (.int .i64 0) (.int .i64 0)).alloc (.cells #[.int .i64 0,.int .i64 0] 150)
  have TB:=Two.new (w1.alloc (.cells #[.int .i64 0,.int .i64 0] 150)) 150 (.int .i64 0) (.int .i64 0)
  replace HE:=(HE.alloc (.cells #[.int .i64 0,.int .i64 0] 150)).alloc (.cells #[.int .i64 0,.int .i64 0] 150)
  simp only [World.size_alloc] at TA TB
  clear TA TB
  obtain ⟨kL,kM,lH,lI,q22,q23⟩:=HE.c3 (.head _)
  obtain ⟨q24,mG,mX,mY,nV,nX⟩:=HE.c3 (.tail _ (.head _))
  obtain ⟨q30,nY,q32,og,pg,q35⟩:=HE.c3 (.tail _ (.tail _ (.head _)))
  go_wp2_with fail
  refine (KO HE h).mono ?_
  clear HE
  rintro e w2 ⟨s1,D1,m1,d1,s2,D2,m2,d2,rfl,HE⟩
  have HLW:=Lib.hid HE.below.size
  clear kL kM lH lI q22 q23 q24 mG mX mY nV nX q30 nY q32 og pg q35
  replace HE:=(HE.fF (.bool s1) (.slice D1 m1 d1)).fF (.bool s2) (.slice D2 m2 d2)
  simp only [World.size_alloc] at HE
  obtain ⟨vS,q37,wG,wX⟩:=HE.c2 (.head _)
  obtain ⟨wY,wZ,xA,xB⟩:=HE.c2 (.tail _ (.head _))
  obtain ⟨yG,yH,yI,yJ,zq,zu⟩:=HE.c3 (.head _)
  obtain ⟨zx,zy,zA,zB,He,Hg⟩:=HE.c3 (.tail _ (.head _))
  obtain ⟨Jq,Jr,Js,Jt,Ju,Jw⟩:=HE.c3 (.tail _ (.tail _ (.head _)))
  go_wp2_with fail
  refine (KO HE h').mono ?_
  clear HE
  rintro e w3 ⟨s3,D3,m3,d3,s4,D4,m4,d4,rfl,HE⟩
  have Po:=Lib.hid (HE.Oa (.head _))
  clear vS q37 wG wX wY wZ xA xB yG yH yI yJ zq zu zx zy zA zB He Hg Jq Jr Js Jt Ju Jw
  replace HE:=(HE.fF (.bool s3) (.slice D3 m3 d3)).fF (.bool s4) (.slice D4 m4 d4)
  simp only [World.size_alloc] at HE
  obtain ⟨Jy,Jz,JA,JB⟩:=HE.c2 (.head _)
  obtain ⟨JD,JE,JF,JG⟩:=HE.c2 (.tail _ (.head _))
  obtain ⟨JH,JI,KP,KQ⟩:=HE.c2 (.tail _ (.tail _ (.head _)))
  obtain ⟨KR,KT,KU,KW⟩:=HE.c2 (.tail _ (.tail _ (.tail _ (.head _))))
  obtain ⟨S9,Tc,Td,Tf,Ti,Tj⟩:=HE.c3 (.head _)
  obtain ⟨Tm,Tn,U9,Va,Vb,Vd⟩:=HE.c3 (.tail _ (.head _))
  obtain ⟨Ve,Vf,Vg,Vh,Y9,Za⟩:=HE.c3 (.tail _ (.tail _ (.head _)))
  go_wp2_with fail
  generalize ((w3.alloc (.cells #[.bool s3,.slice D3 m3 d3] 39)).alloc (.cells #[.bool s4,.slice D4 m4 d4] 39))=W5 at *
  have hS : ∀ v,Below W5.heap.size W5 v→(fun w'=>w'.cell? ⟨w2.heap.size,0,none⟩=some (.bool s1)∧w'.cell? ⟨w2.heap.size,1,none⟩=some (.slice D1 m1 d1)∧w'.cell? ⟨w2.heap.size+1,0,none⟩=some (.bool s2)∧w'.cell? ⟨w2.heap.size+1,1,none⟩=some (.slice D2 m2 d2)∧w'.cell? ⟨w3.heap.size,0,none⟩=some (.bool s3)∧w'.cell? ⟨w3.heap.size,1,none⟩=some (.slice D3 m3 d3)∧w'.cell? ⟨w3.heap.size+1,0,none⟩=some (.bool s4)∧w'.cell? ⟨w3.heap.size+1,1,none⟩=some (.slice D4 m4 d4)) v:=fun v hv=>bG.c4 (HE.next hv)
  have HR:=HE.here
  go_cut [12,13] (fun sl sm wx => ∃ (ga:Nat) (sa:Bool) (Aa:Option Addr) (na ca gb:Nat) (sb:Bool) (Ab:Option Addr) (nb cb:Nat),(sl = .pointer (some ⟨ga,0,none⟩)∧sm = .pointer (some ⟨gb,0,none⟩))∧W5.heap.size≤ga∧W5.heap.size≤gb∧Two wx ga 39 (.bool sa) (.slice Aa na ca)∧Two wx gb 39 (.bool sb) (.slice Ab nb cb)∧bG W5 wx [] (⟨.agg #[.bool sb,.slice Ab nb cb],t,k'+2+(k+2)+2,true⟩ :: ⟨.agg #[.bool sa,.slice Aa na ca],g,k+2+(k'+2)+2,true⟩ :: ⟨.agg #[.bool s3,.slice D3 m3 d3],r.num,k'+2,true⟩ :: ⟨.agg #[.bool s4,.slice D4 m4 d4],(r.den:Int),k'+2,true⟩ :: ⟨.agg #[.bool s1,.slice D1 m1 d1],q.num,k+2,true⟩ :: ⟨.agg #[.bool s2,.slice D2 m2 d2],(q.den:Int),k+2,true⟩ :: L) [] M)
  case first =>
   go_region_held3 (fun w'=>w'.cell? ⟨w2.heap.size,0,none⟩=some (.bool s1)∧w'.cell? ⟨w2.heap.size,1,none⟩=some (.slice D1 m1 d1)∧w'.cell? ⟨w2.heap.size+1,0,none⟩=some (.bool s2)∧w'.cell? ⟨w2.heap.size+1,1,none⟩=some (.slice D2 m2 d2)∧w'.cell? ⟨w3.heap.size,0,none⟩=some (.bool s3)∧w'.cell? ⟨w3.heap.size,1,none⟩=some (.slice D3 m3 d3)∧w'.cell? ⟨w3.heap.size+1,0,none⟩=some (.bool s4)∧w'.cell? ⟨w3.heap.size+1,1,none⟩=some (.slice D4 m4 d4)) (first | (with_reducible first | exact hS _ HR.below | exact hS _ HR.drew.below | exact hS _ HR.b1.below | exact hS _ HR.b1.drew.below | exact hS _ HR.b2.below | exact hS _ HR.b2.drew.below) | (with_reducible refine hS _ ?_; (repeat' (first | with_reducible exact HR.below | with_reducible exact HR.drew.below | with_reducible refine Below.setCell ?_ ?_ _ | with_reducible refine Below.alloc ?_ ?_ _ | (simp only [World.size_setCell,World.size_alloc]; omega) | omega)); done))
    (first
     | (go_at_call 195; have _:=y8; refine (abO (by with_reducible first | exact HR | exact HR.drew | exact HR.b1 | exact HR.b1.drew | exact HR.b2 | exact HR.b2.drew) (by repeat (first | exact .head _ | assumption | refine .tail _ ?_)) (by repeat (first | exact .head _ | assumption | refine .tail _ ?_)) (by omega)).mono ?_; clear HR; rintro e w6 ⟨sb,Ab,nb,cb,rfl,HR⟩; rw [← HH.out] at HR; have hz:=HR.below.size; (try (have hy:=HR.Oa (.head _); have hn1:=Nat.ne_of_lt hy; have hn2:=Nat.ne_of_gt hy)); (try (have hx:=HR.Oa (.tail _ (.head _)); have hn3:=Nat.ne_of_lt hx; have hn4:=Nat.ne_of_gt hx)); try obtain ⟨z0,z1,z2,z3⟩:=bG.c2 HR (.head _); try obtain ⟨z4,z5,z6,z7⟩:=bG.c2 HR (.tail _ (.head _)); try obtain ⟨z8,z9,z10,z11⟩:=bG.c2 HR.b1 (.head _); try obtain ⟨z12,z13,z14,z15⟩:=bG.c2 HR.b1 (.tail _ (.head _)))
     | (go_at_call 195; refine (abO (by with_reducible first | exact HR | exact HR.drew | exact HR.b1 | exact HR.b1.drew | exact HR.b2 | exact HR.b2.drew) (by repeat (first | exact .head _ | assumption | refine .tail _ ?_)) (by repeat (first | exact .head _ | assumption | refine .tail _ ?_)) (by omega)).mono ?_; clear HR; rintro e wn ⟨sa,Aa,na,ca,rfl,HR⟩; rw [← HG.out] at HR; have y8:=HG; have hz:=HR.below.size; (try (have hy:=HR.Oa (.head _); have hn1:=Nat.ne_of_lt hy; have hn2:=Nat.ne_of_gt hy)); (try (have hx:=HR.Oa (.tail _ (.head _)); have hn3:=Nat.ne_of_lt hx; have hn4:=Nat.ne_of_gt hx))))
   all_goals go_wp2_with fail
   all_goals go_meet
   all_goals (try have HT1:=HR.two (.head _))
   all_goals (try have HT2:=HR.two (.tail _ (.head _)))
   all_goals have HB:=HR.bare
   all_goals refine ⟨_,sa,Aa,na,ca,_,sb,Ab,nb,cb,⟨rfl,rfl⟩,?_,?_,?_,?_,?_⟩
   all_goals first | omega | (simp only [World.size_setCell,World.size_alloc]; omega) | skip
   all_goals first | (with_reducible first | exact (Two.new _ _ _ _).alloc _ | exact aw3 (by simp only [World.size_setCell,World.size_alloc]) | exact (HT1.put _ _).alloc _ | exact Un (HT1.put _ _) (by omega) _ _ | exact (Un HT1 (by omega) _ _).put _ _ | exact (HT2.put _ _).alloc _ | exact Un (HT2.put _ _) (by omega) _ _ | exact (Un HT2 (by omega) _ _).put _ _) | (with_reducible first | exact (HB.alloc _).alloc _ | exact (bG.OZ HB HT1 (by omega) _ _).alloc _ | exact bG.OZ (bG.OZ HB HT1 (by omega) _ _) (Un HT2 (by omega) _ _) (by omega) _ _ | exact (bG.OZ HB HT2 (by omega) _ _).alloc _ | exact bG.OZ (bG.OZ HB HT2 (by omega) _ _) (Un HT1 (by omega) _ _) (by omega) _ _)
  case rest =>
   clear HR hS Jy Jz JA JB JD JE JF JG JH JI KP KQ KR KT KU KW S9 Tc Td Tf Ti Tj Tm Tn U9 Va Vb Vd Ve Vf Vg Vh Y9 Za
   obtain ⟨ga,sa,Aa,na,ca,gb,sb,Ab,nb,cb,⟨rfl,rfl⟩,hga,hgb,hta,htb,HR⟩:=hcut
   replace HE:=HE.join ((HR.agT hta hga).agT htb hgb)
   clear HR hta htb hga hgb
   simp only [List.cons_append,List.nil_append] at HE
   obtain ⟨Zb,Zc,Zd,Ze⟩:=HE.c2 (.head _)
   obtain ⟨adY,adZ,ad1,ad2⟩:=HE.c2 (.tail _ (.head _))
   obtain ⟨ad3,ad4,ad5,ad6⟩:=HE.c2 (.tail _ (.tail _ (.head _)))
   obtain ⟨aiF,aiH,aiI,aiJ⟩:=HE.c2 (.tail _ (.tail _ (.tail _ (.head _))))
   obtain ⟨aiK,aiL,aiM,aiN⟩:=HE.c2 (.tail _ (.tail _ (.tail _ (.tail _ (.head _)))))
   obtain ⟨aiO,aiP,aiQ,aiR⟩:=HE.c2 (.tail _ (.tail _ (.tail _ (.tail _ (.tail _ (.head _))))))
   obtain ⟨aiS,aiT,aiU,aiV,aiW,aiX⟩:=HE.c3 (.head _)
   obtain ⟨aiY,aiZ,ai0,ai1,ai2,ai3⟩:=HE.c3 (.tail _ (.head _))
   obtain ⟨ai4,ai5,ai6,ai7,ai8,ai9⟩:=HE.c3 (.tail _ (.tail _ (.head _)))
   go_wp2_with fail
   have hS : ∀ v,Below wc.heap.size wc v→(fun w'=>w'.cell? ⟨w2.heap.size,0,none⟩=some (.bool s1)∧w'.cell? ⟨w2.heap.size,1,none⟩=some (.slice D1 m1 d1)∧w'.cell? ⟨w2.heap.size+1,0,none⟩=some (.bool s2)∧w'.cell? ⟨w2.heap.size+1,1,none⟩=some (.slice D2 m2 d2)∧w'.cell? ⟨w3.heap.size,0,none⟩=some (.bool s3)∧w'.cell? ⟨w3.heap.size,1,none⟩=some (.slice D3 m3 d3)∧w'.cell? ⟨w3.heap.size+1,0,none⟩=some (.bool s4)∧w'.cell? ⟨w3.heap.size+1,1,none⟩=some (.slice D4 m4 d4)∧w'.cell? ⟨ga,0,none⟩=some (.bool sa)∧w'.cell? ⟨ga,1,none⟩=some (.slice Aa na ca)∧w'.cell? ⟨gb,0,none⟩=some (.bool sb)∧w'.cell? ⟨gb,1,none⟩=some (.slice Ab nb cb)) v:=fun v hv=>bG.c6 (HE.next hv)
   have HR:=HE.here
   go_cut [14] (fun sl wx => ∃ (gm:Nat) (sx:Bool) (Ax:Option Addr) (nx cx:Nat),sl = .pointer (some ⟨gm,0,none⟩)∧bG wc wx [⟨gm,.bool sx,.slice Ax nx cx⟩] (⟨.agg #[.bool sx,.slice Ax nx cx],q.num / g*(r.num / t),(k+2+1+(k'+2+1)+1),true⟩ :: ⟨.agg #[.bool sb,.slice Ab nb cb],t,k'+2+(k+2)+2,true⟩ :: ⟨.agg #[.bool sa,.slice Aa na ca],g,k+2+(k'+2)+2,true⟩ :: ⟨.agg #[.bool s3,.slice D3 m3 d3],r.num,k'+2,true⟩ :: ⟨.agg #[.bool s4,.slice D4 m4 d4],(r.den:Int),k'+2,true⟩ :: ⟨.agg #[.bool s1,.slice D1 m1 d1],q.num,k+2,true⟩ :: ⟨.agg #[.bool s2,.slice D2 m2 d2],(q.den:Int),k+2,true⟩ :: L) [] M)
   case first =>
    go_region_held3 (fun w'=>w'.cell? ⟨w2.heap.size,0,none⟩=some (.bool s1)∧w'.cell? ⟨w2.heap.size,1,none⟩=some (.slice D1 m1 d1)∧w'.cell? ⟨w2.heap.size+1,0,none⟩=some (.bool s2)∧w'.cell? ⟨w2.heap.size+1,1,none⟩=some (.slice D2 m2 d2)∧w'.cell? ⟨w3.heap.size,0,none⟩=some (.bool s3)∧w'.cell? ⟨w3.heap.size,1,none⟩=some (.slice D3 m3 d3)∧w'.cell? ⟨w3.heap.size+1,0,none⟩=some (.bool s4)∧w'.cell? ⟨w3.heap.size+1,1,none⟩=some (.slice D4 m4 d4)∧w'.cell? ⟨ga,0,none⟩=some (.bool sa)∧w'.cell? ⟨ga,1,none⟩=some (.slice Aa na ca)∧w'.cell? ⟨gb,0,none⟩=some (.bool sb)∧w'.cell? ⟨gb,1,none⟩=some (.slice Ab nb cb)) (with_reducible first | exact hS _ HR.below | exact hS _ HR.drew.below | exact hS _ (bG.fF HR (.bool false) (.slice none 0 0)).below | exact hS _ (bG.fF HR.drew (.bool false) (.slice none 0 0)).below | exact hS _ (bG.fF HR (.bool false) (.slice none 0 0)).drew.below | exact hS _ HK.below)
     (first
      | (go_at_call 196; refine (XE (by with_reducible first | exact HR | exact HR.drew | exact bG.fF HR (.bool false) (.slice none 0 0) | exact bG.fF HR.drew (.bool false) (.slice none 0 0) | exact (bG.fF HR (.bool false) (.slice none 0 0)).drew) (by repeat (first | exact .head _ | assumption | refine .tail _ ?_)) (by repeat (first | exact .head _ | assumption | refine .tail _ ?_)) (by omega) (by first | exact HL.out.2.2.1 | exact HL.out.2.2.2)).mono ?_; rintro e wn ⟨sx,Ax,nx,cx,rfl,HR⟩)
      | (go_at_call 91; refine (Su (by with_reducible first | exact HR | exact HR.drew | exact bG.fF HR (.bool false) (.slice none 0 0) | exact bG.fF HR.drew (.bool false) (.slice none 0 0) | exact (bG.fF HR (.bool false) (.slice none 0 0)).drew) (by repeat (first | exact .head _ | assumption | refine .tail _ ?_)) (by repeat (first | exact .head _ | assumption | refine .tail _ ?_)) (by omega)).mono ?_; rintro e w6 ⟨sx,Ax,nx,cx,rfl,HR⟩; first | (have HK:=HR.zo (.head _) [] (fun _ hb=>by simp at hb) sx (.slice Ax nx cx); obtain ⟨z0,z1,z2,z3⟩:=HR.c2 (.head _)) | (have HK:=HR.fF (.bool sx) (.slice Ax nx cx))))
    all_goals
     go_wp2_with fail
     go_meet
     exact ⟨_,sx,Ax,nx,cx,rfl,(HK.hdi (K:=(k+2+1+(k'+2+1)+1)) (·.weak (by omega))).pick (fun _ he=>by rcases List.mem_cons.1 he with rfl | he; exact .head _; exact .tail _ (.tail _ (.tail _ (he)))) (fun _ he=>he)⟩
   case rest =>
    clear HR hS Zb Zc Zd Ze adY adZ ad1 ad2 ad3 ad4 ad5 ad6 aiF aiH aiI aiJ aiK aiL aiM aiN aiO aiP aiQ aiR aiS aiT aiU aiV aiW aiX aiY aiZ ai0 ai1 ai2 ai3 ai4 ai5 ai6 ai7 ai8 ai9
    obtain ⟨gm,sx,Ax,nx,cx,rfl,HR⟩:=hcut
    replace HE:=HE.join HR
    clear HR
    simp only [List.cons_append,List.nil_append] at HE
    obtain ⟨apN,apO,apQ,apR⟩:=HE.c2 (.head _)
    obtain ⟨apS,apT,apU,apV⟩:=HE.c2 (.tail _ (.head _))
    obtain ⟨apW,apX,apY,apZ⟩:=HE.c2 (.tail _ (.tail _ (.head _)))
    obtain ⟨ap0,ap1,ap2,ap3⟩:=HE.c2 (.tail _ (.tail _ (.tail _ (.head _))))
    obtain ⟨ap4,ap5,ap6,ap7⟩:=HE.c2 (.tail _ (.tail _ (.tail _ (.tail _ (.head _)))))
    obtain ⟨ap8,ap9,ap',aqa⟩:=HE.c2 (.tail _ (.tail _ (.tail _ (.tail _ (.tail _ (.head _))))))
    obtain ⟨aqb,aqc,aqd,aqe⟩:=HE.c2 (.tail _ (.tail _ (.tail _ (.tail _ (.tail _ (.tail _ (.head _)))))))
    obtain ⟨aqf,aqg,aqh,aqi,aqj,aqk⟩:=HE.c3 (.head _)
    obtain ⟨aql,aqm,aqn,aqo,aqp,aqr⟩:=HE.c3 (.tail _ (.head _))
    obtain ⟨aqs,aqt,aqu,aqv,aqw,aqx⟩:=HE.c3 (.tail _ (.tail _ (.head _)))
    go_wp2_with fail
    go_region_held3 (fun w'=>w'.cell? ⟨w2.heap.size,0,none⟩=some (.bool s1)∧w'.cell? ⟨w2.heap.size,1,none⟩=some (.slice D1 m1 d1)∧w'.cell? ⟨w2.heap.size+1,0,none⟩=some (.bool s2)∧w'.cell? ⟨w2.heap.size+1,1,none⟩=some (.slice D2 m2 d2)∧w'.cell? ⟨w3.heap.size,0,none⟩=some (.bool s3)∧w'.cell? ⟨w3.heap.size,1,none⟩=some (.slice D3 m3 d3)∧w'.cell? ⟨w3.heap.size+1,0,none⟩=some (.bool s4)∧w'.cell? ⟨w3.heap.size+1,1,none⟩=some (.slice D4 m4 d4)∧w'.cell? ⟨ga,0,none⟩=some (.bool sa)∧w'.cell? ⟨ga,1,none⟩=some (.slice Aa na ca)∧w'.cell? ⟨gb,0,none⟩=some (.bool sb)∧w'.cell? ⟨gb,1,none⟩=some (.slice Ab nb cb)∧w'.cell? ⟨gm,0,none⟩=some (.bool sx)∧w'.cell? ⟨gm,1,none⟩=some (.slice Ax nx cx)) (with_reducible first | exact bG.c7 HE | exact bG.c7 HE.drew | exact bG.c7 HK)
     (first
      | (go_at_call 196; refine (XE (by with_reducible first | exact HE | exact HE.drew) (by repeat (first | exact .head _ | assumption | refine .tail _ ?_)) (by repeat (first | exact .head _ | assumption | refine .tail _ ?_)) (by omega) (by first | exact HL.out.2.2.1 | exact HL.out.2.2.2)).mono ?_; rintro e wn ⟨sx,Ax,nx,cx,rfl,HE⟩)
      | (go_at_call 91; refine (Su (by with_reducible first | exact HE | exact HE.drew) (by repeat (first | exact .head _ | assumption | refine .tail _ ?_)) (by repeat (first | exact .head _ | assumption | refine .tail _ ?_)) (by omega)).mono ?_; rintro e wn ⟨sx,Ax,nx,cx,rfl,HE⟩)
      | (go_at_call 86; refine (aif (by with_reducible first | exact HE | exact HE.drew) (by repeat (first | exact .head _ | assumption | refine .tail _ ?_)) (by repeat (first | exact .head _ | assumption | refine .tail _ ?_)) HL.out.1 HL.out.2.1).mono ?_; rintro e w8 ⟨sx,Ax,nx,cx,Ay,ny,cy,rfl,HE⟩; have HK:=HE.tK (D:=Ax) (m:=nx) (d:=cx) (.head _) sx (.slice Ay ny cy); obtain ⟨z0,z1,z2,z3,z4,z5⟩:=HE.c3 (.head _)))
    go_wp2_with fail
    refine bodyPost_ret (v := .agg #[.bool sx,.slice Ax nx cx,.slice Ay ny cy]) (by simp [results,Tryz.results148,go_sem,z0,z1,z2]) rfl ?_
    have HF:=HK.bare.hd (fun hh=>fJ.tight hh HP.out.1 HP.out.2)
    exact ⟨_,_,_,_,_,_,_,rfl,HF.pick (fun _ he => .tail _ (.tail _ (.tail _ (.tail _ (.tail _ (.tail _ (.tail _ (.tail _ (.tail _ (.tail _ (he))))))))))) (fun _ he=>he)⟩
end
end Go.Proofs.YtbihljnjaondcaaGreatDoor
namespace Lw
open Go Go.RowKit
theorem aDz {s:Bool} {ns ms:List Nat} (h:(ns.length != 0&&fV s ns ms)=false):qv s ns ms=0:=by
 unfold qv
 split
 ·rename_i hf
  rw [hf,Bool.and_true] at h
  have h0:ns.length=0:=by simpa using h
  have e:ns=[]:=List.eq_nil_of_length_eq_zero h0
  subst e
  cases s <;> exact Rat.zero_divInt _
 ·rfl
theorem aps {q:Rat} {n:Nat} (hn:n=(rn q).length):rs (-q)=(decide (0 < n) && !(rs q))∧rn (-q)=rn q∧rd (-q)=rd q:=by
 obtain ⟨h1,h2⟩:=Zf q
 refine ⟨?_,?_,?_⟩
 ·unfold rs
  rw [h1]
  by_cases h0:q=0
  ·rw [decide_eq_false (show ¬ 0 < n by have:=(Jm hn).2 h0; omega)]
   subst h0; rfl
  ·have hz:q.num≠0:=fun e=>h0 (Rat.num_eq_zero.1 e)
   rw [decide_eq_true (show 0 < n by have:=mt (Jm hn).1 h0; omega),Bool.true_and]
   by_cases h:q.num < 0
   ·rw [decide_eq_true h,decide_eq_false (by omega)]; rfl
   ·rw [decide_eq_false h,decide_eq_true (by omega)]; rfl
 ·unfold rn; rw [h1,Int.natAbs_neg]
 ·unfold rd; rw [h1,h2]
  by_cases h:q.num=0
  ·rw [if_pos h,if_pos (by omega)]
  ·rw [if_neg h,if_neg (by omega)]
theorem iG.c3 {w:World} {g:Nat} {t:TypeId} {a b c:Value} (h:iG w g t a b c):w.cell? ⟨g,0,none⟩=some a∧w.cell? ⟨g,1,none⟩=some b∧w.cell? ⟨g,2,none⟩=some c:=⟨h.cells.1,h.cells.2.1,h.cells.2.2.1⟩
theorem iG.IW {w:World} {g g':Nat} {t:TypeId} {a b c:Value} (h:iG w g t a b c) (hg:g≠g') (u v z:Value):iG (((w.setCell ⟨g',0,none⟩ u).setCell ⟨g',1,none⟩ v).setCell ⟨g',2,none⟩ z) g t a b c:=((h.far (p:=⟨g',0,none⟩) hg u).far (p:=⟨g',1,none⟩) hg v).far (p:=⟨g',2,none⟩) hg z
theorem iG.cc {w:World} {g g':Nat} {t:TypeId} {a b c a' b' c':Value} (h:iG w g t a b c) (h':iG w g' t a' b' c'):w.cell? ⟨g,0,none⟩=some a∧w.cell? ⟨g,1,none⟩=some b∧w.cell? ⟨g,2,none⟩=some c∧w.cell? ⟨g',0,none⟩=some a'∧w.cell? ⟨g',1,none⟩=some b'∧w.cell? ⟨g',2,none⟩=some c':=⟨h.cells.1,h.cells.2.1,h.cells.2.2.1,h'.cells.1,h'.cells.2.1,h'.cells.2.2.1⟩
theorem iG.put {w:World} {g:Nat} {t:TypeId} {a b c:Value} (h:iG w g t a b c) (u v z:Value):iG (((w.setCell ⟨g,0,none⟩ u).setCell ⟨g,1,none⟩ v).setCell ⟨g,2,none⟩ z) g t u v z:=by
 have h3:=(h.set0 u).set1 v
 unfold iG at h3 ⊢
 generalize (w.setCell ⟨g,0,none⟩ u).setCell ⟨g,1,none⟩ v=W at *
 simp [World.setCell,Array.getElem?_modify,h3]
end Lw
namespace Go.Proofs.YtbihljnjaondcaaGreatDoor
open Go Go.RowKit Lw
section
variable {W0 w:World} {bs:List Bx} {L:List En} {ts:List Bt} {M:List Qn} {s s':Bool} {A A':Option Addr} {n c n' c' k k':Nat} {q:Rat} {v:Value} {b:Bool}
theorem bG.rD {g:Nat} {x y z:Value} {w:World} (h:bG W0 w bs L ts M) (hm:⟨g,x,y,z⟩∈ts):iG w g 24 x y z:=h.tri _ hm
theorem bG.G9 {g n c n' c' m d:Nat} {s s':Bool} {X X' D:Option Addr} {w:World} {v:Value} (h:bG W0 w bs L ts M) (hm:⟨g,.bool s,.slice X n c,.slice X' n' c'⟩∈ts) (ts':List Bt) (hs : ∀ b∈ts',b∈ts∧b.g≠g) :
  bG W0 (((w.setCell ⟨g,0,none⟩ (.bool s')).setCell ⟨g,1,none⟩ (.slice D m d)).setCell ⟨g,2,none⟩ v) bs L (⟨g,.bool s',.slice D m d,v⟩ :: ts') M :=
 have h2:=h.tK (D:=D) (m:=m) (d:=d) hm s' v
 have hg:W0.heap.size≤g:=h.lot _ hm
 ⟨h2.env,h2.fr,fun b hb=>by
  rcases List.mem_cons.1 hb with rfl | hb
  ·exact (h.tri _ hm).put _ _ _
  ·exact (h.tri b (hs b hb).1).IW (hs b hb).2 _ _ _,h2.tz,h2.tab,h2.lo,fun b hb=>by
  rcases List.mem_cons.1 hb with rfl | hb
  ·exact hg
  ·exact h.lot b (hs b hb).1⟩
theorem zT (HE:bG W0 w bs L ts M) (h:⟨v,q,k,b⟩∈M) (hk:k≤100000) :
  Calls Tryz.prog 83 #[v] w (jB W0 bs L ts M q k):=by
 obtain ⟨s,A,n,c,A',n',c',ns,ms,e1,r1,r2,e2,e3,e4,e5,e6,e7,e8,e9⟩:=HE.fr _ h
 dsimp only at e1 e4 e5 e8 e9
 subst e1
 refine (ayI s A A' ns ms n n' c c' _ _ w r1 r2 (Nat.le_refl _) (Nat.le_refl _) e2 e3 (by omega) (by omega) e6 e7 (HE.tz.next HE.below)).mono fun e w' ⟨h1,h2⟩ => ?_
 have HF:=HE.next h2
 cases hb:(n != 0&&fV s ns ms)
 ·rw [hb] at h1
  have h0:q=0:=by rw [← e8]; exact aDz (by rw [e2]; exact hb)
  rw [h0]
  exact ⟨_,_,_,_,_,_,_,h1,HF.zero k⟩
 ·rw [hb] at h1
  have hv:fV s ns ms=true:=by
   cases hf:fV s ns ms
   ·rw [hf,Bool.and_false] at hb; cases hb
   ·rfl
  have hb2:b=true:=by rw [← e9,hv]
  subst hb2
  exact ⟨_,_,_,_,_,_,_,h1,HF.cons (HF.fr _ h)⟩
theorem apt (HE:bG W0 w bs L ts M) (h:⟨.agg #[.bool s,.slice A n c,.slice A' n' c'],q,k,true⟩∈M) (hk:k≤100000) :
  Calls Tryz.prog 145 #[.agg #[.bool s,.slice A n c,.slice A' n' c']] w (jB W0 bs L ts M (-q) k):=by
 obtain ⟨h1,h2,h3,h4,h5,h6,h7,h8,h9⟩:=(HE.fr _ h).own
 refine (ayT s A A' n n' c c' w (by omega)).mono fun e w' ⟨g1,g2⟩ => ?_
 have HF:=HE.next g2
 obtain ⟨-,-,-,r4,r5,-⟩:=(HF.fr _ h).own
 obtain ⟨f1,f2,f3⟩:=aps h2
 rw [h1] at g1
 rw [← f2] at r4
 rw [← f3] at r5
 refine ⟨_,_,_,_,_,_,_,g1,HF.cons ⟨rs (-q),A,n,c,A',n',c',rn (-q),rd (-q),by rw [f1],r4,r5,by rw [f2,h2],by rw [f3,h3],h6,h7,h8,h9,P9 _,RD _⟩⟩
set_option maxRecDepth 100000 in
set_option maxHeartbeats 1600000 in
theorem Rq (HE:bG W0 w bs L ts M) (h:⟨.agg #[.bool s,.slice A n c,.slice A' n' c'],q,k,true⟩∈M) (hk:k≤100000) :
  Calls Tryz.prog 146 #[.agg #[.bool s,.slice A n c,.slice A' n' c']] w (jB W0 bs L ts M q k):=by
 have HR:=(HE.here.gQ (.bool s) (.slice A n c) (.slice A' n' c')).gQ (.bool false) (.slice none 0 0) (.slice none 0 0)
 simp only [World.size_alloc] at HR
 obtain ⟨e0,e1,e2,e3,e4,e5⟩:=HR.c3 (.tail _ (.head _))
 obtain ⟨g1,g2,g3,-,-,g6,g7,-⟩:=(HE.fr _ h).own
 have H2:=Lib.hid g2
 have H3:=Lib.hid g3
 have H1:=Lib.hid g1
 clear g1 g2 g3
 refine Calls.mono (R:=jB w [] L [] M q k) ?_ fun _ _ hh=>jB.of HE hh
 go_enter Tryz.func146,Tryz.ntmps146
 go_wp2_with fail
 have TA:=HR.rD (.tail _ (.head _))
 go_region_held3 (fun w'=>w'.cell? ⟨w.heap.size,0,none⟩=some (.bool s)∧w'.cell? ⟨w.heap.size,1,none⟩=some (.slice A n c)∧w'.cell? ⟨w.heap.size,2,none⟩=some (.slice A' n' c')) (with_reducible first | exact iG.c3 TA | exact iG.c3 TA.drew | exact iG.c3 HK)
  (first
   | (go_at_call 185; have _:=HC; refine (clone_any A' (rd q) n' c' _ _ ((HR.fr _ h).own).2.2.2.2.1 (Nat.le_refl _) H3.out.symm (by omega)).mono ?_; rintro e w2 ⟨A2,c2,rfl,hc2,-,hr2,hb2⟩; have HR:=HR.next hb2; have TA:=HR.rD (.tail _ (.head _)); have HK:=TA.IW (g':=w.heap.size+1) (by simp) (.bool s) (.slice A1 n c1) (.slice A2 n' c2); obtain ⟨z0,z1,z2,z3,z4,z5⟩:=HR.c3 (.head _))
   | (go_at_call 185; refine (clone_any A (rn q) n c _ _ ((HR.drew.fr _ h).own).2.2.2.1 (Nat.le_refl _) H2.out.symm (by omega)).mono ?_; rintro e w1 ⟨A1,c1,rfl,hc1,-,hr1,hb1⟩; have HR:=HR.drew.next hb1; have TA:=HR.rD (.tail _ (.head _)); have HC:=hr1))
 go_wp2_with fail
 refine bodyPost_ret (v := .agg #[.bool s,.slice A1 n c1,.slice A2 n' c2]) (by simp [results,Tryz.results146,go_sem,z0,z1,z2]) rfl ?_
 obtain rfl:=H1.out
 obtain rfl:=H2.out
 obtain rfl:=H3.out
 have HF:=HR.cons (adW ((hr1.next hb2 (Nat.le_refl _)).more hb2.size) hr2 g6 g7 hc1 hc2)
 exact ⟨_,_,_,_,_,_,_,rfl,(HF.tK (D:=A1) (m:=(rn q).length) (d:=c1) (.head _) (rs q) (.slice A2 (rd q).length c2)).bare⟩
end
end Go.Proofs.YtbihljnjaondcaaGreatDoor
namespace Go.Proofs.YtbihljnjaondcaaGreatDoor
open Go Go.RowKit Lw
section
variable {W0 w:World} {bs:List Bx} {L:List En} {ts:List Bt} {M:List Qn} {s s':Bool} {A A' B B':Option Addr} {n c n' c' m d m' d' k k':Nat} {q r:Rat} {x y:Int} {b b':Bool}
set_option maxRecDepth 100000 in
set_option maxHeartbeats 2400000 in
theorem ayz (HE:bG W0 w bs L ts M) (h:⟨.agg #[.bool s,.slice A n c,.slice A' n' c'],q,k,b⟩∈M) (h':⟨.agg #[.bool s',.slice B m d,.slice B' m' d'],r,k',b'⟩∈M) (hk:k+k'≤8000) :
  Calls Tryz.prog 72 #[.agg #[.bool s,.slice A n c,.slice A' n' c'],.agg #[.bool s',.slice B m d,.slice B' m' d']] w (jB W0 bs L ts M (q+r) (k+k'+2)):=by
 refine Calls.mono (R:=(jB w [] L [] M (q+r) (k+k'+2))) ?_ fun _ _ hh=>jB.of HE hh
 replace HE:=(HE.here.gQ (.bool s) (.slice A n c) (.slice A' n' c')).gQ (.bool s') (.slice B m d) (.slice B' m' d')
 replace HE:=HE.gQ (.bool false) (.slice none 0 0) (.slice none 0 0)
 simp only [World.size_alloc] at HE
 obtain ⟨q0,q1,q2,q3,q4,q5⟩:=HE.c3 (.head _)
 obtain ⟨q6,q7,q8,q9,q10,q11⟩:=HE.c3 (.tail _ (.head _))
 obtain ⟨q12,q13,jC,jD,q16,jE⟩:=HE.c3 (.tail _ (.tail _ (.head _)))
 have TA:=HE.rD (.tail _ (.tail _ (.head _)))
 have TB:=HE.rD (.tail _ (.head _))
 go_enter Tryz.func72,Tryz.ntmps72
 go_wp2_with fail
 go_region_held3 (fun w'=>w'.cell? ⟨w.heap.size,0,none⟩=some (.bool s)∧w'.cell? ⟨w.heap.size,1,none⟩=some (.slice A n c)∧w'.cell? ⟨w.heap.size,2,none⟩=some (.slice A' n' c')∧w'.cell? ⟨w.heap.size+1,0,none⟩=some (.bool s')∧w'.cell? ⟨w.heap.size+1,1,none⟩=some (.slice B m d)∧w'.cell? ⟨w.heap.size+1,2,none⟩=some (.slice B' m' d')) (with_reducible first | exact iG.cc TA TB | exact iG.cc TA.drew TB.drew | exact iG.cc UA UB)
  (first
   | (go_at_call 83; refine (zT (by with_reducible first | exact HE | exact HE.drew) (by repeat (first | exact .head _ | assumption | refine .tail _ ?_)) (by omega)).mono ?_; rintro e wn ⟨sx,Ax,nx,cx,Ay,ny,cy,rfl,HE⟩; have TA:=HE.rD (.tail _ (.tail _ (.head _))); have TB:=HE.rD (.tail _ (.head _)))
   | (go_at_call 147; refine (apK (by with_reducible first | exact HE | exact HE.drew) (by repeat (first | exact .head _ | assumption | refine .tail _ ?_)) (by repeat (first | exact .head _ | assumption | refine .tail _ ?_)) (by omega)).mono ?_; rintro e wn ⟨sx,Ax,nx,cx,Ay,ny,cy,rfl,HE⟩; have TA:=HE.rD (.tail _ (.tail _ (.head _))); have TB:=HE.rD (.tail _ (.head _)); have UA:=TA.IW (g':=w.heap.size+1+1) (by omega) (.bool sx) (.slice Ax nx cx) (.slice Ay ny cy); have UB:=TB.IW (g':=w.heap.size+1+1) (by omega) (.bool sx) (.slice Ax nx cx) (.slice Ay ny cy); obtain ⟨z0,z1,z2,z3,z4,z5⟩:=HE.c3 (.head _)))
 go_wp2_with fail
 refine bodyPost_ret (v := .agg #[.bool sx,.slice Ax nx cx,.slice Ay ny cy]) (by simp [results,Tryz.results72,go_sem,z0,z1,z2]) rfl ?_
 have HK:=(HE.tK (D:=Ax) (m:=nx) (d:=cx) (.head _) sx (.slice Ay ny cy)).bare
 skip
 exact ⟨_,_,_,_,_,_,_,rfl,HK.pick (fun _ he=>he) (fun _ he=>by rcases List.mem_cons.1 he with rfl | he; exact .head _; exact .tail _ (.tail _ (.tail _ (he))))⟩
set_option maxRecDepth 100000 in
set_option maxHeartbeats 2400000 in
theorem ayQ (HE:bG W0 w bs L ts M) (h:⟨.agg #[.bool s,.slice A n c,.slice A' n' c'],q,k,b⟩∈M) (h':⟨.agg #[.bool s',.slice B m d,.slice B' m' d'],r,k',b'⟩∈M) (hk:k+k'≤8000) :
  Calls Tryz.prog 74 #[.agg #[.bool s,.slice A n c,.slice A' n' c'],.agg #[.bool s',.slice B m d,.slice B' m' d']] w (jB W0 bs L ts M (q*r) (k+k'+2)):=by
 refine Calls.mono (R:=(jB w [] L [] M (q*r) (k+k'+2))) ?_ fun _ _ hh=>jB.of HE hh
 replace HE:=(HE.here.gQ (.bool s) (.slice A n c) (.slice A' n' c')).gQ (.bool s') (.slice B m d) (.slice B' m' d')
 replace HE:=HE.gQ (.bool false) (.slice none 0 0) (.slice none 0 0)
 simp only [World.size_alloc] at HE
 obtain ⟨q0,q1,q2,q3,q4,q5⟩:=HE.c3 (.head _)
 obtain ⟨q6,q7,q8,q9,q10,q11⟩:=HE.c3 (.tail _ (.head _))
 obtain ⟨q12,q13,jC,jD,q16,jE⟩:=HE.c3 (.tail _ (.tail _ (.head _)))
 have TA:=HE.rD (.tail _ (.tail _ (.head _)))
 have TB:=HE.rD (.tail _ (.head _))
 go_enter Tryz.func74,Tryz.ntmps74
 go_wp2_with fail
 go_region_held3 (fun w'=>w'.cell? ⟨w.heap.size,0,none⟩=some (.bool s)∧w'.cell? ⟨w.heap.size,1,none⟩=some (.slice A n c)∧w'.cell? ⟨w.heap.size,2,none⟩=some (.slice A' n' c')∧w'.cell? ⟨w.heap.size+1,0,none⟩=some (.bool s')∧w'.cell? ⟨w.heap.size+1,1,none⟩=some (.slice B m d)∧w'.cell? ⟨w.heap.size+1,2,none⟩=some (.slice B' m' d')) (with_reducible first | exact iG.cc TA TB | exact iG.cc TA.drew TB.drew | exact iG.cc UA UB)
  (first
   | (go_at_call 83; refine (zT (by with_reducible first | exact HE | exact HE.drew) (by repeat (first | exact .head _ | assumption | refine .tail _ ?_)) (by omega)).mono ?_; rintro e wn ⟨sx,Ax,nx,cx,Ay,ny,cy,rfl,HE⟩; have TA:=HE.rD (.tail _ (.tail _ (.head _))); have TB:=HE.rD (.tail _ (.head _)))
   | (go_at_call 148; refine (ash (by with_reducible first | exact HE | exact HE.drew) (by repeat (first | exact .head _ | assumption | refine .tail _ ?_)) (by repeat (first | exact .head _ | assumption | refine .tail _ ?_)) (by omega)).mono ?_; rintro e wn ⟨sx,Ax,nx,cx,Ay,ny,cy,rfl,HE⟩; have TA:=HE.rD (.tail _ (.tail _ (.head _))); have TB:=HE.rD (.tail _ (.head _)); have UA:=TA.IW (g':=w.heap.size+1+1) (by omega) (.bool sx) (.slice Ax nx cx) (.slice Ay ny cy); have UB:=TB.IW (g':=w.heap.size+1+1) (by omega) (.bool sx) (.slice Ax nx cx) (.slice Ay ny cy); obtain ⟨z0,z1,z2,z3,z4,z5⟩:=HE.c3 (.head _)))
 go_wp2_with fail
 refine bodyPost_ret (v := .agg #[.bool sx,.slice Ax nx cx,.slice Ay ny cy]) (by simp [results,Tryz.results74,go_sem,z0,z1,z2]) rfl ?_
 have HK:=(HE.tK (D:=Ax) (m:=nx) (d:=cx) (.head _) sx (.slice Ay ny cy)).bare
 skip
 exact ⟨_,_,_,_,_,_,_,rfl,HK.pick (fun _ he=>he) (fun _ he=>by rcases List.mem_cons.1 he with rfl | he; exact .head _; exact .tail _ (.tail _ (.tail _ (he))))⟩
theorem aDN (HE:bG W0 w bs L ts M) (n1 : -9223372036854775808≤x) (n2:x≤9223372036854775807) (d1 : -9223372036854775808≤y) (d2:y≤9223372036854775807) (d0:y≠0) :
  Calls Tryz.prog 150 #[.int .i64 x,.int .i64 y] w (jB W0 bs L ts M (Rat.divInt x y) 2):=by
 refine (aqA x y w n1 n2 d1 d2 d0 (HE.tz.next HE.below)).mono fun e w' hh => ?_
 obtain ⟨A,c,A',c',rfl,hc,hc',hr,hr',hb⟩:=hh
 have hp:pw 2=18446744073709551616:=rfl
 have h1:(Rat.divInt x y).num.natAbs≤x.natAbs:=by
  rw [Rat.num_divInt]
  refine Nat.le_trans (Int.natAbs_ediv_le_natAbs _ _) ?_
  rw [Int.natAbs_mul,Int.natAbs_sign_of_ne_zero d0,Nat.one_mul]
  exact Nat.le_refl _
 have h2:(Rat.divInt x y).den≤y.natAbs:=by rw [Rat.den_divInt,if_neg d0]; exact Nat.div_le_self _ _
 exact ⟨_,_,_,_,_,_,_,rfl,(HE.next hb).cons (adW hr hr' (N9 (by omega)) (aia (by omega)) hc hc')⟩
end
end Go.Proofs.YtbihljnjaondcaaGreatDoor
namespace Go.Proofs.YtbihljnjaondcaaGreatDoor
open Go Go.RowKit Lw
section
variable {W0 w:World} {bs:List Bx} {L:List En} {ts:List Bt} {M:List Qn} {s s':Bool} {A A' B B':Option Addr} {n c n' c' m d m' d' k k':Nat} {q r:Rat} {x y:Int} {b b':Bool}
def Bv (W0:World) (bs:List Bx) (L:List En) (ts:List Bt) (M:List Qn) (q:Rat) (k:Nat) (e:Ending) (w':World):Prop :=
 ∃ (s:Bool) (A:Option Addr) (n c:Nat) (A':Option Addr) (n' c':Nat),e = .returned (.tuple #[.agg #[.bool s,.slice A n c,.slice A' n' c'],.nilIface])∧bG W0 w' bs L ts (⟨.agg #[.bool s,.slice A n c,.slice A' n' c'],q,k,true⟩ :: M)
theorem Bv.of {w':World} {e:Ending} (h:bG W0 w bs L ts M) (hh:Bv w [] L [] M q k e w'):Bv W0 bs L ts M q k e w':=by
 obtain ⟨s,A,n,c,A',n',c',rfl,he⟩:=hh
 exact ⟨s,A,n,c,A',n',c',rfl,h.back he⟩
end
end Go.Proofs.YtbihljnjaondcaaGreatDoor
namespace Go.Proofs.YtbihljnjaondcaaGreatDoor
open Go Go.RowKit Lw
section
variable {W0 w:World} {bs:List Bx} {L:List En} {ts:List Bt} {M:List Qn} {s s':Bool} {A A' B B':Option Addr} {n c n' c' m d m' d' k k':Nat} {q r:Rat} {x y:Int} {b b':Bool}
set_option maxRecDepth 100000 in
set_option maxHeartbeats 1600000 in
theorem ayL (HE:bG W0 w bs L ts M) (n1 : -9223372036854775808≤x) (n2:x≤9223372036854775807) (d1 : -9223372036854775808≤y) (d2:y≤9223372036854775807) (hy:y≠0) :
  Calls Tryz.prog 80 #[.int .i64 x,.int .i64 y] w (Bv W0 bs L ts M (Rat.divInt x y) 2):=by
 refine Calls.mono (R:=Bv w [] L [] M (Rat.divInt x y) 2) ?_ fun _ _ hh=>Bv.of HE hh
 replace HE:=HE.here.gQ (.bool false) (.slice none 0 0) (.slice none 0 0)
 have hy0:(y==0)=false:=by rw [beq_eq_false_iff_ne]; exact hy
 have HC:=Lib.hid (aDN HE n1 n2 d1 d2 hy)
 clear n1 n2 d1 d2 hy
 generalize Rat.divInt x y=q at *
 obtain ⟨q0,q1,q2,q3,q4,q5⟩:=HE.c3 (.head _)
 go_enter Tryz.func80,Tryz.ntmps80
 go_wp2_with fail
 refine HC.out.mono ?_
 clear HE HC
 rintro e w1 ⟨sx,Ax,nx,cx,Ay,ny,cy,rfl,HE⟩
 clear q0 q1 q2 q3 q4 q5
 obtain ⟨q0,q1,q2,q3,q4,q5⟩:=HE.c3 (.head _)
 go_wp2_with fail
 refine bodyPost_ret (v := .tuple #[.agg #[.bool sx,.slice Ax nx cx,.slice Ay ny cy],.nilIface]) (by simp [results,Tryz.results80,go_sem,q0,q1,q2]) rfl ?_
 exact ⟨_,_,_,_,_,_,_,rfl,(HE.tK (D:=Ax) (m:=nx) (d:=cx) (.head _) sx (.slice Ay ny cy)).bare⟩
end
end Go.Proofs.YtbihljnjaondcaaGreatDoor
namespace Lw
def Sq (x:Int):Prop:=0≤x∧((rt x.natAbs:Nat):Int)*((rt x.natAbs:Nat):Int)=x
end Lw
namespace Lw
open Go Go.RowKit
theorem amA {k j:Nat} (hj:j < 32):bg (2 ^ (32*k+j))=(List.replicate (k+1) 0).set k (2 ^ j):=by
 have hp:2 ^ j < 4294967296:=by
  have:2 ^ j < 2 ^ 32:=Nat.pow_lt_pow_right (by omega) hj
  omega
 have e:(List.replicate (k+1) 0).set k (2 ^ j)=List.replicate k 0++[2 ^ j]:=by
  rw [List.replicate_succ',List.set_append_right _ _ (by simp)]
  simp
 rw [e]
 have hw:fQ (List.replicate k 0++[2 ^ j]):=akl.2 ⟨Fv k,Cb.2 ⟨hp,Bj⟩⟩
 have hv:val (List.replicate k 0++[2 ^ j])=2 ^ (32*k+j):=by
  rw [ajS,ZN,List.length_replicate,Nat.zero_add]
  unfold pw
  rw [show (4294967296:Nat)=2 ^ 32 from rfl,← Nat.pow_mul,← Nat.pow_add]
 rw [← hv]
 refine aci hw ?_
 have:(List.replicate k 0++[2 ^ j]).length - 1=k:=by simp
 rw [this]
 unfold dg
 simp
end Lw
namespace Go.Proofs.YtbihljnjaondcaaGreatDoor
open Go Go.RowKit Lw
section
variable {W0 w:World} {bs:List Bx} {L:List En} {ts:List Bt} {M:List Qn} {s s':Bool} {A A' B B':Option Addr} {n c n' c' m d m' d' k k' j:Nat} {q r:Rat} {x y:Int} {b b':Bool}
set_option maxRecDepth 100000 in
set_option maxHeartbeats 2400000 in
theorem aB1 (HE:bG W0 w bs L ts M) (hn:n=32*k+j) (hj:j < 32) (hk:k≤100) :
  Calls Tryz.prog 88 #[.int .i64 n] w (uS W0 bs L ts M ((2 ^ n:Nat):Int) (k+1)):=by
 refine Calls.mono (R:=uS w [] L [] M ((2 ^ n:Nat):Int) (k+1)) ?_ fun _ _ hh=>uS.of HE hh
 have HD:=Lib.hid (amA (k:=k) hj)
 have HN:=Lib.hid hn
 have hp:2 ^ j < 4294967296:=by
  have:2 ^ j < 2 ^ 32:=Nat.pow_lt_pow_right (by omega) hj
  omega
 have h1:(n:Int) / 32=(k:Int):=by omega
 have h2:(n:Int).tdiv 32=(k:Int):=by rw [Int.tdiv_eq_ediv_of_nonneg (by omega)]; exact h1
 have h3:(n:Int) % 32=(j:Int):=by omega
 have h4:(n:Int).tmod 32=(j:Int):=by rw [Int.tmod_eq_emod_of_nonneg (by omega)]; exact h3
 have h5:IntKind.i64.wrap ((k:Int)+1)=((k+1:Nat):Int):=by rw [Bh (by omega) (by omega)]; omega
 have h6:IntKind.i64.wrap (k:Int)=(k:Int):=Bh (by omega) (by omega)
 have H0:=HE.here
 replace HE:=HE.here.fF (.bool false) (.slice none 0 0)
 obtain ⟨P,hP⟩ : ∃ P:Nat,P=2 ^ j:=⟨_,rfl⟩
 have h7:(2:Int) ^ j % 4294967296=(P:Int):=by
  rw [show (2:Int) ^ j=(P:Int) by rw [hP]; exact (Int.natCast_pow 2 j).symm]
  rw [← hP] at hp
  omega
 rw [← hP] at HD hp
 clear hP
 have hg:(IntKind.i64.wrap ((k:Int)+1))=(k:Int)+1:=by rw [h5]; omega
 clear hn
 go_enter Tryz.func88,Tryz.ntmps88
 go_wp2_with (at_make; refine Eo _ rfl _ _ _ rfl 99 aYN Az _ _ _ _ (k+1) rfl rfl (by omega) (by omega) (by omega) ?_; intro w1 hblk hbel hsz; have HB:=HE.next hbel; obtain ⟨z0,z1,z2,z3⟩:=HB.c2 (.head _); have hb1:=((Below.refl w.heap.size w).alloc (Nat.le_refl _) (.cells #[.bool false,.slice none 0 0] 39)).trans (hbel.mono (by simp)); clear hsz; simp only [World.size_alloc] at hblk; have x0:=hblk.cell (i:=k) (by simp); have x1:=hblk.frozen k)
 have HK:=hblk.Gi (i:=k) P (by simp)
 have T1:=(HB.two (.head _)).far (p:=⟨w.heap.size+1,k,none⟩) (by simp) (.int .u32 (P:Int))
 obtain ⟨y0,y1,y2,y3⟩:=(T1.put (.bool false) (.slice (some ⟨w.heap.size+1,0,none⟩) (k+1) (k+1))).facts
 refine bodyPost_ret (v := .agg #[.bool false,.slice (some ⟨w.heap.size+1,0,none⟩) (k+1) (k+1)]) (by simp [results,Tryz.results88,go_sem,y0,y1]) rfl ?_
 have hbF:=((hb1.setCell (p:=⟨w.heap.size+1,k,none⟩) (by simp) (.int .u32 (P:Int))).setCell (p:=⟨w.heap.size,0,none⟩) (by simp) (.bool false)).setCell (p:=⟨w.heap.size,1,none⟩) (by simp) (.slice (some ⟨w.heap.size+1,0,none⟩) (k+1) (k+1))
 have WQ:=(HK.far (p:=⟨w.heap.size,0,none⟩) (by simp) (.bool false)).far (p:=⟨w.heap.size,1,none⟩) (by simp) (.slice (some ⟨w.heap.size+1,0,none⟩) (k+1) (k+1))
 have hm:mg ((2 ^ n:Nat):Int)=(List.replicate (k+1) 0).set k P:=by unfold mg; rw [Int.natAbs_natCast,HN.out]; exact HD.out
 rw [← hm] at WQ
 have hl:(mg ((2 ^ n:Nat):Int)).length=k+1:=by rw [hm]; simp
 have hs:sg ((2 ^ n:Nat):Int)=false:=by unfold sg; exact decide_eq_false (Int.not_lt.2 (Int.natCast_nonneg _))
 have HF:=H0.next hbF
 exact ⟨_,_,_,_,rfl,HF.push ⟨false,_,_,_,mg ((2 ^ n:Nat):Int),_,rfl,WQ.rd (adw _),Nat.le_refl _,hl,Nat.le_refl _,Nat.le_refl _,by rw [← hs]; exact Ph _,by rw [← hs]; exact Lt _⟩⟩
set_option maxRecDepth 100000 in
set_option maxHeartbeats 2400000 in
theorem ayH (HE:bG W0 w bs L ts M) (h:⟨.agg #[.bool s,.slice A n c,.slice A' n' c'],q,k,b⟩∈M) (hk:k≤8000) (hm:m≤256) :
  Calls Tryz.prog 15 #[.agg #[.bool s,.slice A n c,.slice A' n' c'],.int .i64 m] w (Bv W0 bs L ts M (Rat.divInt (q.num*((2 ^ m:Nat):Int) / (q.den:Int)) ((2 ^ m:Nat):Int)) (2*k+60)):=by
 refine Calls.mono (R:=Bv w [] L [] M (Rat.divInt (q.num*((2 ^ m:Nat):Int) / (q.den:Int)) ((2 ^ m:Nat):Int)) (2*k+60)) ?_ fun _ _ hh=>Bv.of HE hh
 have HN:=Lib.hid (show m=32*(m / 32)+m % 32∧m % 32 < 32∧m / 32≤100 from ⟨by omega,by omega,by omega⟩)
 obtain ⟨U,hU⟩ : ∃ U:Int,U=((2 ^ m:Nat):Int):=⟨_,rfl⟩
 have hpos:0 < 2 ^ m:=Nat.pow_pos (by omega)
 rw [← hU]
 have HU:=Lib.hid hU.symm
 have HP:=Lib.hid (show 0 < U by rw [hU]; exact Int.natCast_pos.2 hpos)
 have hd1:decide ((m:Int) < 0)=false:=decide_eq_false (by omega)
 have hd2:decide ((256:Int) < (m:Int))=false:=decide_eq_false (by omega)
 have hd3:decide ((m:Int) > (256:Int))=false:=decide_eq_false (by omega)
 have hmk:m / 32≤8:=by omega
 clear hU hpos hm
 replace HE:=(HE.here.gQ (.bool s) (.slice A n c) (.slice A' n' c')).gQ (.bool false) (.slice none 0 0) (.slice none 0 0)
 simp only [World.size_alloc] at HE
 obtain ⟨q0,q1,q2,q3,q4,q5⟩:=HE.c3 (.head _)
 obtain ⟨q6,q7,q8,q9,q10,q11⟩:=HE.c3 (.tail _ (.head _))
 go_enter Tryz.func15,Tryz.ntmps15
 go_wp2_with fail
 refine (zT HE h (by omega)).mono ?_
 clear HE
 rintro e w1 ⟨sx,Ax,nx,cx,Ay,ny,cy,rfl,HE⟩
 go_wp2_with fail
 refine (KO HE (.head _)).mono ?_
 clear HE
 rintro e w2 ⟨s1,D1,m1,d1,s2,D2,m2,d2,rfl,HE⟩
 clear q0 q1 q2 q3 q4 q5 q6 q7 q8 q9 q10 q11
 replace HE:=(HE.fF (.bool s1) (.slice D1 m1 d1)).fF (.bool s2) (.slice D2 m2 d2)
 simp only [World.size_alloc] at HE
 obtain ⟨q12,q13,jC,jD⟩:=HE.c2 (.head _)
 obtain ⟨q16,jE,kL,kM⟩:=HE.c2 (.tail _ (.head _))
 obtain ⟨lH,lI,q22,q23,q24,mG⟩:=HE.c3 (.head _)
 obtain ⟨mX,mY,nV,nX,q30,nY⟩:=HE.c3 (.tail _ (.head _))
 go_wp2_with fail
 refine (aB1 HE HN.out.1 HN.out.2.1 HN.out.2.2).mono ?_
 rw [HU.out]
 clear HE
 rintro e w3 ⟨s3,D3,m3,d3,rfl,HE⟩
 clear q12 q13 jC jD q16 jE kL kM lH lI q22 q23 q24 mG mX mY nV nX q30 nY
 replace HE:=HE.fF (.bool s3) (.slice D3 m3 d3)
 obtain ⟨q32,og,pg,q35⟩:=HE.c2 (.head _)
 obtain ⟨vS,q37,wG,wX⟩:=HE.c2 (.tail _ (.head _))
 obtain ⟨wY,wZ,xA,xB⟩:=HE.c2 (.tail _ (.tail _ (.head _)))
 obtain ⟨yG,yH,yI,yJ,zq,zu⟩:=HE.c3 (.head _)
 obtain ⟨zx,zy,zA,zB,He,Hg⟩:=HE.c3 (.tail _ (.head _))
 go_wp2_with fail
 go_region_held3 (fun w'=>w'.cell? ⟨w2.heap.size,0,none⟩=some (.bool s1)∧w'.cell? ⟨w2.heap.size,1,none⟩=some (.slice D1 m1 d1)∧w'.cell? ⟨w2.heap.size+1,0,none⟩=some (.bool s2)∧w'.cell? ⟨w2.heap.size+1,1,none⟩=some (.slice D2 m2 d2)∧w'.cell? ⟨w3.heap.size,0,none⟩=some (.bool s3)∧w'.cell? ⟨w3.heap.size,1,none⟩=some (.slice D3 m3 d3)) (with_reducible first | exact bG.r3 HE | exact bG.r3 HE.drew | exact bG.r3 HK)
  (first
   | (go_at_call 91; refine (Su (by with_reducible first | exact HE | exact HE.drew) (by repeat (first | exact .head _ | assumption | refine .tail _ ?_)) (by repeat (first | exact .head _ | assumption | refine .tail _ ?_)) (by omega)).mono ?_; rintro e wn ⟨sx,Ax,nx,cx,rfl,HE⟩)
   | (go_at_call 90; refine (aho (by with_reducible first | exact HE | exact HE.drew) (by repeat (first | exact .head _ | assumption | refine .tail _ ?_)) (by repeat (first | exact .head _ | assumption | refine .tail _ ?_)) (by omega) (tJ q)).mono ?_; rintro e wn ⟨sx,Ax,nx,cx,rfl,HE⟩)
   | (go_at_call 89; refine (ajb (by with_reducible first | exact HE | exact HE.drew) (by repeat (first | exact .head _ | assumption | refine .tail _ ?_)) (by repeat (first | exact .head _ | assumption | refine .tail _ ?_)) (by omega) HP.out).mono ?_; rintro e wn ⟨sx,Ax,nx,cx,Ay,ny,cy,rfl,HE⟩; have HK:=HE.tK (D:=Ax) (m:=nx) (d:=cx) (.head _) sx (.slice Ay ny cy); obtain ⟨z0,z1,z2,z3,z4,z5⟩:=HE.c3 (.head _)))
 go_wp2_with fail
 refine bodyPost_ret (v := .tuple #[.agg #[.bool sx,.slice Ax nx cx,.slice Ay ny cy],.nilIface]) (by simp [results,Tryz.results15,go_sem,z0,z1,z2]) rfl ?_
 exact ⟨_,_,_,_,_,_,_,rfl,(HK.bare.hd (K:=2*k+60) (·.weak (by omega))).pick (fun _ he => .tail _ (.tail _ (.tail _ (.tail _ (.tail _ (he)))))) (fun _ he=>by rcases List.mem_cons.1 he with rfl | he; exact .head _; exact .tail _ (.tail _ he))⟩
end
end Go.Proofs.YtbihljnjaondcaaGreatDoor
namespace Lw
open Go Go.RowKit
theorem pF.La {w:World} {e:En} {g n c n' c' i:Nat} {s:Bool} {t:TypeId} {X X':Option Addr} (h:pF w e) (h2:iG w g t (.bool s) (.slice X n c) (.slice X' n' c')) (u:Value):pF (w.setCell ⟨g,i,none⟩ u) e:=by
 obtain ⟨a,A,m,d,ns,B,e1,h3,h4,h5⟩:=h
 exact ⟨a,A,m,d,ns,B,e1,h3.La h2 u,by simpa using h4,h5⟩
theorem fJ.La {w:World} {e:Qn} {g n c n' c' i:Nat} {s:Bool} {t:TypeId} {X X':Option Addr} (h:fJ w e) (h2:iG w g t (.bool s) (.slice X n c) (.slice X' n' c')) (u:Value):fJ (w.setCell ⟨g,i,none⟩ u) e:=by
 obtain ⟨a,A,m,d,A',m',d',ns,ms,e1,r1,r2,e2⟩:=h
 exact ⟨a,A,m,d,A',m',d',ns,ms,e1,(r1.La h2 u).more (by simp),(r2.La h2 u).more (by simp),e2⟩
end Lw
namespace Go.Proofs.YtbihljnjaondcaaGreatDoor
open Go Go.RowKit Lw
section
variable {W0 w:World} {bs:List Bx} {L:List En} {ts:List Bt} {M:List Qn} {s s':Bool} {A A' B B':Option Addr} {n c n' c' m d m' d' k k':Nat} {q r:Rat} {b b':Bool}
theorem bG.set0 {g:Nat} {X X':Option Addr} (h:bG W0 w bs L ts M) (hm:⟨g,.bool s,.slice X n c,.slice X' n' c'⟩∈ts) (ts':List Bt) (hs : ∀ b∈ts',b∈ts∧b.g≠g) (s':Bool) :
  bG W0 (w.setCell ⟨g,0,none⟩ (.bool s')) bs L (⟨g,.bool s',.slice X n c,.slice X' n' c'⟩ :: ts') M :=
 have h2:=h.tri _ hm
 have hg:W0.heap.size≤g:=h.lot _ hm
 ⟨⟨fun e he=>(h.env.ops e he).La h2 _,fun b hb =>
  (h.env.box b hb).far (p:=⟨g,0,none⟩) (fun e=>h2.PZ (h.env.box b hb) e.symm) _,h.below.setCell hg _⟩,fun e he=>(h.fr e he).La h2 _,fun b hb=>by
  rcases List.mem_cons.1 hb with rfl | hb
  ·exact h2.set0 _
  ·exact (h.tri b (hs b hb).1).far (p:=⟨g,0,none⟩) (hs b hb).2 _,h.tz,h.tab,h.lo,fun b hb=>by
  rcases List.mem_cons.1 hb with rfl | hb
  ·exact hg
  ·exact h.lot b (hs b hb).1⟩
set_option maxRecDepth 100000 in
set_option maxHeartbeats 1600000 in
theorem ayS (HE:bG W0 w bs L ts M) (h:⟨.agg #[.bool s,.slice A n c,.slice A' n' c'],q,k,b⟩∈M) (hk:k≤100000) :
  Calls Tryz.prog 71 #[.agg #[.bool s,.slice A n c,.slice A' n' c']] w (jB W0 bs L ts M (-q) k):=by
 refine Calls.mono (R:=jB w [] L [] M (-q) k) ?_ fun _ _ hh=>jB.of HE hh
 replace HE:=(HE.here.gQ (.bool s) (.slice A n c) (.slice A' n' c')).gQ (.bool false) (.slice none 0 0) (.slice none 0 0)
 simp only [World.size_alloc] at HE
 obtain ⟨q0,q1,q2,q3,q4,q5⟩:=HE.c3 (.tail _ (.head _))
 go_enter Tryz.func71,Tryz.ntmps71
 go_wp2_with fail
 refine (zT HE h hk).mono ?_
 clear HE
 rintro e w1 ⟨s1,A1,n1,c1,B1,m1,d1,rfl,HE⟩
 clear q0 q1 q2 q3 q4 q5
 go_wp2_with fail
 refine (Rq HE (.head _) hk).mono ?_
 clear HE
 rintro e w2 ⟨s2,A2,n2,c2,B2,m2,d2,rfl,HE⟩
 go_wp2_with fail
 refine (apt HE (.head _) hk).mono ?_
 clear HE
 rintro e w3 ⟨sx,Ax,nx,cx,Ay,ny,cy,rfl,HE⟩
 obtain ⟨q0,q1,q2,q3,q4,q5⟩:=HE.c3 (.head _)
 go_wp2_with fail
 refine bodyPost_ret (v := .agg #[.bool sx,.slice Ax nx cx,.slice Ay ny cy]) (by simp [results,Tryz.results71,go_sem,q0,q1,q2]) rfl ?_
 have HK:=(HE.tK (D:=Ax) (m:=nx) (d:=cx) (.head _) sx (.slice Ay ny cy)).bare
 exact ⟨_,_,_,_,_,_,_,rfl,HK.pick (fun _ he=>he) (fun _ he=>by rcases List.mem_cons.1 he with rfl | he; exact .head _; exact .tail _ (.tail _ (.tail _ he)))⟩
set_option maxRecDepth 100000 in
set_option maxHeartbeats 1600000 in
theorem ayV (HE:bG W0 w bs L ts M) (h:⟨.agg #[.bool s,.slice A n c,.slice A' n' c'],q,k,b⟩∈M) (hk:k≤100000) :
  Calls Tryz.prog 222 #[.agg #[.bool s,.slice A n c,.slice A' n' c']] w (FM W0 bs L ts M q.num (q.den:Int) (k+2)):=by
 refine Calls.mono (R:=FM w [] L [] M q.num (q.den:Int) (k+2)) ?_ fun _ _ hh=>FM.of HE hh
 replace HE:=((HE.here.gQ (.bool s) (.slice A n c) (.slice A' n' c')).fF (.bool false) (.slice none 0 0)).fF (.bool false) (.slice none 0 0)
 simp only [World.size_alloc] at HE
 obtain ⟨q0,q1,q2,q3,q4,q5⟩:=HE.c3 (.head _)
 go_enter Tryz.func222,Tryz.ntmps222
 go_wp2_with fail
 refine (zT HE h hk).mono ?_
 clear HE
 rintro e w1 ⟨s1,A1,n1,c1,B1,m1,d1,rfl,HE⟩
 clear q0 q1 q2 q3 q4 q5
 go_wp2_with fail
 refine (Rq HE (.head _) hk).mono ?_
 clear HE
 rintro e w2 ⟨s2,A2,n2,c2,B2,m2,d2,rfl,HE⟩
 go_wp2_with fail
 refine (KO HE (.head _)).mono ?_
 clear HE
 rintro e w3 ⟨s3,A3,n3,c3,s4,A4,n4,c4,rfl,HE⟩
 obtain ⟨a0,a1,a2,a3⟩:=HE.c2 (.head _)
 obtain ⟨b0,b1,b2,b3⟩:=HE.c2 (.tail _ (.head _))
 go_wp2_with fail
 refine bodyPost_ret (v := .tuple #[.agg #[.bool s3,.slice A3 n3 c3],.agg #[.bool s4,.slice A4 n4 c4]]) (by simp [results,Tryz.results222,go_sem,a0,a1,b0,b1]) rfl ?_
 have H3:=(HE.zo (.tail _ (.head _)) [⟨w.heap.size+1+1,.bool false,.slice none 0 0⟩] (fun b hb=>by simp only [List.mem_cons,List.not_mem_nil,or_false] at hb; subst hb; exact ⟨.head _,by dsimp only; omega⟩) s3 (.slice A3 n3 c3)).done2 (.tail _ (.head _)) s4 (.slice A4 n4 c4)
 exact ⟨_,_,_,_,_,_,_,_,rfl,H3.Qq.Qq⟩
end
end Go.Proofs.YtbihljnjaondcaaGreatDoor
