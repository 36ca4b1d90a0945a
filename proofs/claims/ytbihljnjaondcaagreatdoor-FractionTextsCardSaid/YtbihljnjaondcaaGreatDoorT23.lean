/- Part of a proof, said shortly. -/
import Derived.Test.YtbihljnjaondcaaGreatDoorAlt
import Derived.Test.YtbihljnjaondcaaGreatDoorT22
import Derived.Test.YtbihljnjaondcaaGreatDoorT21
import Derived.Test.YtbihljnjaondcaaGreatDoorT20
import Derived.Test.YtbihljnjaondcaaGreatDoorT14
import Derived.Test.YtbihljnjaondcaaGreatDoorT4
import Derived.Test.YtbihljnjaondcaaGreatDoorT3
import Derived.Test.YtbihljnjaondcaaGreatDoorT2
import Derived.Test.YtbihljnjaondcaaGreatDoorT1
import Derived.Test.YtbihljnjaondcaaGreatDoorT13
import Derived.Test.YtbihljnjaondcaaGreatDoorT9
import Derived.Test.YtbihljnjaondcaaGreatDoorT8
import Derived.Test.YtbihljnjaondcaaGreatDoorT6
import Derived.Test.YtbihljnjaondcaaGreatDoorT5
import Derived.Test.YtbihljnjaondcaaGreatDoorT7
import Derived.Test.YtbihljnjaondcaaGreatDoorT19
import Derived.Test.YtbihljnjaondcaaGreatDoorT18
import Derived.Test.YtbihljnjaondcaaGreatDoorT16
import Derived.Test.YtbihljnjaondcaaGreatDoorT15
import Derived.Test.YtbihljnjaondcaaGreatDoorT17
import Derived.Test.YtbihljnjaondcaaGreatDoorT10
import Derived.Test.YtbihljnjaondcaaGreatDoorT11
import Derived.Test.YtbihljnjaondcaaGreatDoorT12
namespace Go.Proofs.YtbihljnjaondcaaGreatDoor
open Go Go.RowKit Lw
section
variable {W0 w:World} {bs:List Bx} {L:List En} {ts:List Bt} {M:List Qn} {s s':Bool} {A A' B B':Option Addr} {n c n' c' m d m' d' k k':Nat} {q r:Rat} {x y:Int}
set_option maxRecDepth 100000 in
set_option maxHeartbeats 4000000 in
theorem bob (HE:Uz W0 w bs L ts M) (h:⟨.agg #[.bool s,.slice A n c,.slice A' n' c'],q,k,true⟩∈M) (h':⟨.agg #[.bool s',.slice B m d,.slice B' m' d'],r,k',true⟩∈M) (hk:k+k'≤8000) :
  Calls Tryz.prog 148 #[.agg #[.bool s,.slice A n c,.slice A' n' c'],.agg #[.bool s',.slice B m d,.slice B' m' d']] w (akn W0 bs L ts M (q*r) (k+k'+2)):=by
 suffices hs:Calls Tryz.prog 148 #[.agg #[.bool s,.slice A n c,.slice A' n' c'],.agg #[.bool s',.slice B m d,.slice B' m' d']] w (akn w [] L [] M (q*r) (k+k'+2)) from hs.mono fun _ _ hh=>akn.of HE hh
 have H1:=((HE.here.ae' (.bool s) (.slice A n c) (.slice A' n' c')).ae' (.bool s') (.slice B m d) (.slice B' m' d')).ae' (.bool false) (.slice none 0 0) (.slice none 0 0)
 simp only [World.size_alloc] at H1
 have HP:=Lib.hid (bkN (HE.fr _ h).lt (HE.fr _ h').lt)
 by_cases hb:(shQ q&&shQ r)=true
 ·have hb2:shQ q=true∧shQ r=true:=by simpa using hb
  obtain ⟨z1,z2⟩:=a8r hb2.1
  obtain ⟨z3,z4⟩:=a8r hb2.2
  have HB:=Lib.hid hb
  have p1:=bdT (a:=q.num) (b:=r.num) z1 z3
  have p3:=bdT (a:=(q.den:Int)) (b:=(r.den:Int)) (by omega) (by omega)
  have p4:=Int.mul_pos (den_pos q) (den_pos r)
  have y1:IntKind.i64.wrap (q.num*r.num)=q.num*r.num:=w64 (by omega) (by omega)
  have y4:IntKind.i64.wrap ((q.den:Int)*(r.den:Int))=(q.den:Int)*(r.den:Int):=w64 (by omega) (by omega)
  have HS:=Lib.hid (show (-9223372036854775808≤q.num*r.num∧q.num*r.num≤9223372036854775807)∧0 < (q.den:Int)*(r.den:Int)∧(q.den:Int)*(r.den:Int)≤9223372036854775807 from ⟨⟨by omega,by omega⟩,p4,by omega⟩)
  clear p1 p3 p4
  clear hb hb2 z1 z2 z3 z4
  go_enter Tryz.func148,Tryz.ntmps148
  have HE:=H1
  clear H1
  obtain ⟨q0,q1,q2,q3,q4,q5⟩:=HE.c3 (.head _)
  obtain ⟨q6,q7,q8,q9,q10,q11⟩:=HE.c3 (.tail _ (.head _))
  obtain ⟨q12,q13,q14,q15,q16,q17⟩:=HE.c3 (.tail _ (.tail _ (.head _)))
  go_wp2_with fail
  refine (bfn HE h h' (by omega)).mono ?_
  clear HE
  rw [HB.out,bnO]
  rintro e w1 ⟨rfl,HE⟩
  clear q0 q1 q2 q3 q4 q5 q6 q7 q8 q9 q10 q11 q12 q13 q14 q15 q16 q17
  have TA:=(Two.new w1 150 (.int .i64 q.num) (.int .i64 (q.den:Int))).alloc (.cells #[.int .i64 r.num,.int .i64 (r.den:Int)] 150)
  have TB:=Two.new (w1.alloc (.cells #[.int .i64 q.num,.int .i64 (q.den:Int)] 150)) 150 (.int .i64 r.num) (.int .i64 (r.den:Int))
  replace HE:=(HE.alloc (.cells #[.int .i64 q.num,.int .i64 (q.den:Int)] 150)).alloc (.cells #[.int .i64 r.num,.int .i64 (r.den:Int)] 150)
  simp only [World.size_alloc] at TA TB
  obtain ⟨u0,u1,u2,u3⟩:=TA.facts
  obtain ⟨v0,v1,v2,v3⟩:=TB.facts
  obtain ⟨q18,q19,q20,q21,q22,q23⟩:=HE.c3 (.head _)
  obtain ⟨q24,q25,q26,q27,q28,q29⟩:=HE.c3 (.tail _ (.head _))
  obtain ⟨q30,q31,q32,q33,q34,q35⟩:=HE.c3 (.tail _ (.tail _ (.head _)))
  go_wp2_with fail
  refine (bmB HE HS.out.1.1 HS.out.1.2 HS.out.2.1 HS.out.2.2).mono ?_
  rintro e w2 ⟨sx,Ax,nx,cx,Ay,ny,cy,rfl,HE⟩
  rw [← bdS] at HE
  clear u0 u1 u2 u3 v0 v1 v2 v3 TA TB
  clear q18 q19 q20 q21 q22 q23 q24 q25 q26 q27 q28 q29 q30 q31 q32 q33 q34 q35
  obtain ⟨q36,q37,q38,q39,q40,q41⟩:=HE.c3 (.head _)
  obtain ⟨q42,q43,q44,q45,q46,q47⟩:=HE.c3 (.tail _ (.head _))
  obtain ⟨q48,q49,q50,q51,q52,q53⟩:=HE.c3 (.tail _ (.tail _ (.head _)))
  go_wp2_with fail
  have HF:=HE.as9 (D:=Ax) (m:=nx) (d:=cx) (.head _) sx (.slice Ay ny cy)
  refine bodyPost_ret (v := .agg #[.bool sx,.slice Ax nx cx,.slice Ay ny cy]) (by simp [results,Tryz.results148,go_sem,q36,q37,q38]) rfl ?_
  exact ⟨_,_,_,_,_,_,_,rfl,HF.bare.hd (·.weak (by omega))⟩
 ·have HB:=Lib.hid (Bool.eq_false_iff.2 hb)
  obtain ⟨g,hg⟩ : ∃ g:Int,g=(Nat.gcd q.num.natAbs (r.den:Int).natAbs:Nat):=⟨_,rfl⟩
  obtain ⟨t,ht⟩ : ∃ t:Int,t=(Nat.gcd r.num.natAbs (q.den:Int).natAbs:Nat):=⟨_,rfl⟩
  have HG:=Lib.hid hg
  have HH:=Lib.hid ht
  rw [Int.natAbs_natCast] at hg ht
  have hl:=bkM q r hg ht
  have HL:=Lib.hid (show (q*r).num=q.num / g*(r.num / t)∧((q*r).den:Int)=(q.den:Int) / t*((r.den:Int) / g)∧0 < g∧0 < t from ⟨hl.1,hl.2.1,by omega,by omega⟩)
  clear hg ht hl
  clear hb
  go_enter Tryz.func148,Tryz.ntmps148
  have HE:=H1
  clear H1
  obtain ⟨q0,q1,q2,q3,q4,q5⟩:=HE.c3 (.head _)
  obtain ⟨q6,q7,q8,q9,q10,q11⟩:=HE.c3 (.tail _ (.head _))
  obtain ⟨q12,q13,q14,q15,q16,q17⟩:=HE.c3 (.tail _ (.tail _ (.head _)))
  go_wp2_with fail
  refine (bfn HE h h' (by omega)).mono ?_
  clear HE
  rw [HB.out,bnN]
  rintro e w1 ⟨rfl,HE⟩
  clear q0 q1 q2 q3 q4 q5 q6 q7 q8 q9 q10 q11 q12 q13 q14 q15 q16 q17
  have TA:=(Two.new w1 150 (.int .i64 0) (.int .i64 0)).alloc (.cells #[.int .i64 0,.int .i64 0] 150)
  have TB:=Two.new (w1.alloc (.cells #[.int .i64 0,.int .i64 0] 150)) 150 (.int .i64 0) (.int .i64 0)
  replace HE:=(HE.alloc (.cells #[.int .i64 0,.int .i64 0] 150)).alloc (.cells #[.int .i64 0,.int .i64 0] 150)
  simp only [World.size_alloc] at TA TB
  clear TA TB
  obtain ⟨q18,q19,q20,q21,q22,q23⟩:=HE.c3 (.head _)
  obtain ⟨q24,q25,q26,q27,q28,q29⟩:=HE.c3 (.tail _ (.head _))
  obtain ⟨q30,q31,q32,q33,q34,q35⟩:=HE.c3 (.tail _ (.tail _ (.head _)))
  go_wp2_with fail
  refine (a2s HE h).mono ?_
  clear HE
  rintro e w2 ⟨s1,D1,m1,d1,s2,D2,m2,d2,rfl,HE⟩
  have HLW:=Lib.hid HE.below.size
  clear q18 q19 q20 q21 q22 q23 q24 q25 q26 q27 q28 q29 q30 q31 q32 q33 q34 q35
  replace HE:=(HE.abb (.bool s1) (.slice D1 m1 d1)).abb (.bool s2) (.slice D2 m2 d2)
  simp only [World.size_alloc] at HE
  obtain ⟨q36,q37,q38,q39⟩:=HE.c2 (.head _)
  obtain ⟨q40,q41,q42,q43⟩:=HE.c2 (.tail _ (.head _))
  obtain ⟨q44,q45,q46,q47,q48,q49⟩:=HE.c3 (.head _)
  obtain ⟨q50,q51,q52,q53,q54,q55⟩:=HE.c3 (.tail _ (.head _))
  obtain ⟨q56,q57,q58,q59,q60,q61⟩:=HE.c3 (.tail _ (.tail _ (.head _)))
  go_wp2_with fail
  refine (a2s HE h').mono ?_
  clear HE
  rintro e w3 ⟨s3,D3,m3,d3,s4,D4,m4,d4,rfl,HE⟩
  have HL3:=Lib.hid (HE.lt2 (.head _))
  clear q36 q37 q38 q39 q40 q41 q42 q43 q44 q45 q46 q47 q48 q49 q50 q51 q52 q53 q54 q55 q56 q57 q58 q59 q60 q61
  replace HE:=(HE.abb (.bool s3) (.slice D3 m3 d3)).abb (.bool s4) (.slice D4 m4 d4)
  simp only [World.size_alloc] at HE
  obtain ⟨q62,q63,q64,q65⟩:=HE.c2 (.head _)
  obtain ⟨q66,q67,q68,q69⟩:=HE.c2 (.tail _ (.head _))
  obtain ⟨q70,q71,q72,q73⟩:=HE.c2 (.tail _ (.tail _ (.head _)))
  obtain ⟨q74,q75,q76,q77⟩:=HE.c2 (.tail _ (.tail _ (.tail _ (.head _))))
  obtain ⟨q78,q79,q80,q81,q82,q83⟩:=HE.c3 (.head _)
  obtain ⟨q84,q85,q86,q87,q88,q89⟩:=HE.c3 (.tail _ (.head _))
  obtain ⟨q90,q91,q92,q93,q94,q95⟩:=HE.c3 (.tail _ (.tail _ (.head _)))
  go_wp2_with fail
  generalize ((w3.alloc (.cells #[.bool s3,.slice D3 m3 d3] 39)).alloc (.cells #[.bool s4,.slice D4 m4 d4] 39))=W5 at *
  have hS : ∀ v,Below W5.heap.size W5 v→(fun w'=>w'.cell? ⟨w2.heap.size,0,none⟩=some (.bool s1)∧w'.cell? ⟨w2.heap.size,1,none⟩=some (.slice D1 m1 d1)∧w'.cell? ⟨w2.heap.size+1,0,none⟩=some (.bool s2)∧w'.cell? ⟨w2.heap.size+1,1,none⟩=some (.slice D2 m2 d2)∧w'.cell? ⟨w3.heap.size,0,none⟩=some (.bool s3)∧w'.cell? ⟨w3.heap.size,1,none⟩=some (.slice D3 m3 d3)∧w'.cell? ⟨w3.heap.size+1,0,none⟩=some (.bool s4)∧w'.cell? ⟨w3.heap.size+1,1,none⟩=some (.slice D4 m4 d4)) v:=fun v hv=>Uz.c4 (HE.next hv)
  have HR:=HE.here
  go_cut [12,13] (fun sl sm wx => ∃ (ga:Nat) (sa:Bool) (Aa:Option Addr) (na ca gb:Nat) (sb:Bool) (Ab:Option Addr) (nb cb:Nat),(sl = .pointer (some ⟨ga,0,none⟩)∧sm = .pointer (some ⟨gb,0,none⟩))∧W5.heap.size≤ga∧W5.heap.size≤gb∧Two wx ga 39 (.bool sa) (.slice Aa na ca)∧Two wx gb 39 (.bool sb) (.slice Ab nb cb)∧Uz W5 wx [] (⟨.agg #[.bool sb,.slice Ab nb cb],t,k'+2+(k+2)+2,true⟩ :: ⟨.agg #[.bool sa,.slice Aa na ca],g,k+2+(k'+2)+2,true⟩ :: ⟨.agg #[.bool s3,.slice D3 m3 d3],r.num,k'+2,true⟩ :: ⟨.agg #[.bool s4,.slice D4 m4 d4],(r.den:Int),k'+2,true⟩ :: ⟨.agg #[.bool s1,.slice D1 m1 d1],q.num,k+2,true⟩ :: ⟨.agg #[.bool s2,.slice D2 m2 d2],(q.den:Int),k+2,true⟩ :: L) [] M)
  case first =>
   go_region_held3 (fun w'=>w'.cell? ⟨w2.heap.size,0,none⟩=some (.bool s1)∧w'.cell? ⟨w2.heap.size,1,none⟩=some (.slice D1 m1 d1)∧w'.cell? ⟨w2.heap.size+1,0,none⟩=some (.bool s2)∧w'.cell? ⟨w2.heap.size+1,1,none⟩=some (.slice D2 m2 d2)∧w'.cell? ⟨w3.heap.size,0,none⟩=some (.bool s3)∧w'.cell? ⟨w3.heap.size,1,none⟩=some (.slice D3 m3 d3)∧w'.cell? ⟨w3.heap.size+1,0,none⟩=some (.bool s4)∧w'.cell? ⟨w3.heap.size+1,1,none⟩=some (.slice D4 m4 d4)) (first | (with_reducible first | exact hS _ HR.below | exact hS _ HR.drew.below | exact hS _ HR.b1.below | exact hS _ HR.b1.drew.below | exact hS _ HR.b2.below | exact hS _ HR.b2.drew.below) | (with_reducible refine hS _ ?_; (repeat' (first | with_reducible exact HR.below | with_reducible exact HR.drew.below | with_reducible refine Below.setCell ?_ ?_ _ | with_reducible refine Below.alloc ?_ ?_ _ | (simp only [World.size_setCell,World.size_alloc]; omega) | omega)); done))
    (first
     | (go_at_call 195; have _:=HC1; refine (bcb (by with_reducible first | exact HR | exact HR.drew | exact HR.b1 | exact HR.b1.drew | exact HR.b2 | exact HR.b2.drew) (by repeat (first | exact .head _ | assumption | refine .tail _ ?_)) (by repeat (first | exact .head _ | assumption | refine .tail _ ?_)) (by omega)).mono ?_; clear HR; rintro e w6 ⟨sb,Ab,nb,cb,rfl,HR⟩; rw [← HH.out] at HR; have hz:=HR.below.size; (try (have hy:=HR.lt2 (.head _); have hn1:=Nat.ne_of_lt hy; have hn2:=Nat.ne_of_gt hy)); (try (have hx:=HR.lt2 (.tail _ (.head _)); have hn3:=Nat.ne_of_lt hx; have hn4:=Nat.ne_of_gt hx)); try obtain ⟨z0,z1,z2,z3⟩:=Uz.c2 HR (.head _); try obtain ⟨z4,z5,z6,z7⟩:=Uz.c2 HR (.tail _ (.head _)); try obtain ⟨z8,z9,z10,z11⟩:=Uz.c2 HR.b1 (.head _); try obtain ⟨z12,z13,z14,z15⟩:=Uz.c2 HR.b1 (.tail _ (.head _)))
     | (go_at_call 195; refine (bcb (by with_reducible first | exact HR | exact HR.drew | exact HR.b1 | exact HR.b1.drew | exact HR.b2 | exact HR.b2.drew) (by repeat (first | exact .head _ | assumption | refine .tail _ ?_)) (by repeat (first | exact .head _ | assumption | refine .tail _ ?_)) (by omega)).mono ?_; clear HR; rintro e wn ⟨sa,Aa,na,ca,rfl,HR⟩; rw [← HG.out] at HR; have HC1:=HG; have hz:=HR.below.size; (try (have hy:=HR.lt2 (.head _); have hn1:=Nat.ne_of_lt hy; have hn2:=Nat.ne_of_gt hy)); (try (have hx:=HR.lt2 (.tail _ (.head _)); have hn3:=Nat.ne_of_lt hx; have hn4:=Nat.ne_of_gt hx))))
   all_goals go_wp2_with fail
   all_goals go_meet
   all_goals (try have HT1:=HR.two (.head _))
   all_goals (try have HT2:=HR.two (.tail _ (.head _)))
   all_goals have HB:=HR.bare
   all_goals refine ⟨_,sa,Aa,na,ca,_,sb,Ab,nb,cb,⟨rfl,rfl⟩,?_,?_,?_,?_,?_⟩
   all_goals first | omega | (simp only [World.size_setCell,World.size_alloc]; omega) | skip
   all_goals first | (with_reducible first | exact (Two.new _ _ _ _).alloc _ | exact bgX (by simp only [World.size_setCell,World.size_alloc]) | exact (HT1.put _ _).alloc _ | exact a4i (HT1.put _ _) (by omega) _ _ | exact (a4i HT1 (by omega) _ _).put _ _ | exact (HT2.put _ _).alloc _ | exact a4i (HT2.put _ _) (by omega) _ _ | exact (a4i HT2 (by omega) _ _).put _ _) | (with_reducible first | exact (HB.alloc _).alloc _ | exact (Uz.a19 HB HT1 (by omega) _ _).alloc _ | exact Uz.a19 (Uz.a19 HB HT1 (by omega) _ _) (a4i HT2 (by omega) _ _) (by omega) _ _ | exact (Uz.a19 HB HT2 (by omega) _ _).alloc _ | exact Uz.a19 (Uz.a19 HB HT2 (by omega) _ _) (a4i HT1 (by omega) _ _) (by omega) _ _)
  case rest =>
   clear HR hS q62 q63 q64 q65 q66 q67 q68 q69 q70 q71 q72 q73 q74 q75 q76 q77 q78 q79 q80 q81 q82 q83 q84 q85 q86 q87 q88 q89 q90 q91 q92 q93 q94 q95
   obtain ⟨ga,sa,Aa,na,ca,gb,sb,Ab,nb,cb,⟨rfl,rfl⟩,hga,hgb,hta,htb,HR⟩:=hcut
   replace HE:=HE.join ((HR.a4j hta hga).a4j htb hgb)
   clear HR hta htb hga hgb
   simp only [List.cons_append,List.nil_append] at HE
   obtain ⟨q96,q97,q98,q99⟩:=HE.c2 (.head _)
   obtain ⟨ben,beo,bep,ber⟩:=HE.c2 (.tail _ (.head _))
   obtain ⟨bes,bet,beu,bev⟩:=HE.c2 (.tail _ (.tail _ (.head _)))
   obtain ⟨blY,blZ,bl0,bl1⟩:=HE.c2 (.tail _ (.tail _ (.tail _ (.head _))))
   obtain ⟨bl2,bl3,bl4,bl5⟩:=HE.c2 (.tail _ (.tail _ (.tail _ (.tail _ (.head _)))))
   obtain ⟨bl6,bl7,bl8,bl9⟩:=HE.c2 (.tail _ (.tail _ (.tail _ (.tail _ (.tail _ (.head _))))))
   obtain ⟨bl',bma,bmb,bmc,bmd,bme⟩:=HE.c3 (.head _)
   obtain ⟨bmf,bmg,bmh,bmi,bmj,bmk⟩:=HE.c3 (.tail _ (.head _))
   obtain ⟨bml,bmm,bmn,bmo,bmp,bmq⟩:=HE.c3 (.tail _ (.tail _ (.head _)))
   go_wp2_with fail
   have hS : ∀ v,Below wc.heap.size wc v→(fun w'=>w'.cell? ⟨w2.heap.size,0,none⟩=some (.bool s1)∧w'.cell? ⟨w2.heap.size,1,none⟩=some (.slice D1 m1 d1)∧w'.cell? ⟨w2.heap.size+1,0,none⟩=some (.bool s2)∧w'.cell? ⟨w2.heap.size+1,1,none⟩=some (.slice D2 m2 d2)∧w'.cell? ⟨w3.heap.size,0,none⟩=some (.bool s3)∧w'.cell? ⟨w3.heap.size,1,none⟩=some (.slice D3 m3 d3)∧w'.cell? ⟨w3.heap.size+1,0,none⟩=some (.bool s4)∧w'.cell? ⟨w3.heap.size+1,1,none⟩=some (.slice D4 m4 d4)∧w'.cell? ⟨ga,0,none⟩=some (.bool sa)∧w'.cell? ⟨ga,1,none⟩=some (.slice Aa na ca)∧w'.cell? ⟨gb,0,none⟩=some (.bool sb)∧w'.cell? ⟨gb,1,none⟩=some (.slice Ab nb cb)) v:=fun v hv=>Uz.c6 (HE.next hv)
   have HR:=HE.here
   go_cut [14] (fun sl wx => ∃ (gm:Nat) (sx:Bool) (Ax:Option Addr) (nx cx:Nat),sl = .pointer (some ⟨gm,0,none⟩)∧Uz wc wx [⟨gm,.bool sx,.slice Ax nx cx⟩] (⟨.agg #[.bool sx,.slice Ax nx cx],q.num / g*(r.num / t),(k+2+1+(k'+2+1)+1),true⟩ :: ⟨.agg #[.bool sb,.slice Ab nb cb],t,k'+2+(k+2)+2,true⟩ :: ⟨.agg #[.bool sa,.slice Aa na ca],g,k+2+(k'+2)+2,true⟩ :: ⟨.agg #[.bool s3,.slice D3 m3 d3],r.num,k'+2,true⟩ :: ⟨.agg #[.bool s4,.slice D4 m4 d4],(r.den:Int),k'+2,true⟩ :: ⟨.agg #[.bool s1,.slice D1 m1 d1],q.num,k+2,true⟩ :: ⟨.agg #[.bool s2,.slice D2 m2 d2],(q.den:Int),k+2,true⟩ :: L) [] M)
   case first =>
    go_region_held3 (fun w'=>w'.cell? ⟨w2.heap.size,0,none⟩=some (.bool s1)∧w'.cell? ⟨w2.heap.size,1,none⟩=some (.slice D1 m1 d1)∧w'.cell? ⟨w2.heap.size+1,0,none⟩=some (.bool s2)∧w'.cell? ⟨w2.heap.size+1,1,none⟩=some (.slice D2 m2 d2)∧w'.cell? ⟨w3.heap.size,0,none⟩=some (.bool s3)∧w'.cell? ⟨w3.heap.size,1,none⟩=some (.slice D3 m3 d3)∧w'.cell? ⟨w3.heap.size+1,0,none⟩=some (.bool s4)∧w'.cell? ⟨w3.heap.size+1,1,none⟩=some (.slice D4 m4 d4)∧w'.cell? ⟨ga,0,none⟩=some (.bool sa)∧w'.cell? ⟨ga,1,none⟩=some (.slice Aa na ca)∧w'.cell? ⟨gb,0,none⟩=some (.bool sb)∧w'.cell? ⟨gb,1,none⟩=some (.slice Ab nb cb)) (with_reducible first | exact hS _ HR.below | exact hS _ HR.drew.below | exact hS _ (Uz.abb HR (.bool false) (.slice none 0 0)).below | exact hS _ (Uz.abb HR.drew (.bool false) (.slice none 0 0)).below | exact hS _ (Uz.abb HR (.bool false) (.slice none 0 0)).drew.below | exact hS _ HK.below)
     (first
      | (go_at_call 196; refine (bb7 (by with_reducible first | exact HR | exact HR.drew | exact Uz.abb HR (.bool false) (.slice none 0 0) | exact Uz.abb HR.drew (.bool false) (.slice none 0 0) | exact (Uz.abb HR (.bool false) (.slice none 0 0)).drew) (by repeat (first | exact .head _ | assumption | refine .tail _ ?_)) (by repeat (first | exact .head _ | assumption | refine .tail _ ?_)) (by omega) (by first | exact HL.out.2.2.1 | exact HL.out.2.2.2)).mono ?_; rintro e wn ⟨sx,Ax,nx,cx,rfl,HR⟩)
      | (go_at_call 91; refine (a2n (by with_reducible first | exact HR | exact HR.drew | exact Uz.abb HR (.bool false) (.slice none 0 0) | exact Uz.abb HR.drew (.bool false) (.slice none 0 0) | exact (Uz.abb HR (.bool false) (.slice none 0 0)).drew) (by repeat (first | exact .head _ | assumption | refine .tail _ ?_)) (by repeat (first | exact .head _ | assumption | refine .tail _ ?_)) (by omega)).mono ?_; rintro e w6 ⟨sx,Ax,nx,cx,rfl,HR⟩; first | (have HK:=HR.anq (.head _) [] (fun _ hb=>by simp at hb) sx (.slice Ax nx cx); obtain ⟨z0,z1,z2,z3⟩:=HR.c2 (.head _)) | (have HK:=HR.abb (.bool sx) (.slice Ax nx cx))))
    all_goals
     go_wp2_with fail
     go_meet
     exact ⟨_,sx,Ax,nx,cx,rfl,(HK.hdi (K:=(k+2+1+(k'+2+1)+1)) (·.weak (by omega))).pick (fun _ he=>by rcases List.mem_cons.1 he with rfl | he; exact .head _; exact .tail _ (.tail _ (.tail _ (he)))) (fun _ he=>he)⟩
   case rest =>
    clear HR hS q96 q97 q98 q99 ben beo bep ber bes bet beu bev blY blZ bl0 bl1 bl2 bl3 bl4 bl5 bl6 bl7 bl8 bl9 bl' bma bmb bmc bmd bme bmf bmg bmh bmi bmj bmk bml bmm bmn bmo bmp bmq
    obtain ⟨gm,sx,Ax,nx,cx,rfl,HR⟩:=hcut
    replace HE:=HE.join HR
    clear HR
    simp only [List.cons_append,List.nil_append] at HE
    obtain ⟨bql,bqm,bqn,bqo⟩:=HE.c2 (.head _)
    obtain ⟨bqp,bqq,bqr,bqs⟩:=HE.c2 (.tail _ (.head _))
    obtain ⟨bqt,bqu,bqv,bqw⟩:=HE.c2 (.tail _ (.tail _ (.head _)))
    obtain ⟨bqx,bqy,bqz,bqA⟩:=HE.c2 (.tail _ (.tail _ (.tail _ (.head _))))
    obtain ⟨bqB,bqC,bqD,bqE⟩:=HE.c2 (.tail _ (.tail _ (.tail _ (.tail _ (.head _)))))
    obtain ⟨bqF,bqG,bqH,bqI⟩:=HE.c2 (.tail _ (.tail _ (.tail _ (.tail _ (.tail _ (.head _))))))
    obtain ⟨bqJ,bqK,bqL,bqM⟩:=HE.c2 (.tail _ (.tail _ (.tail _ (.tail _ (.tail _ (.tail _ (.head _)))))))
    obtain ⟨bqN,bqO,bqP,bqQ,bqR,bqS⟩:=HE.c3 (.head _)
    obtain ⟨bqT,bqU,bqV,bqW,bqX,bqY⟩:=HE.c3 (.tail _ (.head _))
    obtain ⟨bqZ,bq0,bq1,bq2,bq3,bq4⟩:=HE.c3 (.tail _ (.tail _ (.head _)))
    go_wp2_with fail
    go_region_held3 (fun w'=>w'.cell? ⟨w2.heap.size,0,none⟩=some (.bool s1)∧w'.cell? ⟨w2.heap.size,1,none⟩=some (.slice D1 m1 d1)∧w'.cell? ⟨w2.heap.size+1,0,none⟩=some (.bool s2)∧w'.cell? ⟨w2.heap.size+1,1,none⟩=some (.slice D2 m2 d2)∧w'.cell? ⟨w3.heap.size,0,none⟩=some (.bool s3)∧w'.cell? ⟨w3.heap.size,1,none⟩=some (.slice D3 m3 d3)∧w'.cell? ⟨w3.heap.size+1,0,none⟩=some (.bool s4)∧w'.cell? ⟨w3.heap.size+1,1,none⟩=some (.slice D4 m4 d4)∧w'.cell? ⟨ga,0,none⟩=some (.bool sa)∧w'.cell? ⟨ga,1,none⟩=some (.slice Aa na ca)∧w'.cell? ⟨gb,0,none⟩=some (.bool sb)∧w'.cell? ⟨gb,1,none⟩=some (.slice Ab nb cb)∧w'.cell? ⟨gm,0,none⟩=some (.bool sx)∧w'.cell? ⟨gm,1,none⟩=some (.slice Ax nx cx)) (with_reducible first | exact Uz.c7 HE | exact Uz.c7 HE.drew | exact Uz.c7 HK)
     (first
      | (go_at_call 196; refine (bb7 (by with_reducible first | exact HE | exact HE.drew) (by repeat (first | exact .head _ | assumption | refine .tail _ ?_)) (by repeat (first | exact .head _ | assumption | refine .tail _ ?_)) (by omega) (by first | exact HL.out.2.2.1 | exact HL.out.2.2.2)).mono ?_; rintro e wn ⟨sx,Ax,nx,cx,rfl,HE⟩)
      | (go_at_call 91; refine (a2n (by with_reducible first | exact HE | exact HE.drew) (by repeat (first | exact .head _ | assumption | refine .tail _ ?_)) (by repeat (first | exact .head _ | assumption | refine .tail _ ?_)) (by omega)).mono ?_; rintro e wn ⟨sx,Ax,nx,cx,rfl,HE⟩)
      | (go_at_call 86; refine (a7Q (by with_reducible first | exact HE | exact HE.drew) (by repeat (first | exact .head _ | assumption | refine .tail _ ?_)) (by repeat (first | exact .head _ | assumption | refine .tail _ ?_)) HL.out.1 HL.out.2.1).mono ?_; rintro e w8 ⟨sx,Ax,nx,cx,Ay,ny,cy,rfl,HE⟩; have HK:=HE.as9 (D:=Ax) (m:=nx) (d:=cx) (.head _) sx (.slice Ay ny cy); obtain ⟨z0,z1,z2,z3,z4,z5⟩:=HE.c3 (.head _)))
    go_wp2_with fail
    refine bodyPost_ret (v := .agg #[.bool sx,.slice Ax nx cx,.slice Ay ny cy]) (by simp [results,Tryz.results148,go_sem,z0,z1,z2]) rfl ?_
    have HF:=HK.bare.hd (fun hh=>Fop.tight hh HP.out.1 HP.out.2)
    exact ⟨_,_,_,_,_,_,_,rfl,HF.pick (fun _ he => .tail _ (.tail _ (.tail _ (.tail _ (.tail _ (.tail _ (.tail _ (.tail _ (.tail _ (.tail _ (he))))))))))) (fun _ he=>he)⟩
end
end Go.Proofs.YtbihljnjaondcaaGreatDoor
namespace Lw
open Go Go.RowKit
theorem bmv {s:Bool} {ns ms:List Nat} (h:(ns.length != 0&&fV s ns ms)=false):qv s ns ms=0:=by
 unfold qv
 split
 ·rename_i hf
  rw [hf,Bool.and_true] at h
  have h0:ns.length=0:=by simpa using h
  have e:ns=[]:=List.eq_nil_of_length_eq_zero h0
  subst e
  cases s <;> exact Rat.zero_divInt _
 ·rfl
theorem bk9 {q:Rat} {n:Nat} (hn:n=(rn q).length):rs (-q)=(decide (0 < n) && !(rs q))∧rn (-q)=rn q∧rd (-q)=rd q:=by
 obtain ⟨h1,h2⟩:=bmz q
 refine ⟨?_,?_,?_⟩
 ·unfold rs
  rw [h1]
  by_cases h0:q=0
  ·rw [decide_eq_false (show ¬ 0 < n by have:=(a3r hn).2 h0; omega)]
   subst h0; rfl
  ·have hz:q.num≠0:=fun e=>h0 (Rat.num_eq_zero.1 e)
   rw [decide_eq_true (show 0 < n by have:=mt (a3r hn).1 h0; omega),Bool.true_and]
   by_cases h:q.num < 0
   ·rw [decide_eq_true h,decide_eq_false (by omega)]; rfl
   ·rw [decide_eq_false h,decide_eq_true (by omega)]; rfl
 ·unfold rn; rw [h1,Int.natAbs_neg]
 ·unfold rd; rw [h1,h2]
  by_cases h:q.num=0
  ·rw [if_pos h,if_pos (by omega)]
  ·rw [if_neg h,if_neg (by omega)]
theorem Tri.c3 {w:World} {g:Nat} {t:TypeId} {a b c:Value} (h:Tri w g t a b c):w.cell? ⟨g,0,none⟩=some a∧w.cell? ⟨g,1,none⟩=some b∧w.cell? ⟨g,2,none⟩=some c:=⟨h.cells.1,h.cells.2.1,h.cells.2.2.1⟩
theorem Tri.a9B {w:World} {g g':Nat} {t:TypeId} {a b c:Value} (h:Tri w g t a b c) (hg:g≠g') (u v z:Value):Tri (((w.setCell ⟨g',0,none⟩ u).setCell ⟨g',1,none⟩ v).setCell ⟨g',2,none⟩ z) g t a b c:=((h.far (p:=⟨g',0,none⟩) hg u).far (p:=⟨g',1,none⟩) hg v).far (p:=⟨g',2,none⟩) hg z
theorem Tri.cc {w:World} {g g':Nat} {t:TypeId} {a b c a' b' c':Value} (h:Tri w g t a b c) (h':Tri w g' t a' b' c'):w.cell? ⟨g,0,none⟩=some a∧w.cell? ⟨g,1,none⟩=some b∧w.cell? ⟨g,2,none⟩=some c∧w.cell? ⟨g',0,none⟩=some a'∧w.cell? ⟨g',1,none⟩=some b'∧w.cell? ⟨g',2,none⟩=some c':=⟨h.cells.1,h.cells.2.1,h.cells.2.2.1,h'.cells.1,h'.cells.2.1,h'.cells.2.2.1⟩
theorem Tri.put {w:World} {g:Nat} {t:TypeId} {a b c:Value} (h:Tri w g t a b c) (u v z:Value):Tri (((w.setCell ⟨g,0,none⟩ u).setCell ⟨g,1,none⟩ v).setCell ⟨g,2,none⟩ z) g t u v z:=by
 have h3:=(h.set0 u).set1 v
 unfold Tri at h3 ⊢
 generalize (w.setCell ⟨g,0,none⟩ u).setCell ⟨g,1,none⟩ v=W at *
 simp [World.setCell,Array.getElem?_modify,h3]
end Lw
namespace Go.Proofs.YtbihljnjaondcaaGreatDoor
open Go Go.RowKit Lw
section
variable {W0 w:World} {bs:List Bx} {L:List En} {ts:List Bt} {M:List Qn} {s s':Bool} {A A':Option Addr} {n c n' c' k k':Nat} {q:Rat} {v:Value} {b:Bool}
theorem Uz.aN9 {g:Nat} {x y z:Value} {w:World} (h:Uz W0 w bs L ts M) (hm:⟨g,x,y,z⟩∈ts):Tri w g 24 x y z:=h.tri _ hm
theorem Uz.blV {g n c n' c' m d:Nat} {s s':Bool} {X X' D:Option Addr} {w:World} {v:Value} (h:Uz W0 w bs L ts M) (hm:⟨g,.bool s,.slice X n c,.slice X' n' c'⟩∈ts) (ts':List Bt) (hs : ∀ b∈ts',b∈ts∧b.g≠g) :
  Uz W0 (((w.setCell ⟨g,0,none⟩ (.bool s')).setCell ⟨g,1,none⟩ (.slice D m d)).setCell ⟨g,2,none⟩ v) bs L (⟨g,.bool s',.slice D m d,v⟩ :: ts') M :=
 have h2:=h.as9 (D:=D) (m:=m) (d:=d) hm s' v
 have hg:W0.heap.size≤g:=h.lot _ hm
 ⟨h2.env,h2.fr,fun b hb=>by
  rcases List.mem_cons.1 hb with rfl | hb
  ·exact (h.tri _ hm).put _ _ _
  ·exact (h.tri b (hs b hb).1).a9B (hs b hb).2 _ _ _,h2.tz,h2.tab,h2.lo,fun b hb=>by
  rcases List.mem_cons.1 hb with rfl | hb
  ·exact hg
  ·exact h.lot b (hs b hb).1⟩
theorem a3n (HE:Uz W0 w bs L ts M) (h:⟨v,q,k,b⟩∈M) (hk:k≤100000) :
  Calls Tryz.prog 83 #[v] w (akn W0 bs L ts M q k):=by
 obtain ⟨s,A,n,c,A',n',c',ns,ms,e1,r1,r2,e2,e3,e4,e5,e6,e7,e8,e9⟩:=HE.fr _ h
 dsimp only at e1 e4 e5 e8 e9
 subst e1
 refine (biU s A A' ns ms n n' c c' _ _ w r1 r2 (Nat.le_refl _) (Nat.le_refl _) e2 e3 (by omega) (by omega) e6 e7 (HE.tz.next HE.below)).mono fun e w' ⟨h1,h2⟩ => ?_
 have HF:=HE.next h2
 cases hb:(n != 0&&fV s ns ms)
 ·rw [hb] at h1
  have h0:q=0:=by rw [← e8]; exact bmv (by rw [e2]; exact hb)
  rw [h0]
  exact ⟨_,_,_,_,_,_,_,h1,HF.zero k⟩
 ·rw [hb] at h1
  have hv:fV s ns ms=true:=by
   cases hf:fV s ns ms
   ·rw [hf,Bool.and_false] at hb; cases hb
   ·rfl
  have hb2:b=true:=by rw [← e9,hv]
  subst hb2
  exact ⟨_,_,_,_,_,_,_,h1,HF.cons (HF.fr _ h)⟩
theorem bd6 (HE:Uz W0 w bs L ts M) (h:⟨.agg #[.bool s,.slice A n c,.slice A' n' c'],q,k,true⟩∈M) (hk:k≤100000) :
  Calls Tryz.prog 145 #[.agg #[.bool s,.slice A n c,.slice A' n' c']] w (akn W0 bs L ts M (-q) k):=by
 obtain ⟨h1,h2,h3,h4,h5,h6,h7,h8,h9⟩:=(HE.fr _ h).own
 refine (biX s A A' n n' c c' w (by omega)).mono fun e w' ⟨g1,g2⟩ => ?_
 have HF:=HE.next g2
 obtain ⟨-,-,-,r4,r5,-⟩:=(HF.fr _ h).own
 obtain ⟨f1,f2,f3⟩:=bk9 h2
 rw [h1] at g1
 rw [← f2] at r4
 rw [← f3] at r5
 refine ⟨_,_,_,_,_,_,_,g1,HF.cons ⟨rs (-q),A,n,c,A',n',c',rn (-q),rd (-q),by rw [f1],r4,r5,by rw [f2,h2],by rw [f3,h3],h6,h7,h8,h9,a4X _,a6h _⟩⟩
end
end Go.Proofs.YtbihljnjaondcaaGreatDoor
