/- Part of a proof, said shortly. -/
import Derived.Deep.RegionWith
import Derived.Deep.LoopGhost
import Derived.Test.YtkcpphebkmnonaaGreatDoorAlzc
import Derived.Test.YtkcpphebkmnonaaGreatDoorC12c
import Derived.Test.YtkcpphebkmnonaaGreatDoorC10c
import Derived.Test.YtkcpphebkmnonaaGreatDoorC9c
import Derived.Test.YtkcpphebkmnonaaGreatDoorC8c
import Derived.Test.YtkcpphebkmnonaaGreatDoorC5c
import Derived.Test.YtkcpphebkmnonaaGreatDoorC2c
import Derived.Test.YtkcpphebkmnonaaGreatDoorC1c
import Derived.Test.YtkcpphebkmnonaaGreatDoorC4c
import Derived.Test.YtkcpphebkmnonaaGreatDoorC3c
import Derived.Test.YtkcpphebkmnonaaGreatDoorC7c
import Derived.Test.YtkcpphebkmnonaaGreatDoorC6c
import Derived.Test.YtkcpphebkmnonaaGreatDoorC16c
import Derived.Test.YtkcpphebkmnonaaGreatDoorC15c
import Derived.Test.YtkcpphebkmnonaaGreatDoorC13c
import Derived.Test.YtkcpphebkmnonaaGreatDoorC14c
import Derived.Test.YtkcpphebkmnonaaGreatDoorC11c
set_option linter.unusedVariables false
set_option linter.unusedSimpArgs false
namespace Go.Proofs.BGQ
open Go Go.RowKit Lw
section
variable {W0 w:World} {bs:List Bx} {L:List En} {ts:List Bt} {M:List Qn} {s s':Bool} {A A' B B':Option Addr} {n c n' c' m d m' d' k k':Nat} {q r:Rat} {x y:Int} {b b':Bool}
set_option maxRecDepth 100000 in
set_option maxHeartbeats 1600000 in
theorem QZ(HE:bu W0 w bs L ts M)(h:⟨.agg #[.bool s,.slice A n c],x,k,b⟩∈L)(h':⟨.agg #[.bool s',.slice A' n' c'],y,k',b'⟩∈L)(hk:k+k'<=4000)(hy:y≠0) :
  Calls Tryz.prog 135 #[.agg #[.bool s,.slice A n c],.agg #[.bool s',.slice A' n' c']] w (fun e w' => ∃ (s:Bool) (A:Option Addr) (n c:Nat) (A':Option Addr) (n' c':Nat),e = .returned (.tuple #[.agg #[.bool s,.slice A n c,.slice A' n' c'],.int .i64 0])/\bu W0 w' bs L ts (⟨.agg #[.bool s,.slice A n c,.slice A' n' c'],Rat.divInt x y,k+1+(k'+1),true⟩::M)):=by
 refine Calls.mono (R:=(fun e w' => ∃ (s:Bool) (A:Option Addr) (n c:Nat) (A':Option Addr) (n' c':Nat),e = .returned (.tuple #[.agg #[.bool s,.slice A n c,.slice A' n' c'],.int .i64 0])/\bu w w' [] L [] (⟨.agg #[.bool s,.slice A n c,.slice A' n' c'],Rat.divInt x y,k+1+(k'+1),true⟩::M))) ?_ fun _ _ hh=>by obtain ⟨s,A,n,c,A',n',c',e1,he⟩:=hh;exact ⟨s,A,n,c,A',n',c',e1,HE.back he⟩
 replace HE:=((HE.here.bV (.bool s) (.slice A n c)).bV (.bool s') (.slice A' n' c')).dF (.bool false) (.slice none 0 0) (.slice none 0 0);simp only [World.size_alloc] at HE;have hs:(dD y==0)=false:=by rw [beq_eq_false_iff_ne];unfold dD;split;decide;first | decide | (rw [if_neg hy];decide)
 have HY:=Lib.hid hy;clear hy;obtain ⟨q0,q1,q2,q3⟩:=HE.c2 ak;obtain ⟨q4,q5,q6,q7⟩:=HE.c2 au;obtain ⟨q8,q9,q10,q11,q12,q13⟩:=HE.c3 ak
 go_enter Tryz.func135,Tryz.ntmps135
 go_wp2_with fail
 refine (qW HE h' af).mono ?_;clear HE;rintro e w1 ⟨rfl,HE⟩;clear q0 q1 q2 q3 q4 q5 q6 q7 q8 q9 q10 q11 q12 q13;obtain ⟨gI,gJ,q16,gK⟩:=HE.c2 ak;obtain ⟨iy,iC,jm,jo⟩:=HE.c2 au;obtain ⟨q22,q23,q24,jq,jr,jw⟩:=HE.c3 ak
 go_wp2_with fail
 refine (uY HE h h' hk HY.out).mono ?_;clear HE;rintro e w2 ⟨sx,Ax,nx,cx,Ay,ny,cy,rfl,HE⟩;clear gI gJ q16 gK iy iC jm jo q22 q23 q24 jq jr jw;obtain ⟨z0,z1,z2,z3,z4,z5⟩:=HE.c3 ak
 go_wp2_with fail
 refine bodyPost_ret (v := .tuple #[.agg #[.bool sx,.slice Ax nx cx,.slice Ay ny cy],.int .i64 0]) (by simp [results,Tryz.results135,go_sem,z0,z1,z2]) rfl ?_;exact ⟨_,_,_,_,_,_,_,rfl,(HE.iT (D:=Ax) (m:=nx) (d:=cx) ak sx (.slice Ay ny cy)).bare⟩
end
section
variable {W0 w:World} {bs:List Bx} {L:List En} {ts:List Bt} {M:List Qn} {s s':Bool} {A A':Option Addr} {n c n' c' k k':Nat} {x y:Int} {b b':Bool}
set_option maxRecDepth 100000 in
set_option maxHeartbeats 1600000 in
theorem YT(HE:bu W0 w bs L ts M)(h:⟨.agg #[.bool s,.slice A n c],x,k,b⟩∈L)(h':⟨.agg #[.bool s',.slice A' n' c'],y,k',b'⟩∈L)(hk:k+k'<=40000)(hy:0<y) :
  Calls Tryz.prog 51 #[.agg #[.bool s,.slice A n c],.agg #[.bool s',.slice A' n' c']] w (ja W0 bs L ts M (Rat.divInt x y) (k+1+(k'+1))):=by
 refine Calls.mono (R:=ja w [] L [] M (Rat.divInt x y) (k+1+(k'+1))) ?_ fun _ _ hh=>ja.of HE hh;replace HE:=((HE.here.bV (.bool s) (.slice A n c)).bV (.bool s') (.slice A' n' c')).dF (.bool false) (.slice none 0 0) (.slice none 0 0);simp only [World.size_alloc] at HE;have HS:=Lib.hid (show dD y=1 by unfold dD;rw [if_neg af,if_neg af]);have HY:=Lib.hid hy;clear hy;obtain ⟨q0,q1,q2,q3⟩:=HE.c2 ak;obtain ⟨q4,q5,q6,q7⟩:=HE.c2 au
 go_enter Tryz.func51,Tryz.ntmps51
 go_wp2_with fail
 refine (Ij HE h' af).mono ?_;rw [HS.out];clear HE;rintro e w1 ⟨rfl,HE⟩;clear q0 q1 q2 q3 q4 q5 q6 q7;obtain ⟨q0,q1,q2,q3⟩:=HE.c2 ak;obtain ⟨q4,q5,q6,q7⟩:=HE.c2 au
 go_wp2_with fail
 refine (I8 HE h h' hk HY.out).mono ?_;clear HE;rintro e w2 ⟨sx,Ax,nx,cx,Ay,ny,cy,rfl,HE⟩;clear q0 q1 q2 q3 q4 q5 q6 q7;obtain ⟨q0,q1,q2,q3,q4,q5⟩:=HE.c3 ak;have TF:=(HE.nV ak).put (.bool sx) (.slice Ax nx cx) (.slice Ay ny cy)
 go_wp2_with fail
 obtain ⟨x0,x1,x2,-,-,-⟩:=TF.cells;refine bodyPost_ret (v := .tuple #[.agg #[.bool sx,.slice Ax nx cx,.slice Ay ny cy],.nilIface]) (by simp [results,Tryz.results51,go_sem,x0,x1,x2]) rfl ?_;exact ⟨_,_,_,_,_,_,_,rfl,(HE.iT (D:=Ax) (m:=nx) (d:=cx) ak sx (.slice Ay ny cy)).bare⟩
set_option maxRecDepth 100000 in
set_option maxHeartbeats 1600000 in
theorem YV(HE:bu W0 w bs L ts M)(h':⟨.agg #[.bool s',.slice A' n' c'],y,k',b'⟩∈L)(hk:k'<=40000)(hy:y=0) :
  Calls Tryz.prog 51 #[.agg #[.bool s,.slice A n c],.agg #[.bool s',.slice A' n' c']] w (fun e w'=>e = .returned (yY 8)/\bu W0 w' bs L ts M):=by
 refine Calls.mono (R:=fun e w'=>e = .returned (yY 8)/\bu w w' [] L [] M) ?_ fun _ _ hh=>⟨hh.1,HE.back hh.2⟩;replace HE:=((HE.here.bV (.bool s) (.slice A n c)).bV (.bool s') (.slice A' n' c')).dF (.bool false) (.slice none 0 0) (.slice none 0 0);simp only [World.size_alloc] at HE;have HS:=Lib.hid (show dD y=0 by unfold dD;rw [if_neg af,if_pos hy]);clear hy;obtain ⟨q0,q1,q2,q3⟩:=HE.c2 ak
 go_enter Tryz.func51,Tryz.ntmps51
 go_wp2_with fail
 refine (Ij HE h' af).mono ?_;rw [HS.out];clear HE;rintro e w1 ⟨rfl,HE⟩;clear q0 q1 q2 q3;obtain ⟨q0,q1,q2,q3,q4,q5⟩:=HE.c3 ak;have TF:=(HE.nV ak).put (.bool false) (.slice none 0 0) (.slice none 0 0)
 go_wp2_with fail
 obtain ⟨x0,x1,x2,-,-,-⟩:=TF.cells;refine bodyPost_ret (v:=yY 8) (by simp [yY,results,Tryz.results51,go_sem,x0,x1,x2]) rfl ?_;exact ⟨rfl,(HE.iT (D:=none) (m:=0) (d:=0) ak false (.slice none 0 0)).bare⟩
end
section
variable {W0 w:World} {bs:List Bx} {L:List En} {ts:List Bt} {M:List Qn} {s s':Bool} {A A' B B':Option Addr} {n c n' c' m d m' d' k k':Nat} {q r:Rat} {x y:Int} {b b':Bool}
set_option maxRecDepth 100000 in
set_option maxHeartbeats 3200000 in
theorem YS(HE:bu W0 w bs L ts M)(h:⟨.agg #[.bool s,.slice A n c],x,k,b⟩∈L)(h':⟨.agg #[.bool s',.slice A' n' c'],y,k',b'⟩∈L)(hk:k+k'<=40000)(hy:y<0) :
  Calls Tryz.prog 51 #[.agg #[.bool s,.slice A n c],.agg #[.bool s',.slice A' n' c']] w (ja W0 bs L ts M (Rat.divInt x y) (k+1+(k'+1))):=by
 refine Calls.mono (R:=(ja w [] L [] M (Rat.divInt x y) (k+1+(k'+1)))) ?_ fun _ _ hh=>ja.of HE hh;replace HE:=((HE.here.bV (.bool s) (.slice A n c)).bV (.bool s') (.slice A' n' c')).dF (.bool false) (.slice none 0 0) (.slice none 0 0);simp only [World.size_alloc] at HE;have HS:=Lib.hid (show dD y = -1 by unfold dD;rw [if_pos af]);have HN:=Lib.hid (Nh x y);have HY:=Lib.hid (show 0 < -y from af);clear hy;rw [<- HN.out];obtain ⟨q0,q1,q2,q3⟩:=HE.c2 ak;obtain ⟨q4,q5,q6,q7⟩:=HE.c2 au;obtain ⟨q8,q9,q10,q11,q12,q13⟩:=HE.c3 ak
 go_enter Tryz.func51,Tryz.ntmps51
 go_wp2_with fail
 refine (Ij HE h' af).mono ?_;rw [HS.out];clear HE;rintro e w2 ⟨rfl,HE⟩;clear q0 q1 q2 q3 q4 q5 q6 q7 q8 q9 q10 q11 q12 q13;obtain ⟨gI,gJ,q16,gK⟩:=HE.c2 ak;obtain ⟨iy,iC,jm,jo⟩:=HE.c2 au
 go_wp2_with fail
 go_region_with
  (first
   | (go_at_call 89;have _:=yz;refine (O6 (by with_reducible first | exact HE | exact HE.drew) (.tail _ h') af).mono ?_;rintro e wb ⟨sb,Ab,nb,cb,rfl,HE⟩;obtain ⟨v0,v1,v2,v3⟩:=HE.c2 au;obtain ⟨v4,v5,v6,v7⟩:=HE.c2 ak)
   | (go_at_call 89;refine (O6 (by with_reducible first | exact HE | exact HE.drew) h af).mono ?_;rintro e wa ⟨sa,Aa,na,ca,rfl,HE⟩;have yz:=HE;obtain ⟨u0,u1,u2,u3⟩:=HE.c2 au;obtain ⟨u4,u5,u6,u7⟩:=HE.c2 ak))
 all_goals
  first | clear gI gJ q16 gK iy iC jm jo u0 u1 u2 u3 u4 u5 u6 u7 v0 v1 v2 v3 v4 v5 v6 v7 yz | skip
  replace HE:=(HE.iF au [⟨w.heap.size+1,.bool s',.slice A' n' c'⟩] (fun b hb=>by simp only [List.mem_cons,List.not_mem_nil,or_false] at hb;subst hb;exact ⟨(by repeat (first | exact aZ | refine .tail _ ?_)),by dsimp only;omega⟩) sa (.slice Aa na ca)).iF au [⟨w.heap.size,.bool sa,.slice Aa na ca⟩] (fun b hb=>by simp only [List.mem_cons,List.not_mem_nil,or_false] at hb;subst hb;exact ⟨(by repeat (first | exact aZ | refine .tail _ ?_)),by dsimp only;omega⟩) sb (.slice Ab nb cb);generalize ((((wb.setCell ⟨w.heap.size,0,none⟩ (.bool sa)).setCell ⟨w.heap.size,1,none⟩ (.slice Aa na ca)).setCell ⟨w.heap.size+1,0,none⟩ (.bool sb)).setCell ⟨w.heap.size+1,1,none⟩ (.slice Ab nb cb))=W5 at *;obtain ⟨q22,q23,q24,jq⟩:=HE.c2 ak;obtain ⟨jr,jw,jU,jV⟩:=HE.c2 au;obtain ⟨q30,jW,q32,ku,l7,q35⟩:=HE.c3 ak
  go_wp2_with fail
  refine (I8 HE (by repeat (first | exact aZ | assumption | refine .tail _ ?_)) (by repeat (first | exact aZ | assumption | refine .tail _ ?_)) af HY.out).mono ?_;clear HE;rintro e w6 ⟨sx,Ax,nx,cx,Ay,ny,cy,rfl,HE⟩;clear q22 q23 q24 jq jr jw jU jV q30 jW q32 ku l7 q35;obtain ⟨nM,q37,nN,nO,nP,nR⟩:=HE.c3 ak;have TF:=(HE.nV ak).put (.bool sx) (.slice Ax nx cx) (.slice Ay ny cy)
  go_wp2_with fail
  obtain ⟨z0,z1,z2,-,-,-⟩:=TF.cells;refine bodyPost_ret (v := .tuple #[.agg #[.bool sx,.slice Ax nx cx,.slice Ay ny cy],.nilIface]) (by simp [results,Tryz.results51,go_sem,z0,z1,z2]) rfl ?_;have HK:=(HE.iT (D:=Ax) (m:=nx) (d:=cx) ak sx (.slice Ay ny cy)).bare;exact ⟨_,_,_,_,_,_,_,rfl,HK.pick (fun e he => .tail _ (.tail _ he)) (fun _ he=>he)⟩
end
section
variable {W0 w:World} {bs:List Bx} {L:List En} {ts:List Bt} {M:List Qn} {s s':Bool} {A A' B B':Option Addr} {n c n' c' m d m' d' k k':Nat} {q r:Rat} {x y:Int} {b b':Bool}
set_option maxRecDepth 100000 in
set_option maxHeartbeats 1600000 in
theorem adP(HE:bu W0 w bs L ts M)(n1 : -9223372036854775808<=x)(n2:x<=9223372036854775807)(n3 : -9223372036854775808<=y)(n4:y<=9223372036854775807)(hy:y≠0) :
  Calls Tryz.prog 87 #[.int .i64 x,.int .i64 y] w (fun e w' => ∃ (s:Bool) (A:Option Addr) (n c:Nat) (A':Option Addr) (n' c':Nat),e = .returned (.tuple #[.agg #[.bool s,.slice A n c,.slice A' n' c'],.int .i64 0])/\bu W0 w' bs L ts (⟨.agg #[.bool s,.slice A n c,.slice A' n' c'],Rat.divInt x y,6,true⟩::M)):=by
 refine Calls.mono (R:=(fun e w' => ∃ (s:Bool) (A:Option Addr) (n c:Nat) (A':Option Addr) (n' c':Nat),e = .returned (.tuple #[.agg #[.bool s,.slice A n c,.slice A' n' c'],.int .i64 0])/\bu w w' [] L [] (⟨.agg #[.bool s,.slice A n c,.slice A' n' c'],Rat.divInt x y,6,true⟩::M))) ?_ fun _ _ hh=>by obtain ⟨s,A,n,c,A',n',c',e1,he⟩:=hh;exact ⟨s,A,n,c,A',n',c',e1,HE.back he⟩
 replace HE:=HE.here.dF (.bool false) (.slice none 0 0) (.slice none 0 0);have HN:=Lib.hid (show (-9223372036854775808<=x/\x<=9223372036854775807) /\ -9223372036854775808<=y/\y<=9223372036854775807 from ⟨⟨n1,n2⟩,n3,n4⟩);have HY:=Lib.hid hy;clear n1 n2 n3 n4 hy;obtain ⟨q0,q1,q2,q3,q4,q5⟩:=HE.c3 ak
 go_enter Tryz.func87,Tryz.ntmps87
 go_wp2_with fail
 refine (Am HE HN.out.1.1 HN.out.1.2).mono ?_;clear HE;rintro e w1 ⟨s1,A1,n1,c1,rfl,HE⟩;clear q0 q1 q2 q3 q4 q5
 go_wp2_with fail
 refine (Am HE HN.out.2.1 HN.out.2.2).mono ?_;clear HE;rintro e w2 ⟨s2,A2,n2,c2,rfl,HE⟩
 go_wp2_with fail
 refine (QZ HE au ak af HY.out).mono ?_;clear HE;rintro e w3 ⟨sx,Ax,nx,cx,Ay,ny,cy,rfl,HE⟩;obtain ⟨q6,q7,q8,q9,q10,q11⟩:=HE.c3 ak
 go_wp2_with fail
 refine bodyPost_ret (v := .tuple #[.agg #[.bool sx,.slice Ax nx cx,.slice Ay ny cy],.int .i64 0]) (by simp [results,Tryz.results87,go_sem,q6,q7,q8]) rfl ?_;have HK:=(HE.iT (D:=Ax) (m:=nx) (d:=cx) ak sx (.slice Ay ny cy)).bare;exact ⟨_,_,_,_,_,_,_,rfl,HK.pick (fun e he => .tail _ (.tail _ he)) (fun _ he=>he)⟩
end
section
variable {W0 w:World} {bs:List Bx} {L:List En} {ts:List Bt} {M:List Qn} {v v':Value} {q r:Rat} {k k':Nat} {b b':Bool}
theorem adX(HE:bu W0 w bs L ts M)(h:⟨v,q,k,b⟩∈M)(hk:k<=900) :
  Calls Tryz.prog 55 #[v] w fun e w'=>e = .returned (.int .i64 (iZ q))/\bu W0 w' bs L ts M:=by
 obtain ⟨s,A,n,c,A',n',c',e1⟩:=(HE.fr _ h).shape;dsimp only at e1;subst e1;exact Rf HE h af
theorem adL(HE:bu W0 w bs L ts M)(h:⟨v,q,k,b⟩∈M)(h':⟨v',r,k',b'⟩∈M)(hk:k+k'<=800) :
  Calls Tryz.prog 37 #[v,v'] w fun e w'=>e = .returned (.int .i64 (iK q r))/\bu W0 w' bs L ts M:=by
 obtain ⟨s,A,n,c,A',n',c',e1⟩:=(HE.fr _ h).shape;obtain ⟨t,B,m,d,B',m',d',e2⟩:=(HE.fr _ h').shape;dsimp only at e1 e2;subst e1 e2;exact adK HE h h' af
end
end Go.Proofs.BGQ
namespace Lw
open Go Go.RowKit
def lK(w:World)(g:Nat)(t:TypeId)(a b c d:Value):Prop:=w.heap[g]? = some (.cells #[a,b,c,d] t (0,0))
section
variable {w w':World} {g:Nat} {t:TypeId} {a b c d:Value}
theorem lK.lt(h:lK w g t a b c d):g<w.heap.size:=by
 rcases aoM g w.heap.size with hlt | hge
 ·exact hlt
 ·unfold lK at h;rw [aqa hge] at h;cases h
theorem lK.new(w:World)(t:TypeId)(a b c d:Value):lK (w.alloc (.cells #[a,b,c,d] t)) w.heap.size t a b c d:=heap_alloc_new w _
theorem lK.next(h:lK w g t a b c d)(hb:Below w.heap.size w w'):lK w' g t a b c d:=(hb.block g h.lt).trans h
theorem lK.cells(h:lK w g t a b c d):w.cell? ⟨g,0,none⟩=some a/\w.cell? ⟨g,1,none⟩=some b/\w.cell? ⟨g,2,none⟩=some c/\w.cell? ⟨g,3,none⟩=some d:=by
 unfold lK at h;exact ⟨by rw [cell_of_row w g 0 _ t (0,0) h];rfl,by rw [cell_of_row w g 1 _ t (0,0) h];rfl,by rw [cell_of_row w g 2 _ t (0,0) h];rfl,by rw [cell_of_row w g 3 _ t (0,0) h];rfl⟩
end
end Lw
namespace Go.Proofs.BGQ
open Go Go.RowKit Lw
def EO(W0:World)(bs:List Bx)(L:List En)(ts:List Bt)(M:List Qn)(q:Rat)(k:Nat)(er:Value)(e:Ending)(w':World):Prop :=
 ∃ (s:Bool) (A:Option Addr) (n c:Nat) (A':Option Addr) (n' c':Nat),e = .returned (.tuple #[.agg #[.bool s,.slice A n c,.slice A' n' c'],er])/\bu W0 w' bs L ts (⟨.agg #[.bool s,.slice A n c,.slice A' n' c'],q,k,true⟩::M)
section
variable {W0 w:World} {bs:List Bx} {L:List En} {ts:List Bt} {M:List Qn} {v v':Value} {q r:Rat} {x y:Int} {k k':Nat} {b b':Bool}
theorem EO.weak{k K:Nat}{er:Value}{e:Ending}(h:EO W0 bs L ts M q k er e w)(hk:k<=K):EO W0 bs L ts M q K er e w:=by
 obtain ⟨s,A,n,c,A',n',c',e1,he⟩:=h;exact ⟨s,A,n,c,A',n',c',e1,he.hd (·.weak hk)⟩
theorem ad1(HE:bu W0 w bs L ts M)(h:⟨v,q,k,b⟩∈M)(hk:k<=3000) :
  Calls Tryz.prog 54 #[v] w fun e w'=>e = .returned (.bool b)/\bu W0 w' bs L ts M:=by
 obtain ⟨s,A,n,c,A',n',c',e1⟩:=(HE.fr _ h).shape;dsimp only at e1;subst e1;exact DR HE h hk
end
section
variable {W0 w:World} {bs:List Bx} {L:List En} {ts:List Bt} {M:List Qn} {s s':Bool} {A A' B B':Option Addr} {n c n' c' m d m' d' k k':Nat} {q r:Rat} {x y:Int} {b b':Bool}
instance (x:Int):Decidable (Sq x):=inferInstanceAs (Decidable (_/\_))
end
end Go.Proofs.BGQ
namespace Lw
open Go Go.RowKit bI
theorem Rd.keeps{w w':World}{gs:List Nat}{A:Option Addr}{ns:List Nat}(h:Rd w w.heap.size A ns)(ha:kS gs w w'):Rd w' w'.heap.size A ns:=by
 refine ⟨h.1,fun hn => ?_⟩;obtain ⟨b,off,rfl,hb,hc⟩:=h.2 hn
 have hsame:w'.heap[b]? = w.heap[b]? := by
  refine ha.same b hb (fun hm => ?_);obtain ⟨c,t,f,h1,h2⟩:=(ha.soft b hm hb).1;have h0:=hc 0 hn;unfold World.cell? at h0;simp only [h1] at h0;have h3:=h2 (off+0) _ (by simpa using h0)
  cases h3
 refine ⟨b,off,rfl,aoK hb ha.size,fun j hj => ?_⟩;rw [<- hc j hj];exact World.cell?_of_block (w:=w) hsame
theorem dA.stable(e:Qn):Stable (fun w=>dA w e):=fun gs w w' ha h=>by
 obtain ⟨s,A,n,c,A',n',c',ns,ms,h1,h2,h3,h4⟩:=h;exact ⟨s,A,n,c,A',n',c',ns,ms,h1,h2.keeps ha,h3.keeps ha,h4⟩
theorem dB.stable(e:En):Stable (fun w=>dB w e):=fun gs w w' ha h=>by
 obtain ⟨s,A,n,c,ns,B,h1,h2,h3,h4⟩:=h;exact ⟨s,A,n,c,ns,w'.heap.size,h1,(h2.more h3).keeps ha,aoG _,h4⟩
def FV(v:Value)(q:Rat)(k:Nat)(b:Bool)(w:World):Prop:=dA w ⟨v,q,k,b⟩
def FI(v:Value)(z:Int)(k:Nat)(w:World):Prop:=dB w ⟨v,z,k,true⟩
theorem FV.stable(v:Value)(q:Rat)(k:Nat)(b:Bool):Stable (FV v q k b):=dA.stable _
theorem FI.stable(v:Value)(z:Int)(k:Nat):Stable (FI v z k):=dB.stable _
theorem FV.shape{v:Value}{q:Rat}{k:Nat}{b:Bool}{w:World}(h:FV v q k b w) : ∃ (s:Bool) (A:Option Addr) (n c:Nat) (A':Option Addr) (n' c':Nat),v=(aoC s A n c A' n' c'):=by
 obtain ⟨s,A,n,c,A',n',c',_,_,h1,_⟩:=h;grind
theorem FV.weak{v:Value}{q:Rat}{k K:Nat}{w:World}(h:FV v q k true w)(hk:k<=K):FV v q K true w:=dA.weak h hk
theorem FI.weak{v:Value}{z:Int}{k K:Nat}{w:World}(h:FI v z k w)(hk:k<=K):FI v z K w:=dB.weak h hk
theorem FV.as{v:Value}{q r:Rat}{k K:Nat}{w:World}(h:FV v q k true w)(hq:q=r)(hk:k<=K):FV v r K true w:=hq ▸ h.weak hk
theorem FI.as{v:Value}{z y:Int}{k K:Nat}{w:World}(h:FI v z k w)(hq:z=y)(hk:k<=K):FI v y K w:=hq ▸ h.weak hk
theorem FV.zero(k:Nat)(w:World):FV dN 0 k true w :=
 ⟨false,none,0,0,none,0,0,[],[],rfl,Rd.nil_ _ _ _,Rd.nil_ _ _ _,rfl,rfl,aoI _,aoI _,aoG _,aoG _,rfl,rfl⟩
theorem FI.zero(w:World):FI (.agg #[.bool false,.slice none 0 0]) 0 0 w:=⟨false,none,0,0,[],0,rfl,Rd.nil_ _ _ _,aoI _,rfl,aoG _,aoG _,rfl,rfl⟩
section
variable (W0:World) (U:List Box) (Ps:List (World->Prop))
def dm(v:Value)(u:Value)(w:World):Prop:=u=v/\St W0 U Ps w
def jk(q:Rat)(k:Nat)(u:Value)(w:World):Prop := ∃ (s:Bool) (A:Option Addr) (n c:Nat) (B:Option Addr) (m d:Nat),u=(aoC s A n c B m d)/\St W0 U (FV (aoC s A n c B m d) q k true::Ps) w
def iI(z:Int)(k:Nat)(u:Value)(w:World):Prop := ∃ (s:Bool) (A:Option Addr) (n c:Nat),u = .agg #[.bool s,.slice A n c]/\St W0 U (FI (.agg #[.bool s,.slice A n c]) z k::Ps) w
def eG(q:Rat)(k:Nat)(er:Value)(u:Value)(w:World):Prop := ∃ (s:Bool) (A:Option Addr) (n c:Nat) (B:Option Addr) (m d:Nat),u = .tuple #[(aoC s A n c B m d),er]/\St W0 U (FV (aoC s A n c B m d) q k true::Ps) w
def EI(x y:Int)(k:Nat)(u:Value)(w:World):Prop := ∃ (s:Bool) (A:Option Addr) (n c:Nat) (s':Bool) (A':Option Addr) (n' c':Nat),u = .tuple #[.agg #[.bool s,.slice A n c],.agg #[.bool s',.slice A' n' c']]/\St W0 U (FI (.agg #[.bool s,.slice A n c]) x k::FI (.agg #[.bool s',.slice A' n' c']) y k::Ps) w
end
theorem St.init(W:World):St W [] [] W:=⟨Below.refl _ _,(fun _ h=>by cases h),(fun _ h=>by cases h),.nil,(fun _ h=>by cases h),(fun _ h=>by cases h)⟩
theorem law_true{P:Program}{f:FuncId}{vs:List Value}{W:World}(h:bC P f vs W (dm W [] [] (.bool true))):Calls P f vs.toArray W fun e w'=>e = .returned (.bool true)/\Below W.heap.size W w' :=
 Calls.mono h fun e w' hh=>by
  obtain ⟨v,rfl,rfl,hs⟩:=hh;exact ⟨rfl,hs.below⟩
end Lw
namespace Go.Proofs.BGQ
open Go Go.RowKit Lw bI
section
variable {W0 w w':World} {U:List Box} {Ps:List (World->Prop)} {v v':Value} {q r:Rat} {x y:Int} {k k':Nat} {b b':Bool} {f:FuncId} {vs:List Value} {L:List En} {M:List Qn}
section
variable {b1 s1 s2:Bool} {x1 x2 z1:Int} {c1 c2 d1 k1 k2 m1 n1 n2:Nat} {A1 A2 B1:Option Addr} {q1:Rat}
theorem St.start(HS:St W0 U Ps w)(ht:Tz W0)(hb:Tab W0):bu w w [] [] [] []:=bu.start (ht.next HS.below) (hb.next HS.below)
theorem zg(HS:St W0 U Ps w)(h:Calls Tryz.prog f vs.toArray w (eF w [] L [] M q k)):bC Tryz.prog f vs w (jk W0 U Ps q k) :=
 h.mono fun e w' hh=>by
  obtain ⟨s,A,n,c,A',n',c',rfl,he⟩:=hh;exact ⟨_,rfl,s,A,n,c,A',n',c',rfl,(HS.next he.below).add (FV.stable _ q k true) (he.fr _ ak)⟩
theorem lN(HS:St W0 U Ps w)(h:Calls Tryz.prog f vs.toArray w (fC w [] L [] M x k)):bC Tryz.prog f vs w (iI W0 U Ps x k) :=
 h.mono fun e w' hh=>by
  obtain ⟨s,A,n,c,rfl,he⟩:=hh;exact ⟨_,rfl,s,A,n,c,rfl,(HS.next he.below).add (FI.stable _ x k) (he.env.ops _ ak)⟩
theorem mY(HS:St W0 U Ps w){u:Value}(h:Calls Tryz.prog f vs.toArray w (fun e w'=>e = .returned u/\bu w w' [] L [] M)):bC Tryz.prog f vs w (dm W0 U Ps u) :=
 h.mono fun e w' hh=>by
  obtain ⟨rfl,he⟩:=hh;exact ⟨_,rfl,rfl,HS.next he.below⟩
theorem uZ(HS:St W0 U Ps w){er:Value}(h:Calls Tryz.prog f vs.toArray w (fun e w' => ∃ (s:Bool) (A:Option Addr) (n c:Nat) (A':Option Addr) (n' c':Nat),e = .returned (.tuple #[(aoC s A n c A' n' c'),er])/\bu w w' [] L [] (⟨(aoC s A n c A' n' c'),q,k,true⟩::M))):bC Tryz.prog f vs w (eG W0 U Ps q k er) :=
 h.mono fun e w' hh=>by
  obtain ⟨s,A,n,c,A',n',c',rfl,he⟩:=hh;exact ⟨_,rfl,s,A,n,c,A',n',c',rfl,(HS.next he.below).add (FV.stable _ q k true) (he.fr _ ak)⟩
theorem NU(HS:St W0 U Ps w)(h:Calls Tryz.prog f vs.toArray w (kG w [] L [] M x y k)):bC Tryz.prog f vs w (EI W0 U Ps x y k) :=
 h.mono fun e w' hh=>by
  obtain ⟨s,A,n,c,s',A',n',c',rfl,he⟩:=hh;exact ⟨_,rfl,s,A,n,c,s',A',n',c',rfl,((HS.next he.below).add (FI.stable _ y k) (he.env.ops _ au)).add (FI.stable _ x k) (he.env.ops _ ak)⟩
theorem CB(HT:Tz W0)(HB:Tab W0)(HS:St W0 U Ps w)(f1:FV (aoC s1 A1 n1 c1 B1 m1 d1) q1 k1 b1 w)(hk:k1<=100000):bC Tryz.prog 56 [(aoC s1 A1 n1 c1 B1 m1 d1)] w (dm W0 U Ps (.bool b1)) :=
 mY HS (NH ((St.start HS HT HB).cons f1) ak hk)
theorem YW(HT:Tz W0)(HB:Tab W0)(HS:St W0 U Ps w)(f1:FV (aoC s1 A1 n1 c1 B1 m1 d1) q1 k1 b1 w)(hk:k1<=40000):bC Tryz.prog 53 [(aoC s1 A1 n1 c1 B1 m1 d1)] w (dm W0 U Ps (.string ⟨(fE q1).toArray⟩)) :=
 mY HS (YX ((St.start HS HT HB).cons f1) ak hk)
theorem YQ(HT:Tz W0)(HB:Tab W0)(HS:St W0 U Ps w)(f1:FV (aoC s1 A1 n1 c1 B1 m1 d1) q1 k1 b1 w)(hk:k1<=100000):bC Tryz.prog 110 [(aoC s1 A1 n1 c1 B1 m1 d1)] w (EI W0 U Ps (q1.num) ((q1.den:Int)) (k1+2)) :=
 NU HS (YR ((St.start HS HT HB).cons f1) ak hk)
theorem adO(HT:Tz W0)(HB:Tab W0)(HS:St W0 U Ps w){z2:Int}(h1 : -9223372036854775808<=z1)(h2:z1<=9223372036854775807)(h3 : -9223372036854775808<=z2)(h4:z2<=9223372036854775807)(hy:z2≠0):bC Tryz.prog 87 [.int .i64 z1,.int .i64 z2] w (eG W0 U Ps (Rat.divInt z1 z2) (6) (.int .i64 0)) :=
 uZ HS (adP (St.start HS HT HB)  h1 h2 h3 h4 hy)
theorem adI(HT:Tz W0)(HB:Tab W0)(HS:St W0 U Ps w){B2:Option Addr}{m2 d2:Nat}{q2:Rat}{b2:Bool}(f1:FV (aoC s1 A1 n1 c1 B1 m1 d1) q1 k1 b1 w)(f2:FV (aoC s2 A2 n2 c2 B2 m2 d2) q2 k2 b2 w)(hk:k1+k2<=800):bC Tryz.prog 37 [(aoC s1 A1 n1 c1 B1 m1 d1),(aoC s2 A2 n2 c2 B2 m2 d2)] w (dm W0 U Ps (.int .i64 (iK q1 q2))) :=
 mY HS (adL (((St.start HS HT HB).cons f2).cons f1) ak au hk)
theorem Q9(HT:Tz W0)(HB:Tab W0)(HS:St W0 U Ps w)(f1:FV (aoC s1 A1 n1 c1 B1 m1 d1) q1 k1 b1 w)(hk:k1<=900):bC Tryz.prog 55 [(aoC s1 A1 n1 c1 B1 m1 d1)] w (dm W0 U Ps (.int .i64 (iZ q1))) :=
 mY HS (adX ((St.start HS HT HB).cons f1) ak hk)
theorem Ri(HT:Tz W0)(HB:Tab W0)(HS:St W0 U Ps w)(f1:FV (aoC s1 A1 n1 c1 B1 m1 d1) q1 k1 b1 w)(hk:k1<=3000):bC Tryz.prog 54 [(aoC s1 A1 n1 c1 B1 m1 d1)] w (dm W0 U Ps (.bool b1)) :=
 mY HS (ad1 ((St.start HS HT HB).cons f1) ak hk)
theorem adW(HT:Tz W0)(HB:Tab W0)(HS:St W0 U Ps w)(f1:FV (aoC s1 A1 n1 c1 B1 m1 d1) q1 k1 b1 w)(hk:k1<=3000):bC Tryz.prog 99 [(aoC s1 A1 n1 c1 B1 m1 d1)] w (EI W0 U Ps (q1.num) ((q1.den:Int)) (k1+2)) :=
 NU HS (pW ((St.start HS HT HB).cons f1) ak hk)
theorem qV(HT:Tz W0)(HB:Tab W0)(HS:St W0 U Ps w)    : bC Tryz.prog 98 [] w (iI W0 U Ps (1) (2)) :=
 lN HS (Ah (St.start HS HT HB)  )
theorem acZ(HT:Tz W0)(HB:Tab W0)(HS:St W0 U Ps w)(f1:FI (.agg #[.bool s1,.slice A1 n1 c1]) x1 k1 w)(f2:FI (.agg #[.bool s2,.slice A2 n2 c2]) x2 k2 w)(hk:k1<=10000/\k2<=10000):bC Tryz.prog 96 [.agg #[.bool s1,.slice A1 n1 c1],.agg #[.bool s2,.slice A2 n2 c2]] w (dm W0 U Ps (.int .i64 (eY x1 x2))) :=
 mY HS (QL (((St.start HS HT HB).push f2).push f1) ak au hk)
theorem aaD(HT:Tz W0)(HB:Tab W0)(HS:St W0 U Ps w)(f1:FI (.agg #[.bool s1,.slice A1 n1 c1]) x1 k1 w)(f2:FI (.agg #[.bool s2,.slice A2 n2 c2]) x2 k2 w)(hk:k1+k2<=100000):bC Tryz.prog 70 [.agg #[.bool s1,.slice A1 n1 c1],.agg #[.bool s2,.slice A2 n2 c2]] w (iI W0 U Ps (x1+x2) (k1+k2+1)) :=
 lN HS (O0 (((St.start HS HT HB).push f2).push f1) ak au hk)
theorem aaG(HT:Tz W0)(HB:Tab W0)(HS:St W0 U Ps w)(f1:FI (.agg #[.bool s1,.slice A1 n1 c1]) x1 k1 w)(f2:FI (.agg #[.bool s2,.slice A2 n2 c2]) x2 k2 w)(hk:k1+k2<=100000):bC Tryz.prog 69 [.agg #[.bool s1,.slice A1 n1 c1],.agg #[.bool s2,.slice A2 n2 c2]] w (iI W0 U Ps (x1*x2) (k1+k2+1)) :=
 lN HS (Di (((St.start HS HT HB).push f2).push f1) ak au hk)
theorem tH(HT:Tz W0)(HB:Tab W0)(HS:St W0 U Ps w)(h1 : -9223372036854775808<=z1)(h2:z1<=9223372036854775807):bC Tryz.prog 121 [.int .i64 z1] w (iI W0 U Ps (z1) (2)) :=
 lN HS (tJ (St.start HS HT HB)  h1 h2)
theorem YU(HT:Tz W0)(HB:Tab W0)(HS:St W0 U Ps w)(f2:FI (.agg #[.bool s2,.slice A2 n2 c2]) x2 k2 w)(hk:k2<=40000)(hy:x2=0):bC Tryz.prog 51 [.agg #[.bool s1,.slice A1 n1 c1],.agg #[.bool s2,.slice A2 n2 c2]] w (dm W0 U Ps (yY 8)) :=
 mY HS (YV ((St.start HS HT HB).push f2) ak hk hy)
end
end
section
variable {W0 w:World} {U:List Box} {Ps:List (World->Prop)}
variable {vs:List Value} {k:Nat} {q:Rat} {er:Value}
theorem St.same(HS:St W0 U Ps w){f:FuncId}{u:Value}(h:Calls Tryz.prog f vs.toArray w (fun e w'=>e = .returned u/\w=w')):bC Tryz.prog f vs w (dm W0 U Ps u) :=
 h.mono fun e w' hh=>by
  obtain ⟨rfl,rfl⟩:=hh;exact ⟨_,rfl,rfl,HS⟩
theorem Ql(HS:St W0 U Ps w):bC Tryz.prog 18 [.nilIface] w (dm W0 U Ps (.int .i64 0)):=St.same HS (abX w)
theorem vV(HS:St W0 U Ps w)(z:Int):bC Tryz.prog 18 [.iface 88 (.int .i64 z)] w (dm W0 U Ps (.int .i64 z)):=St.same HS (abW z w)
theorem eG.more{f:FuncId}{r:Rat}{K:Nat}(h:bC Tryz.prog f vs w (eG W0 U Ps q k er))(hq:q=r)(hk:k<=K):bC Tryz.prog f vs w (eG W0 U Ps r K er) :=
 Calls.mono h fun e w' hh=>by
  subst hq;obtain ⟨u,rfl,s,A,n,c,B,m,d,rfl,hs⟩:=hh;exact ⟨_,rfl,_,_,_,_,_,_,_,rfl,hs.out 0 1 0 rfl rfl rfl (fun _ h=>h.weak hk)⟩
theorem eG.of{f:FuncId}(HS:St W0 U Ps w){L:List En}{M:List Qn}(h:Calls Tryz.prog f vs.toArray w (fun e w' => ∃ (s:Bool) (A:Option Addr) (n c:Nat) (A':Option Addr) (n' c':Nat),e = .returned (.tuple #[(aoC s A n c A' n' c'),er])/\bu w w' [] L [] (⟨(aoC s A n c A' n' c'),q,k,true⟩::M))):bC Tryz.prog f vs w (eG W0 U Ps q k er):=uZ HS h
end
def jc(er:Value)(code:Int):Prop := ∀ (W0 w:World) (U:List Box) (Ps:List (World->Prop)),St W0 U Ps w->bC Tryz.prog 18 [er] w (dm W0 U Ps (.int .i64 code))
theorem jc.nil_:jc .nilIface 0:=fun _ _ _ _ HS=>Ql HS
end Go.Proofs.BGQ
namespace bI
open Go Go.RowKit
theorem St.gy{W0 w:World}{U U':List Box}{Ps Ps':List (World->Prop)}{P:World->Prop}(HS:St W0 U' (P::Ps') w)(n m:Nat)(hU:U'.drop n=U)(hP:Ps'.drop m=Ps):St W0 U (P::Ps) w:=HS.out n (m+1) 0 hU (by simpa using hP) rfl (fun _ h=>h)
end bI
namespace Lw
open Go Go.RowKit bI
def FW(v:Value)(ns:List Nat)(w:World):Prop := ∃ (A:Option Addr) (n c:Nat),v = .slice A n c/\Rd w w.heap.size A ns/\ns.length=n/\n<=c
theorem FW.stable(v:Value)(ns:List Nat):Stable (FW v ns):=fun gs w w' ha h=>by
 obtain ⟨A,n,c,h1,h2,h3⟩:=h;exact ⟨A,n,c,h1,h2.keeps ha,h3⟩
theorem FW.rd{A:Option Addr}{n c:Nat}{ns:List Nat}{w:World}(h:FW (.slice A n c) ns w):Rd w w.heap.size A ns/\ns.length=n/\n<=c:=by
 obtain ⟨A',n',c',h1,h2⟩:=h
 injection h1 with e1 e2 e3;subst e1 e2 e3;exact h2
section
variable {s:Bool} {A B:Option Addr} {n c m d k:Nat} {q:Rat} {w:World}
theorem FV.neg(h:FV (aoC s A n c B m d) q k true w):s=rs q:=(dA.own h).1
theorem FV.nz(h:FV (aoC s A n c B m d) q k true w):n=0↔q=0:=vS (dA.own h).2.1
theorem FV.num(h:FV (aoC s A n c B m d) q k true w):FW (.slice A n c) (rn q) w:=by
 obtain ⟨_,h2,_,h4,_,_,_,h8,_⟩:=dA.own h;exact ⟨A,n,c,rfl,h4,h2.symm,h8⟩
theorem FV.den(h:FV (aoC s A n c B m d) q k true w):FW (.slice B m d) (rd q) w:=by
 obtain ⟨_,_,h3,_,h5,_,_,_,h9⟩:=dA.own h;exact ⟨B,m,d,rfl,h5,h3.symm,h9⟩
theorem FV.mk(hs:s=rs q)(h1:FW (.slice A n c) (rn q) w)(h2:FW (.slice B m d) (rd q) w)(hn:n<=k)(hm:m<=k):FV (aoC s A n c B m d) q k true w:=by
 obtain ⟨a1,a2,a3⟩:=h1.rd;obtain ⟨b1,b2,b3⟩:=h2.rd;subst hs a2 b2;exact Go.Proofs.BGQ.Qq a1 b1 hn hm a3 b3
end
theorem Xx(q r:Rat):decide (iK q r > 0)=decide (r<q):=by
 rw [decide_eq_decide];unfold iK
 split
 ·constructor <;> intro h <;> grind
 ·split <;> constructor <;> intro h <;> grind
theorem Xy(q r:Rat):decide (iK q r<0)=decide (q<r):=by
 rw [decide_eq_decide];unfold iK
 split
 ·constructor <;> intro h <;> grind
 ·split <;> constructor <;> intro h <;> grind
theorem MI(q r:Rat):(iK q r==0)=decide (q=r):=by
 have h1:=Xx q r;have h2:=Xy q r;rw [decide_eq_decide] at h1 h2;rw [Bool.eq_iff_iff,beq_iff_eq,decide_eq_true_iff];constructor <;> intro h <;> grind
theorem aeO(q:Rat):iZ q=iK q 0:=by unfold iZ iK;rfl
theorem aeP(q:Rat):(iZ q==0)=decide (q=0):=by rw [aeO];exact MI q 0
theorem Xw(x y:Int):(eY x y==0)=decide (x=y):=by
 rw [Bool.eq_iff_iff,beq_iff_eq,decide_eq_true_iff];unfold eY
 split
 ·constructor <;> intro <;> omega
 ·split <;> constructor <;> intro <;> omega
section
variable {P:Program} {ops:Array Oper} {Q:Exit->Act->World->Prop} {N d:Nat} {T:List (Nat×Value)} {W0 w:World} {U:List Box} {Ps:List (World->Prop)} {rest:List Oper}
theorem JL.words{t e:TypeId}{len:Nat}{l:List (Nat×Operand)}{ps:List (Nat×Value)}{z:Value}{ns:List Nat}{ty:TypeId}{pos:String}{bD:Array Edge}(HS:St W0 U Ps w)(hN:Nat.ble (d+1) N=true)(hl : ∀ a,Kn a N T->l.map (fun p=>(p.1,a.eval p.2))=ps)(hu : ∀ w,(underlying t).run P w = .ok (.slice e) w)(hs : ∀ w,(Go.sizeOf e).run P w = .ok 1 w)(hz : ∀ w,(zeroValue e).run P w = .ok z w)(hb:Nat.ble (len*1) (2^24)=true)(h0:(len*1==0)=false)(hf:Instr.fill (fun i=>some (i*1,1)) ((Array.range (len*1)).map (z.cells[· % z.cells.size]!)) ps=some (arr ns).toArray)(hw:bJ ns)(hn:ns.length=len)(h : ∀ g w',St W0 U (FW (.slice (some ⟨g,0,none⟩) len len) ns::Ps) w'->JL P ops Q rest N ((d,.slice (some ⟨g,0,none⟩) len len)::T) w'):JL P ops Q (⟨some d,.buildSlice t len l.toArray,ty,pos,bD,none⟩::rest) N T w :=
 JL.val rfl rfl hN (fun a ha=>run_buildSlice (hl a ha) hu hs hz hb h0 hf) (h _ _ ((HS.next ((Below.refl _ w).alloc (aoG _) _)).add (FW.stable _ _) ⟨_,_,_,rfl,(bF.new w e ns).rd hw,hn,aoG _⟩))
end
end Lw
namespace bI
open Go Go.RowKit
theorem St.ab2{W0 w:World}{U U':List Box}{Ps Ps':List (World->Prop)}{P Q P' Q' Lj Q'':World->Prop}(HS:St W0 U' Ps' w)(n m i j l:Nat)(hU:U'.drop n=U)(hP:Ps'.drop m=Ps)(hi:Ps'[i]? = some P)(hq : ∀ w,P w->Q w)(hj:Ps'[j]? = some P')(hq' : ∀ w,P' w->Q' w)(hl:Ps'[l]? = some Lj)(Z9 : ∀ w,Lj w->Q'' w):St W0 U (Q::Q'::Q''::Ps) w:=by
 subst hU hP;have h1:=((HS.map (aoQ hl) Z9).map (.tail _ (aoQ hj)) hq').map (.tail _ (.tail _ (aoQ hi))) hq;have h2:=h1.Qp (U:=U'.drop n) (Ps:=Q::Q'::Q''::Ps') n 0 rfl rfl
 exact h2.facts fun P hP=>by
  simp only [List.mem_cons] at hP ⊢;rcases hP with h | h | h | h
  ·exact .inl h
  ·exact .inr (.inl h)
  ·exact .inr (.inr (.inl h))
  ·exact .inr (.inr (.inr (aph h)))
end bI
namespace Lw
open Go Go.RowKit bI
section
variable (W0:World) (U:List Box) (Ps:List (World->Prop))
def Bj(q:Rat)(u:Bool)(k:Nat)(v:Value)(w:World):Prop := ∃ (s:Bool) (A:Option Addr) (n c:Nat) (B:Option Addr) (m d:Nat),v = .agg #[.bool s,.slice A n c,.slice B m d,.bool u]/\St W0 U (FV (.agg #[.bool s,.slice A n c,.slice B m d]) q k true::Ps) w
def oD(q:Rat)(u:Bool)(k:Nat)(er:Value)(v:Value)(w:World):Prop := ∃ (s:Bool) (A:Option Addr) (n c:Nat) (B:Option Addr) (m d:Nat),v = .tuple #[.agg #[.bool s,.slice A n c,.slice B m d,.bool u],er]/\St W0 U (FV (.agg #[.bool s,.slice A n c,.slice B m d]) q k true::Ps) w
def KA(xa:Int)(xb:Int)(k:Nat)(v:Value)(w:World):Prop := ∃ (sa:Bool) (Aa:Option Addr) (na ca:Nat) (sb:Bool) (Ab:Option Addr) (nb cb:Nat),v = .agg #[.bool sa,.slice Aa na ca,.bool sb,.slice Ab nb cb]/\St W0 U (FI (.agg #[.bool sa,.slice Aa na ca]) xa k::FI (.agg #[.bool sb,.slice Ab nb cb]) xb k::Ps) w
def UF(xa:Int)(xb:Int)(xc:Int)(k:Nat)(v:Value)(w:World):Prop := ∃ (sa:Bool) (Aa:Option Addr) (na ca:Nat) (sb:Bool) (Ab:Option Addr) (nb cb:Nat) (sc:Bool) (Ac:Option Addr) (nc cc:Nat),v = .tuple #[.agg #[.bool sa,.slice Aa na ca,.bool sb,.slice Ab nb cb],.agg #[.bool sc,.slice Ac nc cc]]/\St W0 U (FI (.agg #[.bool sa,.slice Aa na ca]) xa k::FI (.agg #[.bool sb,.slice Ab nb cb]) xb k::FI (.agg #[.bool sc,.slice Ac nc cc]) xc k::Ps) w
end
theorem FX{a b c:Value}{x y:Bool}(h:x=y):Value.agg #[a,b,c,.bool x] = .agg #[a,b,c,.bool y]:=h ▸ rfl
theorem SG(q:Rat):(iZ q != 0)=(!(decide (q=0))):=by rw [<- aeP];rfl
def ed(b u:Bool)(q:Rat):Prop:=b=true/\(u=true->q=0)
def ql(u:Bool)(q:Rat):Rat:=if u then -1 else (1-q*q)*(1+q*q)⁻¹
def nX(u:Bool)(q:Rat):Rat:=if u then 0 else (q+q)*(1+q*q)⁻¹
def kF(u1:Bool)(q1:Rat)(u2:Bool)(q2:Rat):Bool:=if u1 then !u2&&decide (q2=0) else if u2 then decide (q1=0) else decide (1-q1*q2=0)
def nU(u1:Bool)(q1:Rat)(u2:Bool)(q2:Rat):Rat:=if u1 then (if u2 then 0 else -q2⁻¹) else if u2 then -q1⁻¹ else (q1+q2)*(1-q1*q2)⁻¹
def xQ(u:Bool)(q:Rat):List UInt8:=if u then [104,97,108,102] else fE q
theorem Eb(q:Rat):0<=q*q:=by
 rcases Rat.le_total (a:=0) (b:=q) with h | h
 ·exact Rat.mul_nonneg h h
 ·have:=Rat.mul_nonneg (a := -q) (b := -q) (by grind) (by grind);grind
theorem Ea(q:Rat):1+q*q≠0:=by have:=Eb q;grind
end Lw
namespace Go.Proofs.BGQ
open Go Go.RowKit Lw bI
section
variable {W0 w:World} {U:List Box} {Ps:List (World->Prop)}
theorem dW(w:World):Sem.run Tryz.prog (Array.mapM (fun (f:Go.Field)=>Prod.mk f.offset <$> Go.sizeOf f.type) #[{ name:= "Neg",type:=4,offset:=0,embedded:=false,tag:= "",pkgPath:= "",byteOffset:=0 },{ name:= "Num",type:=22,offset:=1,embedded:=false,tag:= "",pkgPath:= "",byteOffset:=8 },{ name:= "Den",type:=22,offset:=2,embedded:=false,tag:= "",pkgPath:= "",byteOffset:=32 }]) w = .ok #[(0,1),(1,1),(2,1)] w:=ah
theorem jT(w:World):Sem.run Tryz.prog (Array.mapM (fun (f:Go.Field)=>Prod.mk f.offset <$> Go.sizeOf f.type) #[{ name:= "T",type:=24,offset:=0,embedded:=false,tag:= "",pkgPath:= "",byteOffset:=0 },{ name:= "Half",type:=4,offset:=3,embedded:=false,tag:= "",pkgPath:= "",byteOffset:=56 }]) w = .ok #[(0,3),(3,1)] w:=ah
set_option maxRecDepth 100000 in
set_option maxHeartbeats 400000 in
theorem Jg(HT:Tz W0)(HB:Tab W0){s1:Bool}{A1:Option Addr}{n1 c1:Nat}{B1:Option Addr}{m1 d1:Nat}{q1:Rat}{k1:Nat}{b1:Bool}{u1:Bool}(HS:St W0 U Ps w)(f1:FV (.agg #[.bool s1,.slice A1 n1 c1,.slice B1 m1 d1]) q1 k1 b1 w)(hk:k1<=900)(hg:ed b1 u1 q1):bC Tryz.prog 17 [.agg #[.bool s1,.slice A1 n1 c1,.slice B1 m1 d1,.bool u1]] w (dm W0 U Ps (.int .i64 0)):=by
 have HS:=HS.add (FV.stable _ _ _ _) f1;clear f1;refine cZ Tryz.func17 rfl Tryz.ntmps17 rfl<|Js<|JL.box (vs:=[.bool s1,.slice A1 n1 c1,.slice B1 m1 d1,.bool u1]) HS rfl rfl rfl rfl (fun g21 dO HS => ?_);refine La rfl<|Jn<|JC.seq<|Js<|eH 0 rfl amR rfl amI<|JL.load (.agg #[.bool s1,.slice A1 n1 c1,.slice B1 m1 d1]) HS 0 rfl rfl rfl amL amI rfl rfl<|JL.call rfl rfl Tryz.call54 (Ri HT HB HS (HS.at_ 0 rfl) af)<|?_;rintro v22 dQ ⟨rfl,HS⟩;refine Lz (.bool (!b1)) (fun a ha=>fF (ha.ev rfl))<|?_
 cases b1
 ·skip
  refine Lm rfl<|Lq<|Lq<|Lq<|gu<|gu<|gu<|gu<|Lq<|Lt rfl rfl<|Jn<|JC.bP rfl<|Js<|La rfl<|Jn<|Ja Tryz.results17 (.tmp rfl)<|?_;exact ⟨(absurd hg (by simp_all [ed])),HS.o0 1 1⟩
 ·skip
  refine Lm rfl<|bz (.pointer (some ⟨g21,3,none⟩)) (fun a ha=>iG (ha.ev rfl) amR rfl amY rfl rfl)<|bz (.bool u1) (fun a ha=>kD (ha.ev rfl) amX (HS.box _ ak) rfl)<|bZ rfl<|?_
  cases u1
  ·skip
   refine Lq<|Lq<|Lq<|Lq<|bz (.bool false) (fun a ha=>qX (ha.ev rfl) (ha.ev rfl))<|Lf rfl rfl<|Jn<|JC.bH rfl<|Jk<|Js<|La rfl<|Jn<|Ja Tryz.results17 (.tmp rfl)<|?_;exact ⟨rfl,HS.o0 1 1⟩
  ·skip
   refine bz (.pointer (some ⟨g21,0,none⟩)) (fun a ha=>iG (ha.ev rfl) amR rfl amI rfl rfl)<|bz (.agg #[.bool s1,.slice A1 n1 c1,.slice B1 m1 d1]) (fun a ha=>fQ (ha.ev rfl) amL amI (HS.box _ ak) rfl rfl)<|JL.dJ rfl rfl rfl rfl rfl rfl Tryz.call55 (Q9 HT HB HS (HS.at_ 0 rfl) af)<|?_;rintro v25 fU ⟨rfl,HS⟩;refine bz (.bool (!(decide (q1=0)))) (fun a ha=>fK (ha.ev rfl) (ha.ev rfl) (SG _))<|bz (.bool (!(decide (q1=0)))) (fun a ha=>iQ (ha.ev rfl) (ha.ev rfl))<|Lf rfl rfl<|Jn<|?_
   cases aak:((decide (q1=0)))
   ·skip
    refine JC.bP rfl<|Js<|La rfl<|Jn<|Ja Tryz.results17 (.tmp rfl)<|?_;exact ⟨(absurd hg (by simp_all [ed])),HS.o0 1 1⟩
   ·skip
    refine JC.bH rfl<|Jk<|Js<|La rfl<|Jn<|Ja Tryz.results17 (.tmp rfl)<|?_;exact ⟨rfl,HS.o0 1 1⟩
set_option maxRecDepth 100000 in
set_option maxHeartbeats 400000 in
theorem Ro(HT:Tz W0)(HB:Tab W0){s1:Bool}{A1:Option Addr}{n1 c1:Nat}{B1:Option Addr}{m1 d1:Nat}{q1:Rat}{k1:Nat}{b1:Bool}{u1:Bool}(HS:St W0 U Ps w)(f1:FV (.agg #[.bool s1,.slice A1 n1 c1,.slice B1 m1 d1]) q1 k1 b1 w)(hk:k1<=900)(hg:¬ ed b1 u1 q1):bC Tryz.prog 17 [.agg #[.bool s1,.slice A1 n1 c1,.slice B1 m1 d1,.bool u1]] w (dm W0 U Ps (.int .i64 2)):=by
 have HS:=HS.add (FV.stable _ _ _ _) f1;clear f1;refine cZ Tryz.func17 rfl Tryz.ntmps17 rfl<|Js<|JL.box (vs:=[.bool s1,.slice A1 n1 c1,.slice B1 m1 d1,.bool u1]) HS rfl rfl rfl rfl (fun g21 dO HS => ?_);refine La rfl<|Jn<|JC.seq<|Js<|eH 0 rfl amR rfl amI<|JL.load (.agg #[.bool s1,.slice A1 n1 c1,.slice B1 m1 d1]) HS 0 rfl rfl rfl amL amI rfl rfl<|JL.call rfl rfl Tryz.call54 (Ri HT HB HS (HS.at_ 0 rfl) af)<|?_;rintro v22 dQ ⟨rfl,HS⟩;refine Lz (.bool (!b1)) (fun a ha=>fF (ha.ev rfl))<|?_
 cases b1
 ·skip
  refine Lm rfl<|Lq<|Lq<|Lq<|gu<|gu<|gu<|gu<|Lq<|Lt rfl rfl<|Jn<|JC.bP rfl<|Js<|La rfl<|Jn<|Ja Tryz.results17 (.tmp rfl)<|?_;exact ⟨rfl,HS.o0 1 1⟩
 ·skip
  refine Lm rfl<|bz (.pointer (some ⟨g21,3,none⟩)) (fun a ha=>iG (ha.ev rfl) amR rfl amY rfl rfl)<|bz (.bool u1) (fun a ha=>kD (ha.ev rfl) amX (HS.box _ ak) rfl)<|bZ rfl<|?_
  cases u1
  ·skip
   refine Lq<|Lq<|Lq<|Lq<|bz (.bool false) (fun a ha=>qX (ha.ev rfl) (ha.ev rfl))<|Lf rfl rfl<|Jn<|JC.bH rfl<|Jk<|Js<|La rfl<|Jn<|Ja Tryz.results17 (.tmp rfl)<|?_;exact ⟨(absurd (by simp_all [ed]) hg),HS.o0 1 1⟩
  ·skip
   refine bz (.pointer (some ⟨g21,0,none⟩)) (fun a ha=>iG (ha.ev rfl) amR rfl amI rfl rfl)<|bz (.agg #[.bool s1,.slice A1 n1 c1,.slice B1 m1 d1]) (fun a ha=>fQ (ha.ev rfl) amL amI (HS.box _ ak) rfl rfl)<|JL.dJ rfl rfl rfl rfl rfl rfl Tryz.call55 (Q9 HT HB HS (HS.at_ 0 rfl) af)<|?_;rintro v25 fU ⟨rfl,HS⟩;refine bz (.bool (!(decide (q1=0)))) (fun a ha=>fK (ha.ev rfl) (ha.ev rfl) (SG _))<|bz (.bool (!(decide (q1=0)))) (fun a ha=>iQ (ha.ev rfl) (ha.ev rfl))<|Lf rfl rfl<|Jn<|?_
   cases aak:((decide (q1=0)))
   ·skip
    refine JC.bP rfl<|Js<|La rfl<|Jn<|Ja Tryz.results17 (.tmp rfl)<|?_;exact ⟨rfl,HS.o0 1 1⟩
   ·skip
    refine JC.bH rfl<|Jk<|Js<|La rfl<|Jn<|Ja Tryz.results17 (.tmp rfl)<|?_;exact ⟨(absurd (by simp_all [ed]) hg),HS.o0 1 1⟩
set_option maxRecDepth 100000 in
set_option maxHeartbeats 400000 in
theorem Jj(HT:Tz W0)(HB:Tab W0){s1:Bool}{A1:Option Addr}{n1 c1:Nat}{B1:Option Addr}{m1 d1:Nat}{q1:Rat}{k1:Nat}{b1:Bool}{u1:Bool}{s2:Bool}{A2:Option Addr}{n2 c2:Nat}{B2:Option Addr}{m2 d2:Nat}{q2:Rat}{k2:Nat}{b2:Bool}{u2:Bool}(HS:St W0 U Ps w)(f1:FV (.agg #[.bool s1,.slice A1 n1 c1,.slice B1 m1 d1]) q1 k1 b1 w)(f2:FV (.agg #[.bool s2,.slice A2 n2 c2,.slice B2 m2 d2]) q2 k2 b2 w)(hk:k1+k2<=800)(hu:u1=u2)(hq:q1=q2):bC Tryz.prog 23 [.agg #[.bool s1,.slice A1 n1 c1,.slice B1 m1 d1,.bool u1],.agg #[.bool s2,.slice A2 n2 c2,.slice B2 m2 d2,.bool u2]] w (dm W0 U Ps (.bool true)):=by
 have HS:=HS.add (FV.stable _ _ _ _) f1;have HS:=HS.add (FV.stable _ _ _ _) f2;clear f1 f2;refine cZ Tryz.func23 rfl Tryz.ntmps23 rfl<|Js<|JL.box (vs:=[.bool s1,.slice A1 n1 c1,.slice B1 m1 d1,.bool u1]) HS rfl rfl rfl rfl (fun g21 dO HS => ?_);refine JL.box (vs:=[.bool s2,.slice A2 n2 c2,.slice B2 m2 d2,.bool u2]) HS rfl rfl rfl rfl (fun g22 dQ HS => ?_);refine La rfl<|Jn<|Js<|eH 3 rfl amR rfl amY<|JL.fJ (.bool u1) HS 1 rfl rfl rfl amX rfl<|eH 3 rfl amR rfl amY<|JL.fJ (.bool u2) HS 0 rfl rfl rfl amX rfl<|Lz (.bool true) (fun a ha=>aej (ha.ev rfl) (ha.ev rfl) Tryz.runUnderlying4 (by rw [hu];simp))<|Lm rfl<|bz (.pointer (some ⟨g21,0,none⟩)) (fun a ha=>iG (ha.ev rfl) amR rfl amI rfl rfl)<|bz (.agg #[.bool s1,.slice A1 n1 c1,.slice B1 m1 d1]) (fun a ha=>fQ (ha.ev rfl) amL amI (HS.box _ au) rfl rfl)<|bz (.pointer (some ⟨g22,0,none⟩)) (fun a ha=>iG (ha.ev rfl) amR rfl amI rfl rfl)<|bz (.agg #[.bool s2,.slice A2 n2 c2,.slice B2 m2 d2]) (fun a ha=>fQ (ha.ev rfl) amL amI (HS.box _ ak) rfl rfl)<|JL.dJ rfl rfl rfl rfl rfl rfl Tryz.call37 (adI HT HB HS (HS.at_ 1 rfl) (HS.at_ 0 rfl) af)<|?_;rintro v23 fB ⟨rfl,HS⟩;refine bz (.bool (decide (q1=q2))) (fun a ha=>eU (ha.ev rfl) (ha.ev rfl) (MI _ _))<|Lt rfl rfl<|La rfl<|Jn<|Ja Tryz.results23 (.tmp rfl)<|?_;exact ⟨(congrArg Value.bool (decide_eq_true hq)),HS.o0 2 2⟩
end
end Go.Proofs.BGQ
namespace Lw
abbrev Tn:=Bool×Rat
def tA(a b:Tn):Tn:=(kF a.1 a.2 b.1 b.2,nU a.1 a.2 b.1 b.2)
def tN(a:Tn):Tn:=(a.1,-a.2)
def Rp(a:Tn)(x y:Rat):Prop:=(a.1=true/\a.2=0/\x=0/\y≠0)\/(a.1=false/\x≠0/\a.2*x=y)
theorem jZ{a b:Rat}(ha:a≠0)(hb:b≠0):a*b≠0:=fun e=>(Rat.mul_eq_zero.1 e).elim ha hb
theorem abd{a b c:Rat}(hc:c≠0)(h:c*a=c*b):a=b:=by
 have h2:c*(a-b)=0:=by grind
 rcases Rat.mul_eq_zero.1 h2 with h3 | h3
 ·exact absurd h3 hc
 ·grind
theorem qP{a:Rat}(h:a≠0):a*a⁻¹=1:=Rat.mul_inv_cancel a h
theorem Rp.ok{a:Tn}{x y:Rat}(h:Rp a x y):a.1=true->a.2=0:=fun e=>by
 rcases h with ⟨_,h,_⟩ | ⟨h,_⟩
 ·exact h
 ·rw [h] at e;cases e
theorem Rp.uniq{a b:Tn}{x y x' y':Rat}(h:Rp a x y)(h':Rp b x' y')(e:x*y'=x'*y):a=b:=by
 obtain ⟨u,q⟩:=a;obtain ⟨u',q'⟩:=b;rcases h with ⟨h1,h2,h3,h4⟩ | ⟨h1,h2,h3⟩ <;> rcases h' with ⟨g1,g2,g3,g4⟩ | ⟨g1,g2,g3⟩ <;> simp only at h1 h2 h3 g1 g2 g3 <;> subst h1 g1
 ·rw [h2,g2]
 ·exact absurd (show x'*y=0 by grind) (jZ g2 h4)
 ·exact absurd (show x*y'=0 by grind) (jZ h2 g4)
 ·have:x*x'*q=x*x'*q':=by grind
  rw [abd (jZ h2 g2) this]
theorem Rp.add{a b:Tn}{x y x' y':Rat}(h:Rp a x y)(h':Rp b x' y'):Rp (tA a b) (x*x'-y*y') (x*y'+x'*y):=by
 obtain ⟨u,q⟩:=a;obtain ⟨u',q'⟩:=b;rcases h with ⟨h1,h2,h3,h4⟩ | ⟨h1,h2,h3⟩ <;> rcases h' with ⟨g1,g2,g3,g4⟩ | ⟨g1,g2,g3⟩ <;> simp only at h1 h2 h3 g1 g2 g3 <;> subst h1 g1
 ·refine .inr ⟨by simp [tA,kF],?_,?_⟩
  ·have:=jZ h4 g4;grind
  ·simp [tA,nU];grind
 ·by_cases hz:q'=0
  ·refine .inl ⟨by simp [tA,kF,hz],by simp [tA,nU,hz],by grind,?_⟩
   have:=jZ g2 h4;grind
  ·refine .inr ⟨by simp [tA,kF,hz],?_,?_⟩
   ·have:=jZ (jZ hz g2) h4;grind
   ·have:=qP hz
    simp only [tA,nU];simp;grind
 ·by_cases hz:q=0
  ·refine .inl ⟨by simp [tA,kF,hz],by simp [tA,nU,hz],by grind,?_⟩
   have:=jZ h2 g4;grind
  ·refine .inr ⟨by simp [tA,kF,hz],?_,?_⟩
   ·have:=jZ (jZ hz h2) g4;grind
   ·have:=qP hz
    simp only [tA,nU];simp;grind
 ·by_cases hz:1-q*q'=0
  ·refine .inl ⟨by simp [tA,kF,hz],by simp [tA,nU,hz],by grind,?_⟩
   intro e;have e1:x*x'*(q+q')=0:=by grind
   rcases Rat.mul_eq_zero.1 e1 with e2 | e2
   ·exact jZ h2 g2 e2
   ·have e3:q' = -q:=by grind
    subst e3;have:=Eb q;grind
  ·refine .inr ⟨by simp [tA,kF,hz],?_,?_⟩
   ·have:=jZ (jZ h2 g2) hz;grind
   ·have:=qP hz
    simp only [tA,nU];simp;grind
theorem Rp.neg{a:Tn}{x y:Rat}(h:Rp a x y):Rp (tN a) x (-y):=by
 rcases h with ⟨h1,h2,h3,h4⟩ | ⟨h1,h2,h3⟩
 ·exact .inl ⟨h1,by simp [tN,h2],h3,by grind⟩
 ·exact .inr ⟨h1,h2,by simp only [tN];grind⟩
theorem Rp.norm{a:Tn}{x y:Rat}(h:Rp a x y):x*x+y*y≠0:=by
 have h1:=Eb x;have h2:=Eb y;rcases h with ⟨_,_,_,h4⟩ | ⟨_,h4,_⟩ <;> have:=jZ h4 h4 <;> grind
def tok(a:Tn):Prop:=a.1=true->a.2=0
theorem Rp.one:Rp (false,0) 1 0 := .inr ⟨rfl,ai,by simp⟩
def tC(a:Tn):Rat:=ql a.1 a.2
def tS(a:Tn):Rat:=nX a.1 a.2
theorem Rp.cos{a:Tn}{x y:Rat}(h:Rp a x y):(x*x+y*y)*tC a=x*x-y*y:=by
 obtain ⟨u,q⟩:=a;rcases h with ⟨h1,h2,h3,h4⟩ | ⟨h1,h2,h3⟩ <;> simp only at h1 h2 h3 <;> subst h1
 ·simp only [tC,ql,if_true];grind
 ·have:=qP (Ea q)
  simp only [tC,ql];simp;grind
theorem Rp.sin{a:Tn}{x y:Rat}(h:Rp a x y):(x*x+y*y)*tS a=2*(x*y):=by
 obtain ⟨u,q⟩:=a;rcases h with ⟨h1,h2,h3,h4⟩ | ⟨h1,h2,h3⟩ <;> simp only at h1 h2 h3 <;> subst h1
 ·simp only [tS,nX,if_true];grind
 ·have:=qP (Ea q)
  simp only [tS,nX];simp;grind
end Lw
namespace Lw
def hx(u:Bool)(q:Rat):Int:=if u then 0 else (q.den:Int)
def hy(u:Bool)(q:Rat):Int:=if u then 1 else q.num
def gU(x:Int):Bool:=decide (x=0)
def gQ(x y:Int):Rat:=if x=0 then 0 else Rat.divInt y x
theorem MP(q:Rat):((q.den:Int):Rat)≠0:=fun e=>q.den_nz (by have:=Rat.intCast_inj.1 (e.trans (Rat.intCast_zero).symm);omega)
theorem abU(q:Rat):((q.num:Int):Rat)=q*((q.den:Int):Rat):=by
 have h:=aps q;rw [Rat.divInt_eq_div,Rat.div_def] at h;have i:=qP (MP q);generalize ((q.den:Int):Rat)=d at *;generalize ((q.num:Int):Rat)=n at *;rw [<- h];grind
theorem dv{x y:Int}{r:Rat}(h:(y:Rat)≠0)(e:(x:Rat)=r*(y:Rat)):Rat.divInt x y=r:=by
 rw [Rat.divInt_eq_div,Rat.div_def,e];have i:=qP h;grind
theorem BV{x:Int} : (x:Rat)≠0↔x≠0:=not_congr ⟨fun e=>Rat.intCast_inj.1 (e.trans Rat.intCast_zero.symm),fun e=>by rw [e];rfl⟩
theorem Rp.half{a:Tn}(h:tok a):Rp a ((hx a.1 a.2:Int):Rat) ((hy a.1 a.2:Int):Rat):=by
 obtain ⟨u,q⟩:=a
 cases u
 ·exact .inr ⟨rfl,MP q,(abU q).symm⟩
 ·exact .inl ⟨rfl,h rfl,rfl,show ((1:Int):Rat)≠0 from ai⟩
theorem Rp.gauss{x y:Int}(h:(x:Rat)≠0\/(y:Rat)≠0):Rp (gU x,gQ x y) x y:=by
 unfold gU gQ
 by_cases hx:x=0
 ·subst hx
  refine .inl ⟨by simp,by simp,rfl,h.resolve_left (fun e=>e rfl)⟩
 ·have h2:=BV.2 hx
  refine .inr ⟨by simp [hx],h2,?_⟩;simp only [hx,if_false];rw [Rat.divInt_eq_div,Rat.div_def];have i:=qP h2;grind
theorem Rp.any{a:Tn}{x y:Rat}(h:Rp a x y):x≠0\/y≠0:=h.elim (fun h => .inr h.2.2.2) (fun h => .inl h.2.1)
theorem Rp.of{a:Tn}{x y:Int}(h:Rp a x y):(gU x,gQ x y)=a:=(Rp.gauss h.any).uniq h (by grind)
theorem SV{a b:Tn}(ha:tok a)(hb:tok b) :
  (gU (hx a.1 a.2*hx b.1 b.2-hy a.1 a.2*hy b.1 b.2),gQ (hx a.1 a.2*hx b.1 b.2-hy a.1 a.2*hy b.1 b.2) (hx a.1 a.2*hy b.1 b.2+hy a.1 a.2*hx b.1 b.2))=tA a b:=by
 refine Rp.of ?_;have h:=Rp.add (Rp.half ha) (Rp.half hb);rw [Rat.mul_comm ((hx b.1 b.2:Int):Rat)] at h
 simpa only [Rat.intCast_sub,aqi,apD] using h
theorem CX{u:Bool}{q:Rat}(h:u=true->q=0):hx u q*hx u q+hy u q*hy u q≠0:=by
 have:=Rp.norm (Rp.half (a:=(u,q)) h);rw [<- BV,aqi,apD,apD];exact this
theorem Y9{u:Bool}{q:Rat}(h:u=true->q=0):Rat.divInt (hx u q*hx u q-hy u q*hy u q) (hx u q*hx u q+hy u q*hy u q)=ql u q:=by
 have e:=Rp.cos (Rp.half (a:=(u,q)) h);refine dv (BV.2 (CX h)) ?_;rw [Rat.intCast_sub,aqi,apD,apD,<- e];exact Rat.mul_comm _ _
theorem Zb{u:Bool}{q:Rat}(h:u=true->q=0):Rat.divInt (hx u q*hy u q+hy u q*hx u q) (hx u q*hx u q+hy u q*hy u q)=nX u q:=by
 have e:=Rp.sin (Rp.half (a:=(u,q)) h);refine dv (BV.2 (CX h)) ?_;rw [aqi,aqi,apD,apD,apD,apD];dsimp only [tS] at e;grind
theorem Rp.sub{a x:Tn}{x1 y1 x2 y2:Rat}(ha:Rp a x1 y1)(hx:Rp x x2 y2):Rp (tA x (tN a)) (x2*x1+y2*y1) (y2*x1-x2*y1):=by
 have h:=Rp.add hx (Rp.neg ha)
 rwa [show x2*x1-y2 * -y1=x2*x1+y2*y1 by grind,show x2 * -y1+x1*y2=y2*x1-x2*y1 by grind] at h
end Lw
namespace Go.Proofs.BGQ
open Go Go.RowKit Lw bI
section
variable {W0 w:World} {U:List Box} {Ps:List (World->Prop)}
theorem JE(HT:Tz W0)(HB:Tab W0)(HS:St W0 U Ps w){s1:Bool}{A1:Option Addr}{n1 c1:Nat}{x1:Int}{k1:Nat}{s2:Bool}{A2:Option Addr}{n2 c2:Nat}{x2:Int}{k2:Nat}(f1:FI (.agg #[.bool s1,.slice A1 n1 c1]) x1 k1 w)(f2:FI (.agg #[.bool s2,.slice A2 n2 c2]) x2 k2 w)(hk:k1+k2<=40000)(hy:x2≠0) :
  bC Tryz.prog 51 [.agg #[.bool s1,.slice A1 n1 c1],.agg #[.bool s2,.slice A2 n2 c2]] w (eG W0 U Ps (Rat.divInt x1 x2) (k1+1+(k2+1)) .nilIface):=by
 rcases aqo hy with h | h
 ·exact uZ HS (YS (((St.start HS HT HB).push f2).push f1) ak au hk h)
 ·exact uZ HS (YT (((St.start HS HT HB).push f2).push f1) ak au hk h)
theorem aaM{w:World}{bs:List Bx}{L:List En}{ts:List Bt}{M:List Qn}{v v':Value}{x y:Int}{k k':Nat}{b b':Bool}(HE:bu W0 w bs L ts M)(h:⟨v,x,k,b⟩∈L)(h':⟨v',y,k',b'⟩∈L)(hk:k+k'<=100000) :
  Calls Tryz.prog 128 #[v,v'] w (fC W0 bs L ts M (x-y) (k+k'+1)):=(ae1 HE.env.here h h' hk).mono fun _ _ hh=>HE.qH hh
theorem aaL(HT:Tz W0)(HB:Tab W0)(HS:St W0 U Ps w){s1:Bool}{A1:Option Addr}{n1 c1:Nat}{x1:Int}{k1:Nat}{s2:Bool}{A2:Option Addr}{n2 c2:Nat}{x2:Int}{k2:Nat}(f1:FI (.agg #[.bool s1,.slice A1 n1 c1]) x1 k1 w)(f2:FI (.agg #[.bool s2,.slice A2 n2 c2]) x2 k2 w)(hk:k1+k2<=100000):bC Tryz.prog 128 [.agg #[.bool s1,.slice A1 n1 c1],.agg #[.bool s2,.slice A2 n2 c2]] w (iI W0 U Ps (x1-x2) (k1+k2+1)) :=
 lN HS (aaM (((St.start HS HT HB).push f2).push f1) ak au hk)
theorem vK{v:Value}{x:Int}{k:Nat}{w:World}(h:FI v x k w):x.natAbs<pw k:=dB.lt h
theorem afe{v:Value}{x:Int}{k K:Nat}{w:World}(h:FI v x k w)(hx:x.natAbs<pw K):FI v x K w:=dB.tight h hx
theorem UG{x:Int}{k K:Nat}{u:Value}(h:iI W0 U Ps x k u w)(hx:x.natAbs<pw K):iI W0 U Ps x K u w:=by
 obtain ⟨s,A,n,c,e,HS⟩:=h;exact ⟨s,A,n,c,e,(HS.iV 0 rfl (fun _ h=>afe h hx)).gy 0 1 rfl rfl⟩
theorem EN{f:FuncId}{vs:List Value}{x:Int}{k K:Nat}(h:bC Tryz.prog f vs w (iI W0 U Ps x k))(hx:x.natAbs<pw K):bC Tryz.prog f vs w (iI W0 U Ps x K) :=
 Calls.mono h fun _ _ hh=>by obtain ⟨v,e,hv⟩:=hh;exact ⟨v,e,UG hv hx⟩
theorem QA{a b j k:Nat}(ha:a<pw j)(hb:b<pw k):a+b<pw (max j k+1):=by
 have h1:pw j<=pw (max j k):=dU (Nat.le_max_left _ _);have h2:pw k<=pw (max j k):=dU (Nat.le_max_right _ _);have h3:=dV (max j k);omega
theorem acH{a b j k:Nat}(ha:a<pw j)(hb:b<pw k):a*b<pw (j+k):=by
 rw [nK];exact ap8 ha hb
theorem O9(HT:Tz W0)(HB:Tab W0)(HS:St W0 U Ps w){s1:Bool}{A1:Option Addr}{n1 c1:Nat}{x1:Int}{k1:Nat}{s2:Bool}{A2:Option Addr}{n2 c2:Nat}{x2:Int}{k2:Nat}(f1:FI (.agg #[.bool s1,.slice A1 n1 c1]) x1 k1 w)(f2:FI (.agg #[.bool s2,.slice A2 n2 c2]) x2 k2 w)(hk:k1+k2<=40000):bC Tryz.prog 70 [.agg #[.bool s1,.slice A1 n1 c1],.agg #[.bool s2,.slice A2 n2 c2]] w (iI W0 U Ps (x1+x2) (max k1 k2+1)) :=
 EN (aaD HT HB HS f1 f2 af) (ao0 (Int.natAbs_add_le _ _) (QA (vK f1) (vK f2)))
theorem aaN(HT:Tz W0)(HB:Tab W0)(HS:St W0 U Ps w){s1:Bool}{A1:Option Addr}{n1 c1:Nat}{x1:Int}{k1:Nat}{s2:Bool}{A2:Option Addr}{n2 c2:Nat}{x2:Int}{k2:Nat}(f1:FI (.agg #[.bool s1,.slice A1 n1 c1]) x1 k1 w)(f2:FI (.agg #[.bool s2,.slice A2 n2 c2]) x2 k2 w)(hk:k1+k2<=40000):bC Tryz.prog 128 [.agg #[.bool s1,.slice A1 n1 c1],.agg #[.bool s2,.slice A2 n2 c2]] w (iI W0 U Ps (x1-x2) (max k1 k2+1)) :=
 EN (aaL HT HB HS f1 f2 af) (ao0 (Int.natAbs_sub_le _ _) (QA (vK f1) (vK f2)))
theorem vC(HT:Tz W0)(HB:Tab W0)(HS:St W0 U Ps w){s1:Bool}{A1:Option Addr}{n1 c1:Nat}{x1:Int}{k1:Nat}{s2:Bool}{A2:Option Addr}{n2 c2:Nat}{x2:Int}{k2:Nat}(f1:FI (.agg #[.bool s1,.slice A1 n1 c1]) x1 k1 w)(f2:FI (.agg #[.bool s2,.slice A2 n2 c2]) x2 k2 w)(hk:k1+k2<=40000):bC Tryz.prog 69 [.agg #[.bool s1,.slice A1 n1 c1],.agg #[.bool s2,.slice A2 n2 c2]] w (iI W0 U Ps (x1*x2) (k1+k2)) :=
 EN (aaG HT HB HS f1 f2 af) (by rw [apr];exact acH (vK f1) (vK f2))
end
end Go.Proofs.BGQ
