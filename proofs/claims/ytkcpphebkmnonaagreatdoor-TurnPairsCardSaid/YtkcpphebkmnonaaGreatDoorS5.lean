/- Part of a proof, said shortly. -/
import Derived.Deep.RegionWith
import Derived.Deep.DeepCutAuto
import Derived.Deep.RegionHeld3
import Derived.Test.YtkcpphebkmnonaaGreatDoorAlz
import Derived.Test.YtkcpphebkmnonaaGreatDoorC4
import Derived.Test.YtkcpphebkmnonaaGreatDoorC3
import Derived.Test.YtkcpphebkmnonaaGreatDoorC2
import Derived.Test.YtkcpphebkmnonaaGreatDoorC1
import Derived.Test.YtkcpphebkmnonaaGreatDoorC12
import Derived.Test.YtkcpphebkmnonaaGreatDoorS2
import Derived.Test.YtkcpphebkmnonaaGreatDoorC11
import Derived.Test.YtkcpphebkmnonaaGreatDoorC15
import Derived.Test.YtkcpphebkmnonaaGreatDoorC10
import Derived.Test.YtkcpphebkmnonaaGreatDoorC9
import Derived.Test.YtkcpphebkmnonaaGreatDoorC8
import Derived.Test.YtkcpphebkmnonaaGreatDoorC5
import Derived.Test.YtkcpphebkmnonaaGreatDoorC7
import Derived.Test.YtkcpphebkmnonaaGreatDoorC6
import Derived.Test.YtkcpphebkmnonaaGreatDoorC14
import Derived.Test.YtkcpphebkmnonaaGreatDoorC13
import Derived.Test.YtkcpphebkmnonaaGreatDoorC16
import Derived.Test.YtkcpphebkmnonaaGreatDoorC17
set_option linter.unusedVariables false
set_option linter.unusedSimpArgs false
namespace Go.Proofs.BGQ
open Go Go.RowKit Lw
theorem ado(z:Int)(w:World):Sem.run Tryz.prog (Instr.typeAssert (.iface 88 (.int .i64 z)) 30 88 true) w = .ok (.tuple #[.int .i64 z,.bool true]) w:=ah
set_option maxRecDepth 100000 in
set_option maxHeartbeats 800000 in
theorem ahW(z:Int)(w:World):Calls Tryz.prog 18 #[.iface 88 (.int .i64 z)] w fun e w'=>e = .returned (.int .i64 z)/\w=w':=by
 go_enter Tryz.func18,Tryz.ntmps18
 have ha:=ado z w
 go_wp2
 go_ret
 exact ⟨rfl,rfl⟩
end Go.Proofs.BGQ
namespace bG
open Go Go.RowKit
section
variable {P:Program} {ops:Array Oper} {Q:Exit->Act->World->Prop} {late:List Nat} {S:World->Prop} {N d i:Nat} {fuel:Nat} {T:List (Nat×Value)} {w:World} {listed:Array Bool} {rest:List Oper} {x y z:Operand} {v:Value} {ty t t':TypeId} {pos:String} {bD:Array Edge} {k:IntKind} {a b n c j:Nat} {A:Option Addr} {id:Nat} {l:List Oper} {m u:Code}
theorem Lb{p q:Int}(hx:ev T x=some (.int k p))(hy:ev T y=some (.int k q))(h:JL P ops Q rest N ((d,.bool (decide (p<q)))::T) w)(hN:Nat.ble (d+1) N=true:=by rfl):JL P ops Q (⟨some d,.binOp .lss t x y t',ty,pos,bD,none⟩::rest) N T w:=JL.val rfl rfl hN (fun _ ha=>dG (ha.ev hx) (ha.ev hy) rfl) h
end
end bG
namespace Go.Proofs.BGQ
open Go Go.RowKit Lw
section
variable {W0 w:World} {bs:List Bx} {L:List En} {ts:List Bt} {M:List Qn} {s s':Bool} {A A' B B':Option Addr} {n c n' c' m d m' d' k k':Nat} {q r:Rat} {x y:Int} {b b':Bool}
set_option maxRecDepth 100000 in
set_option maxHeartbeats 3200000 in
theorem aka(HE:bu W0 w bs L ts M)(h:⟨.agg #[.bool s,.slice A n c,.slice A' n' c'],q,k,b⟩∈M)(h':⟨.agg #[.bool s',.slice B m d,.slice B' m' d'],r,k',b'⟩∈M)(hk:k+k'<=1000) :
  Calls Tryz.prog 59 #[.agg #[.bool s,.slice A n c,.slice A' n' c'],.agg #[.bool s',.slice B m d,.slice B' m' d']] w (dA W0 bs L ts M (q*r) (k+k'+2)):=by
 refine Calls.mono (R:=(dA w [] L [] M (q*r) (k+k'+2))) ?_ fun _ _ hh=>dA.of HE hh;have HP:=Lib.hid (WT (EE HE h) (EE HE h'));have HD:=Lib.hid (Int.mul_ne_zero (wJ q) (wJ r));replace HE:=((HE.here.bY (.bool s) (.slice A n c) (.slice A' n' c')).bY (.bool s') (.slice B m d) (.slice B' m' d')).bY (.bool false) (.slice none 0 0) (.slice none 0 0);simp only [World.size_alloc] at HE;obtain ⟨q0,q1,q2,q3,q4,q5⟩:=HE.c3 ak;obtain ⟨q6,q7,q8,q9,q10,q11⟩:=HE.c3 au;obtain ⟨q12,q13,dO,dP,q16,dQ⟩:=HE.c3 ay
 go_enter Tryz.func59,Tryz.ntmps59
 go_wp2_with fail
 refine (xx HE h af).mono ?_;clear HE;rintro e w1 ⟨s1,D1,m1,d1,s2,D2,m2,d2,rfl,HE⟩;replace HE:=(HE.bI (.bool s1) (.slice D1 m1 d1)).bI (.bool s2) (.slice D2 m2 d2);simp only [World.size_alloc] at HE;clear q0 q1 q2 q3 q4 q5 q6 q7 q8 q9 q10 q11 q12 q13 dO dP q16 dQ;obtain ⟨eu,eF,fM,fO⟩:=HE.c2 ak;obtain ⟨q22,q23,q24,fU⟩:=HE.c2 au;obtain ⟨gJ,gK,gX,gY,q30,gZ⟩:=HE.c3 ak;obtain ⟨q32,iI,iJ,q35,jd,q37⟩:=HE.c3 au;obtain ⟨jy,jX,jY,jZ,kP,kQ⟩:=HE.c3 ay
 go_wp2_with fail
 refine (xx HE h' af).mono ?_;clear HE;rintro e w2 ⟨s3,D3,m3,d3,s4,D4,m4,d4,rfl,HE⟩;replace HE:=(HE.bI (.bool s3) (.slice D3 m3 d3)).bI (.bool s4) (.slice D4 m4 d4);simp only [World.size_alloc] at HE;clear eu eF fM fO q22 q23 q24 fU gJ gK gX gY q30 gZ q32 iI iJ q35 jd q37 jy jX jY jZ kP kQ;obtain ⟨mF,mG,mJ,mM⟩:=HE.c2 ak;obtain ⟨oz,oC,oD,oG⟩:=HE.c2 au;obtain ⟨oH,oI,qE,qF⟩:=HE.c2 ay;obtain ⟨qG,qH,qI,qJ⟩:=HE.c2 az;obtain ⟨qK,qL,qM,qN,qO,qP⟩:=HE.c3 ak;obtain ⟨qQ,qR,qU,qV,qW,qX⟩:=HE.c3 au;obtain ⟨sJ,sK,sN,sO,sQ,sS⟩:=HE.c3 ay
 go_wp2_with fail
 go_region_held3 (fun w'=>w'.cell? ⟨w1.heap.size,0,none⟩=some (.bool s1)/\w'.cell? ⟨w1.heap.size,1,none⟩=some (.slice D1 m1 d1)/\w'.cell? ⟨w1.heap.size+1,0,none⟩=some (.bool s2)/\w'.cell? ⟨w1.heap.size+1,1,none⟩=some (.slice D2 m2 d2)/\w'.cell? ⟨w2.heap.size,0,none⟩=some (.bool s3)/\w'.cell? ⟨w2.heap.size,1,none⟩=some (.slice D3 m3 d3)/\w'.cell? ⟨w2.heap.size+1,0,none⟩=some (.bool s4)/\w'.cell? ⟨w2.heap.size+1,1,none⟩=some (.slice D4 m4 d4)) (first | exact ⟨(HE.c2 az).1,(HE.c2 az).2.1,(HE.c2 ay).1,(HE.c2 ay).2.1,(HE.c2 au).1,(HE.c2 au).2.1,(HE.c2 ak).1,(HE.c2 ak).2.1⟩ | exact ⟨(HE.drew.c2 az).1,(HE.drew.c2 az).2.1,(HE.drew.c2 ay).1,(HE.drew.c2 ay).2.1,(HE.drew.c2 au).1,(HE.drew.c2 au).2.1,(HE.drew.c2 ak).1,(HE.drew.c2 ak).2.1⟩ | exact ⟨(HK.c2 az).1,(HK.c2 az).2.1,(HK.c2 ay).1,(HK.c2 ay).2.1,(HK.c2 au).1,(HK.c2 au).2.1,(HK.c2 ak).1,(HK.c2 ak).2.1⟩)
  (first
   | (go_at_call 105;refine (OA (by with_reducible first | exact HE | exact HE.drew) (by repeat (first | exact aZ | assumption | refine .tail _ ?_)) (by repeat (first | exact aZ | assumption | refine .tail _ ?_)) af).mono ?_;rintro e wn ⟨sx,Ax,nx,cx,rfl,HE⟩)
   | (go_at_call 103;refine (DY (by with_reducible first | exact HE | exact HE.drew) (by repeat (first | exact aZ | assumption | refine .tail _ ?_)) (by repeat (first | exact aZ | assumption | refine .tail _ ?_)) af HD.out).mono ?_;rintro e wn ⟨sx,Ax,nx,cx,Ay,ny,cy,rfl,HE⟩;have HK:=HE.iG (D:=Ax) (m:=nx) (d:=cx) ak sx (.slice Ay ny cy);obtain ⟨z0,z1,z2,z3,z4,z5⟩:=HE.c3 ak))
 go_wp2_with fail
 refine bodyPost_ret (v := .agg #[.bool sx,.slice Ax nx cx,.slice Ay ny cy]) (by simp [results,Tryz.results59,go_sem,z0,z1,z2]) rfl ?_;have HF:=HK.bare;rw [<- Nw] at HF;replace HF:=HF.hd (fun hh=>bV.tight hh HP.out.1 HP.out.2);exact ⟨_,_,_,_,_,_,_,rfl,HF.pick (fun e he => .tail _ (.tail _ (.tail _ (.tail _ (.tail _ (.tail _ (he))))))) (fun _ he=>he)⟩
end
section
variable {W0 w:World} {bs:List Bx} {L:List En} {ts:List Bt} {M:List Qn} {s s':Bool} {A A' B B':Option Addr} {n c n' c' m d m' d' k k':Nat} {q r:Rat} {x y:Int} {b b':Bool}
theorem aeB(q r:Rat):q*r⁻¹=Rat.divInt (q.num*(r.den:Int)) ((q.den:Int)*r.num):=by
 have h:=Rat.divInt_mul_divInt q.num (r.den:Int) (d₁:=(q.den:Int)) (d₂:=r.num);rw [ava,<- Rat.inv_def] at h;exact h
set_option maxRecDepth 100000 in
set_option maxHeartbeats 3200000 in
theorem aj8(HE:bu W0 w bs L ts M)(h:⟨.agg #[.bool s,.slice A n c,.slice A' n' c'],q,k,b⟩∈M)(h':⟨.agg #[.bool s',.slice B m d,.slice B' m' d'],r,k',b'⟩∈M)(hk:k+k'<=900)(hr:r≠0) :
  Calls Tryz.prog 106 #[.agg #[.bool s,.slice A n c,.slice A' n' c'],.agg #[.bool s',.slice B m d,.slice B' m' d']] w (fun e w' => ∃ (s:Bool) (A:Option Addr) (n c:Nat) (A':Option Addr) (n' c':Nat),e = .returned (.tuple #[.agg #[.bool s,.slice A n c,.slice A' n' c'],.int .i64 0])/\bu W0 w' bs L ts (⟨.agg #[.bool s,.slice A n c,.slice A' n' c'],q*r⁻¹,2*k+2*k'+12,true⟩::M)):=by
 refine Calls.mono (R:=(fun e w' => ∃ (s:Bool) (A:Option Addr) (n c:Nat) (A':Option Addr) (n' c':Nat),e = .returned (.tuple #[.agg #[.bool s,.slice A n c,.slice A' n' c'],.int .i64 0])/\bu w w' [] L [] (⟨.agg #[.bool s,.slice A n c,.slice A' n' c'],q*r⁻¹,2*k+2*k'+12,true⟩::M))) ?_ fun _ _ hh=>by obtain ⟨s,A,n,c,A',n',c',e1,he⟩:=hh;exact ⟨s,A,n,c,A',n',c',e1,HE.back he⟩
 have HD:=Lib.hid (Int.mul_ne_zero (wJ q) (fun e=>hr (auP.1 e)));have HV:=Lib.hid (aeB q r);clear hr;replace HE:=((HE.here.bY (.bool s) (.slice A n c) (.slice A' n' c')).bY (.bool s') (.slice B m d) (.slice B' m' d')).bY (.bool false) (.slice none 0 0) (.slice none 0 0);simp only [World.size_alloc] at HE;obtain ⟨q0,q1,q2,q3,q4,q5⟩:=HE.c3 ak;obtain ⟨q6,q7,q8,q9,q10,q11⟩:=HE.c3 au;obtain ⟨q12,q13,dO,dP,q16,dQ⟩:=HE.c3 ay
 go_enter Tryz.func106,Tryz.ntmps106
 go_wp2_with fail
 refine (xx HE h af).mono ?_;clear HE;rintro e w1 ⟨s1,D1,m1,d1,s2,D2,m2,d2,rfl,HE⟩;replace HE:=(HE.bI (.bool s1) (.slice D1 m1 d1)).bI (.bool s2) (.slice D2 m2 d2);simp only [World.size_alloc] at HE;clear q0 q1 q2 q3 q4 q5 q6 q7 q8 q9 q10 q11 q12 q13 dO dP q16 dQ;obtain ⟨eu,eF,fM,fO⟩:=HE.c2 ak;obtain ⟨q22,q23,q24,fU⟩:=HE.c2 au;obtain ⟨gJ,gK,gX,gY,q30,gZ⟩:=HE.c3 ak;obtain ⟨q32,iI,iJ,q35,jd,q37⟩:=HE.c3 au;obtain ⟨jy,jX,jY,jZ,kP,kQ⟩:=HE.c3 ay
 go_wp2_with fail
 refine (xx HE h' af).mono ?_;clear HE;rintro e w2 ⟨s3,D3,m3,d3,s4,D4,m4,d4,rfl,HE⟩;replace HE:=(HE.bI (.bool s3) (.slice D3 m3 d3)).bI (.bool s4) (.slice D4 m4 d4);simp only [World.size_alloc] at HE;clear eu eF fM fO q22 q23 q24 fU gJ gK gX gY q30 gZ q32 iI iJ q35 jd q37 jy jX jY jZ kP kQ;obtain ⟨mF,mG,mJ,mM⟩:=HE.c2 ak;obtain ⟨oz,oC,oD,oG⟩:=HE.c2 au;obtain ⟨oH,oI,qE,qF⟩:=HE.c2 ay;obtain ⟨qG,qH,qI,qJ⟩:=HE.c2 az;obtain ⟨qK,qL,qM,qN,qO,qP⟩:=HE.c3 ak;obtain ⟨qQ,qR,qU,qV,qW,qX⟩:=HE.c3 au;obtain ⟨sJ,sK,sN,sO,sQ,sS⟩:=HE.c3 ay
 go_wp2_with fail
 go_region_held3 (fun w'=>w'.cell? ⟨w1.heap.size,0,none⟩=some (.bool s1)/\w'.cell? ⟨w1.heap.size,1,none⟩=some (.slice D1 m1 d1)/\w'.cell? ⟨w1.heap.size+1,0,none⟩=some (.bool s2)/\w'.cell? ⟨w1.heap.size+1,1,none⟩=some (.slice D2 m2 d2)/\w'.cell? ⟨w2.heap.size,0,none⟩=some (.bool s3)/\w'.cell? ⟨w2.heap.size,1,none⟩=some (.slice D3 m3 d3)/\w'.cell? ⟨w2.heap.size+1,0,none⟩=some (.bool s4)/\w'.cell? ⟨w2.heap.size+1,1,none⟩=some (.slice D4 m4 d4)) (first | exact ⟨(HE.c2 az).1,(HE.c2 az).2.1,(HE.c2 ay).1,(HE.c2 ay).2.1,(HE.c2 au).1,(HE.c2 au).2.1,(HE.c2 ak).1,(HE.c2 ak).2.1⟩ | exact ⟨(HE.drew.c2 az).1,(HE.drew.c2 az).2.1,(HE.drew.c2 ay).1,(HE.drew.c2 ay).2.1,(HE.drew.c2 au).1,(HE.drew.c2 au).2.1,(HE.drew.c2 ak).1,(HE.drew.c2 ak).2.1⟩ | exact ⟨(HK.c2 az).1,(HK.c2 az).2.1,(HK.c2 ay).1,(HK.c2 ay).2.1,(HK.c2 au).1,(HK.c2 au).2.1,(HK.c2 ak).1,(HK.c2 ak).2.1⟩)
  (first
   | (go_at_call 105;refine (OA (by with_reducible first | exact HE | exact HE.drew) (by repeat (first | exact aZ | assumption | refine .tail _ ?_)) (by repeat (first | exact aZ | assumption | refine .tail _ ?_)) af).mono ?_;rintro e wn ⟨sx,Ax,nx,cx,rfl,HE⟩)
   | (go_at_call 135;refine (YC (by with_reducible first | exact HE | exact HE.drew) (by repeat (first | exact aZ | assumption | refine .tail _ ?_)) (by repeat (first | exact aZ | assumption | refine .tail _ ?_)) af HD.out).mono ?_;rintro e wn ⟨sx,Ax,nx,cx,Ay,ny,cy,rfl,HE⟩;have HK:=HE.iG (D:=Ax) (m:=nx) (d:=cx) ak sx (.slice Ay ny cy);obtain ⟨z0,z1,z2,z3,z4,z5⟩:=HE.c3 ak))
 go_wp2_with fail
 refine bodyPost_ret (v := .tuple #[.agg #[.bool sx,.slice Ax nx cx,.slice Ay ny cy],.int .i64 0]) (by simp [results,Tryz.results106,go_sem,z0,z1,z2]) rfl ?_;rw [HV.out];exact ⟨_,_,_,_,_,_,_,rfl,(HK.bare.pick (fun e he => .tail _ (.tail _ (.tail _ (.tail _ (.tail _ (.tail _ (he))))))) (fun _ he=>he)).hd (·.weak af)⟩
end
section
variable {W0 w:World} {bs:List Bx} {L:List En} {ts:List Bt} {M:List Qn} {s s':Bool} {A A' B B':Option Addr} {n c n' c' m d m' d' k k':Nat} {q r:Rat} {x y:Int} {b b':Bool}
set_option maxRecDepth 100000 in
set_option maxHeartbeats 1600000 in
theorem akd(HE:bu W0 w bs L ts M)(n1 : -9223372036854775808<=x)(n2:x<=9223372036854775807) :
  Calls Tryz.prog 58 #[.int .i64 x] w (dA W0 bs L ts M (x:Rat) 6):=by
 refine Calls.mono (R:=(dA w [] L [] M (x:Rat) 6)) ?_ fun _ _ hh=>dA.of HE hh;replace HE:=HE.here.bY (.bool false) (.slice none 0 0) (.slice none 0 0);have HX:=Lib.hid (show Rat.divInt x 1=(x:Rat) from Rat.ext (by rw [avx];simp) (by rw [avy];simp));have HN:=Lib.hid (show -9223372036854775808<=x/\x<=9223372036854775807 from ⟨n1,n2⟩);clear n1 n2;obtain ⟨q0,q1,q2,q3,q4,q5⟩:=HE.c3 ak
 go_enter Tryz.func58,Tryz.ntmps58
 go_wp2_with fail
 refine (Jw HE HN.out.1 HN.out.2).mono ?_;clear HE;rintro e w1 ⟨s1,A1,n1,c1,rfl,HE⟩;clear q0 q1 q2 q3 q4 q5
 go_wp2_with fail
 refine (I5 HE).mono ?_;clear HE;rintro e w2 ⟨s2,A2,n2,c2,rfl,HE⟩
 go_wp2_with fail
 refine (DY HE au ak af af).mono ?_;rw [HX.out];clear HE;rintro e w3 ⟨sx,Ax,nx,cx,Ay,ny,cy,rfl,HE⟩;obtain ⟨q6,q7,q8,q9,q10,q11⟩:=HE.c3 ak
 go_wp2_with fail
 refine bodyPost_ret (v := .agg #[.bool sx,.slice Ax nx cx,.slice Ay ny cy]) (by simp [results,Tryz.results58,go_sem,q6,q7,q8]) rfl ?_;have HK:=(HE.iG (D:=Ax) (m:=nx) (d:=cx) ak sx (.slice Ay ny cy)).bare;exact ⟨_,_,_,_,_,_,_,rfl,HK.pick (fun e he => .tail _ (.tail _ he)) (fun _ he=>he)⟩
end
section
variable {W0 w:World} {bs:List Bx} {L:List En} {ts:List Bt} {M:List Qn} {v v':Value} {q r:Rat} {k k':Nat} {b b':Bool}
theorem akc(HE:bu W0 w bs L ts M)(h:⟨v,q,k,b⟩∈M)(hk:k<=900) :
  Calls Tryz.prog 64 #[v] w (kH W0 bs L ts M (-q) (k+1)):=by
 obtain ⟨s,A,n,c,A',n',c',e1⟩:=(HE.fr _ h).shape;dsimp only at e1;subst e1;exact (YE HE h af).mono fun _ _ hh=>kH.of hh
theorem aj2(HE:bu W0 w bs L ts M)(h:⟨v,q,k,b⟩∈M)(h':⟨v',r,k',b'⟩∈M)(hk:k+k'<=800) :
  Calls Tryz.prog 63 #[v,v'] w (kH W0 bs L ts M (q+r) (k+k'+2)):=by
 obtain ⟨s,A,n,c,A',n',c',e1⟩:=(HE.fr _ h).shape;obtain ⟨t,B,m,d,B',m',d',e2⟩:=(HE.fr _ h').shape;dsimp only at e1 e2;subst e1 e2;exact (YB HE h h' af).mono fun _ _ hh=>kH.of hh
theorem akg(HE:bu W0 w bs L ts M)(h:⟨v,q,k,b⟩∈M)(h':⟨v',r,k',b'⟩∈M)(hk:k+k'<=800) :
  Calls Tryz.prog 61 #[v,v'] w (kH W0 bs L ts M (q-r) (k+(k'+1)+2)):=by
 obtain ⟨s,A,n,c,A',n',c',e1⟩:=(HE.fr _ h).shape;obtain ⟨t,B,m,d,B',m',d',e2⟩:=(HE.fr _ h').shape;dsimp only at e1 e2;subst e1 e2;exact (YG HE h h' af).mono fun _ _ hh=>kH.of hh
theorem akb(HE:bu W0 w bs L ts M)(h:⟨v,q,k,b⟩∈M)(h':⟨v',r,k',b'⟩∈M)(hk:k+k'<=800) :
  Calls Tryz.prog 59 #[v,v'] w (kH W0 bs L ts M (q*r) (k+k'+2)):=by
 obtain ⟨s,A,n,c,A',n',c',e1⟩:=(HE.fr _ h).shape;obtain ⟨t,B,m,d,B',m',d',e2⟩:=(HE.fr _ h').shape;dsimp only at e1 e2;subst e1 e2;exact (aka HE h h' af).mono fun _ _ hh=>kH.of hh
end
section
variable {W0 w:World} {bs:List Bx} {L:List En} {ts:List Bt} {M:List Qn} {v v':Value} {q r:Rat} {x y:Int} {k k':Nat} {b b':Bool}
theorem ake(HE:bu W0 w bs L ts M)(n1 : -9223372036854775808<=x)(n2:x<=9223372036854775807) :
  Calls Tryz.prog 58 #[.int .i64 x] w (kH W0 bs L ts M (x:Rat) 6):=(akd HE n1 n2).mono fun _ _ hh=>kH.of hh
end
open bG
section
variable {W0 w w':World} {U:List Box} {Ps:List (World->Prop)} {v v':Value} {q r:Rat} {x y:Int} {k k':Nat} {b b':Bool} {f:FuncId} {vs:List Value} {L:List En} {M:List Qn}
section
variable {b1 b2 s1 s2:Bool} {c1 c2 d1 d2 k1 k2 m1 m2 n1 n2:Nat} {A1 A2 B1 B2:Option Addr} {q1 q2:Rat}
theorem Ox(HT:Tz W0)(HB:Tab W0)(HS:St W0 U Ps w){z1:Int}(h1 : -9223372036854775808<=z1)(h2:z1<=9223372036854775807):bF Tryz.prog 58 [.int .i64 z1] w (lJ W0 U Ps ((z1:Rat)) (6)) :=
 wM HS (ake (St.start HS HT HB)  h1 h2)
theorem Fz(HT:Tz W0)(HB:Tab W0)(HS:St W0 U Ps w)(f1:FV (aup s1 A1 n1 c1 B1 m1 d1) q1 k1 b1 w)(f2:FV (aup s2 A2 n2 c2 B2 m2 d2) q2 k2 b2 w)(hk:k1+k2<=800):bF Tryz.prog 63 [(aup s1 A1 n1 c1 B1 m1 d1),(aup s2 A2 n2 c2 B2 m2 d2)] w (lJ W0 U Ps (q1+q2) (k1+k2+2)) :=
 wM HS (aj2 (((St.start HS HT HB).cons f2).cons f1) ak au hk)
theorem Oy(HT:Tz W0)(HB:Tab W0)(HS:St W0 U Ps w)(f1:FV (aup s1 A1 n1 c1 B1 m1 d1) q1 k1 b1 w)(f2:FV (aup s2 A2 n2 c2 B2 m2 d2) q2 k2 b2 w)(hk:k1+k2<=800):bF Tryz.prog 61 [(aup s1 A1 n1 c1 B1 m1 d1),(aup s2 A2 n2 c2 B2 m2 d2)] w (lJ W0 U Ps (q1-q2) (k1+(k2+1)+2)) :=
 wM HS (akg (((St.start HS HT HB).cons f2).cons f1) ak au hk)
theorem zy(HT:Tz W0)(HB:Tab W0)(HS:St W0 U Ps w)(f1:FV (aup s1 A1 n1 c1 B1 m1 d1) q1 k1 b1 w)(f2:FV (aup s2 A2 n2 c2 B2 m2 d2) q2 k2 b2 w)(hk:k1+k2<=800):bF Tryz.prog 59 [(aup s1 A1 n1 c1 B1 m1 d1),(aup s2 A2 n2 c2 B2 m2 d2)] w (lJ W0 U Ps (q1*q2) (k1+k2+2)) :=
 wM HS (akb (((St.start HS HT HB).cons f2).cons f1) ak au hk)
theorem YD(HT:Tz W0)(HB:Tab W0)(HS:St W0 U Ps w)(f1:FV (aup s1 A1 n1 c1 B1 m1 d1) q1 k1 b1 w)(hk:k1<=900):bF Tryz.prog 64 [(aup s1 A1 n1 c1 B1 m1 d1)] w (lJ W0 U Ps (-q1) (k1+1)) :=
 wM HS (akc ((St.start HS HT HB).cons f1) ak hk)
theorem aj7(HT:Tz W0)(HB:Tab W0)(HS:St W0 U Ps w)(f1:FV (aup s1 A1 n1 c1 B1 m1 d1) q1 k1 b1 w)(f2:FV (aup s2 A2 n2 c2 B2 m2 d2) q2 k2 b2 w)(hk:k1+k2<=900)(hr:q2≠0):bF Tryz.prog 106 [(aup s1 A1 n1 c1 B1 m1 d1),(aup s2 A2 n2 c2 B2 m2 d2)] w (mP W0 U Ps (q1*q2⁻¹) (2*k1+2*k2+12) (.int .i64 0)) :=
 Aw HS (aj8 (((St.start HS HT HB).cons f2).cons f1) ak au hk hr)
end
end
section
variable {W0 w:World} {U:List Box} {Ps:List (World->Prop)}
theorem sF(HS:St W0 U Ps w)(z:Int):bF Tryz.prog 18 [.iface 88 (.int .i64 z)] w (dI W0 U Ps (.int .i64 z)):=St.same HS (ahW z w)
end
end Go.Proofs.BGQ
namespace Lw
open Go Go.RowKit bG
section
variable {s:Bool} {A B:Option Addr} {n c m d k:Nat} {q:Rat} {w:World}
theorem YK{q:Rat} : rs q=true↔q<0:=by
 unfold rs;rw [decide_eq_true_iff,Rat.lt_iff];simp
end
theorem akR(q:Rat):decide (iO q<0)=decide (q<0):=by rw [OM];exact TS q 0
end Lw
namespace Lw
open Go Go.RowKit bG
def ig(u:Bool)(q:Rat):Int:=if u then 1 else if q<0 then 2 else 0
def fP(u1:Bool)(q1:Rat)(u2:Bool)(q2:Rat):Int:=if ig u1 q1=ig u2 q2 then eU q1 q2 else if ig u1 q1<ig u2 q2 then -1 else 1
end Lw
namespace Go.Proofs.BGQ
open Go Go.RowKit Lw bG
section
variable {W0 w:World} {U:List Box} {Ps:List (World->Prop)}
set_option maxRecDepth 100000 in
set_option maxHeartbeats 400000 in
theorem BC(HT:Tz W0)(HB:Tab W0)(HS:St W0 U Ps w)   : bF Tryz.prog 62 [] w (lJ W0 U Ps (1) (6)):=by
 refine df Tryz.func62 rfl Tryz.ntmps62 rfl<|Js<|JL.alloc (vs:=[.bool false,.slice none 0 0,.slice none 0 0]) HS rfl as1 rfl rfl (fun g21 di HS => ?_);refine Jn<|Js<|JL.call rfl rfl Tryz.call58 (Ox HT HB HS  af af)<|?_;rintro v22 dw ⟨xA,vC,n22,vY,vP,m22,d22,rfl,HS⟩;refine JL.store HS rfl rfl (i:=0) rfl asR rfl rfl rfl (vs':=[.bool xA,.slice vC n22 vY,.slice vP m22 d22]) rfl rfl (fun dR HS => ?_);refine Jn<|Ja Tryz.results62 (.agg rfl asT asR (HS.box _ ak) rfl rfl)<|?_;exact ⟨_,_,_,_,_,_,_,rfl,HS.oh 1 1 0 rfl (fun _ h=>h.as (show ((1:Int):Rat)=1 from rfl) af)⟩
set_option maxRecDepth 100000 in
set_option maxHeartbeats 400000 in
theorem FB(HT:Tz W0)(HB:Tab W0){s1:Bool}{A1:Option Addr}{n1 c1:Nat}{B1:Option Addr}{m1 d1:Nat}{q1:Rat}{k1:Nat}{b1:Bool}{s2:Bool}{A2:Option Addr}{n2 c2:Nat}{B2:Option Addr}{m2 d2:Nat}{q2:Rat}{k2:Nat}{b2:Bool}(HS:St W0 U Ps w)(f1:FV (.agg #[.bool s1,.slice A1 n1 c1,.slice B1 m1 d1]) q1 k1 b1 w)(f2:FV (.agg #[.bool s2,.slice A2 n2 c2,.slice B2 m2 d2]) q2 k2 b2 w)(hk:k1+k2<=900)(hr:q2≠0):bF Tryz.prog 60 [.agg #[.bool s1,.slice A1 n1 c1,.slice B1 m1 d1],.agg #[.bool s2,.slice A2 n2 c2,.slice B2 m2 d2]] w (lJ W0 U Ps (q1*q2⁻¹) (2*k1+2*k2+12)):=by
 have HS:=HS.add (FV.stable _ _ _ _) f1;have HS:=HS.add (FV.stable _ _ _ _) f2;clear f1 f2;refine df Tryz.func60 rfl Tryz.ntmps60 rfl<|Js<|JL.box (vs:=[.bool s1,.slice A1 n1 c1,.slice B1 m1 d1]) HS rfl rfl rfl rfl (fun g21 di HS => ?_);refine JL.box (vs:=[.bool s2,.slice A2 n2 c2,.slice B2 m2 d2]) HS rfl rfl rfl rfl (fun g22 dw HS => ?_);refine JL.alloc (vs:=[.bool false,.slice none 0 0,.slice none 0 0]) HS rfl as1 rfl rfl (fun g23 dR HS => ?_);refine Jn<|Js<|JL.load (.agg #[.bool s1,.slice A1 n1 c1,.slice B1 m1 d1]) HS 2 rfl rfl rfl asT asR rfl rfl<|JL.load (.agg #[.bool s2,.slice A2 n2 c2,.slice B2 m2 d2]) HS 1 rfl rfl rfl asT asR rfl rfl<|JL.call rfl rfl Tryz.call106 (aj7 HT HB HS (HS.at_ 1 rfl) (HS.at_ 0 rfl) af hr)<|?_;rintro v24 dY ⟨s24,oO,n24,c24,oP,m24,d24,rfl,HS⟩;refine Lm rfl<|Lx rfl rfl<|Lx rfl rfl<|JL.alloc (vs:=[.bool false,.slice none 0 0,.slice none 0 0]) HS rfl as1 rfl rfl (fun kM dV HS => ?_);refine JL.store HS rfl rfl (i:=0) rfl asR rfl rfl rfl (vs':=[.bool s24,.slice oO n24 c24,.slice oP m24 d24]) rfl rfl (fun fA HS => ?_);refine La rfl<|Jn<|Js<|JL.load (.agg #[.bool s24,.slice oO n24 c24,.slice oP m24 d24]) HS 0 rfl rfl rfl asT asR rfl rfl<|JL.store HS rfl rfl (i:=1) rfl asR rfl rfl rfl (vs':=[.bool s24,.slice oO n24 c24,.slice oP m24 d24]) rfl rfl (fun lH HS => ?_);refine Jn<|Ja Tryz.results60 (.agg rfl asT asR (HS.box _ au) rfl rfl)<|?_;exact ⟨_,_,_,_,_,_,_,rfl,HS.oh 4 3 0 rfl (fun _ h=>h.as rfl af)⟩
set_option maxRecDepth 100000 in
set_option maxHeartbeats 400000 in
theorem OD(HT:Tz W0)(HB:Tab W0){s1:Bool}{A1:Option Addr}{n1 c1:Nat}{B1:Option Addr}{m1 d1:Nat}{q1:Rat}{k1:Nat}{b1:Bool}{u1:Bool}(HS:St W0 U Ps w)(f1:FV (.agg #[.bool s1,.slice A1 n1 c1,.slice B1 m1 d1]) q1 k1 b1 w)(hk:k1<=800):bF Tryz.prog 24 [.agg #[.bool s1,.slice A1 n1 c1,.slice B1 m1 d1,.bool u1]] w (tJ W0 U Ps (-q1) (u1) (k1+1)):=by
 have HS:=HS.add (FV.stable _ _ _ _) f1;clear f1;refine df Tryz.func24 rfl Tryz.ntmps24 rfl<|Js<|JL.box (vs:=[.bool s1,.slice A1 n1 c1,.slice B1 m1 d1,.bool u1]) HS rfl rfl rfl rfl (fun g21 di HS => ?_);refine JL.alloc (vs:=[.bool false,.slice none 0 0,.slice none 0 0,.bool false]) HS rfl asU rfl rfl (fun g22 dw HS => ?_);refine Jn<|JC.seq<|JC.draw HS [6] ah (fun dR HS => ?_);refine dZ 0 0 rfl HS.b0 rfl asV rfl asR<|Da (.agg #[.bool s1,.slice A1 n1 c1,.slice B1 m1 d1]) 1 1 rfl HS.b0 rfl rfl asT asR<|dZ 3 3 rfl HS.b0 rfl asV rfl as4<|Do (.bool u1) 4 1 rfl HS.b0 rfl rfl as3<|cZ 2 rfl rfl rfl Tryz.call64 (YD HT HB HS (HS.at_ 0 rfl) af)<|?_;rintro Z8 aaj ⟨qZ,pg,qB,pM,pF,qw,pU,rfl,HS⟩;refine ⟨HS.b0,?_⟩;refine Dv (.agg #[.bool qZ,.slice pg qB pM,.slice pF qw pU,.bool u1]) 5 rfl HS.b0 (fun a ha w=>bG.run_build (ha.dm rfl) asV asU jJ rfl)<|lK 6 [.bool qZ,.slice pg qB pM,.slice pF qw pU,.bool u1] HS 0 rfl rfl rfl rfl asO (fun _ HS=>⟨(jU (s:=6) rfl rfl),?_⟩);refine JR.next ah (fun _ _ h=>h)<|Ja Tryz.results24 (.agg rfl asQ asO (HS.box _ ak) rfl rfl)<|?_;exact ⟨_,_,_,_,_,_,_,rfl,HS.oh 2 2 0 rfl (fun _ h=>h.as rfl af)⟩
set_option maxRecDepth 100000 in
set_option maxHeartbeats 400000 in
theorem YO(HT:Tz W0)(HB:Tab W0){s1:Bool}{A1:Option Addr}{n1 c1:Nat}{B1:Option Addr}{m1 d1:Nat}{q1:Rat}{k1:Nat}{b1:Bool}{u1:Bool}(HS:St W0 U Ps w)(f1:FV (.agg #[.bool s1,.slice A1 n1 c1,.slice B1 m1 d1]) q1 k1 b1 w)(hk:k1<=800):bF Tryz.prog 81 [.agg #[.bool s1,.slice A1 n1 c1,.slice B1 m1 d1,.bool u1]] w (dI W0 U Ps (.int .i64 (ig u1 q1))):=by
 have HS:=HS.add (FV.stable _ _ _ _) f1;clear f1;refine df Tryz.func81 rfl Tryz.ntmps81 rfl<|Js<|JL.box (vs:=[.bool s1,.slice A1 n1 c1,.slice B1 m1 d1,.bool u1]) HS rfl rfl rfl rfl (fun g21 di HS => ?_);refine La rfl<|Jn<|JC.seq<|JC.block<|Js<|dH 3 rfl asV rfl as4<|JL.iH (.bool u1) HS 0 rfl rfl rfl as3 rfl<|La rfl<|Jn<|?_
 cases u1
 ·skip
  refine JC.bJ rfl<|Js<|dH 0 rfl asV rfl asR<|JL.load (.agg #[.bool s1,.slice A1 n1 c1,.slice B1 m1 d1]) HS 0 rfl rfl rfl asT asR rfl rfl<|JL.call rfl rfl atC (BB HT HB HS (HS.at_ 0 rfl) af)<|?_;rintro v23 dR ⟨rfl,HS⟩;refine Lz (.bool (decide (q1<0))) (fun a ha=>dG (ha.ev rfl) (ha.ev rfl) (akR _))<|La rfl<|Jn<|?_
  cases yL:((decide (q1<0)))
  ·skip
   refine JC.bJ rfl<|JC.dX (fun _ _ h=>h)<|Js<|La rfl<|Jn<|Ja Tryz.results81 (.tmp rfl)<|?_;exact ⟨(congrArg (Value.int .i64) (by simp_all [ig])),HS.o0 1 1⟩
  ·skip
   refine JC.bH rfl<|Js<|La rfl<|Jn<|Ja Tryz.results81 (.tmp rfl)<|?_;exact ⟨(congrArg (Value.int .i64) (by simp_all [ig])),HS.o0 1 1⟩
 ·skip
  refine JC.bH rfl<|Js<|La rfl<|Jn<|Ja Tryz.results81 (.tmp rfl)<|?_;exact ⟨(congrArg (Value.int .i64) (by simp_all [ig])),HS.o0 1 1⟩
set_option maxRecDepth 100000 in
set_option maxHeartbeats 400000 in
theorem OC(HT:Tz W0)(HB:Tab W0){s1:Bool}{A1:Option Addr}{n1 c1:Nat}{B1:Option Addr}{m1 d1:Nat}{q1:Rat}{k1:Nat}{b1:Bool}{u1:Bool}{s2:Bool}{A2:Option Addr}{n2 c2:Nat}{B2:Option Addr}{m2 d2:Nat}{q2:Rat}{k2:Nat}{b2:Bool}{u2:Bool}(HS:St W0 U Ps w)(f1:FV (.agg #[.bool s1,.slice A1 n1 c1,.slice B1 m1 d1]) q1 k1 b1 w)(f2:FV (.agg #[.bool s2,.slice A2 n2 c2,.slice B2 m2 d2]) q2 k2 b2 w)(hk:k1+k2<=800):bF Tryz.prog 39 [.agg #[.bool s1,.slice A1 n1 c1,.slice B1 m1 d1,.bool u1],.agg #[.bool s2,.slice A2 n2 c2,.slice B2 m2 d2,.bool u2]] w (dI W0 U Ps (.int .i64 (fP u1 q1 u2 q2))):=by
 have HS:=HS.add (FV.stable _ _ _ _) f1;have HS:=HS.add (FV.stable _ _ _ _) f2;clear f1 f2;refine df Tryz.func39 rfl Tryz.ntmps39 rfl<|Js<|JL.box (vs:=[.bool s1,.slice A1 n1 c1,.slice B1 m1 d1,.bool u1]) HS rfl rfl rfl rfl (fun g21 di HS => ?_);refine JL.box (vs:=[.bool s2,.slice A2 n2 c2,.slice B2 m2 d2,.bool u2]) HS rfl rfl rfl rfl (fun g22 dw HS => ?_);refine La rfl<|Jn<|JC.seq<|JC.seq<|JC.draw HS [] ah (fun dR HS => ?_);refine Da (.agg #[.bool s1,.slice A1 n1 c1,.slice B1 m1 d1,.bool u1]) 0 1 rfl HS.b0 rfl rfl asQ asO<|Da (.agg #[.bool s2,.slice A2 n2 c2,.slice B2 m2 d2,.bool u2]) 2 0 rfl HS.b0 rfl rfl asQ asO<|cZ 1 rfl rfl rfl Tryz.call81 (YO HT HB HS (HS.at_ 1 rfl) af)<|?_;rintro Z7 aai ⟨rfl,HS⟩;refine ⟨HS.b0,?_⟩;refine cZ 3 rfl rfl rfl Tryz.call81 (YO HT HB HS (HS.at_ 0 rfl) af)<|?_;rintro Pq PE ⟨rfl,HS⟩;refine ⟨HS.b0,?_⟩;refine Ds 4 rfl HS.b0 rfl<|Ds 5 rfl HS.b0 rfl<|JR.next ah (fun _ _ h=>h)<|Js<|Lm rfl<|Lm rfl<|Lz (.bool (!(decide (ig u1 q1=ig u2 q2)))) (fun a ha=>eH (ha.ev rfl) (ha.ev rfl) rfl)<|Jn<|?_
 cases Ey:((decide (ig u1 q1=ig u2 q2)))
 ·skip
  refine JC.bH rfl<|JC.seq<|Js<|Lm rfl<|Lm rfl<|Lb rfl rfl<|Jn<|?_
  cases IA:((decide (ig u1 q1<ig u2 q2)))
  ·skip
   refine JC.bJ rfl<|Jk<|Js<|La rfl<|Jn<|Ja Tryz.results39 (.tmp rfl)<|?_;exact ⟨(congrArg (Value.int .i64) (by simp_all [fP])),HS.o0 2 2⟩
  ·skip
   refine JC.bH rfl<|Js<|La rfl<|Jn<|Ja (v := .int .i64 (-1)) Tryz.results39 (.tmp rfl)<|?_;exact ⟨(congrArg (Value.int .i64) (by simp_all [fP])),HS.o0 2 2⟩
 ·skip
  refine JC.bJ rfl<|Jk<|Js<|dH 0 rfl asV rfl asR<|JL.load (.agg #[.bool s1,.slice A1 n1 c1,.slice B1 m1 d1]) HS 1 rfl rfl rfl asT asR rfl rfl<|dH 0 rfl asV rfl asR<|JL.load (.agg #[.bool s2,.slice A2 n2 c2,.slice B2 m2 d2]) HS 0 rfl rfl rfl asT asR rfl rfl<|JL.call rfl rfl atH (BA HT HB HS (HS.at_ 1 rfl) (HS.at_ 0 rfl) af)<|?_;rintro v27 lH ⟨rfl,HS⟩;refine La rfl<|Jn<|Ja Tryz.results39 (.tmp rfl)<|?_;exact ⟨(congrArg (Value.int .i64) (by simp_all [fP])),HS.o0 2 2⟩
set_option maxRecDepth 100000 in
set_option maxHeartbeats 400000 in
theorem YM(HT:Tz W0)(HB:Tab W0){s1:Bool}{A1:Option Addr}{n1 c1:Nat}{B1:Option Addr}{m1 d1:Nat}{q1:Rat}{k1:Nat}{s2:Bool}{A2:Option Addr}{n2 c2:Nat}{B2:Option Addr}{m2 d2:Nat}{q2:Rat}{k2:Nat}{u2:Bool}(HS:St W0 U Ps w)(f1:FV (.agg #[.bool s1,.slice A1 n1 c1,.slice B1 m1 d1]) q1 k1 true w)(f2:FV (.agg #[.bool s2,.slice A2 n2 c2,.slice B2 m2 d2]) q2 k2 true w)(hk:k1+k2<=430)(t1:true=true->q1=0)(t2:u2=true->q2=0):bF Tryz.prog 38 [.agg #[.bool s1,.slice A1 n1 c1,.slice B1 m1 d1,.bool true],.agg #[.bool s2,.slice A2 n2 c2,.slice B2 m2 d2,.bool u2]] w (tJ W0 U Ps (dL true q1 u2 q2) (cO true q1 u2 q2) (4*k1+4*k2+38)):=by
 have HS:=HS.add (FV.stable _ _ _ _) f1;have HS:=HS.add (FV.stable _ _ _ _) f2;clear f1 f2;refine df Tryz.func38 rfl Tryz.ntmps38 rfl<|Js<|JL.box (vs:=[.bool s1,.slice A1 n1 c1,.slice B1 m1 d1,.bool true]) HS rfl rfl rfl rfl (fun g21 di HS => ?_);refine JL.box (vs:=[.bool s2,.slice A2 n2 c2,.slice B2 m2 d2,.bool u2]) HS rfl rfl rfl rfl (fun g22 dw HS => ?_);refine JL.alloc (vs:=[.bool false,.slice none 0 0,.slice none 0 0,.bool false]) HS rfl asU rfl rfl (fun g23 dR HS => ?_);refine Jn<|JC.seq<|JC.block<|Js<|dH 3 rfl asV rfl as4<|JL.iH (.bool true) HS 2 rfl rfl rfl as3 rfl<|Lm rfl<|bz (.pointer (some ⟨g22,3,none⟩)) (fun a ha=>dF (ha.ev rfl) asV rfl as4 rfl rfl)<|bz (.bool u2) (fun a ha=>ji (ha.ev rfl) as3 (HS.box _ au) rfl)<|Lt rfl rfl<|La rfl<|Jn<|?_
 cases u2
 ·skip
  refine JC.bJ rfl<|Js<|dH 3 rfl asV rfl as4<|JL.iH (.bool false) HS 1 rfl rfl rfl as3 rfl<|La rfl<|Jn<|JC.bJ rfl<|Js<|dH 3 rfl asV rfl as4<|JL.iH (.bool true) HS 2 rfl rfl rfl as3 rfl<|Lm rfl<|bz (.pointer (some ⟨g22,0,none⟩)) (fun a ha=>dF (ha.ev rfl) asV rfl asR rfl rfl)<|bz (.agg #[.bool s2,.slice A2 n2 c2,.slice B2 m2 d2]) (fun a ha=>eG (ha.ev rfl) asT asR (HS.box _ au) rfl rfl)<|JL.dN rfl rfl rfl rfl rfl rfl atC (BB HT HB HS (HS.at_ 0 rfl) af)<|?_;rintro v25 dV ⟨rfl,HS⟩;refine bz (.bool (decide (q2=0))) (fun a ha=>jA (ha.ev rfl) (ha.ev rfl) (OO _))<|Lt rfl rfl<|La rfl<|Jn<|?_
  cases IA:((decide (q2=0)))
  ·skip
   refine JC.bJ rfl<|Js<|dH 3 rfl asV rfl as4<|JL.iH (.bool true) HS 2 rfl rfl rfl as3 rfl<|La rfl<|Jn<|JC.bH rfl<|JC.seq<|JC.draw HS [6] ah (fun lH HS => ?_);refine dZ 0 1 rfl HS.b0 rfl asV rfl asR<|Da (.agg #[.bool s2,.slice A2 n2 c2,.slice B2 m2 d2]) 2 1 rfl HS.b0 rfl rfl asT asR<|cZ 0 rfl rfl rfl atI (BC HT HB HS  )<|?_;rintro al8 amj ⟨akz,aaW,ahA,adL,abb,aha,aek,rfl,HS⟩;refine ⟨HS.b0,?_⟩;refine cZ 3 rfl rfl rfl atV (FB HT HB HS (HS.at_ 0 rfl) (HS.at_ 1 rfl) af (of_decide_eq_false (by assumption)))<|?_;rintro al9 amk ⟨akA,aaX,ahB,adM,abd,ahb,ael,rfl,HS⟩;refine ⟨HS.b0,?_⟩;refine cZ 4 rfl rfl rfl Tryz.call64 (YD HT HB HS (HS.at_ 0 rfl) af)<|?_;rintro aqm arp ⟨Y6,Ql,Xa,SQ,QS,WA,TY,rfl,HS⟩;refine ⟨HS.b0,?_⟩;refine Dv (.agg #[.bool Y6,.slice Ql Xa SQ,.slice QS WA TY,.bool false]) 5 rfl HS.b0 (fun a ha w=>bG.run_build (ha.dm rfl) asV asU jJ rfl)<|lK 6 [.bool Y6,.slice Ql Xa SQ,.slice QS WA TY,.bool false] HS 0 rfl rfl rfl rfl asO (fun _ HS=>⟨(jU (s:=6) rfl rfl),?_⟩);refine JR.next ah (fun _ _ h=>h)<|Ja Tryz.results38 (.agg rfl asQ asO (HS.box _ ak) rfl rfl)<|?_;exact ⟨_,_,_,_,_,_,_,(lY (by simp_all [dL,cO])),HS.oh 3 5 0 rfl (fun _ h=>h.as (by simp_all [dL,cO]) af)⟩
  ·skip
   refine JC.bH rfl<|Js<|JL.load (.agg #[.bool s1,.slice A1 n1 c1,.slice B1 m1 d1,.bool true]) HS 2 rfl rfl rfl asQ asO rfl rfl<|JL.store HS rfl rfl (i:=0) rfl asO rfl rfl rfl (vs':=[.bool s1,.slice A1 n1 c1,.slice B1 m1 d1,.bool true]) rfl rfl (fun jk HS => ?_);refine Jn<|Ja Tryz.results38 (.agg rfl asQ asO (HS.box _ ak) rfl rfl)<|?_;exact ⟨_,_,_,_,_,_,_,(lY (by simp_all [dL,cO])),HS.oh 3 2 1 rfl (fun _ h=>h.as (by simp_all [dL,cO]) af)⟩
 ·skip
  refine JC.bH rfl<|Js<|Lz (.agg #[.bool false,.slice none 0 0,.slice none 0 0,.bool false]) (fun a ha=>bG.run_build (ha.dm rfl) asV asU jJ rfl)<|JL.store HS rfl rfl (i:=0) rfl asO rfl rfl rfl (vs':=[.bool false,.slice none 0 0,.slice none 0 0,.bool false]) rfl rfl (fun lI HS => ?_);refine Jn<|Ja Tryz.results38 (.agg rfl asQ asO (HS.box _ ak) rfl rfl)<|?_;exact ⟨_,_,_,_,_,_,_,(lY (by simp_all [dL,cO])),(HS.add (FV.stable _ _ _ _) (FV.zero 0 _)).out 3 3 0 rfl rfl rfl (fun _ h=>h.as (by simp_all [dL,cO]) af)⟩
set_option maxRecDepth 100000 in
set_option maxHeartbeats 400000 in
theorem akj(HT:Tz W0)(HB:Tab W0){s1:Bool}{A1:Option Addr}{n1 c1:Nat}{B1:Option Addr}{m1 d1:Nat}{q1:Rat}{k1:Nat}{s2:Bool}{A2:Option Addr}{n2 c2:Nat}{B2:Option Addr}{m2 d2:Nat}{q2:Rat}{k2:Nat}{u2:Bool}(HS:St W0 U Ps w)(f1:FV (.agg #[.bool s1,.slice A1 n1 c1,.slice B1 m1 d1]) q1 k1 true w)(f2:FV (.agg #[.bool s2,.slice A2 n2 c2,.slice B2 m2 d2]) q2 k2 true w)(hk:k1+k2<=430)(t1:false=true->q1=0)(t2:u2=true->q2=0):bF Tryz.prog 38 [.agg #[.bool s1,.slice A1 n1 c1,.slice B1 m1 d1,.bool false],.agg #[.bool s2,.slice A2 n2 c2,.slice B2 m2 d2,.bool u2]] w (tJ W0 U Ps (dL false q1 u2 q2) (cO false q1 u2 q2) (4*k1+4*k2+38)):=by
 have HS:=HS.add (FV.stable _ _ _ _) f1;have HS:=HS.add (FV.stable _ _ _ _) f2;clear f1 f2;refine df Tryz.func38 rfl Tryz.ntmps38 rfl<|Js<|JL.box (vs:=[.bool s1,.slice A1 n1 c1,.slice B1 m1 d1,.bool false]) HS rfl rfl rfl rfl (fun g21 di HS => ?_);refine JL.box (vs:=[.bool s2,.slice A2 n2 c2,.slice B2 m2 d2,.bool u2]) HS rfl rfl rfl rfl (fun g22 dw HS => ?_);refine JL.alloc (vs:=[.bool false,.slice none 0 0,.slice none 0 0,.bool false]) HS rfl asU rfl rfl (fun g23 dR HS => ?_);refine Jn<|JC.seq<|JC.block<|Js<|dH 3 rfl asV rfl as4<|JL.iH (.bool false) HS 2 rfl rfl rfl as3 rfl<|Lm rfl<|Lq<|Lq<|Lf rfl rfl<|La rfl<|Jn<|JC.bJ rfl<|Js<|dH 3 rfl asV rfl as4<|JL.iH (.bool u2) HS 1 rfl rfl rfl as3 rfl<|La rfl<|Jn<|?_
 cases u2
 ·skip
  refine JC.bJ rfl<|Js<|dH 3 rfl asV rfl as4<|JL.iH (.bool false) HS 2 rfl rfl rfl as3 rfl<|Lm rfl<|Lq<|Lq<|Lq<|Lq<|Lf rfl rfl<|La rfl<|Jn<|JC.bJ rfl<|Js<|dH 3 rfl asV rfl as4<|JL.iH (.bool false) HS 2 rfl rfl rfl as3 rfl<|La rfl<|Jn<|JC.bJ rfl<|JC.dX (fun _ _ h=>h)<|JC.wE HS.tg (ι:=Bool×Option Addr×Nat×Nat×Option Addr×Nat×Nat×Bool×Option Addr×Nat×Nat×Option Addr×Nat×Nat×Bool×Option Addr×Nat×Nat×Option Addr×Nat×Nat×Nat) (fun ⟨FH,BV,EQ,Dk,CB,EH,DD,xB,vF,xg,vZ,vS,wX,wF,uY,tH,uO,tZ,tK,uN,ug,Ai⟩=>[(2,.pointer (some ⟨g21,0,none⟩)),(3,.pointer (some ⟨g22,0,none⟩)),(4,.pointer (some ⟨g23,0,none⟩)),(5,.pointer (some ⟨Ai,0,none⟩))]) (fun ⟨FH,BV,EQ,Dk,CB,EH,DD,xB,vF,xg,vZ,vS,wX,wF,uY,tH,uO,tZ,tK,uN,ug,Ai⟩ w Ua Pa=>St W0 (⟨Ai,24,[.bool uY,.slice tH uO tZ,.slice tK uN ug]⟩::Ua) (FV (.agg #[.bool uY,.slice tH uO tZ,.slice tK uN ug]) (1-(q1*q2)) (6+((k1+k2+2)+1)+2) true::FV (.agg #[.bool xB,.slice vF xg vZ,.slice vS wX wF]) (q1*q2) (k1+k2+2) true::FV (.agg #[.bool FH,.slice BV EQ Dk,.slice CB EH DD]) 1 6 true::Pa) w) ?_ ?_
  ·skip
   refine JC.draw HS [] ah (fun fA HS => ?_);refine dZ 0 1 rfl HS.fb rfl asV rfl asR<|Da (.agg #[.bool s1,.slice A1 n1 c1,.slice B1 m1 d1]) 2 2 rfl HS.fb rfl rfl asT asR<|dZ 0 3 rfl HS.fb rfl asV rfl asR<|Da (.agg #[.bool s2,.slice A2 n2 c2,.slice B2 m2 d2]) 4 1 rfl HS.fb rfl rfl asT asR<|JR.any [0,7] ah rfl<|?_
   repeat' first
    | refine JR.any [5,7] (by decide +kernel) rfl ?_
    | refine JR.any [6,7] (by decide +kernel) rfl ?_
    | refine J1 7 (by decide +kernel) ?_
    | refine J1 8 (by decide +kernel) ?_
    | refine J1 6 (by decide +kernel) ?_
    | refine J1 5 (by decide +kernel) ?_
    | refine J1 0 (by decide +kernel) ?_
    |
     refine bC.is 0<|bC.call rfl rfl rfl atI (BC HT HB HS  ) rfl (fun ap8 aq5 abR => ?_) ?_;obtain ⟨FH,BV,EQ,Dk,CB,EH,DD,rfl,HS⟩:=abR;refine ⟨HS.fb,?_⟩
    |
     refine bC.is 5<|bC.call rfl rfl rfl atz (zy HT HB HS (HS.at_ 2 rfl) (HS.at_ 1 rfl) af) rfl (fun aab aal abT => ?_) ?_;obtain ⟨xB,vF,xg,vZ,vS,wX,wF,rfl,HS⟩:=abT;refine ⟨HS.fb,?_⟩
    |
     refine bC.is 6<|bC.call rfl rfl rfl Tryz.call61 (Oy HT HB HS (HS.at_ 1 rfl) (HS.at_ 0 rfl) af) rfl (fun aqa aq8 abU => ?_) ?_;obtain ⟨uY,tH,uO,tZ,tK,uN,ug,rfl,HS⟩:=abU;refine ⟨HS.fb,?_⟩
    |
     refine bC.is 7<|bC.alloc (vs:=[.bool false,.slice none 0 0,.slice none 0 0]) HS rfl rfl as1 rfl rfl rfl (fun Ai aq9 HS => ?_) ?_;refine ⟨HS.fb,?_⟩
    |
     refine bC.is 8<|bC.store HS rfl rfl rfl 0 rfl asR rfl rfl rfl (vs':=[.bool uY,.slice tH uO tZ,.slice tK uN ug]) rfl rfl rfl (fun ara HS => ?_) ?_;have HS:St W0 (_::_) _ _:=HS;refine ⟨HS.fb,?_⟩;exact JR.mt (FH,BV,EQ,Dk,CB,EH,DD,xB,vF,xg,vZ,vS,wX,wF,uY,tH,uO,tZ,tK,uN,ug,Ai) HS
    | exact bC.nil
  ·skip
   rintro ⟨FH,BV,EQ,Dk,CB,EH,DD,xB,vF,xg,vZ,vS,wX,wF,uY,tH,uO,tZ,tK,uN,ug,Ai⟩ asE HS
   try dsimp only at HS ⊢
   refine JC.seq<|Js<|JL.load (.agg #[.bool uY,.slice tH uO tZ,.slice tK uN ug]) HS 0 rfl rfl rfl asT asR rfl rfl<|JL.call rfl rfl atC (BB HT HB HS (HS.at_ 0 rfl) af)<|?_;rintro v27 lH ⟨rfl,HS⟩;refine Lz (.bool (decide ((1-(q1*q2))=0))) (fun a ha=>jA (ha.ev rfl) (ha.ev rfl) (OO _))<|Jn<|?_
   cases yM:((decide ((1-(q1*q2))=0)))
   ·skip
    refine JC.bJ rfl<|Jk<|JC.seq<|JC.draw HS [8] ah (fun jk HS => ?_);refine dZ 0 0 rfl HS.b0 rfl asV rfl asR<|Da (.agg #[.bool s1,.slice A1 n1 c1,.slice B1 m1 d1]) 1 3 rfl HS.b0 rfl rfl asT asR<|dZ 0 2 rfl HS.b0 rfl asV rfl asR<|Da (.agg #[.bool s2,.slice A2 n2 c2,.slice B2 m2 d2]) 3 2 rfl HS.b0 rfl rfl asT asR<|Da (.agg #[.bool uY,.slice tH uO tZ,.slice tK uN ug]) 5 0 rfl HS.b0 rfl rfl asT asR<|cZ 4 rfl rfl rfl atW (Fz HT HB HS (HS.at_ 4 rfl) (HS.at_ 3 rfl) af)<|?_;rintro ama aml ⟨akC,aaZ,ahD,adO,ana,aoP,an0,rfl,HS⟩;refine ⟨HS.b0,?_⟩;refine cZ 6 rfl rfl rfl atV (FB HT HB HS (HS.at_ 0 rfl) (HS.at_ 1 rfl) af (of_decide_eq_false (by assumption)))<|?_;rintro aqs arw ⟨Y7,Qm,Xb,SS,QT,WB,Uc,rfl,HS⟩;refine ⟨HS.b0,?_⟩;refine Dv (.agg #[.bool Y7,.slice Qm Xb SS,.slice QT WB Uc,.bool false]) 7 rfl HS.b0 (fun a ha w=>bG.run_build (ha.dm rfl) asV asU jJ rfl)<|lK 8 [.bool Y7,.slice Qm Xb SS,.slice QT WB Uc,.bool false] HS 1 rfl rfl rfl rfl asO (fun _ HS=>⟨(jU (s:=8) rfl rfl),?_⟩);refine JR.next ah (fun _ _ h=>h)<|Ja Tryz.results38 (.agg rfl asQ asO (HS.box _ au) rfl rfl)<|?_;exact ⟨_,_,_,_,_,_,_,(lY (by simp_all [dL,cO])),HS.oh 4 7 0 rfl (fun _ h=>h.as (by simp_all [dL,cO]) af)⟩
   ·skip
    refine JC.bH rfl<|Js<|Lz (.agg #[.bool false,.slice none 0 0,.slice none 0 0,.bool true]) (fun a ha=>bG.run_build (ha.dm rfl) asV asU jJ rfl)<|JL.store HS rfl rfl (i:=1) rfl asO rfl rfl rfl (vs':=[.bool false,.slice none 0 0,.slice none 0 0,.bool true]) rfl rfl (fun oL HS => ?_);refine Jn<|Ja Tryz.results38 (.agg rfl asQ asO (HS.box _ au) rfl rfl)<|?_;exact ⟨_,_,_,_,_,_,_,(lY (by simp_all [dL,cO])),(HS.add (FV.stable _ _ _ _) (FV.zero 0 _)).out 4 6 0 rfl rfl rfl (fun _ h=>h.as (by simp_all [dL,cO]) af)⟩
 ·skip
  refine JC.bH rfl<|Js<|JL.load (.agg #[.bool s2,.slice A2 n2 c2,.slice B2 m2 d2,.bool true]) HS 1 rfl rfl rfl asQ asO rfl rfl<|JL.load (.agg #[.bool s1,.slice A1 n1 c1,.slice B1 m1 d1,.bool false]) HS 2 rfl rfl rfl asQ asO rfl rfl<|JL.call rfl rfl aty (YM HT HB HS (HS.at_ 0 rfl) (HS.at_ 1 rfl) af t2 (fun h=>nomatch h))<|?_;rintro v32 w32 ⟨xC,vG,n32,c32,vU,m32,d32,rfl,HS⟩;refine JL.store HS rfl rfl (i:=0) rfl asO rfl rfl rfl (vs':=[.bool xC,.slice vG n32 c32,.slice vU m32 d32,.bool (cO true q2 false q1)]) rfl rfl (fun o8 HS => ?_);refine Jn<|Ja Tryz.results38 (.agg rfl asQ asO (HS.box _ ak) rfl rfl)<|?_;exact ⟨_,_,_,_,_,_,_,(lY (by simp_all [dL,cO])),HS.oh 3 3 0 rfl (fun _ h=>h.as (by simp_all [dL,cO]) af)⟩
theorem zB(HT:Tz W0)(HB:Tab W0)(HS:St W0 U Ps w){s1:Bool}{A1:Option Addr}{n1 c1:Nat}{B1:Option Addr}{m1 d1:Nat}{q1:Rat}{k1:Nat}{u1:Bool}{s2:Bool}{A2:Option Addr}{n2 c2:Nat}{B2:Option Addr}{m2 d2:Nat}{q2:Rat}{k2:Nat}{u2:Bool}(f1:FV (.agg #[.bool s1,.slice A1 n1 c1,.slice B1 m1 d1]) q1 k1 true w)(f2:FV (.agg #[.bool s2,.slice A2 n2 c2,.slice B2 m2 d2]) q2 k2 true w)(hk:k1+k2<=430)(t1:u1=true->q1=0)(t2:u2=true->q2=0) :
  bF Tryz.prog 38 [.agg #[.bool s1,.slice A1 n1 c1,.slice B1 m1 d1,.bool u1],.agg #[.bool s2,.slice A2 n2 c2,.slice B2 m2 d2,.bool u2]] w (tJ W0 U Ps (dL u1 q1 u2 q2) (cO u1 q1 u2 q2) (4*k1+4*k2+38)):=by
 cases u1
 ·exact akj HT HB HS f1 f2 hk t1 t2
 ·exact YM HT HB HS f1 f2 hk t1 t2
end
section
variable {W0 w:World} {U:List Box} {Ps:List (World->Prop)}
def kD(u:Bool)(q:Rat):Int:=if u then 0 else if q<0 then 1 else -1
theorem YK(q:Rat):rs q=decide (q<0):=by
 unfold rs;apply decide_eq_decide.2;rw [<- Int.not_le,Rat.num_nonneg,Rat.not_le]
theorem aln(u:Bool)(q:Rat)(v:Bool)(r:Rat):dS (kD u q) (kD v r)=dS (ig u q) (ig v r):=by
 unfold kD ig
 cases u <;> cases v <;> simp only [if_true,if_false,Bool.false_eq_true] <;> (try split) <;> (try split) <;> rfl
theorem O8(u:Bool)(q:Rat)(v:Bool)(r:Rat):kD u q=kD v r↔ig u q=ig v r:=by
 unfold kD ig
 cases u <;> cases v <;> simp only [if_true,if_false,Bool.false_eq_true] <;> (try split) <;> (try split) <;> simp
theorem ald{u:Bool}{q:Rat}{v:Bool}{r:Rat}(h:kD u q=kD v r):eU q r=fP u q v r:=by
 rw [fP,if_pos ((O8 u q v r).1 h)]
theorem ale{u:Bool}{q:Rat}{v:Bool}{r:Rat}(h:¬ kD u q=kD v r):dS (kD u q) (kD v r)=fP u q v r:=by
 rw [fP,if_neg (mt (O8 u q v r).2 h),aln];have h1:=mt (O8 u q v r).2 h;unfold dS
 by_cases h2:ig u q<ig v r
 ·rw [if_pos h2,if_pos h2]
 ·rw [if_neg h2,if_neg h2,if_neg h1]
theorem ad1{x y:Int}(h:decide (x<y)=true) : -1=dS x y:=by have:=of_decide_eq_true h;unfold dS;rw [if_pos this]
theorem adZ{x y:Int}(h:decide (x > y)=true):1=dS x y:=by have:=of_decide_eq_true h;unfold dS;rw [if_neg af,if_neg af]
theorem adY{x y:Int}(h:decide (x<y)=false)(h':decide (x > y)=false):0=dS x y:=by have h1:=of_decide_eq_false h;have h2:=of_decide_eq_false h';unfold dS;rw [if_neg h1,if_pos af]
set_option maxRecDepth 100000 in
set_option maxHeartbeats 400000 in
theorem BP(HT:Tz W0)(HB:Tab W0){s1:Bool}{A1:Option Addr}{n1 c1:Nat}{B1:Option Addr}{m1 d1:Nat}{q1:Rat}{k1:Nat}{b1:Bool}{u1:Bool}(HS:St W0 U Ps w)(f1:FV (.agg #[.bool s1,.slice A1 n1 c1,.slice B1 m1 d1]) q1 k1 b1 w)(hk:k1<=1000)(hg:¬ bT b1 u1 q1):bF Tryz.prog 19 [.agg #[.bool s1,.slice A1 n1 c1,.slice B1 m1 d1,.bool u1]] w (dI W0 U Ps (.iface 88 (.int .i64 2))):=by
 have HS:=HS.add (FV.stable _ _ _ _) f1;clear f1;refine df Tryz.func19 rfl Tryz.ntmps19 rfl<|Js<|JL.box (vs:=[.bool s1,.slice A1 n1 c1,.slice B1 m1 d1,.bool u1]) HS rfl rfl rfl rfl (fun g21 di HS => ?_);refine La rfl<|Jn<|JC.seq<|Js<|dH 0 rfl asV rfl asR<|JL.load (.agg #[.bool s1,.slice A1 n1 c1,.slice B1 m1 d1]) HS 0 rfl rfl rfl asT asR rfl rfl<|JL.call rfl rfl Tryz.call56 (UO HT HB HS (HS.at_ 0 rfl) af)<|?_;rintro v22 dw ⟨rfl,HS⟩;refine Lz (.bool (!b1)) (fun a ha=>jK (ha.ev rfl))<|?_
 cases b1
 ·skip
  refine Lm rfl<|Lq<|Lq<|Lq<|kV<|kV<|kV<|kV<|kV<|Lq<|Lt rfl rfl<|Jn<|JC.bH rfl<|Js<|Lz (.iface 88 (.int .i64 2)) (fun a ha=>Jz (ha.ev rfl) ah)<|La rfl<|Jn<|Ja Tryz.results19 (.tmp rfl)<|?_;exact ⟨rfl,HS.o0 1 1⟩
 ·skip
  have hz1:=FV.nz (HS.at_ 0 rfl);refine Lm rfl<|bz (.pointer (some ⟨g21,3,none⟩)) (fun a ha=>dF (ha.ev rfl) asV rfl as4 rfl rfl)<|bz (.bool u1) (fun a ha=>ji (ha.ev rfl) as3 (HS.box _ ak) rfl)<|fD rfl<|?_
  cases u1
  ·skip
   refine Lq<|Lq<|Lq<|Lq<|Lq<|bz (.bool false) (fun a ha=>FD (ha.ev rfl) (ha.ev rfl))<|Lf rfl rfl<|Jn<|JC.bJ rfl<|Jk<|Js<|La rfl<|Jn<|Ja Tryz.results19 (.tmp rfl)<|?_;exact ⟨(absurd (by simp_all [bT]) hg),HS.o0 1 1⟩
  ·skip
   refine bz (.pointer (some ⟨g21,0,none⟩)) (fun a ha=>dF (ha.ev rfl) asV rfl asR rfl rfl)<|bz (.pointer (some ⟨g21,1,none⟩)) (fun a ha=>dF (ha.ev rfl) as9 rfl ata rfl rfl)<|bz (.slice A1 n1 c1) (fun a ha=>ji (ha.ev rfl) atb (HS.box _ ak) rfl)<|bz (aj n1) (fun a ha=>o6 (ha.ev rfl) atc)<|bz (.bool (decide (¬ n1=0))) (fun a ha=>kS (ha.ev rfl) (ha.ev rfl) (aaH _))<|bz (.bool (decide (¬ n1=0))) (fun a ha=>ku (ha.ev rfl) (ha.ev rfl))<|Lf rfl rfl<|Jn<|?_
   cases Ey:((decide (¬ n1=0)))
   ·skip
    refine JC.bJ rfl<|Jk<|Js<|La rfl<|Jn<|Ja Tryz.results19 (.tmp rfl)<|?_;exact ⟨(absurd (by simp_all [bT]) hg),HS.o0 1 1⟩
   ·skip
    refine JC.bH rfl<|Js<|Lz (.iface 88 (.int .i64 2)) (fun a ha=>Jz (ha.ev rfl) ah)<|La rfl<|Jn<|Ja Tryz.results19 (.tmp rfl)<|?_;exact ⟨rfl,HS.o0 1 1⟩
set_option maxRecDepth 100000 in
set_option maxHeartbeats 400000 in
theorem ZZ(HT:Tz W0)(HB:Tab W0){s1:Bool}{A1:Option Addr}{n1 c1:Nat}{B1:Option Addr}{m1 d1:Nat}{q1:Rat}{k1:Nat}{u1:Bool}(HS:St W0 U Ps w)(f1:FV (.agg #[.bool s1,.slice A1 n1 c1,.slice B1 m1 d1]) q1 k1 true w)(hk:k1<=8000):bF Tryz.prog 125 [.agg #[.bool s1,.slice A1 n1 c1,.slice B1 m1 d1,.bool u1]] w (dI W0 U Ps (.int .i64 (kD u1 q1))):=by
 have HS:=HS.add (FV.stable _ _ _ _) f1;clear f1;have hn1:=(FV.neg (HS.at_ 0 rfl)).trans (YK q1);refine df Tryz.func125 rfl Tryz.ntmps125 rfl<|Js<|JL.box (vs:=[.bool s1,.slice A1 n1 c1,.slice B1 m1 d1,.bool u1]) HS rfl rfl rfl rfl (fun g21 di HS => ?_);refine La rfl<|Jn<|JC.seq<|JC.block<|Js<|dH 3 rfl asV rfl as4<|JL.iH (.bool u1) HS 0 rfl rfl rfl as3 rfl<|La rfl<|Jn<|?_
 cases u1
 ·skip
  refine JC.bJ rfl<|Js<|dH 0 rfl asV rfl asR<|dH 0 rfl as9 rfl as4<|JL.iH (.bool s1) HS 0 rfl rfl rfl as3 rfl<|La rfl<|Jn<|?_
  cases s1
  ·skip
   refine JC.bJ rfl<|JC.dX (fun _ _ h=>h)<|Js<|La rfl<|Jn<|Ja (v := .int .i64 (-1)) Tryz.results125 (.tmp rfl)<|?_;exact ⟨(congrArg (Value.int .i64) (by simp_all [kD])),HS.o0 1 1⟩
  ·skip
   refine JC.bH rfl<|Js<|La rfl<|Jn<|Ja Tryz.results125 (.tmp rfl)<|?_;exact ⟨(congrArg (Value.int .i64) (by simp_all [kD])),HS.o0 1 1⟩
 ·skip
  refine JC.bH rfl<|Js<|La rfl<|Jn<|Ja Tryz.results125 (.tmp rfl)<|?_;exact ⟨(congrArg (Value.int .i64) (by simp_all [kD])),HS.o0 1 1⟩
set_option maxRecDepth 100000 in
set_option maxHeartbeats 400000 in
theorem aaI(HT:Tz W0)(HB:Tab W0){z1:Int}(HS:St W0 U Ps w)   : bF Tryz.prog 167 [.int .i64 z1] w (dI W0 U Ps (.bool false)):=by
 refine df Tryz.func167 rfl Tryz.ntmps167 rfl<|Js<|La rfl<|Jn<|Js<|Lm rfl<|Lm rfl<|Lz (.bool false) (fun a ha=>eH (ha.ev rfl) (ha.ev rfl) (by simp))<|La rfl<|Jn<|Ja Tryz.results167 (.tmp rfl)<|?_;exact ⟨rfl,HS.o0 0 0⟩
set_option maxRecDepth 100000 in
set_option maxHeartbeats 400000 in
theorem ams(HT:Tz W0)(HB:Tab W0){z1:Int}{z2:Int}(HS:St W0 U Ps w)   : bF Tryz.prog 124 [.int .i64 z1,.int .i64 z2] w (dI W0 U Ps (.int .i64 (dS z1 z2))):=by
 refine df Tryz.func124 rfl Tryz.ntmps124 rfl<|Js<|La rfl<|Jn<|Js<|Lm rfl<|JL.call rfl rfl Tryz.call167 (aaI HT HB HS  )<|?_;rintro v21 di ⟨rfl,HS⟩;refine La rfl<|Jn<|Js<|Lm rfl<|JL.call rfl rfl Tryz.call167 (aaI HT HB HS  )<|?_;rintro v22 dw ⟨rfl,HS⟩;refine La rfl<|Jn<|JC.seq<|Js<|Lm rfl<|Jn<|JC.bJ rfl<|Jk<|JC.seq<|Js<|Lm rfl<|Jn<|JC.bJ rfl<|Jk<|JC.seq<|Js<|Lm rfl<|Lm rfl<|Lb rfl rfl<|Jn<|?_
 cases AA:(decide (z1<z2))
 ·skip
  refine JC.bJ rfl<|Jk<|JC.seq<|Js<|Lm rfl<|Lm rfl<|Lz (.bool (decide (z1 > z2))) (fun a ha=>kS (ha.ev rfl) (ha.ev rfl) rfl)<|Jn<|?_
  cases yL:(decide (z1 > z2))
  ·skip
   refine JC.bJ rfl<|Jk<|Js<|La rfl<|Jn<|Ja Tryz.results124 (.tmp rfl)<|?_;exact ⟨(congrArg (Value.int .i64) (adY (by assumption) (by assumption))),HS.o0 0 0⟩
  ·skip
   refine JC.bH rfl<|Js<|La rfl<|Jn<|Ja Tryz.results124 (.tmp rfl)<|?_;exact ⟨(congrArg (Value.int .i64) (adZ (by assumption))),HS.o0 0 0⟩
 ·skip
  refine JC.bH rfl<|Js<|La rfl<|Jn<|Ja (v := .int .i64 (-1)) Tryz.results124 (.tmp rfl)<|?_;exact ⟨(congrArg (Value.int .i64) (ad1 (by assumption))),HS.o0 0 0⟩
set_option maxRecDepth 100000 in
set_option maxHeartbeats 400000 in
theorem JX(HT:Tz W0)(HB:Tab W0){s1:Bool}{A1:Option Addr}{n1 c1:Nat}{B1:Option Addr}{m1 d1:Nat}{q1:Rat}{k1:Nat}{u1:Bool}{s2:Bool}{A2:Option Addr}{n2 c2:Nat}{B2:Option Addr}{m2 d2:Nat}{q2:Rat}{k2:Nat}{u2:Bool}(HS:St W0 U Ps w)(f1:FV (.agg #[.bool s1,.slice A1 n1 c1,.slice B1 m1 d1]) q1 k1 true w)(f2:FV (.agg #[.bool s2,.slice A2 n2 c2,.slice B2 m2 d2]) q2 k2 true w)(hk:k1+k2<=8000):bF Tryz.prog 77 [.agg #[.bool s1,.slice A1 n1 c1,.slice B1 m1 d1,.bool u1],.agg #[.bool s2,.slice A2 n2 c2,.slice B2 m2 d2,.bool u2]] w (dI W0 U Ps (.int .i64 (fP u1 q1 u2 q2))):=by
 have HS:=HS.add (FV.stable _ _ _ _) f1;have HS:=HS.add (FV.stable _ _ _ _) f2;clear f1 f2;refine df Tryz.func77 rfl Tryz.ntmps77 rfl<|Js<|JL.box (vs:=[.bool s1,.slice A1 n1 c1,.slice B1 m1 d1,.bool u1]) HS rfl rfl rfl rfl (fun g21 di HS => ?_);refine JL.box (vs:=[.bool s2,.slice A2 n2 c2,.slice B2 m2 d2,.bool u2]) HS rfl rfl rfl rfl (fun g22 dw HS => ?_);refine La rfl<|Jn<|JC.seq<|JC.seq<|JC.draw HS [] ah (fun dR HS => ?_);refine Da (.agg #[.bool s1,.slice A1 n1 c1,.slice B1 m1 d1,.bool u1]) 0 1 rfl HS.b0 rfl rfl asQ asO<|Da (.agg #[.bool s2,.slice A2 n2 c2,.slice B2 m2 d2,.bool u2]) 2 0 rfl HS.b0 rfl rfl asQ asO<|cZ 1 rfl rfl rfl Tryz.call125 (ZZ HT HB HS (HS.at_ 1 rfl) af)<|?_;rintro Z7 aai ⟨rfl,HS⟩;refine ⟨HS.b0,?_⟩;refine cZ 3 rfl rfl rfl Tryz.call125 (ZZ HT HB HS (HS.at_ 0 rfl) af)<|?_;rintro Pq PE ⟨rfl,HS⟩;refine ⟨HS.b0,?_⟩;refine cZ 4 rfl rfl rfl Tryz.call124 (ams HT HB HS  )<|?_;rintro al3 PG ⟨rfl,HS⟩;refine ⟨HS.b0,?_⟩;refine Ds 5 rfl HS.b0 rfl<|JR.next ah (fun _ _ h=>h)<|Js<|Lm rfl<|Lz (.bool (!(decide ((kD u1 q1)=(kD u2 q2))))) (fun a ha=>eH (ha.ev rfl) (ha.ev rfl) (TQ _ _))<|Jn<|?_
 cases Ey:((decide ((kD u1 q1)=(kD u2 q2))))
 ·skip
  refine JC.bH rfl<|Js<|Lm rfl<|La rfl<|Jn<|Ja Tryz.results77 (.tmp rfl)<|?_;exact ⟨(congrArg (Value.int .i64) (ale (of_decide_eq_false (by assumption)))),HS.o0 2 2⟩
 ·skip
  refine JC.bJ rfl<|Jk<|Js<|dH 0 rfl asV rfl asR<|JL.load (.agg #[.bool s1,.slice A1 n1 c1,.slice B1 m1 d1]) HS 1 rfl rfl rfl asT asR rfl rfl<|dH 0 rfl asV rfl asR<|JL.load (.agg #[.bool s2,.slice A2 n2 c2,.slice B2 m2 d2]) HS 0 rfl rfl rfl asT asR rfl rfl<|JL.call rfl rfl atX (DX HT HB HS (HS.at_ 1 rfl) (HS.at_ 0 rfl) af)<|?_;rintro v26 fA ⟨rfl,HS⟩;refine La rfl<|Jn<|Ja Tryz.results77 (.tmp rfl)<|?_;exact ⟨(congrArg (Value.int .i64) (ald (of_decide_eq_true (by assumption)))),HS.o0 2 2⟩
end
end Go.Proofs.BGQ
