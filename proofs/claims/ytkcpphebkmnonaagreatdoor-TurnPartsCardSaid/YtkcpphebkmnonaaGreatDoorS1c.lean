/- Part of a proof, said shortly. -/
import Derived.Lib.TrailingZeros
import Derived.LoopN
import Derived.Deep.RegionHeld3
import Derived.Deep.RegionWith
import Derived.Test.YtkcpphebkmnonaaGreatDoorAlzc
import Derived.Test.YtkcpphebkmnonaaGreatDoorC5c
import Derived.Test.YtkcpphebkmnonaaGreatDoorC1c
import Derived.Test.YtkcpphebkmnonaaGreatDoorC9c
import Derived.Test.YtkcpphebkmnonaaGreatDoorC8c
import Derived.Test.YtkcpphebkmnonaaGreatDoorC2c
import Derived.Test.YtkcpphebkmnonaaGreatDoorC4c
import Derived.Test.YtkcpphebkmnonaaGreatDoorC3c
import Derived.Test.YtkcpphebkmnonaaGreatDoorC7c
import Derived.Test.YtkcpphebkmnonaaGreatDoorC6c
import Derived.Test.YtkcpphebkmnonaaGreatDoorC12c
import Derived.Test.YtkcpphebkmnonaaGreatDoorC11c
import Derived.Test.YtkcpphebkmnonaaGreatDoorC16c
import Derived.Test.YtkcpphebkmnonaaGreatDoorC10c
import Derived.Test.YtkcpphebkmnonaaGreatDoorC15c
import Derived.Test.YtkcpphebkmnonaaGreatDoorC13c
import Derived.Test.YtkcpphebkmnonaaGreatDoorC14c
import Derived.Test.YtkcpphebkmnonaaGreatDoorC17c
import Derived.Test.YtkcpphebkmnonaaGreatDoorC18c
import Derived.Test.YtkcpphebkmnonaaGreatDoorC19c
set_option linter.unusedVariables false
set_option linter.unusedSimpArgs false
namespace Lw
theorem PV(a b:Rat):a*b=Rat.divInt (a.num*b.num) (a.den*b.den):=by
 conv=>lhs;rw [<- aps a,<- aps b]
 rw [Rat.divInt_mul_divInt]
theorem aba(a b:Rat):(a*b).num.natAbs<=a.num.natAbs*b.num.natAbs/\(a*b).den<=a.den*b.den:=by
 have h:=Ci (n:=a.num*b.num) (Int.mul_pos (den_pos a) (den_pos b));rw [<- PV,apr,apr,aoL,aoL] at h;exact h
end Lw
namespace Lw
open Go
theorem abe{q r:Rat}{k k':Nat}(h1:q.num.natAbs<pw k/\q.den<pw (k+1))(h2:r.num.natAbs<pw k'/\r.den<pw (k'+1)):(q*r).num.natAbs<pw (k+k'+2)/\(q*r).den<pw (k+k'+2):=by
 have hb:=aba q r;have e1:=ap8 h1.1 h2.1;have e3:=ap8 h1.2 h2.2;rw [<- nK] at e1 e3;rw [show k+1+(k'+1)=k+k'+2 by omega] at e3;have e4:pw (k+k')<=pw (k+k'+2):=dU af;omega
end Lw
namespace Go.Proofs.BGQ
open Go Go.RowKit Lw
section
variable {W0 w:World} {bs:List Bx} {L:List En} {ts:List Bt} {M:List Qn} {s s':Bool} {A A' B B':Option Addr} {n c n' c' m d m' d' k k':Nat} {q r:Rat} {b b':Bool}
set_option maxRecDepth 100000 in
set_option maxHeartbeats 1600000 in
theorem YB(HE:bu W0 w bs L ts M)(h:⟨.agg #[.bool s,.slice A n c,.slice A' n' c'],q,k,b⟩∈M)(hk:k<=100000) :
  Calls Tryz.prog 91 #[.agg #[.bool s,.slice A n c,.slice A' n' c']] w (eF W0 bs L ts M (-q) k):=by
 refine Calls.mono (R:=eF w [] L [] M (-q) k) ?_ fun _ _ hh=>eF.of HE hh;replace HE:=(HE.here.dF (.bool s) (.slice A n c) (.slice A' n' c')).dF (.bool false) (.slice none 0 0) (.slice none 0 0);simp only [World.size_alloc] at HE;obtain ⟨q0,q1,q2,q3,q4,q5⟩:=HE.c3 au
 go_enter Tryz.func91,Tryz.ntmps91
 go_wp2_with fail
 refine (Dp HE h hk).mono ?_;clear HE;rintro e w1 ⟨s1,A1,n1,c1,B1,m1,d1,rfl,HE⟩;clear q0 q1 q2 q3 q4 q5
 go_wp2_with fail
 refine (MF HE ak hk).mono ?_;clear HE;rintro e w2 ⟨s2,A2,n2,c2,B2,m2,d2,rfl,HE⟩
 go_wp2_with fail
 refine (Qh HE ak hk).mono ?_;clear HE;rintro e w3 ⟨sx,Ax,nx,cx,Ay,ny,cy,rfl,HE⟩;obtain ⟨q0,q1,q2,q3,q4,q5⟩:=HE.c3 ak
 go_wp2_with fail
 refine bodyPost_ret (v := .agg #[.bool sx,.slice Ax nx cx,.slice Ay ny cy]) (by simp [results,Tryz.results91,go_sem,q0,q1,q2]) rfl ?_;have HK:=(HE.iT (D:=Ax) (m:=nx) (d:=cx) ak sx (.slice Ay ny cy)).bare;exact ⟨_,_,_,_,_,_,_,rfl,HK.pick (fun _ he=>he) (fun _ he=>by rcases List.mem_cons.1 he with rfl | he;exact ak;exact .tail _ (.tail _ (.tail _ he)))⟩
end
end Go.Proofs.BGQ
namespace bI
open Go Go.RowKit
section
variable {P:Program} {ops:Array Oper} {Q:Exit->Act->World->Prop} {late:List Nat} {S:World->Prop} {N d fuel:Nat} {T:List (Nat×Value)} {w:World} {U:List Box} {listed:Array Bool} {o:Oper} {v:Value}
theorem VP{t et:TypeId}{x:Operand}{g off:Nat}{vs:List Value}{ty:TypeId}{pos:String}{bD:Array Edge}(v:Value)(i j:Nat)(hc:qR ops late listed i=true)(hi:ops[i]? = some ⟨some d,.load t x,ty,pos,bD,none⟩)(hq : ∀ c a w,Q (.panic c) (a.put (some d) v) w->Q (.panic c) a w)(hN:Nat.ble (d+1) N=true)(hS:dw late listed->Boxed U w)(hx:ev T x=some (.pointer (some ⟨g,off,none⟩)))(hj:U[j]? = some ⟨g,et,vs⟩)(hg : ∀ w,(isAgg t).run P w = .ok false w)(hv:vs[off]? = some v)(h:JR P ops Q late (Boxed U) fuel (listed.setIfInBounds i true) N ((d,v)::T) w):JR P ops Q late (Boxed U) (fuel+1) listed N T w :=
 have ⟨a,b,c,e,f⟩:=Dk hc
 JR.fJ v i j hi a b c e hq hN hS f hx hj hg hv rfl h
end
section
variable {P:Program} {ops:Array Oper} {Q:Exit->Act->World->Prop} {late:List Nat} {S:World->Prop} {N d fuel:Nat} {T:List (Nat×Value)} {W0 w w':World} {U:List Box} {Ps:List (World->Prop)} {listed:Array Bool} {o:Oper} {rest:List Oper}
theorem Do{t et:TypeId}{x:Operand}{g off:Nat}{vs:List Value}{ty:TypeId}{pos:String}{bD:Array Edge}(v:Value)(i j:Nat)(hi:ops[i]? = some ⟨some d,.load t x,ty,pos,bD,none⟩)(hS:dw late listed->Boxed U w)(hx:ev T x=some (.pointer (some ⟨g,off,none⟩)))(hj:U[j]? = some ⟨g,et,vs⟩)(hg : ∀ w,(isAgg t).run P w = .ok false w)(h:JR P ops Q late (Boxed U) fuel (listed.setIfInBounds i true) N ((d,v)::T) w)(hv:vs[off]? = some v:=by rfl)(hc:qR ops late listed i=true:=by kernel_rfl)(hN:Nat.ble (d+1) N=true:=by rfl)(hq : ∀ c a w,Q (.panic c) (a.put (some d) v) w->Q (.panic c) a w:=by exact fun _ _ _ h=>h):JR P ops Q late (Boxed U) (fuel+1) listed N T w:=VP v i j hc hi hq hN hS hx hj hg hv h
end
end bI
namespace Go.Proofs.BGQ
open Go Go.RowKit Lw
section
variable {W0 w:World} {bs:List Bx} {L:List En} {ts:List Bt} {M:List Qn} {s s':Bool} {A A' B B':Option Addr} {n c n' c' m d m' d' k k':Nat} {q r:Rat} {x y:Int} {b b':Bool}
set_option maxRecDepth 100000 in
set_option maxHeartbeats 3200000 in
theorem adQ(HE:bu W0 w bs L ts M)(h:⟨.agg #[.bool s,.slice A n c,.slice A' n' c'],q,k,b⟩∈M)(h':⟨.agg #[.bool s',.slice B m d,.slice B' m' d'],r,k',b'⟩∈M)(hk:k+k'<=1000) :
  Calls Tryz.prog 59 #[.agg #[.bool s,.slice A n c,.slice A' n' c'],.agg #[.bool s',.slice B m d,.slice B' m' d']] w (eF W0 bs L ts M (q*r) (k+k'+2)):=by
 refine Calls.mono (R:=(eF w [] L [] M (q*r) (k+k'+2))) ?_ fun _ _ hh=>eF.of HE hh;have HP:=Lib.hid (abe (vH HE h) (vH HE h'));have HD:=Lib.hid (Int.mul_ne_zero (qF q) (qF r));replace HE:=((HE.here.dF (.bool s) (.slice A n c) (.slice A' n' c')).dF (.bool s') (.slice B m d) (.slice B' m' d')).dF (.bool false) (.slice none 0 0) (.slice none 0 0);simp only [World.size_alloc] at HE;obtain ⟨q0,q1,q2,q3,q4,q5⟩:=HE.c3 ak;obtain ⟨q6,q7,q8,q9,q10,q11⟩:=HE.c3 au;obtain ⟨q12,q13,gI,gJ,q16,gK⟩:=HE.c3 ay
 go_enter Tryz.func59,Tryz.ntmps59
 go_wp2_with fail
 refine (pW HE h af).mono ?_;clear HE;rintro e w1 ⟨s1,D1,m1,d1,s2,D2,m2,d2,rfl,HE⟩;replace HE:=(HE.bV (.bool s1) (.slice D1 m1 d1)).bV (.bool s2) (.slice D2 m2 d2);simp only [World.size_alloc] at HE;clear q0 q1 q2 q3 q4 q5 q6 q7 q8 q9 q10 q11 q12 q13 gI gJ q16 gK;obtain ⟨iy,iC,jm,jo⟩:=HE.c2 ak;obtain ⟨q22,q23,q24,jq⟩:=HE.c2 au;obtain ⟨jr,jw,jU,jV,q30,jW⟩:=HE.c3 ak;obtain ⟨q32,ku,l7,q35,nM,q37⟩:=HE.c3 au;obtain ⟨nN,nO,nP,nR,pO,pR⟩:=HE.c3 ay
 go_wp2_with fail
 refine (pW HE h' af).mono ?_;clear HE;rintro e w2 ⟨s3,D3,m3,d3,s4,D4,m4,d4,rfl,HE⟩;replace HE:=(HE.bV (.bool s3) (.slice D3 m3 d3)).bV (.bool s4) (.slice D4 m4 d4);simp only [World.size_alloc] at HE;clear iy iC jm jo q22 q23 q24 jq jr jw jU jV q30 jW q32 ku l7 q35 nM q37 nN nO nP nR pO pR;obtain ⟨vZ,wu,wz,wB⟩:=HE.c2 ak;obtain ⟨wC,wE,wF,wG⟩:=HE.c2 au;obtain ⟨wH,wI,wJ,wK⟩:=HE.c2 ay;obtain ⟨wL,wM,wO,wP⟩:=HE.c2 az;obtain ⟨wQ,wR,wS,wU,wV,wW⟩:=HE.c3 ak;obtain ⟨wX,wY,wZ,xe,xg,xh⟩:=HE.c3 au;obtain ⟨xk,xm,xn,xq,xu,xw⟩:=HE.c3 ay
 go_wp2_with fail
 go_region_held3 (fun w'=>w'.cell? ⟨w1.heap.size,0,none⟩=some (.bool s1)/\w'.cell? ⟨w1.heap.size,1,none⟩=some (.slice D1 m1 d1)/\w'.cell? ⟨w1.heap.size+1,0,none⟩=some (.bool s2)/\w'.cell? ⟨w1.heap.size+1,1,none⟩=some (.slice D2 m2 d2)/\w'.cell? ⟨w2.heap.size,0,none⟩=some (.bool s3)/\w'.cell? ⟨w2.heap.size,1,none⟩=some (.slice D3 m3 d3)/\w'.cell? ⟨w2.heap.size+1,0,none⟩=some (.bool s4)/\w'.cell? ⟨w2.heap.size+1,1,none⟩=some (.slice D4 m4 d4)) (first | exact ⟨(HE.c2 az).1,(HE.c2 az).2.1,(HE.c2 ay).1,(HE.c2 ay).2.1,(HE.c2 au).1,(HE.c2 au).2.1,(HE.c2 ak).1,(HE.c2 ak).2.1⟩ | exact ⟨(HE.drew.c2 az).1,(HE.drew.c2 az).2.1,(HE.drew.c2 ay).1,(HE.drew.c2 ay).2.1,(HE.drew.c2 au).1,(HE.drew.c2 au).2.1,(HE.drew.c2 ak).1,(HE.drew.c2 ak).2.1⟩ | exact ⟨(HK.c2 az).1,(HK.c2 az).2.1,(HK.c2 ay).1,(HK.c2 ay).2.1,(HK.c2 au).1,(HK.c2 au).2.1,(HK.c2 ak).1,(HK.c2 ak).2.1⟩)
  (first
   | (go_at_call 105;refine (DU (by with_reducible first | exact HE | exact HE.drew) (by repeat (first | exact aZ | assumption | refine .tail _ ?_)) (by repeat (first | exact aZ | assumption | refine .tail _ ?_)) af).mono ?_;rintro e wn ⟨sx,Ax,nx,cx,rfl,HE⟩)
   | (go_at_call 103;refine (uY (by with_reducible first | exact HE | exact HE.drew) (by repeat (first | exact aZ | assumption | refine .tail _ ?_)) (by repeat (first | exact aZ | assumption | refine .tail _ ?_)) af HD.out).mono ?_;rintro e wn ⟨sx,Ax,nx,cx,Ay,ny,cy,rfl,HE⟩;have HK:=HE.iT (D:=Ax) (m:=nx) (d:=cx) ak sx (.slice Ay ny cy);obtain ⟨z0,z1,z2,z3,z4,z5⟩:=HE.c3 ak))
 go_wp2_with fail
 refine bodyPost_ret (v := .agg #[.bool sx,.slice Ax nx cx,.slice Ay ny cy]) (by simp [results,Tryz.results59,go_sem,z0,z1,z2]) rfl ?_;have HF:=HK.bare;rw [<- PV] at HF;replace HF:=HF.hd (fun hh=>dA.tight hh HP.out.1 HP.out.2);exact ⟨_,_,_,_,_,_,_,rfl,HF.pick (fun e he => .tail _ (.tail _ (.tail _ (.tail _ (.tail _ (.tail _ (he))))))) (fun _ he=>he)⟩
end
section
variable {W0 w:World} {bs:List Bx} {L:List En} {ts:List Bt} {M:List Qn} {s s':Bool} {A A' B B':Option Addr} {n c n' c' m d m' d' k k':Nat} {q r:Rat} {x y:Int} {b b':Bool}
theorem X0(q r:Rat):q*r⁻¹=Rat.divInt (q.num*(r.den:Int)) ((q.den:Int)*r.num):=by
 have h:=Rat.divInt_mul_divInt q.num (r.den:Int) (d₁:=(q.den:Int)) (d₂:=r.num);rw [aps,<- Rat.inv_def] at h;exact h
set_option maxRecDepth 100000 in
set_option maxHeartbeats 3200000 in
theorem adN(HE:bu W0 w bs L ts M)(h:⟨.agg #[.bool s,.slice A n c,.slice A' n' c'],q,k,b⟩∈M)(h':⟨.agg #[.bool s',.slice B m d,.slice B' m' d'],r,k',b'⟩∈M)(hk:k+k'<=900)(hr:r≠0) :
  Calls Tryz.prog 106 #[.agg #[.bool s,.slice A n c,.slice A' n' c'],.agg #[.bool s',.slice B m d,.slice B' m' d']] w (fun e w' => ∃ (s:Bool) (A:Option Addr) (n c:Nat) (A':Option Addr) (n' c':Nat),e = .returned (.tuple #[.agg #[.bool s,.slice A n c,.slice A' n' c'],.int .i64 0])/\bu W0 w' bs L ts (⟨.agg #[.bool s,.slice A n c,.slice A' n' c'],q*r⁻¹,2*k+2*k'+12,true⟩::M)):=by
 refine Calls.mono (R:=(fun e w' => ∃ (s:Bool) (A:Option Addr) (n c:Nat) (A':Option Addr) (n' c':Nat),e = .returned (.tuple #[.agg #[.bool s,.slice A n c,.slice A' n' c'],.int .i64 0])/\bu w w' [] L [] (⟨.agg #[.bool s,.slice A n c,.slice A' n' c'],q*r⁻¹,2*k+2*k'+12,true⟩::M))) ?_ fun _ _ hh=>by obtain ⟨s,A,n,c,A',n',c',e1,he⟩:=hh;exact ⟨s,A,n,c,A',n',c',e1,HE.back he⟩
 have HD:=Lib.hid (Int.mul_ne_zero (qF q) (fun e=>hr (apK.1 e)));have HV:=Lib.hid (X0 q r);clear hr;replace HE:=((HE.here.dF (.bool s) (.slice A n c) (.slice A' n' c')).dF (.bool s') (.slice B m d) (.slice B' m' d')).dF (.bool false) (.slice none 0 0) (.slice none 0 0);simp only [World.size_alloc] at HE;obtain ⟨q0,q1,q2,q3,q4,q5⟩:=HE.c3 ak;obtain ⟨q6,q7,q8,q9,q10,q11⟩:=HE.c3 au;obtain ⟨q12,q13,gI,gJ,q16,gK⟩:=HE.c3 ay
 go_enter Tryz.func106,Tryz.ntmps106
 go_wp2_with fail
 refine (pW HE h af).mono ?_;clear HE;rintro e w1 ⟨s1,D1,m1,d1,s2,D2,m2,d2,rfl,HE⟩;replace HE:=(HE.bV (.bool s1) (.slice D1 m1 d1)).bV (.bool s2) (.slice D2 m2 d2);simp only [World.size_alloc] at HE;clear q0 q1 q2 q3 q4 q5 q6 q7 q8 q9 q10 q11 q12 q13 gI gJ q16 gK;obtain ⟨iy,iC,jm,jo⟩:=HE.c2 ak;obtain ⟨q22,q23,q24,jq⟩:=HE.c2 au;obtain ⟨jr,jw,jU,jV,q30,jW⟩:=HE.c3 ak;obtain ⟨q32,ku,l7,q35,nM,q37⟩:=HE.c3 au;obtain ⟨nN,nO,nP,nR,pO,pR⟩:=HE.c3 ay
 go_wp2_with fail
 refine (pW HE h' af).mono ?_;clear HE;rintro e w2 ⟨s3,D3,m3,d3,s4,D4,m4,d4,rfl,HE⟩;replace HE:=(HE.bV (.bool s3) (.slice D3 m3 d3)).bV (.bool s4) (.slice D4 m4 d4);simp only [World.size_alloc] at HE;clear iy iC jm jo q22 q23 q24 jq jr jw jU jV q30 jW q32 ku l7 q35 nM q37 nN nO nP nR pO pR;obtain ⟨vZ,wu,wz,wB⟩:=HE.c2 ak;obtain ⟨wC,wE,wF,wG⟩:=HE.c2 au;obtain ⟨wH,wI,wJ,wK⟩:=HE.c2 ay;obtain ⟨wL,wM,wO,wP⟩:=HE.c2 az;obtain ⟨wQ,wR,wS,wU,wV,wW⟩:=HE.c3 ak;obtain ⟨wX,wY,wZ,xe,xg,xh⟩:=HE.c3 au;obtain ⟨xk,xm,xn,xq,xu,xw⟩:=HE.c3 ay
 go_wp2_with fail
 go_region_held3 (fun w'=>w'.cell? ⟨w1.heap.size,0,none⟩=some (.bool s1)/\w'.cell? ⟨w1.heap.size,1,none⟩=some (.slice D1 m1 d1)/\w'.cell? ⟨w1.heap.size+1,0,none⟩=some (.bool s2)/\w'.cell? ⟨w1.heap.size+1,1,none⟩=some (.slice D2 m2 d2)/\w'.cell? ⟨w2.heap.size,0,none⟩=some (.bool s3)/\w'.cell? ⟨w2.heap.size,1,none⟩=some (.slice D3 m3 d3)/\w'.cell? ⟨w2.heap.size+1,0,none⟩=some (.bool s4)/\w'.cell? ⟨w2.heap.size+1,1,none⟩=some (.slice D4 m4 d4)) (first | exact ⟨(HE.c2 az).1,(HE.c2 az).2.1,(HE.c2 ay).1,(HE.c2 ay).2.1,(HE.c2 au).1,(HE.c2 au).2.1,(HE.c2 ak).1,(HE.c2 ak).2.1⟩ | exact ⟨(HE.drew.c2 az).1,(HE.drew.c2 az).2.1,(HE.drew.c2 ay).1,(HE.drew.c2 ay).2.1,(HE.drew.c2 au).1,(HE.drew.c2 au).2.1,(HE.drew.c2 ak).1,(HE.drew.c2 ak).2.1⟩ | exact ⟨(HK.c2 az).1,(HK.c2 az).2.1,(HK.c2 ay).1,(HK.c2 ay).2.1,(HK.c2 au).1,(HK.c2 au).2.1,(HK.c2 ak).1,(HK.c2 ak).2.1⟩)
  (first
   | (go_at_call 105;refine (DU (by with_reducible first | exact HE | exact HE.drew) (by repeat (first | exact aZ | assumption | refine .tail _ ?_)) (by repeat (first | exact aZ | assumption | refine .tail _ ?_)) af).mono ?_;rintro e wn ⟨sx,Ax,nx,cx,rfl,HE⟩)
   | (go_at_call 135;refine (QZ (by with_reducible first | exact HE | exact HE.drew) (by repeat (first | exact aZ | assumption | refine .tail _ ?_)) (by repeat (first | exact aZ | assumption | refine .tail _ ?_)) af HD.out).mono ?_;rintro e wn ⟨sx,Ax,nx,cx,Ay,ny,cy,rfl,HE⟩;have HK:=HE.iT (D:=Ax) (m:=nx) (d:=cx) ak sx (.slice Ay ny cy);obtain ⟨z0,z1,z2,z3,z4,z5⟩:=HE.c3 ak))
 go_wp2_with fail
 refine bodyPost_ret (v := .tuple #[.agg #[.bool sx,.slice Ax nx cx,.slice Ay ny cy],.int .i64 0]) (by simp [results,Tryz.results106,go_sem,z0,z1,z2]) rfl ?_;rw [HV.out];exact ⟨_,_,_,_,_,_,_,rfl,(HK.bare.pick (fun e he => .tail _ (.tail _ (.tail _ (.tail _ (.tail _ (.tail _ (he))))))) (fun _ he=>he)).hd (·.weak af)⟩
end
section
variable {W0 w:World} {bs:List Bx} {L:List En} {ts:List Bt} {M:List Qn} {s s':Bool} {A A' B B':Option Addr} {n c n' c' m d m' d' k k':Nat} {q r:Rat} {x y:Int} {b b':Bool}
set_option maxRecDepth 100000 in
set_option maxHeartbeats 1600000 in
theorem adU(HE:bu W0 w bs L ts M)(n1 : -9223372036854775808<=x)(n2:x<=9223372036854775807) :
  Calls Tryz.prog 58 #[.int .i64 x] w (eF W0 bs L ts M (x:Rat) 6):=by
 refine Calls.mono (R:=(eF w [] L [] M (x:Rat) 6)) ?_ fun _ _ hh=>eF.of HE hh;replace HE:=HE.here.dF (.bool false) (.slice none 0 0) (.slice none 0 0);have HX:=Lib.hid (show Rat.divInt x 1=(x:Rat) from Rat.ext (by rw [apH];simp) (by rw [apJ];simp));have HN:=Lib.hid (show -9223372036854775808<=x/\x<=9223372036854775807 from ⟨n1,n2⟩);clear n1 n2;obtain ⟨q0,q1,q2,q3,q4,q5⟩:=HE.c3 ak
 go_enter Tryz.func58,Tryz.ntmps58
 go_wp2_with fail
 refine (Am HE HN.out.1 HN.out.2).mono ?_;clear HE;rintro e w1 ⟨s1,A1,n1,c1,rfl,HE⟩;clear q0 q1 q2 q3 q4 q5
 go_wp2_with fail
 refine (Ah HE).mono ?_;clear HE;rintro e w2 ⟨s2,A2,n2,c2,rfl,HE⟩
 go_wp2_with fail
 refine (uY HE au ak af af).mono ?_;rw [HX.out];clear HE;rintro e w3 ⟨sx,Ax,nx,cx,Ay,ny,cy,rfl,HE⟩;obtain ⟨q6,q7,q8,q9,q10,q11⟩:=HE.c3 ak
 go_wp2_with fail
 refine bodyPost_ret (v := .agg #[.bool sx,.slice Ax nx cx,.slice Ay ny cy]) (by simp [results,Tryz.results58,go_sem,q6,q7,q8]) rfl ?_;have HK:=(HE.iT (D:=Ax) (m:=nx) (d:=cx) ak sx (.slice Ay ny cy)).bare;exact ⟨_,_,_,_,_,_,_,rfl,HK.pick (fun e he => .tail _ (.tail _ he)) (fun _ he=>he)⟩
end
section
variable {W0 w:World} {bs:List Bx} {L:List En} {ts:List Bt} {M:List Qn} {v v':Value} {q r:Rat} {k k':Nat} {b b':Bool}
theorem adT(HE:bu W0 w bs L ts M)(h:⟨v,q,k,b⟩∈M)(hk:k<=900) :
  Calls Tryz.prog 64 #[v] w (kH W0 bs L ts M (-q) (k+1)):=by
 obtain ⟨s,A,n,c,A',n',c',e1⟩:=(HE.fr _ h).shape;dsimp only at e1;subst e1;exact (Q7 HE h af).mono fun _ _ hh=>kH.of hh
theorem adH(HE:bu W0 w bs L ts M)(h:⟨v,q,k,b⟩∈M)(h':⟨v',r,k',b'⟩∈M)(hk:k+k'<=800) :
  Calls Tryz.prog 63 #[v,v'] w (kH W0 bs L ts M (q+r) (k+k'+2)):=by
 obtain ⟨s,A,n,c,A',n',c',e1⟩:=(HE.fr _ h).shape;obtain ⟨t,B,m,d,B',m',d',e2⟩:=(HE.fr _ h').shape;dsimp only at e1 e2;subst e1 e2;exact (QY HE h h' af).mono fun _ _ hh=>kH.of hh
theorem adZ(HE:bu W0 w bs L ts M)(h:⟨v,q,k,b⟩∈M)(h':⟨v',r,k',b'⟩∈M)(hk:k+k'<=800) :
  Calls Tryz.prog 61 #[v,v'] w (kH W0 bs L ts M (q-r) (k+(k'+1)+2)):=by
 obtain ⟨s,A,n,c,A',n',c',e1⟩:=(HE.fr _ h).shape;obtain ⟨t,B,m,d,B',m',d',e2⟩:=(HE.fr _ h').shape;dsimp only at e1 e2;subst e1 e2;exact (Rh HE h h' af).mono fun _ _ hh=>kH.of hh
theorem adR(HE:bu W0 w bs L ts M)(h:⟨v,q,k,b⟩∈M)(h':⟨v',r,k',b'⟩∈M)(hk:k+k'<=800) :
  Calls Tryz.prog 59 #[v,v'] w (kH W0 bs L ts M (q*r) (k+k'+2)):=by
 obtain ⟨s,A,n,c,A',n',c',e1⟩:=(HE.fr _ h).shape;obtain ⟨t,B,m,d,B',m',d',e2⟩:=(HE.fr _ h').shape;dsimp only at e1 e2;subst e1 e2;exact (adQ HE h h' af).mono fun _ _ hh=>kH.of hh
end
section
variable {W0 w:World} {bs:List Bx} {L:List En} {ts:List Bt} {M:List Qn} {v v':Value} {q r:Rat} {x y:Int} {k k':Nat} {b b':Bool}
theorem adV(HE:bu W0 w bs L ts M)(n1 : -9223372036854775808<=x)(n2:x<=9223372036854775807) :
  Calls Tryz.prog 58 #[.int .i64 x] w (kH W0 bs L ts M (x:Rat) 6):=(adU HE n1 n2).mono fun _ _ hh=>kH.of hh
end
open bI
section
variable {W0 w w':World} {U:List Box} {Ps:List (World->Prop)} {v v':Value} {q r:Rat} {x y:Int} {k k':Nat} {b b':Bool} {f:FuncId} {vs:List Value} {L:List En} {M:List Qn}
section
variable {b1 b2 s1 s2:Bool} {c1 c2 d1 d2 k1 k2 m1 m2 n1 n2:Nat} {A1 A2 B1 B2:Option Addr} {q1 q2:Rat}
theorem zh(HS:St W0 U Ps w)(h:Calls Tryz.prog f vs.toArray w (kH w [] L [] M q k)):bC Tryz.prog f vs w (jk W0 U Ps q k) :=
 h.mono fun e w' hh=>by
  obtain ⟨u,rfl,he⟩:=hh;obtain ⟨s,A,n,c,A',n',c',e1⟩:=(he.fr _ ak).shape;dsimp only at e1;subst e1;exact ⟨_,rfl,s,A,n,c,A',n',c',rfl,(HS.next he.below).add (FV.stable _ q k true) (he.fr _ ak)⟩
theorem YA(HT:Tz W0)(HB:Tab W0)(HS:St W0 U Ps w)(f1:FV (aoC s1 A1 n1 c1 B1 m1 d1) q1 k1 b1 w)(hk:k1<=100000):bC Tryz.prog 91 [(aoC s1 A1 n1 c1 B1 m1 d1)] w (jk W0 U Ps (-q1) (k1)) :=
 zg HS (YB ((St.start HS HT HB).cons f1) ak hk)
theorem Q8(HT:Tz W0)(HB:Tab W0)(HS:St W0 U Ps w){z1:Int}(h1 : -9223372036854775808<=z1)(h2:z1<=9223372036854775807):bC Tryz.prog 58 [.int .i64 z1] w (jk W0 U Ps ((z1:Rat)) (6)) :=
 zh HS (adV (St.start HS HT HB)  h1 h2)
theorem Jd(HT:Tz W0)(HB:Tab W0)(HS:St W0 U Ps w)(f1:FV (aoC s1 A1 n1 c1 B1 m1 d1) q1 k1 b1 w)(f2:FV (aoC s2 A2 n2 c2 B2 m2 d2) q2 k2 b2 w)(hk:k1+k2<=800):bC Tryz.prog 63 [(aoC s1 A1 n1 c1 B1 m1 d1),(aoC s2 A2 n2 c2 B2 m2 d2)] w (jk W0 U Ps (q1+q2) (k1+k2+2)) :=
 zh HS (adH (((St.start HS HT HB).cons f2).cons f1) ak au hk)
theorem adY(HT:Tz W0)(HB:Tab W0)(HS:St W0 U Ps w)(f1:FV (aoC s1 A1 n1 c1 B1 m1 d1) q1 k1 b1 w)(f2:FV (aoC s2 A2 n2 c2 B2 m2 d2) q2 k2 b2 w)(hk:k1+k2<=800):bC Tryz.prog 61 [(aoC s1 A1 n1 c1 B1 m1 d1),(aoC s2 A2 n2 c2 B2 m2 d2)] w (jk W0 U Ps (q1-q2) (k1+(k2+1)+2)) :=
 zh HS (adZ (((St.start HS HT HB).cons f2).cons f1) ak au hk)
theorem Q5(HT:Tz W0)(HB:Tab W0)(HS:St W0 U Ps w)(f1:FV (aoC s1 A1 n1 c1 B1 m1 d1) q1 k1 b1 w)(f2:FV (aoC s2 A2 n2 c2 B2 m2 d2) q2 k2 b2 w)(hk:k1+k2<=800):bC Tryz.prog 59 [(aoC s1 A1 n1 c1 B1 m1 d1),(aoC s2 A2 n2 c2 B2 m2 d2)] w (jk W0 U Ps (q1*q2) (k1+k2+2)) :=
 zh HS (adR (((St.start HS HT HB).cons f2).cons f1) ak au hk)
theorem adS(HT:Tz W0)(HB:Tab W0)(HS:St W0 U Ps w)(f1:FV (aoC s1 A1 n1 c1 B1 m1 d1) q1 k1 b1 w)(hk:k1<=900):bC Tryz.prog 64 [(aoC s1 A1 n1 c1 B1 m1 d1)] w (jk W0 U Ps (-q1) (k1+1)) :=
 zh HS (adT ((St.start HS HT HB).cons f1) ak hk)
theorem adM(HT:Tz W0)(HB:Tab W0)(HS:St W0 U Ps w)(f1:FV (aoC s1 A1 n1 c1 B1 m1 d1) q1 k1 b1 w)(f2:FV (aoC s2 A2 n2 c2 B2 m2 d2) q2 k2 b2 w)(hk:k1+k2<=900)(hr:q2≠0):bC Tryz.prog 106 [(aoC s1 A1 n1 c1 B1 m1 d1),(aoC s2 A2 n2 c2 B2 m2 d2)] w (eG W0 U Ps (q1*q2⁻¹) (2*k1+2*k2+12) (.int .i64 0)) :=
 uZ HS (adN (((St.start HS HT HB).cons f2).cons f1) ak au hk hr)
end
end
end Go.Proofs.BGQ
namespace Lw
open Go Go.RowKit bI
theorem afb{u:Bool}{q:Rat}(h:u=false):(1-q*q)*(1+q*q)⁻¹=ql u q:=by rw [ql,h];rfl
theorem afu{u:Bool}{q:Rat}(h:u=true):0=nX u q:=by rw [nX,if_pos h]
theorem afs{u:Bool}{q:Rat}(h:u=false):(q+q)*(1+q*q)⁻¹=nX u q:=by rw [nX,h];rfl
end Lw
namespace Go.Proofs.BGQ
open Go Go.RowKit Lw bI
section
variable {W0 w:World} {U:List Box} {Ps:List (World->Prop)}
set_option maxRecDepth 100000 in
set_option maxHeartbeats 400000 in
theorem Ji(HT:Tz W0)(HB:Tab W0)(HS:St W0 U Ps w)   : bC Tryz.prog 62 [] w (jk W0 U Ps (1) (6)):=by
 refine cZ Tryz.func62 rfl Tryz.ntmps62 rfl<|Js<|JL.alloc (vs:=[.bool false,.slice none 0 0,.slice none 0 0]) HS rfl amN rfl rfl (fun g21 dO HS => ?_);refine Jn<|Js<|JL.call rfl rfl Tryz.call58 (Q8 HT HB HS  af af)<|?_;rintro v22 dQ ⟨iE,gW,n22,gY,gX,m22,d22,rfl,HS⟩;refine JL.store HS rfl rfl (i:=0) rfl amI rfl rfl rfl (vs':=[.bool iE,.slice gW n22 gY,.slice gX m22 d22]) rfl rfl (fun fB HS => ?_);refine Jn<|Ja Tryz.results62 (.agg rfl amL amI (HS.box _ ak) rfl rfl)<|?_;exact ⟨_,_,_,_,_,_,_,rfl,HS.oh 1 1 0 rfl (fun _ h=>h.as (show ((1:Int):Rat)=1 from rfl) af)⟩
set_option maxRecDepth 100000 in
set_option maxHeartbeats 400000 in
theorem Rq(HT:Tz W0)(HB:Tab W0){s1:Bool}{A1:Option Addr}{n1 c1:Nat}{B1:Option Addr}{m1 d1:Nat}{q1:Rat}{k1:Nat}{b1:Bool}{s2:Bool}{A2:Option Addr}{n2 c2:Nat}{B2:Option Addr}{m2 d2:Nat}{q2:Rat}{k2:Nat}{b2:Bool}(HS:St W0 U Ps w)(f1:FV (.agg #[.bool s1,.slice A1 n1 c1,.slice B1 m1 d1]) q1 k1 b1 w)(f2:FV (.agg #[.bool s2,.slice A2 n2 c2,.slice B2 m2 d2]) q2 k2 b2 w)(hk:k1+k2<=900)(hr:q2≠0):bC Tryz.prog 60 [.agg #[.bool s1,.slice A1 n1 c1,.slice B1 m1 d1],.agg #[.bool s2,.slice A2 n2 c2,.slice B2 m2 d2]] w (jk W0 U Ps (q1*q2⁻¹) (2*k1+2*k2+12)):=by
 have HS:=HS.add (FV.stable _ _ _ _) f1;have HS:=HS.add (FV.stable _ _ _ _) f2;clear f1 f2;refine cZ Tryz.func60 rfl Tryz.ntmps60 rfl<|Js<|JL.box (vs:=[.bool s1,.slice A1 n1 c1,.slice B1 m1 d1]) HS rfl rfl rfl rfl (fun g21 dO HS => ?_);refine JL.box (vs:=[.bool s2,.slice A2 n2 c2,.slice B2 m2 d2]) HS rfl rfl rfl rfl (fun g22 dQ HS => ?_);refine JL.alloc (vs:=[.bool false,.slice none 0 0,.slice none 0 0]) HS rfl amN rfl rfl (fun g23 fB HS => ?_);refine Jn<|Js<|JL.load (.agg #[.bool s1,.slice A1 n1 c1,.slice B1 m1 d1]) HS 2 rfl rfl rfl amL amI rfl rfl<|JL.load (.agg #[.bool s2,.slice A2 n2 c2,.slice B2 m2 d2]) HS 1 rfl rfl rfl amL amI rfl rfl<|JL.call rfl rfl Tryz.call106 (adM HT HB HS (HS.at_ 1 rfl) (HS.at_ 0 rfl) af hr)<|?_;rintro v24 fO ⟨s24,rM,n24,c24,rQ,m24,d24,rfl,HS⟩;refine Lm rfl<|Lx rfl rfl<|Lx rfl rfl<|JL.alloc (vs:=[.bool false,.slice none 0 0,.slice none 0 0]) HS rfl amN rfl rfl (fun Gv fU HS => ?_);refine JL.store HS rfl rfl (i:=0) rfl amI rfl rfl rfl (vs':=[.bool s24,.slice rM n24 c24,.slice rQ m24 d24]) rfl rfl (fun jX HS => ?_);refine La rfl<|Jn<|Js<|JL.load (.agg #[.bool s24,.slice rM n24 c24,.slice rQ m24 d24]) HS 0 rfl rfl rfl amL amI rfl rfl<|JL.store HS rfl rfl (i:=1) rfl amI rfl rfl rfl (vs':=[.bool s24,.slice rM n24 c24,.slice rQ m24 d24]) rfl rfl (fun qp HS => ?_);refine Jn<|Ja Tryz.results60 (.agg rfl amL amI (HS.box _ au) rfl rfl)<|?_;exact ⟨_,_,_,_,_,_,_,rfl,HS.oh 4 3 0 rfl (fun _ h=>h.as rfl af)⟩
set_option maxRecDepth 100000 in
set_option maxHeartbeats 400000 in
theorem ad9(HT:Tz W0)(HB:Tab W0){s1:Bool}{A1:Option Addr}{n1 c1:Nat}{B1:Option Addr}{m1 d1:Nat}{q1:Rat}{k1:Nat}{b1:Bool}{u1:Bool}(HS:St W0 U Ps w)(f1:FV (.agg #[.bool s1,.slice A1 n1 c1,.slice B1 m1 d1]) q1 k1 b1 w)(hk:k1<=60):bC Tryz.prog 21 [.agg #[.bool s1,.slice A1 n1 c1,.slice B1 m1 d1,.bool u1]] w (jk W0 U Ps (ql u1 q1) (16*k1+120)):=by
 have HS:=HS.add (FV.stable _ _ _ _) f1;clear f1;refine cZ Tryz.func21 rfl Tryz.ntmps21 rfl<|Js<|JL.box (vs:=[.bool s1,.slice A1 n1 c1,.slice B1 m1 d1,.bool u1]) HS rfl rfl rfl rfl (fun g21 dO HS => ?_);refine JL.alloc (vs:=[.bool false,.slice none 0 0,.slice none 0 0]) HS rfl amN rfl rfl (fun g22 dQ HS => ?_);refine Jn<|JC.seq<|Js<|eH 3 rfl amR rfl amY<|JL.fJ (.bool u1) HS 1 rfl rfl rfl amX rfl<|Jn<|?_
 cases u1
 ·skip
  refine JC.bH rfl<|Jk<|Js<|eH 0 rfl amR rfl amI<|JL.load (.agg #[.bool s1,.slice A1 n1 c1,.slice B1 m1 d1]) HS 1 rfl rfl rfl amL amI rfl rfl<|eH 0 rfl amR rfl amI<|JL.load (.agg #[.bool s1,.slice A1 n1 c1,.slice B1 m1 d1]) HS 1 rfl rfl rfl amL amI rfl rfl<|JL.call rfl rfl Tryz.call59 (Q5 HT HB HS (HS.at_ 0 rfl) (HS.at_ 0 rfl) af)<|?_;rintro v24 fO ⟨s24,rM,n24,c24,rQ,m24,d24,rfl,HS⟩;refine JL.alloc (vs:=[.bool false,.slice none 0 0,.slice none 0 0]) HS rfl amN rfl rfl (fun Gv fU HS => ?_);refine JL.store HS rfl rfl (i:=0) rfl amI rfl rfl rfl (vs':=[.bool s24,.slice rM n24 c24,.slice rQ m24 d24]) rfl rfl (fun jX HS => ?_);refine Jn<|JC.seq<|JC.draw HS [7] ah (fun qp HS => ?_);refine Da (.agg #[.bool s24,.slice rM n24 c24,.slice rQ m24 d24]) 1 0 rfl HS.b0 rfl rfl amL amI<|Da (.agg #[.bool s24,.slice rM n24 c24,.slice rQ m24 d24]) 4 0 rfl HS.b0 rfl rfl amL amI<|bU 0 rfl rfl rfl Tryz.call62 (Ji HT HB HS  )<|?_;rintro ak6 al1 ⟨aks,ahh,ajE,ah4,ahB,aje,ain,rfl,HS⟩;refine ⟨HS.b0,?_⟩;refine bU 2 rfl rfl rfl Tryz.call61 (adY HT HB HS (HS.at_ 0 rfl) (HS.at_ 1 rfl) af)<|?_;rintro age agA ⟨aey,Uz,abw,Xb,ahC,ajf,aio,rfl,HS⟩;refine ⟨HS.b0,?_⟩;refine bU 3 rfl rfl rfl Tryz.call62 (Ji HT HB HS  )<|?_;rintro ak8 al3 ⟨aku,ahj,ajG,ah6,ahD,ajg,aip,rfl,HS⟩;refine ⟨HS.b0,?_⟩;refine bU 5 rfl rfl rfl Tryz.call63 (Jd HT HB HS (HS.at_ 0 rfl) (HS.at_ 3 rfl) af)<|?_;rintro ak9 al4 ⟨akv,ahk,ajH,ah7,ahE,ajh,aiq,rfl,HS⟩;refine ⟨HS.b0,?_⟩;refine bU 6 rfl rfl rfl Tryz.call60 (Rq HT HB HS (HS.at_ 2 rfl) (HS.at_ 0 rfl) af (Ea _))<|?_;rintro ak' al5 ⟨aez,UA,abx,Xc,UJ,aa2,XF,rfl,HS⟩;refine ⟨HS.b0,?_⟩;refine gm 7 [.bool aez,.slice UA abx Xc,.slice UJ aa2 XF] HS 1 rfl rfl rfl rfl amI (fun _ HS=>⟨(fM (s:=7) rfl rfl),?_⟩);refine JR.next ah (fun _ _ h=>h)<|Ja Tryz.results21 (.agg rfl amL amI (HS.box _ au) rfl rfl)<|?_;exact ⟨_,_,_,_,_,_,_,rfl,HS.oh 3 7 0 rfl (fun _ h=>h.as (afb rfl) af)⟩
 ·skip
  refine JC.bP rfl<|Js<|JL.call rfl rfl Tryz.call58 (Q8 HT HB HS  ai ai)<|?_;rintro v29 qw ⟨Jt,EF,n29,c29,EK,m29,d29,rfl,HS⟩;refine JL.store HS rfl rfl (i:=0) rfl amI rfl rfl rfl (vs':=[.bool Jt,.slice EF n29 c29,.slice EK m29 d29]) rfl rfl (fun uy HS => ?_);refine Jn<|Ja Tryz.results21 (.agg rfl amL amI (HS.box _ ak) rfl rfl)<|?_;exact ⟨_,_,_,_,_,_,_,rfl,HS.oh 2 2 0 rfl (fun _ h=>h.as (show ((-1:Int):Rat)=ql true q1 from rfl) af)⟩
set_option maxRecDepth 100000 in
set_option maxHeartbeats 400000 in
theorem aef(HT:Tz W0)(HB:Tab W0){s1:Bool}{A1:Option Addr}{n1 c1:Nat}{B1:Option Addr}{m1 d1:Nat}{q1:Rat}{k1:Nat}{b1:Bool}{u1:Bool}(HS:St W0 U Ps w)(f1:FV (.agg #[.bool s1,.slice A1 n1 c1,.slice B1 m1 d1]) q1 k1 b1 w)(hk:k1<=60):bC Tryz.prog 22 [.agg #[.bool s1,.slice A1 n1 c1,.slice B1 m1 d1,.bool u1]] w (jk W0 U Ps (nX u1 q1) (16*k1+120)):=by
 have HS:=HS.add (FV.stable _ _ _ _) f1;clear f1;refine cZ Tryz.func22 rfl Tryz.ntmps22 rfl<|Js<|JL.box (vs:=[.bool s1,.slice A1 n1 c1,.slice B1 m1 d1,.bool u1]) HS rfl rfl rfl rfl (fun g21 dO HS => ?_);refine JL.alloc (vs:=[.bool false,.slice none 0 0,.slice none 0 0]) HS rfl amN rfl rfl (fun g22 dQ HS => ?_);refine Jn<|JC.seq<|Js<|eH 3 rfl amR rfl amY<|JL.fJ (.bool u1) HS 1 rfl rfl rfl amX rfl<|Jn<|?_
 cases u1
 ·skip
  refine JC.bH rfl<|Jk<|JC.seq<|JC.draw HS [13] ah (fun fO HS => ?_);refine iJ 0 0 rfl HS.b0 rfl amR rfl amI<|Da (.agg #[.bool s1,.slice A1 n1 c1,.slice B1 m1 d1]) 1 1 rfl HS.b0 rfl rfl amL amI<|iJ 0 2 rfl HS.b0 rfl amR rfl amI<|Da (.agg #[.bool s1,.slice A1 n1 c1,.slice B1 m1 d1]) 3 1 rfl HS.b0 rfl rfl amL amI<|iJ 0 6 rfl HS.b0 rfl amR rfl amI<|Da (.agg #[.bool s1,.slice A1 n1 c1,.slice B1 m1 d1]) 7 1 rfl HS.b0 rfl rfl amL amI<|iJ 0 8 rfl HS.b0 rfl amR rfl amI<|Da (.agg #[.bool s1,.slice A1 n1 c1,.slice B1 m1 d1]) 9 1 rfl HS.b0 rfl rfl amL amI<|bU 4 rfl rfl rfl Tryz.call63 (Jd HT HB HS (HS.at_ 0 rfl) (HS.at_ 0 rfl) af)<|?_;rintro TP TW ⟨aet,Ut,abq,WX,ahy,ajb,aik,rfl,HS⟩;refine ⟨HS.b0,?_⟩;refine bU 5 rfl rfl rfl Tryz.call62 (Ji HT HB HS  )<|?_;rintro agc agy ⟨RU,J9,P8,LZ,KC,PS,ML,rfl,HS⟩;refine ⟨HS.b0,?_⟩;refine bU 10 rfl rfl rfl Tryz.call59 (Q5 HT HB HS (HS.at_ 2 rfl) (HS.at_ 2 rfl) af)<|?_;rintro agd agz ⟨Jq,EE,IA,F9,ahz,ajc,ail,rfl,HS⟩;refine ⟨HS.b0,?_⟩;refine bU 11 rfl rfl rfl Tryz.call63 (Jd HT HB HS (HS.at_ 1 rfl) (HS.at_ 0 rfl) af)<|?_;rintro akZ alS ⟨akp,ahe,ajB,ah1,ahA,ajd,aim,rfl,HS⟩;refine ⟨HS.b0,?_⟩;refine bU 12 rfl rfl rfl Tryz.call60 (Rq HT HB HS (HS.at_ 3 rfl) (HS.at_ 0 rfl) af (Ea _))<|?_;rintro ak0 alU ⟨aeu,Uu,abr,WY,UI,aa1,XE,rfl,HS⟩;refine ⟨HS.b0,?_⟩;refine gm 13 [.bool aeu,.slice Uu abr WY,.slice UI aa1 XE] HS 0 rfl rfl rfl rfl amI (fun _ HS=>⟨(fM (s:=13) rfl rfl),?_⟩);refine JR.next ah (fun _ _ h=>h)<|Ja Tryz.results22 (.agg rfl amL amI (HS.box _ ak) rfl rfl)<|?_;exact ⟨_,_,_,_,_,_,_,rfl,HS.oh 2 6 0 rfl (fun _ h=>h.as (afs rfl) af)⟩
 ·skip
  refine JC.bP rfl<|Js<|Lz (.agg #[.bool false,.slice none 0 0,.slice none 0 0]) (fun a ha=>bI.run_build (ha.bW rfl) amU amN dW rfl)<|JL.store HS rfl rfl (i:=0) rfl amI rfl rfl rfl (vs':=[.bool false,.slice none 0 0,.slice none 0 0]) rfl rfl (fun jX HS => ?_);refine Jn<|Ja Tryz.results22 (.agg rfl amL amI (HS.box _ ak) rfl rfl)<|?_;exact ⟨_,_,_,_,_,_,_,rfl,(HS.add (FV.stable _ _ _ _) ((FV.zero 0 _).as (afu rfl) af)).gy 2 1 rfl rfl⟩
set_option maxRecDepth 100000 in
set_option maxHeartbeats 400000 in
theorem aeb(HT:Tz W0)(HB:Tab W0){s1:Bool}{A1:Option Addr}{n1 c1:Nat}{B1:Option Addr}{m1 d1:Nat}{q1:Rat}{k1:Nat}{b1:Bool}{u1:Bool}(HS:St W0 U Ps w)(f1:FV (.agg #[.bool s1,.slice A1 n1 c1,.slice B1 m1 d1]) q1 k1 b1 w)(hk:k1<=800):bC Tryz.prog 24 [.agg #[.bool s1,.slice A1 n1 c1,.slice B1 m1 d1,.bool u1]] w (Bj W0 U Ps (-q1) (u1) (k1+1)):=by
 have HS:=HS.add (FV.stable _ _ _ _) f1;clear f1;refine cZ Tryz.func24 rfl Tryz.ntmps24 rfl<|Js<|JL.box (vs:=[.bool s1,.slice A1 n1 c1,.slice B1 m1 d1,.bool u1]) HS rfl rfl rfl rfl (fun g21 dO HS => ?_);refine JL.alloc (vs:=[.bool false,.slice none 0 0,.slice none 0 0,.bool false]) HS rfl amS rfl rfl (fun g22 dQ HS => ?_);refine Jn<|JC.seq<|JC.draw HS [6] ah (fun fB HS => ?_);refine iJ 0 0 rfl HS.b0 rfl amR rfl amI<|Da (.agg #[.bool s1,.slice A1 n1 c1,.slice B1 m1 d1]) 1 1 rfl HS.b0 rfl rfl amL amI<|iJ 3 3 rfl HS.b0 rfl amR rfl amY<|Do (.bool u1) 4 1 rfl HS.b0 rfl rfl amX<|bU 2 rfl rfl rfl Tryz.call64 (adS HT HB HS (HS.at_ 0 rfl) af)<|?_;rintro agb agx ⟨AB,yg,Ad,yP,yt,zW,yS,rfl,HS⟩;refine ⟨HS.b0,?_⟩;refine Dv (.agg #[.bool AB,.slice yg Ad yP,.slice yt zW yS,.bool u1]) 5 rfl HS.b0 (fun a ha w=>bI.run_build (ha.bW rfl) amR amS jT rfl)<|gm 6 [.bool AB,.slice yg Ad yP,.slice yt zW yS,.bool u1] HS 0 rfl rfl rfl rfl amK (fun _ HS=>⟨(fM (s:=6) rfl rfl),?_⟩);refine JR.next ah (fun _ _ h=>h)<|Ja Tryz.results24 (.agg rfl amO amK (HS.box _ ak) rfl rfl)<|?_;exact ⟨_,_,_,_,_,_,_,rfl,HS.oh 2 2 0 rfl (fun _ h=>h.as rfl af)⟩
end
section
variable {W0 w:World} {U:List Box} {Ps:List (World->Prop)}
set_option maxRecDepth 100000 in
set_option maxHeartbeats 400000 in
theorem TJ(HT:Tz W0)(HB:Tab W0){s1:Bool}{A1:Option Addr}{n1 c1:Nat}{B1:Option Addr}{m1 d1:Nat}{q1:Rat}{k1:Nat}{b1:Bool}{u1:Bool}(HS:St W0 U Ps w)(f1:FV (.agg #[.bool s1,.slice A1 n1 c1,.slice B1 m1 d1]) q1 k1 b1 w)(hk:k1<=1000)(hg:¬ ed b1 u1 q1):bC Tryz.prog 19 [.agg #[.bool s1,.slice A1 n1 c1,.slice B1 m1 d1,.bool u1]] w (dm W0 U Ps (.iface 88 (.int .i64 2))):=by
 have HS:=HS.add (FV.stable _ _ _ _) f1;clear f1;refine cZ Tryz.func19 rfl Tryz.ntmps19 rfl<|Js<|JL.box (vs:=[.bool s1,.slice A1 n1 c1,.slice B1 m1 d1,.bool u1]) HS rfl rfl rfl rfl (fun g21 dO HS => ?_);refine La rfl<|Jn<|JC.seq<|Js<|eH 0 rfl amR rfl amI<|JL.load (.agg #[.bool s1,.slice A1 n1 c1,.slice B1 m1 d1]) HS 0 rfl rfl rfl amL amI rfl rfl<|JL.call rfl rfl aos (CB HT HB HS (HS.at_ 0 rfl) af)<|?_;rintro v22 dQ ⟨rfl,HS⟩;refine Lz (.bool (!b1)) (fun a ha=>fF (ha.ev rfl))<|?_
 cases b1
 ·skip
  refine Lm rfl<|Lq<|Lq<|Lq<|gu<|gu<|gu<|gu<|gu<|Lq<|Lt rfl rfl<|Jn<|JC.bP rfl<|Js<|Lz (.iface 88 (.int .i64 2)) (fun a ha=>kC (ha.ev rfl) ah)<|La rfl<|Jn<|Ja Tryz.results19 (.tmp rfl)<|?_;exact ⟨rfl,HS.o0 1 1⟩
 ·skip
  have hz1:=FV.nz (HS.at_ 0 rfl);refine Lm rfl<|bz (.pointer (some ⟨g21,3,none⟩)) (fun a ha=>iG (ha.ev rfl) amR rfl amY rfl rfl)<|bz (.bool u1) (fun a ha=>kD (ha.ev rfl) amX (HS.box _ ak) rfl)<|bZ rfl<|?_
  cases u1
  ·skip
   refine Lq<|Lq<|Lq<|Lq<|Lq<|bz (.bool false) (fun a ha=>qX (ha.ev rfl) (ha.ev rfl))<|Lf rfl rfl<|Jn<|JC.bH rfl<|Jk<|Js<|La rfl<|Jn<|Ja Tryz.results19 (.tmp rfl)<|?_;exact ⟨(absurd (by simp_all [ed]) hg),HS.o0 1 1⟩
  ·skip
   refine bz (.pointer (some ⟨g21,0,none⟩)) (fun a ha=>iG (ha.ev rfl) amR rfl amI rfl rfl)<|bz (.pointer (some ⟨g21,1,none⟩)) (fun a ha=>iG (ha.ev rfl) amU rfl am4 rfl rfl)<|bz (.slice A1 n1 c1) (fun a ha=>kD (ha.ev rfl) am5 (HS.box _ ak) rfl)<|bz (aj n1) (fun a ha=>Aw (ha.ev rfl) ano)<|bz (.bool (decide (¬ n1=0))) (fun a ha=>dH (ha.ev rfl) (ha.ev rfl) (Ud _))<|bz (.bool (decide (¬ n1=0))) (fun a ha=>iQ (ha.ev rfl) (ha.ev rfl))<|Lf rfl rfl<|Jn<|?_
   cases zL:((decide (¬ n1=0)))
   ·skip
    refine JC.bH rfl<|Jk<|Js<|La rfl<|Jn<|Ja Tryz.results19 (.tmp rfl)<|?_;exact ⟨(absurd (by simp_all [ed]) hg),HS.o0 1 1⟩
   ·skip
    refine JC.bP rfl<|Js<|Lz (.iface 88 (.int .i64 2)) (fun a ha=>kC (ha.ev rfl) ah)<|La rfl<|Jn<|Ja Tryz.results19 (.tmp rfl)<|?_;exact ⟨rfl,HS.o0 1 1⟩
set_option maxRecDepth 100000 in
set_option maxHeartbeats 400000 in
theorem Eh(HT:Tz W0)(HB:Tab W0){g:Nat}{u1:Bool}{s1:Bool}{A1:Option Addr}{n1 c1:Nat}{B1:Option Addr}{m1 d1:Nat}{q1:Rat}{k1:Nat}{b1:Bool}(HS:St W0 (⟨g,26,[.bool s1,.slice A1 n1 c1,.slice B1 m1 d1,.bool u1]⟩::U) Ps w)(f1:FV (.agg #[.bool s1,.slice A1 n1 c1,.slice B1 m1 d1]) q1 k1 b1 w)(hk1:k1<=1000)(hg:¬ (ed b1 u1 q1)):bC Tryz.prog 49 [.slice (some ⟨g,0,none⟩) 1 1] w (dm W0 (⟨g,26,[.bool s1,.slice A1 n1 c1,.slice B1 m1 d1,.bool u1]⟩::U) Ps (.iface 88 (.int .i64 2))):=by
 have HS:=HS.add (FV.stable _ _ _ _) f1;clear f1;refine cZ Tryz.func49 rfl Tryz.ntmps49 rfl<|Js<|La rfl<|Jn<|JC.seq<|Js<|Lm rfl<|Ll rfl am0<|Lm rfl<|Jn<|JC.block<|JC.uq 40<|Js<|Lz (.bool true) (fun a ha=>dX (ha.ev rfl) (ha.ev rfl) ai)<|Jn<|JC.seq<|JC.bP rfl<|Jk<|JC.seq<|JC.block<|Js<|Lz (.pointer (some ⟨g,0,none⟩)) (fun a ha=>mD (ha.ev rfl) (ha.ev rfl) am0 amK (j:=0) rfl ai rfl)<|JL.load (.agg #[.bool s1,.slice A1 n1 c1,.slice B1 m1 d1,.bool u1]) HS 0 rfl rfl rfl amO amK rfl rfl<|JL.alloc (vs:=[.bool false,.slice none 0 0,.slice none 0 0,.bool false]) HS rfl amS rfl rfl (fun g21 dO HS => ?_);refine JL.store HS rfl rfl (i:=0) rfl amK rfl rfl rfl (vs':=[.bool s1,.slice A1 n1 c1,.slice B1 m1 d1,.bool u1]) rfl rfl (fun dQ HS => ?_);refine Jn<|Js<|JL.load (.agg #[.bool s1,.slice A1 n1 c1,.slice B1 m1 d1,.bool u1]) HS 0 rfl rfl rfl amO amK rfl rfl<|?_
 by_cases jY:ed b1 u1 q1
 ·skip
  refine JL.call rfl rfl anF (AQ HT HB HS (HS.at_ 0 rfl) af jY)<|?_;rintro v24 fO ⟨rfl,HS⟩;refine La rfl<|Jn<|Js<|Lm rfl<|Lz (.bool false) (fun a ha=>iD (ha.ev rfl) rfl amV)<|Jn<|JC.bH rfl<|JC.mG (fun _ _ h=>h)<|JC.region<|Lz (.int .i64 1) (fun a ha=>fP (ha.ev rfl) (ha.ev rfl) ai)<|Lm rfl<|JL.again 39 (fun _ _ h=>h)<|Js<|Lz (.bool false) (fun a ha=>dX (ha.ev rfl) (ha.ev rfl) ai)<|Jn<|JC.seq<|JC.bH rfl<|JC.exit (fun _ _ h=>h) (fun _ _ h=>h)<|Js<|La rfl<|Jn<|Ja Tryz.results49 (.tmp rfl)<|?_;exact ⟨(absurd jY hg),HS.o0 1 1⟩
 ·skip
  refine JL.call rfl rfl anF (TJ HT HB HS (HS.at_ 0 rfl) af jY)<|?_;rintro v25 fU ⟨rfl,HS⟩;refine La rfl<|Jn<|Js<|Lm rfl<|Lz (.bool true) (fun a ha=>mF (ha.ev rfl) rfl amV)<|Jn<|JC.bP rfl<|Js<|Lm rfl<|La rfl<|Jn<|Ja Tryz.results49 (.tmp rfl)<|?_;exact ⟨rfl,HS.o0 1 1⟩
set_option maxRecDepth 100000 in
set_option maxHeartbeats 400000 in
theorem afL(HT:Tz W0)(HB:Tab W0){s1:Bool}{A1:Option Addr}{n1 c1:Nat}{B1:Option Addr}{m1 d1:Nat}{q1:Rat}{k1:Nat}{b1:Bool}{u1:Bool}(HS:St W0 U Ps w)(f1:FV (.agg #[.bool s1,.slice A1 n1 c1,.slice B1 m1 d1]) q1 k1 b1 w)(hk:k1<=8000):bC Tryz.prog 52 [.agg #[.bool s1,.slice A1 n1 c1,.slice B1 m1 d1,.bool u1]] w (Bj W0 U Ps (-q1) (u1) (k1)):=by
 have HS:=HS.add (FV.stable _ _ _ _) f1;clear f1;refine cZ Tryz.func52 rfl Tryz.ntmps52 rfl<|Js<|JL.box (vs:=[.bool s1,.slice A1 n1 c1,.slice B1 m1 d1,.bool u1]) HS rfl rfl rfl rfl (fun g21 dO HS => ?_);refine JL.alloc (vs:=[.bool false,.slice none 0 0,.slice none 0 0,.bool false]) HS rfl amS rfl rfl (fun g22 dQ HS => ?_);refine Jn<|JC.seq<|JC.draw HS [6] ah (fun fB HS => ?_);refine iJ 0 0 rfl HS.b0 rfl amR rfl amI<|Da (.agg #[.bool s1,.slice A1 n1 c1,.slice B1 m1 d1]) 1 1 rfl HS.b0 rfl rfl amL amI<|iJ 3 3 rfl HS.b0 rfl amR rfl amY<|Do (.bool u1) 4 1 rfl HS.b0 rfl rfl amX<|bU 2 rfl rfl rfl Tryz.call91 (YA HT HB HS (HS.at_ 0 rfl) af)<|?_;rintro agb agx ⟨AB,yg,Ad,yP,yt,zW,yS,rfl,HS⟩;refine ⟨HS.b0,?_⟩;refine Dv (.agg #[.bool AB,.slice yg Ad yP,.slice yt zW yS,.bool u1]) 5 rfl HS.b0 (fun a ha w=>bI.run_build (ha.bW rfl) amR amS jT rfl)<|gm 6 [.bool AB,.slice yg Ad yP,.slice yt zW yS,.bool u1] HS 0 rfl rfl rfl rfl amK (fun _ HS=>⟨(fM (s:=6) rfl rfl),?_⟩);refine JR.next ah (fun _ _ h=>h)<|Ja Tryz.results52 (.agg rfl amO amK (HS.box _ ak) rfl rfl)<|?_;exact ⟨_,_,_,_,_,_,_,rfl,HS.oh 2 2 0 rfl (fun _ h=>h.as rfl af)⟩
set_option maxRecDepth 100000 in
set_option maxHeartbeats 400000 in
theorem afH(HT:Tz W0)(HB:Tab W0){s1:Bool}{A1:Option Addr}{n1 c1:Nat}{B1:Option Addr}{m1 d1:Nat}{q1:Rat}{k1:Nat}{b1:Bool}{u1:Bool}(HS:St W0 U Ps w)(f1:FV (.agg #[.bool s1,.slice A1 n1 c1,.slice B1 m1 d1]) q1 k1 b1 w)(hk1:k1<=200)(hg:¬ (ed b1 u1 q1)):bC Tryz.prog 13 [.agg #[.bool s1,.slice A1 n1 c1,.slice B1 m1 d1,.bool u1]] w (dm W0 U Ps (.tuple #[.agg #[.bool false,.slice none 0 0,.slice none 0 0],.iface 88 (.int .i64 2)])):=by
 have HS:=HS.add (FV.stable _ _ _ _) f1;clear f1;refine cZ Tryz.func13 rfl Tryz.ntmps13 rfl<|Js<|JL.box (vs:=[.bool s1,.slice A1 n1 c1,.slice B1 m1 d1,.bool u1]) HS rfl rfl rfl rfl (fun g21 dO HS => ?_);refine JL.alloc (vs:=[.bool false,.slice none 0 0,.slice none 0 0]) HS rfl amN rfl rfl (fun g22 dQ HS => ?_);refine La rfl<|Jn<|JC.seq<|Js<|JL.load (.agg #[.bool s1,.slice A1 n1 c1,.slice B1 m1 d1,.bool u1]) HS 1 rfl rfl rfl amO amK rfl rfl<|JL.buildSlice (vs:=[.bool s1,.slice A1 n1 c1,.slice B1 m1 d1,.bool u1]) HS rfl (fun a ha=>ha.bW rfl) am0 amK amS rfl rfl ah rfl (fun g23 fB HS => ?_);refine JL.call rfl rfl ani (Eh HT HB HS (HS.at_ 0 rfl) af hg)<|?_;rintro v24 fO ⟨rfl,HS⟩;refine La rfl<|Jn<|Js<|Lm rfl<|Lz (.bool true) (fun a ha=>mF (ha.ev rfl) rfl amV)<|Jn<|JC.bP rfl<|Js<|Lz (.agg #[.bool false,.slice none 0 0,.slice none 0 0]) (fun a ha=>bI.run_build (ha.bW rfl) amU amN dW rfl)<|Lm rfl<|JL.store HS rfl rfl (i:=1) rfl amI rfl rfl rfl (vs':=[.bool false,.slice none 0 0,.slice none 0 0]) rfl rfl (fun fU HS => ?_);refine La rfl<|Jn<|Jb Tryz.results13 (.agg rfl amL amI (HS.box _ au) rfl rfl) (.tmp rfl)<|?_;exact ⟨rfl,HS.o0 3 1⟩
set_option maxRecDepth 100000 in
set_option maxHeartbeats 400000 in
theorem afW(HT:Tz W0)(HB:Tab W0){s1:Bool}{A1:Option Addr}{n1 c1:Nat}{B1:Option Addr}{m1 d1:Nat}{q1:Rat}{k1:Nat}{b1:Bool}{u1:Bool}(HS:St W0 U Ps w)(f1:FV (.agg #[.bool s1,.slice A1 n1 c1,.slice B1 m1 d1]) q1 k1 b1 w)(hk1:k1<=200)(hg:¬ (ed b1 u1 q1)):bC Tryz.prog 14 [.agg #[.bool s1,.slice A1 n1 c1,.slice B1 m1 d1,.bool u1]] w (dm W0 U Ps (.tuple #[.agg #[.bool false,.slice none 0 0,.slice none 0 0],.iface 88 (.int .i64 2)])):=by
 have HS:=HS.add (FV.stable _ _ _ _) f1;clear f1;refine cZ Tryz.func14 rfl Tryz.ntmps14 rfl<|Js<|JL.box (vs:=[.bool s1,.slice A1 n1 c1,.slice B1 m1 d1,.bool u1]) HS rfl rfl rfl rfl (fun g21 dO HS => ?_);refine JL.alloc (vs:=[.bool false,.slice none 0 0,.slice none 0 0]) HS rfl amN rfl rfl (fun g22 dQ HS => ?_);refine La rfl<|Jn<|JC.seq<|Js<|JL.load (.agg #[.bool s1,.slice A1 n1 c1,.slice B1 m1 d1,.bool u1]) HS 1 rfl rfl rfl amO amK rfl rfl<|JL.buildSlice (vs:=[.bool s1,.slice A1 n1 c1,.slice B1 m1 d1,.bool u1]) HS rfl (fun a ha=>ha.bW rfl) am0 amK amS rfl rfl ah rfl (fun g23 fB HS => ?_);refine JL.call rfl rfl ani (Eh HT HB HS (HS.at_ 0 rfl) af hg)<|?_;rintro v24 fO ⟨rfl,HS⟩;refine La rfl<|Jn<|Js<|Lm rfl<|Lz (.bool true) (fun a ha=>mF (ha.ev rfl) rfl amV)<|Jn<|JC.bP rfl<|Js<|Lz (.agg #[.bool false,.slice none 0 0,.slice none 0 0]) (fun a ha=>bI.run_build (ha.bW rfl) amU amN dW rfl)<|Lm rfl<|JL.store HS rfl rfl (i:=1) rfl amI rfl rfl rfl (vs':=[.bool false,.slice none 0 0,.slice none 0 0]) rfl rfl (fun fU HS => ?_);refine La rfl<|Jn<|Jb Tryz.results14 (.agg rfl amL amI (HS.box _ au) rfl rfl) (.tmp rfl)<|?_;exact ⟨rfl,HS.o0 3 1⟩
set_option maxRecDepth 100000 in
set_option maxHeartbeats 400000 in
theorem afD(HT:Tz W0)(HB:Tab W0){s1:Bool}{A1:Option Addr}{n1 c1:Nat}{B1:Option Addr}{m1 d1:Nat}{q1:Rat}{k1:Nat}{b1:Bool}{u1:Bool}(HS:St W0 U Ps w)(f1:FV (.agg #[.bool s1,.slice A1 n1 c1,.slice B1 m1 d1]) q1 k1 b1 w)(hk1:k1<=200)(hg1:ed b1 u1 q1):bC Tryz.prog 15 [.agg #[.bool s1,.slice A1 n1 c1,.slice B1 m1 d1,.bool u1]] w (oD W0 U Ps (-q1) (u1) (k1) (.nilIface)):=by
 have HS:=HS.add (FV.stable _ _ _ _) f1;clear f1;obtain ⟨rfl,t1⟩:=hg1;have hg1:ed true u1 q1:=⟨rfl,t1⟩;refine cZ Tryz.func15 rfl Tryz.ntmps15 rfl<|Js<|JL.box (vs:=[.bool s1,.slice A1 n1 c1,.slice B1 m1 d1,.bool u1]) HS rfl rfl rfl rfl (fun g21 dO HS => ?_);refine JL.alloc (vs:=[.bool false,.slice none 0 0,.slice none 0 0,.bool false]) HS rfl amS rfl rfl (fun g22 dQ HS => ?_);refine La rfl<|Jn<|JC.seq<|Js<|JL.load (.agg #[.bool s1,.slice A1 n1 c1,.slice B1 m1 d1,.bool u1]) HS 1 rfl rfl rfl amO amK rfl rfl<|JL.buildSlice (vs:=[.bool s1,.slice A1 n1 c1,.slice B1 m1 d1,.bool u1]) HS rfl (fun a ha=>ha.bW rfl) am0 amK amS rfl rfl ah rfl (fun g23 fB HS => ?_);refine JL.call rfl rfl ani (Ei HT HB HS (HS.at_ 0 rfl) af hg1)<|?_;rintro v24 fO ⟨rfl,HS⟩;refine La rfl<|Jn<|Js<|Lm rfl<|Lz (.bool false) (fun a ha=>iD (ha.ev rfl) rfl amV)<|Jn<|JC.bH rfl<|Jk<|Js<|JL.load (.agg #[.bool s1,.slice A1 n1 c1,.slice B1 m1 d1,.bool u1]) HS 2 rfl rfl rfl amO amK rfl rfl<|JL.call rfl rfl Tryz.call52 (afL HT HB HS (HS.at_ 0 rfl) af)<|?_;rintro v25 fU ⟨AL,yh,n25,c25,yu,m25,d25,rfl,HS⟩;refine JL.store HS rfl rfl (i:=1) rfl amK rfl rfl rfl (vs':=[.bool AL,.slice yh n25 c25,.slice yu m25 d25,.bool u1]) rfl rfl (fun jX HS => ?_);refine La rfl<|Jn<|Jb Tryz.results15 (.agg rfl amO amK (HS.box _ au) rfl rfl) (.tmp rfl)<|?_;exact ⟨_,_,_,_,_,_,_,rfl,HS.oh 3 2 0 rfl (fun _ h=>h.as rfl af)⟩
set_option maxRecDepth 100000 in
set_option maxHeartbeats 400000 in
theorem afC(HT:Tz W0)(HB:Tab W0){s1:Bool}{A1:Option Addr}{n1 c1:Nat}{B1:Option Addr}{m1 d1:Nat}{q1:Rat}{k1:Nat}{b1:Bool}{u1:Bool}(HS:St W0 U Ps w)(f1:FV (.agg #[.bool s1,.slice A1 n1 c1,.slice B1 m1 d1]) q1 k1 b1 w)(hk1:k1<=200)(hg:¬ (ed b1 u1 q1)):bC Tryz.prog 15 [.agg #[.bool s1,.slice A1 n1 c1,.slice B1 m1 d1,.bool u1]] w (dm W0 U Ps (.tuple #[.agg #[.bool false,.slice none 0 0,.slice none 0 0,.bool false],.iface 88 (.int .i64 2)])):=by
 have HS:=HS.add (FV.stable _ _ _ _) f1;clear f1;refine cZ Tryz.func15 rfl Tryz.ntmps15 rfl<|Js<|JL.box (vs:=[.bool s1,.slice A1 n1 c1,.slice B1 m1 d1,.bool u1]) HS rfl rfl rfl rfl (fun g21 dO HS => ?_);refine JL.alloc (vs:=[.bool false,.slice none 0 0,.slice none 0 0,.bool false]) HS rfl amS rfl rfl (fun g22 dQ HS => ?_);refine La rfl<|Jn<|JC.seq<|Js<|JL.load (.agg #[.bool s1,.slice A1 n1 c1,.slice B1 m1 d1,.bool u1]) HS 1 rfl rfl rfl amO amK rfl rfl<|JL.buildSlice (vs:=[.bool s1,.slice A1 n1 c1,.slice B1 m1 d1,.bool u1]) HS rfl (fun a ha=>ha.bW rfl) am0 amK amS rfl rfl ah rfl (fun g23 fB HS => ?_);refine JL.call rfl rfl ani (Eh HT HB HS (HS.at_ 0 rfl) af hg)<|?_;rintro v24 fO ⟨rfl,HS⟩;refine La rfl<|Jn<|Js<|Lm rfl<|Lz (.bool true) (fun a ha=>mF (ha.ev rfl) rfl amV)<|Jn<|JC.bP rfl<|Js<|Lz (.agg #[.bool false,.slice none 0 0,.slice none 0 0,.bool false]) (fun a ha=>bI.run_build (ha.bW rfl) amR amS jT rfl)<|Lm rfl<|JL.store HS rfl rfl (i:=1) rfl amK rfl rfl rfl (vs':=[.bool false,.slice none 0 0,.slice none 0 0,.bool false]) rfl rfl (fun fU HS => ?_);refine La rfl<|Jn<|Jb Tryz.results15 (.agg rfl amO amK (HS.box _ au) rfl rfl) (.tmp rfl)<|?_;exact ⟨rfl,HS.o0 3 1⟩
set_option maxRecDepth 100000 in
set_option maxHeartbeats 400000 in
theorem afE(HT:Tz W0)(HB:Tab W0){s1:Bool}{A1:Option Addr}{n1 c1:Nat}{B1:Option Addr}{m1 d1:Nat}{q1:Rat}{k1:Nat}{b1:Bool}{u1:Bool}(HS:St W0 U Ps w)(f1:FV (.agg #[.bool s1,.slice A1 n1 c1,.slice B1 m1 d1]) q1 k1 b1 w)(hk1:k1<=1000)(hg:¬ (ed b1 u1 q1)):bC Tryz.prog 16 [.agg #[.bool s1,.slice A1 n1 c1,.slice B1 m1 d1,.bool u1]] w (dm W0 U Ps (.tuple #[.string ⟨([]).toArray⟩,.iface 88 (.int .i64 2)])):=by
 have HS:=HS.add (FV.stable _ _ _ _) f1;clear f1;refine cZ Tryz.func16 rfl Tryz.ntmps16 rfl<|Js<|JL.box (vs:=[.bool s1,.slice A1 n1 c1,.slice B1 m1 d1,.bool u1]) HS rfl rfl rfl rfl (fun g21 dO HS => ?_);refine La rfl<|La rfl<|Jn<|JC.seq<|Js<|JL.load (.agg #[.bool s1,.slice A1 n1 c1,.slice B1 m1 d1,.bool u1]) HS 0 rfl rfl rfl amO amK rfl rfl<|JL.buildSlice (vs:=[.bool s1,.slice A1 n1 c1,.slice B1 m1 d1,.bool u1]) HS rfl (fun a ha=>ha.bW rfl) am0 amK amS rfl rfl ah rfl (fun g22 dQ HS => ?_);refine JL.call rfl rfl ani (Eh HT HB HS (HS.at_ 0 rfl) af hg)<|?_;rintro v23 fB ⟨rfl,HS⟩;refine La rfl<|Jn<|Js<|Lm rfl<|Lz (.bool true) (fun a ha=>mF (ha.ev rfl) rfl amV)<|Jn<|JC.bP rfl<|Js<|Lm rfl<|La rfl<|La rfl<|Jn<|Jb Tryz.results16 (.tmp rfl) (.tmp rfl)<|?_;exact ⟨rfl,HS.o0 2 1⟩
end
section
variable {W0 w:World} {U:List Box} {Ps:List (World->Prop)}
set_option maxRecDepth 100000 in
set_option maxHeartbeats 400000 in
theorem aeg(HT:Tz W0)(HB:Tab W0){s1:Bool}{A1:Option Addr}{n1 c1:Nat}{B1:Option Addr}{m1 d1:Nat}{q1:Rat}{k1:Nat}{b1:Bool}{u1:Bool}(HS:St W0 U Ps w)(f1:FV (.agg #[.bool s1,.slice A1 n1 c1,.slice B1 m1 d1]) q1 k1 b1 w)(hk:k1<=90):bC Tryz.prog 25 [.agg #[.bool s1,.slice A1 n1 c1,.slice B1 m1 d1,.bool u1]] w (dm W0 U Ps (.string ⟨(xQ u1 q1).toArray⟩)):=by
 have HS:=HS.add (FV.stable _ _ _ _) f1;clear f1;refine cZ Tryz.func25 rfl Tryz.ntmps25 rfl<|Js<|JL.box (vs:=[.bool s1,.slice A1 n1 c1,.slice B1 m1 d1,.bool u1]) HS rfl rfl rfl rfl (fun g21 dO HS => ?_);refine La rfl<|Jn<|JC.seq<|Js<|eH 3 rfl amR rfl amY<|JL.fJ (.bool u1) HS 0 rfl rfl rfl amX rfl<|Jn<|?_
 cases u1
 ·skip
  refine JC.bH rfl<|Jk<|Js<|eH 0 rfl amR rfl amI<|JL.load (.agg #[.bool s1,.slice A1 n1 c1,.slice B1 m1 d1]) HS 0 rfl rfl rfl amL amI rfl rfl<|JL.call rfl rfl Tryz.call65 (Je HT HB HS (HS.at_ 0 rfl) af)<|?_;rintro v23 fB ⟨rfl,HS⟩;refine La rfl<|Jn<|Ja Tryz.results25 (.tmp rfl)<|?_;exact ⟨rfl,HS.o0 1 1⟩
 ·skip
  refine JC.bP rfl<|Js<|La rfl<|Jn<|Ja Tryz.results25 (.tmp rfl)<|?_;exact ⟨rfl,HS.o0 1 1⟩
set_option maxRecDepth 100000 in
set_option maxHeartbeats 4000000 in
theorem afV(HT:Tz W0)(HB:Tab W0){s1:Bool}{A1:Option Addr}{n1 c1:Nat}{B1:Option Addr}{m1 d1:Nat}{q1:Rat}{k1:Nat}{b1:Bool}{u1:Bool}(HS:St W0 U Ps w)(f1:FV (.agg #[.bool s1,.slice A1 n1 c1,.slice B1 m1 d1]) q1 k1 b1 w)  : bC Tryz.prog 3 [.agg #[.bool s1,.slice A1 n1 c1,.slice B1 m1 d1,.bool u1]] w (dm W0 U Ps (.bool true)):=by
 have HS:=HS.add (FV.stable _ _ _ _) f1;clear f1;refine cZ aox rfl Tryz.ntmps3 rfl<|Js<|JL.box (vs:=[.bool s1,.slice A1 n1 c1,.slice B1 m1 d1,.bool u1]) HS rfl rfl rfl rfl (fun g21 dO HS => ?_);refine La rfl<|Jn<|JC.seq<|Js<|JL.call rfl rfl an0 (xU HT HB HS  )<|?_;rintro v22 dQ ⟨rfl,HS⟩;refine Lz (.bool false) (fun a ha=>fF (b:=true) (ha.ev rfl))<|Lm rfl<|bz (.pointer (some ⟨g21,0,none⟩)) (fun a ha=>iG (ha.ev rfl) amR rfl amI rfl rfl)<|bz (.agg #[.bool s1,.slice A1 n1 c1,.slice B1 m1 d1]) (fun a ha=>fQ (ha.ev rfl) amL amI (HS.box _ ak) rfl rfl)<|JL.F5 (vs:=[.bool s1,.slice A1 n1 c1,.slice B1 m1 d1]) HS rfl rfl rfl rfl rfl (fun a ha=>ha.bW rfl) aow amI amN rfl rfl ah rfl (fun g23 fB HS => ?_);refine JL.dJ rfl rfl rfl rfl rfl rfl Tryz.call12 (TG HT HB HS)<|?_;rintro v24 fO ⟨rfl,HS⟩;refine bz (.bool (!(decide (n1<=6/\m1<=6)))) (fun a ha=>fF (ha.ev rfl))<|Lf rfl rfl<|Jn<|?_
 cases zL:((decide (n1<=6/\m1<=6)))
 ·skip
  refine JC.bP rfl<|Js<|JL.call rfl rfl an0 (xU HT HB HS  )<|?_;rintro v26 jX ⟨rfl,HS⟩;refine La rfl<|Jn<|Ja Tryz.results3 (.tmp rfl)<|?_;exact ⟨rfl,HS.o0 2 1⟩
 ·skip
  have hfew:=of_decide_eq_true zL;have HS:=HS.iV 0 rfl (fun _ h=>(dA.cut (K:=6) h af af:FV _ _ 6 _ _));refine JC.bH rfl<|Jk<|?_
  by_cases hc27:ed b1 u1 q1
  ·skip
   refine JC.seq<|?_;obtain ⟨rfl,t1⟩:=hc27;refine JC.region<|JL.load (.agg #[.bool s1,.slice A1 n1 c1,.slice B1 m1 d1,.bool u1]) HS 1 rfl rfl rfl amO amK rfl rfl<|JL.call rfl rfl Tryz.call13 (Tt HT HB HS (HS.at_ 0 rfl) af ⟨rfl,t1⟩)<|?_;rintro v28 AZ ⟨uj,rO,n28,c28,rU,m28,d28,rfl,HS⟩;refine Lm rfl<|Lx rfl rfl<|Lx rfl rfl<|JL.alloc (vs:=[.bool false,.slice none 0 0,.slice none 0 0]) HS rfl amN rfl rfl (fun YY qw HS => ?_);refine JL.store HS rfl rfl (i:=0) rfl amI rfl rfl rfl (vs':=[.bool uj,.slice rO n28 c28,.slice rU m28 d28]) rfl rfl (fun uy HS => ?_);refine La rfl<|Jn<|Js<|JL.load (.agg #[.bool s1,.slice A1 n1 c1,.slice B1 m1 d1,.bool u1]) HS 2 rfl rfl rfl amO amK rfl rfl<|JL.call rfl rfl Tryz.call14 (TI HT HB HS (HS.at_ 1 rfl) af ⟨rfl,t1⟩)<|?_;rintro v31 uz ⟨D8,Bi,n31,c31,Bo,m31,d31,rfl,HS⟩;refine Lm rfl<|Lx rfl rfl<|Lx rfl rfl<|JL.alloc (vs:=[.bool false,.slice none 0 0,.slice none 0 0]) HS rfl amN rfl rfl (fun NJ w32 HS => ?_);refine JL.store HS rfl rfl (i:=0) rfl amI rfl rfl rfl (vs':=[.bool D8,.slice Bi n31 c31,.slice Bo m31 d31]) rfl rfl (fun JU HS => ?_);refine La rfl<|Jn<|Js<|JL.load (.agg #[.bool s1,.slice A1 n1 c1,.slice B1 m1 d1,.bool u1]) HS 3 rfl rfl rfl amO amK rfl rfl<|JL.call rfl rfl Tryz.call15 (afD HT HB HS (HS.at_ 2 rfl) af ⟨rfl,t1⟩)<|?_;rintro v34 TY ⟨Su,Kv,n34,c34,KE,m34,d34,rfl,HS⟩;refine Lm rfl<|Lx rfl rfl<|Lx rfl rfl<|JL.alloc (vs:=[.bool false,.slice none 0 0,.slice none 0 0,.bool false]) HS rfl amS rfl rfl (fun g35 w35 HS => ?_);refine JL.store HS rfl rfl (i:=0) rfl amK rfl rfl rfl (vs':=[.bool Su,.slice Kv n34 c34,.slice KE m34 d34,.bool u1]) rfl rfl (fun w36 HS => ?_);refine La rfl<|Jn<|Js<|JL.load (.agg #[.bool s1,.slice A1 n1 c1,.slice B1 m1 d1,.bool u1]) HS 4 rfl rfl rfl amO amK rfl rfl<|JL.call rfl rfl aoy (JJ HT HB HS (HS.at_ 3 rfl) af ⟨rfl,t1⟩)<|?_;rintro v37 w37 ⟨rfl,HS⟩;refine Lm rfl<|Lx rfl rfl<|Lx rfl rfl<|La rfl<|La rfl<|Jn<|Js<|JL.load (.agg #[.bool s1,.slice A1 n1 c1,.slice B1 m1 d1,.bool u1]) HS 4 rfl rfl rfl amO amK rfl rfl<|JL.call rfl rfl aoi (Jg HT HB HS (HS.at_ 3 rfl) af ⟨rfl,t1⟩)<|?_
   rintro v38 w38 ⟨rfl,HS⟩;refine La rfl<|Jn<|JC.seq<|Js<|JL.load (.agg #[.bool s1,.slice A1 n1 c1,.slice B1 m1 d1,.bool u1]) HS 4 rfl rfl rfl amO amK rfl rfl<|JL.call rfl rfl anF (AQ HT HB HS (HS.at_ 3 rfl) af ⟨rfl,t1⟩)<|?_;rintro v39 w39 ⟨rfl,HS⟩;refine JL.call rfl rfl an1 (Ql HS)<|?_;rintro v40 w40 ⟨rfl,HS⟩;refine Lm rfl<|Lz (.bool false) (fun a ha=>fK (ha.ev rfl) (ha.ev rfl) ai)<|Jn<|JC.bH rfl<|Jk<|JC.seq<|Js<|Lm rfl<|Lz (.bool false) (fun a ha=>fK (ha.ev rfl) (ha.ev rfl) ai)<|Jn<|JC.bH rfl<|Jk<|JC.seq<|JC.draw HS [] ah (fun w41 HS => ?_);refine Dm 0 rfl HS.b0 rfl<|Dv (.bool true) 1 rfl HS.b0 (fun a ha w=>pX (ha.ev rfl) rfl amV)<|Dm 2 rfl HS.b0 rfl<|Dg (.nilIface) 3 rfl HS.b0 (fun a ha w=>run_move (ha.ev rfl))<|Dg (.bool true) 4 rfl HS.b0 (fun a ha w=>pX (ha.ev rfl) rfl amV)<|Dv (.bool true) 5 rfl HS.b0 (fun a ha w=>iQ (ha.ev rfl) (ha.ev rfl))<|Dm 6 rfl HS.b0 rfl<|Dg (.nilIface) 7 rfl HS.b0 (fun a ha w=>run_move (ha.ev rfl))<|Dg (.bool true) 8 rfl HS.b0 (fun a ha w=>pX (ha.ev rfl) rfl amV)<|Dv (.bool true) 9 rfl HS.b0 (fun a ha w=>iQ (ha.ev rfl) (ha.ev rfl))<|Dm 10 rfl HS.b0 rfl<|Dg (.nilIface) 11 rfl HS.b0 (fun a ha w=>run_move (ha.ev rfl))<|Dg (.bool true) 12 rfl HS.b0 (fun a ha w=>pX (ha.ev rfl) rfl amV)<|Dv (.bool true) 13 rfl HS.b0 (fun a ha w=>iQ (ha.ev rfl) (ha.ev rfl))<|Dm 14 rfl HS.b0 rfl<|lJ (.agg #[.bool uj,.slice rO n28 c28,.slice rU m28 d28]) 15 2 ah rfl (fun _ _ _ h=>h) rfl rfl rfl rfl rfl HS.b0 rfl rfl amL amI rfl rfl<|lJ (.agg #[.bool s1,.slice A1 n1 c1,.slice B1 m1 d1,.bool u1]) 16 4 ah rfl (fun _ _ _ h=>h) rfl rfl rfl rfl rfl HS.b0 rfl rfl amO amK rfl rfl<|J1 17 ah<|df.dJ rfl rfl rfl rfl rfl rfl rfl Tryz.call21 (ad9 HT HB HS (HS.at_ 3 rfl) af) rfl (fun alq amn Vo => ?_) df.nil;obtain ⟨akE,aht,ajQ,aif,ahH,ajk,ait,rfl,HS⟩:=Vo;refine ⟨HS.b0,?_⟩;refine J1 18 ah<|df.dJ rfl rfl rfl rfl rfl rfl rfl aov (BP HT HB HS (HS.at_ 3 rfl) (HS.at_ 0 rfl) af rfl) rfl (fun alr amo Vp => ?_) df.nil;obtain ⟨rfl,HS⟩:=Vp;refine ⟨HS.b0,?_⟩;refine Dv (.bool true) 19 rfl HS.b0 (fun a ha w=>iQ (ha.ev rfl) (ha.ev rfl))<|Dm 20 rfl HS.b0 rfl<|lJ (.agg #[.bool D8,.slice Bi n31 c31,.slice Bo m31 d31]) 21 1 ah rfl (fun _ _ _ h=>h) rfl rfl rfl rfl rfl HS.b0 rfl rfl amL amI rfl rfl<|lJ (.agg #[.bool s1,.slice A1 n1 c1,.slice B1 m1 d1,.bool u1]) 22 4 ah rfl (fun _ _ _ h=>h) rfl rfl rfl rfl rfl HS.b0 rfl rfl amO amK rfl rfl<|J1 23 ah<|df.dJ rfl rfl rfl rfl rfl rfl rfl Tryz.call22 (aef HT HB HS (HS.at_ 4 rfl) af) rfl (fun als amq Vq => ?_) df.nil
   obtain ⟨akF,ahu,ajR,aih,ahI,ajl,aiu,rfl,HS⟩:=Vq;refine ⟨HS.b0,?_⟩;refine J1 24 ah<|df.dJ rfl rfl rfl rfl rfl rfl rfl aov (BP HT HB HS (HS.at_ 3 rfl) (HS.at_ 0 rfl) af rfl) rfl (fun alu amr Vr => ?_) df.nil;obtain ⟨rfl,HS⟩:=Vr;refine ⟨HS.b0,?_⟩;refine Dv (.bool true) 25 rfl HS.b0 (fun a ha w=>iQ (ha.ev rfl) (ha.ev rfl))<|Dm 26 rfl HS.b0 rfl<|lJ (.agg #[.bool Su,.slice Kv n34 c34,.slice KE m34 d34,.bool u1]) 27 0 ah rfl (fun _ _ _ h=>h) rfl rfl rfl rfl rfl HS.b0 rfl rfl amO amK rfl rfl<|lJ (.agg #[.bool s1,.slice A1 n1 c1,.slice B1 m1 d1,.bool u1]) 28 4 ah rfl (fun _ _ _ h=>h) rfl rfl rfl rfl rfl HS.b0 rfl rfl amO amK rfl rfl<|J1 29 ah<|df.dJ rfl rfl rfl rfl rfl rfl rfl Tryz.call24 (aeb HT HB HS (HS.at_ 5 rfl) af) rfl (fun alv ams Vs => ?_) df.nil;obtain ⟨akG,ahv,ajS,aii,ahJ,ajm,aiv,rfl,HS⟩:=Vs;refine ⟨HS.b0,?_⟩;refine J1 30 ah<|df.dJ rfl rfl rfl rfl rfl rfl rfl Tryz.call23 (Jj HT HB HS (HS.at_ 3 rfl) (HS.at_ 0 rfl) af rfl rfl) rfl (fun alx amu Vt => ?_) df.nil;obtain ⟨rfl,HS⟩:=Vt;refine ⟨HS.b0,?_⟩;refine Dv (.bool true) 31 rfl HS.b0 (fun a ha w=>iQ (ha.ev rfl) (ha.ev rfl))<|Dm 32 rfl HS.b0 rfl<|Dg (.string ⟨(xQ u1 q1).toArray⟩) 33 rfl HS.b0 (fun a ha w=>run_move (ha.ev rfl))<|lJ (.agg #[.bool s1,.slice A1 n1 c1,.slice B1 m1 d1,.bool u1]) 34 4 ah rfl (fun _ _ _ h=>h) rfl rfl rfl rfl rfl HS.b0 rfl rfl amO amK rfl rfl<|J1 35 ah<|df.dJ rfl rfl rfl rfl rfl rfl rfl Tryz.call25 (aeg HT HB HS (HS.at_ 6 rfl) af) rfl (fun aly amv Vu => ?_) df.nil;obtain ⟨rfl,HS⟩:=Vu;refine ⟨HS.b0,?_⟩;refine Dg (.bool true) 36 rfl HS.b0 (fun a ha w=>qY (ha.ev rfl) (ha.ev rfl) (by simp))<|Dv (.bool true) 37 rfl HS.b0 (fun a ha w=>iQ (ha.ev rfl) (ha.ev rfl))<|Ds 38 rfl HS.b0 rfl<|JR.next ah (fun _ _ h=>h)<|Ja Tryz.results3 (.tmp rfl)<|?_;exact ⟨rfl,HS.o0 5 8⟩
  ·skip
   refine Js<|JL.load (.agg #[.bool s1,.slice A1 n1 c1,.slice B1 m1 d1,.bool u1]) HS 1 rfl rfl rfl amO amK rfl rfl<|JL.call rfl rfl Tryz.call13 (afH HT HB HS (HS.at_ 0 rfl) af (fun h=>hc27 h))<|?_;rintro v43 w43 ⟨rfl,HS⟩;refine Lm rfl<|Lx rfl rfl<|Lx rfl rfl<|JL.alloc (vs:=[.bool false,.slice none 0 0,.slice none 0 0]) HS rfl amN rfl rfl (fun g44 w44 HS => ?_);refine JL.store HS rfl rfl (i:=0) rfl amI rfl rfl rfl (vs':=[.bool false,.slice none 0 0,.slice none 0 0]) rfl rfl (fun w45 HS => ?_);refine La rfl<|Jn<|Js<|JL.load (.agg #[.bool s1,.slice A1 n1 c1,.slice B1 m1 d1,.bool u1]) HS 2 rfl rfl rfl amO amK rfl rfl<|JL.call rfl rfl Tryz.call14 (afW HT HB HS (HS.at_ 0 rfl) af (fun h=>hc27 h))<|?_;rintro v46 w46 ⟨rfl,HS⟩;refine Lm rfl<|Lx rfl rfl<|Lx rfl rfl<|JL.alloc (vs:=[.bool false,.slice none 0 0,.slice none 0 0]) HS rfl amN rfl rfl (fun g47 w47 HS => ?_);refine JL.store HS rfl rfl (i:=0) rfl amI rfl rfl rfl (vs':=[.bool false,.slice none 0 0,.slice none 0 0]) rfl rfl (fun w48 HS => ?_);refine La rfl<|Jn<|Js<|JL.load (.agg #[.bool s1,.slice A1 n1 c1,.slice B1 m1 d1,.bool u1]) HS 3 rfl rfl rfl amO amK rfl rfl<|JL.call rfl rfl Tryz.call15 (afC HT HB HS (HS.at_ 0 rfl) af (fun h=>hc27 h))<|?_;rintro v49 w49 ⟨rfl,HS⟩;refine Lm rfl<|Lx rfl rfl<|Lx rfl rfl<|JL.alloc (vs:=[.bool false,.slice none 0 0,.slice none 0 0,.bool false]) HS rfl amS rfl rfl (fun Y0 w50 HS => ?_);refine JL.store HS rfl rfl (i:=0) rfl amK rfl rfl rfl (vs':=[.bool false,.slice none 0 0,.slice none 0 0,.bool false]) rfl rfl (fun w51 HS => ?_);refine La rfl<|Jn<|Js<|JL.load (.agg #[.bool s1,.slice A1 n1 c1,.slice B1 m1 d1,.bool u1]) HS 4 rfl rfl rfl amO amK rfl rfl<|JL.call rfl rfl aoy (afE HT HB HS (HS.at_ 0 rfl) af (fun h=>hc27 h))<|?_;rintro v52 w52 ⟨rfl,HS⟩;refine Lm rfl<|Lx rfl rfl<|Lx rfl rfl<|La rfl<|La rfl<|Jn<|Js<|JL.load (.agg #[.bool s1,.slice A1 n1 c1,.slice B1 m1 d1,.bool u1]) HS 4 rfl rfl rfl amO amK rfl rfl<|JL.call rfl rfl aoi (Ro HT HB HS (HS.at_ 0 rfl) af hc27)<|?_;rintro v53 w53 ⟨rfl,HS⟩
   refine La rfl<|Jn<|JC.seq<|Js<|JL.load (.agg #[.bool s1,.slice A1 n1 c1,.slice B1 m1 d1,.bool u1]) HS 4 rfl rfl rfl amO amK rfl rfl<|JL.call rfl rfl anF (TJ HT HB HS (HS.at_ 0 rfl) af hc27)<|?_;rintro v54 w54 ⟨rfl,HS⟩;refine JL.call rfl rfl an1 (vV HS 2)<|?_;rintro v55 w55 ⟨rfl,HS⟩;refine Lm rfl<|Lz (.bool false) (fun a ha=>fK (ha.ev rfl) (ha.ev rfl) ai)<|Jn<|JC.bH rfl<|Jk<|JC.seq<|Js<|Lm rfl<|Lz (.bool true) (fun a ha=>fK (ha.ev rfl) (ha.ev rfl) ai)<|Jn<|JC.bP rfl<|JC.seq<|Js<|Lm rfl<|Lm rfl<|Lm rfl<|Lm rfl<|JL.buildSlice (vs:=[.iface 88 (.int .i64 2),.iface 88 (.int .i64 2),.iface 88 (.int .i64 2),.iface 88 (.int .i64 2)]) HS rfl (fun a ha=>ha.bW rfl) an2 aoj Tryz.zeroValue30 rfl rfl ah rfl (fun CG w56 HS => ?_);refine Ll rfl an2<|Lm rfl<|Jn<|JC.block<|JC.uq 40<|Js<|Lz (.bool true) (fun a ha=>dX (ha.ev rfl) (ha.ev rfl) ai)<|Jn<|JC.seq<|JC.bP rfl<|Jk<|JC.seq<|JC.block<|Js<|Lz (.pointer (some ⟨CG,0,none⟩)) (fun a ha=>mD (ha.ev rfl) (ha.ev rfl) an2 aoj (j:=0) rfl ai rfl)<|JL.fJ (.iface 88 (.int .i64 2)) HS 0 rfl rfl rfl aoz rfl<|La rfl<|Jn<|Js<|Lm rfl<|JL.call rfl rfl an1 (vV HS 2)<|?_;rintro v57 w57 ⟨rfl,HS⟩;refine Lm rfl<|Lz (.bool false) (fun a ha=>fK (ha.ev rfl) (ha.ev rfl) ai)<|Jn<|JC.bH rfl<|JC.mG (fun _ _ h=>h)<|JC.region<|Lz (.int .i64 1) (fun a ha=>fP (ha.ev rfl) (ha.ev rfl) ai)<|Lm rfl<|JL.again 39 (fun _ _ h=>h)<|Js<|Lz (.bool true) (fun a ha=>dX (ha.ev rfl) (ha.ev rfl) ai)<|Jn<|JC.seq<|JC.bP rfl<|Jk<|JC.seq<|JC.block<|Js<|Lz (.pointer (some ⟨CG,1,none⟩)) (fun a ha=>mD (ha.ev rfl) (ha.ev rfl) an2 aoj (j:=1) rfl ai rfl)<|JL.fJ (.iface 88 (.int .i64 2)) HS 0 rfl rfl rfl aoz rfl<|La rfl<|Jn<|Js<|Lm rfl<|JL.call rfl rfl an1 (vV HS 2)<|?_;rintro v58 w58 ⟨rfl,HS⟩;refine Lm rfl<|Lz (.bool false) (fun a ha=>fK (ha.ev rfl) (ha.ev rfl) ai)<|Jn<|JC.bH rfl<|JC.mG (fun _ _ h=>h)<|JC.region<|Lz (.int .i64 2) (fun a ha=>fP (ha.ev rfl) (ha.ev rfl) ai)<|Lm rfl<|JL.again 38 (fun _ _ h=>h)<|Js<|Lz (.bool true) (fun a ha=>dX (ha.ev rfl) (ha.ev rfl) ai)<|Jn<|JC.seq<|JC.bP rfl<|Jk<|JC.seq<|JC.block<|Js<|Lz (.pointer (some ⟨CG,2,none⟩)) (fun a ha=>mD (ha.ev rfl) (ha.ev rfl) an2 aoj (j:=2) rfl ai rfl)<|JL.fJ (.iface 88 (.int .i64 2)) HS 0 rfl rfl rfl aoz rfl<|La rfl<|Jn<|Js<|Lm rfl<|JL.call rfl rfl an1 (vV HS 2)<|?_
   rintro v59 w59 ⟨rfl,HS⟩;refine Lm rfl<|Lz (.bool false) (fun a ha=>fK (ha.ev rfl) (ha.ev rfl) ai)<|Jn<|JC.bH rfl<|JC.mG (fun _ _ h=>h)<|JC.region<|Lz (.int .i64 3) (fun a ha=>fP (ha.ev rfl) (ha.ev rfl) ai)<|Lm rfl<|JL.again 37 (fun _ _ h=>h)<|Js<|Lz (.bool true) (fun a ha=>dX (ha.ev rfl) (ha.ev rfl) ai)<|Jn<|JC.seq<|JC.bP rfl<|Jk<|JC.seq<|JC.block<|Js<|Lz (.pointer (some ⟨CG,3,none⟩)) (fun a ha=>mD (ha.ev rfl) (ha.ev rfl) an2 aoj (j:=3) rfl ai rfl)<|JL.fJ (.iface 88 (.int .i64 2)) HS 0 rfl rfl rfl aoz rfl<|La rfl<|Jn<|Js<|Lm rfl<|JL.call rfl rfl an1 (vV HS 2)<|?_;rintro v60 w60 ⟨rfl,HS⟩;refine Lm rfl<|Lz (.bool false) (fun a ha=>fK (ha.ev rfl) (ha.ev rfl) ai)<|Jn<|JC.bH rfl<|JC.mG (fun _ _ h=>h)<|JC.region<|Lz (.int .i64 4) (fun a ha=>fP (ha.ev rfl) (ha.ev rfl) ai)<|Lm rfl<|JL.again 36 (fun _ _ h=>h)<|Js<|Lz (.bool false) (fun a ha=>dX (ha.ev rfl) (ha.ev rfl) ai)<|Jn<|JC.seq<|JC.bH rfl<|JC.exit (fun _ _ h=>h) (fun _ _ h=>h)<|Js<|eH 1 rfl amU rfl am4<|JL.fJ (.slice none 0 0) HS 3 rfl rfl rfl am5 rfl<|Ll rfl ano<|eH 1 rfl amU rfl am4<|JL.fJ (.slice none 0 0) HS 2 rfl rfl rfl am5 rfl<|Ll rfl ano<|Lz (.int .i64 0) (fun a ha=>fP (ha.ev rfl) (ha.ev rfl) ai)<|eH 0 rfl amR rfl amI<|eH 1 rfl amU rfl am4<|JL.fJ (.slice none 0 0) HS 1 rfl rfl rfl am5 rfl<|Ll rfl ano<|Lz (.int .i64 0) (fun a ha=>fP (ha.ev rfl) (ha.ev rfl) ai)<|Lz (.bool true) (fun a ha=>eU (ha.ev rfl) (ha.ev rfl) ai)<|Lm rfl<|bz (.pointer (some ⟨Y0,3,none⟩)) (fun a ha=>iG (ha.ev rfl) amR rfl amY rfl rfl)<|bz (.bool false) (fun a ha=>kD (ha.ev rfl) amX (HS.box _ au) rfl)<|bz (.bool true) (fun a ha=>fF (b:=false) (ha.ev rfl))<|Lt rfl rfl<|Lm rfl<|bZ rfl<|bz (.bool true) (fun a ha=>qY (ha.ev rfl) (ha.ev rfl) (by simp))<|Lt rfl rfl<|La rfl<|Jn<|Ja Tryz.results3 (.tmp rfl)<|?_;exact ⟨rfl,HS.o0 6 2⟩
theorem afU  {s1:Bool} {A1:Option Addr} {n1 c1:Nat} {B1:Option Addr} {m1 d1:Nat} {q1:Rat} {k1:Nat} {b1:Bool} {u1:Bool} (W:World) (ht:Tz W) (hb:Tab W) (_hx:Mx W) (f1:dA W ⟨.agg #[.bool s1,.slice A1 n1 c1,.slice B1 m1 d1],q1,k1,b1⟩)  :
  Calls Tryz.prog 3 #[.agg #[.bool s1,.slice A1 n1 c1,.slice B1 m1 d1,.bool u1]] W fun e w'=>e = .returned (.bool true)/\Below W.heap.size W w':=law_true (afV ht hb (St.init W) f1)
end
end Go.Proofs.BGQ
