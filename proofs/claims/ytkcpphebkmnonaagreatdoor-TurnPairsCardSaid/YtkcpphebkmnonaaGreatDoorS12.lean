/- Part of a proof, said shortly. -/
import Derived.Deep.RegionWith
import Derived.Deep.DeepCutAuto
import Derived.Lib.TrailingZeros
import Derived.WalkKit
import Derived.Below
import Derived.Laws.Cells
import Derived.OrdersHeld
import Derived.Test.YtkcpphebkmnonaaGreatDoorAlz
import Derived.Test.YtkcpphebkmnonaaGreatDoorC4
import Derived.Test.YtkcpphebkmnonaaGreatDoorS5
import Derived.Test.YtkcpphebkmnonaaGreatDoorC3
import Derived.Test.YtkcpphebkmnonaaGreatDoorC2
import Derived.Test.YtkcpphebkmnonaaGreatDoorC1
import Derived.Test.YtkcpphebkmnonaaGreatDoorS2
import Derived.Test.YtkcpphebkmnonaaGreatDoorS3
import Derived.Test.YtkcpphebkmnonaaGreatDoorC10
import Derived.Test.YtkcpphebkmnonaaGreatDoorS7
import Derived.Test.YtkcpphebkmnonaaGreatDoorC9
import Derived.Test.YtkcpphebkmnonaaGreatDoorC8
import Derived.Test.YtkcpphebkmnonaaGreatDoorC5
import Derived.Test.YtkcpphebkmnonaaGreatDoorC7
import Derived.Test.YtkcpphebkmnonaaGreatDoorC6
import Derived.Test.YtkcpphebkmnonaaGreatDoorC11
import Derived.Test.YtkcpphebkmnonaaGreatDoorC12
import Derived.Test.YtkcpphebkmnonaaGreatDoorC15
import Derived.Test.YtkcpphebkmnonaaGreatDoorS8
import Derived.Test.YtkcpphebkmnonaaGreatDoorC14
import Derived.Test.YtkcpphebkmnonaaGreatDoorC13
import Derived.Test.YtkcpphebkmnonaaGreatDoorC16
import Derived.Test.YtkcpphebkmnonaaGreatDoorC17
set_option linter.unusedVariables false
set_option linter.unusedSimpArgs false
namespace Lw
open Go Go.RowKit
theorem Env.swap{t:TypeId}{W0 w:World}{b1 b2:Bx}{bs:List Bx}{L:List En}(h:Env t W0 w (b1::b2::bs) L):Env t W0 w (b2::b1::bs) L :=
 ⟨h.ops,fun b hb=>h.box b (by
  rcases List.mem_cons.1 hb with rfl | hb
  ·exact au
  ·rcases List.mem_cons.1 hb with rfl | hb
   ·exact ak
   ·exact .tail _ (.tail _ hb)),h.below⟩
end Lw
namespace Lw
theorem ajx{a:Rat}(h:a≠0):(a⁻¹).num=(if a.num<0 then -(a.den:Int) else a.den)/\(a⁻¹).den=a.num.natAbs:=by
 show (Rat.inv a).num=_/\(Rat.inv a).den=_;unfold Rat.inv;have h0:a.num≠0:=fun e=>h (auP.1 e)
 split
 ·exact ⟨rfl,rfl⟩
 ·split
  ·exact ⟨rfl,rfl⟩
  ·omega
end Lw
namespace Lw
open Go Go.RowKit
theorem agQ{q:Rat}(h:q≠0):rs q⁻¹=rs q/\rn q⁻¹=rd q/\rd q⁻¹=rn q:=by
 obtain ⟨h1,h2⟩:=ajx h;have hz:q.num≠0:=fun e=>h (auP.1 e);have hd:=den_pos q;unfold rs rn rd;rw [h1,h2,if_neg hz]
 by_cases hn:q.num<0
 ·rw [if_pos hn,if_neg af,decide_eq_true hn,decide_eq_true af,Int.natAbs_neg,auy]
  exact ⟨rfl,rfl,rfl⟩
 ·rw [if_neg hn,if_neg af,decide_eq_false hn,decide_eq_false af,auy]
  exact ⟨rfl,rfl,rfl⟩
end Lw
namespace Go.Proofs.BGQ
open Go Go.RowKit Lw
section
variable {W0 w:World} {bs:List Bx} {L:List En} {ts:List Bt} {M:List Qn} {s s':Bool} {A A':Option Addr} {n c n' c' k k':Nat} {q:Rat} {v:Value} {b:Bool}
set_option maxRecDepth 100000 in
set_option maxHeartbeats 1600000 in
theorem agR(HE:bu W0 w bs L ts M)(h:⟨.agg #[.bool s,.slice A n c,.slice A' n' c'],q,k,true⟩∈M)(hq:q≠0) :
  Calls Tryz.prog 168 #[.agg #[.bool s,.slice A n c,.slice A' n' c']] w (dA W0 bs L ts M q⁻¹ k):=by
 have H1:=(HE.here.bY (.bool s) (.slice A n c) (.slice A' n' c')).bY (.bool false) (.slice none 0 0) (.slice none 0 0);have H2:=((HE.here.bY (.bool s) (.slice A n c) (.slice A' n' c')).bY (.bool s) (.slice A' n' c') (.slice A n c)).bare;simp only [World.size_alloc] at H1;obtain ⟨e0,e1,e2,e3,e4,e5⟩:=H1.c3 au;have HQ:=Lib.hid hq;clear hq;refine Calls.mono (R:=dA w [] L [] M q⁻¹ k) ?_ fun _ _ hh=>dA.of HE hh
 go_enter Tryz.func168,Tryz.ntmps168
 go_wp2_with fail
 refine bodyPost_ret (v := .agg #[.bool s,.slice A' n' c',.slice A n c]) (by simp [results,Tryz.results168,go_sem]) rfl ?_;obtain ⟨h1,h2,h3,h4,h5,h6,h7,h8,h9⟩:=(H2.fr _ h).own;obtain ⟨f1,f2,f3⟩:=agQ HQ.out;rw [<- f2] at h5 h3;rw [<- f3] at h4 h2;exact ⟨_,_,_,_,_,_,_,rfl,H2.cons ⟨s,A',n',c',A,n,c,rn q⁻¹,rd q⁻¹,rfl,h5,h4,h3.symm,h2.symm,h7,h6,h9,h8,by rw [h1,<- f1];exact zx _,by rw [h1,<- f1];exact Ae _⟩⟩
end
section
variable {W0 w:World} {bs:List Bx} {L:List En} {ts:List Bt} {M:List Qn} {s s':Bool} {A A' B B':Option Addr} {n c n' c' m d m' d' k k':Nat} {q r:Rat} {x y:Int} {b b':Bool}
set_option maxRecDepth 100000 in
set_option maxHeartbeats 2400000 in
theorem afo(HE:bu W0 w bs L ts M)(h:⟨.agg #[.bool s,.slice A n c,.slice A' n' c'],q,k,b⟩∈M)(hk:k<=100000) :
  Calls Tryz.prog 126 #[.agg #[.bool s,.slice A n c,.slice A' n' c']] w fun e w'=>e = .returned (.int .i64 (iO q))/\bu W0 w' bs L ts M:=by
 refine Calls.mono (R:=fun e w'=>e = .returned (.int .i64 (iO q))/\bu w w' [] L [] M) ?_ fun _ _ hh=>⟨hh.1,HE.back hh.2⟩;replace HE:=HE.here.bY (.bool s) (.slice A n c) (.slice A' n' c');have HS:=Lib.hid (Zp q);obtain ⟨q0,q1,q2,q3,q4,q5⟩:=HE.c3 ak;have HK:=Lib.hid (wW HE h hk)
 by_cases hq:q=0
 ·have HQ:=Lib.hid hq
  clear hq hk
  go_enter Tryz.func126,Tryz.ntmps126
  go_wp2_with fail
  refine HK.out.mono ?_;rintro e w1 ⟨sx,Ax,nx,cx,Ay,ny,cy,rfl,HE⟩;have hn:=((HE.fr _ ak).own).2.1;obtain rfl:=(qC hn).2 HQ.out;clear q0 q1 q2 q3 q4 q5 hn;have HF:=(HE.iG (D:=Ax) (m:=0) (d:=cx) ak sx (.slice Ay ny cy)).bare;have TA:=(HE.fH ak).put (.bool sx) (.slice Ax 0 cx) (.slice Ay ny cy);obtain ⟨q0,q1,q2,q3,q4,q5⟩:=HE.c3 ak;obtain ⟨z0,z1,z2,z3,z4,z5⟩:=TA.cells
  go_wp2_with fail
  go_ret
  exact ⟨dU (by rw [HQ.out,OL]),HF.BN⟩
 ·by_cases hneg:q.num<0
  ·have HQ:=Lib.hid (show iO q = -1 by rw [HS.out,if_pos hneg])
   have HN:=Lib.hid (show q≠0/\rs q=true from ⟨hq,decide_eq_true hneg⟩);clear hq hneg hk
   go_enter Tryz.func126,Tryz.ntmps126
   go_wp2_with fail
   refine HK.out.mono ?_;rintro e w1 ⟨sx,Ax,nx,cx,Ay,ny,cy,rfl,HE⟩;have hn:=(HE.fr _ ak).own;have hn0:((nx:Int)==0)=false:=by rw [beq_eq_false_iff_ne];have:=mt (qC hn.2.1).1 HN.out.1;omega
   obtain rfl:sx=true:=hn.1.trans HN.out.2;clear q0 q1 q2 q3 q4 q5 hn;have HF:=(HE.iG (D:=Ax) (m:=nx) (d:=cx) ak true (.slice Ay ny cy)).bare;have TA:=(HE.fH ak).put (.bool true) (.slice Ax nx cx) (.slice Ay ny cy);obtain ⟨q0,q1,q2,q3,q4,q5⟩:=HE.c3 ak;obtain ⟨z0,z1,z2,z3,z4,z5⟩:=TA.cells
   go_wp2_with fail
   go_ret
   exact ⟨dU HQ.out.symm,HF.BN⟩
  ·have HQ:=Lib.hid (show iO q=1 by rw [HS.out,if_neg hneg,if_neg (fun e=>hq (auP.1 e))])
   have HN:=Lib.hid (show q≠0/\rs q=false from ⟨hq,decide_eq_false hneg⟩);clear hq hneg hk
   go_enter Tryz.func126,Tryz.ntmps126
   go_wp2_with fail
   refine HK.out.mono ?_;rintro e w1 ⟨sx,Ax,nx,cx,Ay,ny,cy,rfl,HE⟩;have hn:=(HE.fr _ ak).own;have hn0:((nx:Int)==0)=false:=by rw [beq_eq_false_iff_ne];have:=mt (qC hn.2.1).1 HN.out.1;omega
   obtain rfl:sx=false:=hn.1.trans HN.out.2;clear q0 q1 q2 q3 q4 q5 hn;have HF:=(HE.iG (D:=Ax) (m:=nx) (d:=cx) ak false (.slice Ay ny cy)).bare;have TA:=(HE.fH ak).put (.bool false) (.slice Ax nx cx) (.slice Ay ny cy);obtain ⟨q0,q1,q2,q3,q4,q5⟩:=HE.c3 ak;obtain ⟨z0,z1,z2,z3,z4,z5⟩:=TA.cells
   go_wp2_with fail
   go_ret
   exact ⟨dU HQ.out.symm,HF.BN⟩
end
section
variable {W0 w:World} {bs:List Bx} {L:List En} {ts:List Bt} {M:List Qn} {s s':Bool} {A A' B B':Option Addr} {n c n' c' m d m' d' k k':Nat} {q r:Rat} {x y:Int} {b b':Bool}
set_option maxRecDepth 100000 in
set_option maxHeartbeats 4000000 in
theorem ae8(HE:bu W0 w bs L ts M)(h:⟨.agg #[.bool s,.slice A n c,.slice A' n' c'],q,k,b⟩∈M)(h':⟨.agg #[.bool s',.slice B m d,.slice B' m' d'],r,k',b'⟩∈M)(hk:k+k'<=8000)(hr:r≠0) :
  Calls Tryz.prog 127 #[.agg #[.bool s,.slice A n c,.slice A' n' c'],.agg #[.bool s',.slice B m d,.slice B' m' d']] w (oQ W0 bs L ts M (q*r⁻¹) (k+k'+2)):=by
 refine Calls.mono (R:=oQ w [] L [] M (q*r⁻¹) (k+k'+2)) ?_ fun _ _ hh=>oQ.of HE hh;have HQ:=Lib.hid hr;clear hr;replace HE:=((HE.here.bY (.bool s) (.slice A n c) (.slice A' n' c')).bY (.bool s') (.slice B m d) (.slice B' m' d')).bY (.bool false) (.slice none 0 0) (.slice none 0 0);simp only [World.size_alloc] at HE;obtain ⟨q0,q1,q2,q3,q4,q5⟩:=HE.c3 ak;obtain ⟨q6,q7,q8,q9,q10,q11⟩:=HE.c3 au;obtain ⟨q12,q13,dO,dP,q16,dQ⟩:=HE.c3 ay
 go_enter Tryz.func127,Tryz.ntmps127
 go_wp2_with fail
 go_region_with
  (first
   | (go_at_call 83;have _:=rJ;refine (wW (by with_reducible first | exact HE | exact HE.drew) (.tail _ h') af).mono ?_;rintro e w2 ⟨sb,Ba,ma,da,Bb,mb,db,rfl,HE⟩;obtain ⟨v0,v1,v2,v3,v4,v5⟩:=HE.c3 ay;obtain ⟨v6,v7,v8,v9,v10,v11⟩:=HE.c3 au)
   | (go_at_call 83;refine (wW (by with_reducible first | exact HE | exact HE.drew) h af).mono ?_;rintro e w1 ⟨sa,Aa,na,ca,Ab,nb,cb,rfl,HE⟩;have rJ:=HE;obtain ⟨u0,u1,u2,u3,u4,u5⟩:=HE.c3 ay;obtain ⟨u6,u7,u8,u9,u10,u11⟩:=HE.c3 au))
 all_goals
  first | clear q0 q1 q2 q3 q4 q5 q6 q7 q8 q9 q10 q11 q12 q13 dO dP q16 dQ u0 u1 u2 u3 u4 u5 u6 u7 u8 u9 u10 u11 v0 v1 v2 v3 v4 v5 v6 v7 v8 v9 v10 v11 rJ | skip
  have HA:=HE.fr _ au;have HB:=HE.fr _ ak;have hn0:((ma:Int)==0)=false:=by rw [beq_eq_false_iff_ne];have:=mt (qC HB.own.2.1).1 HQ.out;omega
  replace HE:=(HE.NG (s':=sa) (D:=Aa) (m:=na) (d:=ca) (v := .slice Ab nb cb) ay [⟨w.heap.size+1+1,.bool false,.slice none 0 0,.slice none 0 0⟩,⟨w.heap.size+1,.bool s',.slice B m d,.slice B' m' d'⟩] (fun b hb=>by simp only [List.mem_cons,List.not_mem_nil,or_false] at hb;rcases hb with rfl | rfl <;> exact ⟨(by repeat (first | exact aZ | assumption | refine .tail _ ?_)),by dsimp only;omega⟩)).NG (s':=sb) (D:=Ba) (m:=ma) (d:=da) (v := .slice Bb mb db) ay [⟨w.heap.size,.bool sa,.slice Aa na ca,.slice Ab nb cb⟩,⟨w.heap.size+1+1,.bool false,.slice none 0 0,.slice none 0 0⟩] (fun b hb=>by simp only [List.mem_cons,List.not_mem_nil,or_false] at hb;rcases hb with rfl | rfl <;> exact ⟨(by repeat (first | exact aZ | assumption | refine .tail _ ?_)),by dsimp only;omega⟩);clear HA HB;generalize (((((((w2.setCell ⟨w.heap.size,0,none⟩ (.bool sa)).setCell ⟨w.heap.size,1,none⟩ (.slice Aa na ca)).setCell ⟨w.heap.size,2,none⟩ (.slice Ab nb cb)).setCell ⟨w.heap.size+1,0,none⟩ (.bool sb)).setCell ⟨w.heap.size+1,1,none⟩ (.slice Ba ma da)).setCell ⟨w.heap.size+1,2,none⟩ (.slice Bb mb db)))=W5 at *;obtain ⟨eu,eF,fM,fO,q22,q23⟩:=HE.c3 ak;obtain ⟨q24,fU,gJ,gK,gX,gY⟩:=HE.c3 au;obtain ⟨q30,gZ,q32,iI,iJ,q35⟩:=HE.c3 ay
  go_wp2_with fail
  have TA:=HE.fH au;have TB:=HE.fH ak
  go_region_held3 (fun w'=>w'.cell? ⟨w.heap.size,0,none⟩=some (.bool sa)/\w'.cell? ⟨w.heap.size,1,none⟩=some (.slice Aa na ca)/\w'.cell? ⟨w.heap.size,2,none⟩=some (.slice Ab nb cb)/\w'.cell? ⟨w.heap.size+1,0,none⟩=some (.bool sb)/\w'.cell? ⟨w.heap.size+1,1,none⟩=some (.slice Ba ma da)/\w'.cell? ⟨w.heap.size+1,2,none⟩=some (.slice Bb mb db)) (with_reducible first | exact bW.cc TA TB | exact bW.cc TA.drew TB.drew | exact bW.cc UA UB)
   (first
    | (go_at_call 168;refine (agR (by with_reducible first | exact HE | exact HE.drew) (by repeat (first | exact aZ | assumption | refine .tail _ ?_)) HQ.out).mono ?_;rintro e wn ⟨sx,Ax,nx,cx,Ay,ny,cy,rfl,HE⟩;have TA:=HE.fH au;have TB:=HE.fH ak)
    | (go_at_call 84;refine (ZJ (by with_reducible first | exact HE | exact HE.drew) (by repeat (first | exact aZ | assumption | refine .tail _ ?_)) (by repeat (first | exact aZ | assumption | refine .tail _ ?_)) af).mono ?_;rintro e wn ⟨sx,Ax,nx,cx,Ay,ny,cy,rfl,HE⟩;have TA:=HE.fH au;have TB:=HE.fH ak;have UA:=TA.wK (g':=w.heap.size+1+1) af (.bool sx) (.slice Ax nx cx) (.slice Ay ny cy);have UB:=TB.wK (g':=w.heap.size+1+1) af (.bool sx) (.slice Ax nx cx) (.slice Ay ny cy);obtain ⟨z0,z1,z2,z3,z4,z5⟩:=HE.c3 ay))
  go_wp2_with fail
  refine bodyPost_ret (v := .tuple #[.agg #[.bool sx,.slice Ax nx cx,.slice Ay ny cy],.nilIface]) (by simp [results,Tryz.results127,go_sem,z0,z1,z2]) rfl ?_;have HK:=(HE.iG (D:=Ax) (m:=nx) (d:=cx) ay sx (.slice Ay ny cy)).bare;exact ⟨_,_,_,_,_,_,_,rfl,HK.pick (fun _ he=>he) (fun _ he=>by rcases List.mem_cons.1 he with rfl | he;exact ak;exact .tail _ (.tail _ (.tail _ (.tail _ he))))⟩
end
end Go.Proofs.BGQ
namespace bG
open Go Go.RowKit
section
variable {W0 w w':World} {U U':List Box} {Ps Ps':List (World->Prop)}
theorem St.perm(h:St W0 U Ps w)(hp:U'.Perm U):St W0 U' Ps w:=h.gone (fun _ hb=>hp.mem_iff.1 hb) ((hp.pairwise_iff (fun h e=>h e.symm)).2 h.nd)
end
end bG
namespace bG
open Go Go.RowKit
section
variable {P:Program} {ops:Array Oper} {Q:Exit->Act->World->Prop} {late:List Nat} {S:World->Prop} {N d i:Nat} {fuel:Nat} {T:List (Nat×Value)} {w:World} {listed:Array Bool} {rest:List Oper} {x y z:Operand} {v:Value} {ty t t':TypeId} {pos:String} {bD:Array Edge} {k:IntKind} {a b n c j:Nat} {A:Option Addr} {id:Nat} {l:List Oper} {m u:Code}
theorem Dx{vs:Array Value}{e:Nat}(i:Nat)(hi:ops[i]? = some ⟨some d,.extract x e,ty,pos,bD,none⟩)(hS:dD late listed->S w)(hx:ev T x=some (.tuple vs))(hv:vs[e]? = some v)(h:JR P ops Q late S fuel (listed.setIfInBounds i true) N ((d,v)::T) w)(hc:rY ops late listed i=true:=by kernel_rfl)(hN:Nat.ble (d+1) N=true:=by rfl)(hq : ∀ c a w,Q (.panic c) (a.put (some d) v) w->Q (.panic c) a w:=by exact fun _ _ _ h=>h):JR P ops Q late S (fuel+1) listed N T w:=Dv v i hi hS (fun _ ha _=>YR (ha.ev hx) hv) h hc hN hq
end
end bG
namespace Go.Proofs.BGQ
open Go Go.RowKit Lw
section
variable {W0 w:World} {bs:List Bx} {L:List En} {ts:List Bt} {M:List Qn} {v v':Value} {q r:Rat} {k k':Nat} {b b':Bool}
theorem afp(HE:bu W0 w bs L ts M)(h:⟨v,q,k,b⟩∈M)(hk:k<=100000) :
  Calls Tryz.prog 126 #[v] w fun e w'=>e = .returned (.int .i64 (iO q))/\bu W0 w' bs L ts M:=by
 obtain ⟨s,A,n,c,A',n',c',e1⟩:=(HE.fr _ h).shape;dsimp only at e1;subst e1;exact afo HE h hk
end
open bG
section
variable {W0 w w':World} {U:List Box} {Ps:List (World->Prop)} {v v':Value} {q r:Rat} {x y:Int} {k k':Nat} {b b':Bool} {f:FuncId} {vs:List Value} {L:List En} {M:List Qn}
theorem afn(HT:Tz W0)(HB:Tab W0)(HS:St W0 U Ps w){s1:Bool}{A1:Option Addr}{n1 c1:Nat}{B1:Option Addr}{m1 d1:Nat}{q1:Rat}{k1:Nat}{b1:Bool}(f1:FV (aup s1 A1 n1 c1 B1 m1 d1) q1 k1 b1 w)(hk:k1<=100000):bF Tryz.prog 126 [(aup s1 A1 n1 c1 B1 m1 d1)] w (dI W0 U Ps (.int .i64 (iO q1))) :=
 uo HS (afp ((St.start HS HT HB).cons f1) ak hk)
theorem ae7(HT:Tz W0)(HB:Tab W0)(HS:St W0 U Ps w){s1:Bool}{A1:Option Addr}{n1 c1:Nat}{B1:Option Addr}{m1 d1:Nat}{q1:Rat}{k1:Nat}{b1:Bool}{s2:Bool}{A2:Option Addr}{n2 c2:Nat}{B2:Option Addr}{m2 d2:Nat}{q2:Rat}{k2:Nat}{b2:Bool}(f1:FV (aup s1 A1 n1 c1 B1 m1 d1) q1 k1 b1 w)(f2:FV (aup s2 A2 n2 c2 B2 m2 d2) q2 k2 b2 w)(hk:k1+k2<=8000)(hr:q2≠0):bF Tryz.prog 127 [(aup s1 A1 n1 c1 B1 m1 d1),(aup s2 A2 n2 c2 B2 m2 d2)] w (mP W0 U Ps (q1*q2⁻¹) (k1+k2+2) (.nilIface)) :=
 Aw HS (ae8 (((St.start HS HT HB).cons f2).cons f1) ak au hk hr)
end
end Go.Proofs.BGQ
namespace Lw
open Go Go.RowKit bG
section
variable {s:Bool} {A B:Option Addr} {n c m d k:Nat} {q:Rat} {w:World}
theorem FV.lens(h:FV (aup s A n c B m d) q k true w):n<=k/\m<=k:=by
 obtain ⟨_,_,_,_,_,h6,h7,_⟩:=bV.own h;exact ⟨h6,h7⟩
theorem ahV{q:Rat}(h:q≠0):q⁻¹.num.natAbs=q.den/\(q⁻¹.num<0↔q.num<0)/\q⁻¹.den=q.num.natAbs/\q.num≠0/\q⁻¹.num≠0:=by
 have h0:q.num≠0:=fun e=>h (auP.1 e);have hd:q.den≠0:=q.den_nz;rw [Rat.num_inv,Rat.den_inv,if_neg h0];rcases Int.lt_trichotomy q.num 0 with hn | hn | hn
 ·rw [Int.sign_eq_neg_one_of_neg hn]
  refine ⟨by simp,?_,rfl,h0,?_⟩ <;> omega
 ·exact absurd hn h0
 ·rw [avU hn]
  refine ⟨by simp,?_,rfl,h0,?_⟩ <;> omega
theorem aki{q:Rat}(h:q≠0):rs q⁻¹=rs q/\rn q⁻¹=rd q/\rd q⁻¹=rn q:=by
 obtain ⟨h1,h2,h3,h4,h5⟩:=ahV h;unfold rs rn rd;rw [h1,h3,if_neg h4,if_neg h5];exact ⟨decide_eq_decide.2 h2,rfl,rfl⟩
theorem FV.inv(h:FV (aup s A n c B m d) q k true w)(hq:q≠0):FV (aup s B m d A n c) q⁻¹ k true w:=by
 obtain ⟨e1,e2,e3⟩:=aki hq;have:=h.lens;exact FV.mk (h.neg.trans e1.symm) (by rw [e2];exact h.den) (by rw [e3];exact h.num) this.2 this.1
end
theorem Zv(q:Rat):decide (iO q > 0)=decide (0<q):=by rw [OM];exact TR q 0
end Lw
namespace Lw
open Go Go.RowKit bG
theorem H7(q r:Rat):(eU q r != 0)=(!(decide (q=r))):=by rw [<- yz];rfl
theorem FV.lesser{u v:Value}{q:Rat}{k K:Nat}{w:World}(h:FV v q K true w)(h2:FV u q k true w):FV v q k true w:=by
 obtain ⟨s,A,n,c,B,m,d,rfl⟩:=h.shape;obtain ⟨s',A',n',c',B',m',d',rfl⟩:=h2.shape;have e1:=bV.own h;have e2:=bV.own h2;exact FV.mk h.neg h.num h.den af af
def vk(u1:Bool)(q1:Rat)(u2:Bool)(q2:Rat):Bool:=if cO u2 q2 u1 (-q1) then cO u1 q1 false 1 else if 0<dL u2 q2 u1 (-q1) then cO u1 q1 false (dL u2 q2 u1 (-q1)*(2:Rat)⁻¹) else cO u1 q1 true 0
def zI(u1:Bool)(q1:Rat)(u2:Bool)(q2:Rat):Rat:=if cO u2 q2 u1 (-q1) then dL u1 q1 false 1 else if 0<dL u2 q2 u1 (-q1) then dL u1 q1 false (dL u2 q2 u1 (-q1)*(2:Rat)⁻¹) else dL u1 q1 true 0
theorem alf{u:Bool}{q:Rat}(h:u=false):(1-q*q)*(1+q*q)⁻¹=fC u q:=by rw [fC,h];rfl
theorem alp{u:Bool}{q:Rat}(h:u=true):0=fZ u q:=by rw [fZ,if_pos h]
theorem alo{u:Bool}{q:Rat}(h:u=false):(q+q)*(1+q*q)⁻¹=fZ u q:=by rw [fZ,h];rfl
end Lw
namespace Go.Proofs.BGQ
open Go Go.RowKit Lw bG
section
variable {W0 w:World} {U:List Box} {Ps:List (World->Prop)}
theorem ah4(w:World):Sem.run Tryz.prog (Array.mapM (fun (f:Go.Field)=>Prod.mk f.offset <$> Go.sizeOf f.type) #[{ name:= "Neg",type:=4,offset:=0,embedded:=false,tag:= "",pkgPath:= "",byteOffset:=0 },{ name:= "Num",type:=22,offset:=1,embedded:=false,tag:= "",pkgPath:= "",byteOffset:=8 },{ name:= "Den",type:=22,offset:=2,embedded:=false,tag:= "",pkgPath:= "",byteOffset:=32 }]) w = .ok #[(0,1),(1,1),(2,1)] w:=ah
set_option maxRecDepth 100000 in
set_option maxHeartbeats 400000 in
theorem akl(HT:Tz W0)(HB:Tab W0){s1:Bool}{A1:Option Addr}{n1 c1:Nat}{B1:Option Addr}{m1 d1:Nat}{q1:Rat}{k1:Nat}{b1:Bool}{u1:Bool}(HS:St W0 U Ps w)(f1:FV (.agg #[.bool s1,.slice A1 n1 c1,.slice B1 m1 d1]) q1 k1 b1 w)(hk:k1<=60):bF Tryz.prog 21 [.agg #[.bool s1,.slice A1 n1 c1,.slice B1 m1 d1,.bool u1]] w (lJ W0 U Ps (fC u1 q1) (16*k1+120)):=by
 have HS:=HS.add (FV.stable _ _ _ _) f1;clear f1;refine df Tryz.func21 rfl Tryz.ntmps21 rfl<|Js<|JL.box (vs:=[.bool s1,.slice A1 n1 c1,.slice B1 m1 d1,.bool u1]) HS rfl rfl rfl rfl (fun g21 di HS => ?_);refine JL.alloc (vs:=[.bool false,.slice none 0 0,.slice none 0 0]) HS rfl as1 rfl rfl (fun g22 dw HS => ?_);refine Jn<|JC.seq<|Js<|dH 3 rfl asV rfl as4<|JL.iH (.bool u1) HS 1 rfl rfl rfl as3 rfl<|Jn<|?_
 cases u1
 ·skip
  refine JC.bJ rfl<|Jk<|Js<|dH 0 rfl asV rfl asR<|JL.load (.agg #[.bool s1,.slice A1 n1 c1,.slice B1 m1 d1]) HS 1 rfl rfl rfl asT asR rfl rfl<|dH 0 rfl asV rfl asR<|JL.load (.agg #[.bool s1,.slice A1 n1 c1,.slice B1 m1 d1]) HS 1 rfl rfl rfl asT asR rfl rfl<|JL.call rfl rfl atz (zy HT HB HS (HS.at_ 0 rfl) (HS.at_ 0 rfl) af)<|?_;rintro v24 dY ⟨s24,oO,n24,c24,oP,m24,d24,rfl,HS⟩;refine JL.alloc (vs:=[.bool false,.slice none 0 0,.slice none 0 0]) HS rfl as1 rfl rfl (fun kM dV HS => ?_);refine JL.store HS rfl rfl (i:=0) rfl asR rfl rfl rfl (vs':=[.bool s24,.slice oO n24 c24,.slice oP m24 d24]) rfl rfl (fun fA HS => ?_);refine Jn<|JC.seq<|JC.draw HS [7] ah (fun lH HS => ?_);refine Da (.agg #[.bool s24,.slice oO n24 c24,.slice oP m24 d24]) 1 0 rfl HS.b0 rfl rfl asT asR<|Da (.agg #[.bool s24,.slice oO n24 c24,.slice oP m24 d24]) 4 0 rfl HS.b0 rfl rfl asT asR<|cZ 0 rfl rfl rfl atI (BC HT HB HS  )<|?_;rintro al8 amj ⟨akz,aaW,ahA,adL,abb,aha,aek,rfl,HS⟩;refine ⟨HS.b0,?_⟩;refine cZ 2 rfl rfl rfl Tryz.call61 (Oy HT HB HS (HS.at_ 0 rfl) (HS.at_ 1 rfl) af)<|?_;rintro aql aro ⟨apT,amN,apb,anC,am8,aoN,anX,rfl,HS⟩;refine ⟨HS.b0,?_⟩;refine cZ 3 rfl rfl rfl atI (BC HT HB HS  )<|?_;rintro al9 amk ⟨akA,aaX,ahB,adM,abd,ahb,ael,rfl,HS⟩;refine ⟨HS.b0,?_⟩;refine cZ 5 rfl rfl rfl atW (Fz HT HB HS (HS.at_ 0 rfl) (HS.at_ 3 rfl) af)<|?_;rintro aqn arq ⟨apU,amO,apc,anE,am9,aoO,anZ,rfl,HS⟩;refine ⟨HS.b0,?_⟩;refine cZ 6 rfl rfl rfl atV (FB HT HB HS (HS.at_ 2 rfl) (HS.at_ 0 rfl) af (FZ _))<|?_;rintro aqo ars ⟨akB,aaY,ahC,adN,abe,ahc,aem,rfl,HS⟩;refine ⟨HS.b0,?_⟩;refine lK 7 [.bool akB,.slice aaY ahC adN,.slice abe ahc aem] HS 1 rfl rfl rfl rfl asR (fun _ HS=>⟨(jU (s:=7) rfl rfl),?_⟩);refine JR.next ah (fun _ _ h=>h)<|Ja Tryz.results21 (.agg rfl asT asR (HS.box _ au) rfl rfl)<|?_;exact ⟨_,_,_,_,_,_,_,rfl,HS.oh 3 7 0 rfl (fun _ h=>h.as (alf rfl) af)⟩
 ·skip
  refine JC.bH rfl<|Js<|JL.call rfl rfl Tryz.call58 (Ox HT HB HS  ai ai)<|?_;rintro v29 jk ⟨FM,BZ,n29,c29,CG,m29,d29,rfl,HS⟩;refine JL.store HS rfl rfl (i:=0) rfl asR rfl rfl rfl (vs':=[.bool FM,.slice BZ n29 c29,.slice CG m29 d29]) rfl rfl (fun lI HS => ?_);refine Jn<|Ja Tryz.results21 (.agg rfl asT asR (HS.box _ ak) rfl rfl)<|?_;exact ⟨_,_,_,_,_,_,_,rfl,HS.oh 2 2 0 rfl (fun _ h=>h.as (show ((-1:Int):Rat)=fC true q1 from rfl) af)⟩
set_option maxRecDepth 100000 in
set_option maxHeartbeats 400000 in
theorem akn(HT:Tz W0)(HB:Tab W0){s1:Bool}{A1:Option Addr}{n1 c1:Nat}{B1:Option Addr}{m1 d1:Nat}{q1:Rat}{k1:Nat}{b1:Bool}{u1:Bool}(HS:St W0 U Ps w)(f1:FV (.agg #[.bool s1,.slice A1 n1 c1,.slice B1 m1 d1]) q1 k1 b1 w)(hk:k1<=60):bF Tryz.prog 22 [.agg #[.bool s1,.slice A1 n1 c1,.slice B1 m1 d1,.bool u1]] w (lJ W0 U Ps (fZ u1 q1) (16*k1+120)):=by
 have HS:=HS.add (FV.stable _ _ _ _) f1;clear f1;refine df Tryz.func22 rfl Tryz.ntmps22 rfl<|Js<|JL.box (vs:=[.bool s1,.slice A1 n1 c1,.slice B1 m1 d1,.bool u1]) HS rfl rfl rfl rfl (fun g21 di HS => ?_);refine JL.alloc (vs:=[.bool false,.slice none 0 0,.slice none 0 0]) HS rfl as1 rfl rfl (fun g22 dw HS => ?_);refine Jn<|JC.seq<|Js<|dH 3 rfl asV rfl as4<|JL.iH (.bool u1) HS 1 rfl rfl rfl as3 rfl<|Jn<|?_
 cases u1
 ·skip
  refine JC.bJ rfl<|Jk<|JC.seq<|JC.draw HS [13] ah (fun dY HS => ?_);refine dZ 0 0 rfl HS.b0 rfl asV rfl asR<|Da (.agg #[.bool s1,.slice A1 n1 c1,.slice B1 m1 d1]) 1 1 rfl HS.b0 rfl rfl asT asR<|dZ 0 2 rfl HS.b0 rfl asV rfl asR<|Da (.agg #[.bool s1,.slice A1 n1 c1,.slice B1 m1 d1]) 3 1 rfl HS.b0 rfl rfl asT asR<|dZ 0 6 rfl HS.b0 rfl asV rfl asR<|Da (.agg #[.bool s1,.slice A1 n1 c1,.slice B1 m1 d1]) 7 1 rfl HS.b0 rfl rfl asT asR<|dZ 0 8 rfl HS.b0 rfl asV rfl asR<|Da (.agg #[.bool s1,.slice A1 n1 c1,.slice B1 m1 d1]) 9 1 rfl HS.b0 rfl rfl asT asR<|cZ 4 rfl rfl rfl atW (Fz HT HB HS (HS.at_ 0 rfl) (HS.at_ 0 rfl) af)<|?_;rintro Z9 aak ⟨aku,aaR,ahv,adF,am1,aoG,anP,rfl,HS⟩;refine ⟨HS.b0,?_⟩;refine cZ 5 rfl rfl rfl atI (BC HT HB HS  )<|?_;rintro aab aal ⟨xB,vF,xg,vZ,vS,wX,wF,rfl,HS⟩;refine ⟨HS.b0,?_⟩;refine cZ 10 rfl rfl rfl atz (zy HT HB HS (HS.at_ 2 rfl) (HS.at_ 2 rfl) af)<|?_;rintro al4 amh ⟨OH,Kq,Ny,Lu,am2,aoH,anQ,rfl,HS⟩;refine ⟨HS.b0,?_⟩;refine cZ 11 rfl rfl rfl atW (Fz HT HB HS (HS.at_ 1 rfl) (HS.at_ 0 rfl) af)<|?_;rintro aqc arc ⟨apM,amH,ao5,anv,am3,aoI,anR,rfl,HS⟩;refine ⟨HS.b0,?_⟩;refine cZ 12 rfl rfl rfl atV (FB HT HB HS (HS.at_ 3 rfl) (HS.at_ 0 rfl) af (FZ _))<|?_;rintro aqd ard ⟨akv,aaS,ahw,adG,aa',ag9,aei,rfl,HS⟩;refine ⟨HS.b0,?_⟩;refine lK 13 [.bool akv,.slice aaS ahw adG,.slice aa' ag9 aei] HS 0 rfl rfl rfl rfl asR (fun _ HS=>⟨(jU (s:=13) rfl rfl),?_⟩);refine JR.next ah (fun _ _ h=>h)<|Ja Tryz.results22 (.agg rfl asT asR (HS.box _ ak) rfl rfl)<|?_;exact ⟨_,_,_,_,_,_,_,rfl,HS.oh 2 6 0 rfl (fun _ h=>h.as (alo rfl) af)⟩
 ·skip
  refine JC.bH rfl<|Js<|Lz (.agg #[.bool false,.slice none 0 0,.slice none 0 0]) (fun a ha=>bG.run_build (ha.dm rfl) as9 as1 ah4 rfl)<|JL.store HS rfl rfl (i:=0) rfl asR rfl rfl rfl (vs':=[.bool false,.slice none 0 0,.slice none 0 0]) rfl rfl (fun fA HS => ?_);refine Jn<|Ja Tryz.results22 (.agg rfl asT asR (HS.box _ ak) rfl rfl)<|?_;exact ⟨_,_,_,_,_,_,_,rfl,(HS.add (FV.stable _ _ _ _) ((FV.zero 0 _).as (alp rfl) af)).Xt 2 1 rfl rfl⟩
set_option maxRecDepth 100000 in
set_option maxHeartbeats 400000 in
theorem akk(HT:Tz W0)(HB:Tab W0){s1:Bool}{A1:Option Addr}{n1 c1:Nat}{B1:Option Addr}{m1 d1:Nat}{q1:Rat}{k1:Nat}{u1:Bool}{s2:Bool}{A2:Option Addr}{n2 c2:Nat}{B2:Option Addr}{m2 d2:Nat}{q2:Rat}{k2:Nat}{u2:Bool}(HS:St W0 U Ps w)(f1:FV (.agg #[.bool s1,.slice A1 n1 c1,.slice B1 m1 d1]) q1 k1 true w)(f2:FV (.agg #[.bool s2,.slice A2 n2 c2,.slice B2 m2 d2]) q2 k2 true w)(hk:k1+k2<=30)(t1:u1=true->q1=0)(t2:u2=true->q2=0):bF Tryz.prog 40 [.agg #[.bool s1,.slice A1 n1 c1,.slice B1 m1 d1,.bool u1],.agg #[.bool s2,.slice A2 n2 c2,.slice B2 m2 d2,.bool u2]] w (tJ W0 U Ps (zI u1 q1 u2 q2) (vk u1 q1 u2 q2) (40*k1+40*k2+1000)):=by
 have HS:=HS.add (FV.stable _ _ _ _) f1;have HS:=HS.add (FV.stable _ _ _ _) f2;clear f1 f2;refine df Tryz.func40 rfl Tryz.ntmps40 rfl<|Js<|JL.box (vs:=[.bool s1,.slice A1 n1 c1,.slice B1 m1 d1,.bool u1]) HS rfl rfl rfl rfl (fun g21 di HS => ?_);refine JL.box (vs:=[.bool s2,.slice A2 n2 c2,.slice B2 m2 d2,.bool u2]) HS rfl rfl rfl rfl (fun g22 dw HS => ?_);refine JL.alloc (vs:=[.bool false,.slice none 0 0,.slice none 0 0,.bool false]) HS rfl asU rfl rfl (fun g23 dR HS => ?_);refine Jn<|JC.wE HS.tg (ι:=Bool×Option Addr×Nat×Nat×Option Addr×Nat×Nat×Bool×Option Addr×Nat×Nat×Option Addr×Nat×Nat×Nat) (fun ⟨qZ,pg,qB,pM,pF,qw,pU,jL,jC,jI,jE,jD,jH,jF,mZ⟩=>[(2,.pointer (some ⟨g21,0,none⟩)),(4,.pointer (some ⟨g23,0,none⟩)),(5,.pointer (some ⟨mZ,0,none⟩))]) (fun ⟨qZ,pg,qB,pM,pF,qw,pU,jL,jC,jI,jE,jD,jH,jF,mZ⟩ w Ua Pa=>St W0 (⟨mZ,26,[.bool jL,.slice jC jI jE,.slice jD jH jF,.bool (cO u2 q2 u1 (-q1))]⟩::Ua) (FV (.agg #[.bool jL,.slice jC jI jE,.slice jD jH jF]) (dL u2 q2 u1 (-q1)) (4*k2+4*(k1+1)+38) true::FV (.agg #[.bool qZ,.slice pg qB pM,.slice pF qw pU]) (-q1) (k1+1) true::Pa) w) ?_ ?_
 ·skip
  refine JC.draw HS [] ah (fun dV HS => ?_);refine Da (.agg #[.bool s2,.slice A2 n2 c2,.slice B2 m2 d2,.bool u2]) 0 1 rfl HS.fb rfl rfl asQ asO<|Da (.agg #[.bool s1,.slice A1 n1 c1,.slice B1 m1 d1,.bool u1]) 1 2 rfl HS.fb rfl rfl asQ asO<|JR.any [2,4] ah rfl<|?_
  repeat' first
   | refine JR.any [3,4] (by decide +kernel) rfl ?_
   | refine J1 4 (by decide +kernel) ?_
   | refine J1 5 (by decide +kernel) ?_
   | refine J1 3 (by decide +kernel) ?_
   | refine J1 2 (by decide +kernel) ?_
   |
    refine bC.is 2<|bC.call rfl rfl rfl Tryz.call24 (OD HT HB HS (HS.at_ 1 rfl) af) rfl (fun Z8 aaj abQ => ?_) ?_;obtain ⟨qZ,pg,qB,pM,pF,qw,pU,rfl,HS⟩:=abQ;refine ⟨HS.fb,?_⟩
   |
    refine bC.is 3<|bC.call rfl rfl rfl aty (zB HT HB HS (HS.at_ 1 rfl) (HS.at_ 0 rfl) af t2 (F6 t1)) rfl (fun Pq PE KI => ?_) ?_;obtain ⟨jL,jC,jI,jE,jD,jH,jF,rfl,HS⟩:=KI;refine ⟨HS.fb,?_⟩
   |
    refine bC.is 4<|bC.alloc (vs:=[.bool false,.slice none 0 0,.slice none 0 0,.bool false]) HS rfl rfl asU rfl rfl rfl (fun mZ PG HS => ?_) ?_;refine ⟨HS.fb,?_⟩
   |
    refine bC.is 5<|bC.store HS rfl rfl rfl 0 rfl asO rfl rfl rfl (vs':=[.bool jL,.slice jC jI jE,.slice jD jH jF,.bool (cO u2 q2 u1 (-q1))]) rfl rfl rfl (fun ame HS => ?_) ?_;have HS:St W0 (_::_) _ _:=HS;refine ⟨HS.fb,?_⟩;exact JR.mt (qZ,pg,qB,pM,pF,qw,pU,jL,jC,jI,jE,jD,jH,jF,mZ) HS
   | exact bC.nil
 ·skip
  rintro ⟨qZ,pg,qB,pM,pF,qw,pU,jL,jC,jI,jE,jD,jH,jF,mZ⟩ amw HS
  try dsimp only at HS ⊢
  refine JC.seq<|JC.block<|Js<|dH 3 rfl asV rfl as4<|JL.iH (.bool (cO u2 q2 u1 (-q1))) HS 0 rfl rfl rfl as3 rfl<|La rfl<|Jn<|?_
  cases IA:(cO u2 q2 u1 (-q1))
  ·skip
   refine JC.bJ rfl<|Js<|dH 0 rfl asV rfl asR<|JL.load (.agg #[.bool jL,.slice jC jI jE,.slice jD jH jF]) HS 0 rfl rfl rfl asT asR rfl rfl<|JL.call rfl rfl atC (BB HT HB HS (HS.at_ 0 rfl) af)<|?_;rintro v27 lH ⟨rfl,HS⟩;refine Lz (.bool (decide (0<(dL u2 q2 u1 (-q1))))) (fun a ha=>kS (ha.ev rfl) (ha.ev rfl) (Zv _))<|La rfl<|Jn<|?_
   cases yM:((decide (0<(dL u2 q2 u1 (-q1)))))
   ·skip
    refine JC.bJ rfl<|JC.dX (fun _ _ h=>h)<|Js<|JL.load (.agg #[.bool s1,.slice A1 n1 c1,.slice B1 m1 d1,.bool u1]) HS 3 rfl rfl rfl asQ asO rfl rfl<|Lz (.agg #[.bool false,.slice none 0 0,.slice none 0 0,.bool true]) (fun a ha=>bG.run_build (ha.dm rfl) asV asU jJ rfl)<|JL.call rfl rfl aty (zB HT HB HS (HS.at_ 3 rfl) (FV.zero 0 _) af t1 (fun _=>rfl))<|?_;rintro v29 jk ⟨FM,BZ,n29,c29,CG,m29,d29,rfl,HS⟩;refine JL.store HS rfl rfl (i:=1) rfl asO rfl rfl rfl (vs':=[.bool FM,.slice BZ n29 c29,.slice CG m29 d29,.bool (cO u1 q1 true 0)]) rfl rfl (fun lI HS => ?_);refine Jn<|Ja Tryz.results40 (.agg rfl asQ asO (HS.box _ au) rfl rfl)<|?_;exact ⟨_,_,_,_,_,_,_,(lY (by simp_all [vk])),HS.oh 4 5 0 rfl (fun _ h=>h.as (by simp_all [zI]) af)⟩
   ·skip
    refine JC.bH rfl<|JC.seq<|JC.draw HS [7] ah (fun oL HS => ?_);refine Da (.agg #[.bool s1,.slice A1 n1 c1,.slice B1 m1 d1,.bool u1]) 0 3 rfl HS.b0 rfl rfl asQ asO<|dZ 0 1 rfl HS.b0 rfl asV rfl asR<|Da (.agg #[.bool jL,.slice jC jI jE,.slice jD jH jF]) 2 0 rfl HS.b0 rfl rfl asT asR<|cZ 3 rfl rfl rfl Tryz.call58 (Ox HT HB HS  ai ai)<|?_;rintro aqt arx ⟨apW,amR,ape,anG,anb,aoQ,an1,rfl,HS⟩;refine ⟨HS.b0,?_⟩;refine cZ 4 rfl rfl rfl atV (FB HT HB HS (HS.at_ 1 rfl) (HS.at_ 0 rfl) af ai)<|?_;rintro aqu ary ⟨akD,aa0,ahE,adP,abf,ahd,aen,rfl,HS⟩;refine ⟨HS.b0,?_⟩;refine Dv (.agg #[.bool akD,.slice aa0 ahE adP,.slice abf ahd aen,.bool false]) 5 rfl HS.b0 (fun a ha w=>bG.run_build (ha.dm rfl) asV asU jJ rfl)<|cZ 6 rfl rfl rfl aty (zB HT HB HS (HS.at_ 5 rfl) (HS.at_ 0 rfl) af t1 (fun h=>nomatch h))<|?_;rintro aqv arz ⟨akE,aa1,ahF,adQ,abg,ahe,aeo,rfl,HS⟩;refine ⟨HS.b0,?_⟩;refine lK 7 [.bool akE,.slice aa1 ahF adQ,.slice abg ahe aeo,.bool (cO u1 q1 false ((dL u2 q2 u1 (-q1))*(2:Rat)⁻¹))] HS 1 rfl rfl rfl rfl asO (fun _ HS=>⟨(jU (s:=7) rfl rfl),?_⟩);refine JR.next ah (fun _ _ h=>h)<|Ja Tryz.results40 (.agg rfl asQ asO (HS.box _ au) rfl rfl)<|?_;exact ⟨_,_,_,_,_,_,_,(lY (by simp_all [vk])),HS.oh 4 7 0 rfl (fun _ h=>h.as (by simp_all [zI]) af)⟩
  ·skip
   refine JC.bH rfl<|JC.seq<|JC.draw HS [4] ah (fun o8 HS => ?_);refine Da (.agg #[.bool s1,.slice A1 n1 c1,.slice B1 m1 d1,.bool u1]) 0 3 rfl HS.b0 rfl rfl asQ asO<|cZ 1 rfl rfl rfl atI (BC HT HB HS  )<|?_;rintro aqw arA ⟨akG,aa3,ahG,adR,abj,ahf,aep,rfl,HS⟩;refine ⟨HS.b0,?_⟩;refine Dv (.agg #[.bool akG,.slice aa3 ahG adR,.slice abj ahf aep,.bool false]) 2 rfl HS.b0 (fun a ha w=>bG.run_build (ha.dm rfl) asV asU jJ rfl)<|cZ 3 rfl rfl rfl aty (zB HT HB HS (HS.at_ 4 rfl) (HS.at_ 0 rfl) af t1 (fun h=>nomatch h))<|?_;rintro aqy arC ⟨akH,aa4,ahH,adS,abk,ahg,aeq,rfl,HS⟩;refine ⟨HS.b0,?_⟩;refine lK 4 [.bool akH,.slice aa4 ahH adS,.slice abk ahg aeq,.bool (cO u1 q1 false 1)] HS 1 rfl rfl rfl rfl asO (fun _ HS=>⟨(jU (s:=4) rfl rfl),?_⟩);refine JR.next ah (fun _ _ h=>h)<|Ja Tryz.results40 (.agg rfl asQ asO (HS.box _ au) rfl rfl)<|?_;exact ⟨_,_,_,_,_,_,_,(lY (by simp_all [vk])),HS.oh 4 6 0 rfl (fun _ h=>h.as (by simp_all [zI]) af)⟩
set_option maxRecDepth 100000 in
set_option maxHeartbeats 400000 in
theorem YN(HT:Tz W0)(HB:Tab W0){s1:Bool}{A1:Option Addr}{n1 c1:Nat}{B1:Option Addr}{m1 d1:Nat}{q1:Rat}{k1:Nat}{b1:Bool}{u1:Bool}{kz:Bool}{jO:Option Addr}{jV jR:Nat}{mQ:Option Addr}{ni mW:Nat}{uT:Rat}{nY:Nat}{Dh:Bool}{kC:Bool}{jP:Option Addr}{jW jS:Nat}{mV:Option Addr}{nC mX:Nat}{uU:Rat}{nZ:Nat}{Di:Bool}(HS:St W0 U Ps w)(f1:FV (.agg #[.bool s1,.slice A1 n1 c1,.slice B1 m1 d1]) q1 k1 b1 w)(pV:FV (.agg #[.bool kz,.slice jO jV jR,.slice mQ ni mW]) uT nY Dh w)(pW:FV (.agg #[.bool kC,.slice jP jW jS,.slice mV nC mX]) uU nZ Di w)(hk:k1<=12/\nY<=12/\nZ<=12):bF Tryz.prog 36 [.agg #[.bool s1,.slice A1 n1 c1,.slice B1 m1 d1,.bool u1],.agg #[.bool kz,.slice jO jV jR,.slice mQ ni mW,.bool kC,.slice jP jW jS,.slice mV nC mX]] w (QL W0 U Ps (fC u1 q1*uT-fZ u1 q1*uU) (fZ u1 q1*uT+fC u1 q1*uU) (655)):=by
 have HS:=HS.add (FV.stable _ _ _ _) f1;have HS:=HS.add (FV.stable _ _ _ _) pV;have HS:=HS.add (FV.stable _ _ _ _) pW;clear f1 pV pW;refine df Tryz.func36 rfl Tryz.ntmps36 rfl<|Js<|JL.box (vs:=[.bool s1,.slice A1 n1 c1,.slice B1 m1 d1,.bool u1]) HS rfl rfl rfl rfl (fun g21 di HS => ?_);refine JL.box (vs:=[.bool kz,.slice jO jV jR,.slice mQ ni mW,.bool kC,.slice jP jW jS,.slice mV nC mX]) HS rfl rfl rfl rfl (fun g22 dw HS => ?_);refine JL.alloc (vs:=[.bool false,.slice none 0 0,.slice none 0 0,.bool false,.slice none 0 0,.slice none 0 0]) HS rfl atg rfl rfl (fun g23 dR HS => ?_);refine Jn<|JC.wE HS.tg (ι:=Bool×Option Addr×Nat×Nat×Option Addr×Nat×Nat×Bool×Option Addr×Nat×Nat×Option Addr×Nat×Nat×Nat×Nat) (fun ⟨qY,o9,qA,pK,pz,qp,pR,jL,jC,jI,jE,jD,jH,jF,mZ,yF⟩=>[(3,.pointer (some ⟨g22,0,none⟩)),(4,.pointer (some ⟨g23,0,none⟩)),(5,.pointer (some ⟨mZ,0,none⟩)),(6,.pointer (some ⟨yF,0,none⟩))]) (fun ⟨qY,o9,qA,pK,pz,qp,pR,jL,jC,jI,jE,jD,jH,jF,mZ,yF⟩ w Ua Pa=>St W0 (⟨yF,24,[.bool jL,.slice jC jI jE,.slice jD jH jF]⟩::⟨mZ,24,[.bool qY,.slice o9 qA pK,.slice pz qp pR]⟩::Ua) (FV (.agg #[.bool jL,.slice jC jI jE,.slice jD jH jF]) (fZ u1 q1) (16*k1+120) true::FV (.agg #[.bool qY,.slice o9 qA pK,.slice pz qp pR]) (fC u1 q1) (16*k1+120) true::Pa) w) ?_ ?_
 ·skip
  refine JC.draw HS [] ah (fun dV HS => ?_);refine Da (.agg #[.bool s1,.slice A1 n1 c1,.slice B1 m1 d1,.bool u1]) 0 2 rfl HS.fb rfl rfl asQ asO<|Da (.agg #[.bool s1,.slice A1 n1 c1,.slice B1 m1 d1,.bool u1]) 2 2 rfl HS.fb rfl rfl asQ asO<|JR.any [1,4,5] ah rfl<|?_
  repeat' first
   | refine JR.any [3,4,5] (by decide +kernel) rfl ?_
   | refine JR.any [4,5] (by decide +kernel) rfl ?_
   | refine J1 5 (by decide +kernel) ?_
   | refine J1 6 (by decide +kernel) ?_
   | refine J1 7 (by decide +kernel) ?_
   | refine J1 4 (by decide +kernel) ?_
   | refine JR.any [3,5] (by decide +kernel) rfl ?_
   | refine J1 3 (by decide +kernel) ?_
   | refine JR.any [3,4] (by decide +kernel) rfl ?_
   | refine JR.any [1,5] (by decide +kernel) rfl ?_
   | refine J1 1 (by decide +kernel) ?_
   | refine JR.any [1,4] (by decide +kernel) rfl ?_
   |
    refine bC.is 1<|bC.call rfl rfl rfl Tryz.call21 (akl HT HB HS (HS.at_ 2 rfl) af) rfl (fun Z7 aai abP => ?_) ?_;obtain ⟨qY,o9,qA,pK,pz,qp,pR,rfl,HS⟩:=abP;refine ⟨HS.fb,?_⟩
   |
    refine bC.is 3<|bC.call rfl rfl rfl Tryz.call22 (akn HT HB HS (HS.at_ 3 rfl) af) rfl (fun Pq PE KI => ?_) ?_;obtain ⟨jL,jC,jI,jE,jD,jH,jF,rfl,HS⟩:=KI;refine ⟨HS.fb,?_⟩
   |
    refine bC.is 4<|bC.alloc (vs:=[.bool false,.slice none 0 0,.slice none 0 0]) HS rfl rfl as1 rfl rfl rfl (fun mZ PG HS => ?_) ?_;refine ⟨HS.fb,?_⟩
   |
    refine bC.is 5<|bC.alloc (vs:=[.bool false,.slice none 0 0,.slice none 0 0]) HS rfl rfl as1 rfl rfl rfl (fun yF ame HS => ?_) ?_;refine ⟨HS.fb,?_⟩
   |
    refine bC.is 6<|bC.store HS rfl rfl rfl 1 rfl asR rfl rfl rfl (vs':=[.bool qY,.slice o9 qA pK,.slice pz qp pR]) rfl rfl rfl (fun amf HS => ?_) ?_;have HS:St W0 (_::_::_) _ _:=HS;refine ⟨HS.fb,?_⟩
   |
    refine bC.is 7<|bC.store HS rfl rfl rfl 0 rfl asR rfl rfl rfl (vs':=[.bool jL,.slice jC jI jE,.slice jD jH jF]) rfl rfl rfl (fun amg HS => ?_) ?_;have HS:St W0 (_::_::_) _ _:=HS;refine ⟨HS.fb,?_⟩;exact JR.mt (qY,o9,qA,pK,pz,qp,pR,jL,jC,jI,jE,jD,jH,jF,mZ,yF) HS
   |
    refine bC.is 6<|bC.store HS rfl rfl rfl 0 rfl asR rfl rfl rfl (vs':=[.bool qY,.slice o9 qA pK,.slice pz qp pR]) rfl rfl rfl (fun amf HS => ?_) ?_;have HS:St W0 (_::_::_) _ _:=HS;refine ⟨HS.fb,?_⟩
   |
    refine bC.is 7<|bC.store HS rfl rfl rfl 1 rfl asR rfl rfl rfl (vs':=[.bool jL,.slice jC jI jE,.slice jD jH jF]) rfl rfl rfl (fun amg HS => ?_) ?_;have HS:St W0 (_::_::_) _ _:=HS;refine ⟨HS.fb,?_⟩;exact JR.mt (qY,o9,qA,pK,pz,qp,pR,jL,jC,jI,jE,jD,jH,jF,mZ,yF) (HS.perm (.swap _ _ _))
   | exact bC.nil
 ·skip
  rintro ⟨qY,o9,qA,pK,pz,qp,pR,jL,jC,jI,jE,jD,jH,jF,mZ,yF⟩ amw HS
  try dsimp only at HS ⊢
  refine JC.seq<|JC.draw HS [19] ah (fun fA HS => ?_);refine Da (.agg #[.bool qY,.slice o9 qA pK,.slice pz qp pR]) 0 1 rfl HS.b0 rfl rfl asT asR<|dZ 0 1 rfl HS.b0 rfl as2 rfl asR<|Da (.agg #[.bool kz,.slice jO jV jR,.slice mQ ni mW]) 2 3 rfl HS.b0 rfl rfl asT asR<|Da (.agg #[.bool jL,.slice jC jI jE,.slice jD jH jF]) 4 0 rfl HS.b0 rfl rfl asT asR<|dZ 3 5 rfl HS.b0 rfl as2 rfl asR<|Da (.agg #[.bool kC,.slice jP jW jS,.slice mV nC mX]) 6 3 rfl HS.b0 rfl rfl asT asR<|Da (.agg #[.bool jL,.slice jC jI jE,.slice jD jH jF]) 9 0 rfl HS.b0 rfl rfl asT asR<|dZ 0 10 rfl HS.b0 rfl as2 rfl asR<|Da (.agg #[.bool kz,.slice jO jV jR,.slice mQ ni mW]) 11 3 rfl HS.b0 rfl rfl asT asR<|Da (.agg #[.bool qY,.slice o9 qA pK,.slice pz qp pR]) 13 1 rfl HS.b0 rfl rfl asT asR<|dZ 3 14 rfl HS.b0 rfl as2 rfl asR<|Da (.agg #[.bool kC,.slice jP jW jS,.slice mV nC mX]) 15 3 rfl HS.b0 rfl rfl asT asR<|cZ 3 rfl rfl rfl atz (zy HT HB HS (HS.at_ 1 rfl) (HS.at_ 3 rfl) af)<|?_;rintro Px PK ⟨oJ,nJ,oq,nO,nM,og,nP,rfl,HS⟩;refine ⟨HS.b0,?_⟩;refine cZ 7 rfl rfl rfl atz (zy HT HB HS (HS.at_ 1 rfl) (HS.at_ 3 rfl) af)<|?_;rintro al6 aan ⟨aky,aaV,ahz,adK,aba,ag',aej,rfl,HS⟩;refine ⟨HS.b0,?_⟩;refine cZ 8 rfl rfl rfl Tryz.call61 (Oy HT HB HS (HS.at_ 1 rfl) (HS.at_ 0 rfl) af)<|?_;rintro al7 aao ⟨Y2,Qj,WZ,SL,QN,Wx,TV,rfl,HS⟩;refine ⟨HS.b0,?_⟩;refine cZ 12 rfl rfl rfl atz (zy HT HB HS (HS.at_ 3 rfl) (HS.at_ 6 rfl) af)<|?_;rintro aqi ark ⟨apR,amL,ao9,anA,am6,aoL,anV,rfl,HS⟩;refine ⟨HS.b0,?_⟩;refine cZ 16 rfl rfl rfl atz (zy HT HB HS (HS.at_ 5 rfl) (HS.at_ 6 rfl) af)<|?_;rintro aqj arl ⟨apS,amM,apa,anB,am7,aoM,anW,rfl,HS⟩;refine ⟨HS.b0,?_⟩;refine cZ 17 rfl rfl rfl atW (Fz HT HB HS (HS.at_ 1 rfl) (HS.at_ 0 rfl) af)<|?_;rintro aqk arn ⟨Y5,Qk,W9,SN,QO,Wy,TW,rfl,HS⟩;refine ⟨HS.b0,?_⟩;refine Dv (.agg #[.bool Y2,.slice Qj WZ SL,.slice QN Wx TV,.bool Y5,.slice Qk W9 SN,.slice QO Wy TW]) 18 rfl HS.b0 (fun a ha w=>bG.run_build (ha.dm rfl) as2 atg Jc rfl)<|lK 19 [.bool Y2,.slice Qj WZ SL,.slice QN Wx TV,.bool Y5,.slice Qk W9 SN,.slice QO Wy TW] HS 2 rfl rfl rfl rfl as6 (fun _ HS=>⟨(jU (s:=19) rfl rfl),?_⟩)
  refine JR.next ah (fun _ _ h=>h)<|Ja Tryz.results36 (.agg rfl atm as6 (HS.box _ ay) rfl rfl)<|?_;exact ⟨_,_,_,_,_,_,_,_,_,_,_,_,_,_,rfl,HS.Be 5 11 3 0 rfl rfl rfl (fun _ h=>h.as rfl af) rfl (fun _ h=>h.as rfl af)⟩
end
end Go.Proofs.BGQ
namespace Lw
def tB(a b:Tn):Tn:=(vk a.1 a.2 b.1 b.2,zI a.1 a.2 b.1 b.2)
def tE(d:Tn):Tn:=if d.1 then (false,1) else if 0<d.2 then (false,d.2*(2:Rat)⁻¹) else (true,0)
theorem ZI(a b:Tn):tB a b=tA a (tE (tA b (tN a))):=by
 unfold tB vk zI tE tA tN;dsimp only
 split
 ·rfl
 ·split <;> rfl
theorem ak7(d:Tn):tok (tE d):=by
 unfold tE tok
 split
 ·simp
 ·split <;> simp
end Lw
namespace Go.Proofs.BGQ
open Go Go.RowKit Lw bG
section
variable {W0 w:World} {U:List Box} {Ps:List (World->Prop)}
set_option maxRecDepth 100000 in
set_option maxHeartbeats 400000 in
theorem alG(HT:Tz W0)(HB:Tab W0){g:Nat}{u1:Bool}{s1:Bool}{A1:Option Addr}{n1 c1:Nat}{B1:Option Addr}{m1 d1:Nat}{q1:Rat}{k1:Nat}{b1:Bool}(HS:St W0 (⟨g,26,[.bool s1,.slice A1 n1 c1,.slice B1 m1 d1,.bool u1]⟩::U) Ps w)(f1:FV (.agg #[.bool s1,.slice A1 n1 c1,.slice B1 m1 d1]) q1 k1 b1 w)(hk1:k1<=1000)(hg:¬ (bT b1 u1 q1)):bF Tryz.prog 49 [.slice (some ⟨g,0,none⟩) 1 1] w (dI W0 (⟨g,26,[.bool s1,.slice A1 n1 c1,.slice B1 m1 d1,.bool u1]⟩::U) Ps (.iface 88 (.int .i64 2))):=by
 have HS:=HS.add (FV.stable _ _ _ _) f1;clear f1;refine df atD rfl atE rfl<|Js<|La rfl<|Jn<|JC.seq<|Js<|Lm rfl<|Ll rfl asX<|Lm rfl<|Jn<|JC.block<|JC.lU 40<|Js<|Lz (.bool true) (fun a ha=>dG (ha.ev rfl) (ha.ev rfl) ai)<|Jn<|JC.seq<|JC.bH rfl<|Jk<|JC.seq<|JC.block<|Js<|Lz (.pointer (some ⟨g,0,none⟩)) (fun a ha=>eY (ha.ev rfl) (ha.ev rfl) asX asO (j:=0) rfl ai rfl)<|JL.load (.agg #[.bool s1,.slice A1 n1 c1,.slice B1 m1 d1,.bool u1]) HS 0 rfl rfl rfl asQ asO rfl rfl<|JL.alloc (vs:=[.bool false,.slice none 0 0,.slice none 0 0,.bool false]) HS rfl asU rfl rfl (fun g21 di HS => ?_);refine JL.store HS rfl rfl (i:=0) rfl asO rfl rfl rfl (vs':=[.bool s1,.slice A1 n1 c1,.slice B1 m1 d1,.bool u1]) rfl rfl (fun dw HS => ?_);refine Jn<|Js<|JL.load (.agg #[.bool s1,.slice A1 n1 c1,.slice B1 m1 d1,.bool u1]) HS 0 rfl rfl rfl asQ asO rfl rfl<|?_
 by_cases iV:bT b1 u1 q1
 ·skip
  refine JL.call rfl rfl atd (o7 HT HB HS (HS.at_ 0 rfl) af iV)<|?_;rintro v24 dY ⟨rfl,HS⟩;refine La rfl<|Jn<|Js<|Lm rfl<|Lz (.bool false) (fun a ha=>fG (ha.ev rfl) rfl asY)<|Jn<|JC.bJ rfl<|JC.dX (fun _ _ h=>h)<|JC.region<|Lz (.int .i64 1) (fun a ha=>fF (ha.ev rfl) (ha.ev rfl) ai)<|Lm rfl<|JL.again 39 (fun _ _ h=>h)<|Js<|Lz (.bool false) (fun a ha=>dG (ha.ev rfl) (ha.ev rfl) ai)<|Jn<|JC.seq<|JC.bJ rfl<|JC.exit (fun _ _ h=>h) (fun _ _ h=>h)<|Js<|La rfl<|Jn<|Ja Tryz.results49 (.tmp rfl)<|?_;exact ⟨(absurd iV hg),HS.o0 1 1⟩
 ·skip
  refine JL.call rfl rfl atd (BP HT HB HS (HS.at_ 0 rfl) af iV)<|?_;rintro v25 dV ⟨rfl,HS⟩;refine La rfl<|Jn<|Js<|Lm rfl<|Lz (.bool true) (fun a ha=>o5 (ha.ev rfl) rfl asY)<|Jn<|JC.bH rfl<|Js<|Lm rfl<|La rfl<|Jn<|Ja Tryz.results49 (.tmp rfl)<|?_;exact ⟨rfl,HS.o0 1 1⟩
set_option maxRecDepth 100000 in
set_option maxHeartbeats 400000 in
theorem Ph(HT:Tz W0)(HB:Tab W0){g:Nat}{u1:Bool}{u2:Bool}{s1:Bool}{A1:Option Addr}{n1 c1:Nat}{B1:Option Addr}{m1 d1:Nat}{q1:Rat}{k1:Nat}{b1:Bool}{s2:Bool}{A2:Option Addr}{n2 c2:Nat}{B2:Option Addr}{m2 d2:Nat}{q2:Rat}{k2:Nat}{b2:Bool}(HS:St W0 (⟨g,26,[.bool s1,.slice A1 n1 c1,.slice B1 m1 d1,.bool u1,.bool s2,.slice A2 n2 c2,.slice B2 m2 d2,.bool u2]⟩::U) Ps w)(f1:FV (.agg #[.bool s1,.slice A1 n1 c1,.slice B1 m1 d1]) q1 k1 b1 w)(f2:FV (.agg #[.bool s2,.slice A2 n2 c2,.slice B2 m2 d2]) q2 k2 b2 w)(hk1:k1<=1000)(hk2:k2<=1000)(hg:¬ (bT b1 u1 q1/\bT b2 u2 q2)):bF Tryz.prog 49 [.slice (some ⟨g,0,none⟩) 2 2] w (dI W0 (⟨g,26,[.bool s1,.slice A1 n1 c1,.slice B1 m1 d1,.bool u1,.bool s2,.slice A2 n2 c2,.slice B2 m2 d2,.bool u2]⟩::U) Ps (.iface 88 (.int .i64 2))):=by
 have HS:=HS.add (FV.stable _ _ _ _) f1;have HS:=HS.add (FV.stable _ _ _ _) f2;clear f1 f2;refine df atD rfl atE rfl<|Js<|La rfl<|Jn<|JC.seq<|Js<|Lm rfl<|Ll rfl asX<|Lm rfl<|Jn<|JC.block<|JC.lU 40<|Js<|Lz (.bool true) (fun a ha=>dG (ha.ev rfl) (ha.ev rfl) ai)<|Jn<|JC.seq<|JC.bH rfl<|Jk<|JC.seq<|JC.block<|Js<|Lz (.pointer (some ⟨g,0,none⟩)) (fun a ha=>eY (ha.ev rfl) (ha.ev rfl) asX asO (j:=0) rfl ai rfl)<|JL.load (.agg #[.bool s1,.slice A1 n1 c1,.slice B1 m1 d1,.bool u1]) HS 0 rfl rfl rfl asQ asO rfl rfl<|JL.alloc (vs:=[.bool false,.slice none 0 0,.slice none 0 0,.bool false]) HS rfl asU rfl rfl (fun g21 di HS => ?_);refine JL.store HS rfl rfl (i:=0) rfl asO rfl rfl rfl (vs':=[.bool s1,.slice A1 n1 c1,.slice B1 m1 d1,.bool u1]) rfl rfl (fun dw HS => ?_);refine Jn<|Js<|JL.load (.agg #[.bool s1,.slice A1 n1 c1,.slice B1 m1 d1,.bool u1]) HS 0 rfl rfl rfl asQ asO rfl rfl<|?_
 by_cases iV:bT b1 u1 q1
 ·skip
  refine JL.call rfl rfl atd (o7 HT HB HS (HS.at_ 1 rfl) af iV)<|?_;rintro v24 dY ⟨rfl,HS⟩;refine La rfl<|Jn<|Js<|Lm rfl<|Lz (.bool false) (fun a ha=>fG (ha.ev rfl) rfl asY)<|Jn<|JC.bJ rfl<|JC.dX (fun _ _ h=>h)<|JC.region<|Lz (.int .i64 1) (fun a ha=>fF (ha.ev rfl) (ha.ev rfl) ai)<|Lm rfl<|JL.again 39 (fun _ _ h=>h)<|Js<|Lz (.bool true) (fun a ha=>dG (ha.ev rfl) (ha.ev rfl) ai)<|Jn<|JC.seq<|JC.bH rfl<|Jk<|JC.seq<|JC.block<|Js<|Lz (.pointer (some ⟨g,4,none⟩)) (fun a ha=>eY (ha.ev rfl) (ha.ev rfl) asX asO (j:=1) rfl ai rfl)<|JL.load (.agg #[.bool s2,.slice A2 n2 c2,.slice B2 m2 d2,.bool u2]) HS 1 rfl rfl rfl asQ asO rfl rfl<|JL.alloc (vs:=[.bool false,.slice none 0 0,.slice none 0 0,.bool false]) HS rfl asU rfl rfl (fun kM dV HS => ?_);refine JL.store HS rfl rfl (i:=0) rfl asO rfl rfl rfl (vs':=[.bool s2,.slice A2 n2 c2,.slice B2 m2 d2,.bool u2]) rfl rfl (fun fA HS => ?_);refine Jn<|Js<|JL.load (.agg #[.bool s2,.slice A2 n2 c2,.slice B2 m2 d2,.bool u2]) HS 0 rfl rfl rfl asQ asO rfl rfl<|?_
  by_cases hc27:bT b2 u2 q2
  ·skip
   refine JL.call rfl rfl atd (o7 HT HB HS (HS.at_ 0 rfl) af hc27)<|?_;rintro v28 kE ⟨rfl,HS⟩;refine La rfl<|Jn<|Js<|Lm rfl<|Lz (.bool false) (fun a ha=>fG (ha.ev rfl) rfl asY)<|Jn<|JC.bJ rfl<|JC.dX (fun _ _ h=>h)<|JC.region<|Lz (.int .i64 2) (fun a ha=>fF (ha.ev rfl) (ha.ev rfl) ai)<|Lm rfl<|JL.again 38 (fun _ _ h=>h)<|Js<|Lz (.bool false) (fun a ha=>dG (ha.ev rfl) (ha.ev rfl) ai)<|Jn<|JC.seq<|JC.bJ rfl<|JC.exit (fun _ _ h=>h) (fun _ _ h=>h)<|Js<|La rfl<|Jn<|Ja Tryz.results49 (.tmp rfl)<|?_;exact ⟨(absurd ⟨iV,hc27⟩ hg),HS.o0 2 2⟩
  ·skip
   refine JL.call rfl rfl atd (BP HT HB HS (HS.at_ 0 rfl) af hc27)<|?_;rintro v29 jk ⟨rfl,HS⟩;refine La rfl<|Jn<|Js<|Lm rfl<|Lz (.bool true) (fun a ha=>o5 (ha.ev rfl) rfl asY)<|Jn<|JC.bH rfl<|Js<|Lm rfl<|La rfl<|Jn<|Ja Tryz.results49 (.tmp rfl)<|?_;exact ⟨rfl,HS.o0 2 2⟩
 ·skip
  refine JL.call rfl rfl atd (BP HT HB HS (HS.at_ 1 rfl) af iV)<|?_;rintro v30 lI ⟨rfl,HS⟩;refine La rfl<|Jn<|Js<|Lm rfl<|Lz (.bool true) (fun a ha=>o5 (ha.ev rfl) rfl asY)<|Jn<|JC.bH rfl<|Js<|Lm rfl<|La rfl<|Jn<|Ja Tryz.results49 (.tmp rfl)<|?_;exact ⟨rfl,HS.o0 1 2⟩
set_option maxRecDepth 100000 in
set_option maxHeartbeats 400000 in
theorem al1(HT:Tz W0)(HB:Tab W0){s1:Bool}{A1:Option Addr}{n1 c1:Nat}{B1:Option Addr}{m1 d1:Nat}{q1:Rat}{k1:Nat}{u1:Bool}(HS:St W0 U Ps w)(f1:FV (.agg #[.bool s1,.slice A1 n1 c1,.slice B1 m1 d1]) q1 k1 true w)(hk:k1<=2000):bF Tryz.prog 78 [.agg #[.bool s1,.slice A1 n1 c1,.slice B1 m1 d1,.bool u1]] w (tJ W0 U Ps ((tE (u1,q1)).2) ((tE (u1,q1)).1) (k1+6)):=by
 have HS:=HS.add (FV.stable _ _ _ _) f1;clear f1;refine df Tryz.func78 rfl Tryz.ntmps78 rfl<|Js<|JL.box (vs:=[.bool s1,.slice A1 n1 c1,.slice B1 m1 d1,.bool u1]) HS rfl rfl rfl rfl (fun g21 di HS => ?_);refine JL.alloc (vs:=[.bool false,.slice none 0 0,.slice none 0 0,.bool false]) HS rfl asU rfl rfl (fun g22 dw HS => ?_);refine Jn<|JC.seq<|JC.block<|Js<|dH 3 rfl asV rfl as4<|JL.iH (.bool u1) HS 1 rfl rfl rfl as3 rfl<|La rfl<|Jn<|?_
 cases u1
 ·skip
  refine JC.bJ rfl<|Js<|dH 0 rfl asV rfl asR<|JL.load (.agg #[.bool s1,.slice A1 n1 c1,.slice B1 m1 d1]) HS 1 rfl rfl rfl asT asR rfl rfl<|JL.call rfl rfl Tryz.call126 (afn HT HB HS (HS.at_ 0 rfl) af)<|?_;rintro v24 dY ⟨rfl,HS⟩;refine Lz (.bool (decide (0<q1))) (fun a ha=>kS (ha.ev rfl) (ha.ev rfl) (Zv _))<|La rfl<|Jn<|?_
  cases Ey:((decide (0<q1)))
  ·skip
   refine JC.bJ rfl<|JC.dX (fun _ _ h=>h)<|Js<|Lz (.agg #[.bool false,.slice none 0 0,.slice none 0 0,.bool true]) (fun a ha=>bG.run_build (ha.dm rfl) asV asU jJ rfl)<|JL.store HS rfl rfl (i:=0) rfl asO rfl rfl rfl (vs':=[.bool false,.slice none 0 0,.slice none 0 0,.bool true]) rfl rfl (fun fA HS => ?_);refine Jn<|Ja Tryz.results78 (.agg rfl asQ asO (HS.box _ ak) rfl rfl)<|?_;exact ⟨_,_,_,_,_,_,_,(lY (by simp_all [tE])),(HS.add (FV.stable _ _ _ _) (FV.zero 0 _)).out 2 2 0 rfl rfl rfl (fun _ h=>h.as (by simp_all [tE]) af)⟩
  ·skip
   refine JC.bH rfl<|JC.wE HS.tg (ι:=Bool×Option Addr×Nat×Nat×Option Addr×Nat×Nat×Bool×Option Addr×Nat×Nat×Option Addr×Nat×Nat×Nat) (fun ⟨BG,zM,AY,zY,zN,AU,Ad,oJ,nJ,oq,nO,nM,og,nP,Aj⟩=>[(2,.pointer (some ⟨g22,0,none⟩)),(3,.pointer (some ⟨Aj,0,none⟩))]) (fun ⟨BG,zM,AY,zY,zN,AU,Ad,oJ,nJ,oq,nO,nM,og,nP,Aj⟩ w Ua Pa=>St W0 (⟨Aj,24,[.bool oJ,.slice nJ oq nO,.slice nM og nP]⟩::Ua) (FV (.agg #[.bool oJ,.slice nJ oq nO,.slice nM og nP]) (q1*(2:Rat)⁻¹) (k1+2+2) true::FV (.agg #[.bool BG,.slice zM AY zY,.slice zN AU Ad]) (2:Rat) 2 true::Pa) w) ?_ ?_
   ·skip
    refine JC.draw HS [] ah (fun kE HS => ?_);refine dZ 0 0 rfl HS.fb rfl asV rfl asR<|Da (.agg #[.bool s1,.slice A1 n1 c1,.slice B1 m1 d1]) 1 1 rfl HS.fb rfl rfl asT asR<|JR.any [2,7] ah rfl<|?_
    repeat' first
     | refine JR.any [3,7] (by decide +kernel) rfl ?_
     | refine J1 7 (by decide +kernel) ?_
     | refine J1 8 (by decide +kernel) ?_
     | refine J1 3 (by decide +kernel) ?_
     | refine J1 2 (by decide +kernel) ?_
     |
      refine bC.is 2<|bC.call rfl rfl rfl Tryz.call47 (LY HT HB HS  ai ai) rfl (fun Pv PI abV => ?_) ?_;obtain ⟨BG,zM,AY,zY,zN,AU,Ad,rfl,HS⟩:=abV;refine ⟨HS.fb,?_⟩
     |
      refine bC.is 3<|bC.call rfl rfl rfl Tryz.call127 (ae7 HT HB HS (HS.at_ 1 rfl) (HS.at_ 0 rfl) af ai) rfl (fun Px PK abW => ?_) ?_;obtain ⟨oJ,nJ,oq,nO,nM,og,nP,rfl,HS⟩:=abW;refine ⟨HS.fb,?_⟩;refine Dm 4 rfl HS.fb rfl<|Dx 5 rfl HS.fb rfl rfl<|Dx 6 rfl HS.fb rfl rfl<|?_
     |
      refine bC.is 7<|bC.alloc (vs:=[.bool false,.slice none 0 0,.slice none 0 0]) HS rfl rfl as1 rfl rfl rfl (fun Aj aan HS => ?_) ?_;refine ⟨HS.fb,?_⟩
     |
      refine bC.is 8<|bC.store HS rfl rfl rfl 0 rfl asR rfl rfl rfl (vs':=[.bool oJ,.slice nJ oq nO,.slice nM og nP]) rfl rfl rfl (fun aao HS => ?_) ?_;have HS:St W0 (_::_) _ _:=HS;refine ⟨HS.fb,?_⟩;refine Ds 9 rfl HS.fb rfl<|?_;exact JR.mt (BG,zM,AY,zY,zN,AU,Ad,oJ,nJ,oq,nO,nM,og,nP,Aj) HS
     | exact bC.nil
   ·skip
    rintro ⟨BG,zM,AY,zY,zN,AU,Ad,oJ,nJ,oq,nO,nM,og,nP,Aj⟩ asF HS
    try dsimp only at HS ⊢
    refine Js<|JL.load (.agg #[.bool oJ,.slice nJ oq nO,.slice nM og nP]) HS 0 rfl rfl rfl asT asR rfl rfl<|Lz (.agg #[.bool oJ,.slice nJ oq nO,.slice nM og nP,.bool false]) (fun a ha=>bG.run_build (ha.dm rfl) asV asU jJ rfl)<|JL.store HS rfl rfl (i:=1) rfl asO rfl rfl rfl (vs':=[.bool oJ,.slice nJ oq nO,.slice nM og nP,.bool false]) rfl rfl (fun jk HS => ?_);refine Jn<|Ja Tryz.results78 (.agg rfl asQ asO (HS.box _ au) rfl rfl)<|?_;exact ⟨_,_,_,_,_,_,_,(lY (by simp_all [tE])),HS.oh 3 3 0 rfl (fun _ h=>h.as (by simp_all [tE]) af)⟩
 ·skip
  refine JC.bH rfl<|Js<|JL.call rfl rfl Tryz.call47 (LY HT HB HS  ai ai)<|?_;rintro v30 lI ⟨rf,pq,n30,pO,vT,m30,d30,rfl,HS⟩;refine Lz (.agg #[.bool rf,.slice pq n30 pO,.slice vT m30 d30,.bool false]) (fun a ha=>bG.run_build (ha.dm rfl) asV asU jJ rfl)<|JL.store HS rfl rfl (i:=0) rfl asO rfl rfl rfl (vs':=[.bool rf,.slice pq n30 pO,.slice vT m30 d30,.bool false]) rfl rfl (fun oL HS => ?_);refine Jn<|Ja Tryz.results78 (.agg rfl asQ asO (HS.box _ ak) rfl rfl)<|?_;exact ⟨_,_,_,_,_,_,_,(lY (by simp_all [tE])),HS.oh 2 2 0 rfl (fun _ h=>h.as (by simp_all [tE]) af)⟩
set_option maxRecDepth 100000 in
set_option maxHeartbeats 400000 in
theorem ZP(HT:Tz W0)(HB:Tab W0){s1:Bool}{A1:Option Addr}{n1 c1:Nat}{B1:Option Addr}{m1 d1:Nat}{q1:Rat}{k1:Nat}{b1:Bool}{u1:Bool}{s2:Bool}{A2:Option Addr}{n2 c2:Nat}{B2:Option Addr}{m2 d2:Nat}{q2:Rat}{k2:Nat}{b2:Bool}{u2:Bool}(HS:St W0 U Ps w)(f1:FV (.agg #[.bool s1,.slice A1 n1 c1,.slice B1 m1 d1]) q1 k1 b1 w)(f2:FV (.agg #[.bool s2,.slice A2 n2 c2,.slice B2 m2 d2]) q2 k2 b2 w)(hk1:k1<=200)(hk2:k2<=200)(hg:¬ (bT b1 u1 q1/\bT b2 u2 q2)):bF Tryz.prog 32 [.agg #[.bool s1,.slice A1 n1 c1,.slice B1 m1 d1,.bool u1],.agg #[.bool s2,.slice A2 n2 c2,.slice B2 m2 d2,.bool u2]] w (dI W0 U Ps (.tuple #[.agg #[.bool false,.slice none 0 0,.slice none 0 0,.bool false],.iface 88 (.int .i64 2)])):=by
 have HS:=HS.add (FV.stable _ _ _ _) f1;have HS:=HS.add (FV.stable _ _ _ _) f2;clear f1 f2;refine df Tryz.func32 rfl Tryz.ntmps32 rfl<|Js<|JL.box (vs:=[.bool s1,.slice A1 n1 c1,.slice B1 m1 d1,.bool u1]) HS rfl rfl rfl rfl (fun g21 di HS => ?_);refine JL.box (vs:=[.bool s2,.slice A2 n2 c2,.slice B2 m2 d2,.bool u2]) HS rfl rfl rfl rfl (fun g22 dw HS => ?_);refine JL.alloc (vs:=[.bool false,.slice none 0 0,.slice none 0 0,.bool false]) HS rfl asU rfl rfl (fun g23 dR HS => ?_);refine La rfl<|Jn<|JC.seq<|Js<|JL.load (.agg #[.bool s1,.slice A1 n1 c1,.slice B1 m1 d1,.bool u1]) HS 2 rfl rfl rfl asQ asO rfl rfl<|JL.load (.agg #[.bool s2,.slice A2 n2 c2,.slice B2 m2 d2,.bool u2]) HS 1 rfl rfl rfl asQ asO rfl rfl<|JL.buildSlice (vs:=[.bool s1,.slice A1 n1 c1,.slice B1 m1 d1,.bool u1,.bool s2,.slice A2 n2 c2,.slice B2 m2 d2,.bool u2]) HS rfl (fun a ha=>ha.dm rfl) asX asO asU rfl rfl ah rfl (fun g24 dY HS => ?_);refine JL.call rfl rfl atj (Ph HT HB HS (HS.at_ 1 rfl) (HS.at_ 0 rfl) af af hg)<|?_;rintro v25 dV ⟨rfl,HS⟩;refine La rfl<|Jn<|Js<|Lm rfl<|Lz (.bool true) (fun a ha=>o5 (ha.ev rfl) rfl asY)<|Jn<|JC.bH rfl<|Js<|Lz (.agg #[.bool false,.slice none 0 0,.slice none 0 0,.bool false]) (fun a ha=>bG.run_build (ha.dm rfl) asV asU jJ rfl)<|Lm rfl<|JL.store HS rfl rfl (i:=1) rfl asO rfl rfl rfl (vs':=[.bool false,.slice none 0 0,.slice none 0 0,.bool false]) rfl rfl (fun fA HS => ?_);refine La rfl<|Jn<|Jb Tryz.results32 (.agg rfl asQ asO (HS.box _ au) rfl rfl) (.tmp rfl)<|?_;exact ⟨rfl,HS.o0 4 2⟩
set_option maxRecDepth 100000 in
set_option maxHeartbeats 400000 in
theorem alz(HT:Tz W0)(HB:Tab W0){s1:Bool}{A1:Option Addr}{n1 c1:Nat}{B1:Option Addr}{m1 d1:Nat}{q1:Rat}{k1:Nat}{b1:Bool}{u1:Bool}{s2:Bool}{A2:Option Addr}{n2 c2:Nat}{B2:Option Addr}{m2 d2:Nat}{q2:Rat}{k2:Nat}{b2:Bool}{u2:Bool}(HS:St W0 U Ps w)(f1:FV (.agg #[.bool s1,.slice A1 n1 c1,.slice B1 m1 d1]) q1 k1 b1 w)(f2:FV (.agg #[.bool s2,.slice A2 n2 c2,.slice B2 m2 d2]) q2 k2 b2 w)(hk1:k1<=200)(hk2:k2<=200)(hg1:bT b1 u1 q1)(hg2:bT b2 u2 q2):bF Tryz.prog 33 [.agg #[.bool s1,.slice A1 n1 c1,.slice B1 m1 d1,.bool u1],.agg #[.bool s2,.slice A2 n2 c2,.slice B2 m2 d2,.bool u2]] w (dI W0 U Ps (.tuple #[.int .i64 (fP u1 q1 u2 q2),.nilIface])):=by
 have HS:=HS.add (FV.stable _ _ _ _) f1;have HS:=HS.add (FV.stable _ _ _ _) f2;clear f1 f2;obtain ⟨rfl,t1⟩:=hg1;have hg1:bT true u1 q1:=⟨rfl,t1⟩;obtain ⟨rfl,t2⟩:=hg2;have hg2:bT true u2 q2:=⟨rfl,t2⟩;refine df Tryz.func33 rfl Tryz.ntmps33 rfl<|Js<|JL.box (vs:=[.bool s1,.slice A1 n1 c1,.slice B1 m1 d1,.bool u1]) HS rfl rfl rfl rfl (fun g21 di HS => ?_);refine JL.box (vs:=[.bool s2,.slice A2 n2 c2,.slice B2 m2 d2,.bool u2]) HS rfl rfl rfl rfl (fun g22 dw HS => ?_);refine La rfl<|La rfl<|Jn<|JC.seq<|Js<|JL.load (.agg #[.bool s1,.slice A1 n1 c1,.slice B1 m1 d1,.bool u1]) HS 1 rfl rfl rfl asQ asO rfl rfl<|JL.load (.agg #[.bool s2,.slice A2 n2 c2,.slice B2 m2 d2,.bool u2]) HS 0 rfl rfl rfl asQ asO rfl rfl<|JL.buildSlice (vs:=[.bool s1,.slice A1 n1 c1,.slice B1 m1 d1,.bool u1,.bool s2,.slice A2 n2 c2,.slice B2 m2 d2,.bool u2]) HS rfl (fun a ha=>ha.dm rfl) asX asO asU rfl rfl ah rfl (fun g23 dR HS => ?_);refine JL.call rfl rfl atj (Pj HT HB HS (HS.at_ 1 rfl) (HS.at_ 0 rfl) af af hg1 hg2)<|?_;rintro v24 dY ⟨rfl,HS⟩;refine La rfl<|Jn<|Js<|Lm rfl<|Lz (.bool false) (fun a ha=>fG (ha.ev rfl) rfl asY)<|Jn<|JC.bJ rfl<|Jk<|Js<|JL.load (.agg #[.bool s1,.slice A1 n1 c1,.slice B1 m1 d1,.bool u1]) HS 2 rfl rfl rfl asQ asO rfl rfl<|JL.load (.agg #[.bool s2,.slice A2 n2 c2,.slice B2 m2 d2,.bool u2]) HS 1 rfl rfl rfl asQ asO rfl rfl<|JL.call rfl rfl aue (JX HT HB HS (HS.at_ 1 rfl) (HS.at_ 0 rfl) af)<|?_;rintro v25 dV ⟨rfl,HS⟩;refine La rfl<|La rfl<|Jn<|Jb Tryz.results33 (.tmp rfl) (.tmp rfl)<|?_;exact ⟨rfl,HS.o0 3 2⟩
set_option maxRecDepth 100000 in
set_option maxHeartbeats 400000 in
theorem ZR(HT:Tz W0)(HB:Tab W0){s1:Bool}{A1:Option Addr}{n1 c1:Nat}{B1:Option Addr}{m1 d1:Nat}{q1:Rat}{k1:Nat}{b1:Bool}{u1:Bool}{s2:Bool}{A2:Option Addr}{n2 c2:Nat}{B2:Option Addr}{m2 d2:Nat}{q2:Rat}{k2:Nat}{b2:Bool}{u2:Bool}(HS:St W0 U Ps w)(f1:FV (.agg #[.bool s1,.slice A1 n1 c1,.slice B1 m1 d1]) q1 k1 b1 w)(f2:FV (.agg #[.bool s2,.slice A2 n2 c2,.slice B2 m2 d2]) q2 k2 b2 w)(hk1:k1<=200)(hk2:k2<=200)(hg:¬ (bT b1 u1 q1/\bT b2 u2 q2)):bF Tryz.prog 33 [.agg #[.bool s1,.slice A1 n1 c1,.slice B1 m1 d1,.bool u1],.agg #[.bool s2,.slice A2 n2 c2,.slice B2 m2 d2,.bool u2]] w (dI W0 U Ps (.tuple #[.int .i64 0,.iface 88 (.int .i64 2)])):=by
 have HS:=HS.add (FV.stable _ _ _ _) f1;have HS:=HS.add (FV.stable _ _ _ _) f2;clear f1 f2;refine df Tryz.func33 rfl Tryz.ntmps33 rfl<|Js<|JL.box (vs:=[.bool s1,.slice A1 n1 c1,.slice B1 m1 d1,.bool u1]) HS rfl rfl rfl rfl (fun g21 di HS => ?_);refine JL.box (vs:=[.bool s2,.slice A2 n2 c2,.slice B2 m2 d2,.bool u2]) HS rfl rfl rfl rfl (fun g22 dw HS => ?_);refine La rfl<|La rfl<|Jn<|JC.seq<|Js<|JL.load (.agg #[.bool s1,.slice A1 n1 c1,.slice B1 m1 d1,.bool u1]) HS 1 rfl rfl rfl asQ asO rfl rfl<|JL.load (.agg #[.bool s2,.slice A2 n2 c2,.slice B2 m2 d2,.bool u2]) HS 0 rfl rfl rfl asQ asO rfl rfl<|JL.buildSlice (vs:=[.bool s1,.slice A1 n1 c1,.slice B1 m1 d1,.bool u1,.bool s2,.slice A2 n2 c2,.slice B2 m2 d2,.bool u2]) HS rfl (fun a ha=>ha.dm rfl) asX asO asU rfl rfl ah rfl (fun g23 dR HS => ?_);refine JL.call rfl rfl atj (Ph HT HB HS (HS.at_ 1 rfl) (HS.at_ 0 rfl) af af hg)<|?_;rintro v24 dY ⟨rfl,HS⟩;refine La rfl<|Jn<|Js<|Lm rfl<|Lz (.bool true) (fun a ha=>o5 (ha.ev rfl) rfl asY)<|Jn<|JC.bH rfl<|Js<|Lm rfl<|La rfl<|La rfl<|Jn<|Jb Tryz.results33 (.tmp rfl) (.tmp rfl)<|?_;exact ⟨rfl,HS.o0 3 2⟩
set_option maxRecDepth 100000 in
set_option maxHeartbeats 400000 in
theorem aly(HT:Tz W0)(HB:Tab W0){s1:Bool}{A1:Option Addr}{n1 c1:Nat}{B1:Option Addr}{m1 d1:Nat}{q1:Rat}{k1:Nat}{b1:Bool}{u1:Bool}{s2:Bool}{A2:Option Addr}{n2 c2:Nat}{B2:Option Addr}{m2 d2:Nat}{q2:Rat}{k2:Nat}{b2:Bool}{u2:Bool}(HS:St W0 U Ps w)(f1:FV (.agg #[.bool s1,.slice A1 n1 c1,.slice B1 m1 d1]) q1 k1 b1 w)(f2:FV (.agg #[.bool s2,.slice A2 n2 c2,.slice B2 m2 d2]) q2 k2 b2 w)(hk1:k1<=200)(hk2:k2<=200)(hg1:bT b1 u1 q1)(hg2:bT b2 u2 q2):bF Tryz.prog 34 [.agg #[.bool s1,.slice A1 n1 c1,.slice B1 m1 d1,.bool u1],.agg #[.bool s2,.slice A2 n2 c2,.slice B2 m2 d2,.bool u2]] w (Gz W0 U Ps (zI u1 q1 u2 q2) (vk u1 q1 u2 q2) (6*k1+4*k2+60) (.nilIface)):=by
 have HS:=HS.add (FV.stable _ _ _ _) f1;have HS:=HS.add (FV.stable _ _ _ _) f2;clear f1 f2;obtain ⟨rfl,t1⟩:=hg1;have hg1:bT true u1 q1:=⟨rfl,t1⟩;obtain ⟨rfl,t2⟩:=hg2;have hg2:bT true u2 q2:=⟨rfl,t2⟩;refine df Tryz.func34 rfl Tryz.ntmps34 rfl<|Js<|JL.box (vs:=[.bool s1,.slice A1 n1 c1,.slice B1 m1 d1,.bool u1]) HS rfl rfl rfl rfl (fun g21 di HS => ?_);refine JL.box (vs:=[.bool s2,.slice A2 n2 c2,.slice B2 m2 d2,.bool u2]) HS rfl rfl rfl rfl (fun g22 dw HS => ?_);refine JL.alloc (vs:=[.bool false,.slice none 0 0,.slice none 0 0,.bool false]) HS rfl asU rfl rfl (fun g23 dR HS => ?_);refine La rfl<|Jn<|JC.seq<|Js<|JL.load (.agg #[.bool s1,.slice A1 n1 c1,.slice B1 m1 d1,.bool u1]) HS 2 rfl rfl rfl asQ asO rfl rfl<|JL.load (.agg #[.bool s2,.slice A2 n2 c2,.slice B2 m2 d2,.bool u2]) HS 1 rfl rfl rfl asQ asO rfl rfl<|JL.buildSlice (vs:=[.bool s1,.slice A1 n1 c1,.slice B1 m1 d1,.bool u1,.bool s2,.slice A2 n2 c2,.slice B2 m2 d2,.bool u2]) HS rfl (fun a ha=>ha.dm rfl) asX asO asU rfl rfl ah rfl (fun g24 dY HS => ?_);refine JL.call rfl rfl atj (Pj HT HB HS (HS.at_ 1 rfl) (HS.at_ 0 rfl) af af hg1 hg2)<|?_;rintro v25 dV ⟨rfl,HS⟩;refine La rfl<|Jn<|Js<|Lm rfl<|Lz (.bool false) (fun a ha=>fG (ha.ev rfl) rfl asY)<|Jn<|JC.bJ rfl<|Jk<|JC.seq<|JC.draw HS [7] ah (fun fA HS => ?_);refine Da (.agg #[.bool s1,.slice A1 n1 c1,.slice B1 m1 d1,.bool u1]) 0 3 rfl HS.b0 rfl rfl asQ asO<|Da (.agg #[.bool s2,.slice A2 n2 c2,.slice B2 m2 d2,.bool u2]) 1 2 rfl HS.b0 rfl rfl asQ asO<|Da (.agg #[.bool s1,.slice A1 n1 c1,.slice B1 m1 d1,.bool u1]) 2 3 rfl HS.b0 rfl rfl asQ asO<|cZ 3 rfl rfl rfl Tryz.call52 (ZV HT HB HS (HS.at_ 1 rfl) af)<|?_;rintro Px PK ⟨oJ,nJ,oq,nO,nM,og,nP,rfl,HS⟩;refine ⟨HS.b0,?_⟩;refine cZ 4 rfl rfl rfl Tryz.call76 (Pg HT HB HS (HS.at_ 1 rfl) (HS.at_ 0 rfl) af t2 (F6 t1))<|?_;rintro al5 ami ⟨Y0,Qh,WX,SI,am4,aoJ,anT,rfl,HS⟩;refine ⟨HS.b0,?_⟩;refine cZ 5 rfl rfl rfl Tryz.call78 (al1 HT HB HS (HS.at_ 0 rfl) af)<|?_;rintro aqh arj ⟨apQ,amK,ao8,anz,am5,aoK,anU,rfl,HS⟩;refine ⟨HS.b0,?_⟩
 refine cZ 6 rfl rfl rfl Tryz.call76 (Pg HT HB HS (HS.at_ 4 rfl) (HS.at_ 0 rfl) af t1 (ak7 _))<|?_;rintro aac aam ⟨Y1,Qi,WY,SK,QM,Wv,TU,rfl,HS⟩;refine ⟨HS.b0,?_⟩;refine lK 7 [.bool Y1,.slice Qi WY SK,.slice QM Wv TU,.bool (cO u1 q1 ((tE ((cO u2 q2 u1 (-q1)),(dL u2 q2 u1 (-q1)))).1) ((tE ((cO u2 q2 u1 (-q1)),(dL u2 q2 u1 (-q1)))).2))] HS 1 rfl rfl rfl rfl asO (fun _ HS=>⟨(jU (s:=7) rfl rfl),?_⟩);refine Ds 8 rfl (jU (s:=7) rfl rfl) rfl<|JR.next ah (fun _ _ h=>h)<|Jb Tryz.results34 (.agg rfl asQ asO (HS.box _ au) rfl rfl) (.tmp rfl)<|?_;exact ⟨_,_,_,_,_,_,_,(ZM (congrArg Prod.fst (ZI (u1,q1) (u2,q2)).symm)),HS.oh 4 6 0 rfl (fun _ h=>h.as (congrArg Prod.snd (ZI (u1,q1) (u2,q2)).symm) af)⟩
set_option maxRecDepth 100000 in
set_option maxHeartbeats 400000 in
theorem ZQ(HT:Tz W0)(HB:Tab W0){s1:Bool}{A1:Option Addr}{n1 c1:Nat}{B1:Option Addr}{m1 d1:Nat}{q1:Rat}{k1:Nat}{b1:Bool}{u1:Bool}{s2:Bool}{A2:Option Addr}{n2 c2:Nat}{B2:Option Addr}{m2 d2:Nat}{q2:Rat}{k2:Nat}{b2:Bool}{u2:Bool}(HS:St W0 U Ps w)(f1:FV (.agg #[.bool s1,.slice A1 n1 c1,.slice B1 m1 d1]) q1 k1 b1 w)(f2:FV (.agg #[.bool s2,.slice A2 n2 c2,.slice B2 m2 d2]) q2 k2 b2 w)(hk1:k1<=200)(hk2:k2<=200)(hg:¬ (bT b1 u1 q1/\bT b2 u2 q2)):bF Tryz.prog 34 [.agg #[.bool s1,.slice A1 n1 c1,.slice B1 m1 d1,.bool u1],.agg #[.bool s2,.slice A2 n2 c2,.slice B2 m2 d2,.bool u2]] w (dI W0 U Ps (.tuple #[.agg #[.bool false,.slice none 0 0,.slice none 0 0,.bool false],.iface 88 (.int .i64 2)])):=by
 have HS:=HS.add (FV.stable _ _ _ _) f1;have HS:=HS.add (FV.stable _ _ _ _) f2;clear f1 f2;refine df Tryz.func34 rfl Tryz.ntmps34 rfl<|Js<|JL.box (vs:=[.bool s1,.slice A1 n1 c1,.slice B1 m1 d1,.bool u1]) HS rfl rfl rfl rfl (fun g21 di HS => ?_);refine JL.box (vs:=[.bool s2,.slice A2 n2 c2,.slice B2 m2 d2,.bool u2]) HS rfl rfl rfl rfl (fun g22 dw HS => ?_);refine JL.alloc (vs:=[.bool false,.slice none 0 0,.slice none 0 0,.bool false]) HS rfl asU rfl rfl (fun g23 dR HS => ?_);refine La rfl<|Jn<|JC.seq<|Js<|JL.load (.agg #[.bool s1,.slice A1 n1 c1,.slice B1 m1 d1,.bool u1]) HS 2 rfl rfl rfl asQ asO rfl rfl<|JL.load (.agg #[.bool s2,.slice A2 n2 c2,.slice B2 m2 d2,.bool u2]) HS 1 rfl rfl rfl asQ asO rfl rfl<|JL.buildSlice (vs:=[.bool s1,.slice A1 n1 c1,.slice B1 m1 d1,.bool u1,.bool s2,.slice A2 n2 c2,.slice B2 m2 d2,.bool u2]) HS rfl (fun a ha=>ha.dm rfl) asX asO asU rfl rfl ah rfl (fun g24 dY HS => ?_);refine JL.call rfl rfl atj (Ph HT HB HS (HS.at_ 1 rfl) (HS.at_ 0 rfl) af af hg)<|?_;rintro v25 dV ⟨rfl,HS⟩;refine La rfl<|Jn<|Js<|Lm rfl<|Lz (.bool true) (fun a ha=>o5 (ha.ev rfl) rfl asY)<|Jn<|JC.bH rfl<|Js<|Lz (.agg #[.bool false,.slice none 0 0,.slice none 0 0,.bool false]) (fun a ha=>bG.run_build (ha.dm rfl) asV asU jJ rfl)<|Lm rfl<|JL.store HS rfl rfl (i:=1) rfl asO rfl rfl rfl (vs':=[.bool false,.slice none 0 0,.slice none 0 0,.bool false]) rfl rfl (fun fA HS => ?_);refine La rfl<|Jn<|Jb Tryz.results34 (.agg rfl asQ asO (HS.box _ au) rfl rfl) (.tmp rfl)<|?_;exact ⟨rfl,HS.o0 4 2⟩
set_option maxRecDepth 100000 in
set_option maxHeartbeats 400000 in
theorem alx(HT:Tz W0)(HB:Tab W0){s1:Bool}{A1:Option Addr}{n1 c1:Nat}{B1:Option Addr}{m1 d1:Nat}{q1:Rat}{k1:Nat}{b1:Bool}{u1:Bool}{kz:Bool}{jO:Option Addr}{jV jR:Nat}{mQ:Option Addr}{ni mW:Nat}{uT:Rat}{nY:Nat}{Dh:Bool}{kC:Bool}{jP:Option Addr}{jW jS:Nat}{mV:Option Addr}{nC mX:Nat}{uU:Rat}{nZ:Nat}{Di:Bool}(HS:St W0 U Ps w)(f1:FV (.agg #[.bool s1,.slice A1 n1 c1,.slice B1 m1 d1]) q1 k1 b1 w)(pV:FV (.agg #[.bool kz,.slice jO jV jR,.slice mQ ni mW]) uT nY Dh w)(pW:FV (.agg #[.bool kC,.slice jP jW jS,.slice mV nC mX]) uU nZ Di w)(hk1:k1<=200)(hg:¬ (bT b1 u1 q1)):bF Tryz.prog 35 [.agg #[.bool s1,.slice A1 n1 c1,.slice B1 m1 d1,.bool u1],.agg #[.bool kz,.slice jO jV jR,.slice mQ ni mW,.bool kC,.slice jP jW jS,.slice mV nC mX]] w (dI W0 U Ps (.tuple #[.agg #[.bool false,.slice none 0 0,.slice none 0 0,.bool false,.slice none 0 0,.slice none 0 0],.iface 88 (.int .i64 2)])):=by
 have HS:=HS.add (FV.stable _ _ _ _) f1;have HS:=HS.add (FV.stable _ _ _ _) pV;have HS:=HS.add (FV.stable _ _ _ _) pW;clear f1 pV pW;refine df Tryz.func35 rfl Tryz.ntmps35 rfl<|Js<|JL.box (vs:=[.bool s1,.slice A1 n1 c1,.slice B1 m1 d1,.bool u1]) HS rfl rfl rfl rfl (fun g21 di HS => ?_);refine JL.box (vs:=[.bool kz,.slice jO jV jR,.slice mQ ni mW,.bool kC,.slice jP jW jS,.slice mV nC mX]) HS rfl rfl rfl rfl (fun g22 dw HS => ?_);refine JL.alloc (vs:=[.bool false,.slice none 0 0,.slice none 0 0,.bool false,.slice none 0 0,.slice none 0 0]) HS rfl atg rfl rfl (fun g23 dR HS => ?_);refine La rfl<|Jn<|JC.seq<|Js<|JL.load (.agg #[.bool s1,.slice A1 n1 c1,.slice B1 m1 d1,.bool u1]) HS 2 rfl rfl rfl asQ asO rfl rfl<|JL.buildSlice (vs:=[.bool s1,.slice A1 n1 c1,.slice B1 m1 d1,.bool u1]) HS rfl (fun a ha=>ha.dm rfl) asX asO asU rfl rfl ah rfl (fun g24 dY HS => ?_);refine JL.call rfl rfl atj (alG HT HB HS (HS.at_ 2 rfl) af hg)<|?_;rintro v25 dV ⟨rfl,HS⟩;refine La rfl<|Jn<|Js<|Lm rfl<|Lz (.bool true) (fun a ha=>o5 (ha.ev rfl) rfl asY)<|Jn<|JC.bH rfl<|Js<|Lz (.agg #[.bool false,.slice none 0 0,.slice none 0 0,.bool false,.slice none 0 0,.slice none 0 0]) (fun a ha=>bG.run_build (ha.dm rfl) as2 atg Jc rfl)<|Lm rfl<|JL.store HS rfl rfl (i:=1) rfl as6 rfl rfl rfl (vs':=[.bool false,.slice none 0 0,.slice none 0 0,.bool false,.slice none 0 0,.slice none 0 0]) rfl rfl (fun fA HS => ?_);refine La rfl<|Jn<|Jb Tryz.results35 (.agg rfl atm as6 (HS.box _ au) rfl rfl) (.tmp rfl)<|?_;exact ⟨rfl,HS.o0 4 3⟩
end
section
variable {W0 w:World} {U:List Box} {Ps:List (World->Prop)}
set_option maxRecDepth 100000 in
set_option maxHeartbeats 4000000 in
theorem al0(HT:Tz W0)(HB:Tab W0){s1:Bool}{A1:Option Addr}{n1 c1:Nat}{B1:Option Addr}{m1 d1:Nat}{q1:Rat}{k1:Nat}{b1:Bool}{u1:Bool}{s2:Bool}{A2:Option Addr}{n2 c2:Nat}{B2:Option Addr}{m2 d2:Nat}{q2:Rat}{k2:Nat}{b2:Bool}{u2:Bool}{iK:Bool}{iw:Option Addr}{gB iE:Nat}{iC:Option Addr}{gu iT:Nat}{je:Rat}{uH:Nat}{tX:Bool}{iL:Bool}{iy:Option Addr}{gG iF:Nat}{iD:Option Addr}{gy iU:Nat}{jf:Rat}{uI:Nat}{tY:Bool}(HS:St W0 U Ps w)(f1:FV (.agg #[.bool s1,.slice A1 n1 c1,.slice B1 m1 d1]) q1 k1 b1 w)(f2:FV (.agg #[.bool s2,.slice A2 n2 c2,.slice B2 m2 d2]) q2 k2 b2 w)(nS:FV (.agg #[.bool iK,.slice iw gB iE,.slice iC gu iT]) je uH tX w)(nT:FV (.agg #[.bool iL,.slice iy gG iF,.slice iD gy iU]) jf uI tY w)  : bF Tryz.prog 5 [.agg #[.bool s1,.slice A1 n1 c1,.slice B1 m1 d1,.bool u1],.agg #[.bool s2,.slice A2 n2 c2,.slice B2 m2 d2,.bool u2],.agg #[.bool iK,.slice iw gB iE,.slice iC gu iT,.bool iL,.slice iy gG iF,.slice iD gy iU]] w (dI W0 U Ps (.bool true)):=by
 have HS:=HS.add (FV.stable _ _ _ _) f1;have HS:=HS.add (FV.stable _ _ _ _) f2;have HS:=HS.add (FV.stable _ _ _ _) nS;have HS:=HS.add (FV.stable _ _ _ _) nT;clear f1 f2 nS nT;refine df aun rfl Tryz.ntmps5 rfl<|Js<|JL.box (vs:=[.bool s1,.slice A1 n1 c1,.slice B1 m1 d1,.bool u1]) HS rfl rfl rfl rfl (fun g21 di HS => ?_);refine JL.box (vs:=[.bool s2,.slice A2 n2 c2,.slice B2 m2 d2,.bool u2]) HS rfl rfl rfl rfl (fun g22 dw HS => ?_);refine JL.box (vs:=[.bool iK,.slice iw gB iE,.slice iC gu iT,.bool iL,.slice iy gG iF,.slice iD gy iU]) HS rfl rfl rfl rfl (fun g23 dR HS => ?_);refine La rfl<|Jn<|JC.seq<|Js<|JL.call rfl rfl atr (tq HT HB HS  )<|?_;rintro v24 dY ⟨rfl,HS⟩;refine Lz (.bool false) (fun a ha=>jK (b:=true) (ha.ev rfl))<|Lm rfl<|bz (.pointer (some ⟨g21,0,none⟩)) (fun a ha=>dF (ha.ev rfl) asV rfl asR rfl rfl)<|bz (.agg #[.bool s1,.slice A1 n1 c1,.slice B1 m1 d1]) (fun a ha=>eG (ha.ev rfl) asT asR (HS.box _ ay) rfl rfl)<|bz (.pointer (some ⟨g22,0,none⟩)) (fun a ha=>dF (ha.ev rfl) asV rfl asR rfl rfl)<|bz (.agg #[.bool s2,.slice A2 n2 c2,.slice B2 m2 d2]) (fun a ha=>eG (ha.ev rfl) asT asR (HS.box _ au) rfl rfl)<|bz (.pointer (some ⟨g23,0,none⟩)) (fun a ha=>dF (ha.ev rfl) as2 rfl asR rfl rfl)<|bz (.agg #[.bool iK,.slice iw gB iE,.slice iC gu iT]) (fun a ha=>eG (ha.ev rfl) asT asR (HS.box _ ak) rfl rfl)<|bz (.pointer (some ⟨g23,3,none⟩)) (fun a ha=>dF (ha.ev rfl) as2 rfl asR rfl rfl)<|bz (.agg #[.bool iL,.slice iy gG iF,.slice iD gy iU]) (fun a ha=>eG (ha.ev rfl) asT asR (HS.box _ ak) rfl rfl)<|JL.zX (vs:=[.bool s1,.slice A1 n1 c1,.slice B1 m1 d1,.bool s2,.slice A2 n2 c2,.slice B2 m2 d2,.bool iK,.slice iw gB iE,.slice iC gu iT,.bool iL,.slice iy gG iF,.slice iD gy iU]) HS rfl rfl rfl rfl rfl (fun a ha=>ha.dm rfl) atl asR as1 rfl rfl ah rfl (fun kM dV HS => ?_);refine JL.dN rfl rfl rfl rfl rfl rfl aug (ZY HT HB HS)<|?_;rintro v26 fA ⟨rfl,HS⟩;refine bz (.bool (!(decide (n1<=6/\m1<=6/\n2<=6/\m2<=6/\gB<=6/\gu<=6/\gG<=6/\gy<=6)))) (fun a ha=>jK (ha.ev rfl))<|Lf rfl rfl<|Jn<|?_
 cases nX:((decide (n1<=6/\m1<=6/\n2<=6/\m2<=6/\gB<=6/\gu<=6/\gG<=6/\gy<=6)))
 ·skip
  refine JC.bH rfl<|Js<|JL.call rfl rfl atr (tq HT HB HS  )<|?_;rintro v28 kE ⟨rfl,HS⟩;refine La rfl<|Jn<|Ja Tryz.results5 (.tmp rfl)<|?_;exact ⟨rfl,HS.o0 4 4⟩
 ·skip
  have hfew:=of_decide_eq_true nX;have HS:=HS.lC 3 rfl (fun _ h=>(bV.cut (K:=6) h af af:FV _ _ 6 _ _));have HS:=HS.lC 3 rfl (fun _ h=>(bV.cut (K:=6) h af af:FV _ _ 6 _ _));have HS:=HS.lC 3 rfl (fun _ h=>(bV.cut (K:=6) h af af:FV _ _ 6 _ _));have HS:=HS.lC 3 rfl (fun _ h=>(bV.cut (K:=6) h af af:FV _ _ 6 _ _));refine JC.bJ rfl<|Jk<|?_
  by_cases hc29:bT b1 u1 q1
  ·skip
   by_cases lN:bT b2 u2 q2
   ·skip
    refine JC.seq<|?_;obtain ⟨rfl,t1⟩:=hc29;obtain ⟨rfl,t2⟩:=lN;refine JC.region<|JL.load (.agg #[.bool s1,.slice A1 n1 c1,.slice B1 m1 d1,.bool u1]) HS 3 rfl rfl rfl asQ asO rfl rfl<|JL.load (.agg #[.bool s2,.slice A2 n2 c2,.slice B2 m2 d2,.bool u2]) HS 2 rfl rfl rfl asQ asO rfl rfl<|JL.call rfl rfl atq (vw HT HB HS (HS.at_ 3 rfl) (HS.at_ 2 rfl) af af ⟨rfl,t1⟩ ⟨rfl,t2⟩)<|?_;rintro v31 oL ⟨zC,xW,n31,c31,GM,m31,d31,rfl,HS⟩;refine Lm rfl<|Lx rfl rfl<|Lx rfl rfl<|JL.alloc (vs:=[.bool false,.slice none 0 0,.slice none 0 0,.bool false]) HS rfl asU rfl rfl (fun L8 w32 HS => ?_);refine JL.store HS rfl rfl (i:=0) rfl asO rfl rfl rfl (vs':=[.bool zC,.slice xW n31 c31,.slice GM m31 d31,.bool (cO u1 q1 u2 q2)]) rfl rfl (fun o8 HS => ?_);refine La rfl<|Jn<|Js<|JL.load (.agg #[.bool s1,.slice A1 n1 c1,.slice B1 m1 d1,.bool u1]) HS 4 rfl rfl rfl asQ asO rfl rfl<|JL.load (.agg #[.bool s2,.slice A2 n2 c2,.slice B2 m2 d2,.bool u2]) HS 3 rfl rfl rfl asQ asO rfl rfl<|JL.call rfl rfl Tryz.call33 (alz HT HB HS (HS.at_ 4 rfl) (HS.at_ 3 rfl) af af ⟨rfl,t1⟩ ⟨rfl,t2⟩)<|?_;rintro v34 vz ⟨rfl,HS⟩;refine Lm rfl<|Lx rfl rfl<|Lx rfl rfl<|La rfl<|La rfl<|Jn<|Js<|JL.load (.agg #[.bool s1,.slice A1 n1 c1,.slice B1 m1 d1,.bool u1]) HS 4 rfl rfl rfl asQ asO rfl rfl<|JL.load (.agg #[.bool s2,.slice A2 n2 c2,.slice B2 m2 d2,.bool u2]) HS 3 rfl rfl rfl asQ asO rfl rfl<|JL.call rfl rfl Tryz.call34 (aly HT HB HS (HS.at_ 4 rfl) (HS.at_ 3 rfl) af af ⟨rfl,t1⟩ ⟨rfl,t2⟩)<|?_;rintro v35 zK ⟨FN,Cb,n35,Dn,CJ,m35,d35,rfl,HS⟩;refine Lm rfl<|Lx rfl rfl<|Lx rfl rfl<|JL.alloc (vs:=[.bool false,.slice none 0 0,.slice none 0 0,.bool false]) HS rfl asU rfl rfl (fun Ak J6 HS => ?_);refine JL.store HS rfl rfl (i:=0) rfl asO rfl rfl rfl (vs':=[.bool FN,.slice Cb n35 Dn,.slice CJ m35 d35,.bool (vk u1 q1 u2 q2)]) rfl rfl (fun PL HS => ?_);refine La rfl<|Jn<|Js<|JL.load (.agg #[.bool s1,.slice A1 n1 c1,.slice B1 m1 d1,.bool u1]) HS 5 rfl rfl rfl asQ asO rfl rfl<|JL.load (.agg #[.bool iK,.slice iw gB iE,.slice iC gu iT,.bool iL,.slice iy gG iF,.slice iD gy iU]) HS 3 rfl rfl rfl atm as6 rfl rfl<|JL.call rfl rfl atN (F8 HT HB HS (HS.at_ 5 rfl) (HS.at_ 3 rfl) (HS.at_ 2 rfl) af af af ⟨rfl,t1⟩)<|?_
    rintro v38 PM ⟨zF,xY,yX,yw,x8,yQ,yA,zG,xZ,yY,yx,x9,yR,yB,rfl,HS⟩;refine Lm rfl<|Lx rfl rfl<|Lx rfl rfl<|JL.alloc (vs:=[.bool false,.slice none 0 0,.slice none 0 0,.bool false,.slice none 0 0,.slice none 0 0]) HS rfl atg rfl rfl (fun Am PN HS => ?_);refine JL.store HS rfl rfl (i:=0) rfl as6 rfl rfl rfl (vs':=[.bool zF,.slice xY yX yw,.slice x8 yQ yA,.bool zG,.slice xZ yY yx,.slice x9 yR yB]) rfl rfl (fun PO HS => ?_);refine La rfl<|Jn<|Js<|JL.load (.agg #[.bool s1,.slice A1 n1 c1,.slice B1 m1 d1,.bool u1]) HS 6 rfl rfl rfl asQ asO rfl rfl<|JL.call rfl rfl as5 (kR HT HB HS (HS.at_ 7 rfl) af ⟨rfl,t1⟩)<|?_;rintro v41 PR ⟨rfl,HS⟩;refine La rfl<|Jn<|JC.seq<|Js<|Lm rfl<|Lz (.bool false) (fun a ha=>eH (ha.ev rfl) (ha.ev rfl) ai)<|Jn<|JC.bJ rfl<|Jk<|Js<|JL.load (.agg #[.bool s1,.slice A1 n1 c1,.slice B1 m1 d1,.bool u1]) HS 6 rfl rfl rfl asQ asO rfl rfl<|JL.load (.agg #[.bool iK,.slice iw gB iE,.slice iC gu iT,.bool iL,.slice iy gG iF,.slice iD gy iU]) HS 4 rfl rfl rfl atm as6 rfl rfl<|JL.call rfl rfl Tryz.call36 (YN HT HB HS (HS.at_ 7 rfl) (HS.at_ 5 rfl) (HS.at_ 4 rfl) af)<|?_;rintro v42 PS ⟨s42a,Qy,n42a,Tq,Q8,WI,Uh,s42b,Qz,n42b,Tt,Q9,WJ,Ui,rfl,HS⟩;refine JL.alloc (vs:=[.bool false,.slice none 0 0,.slice none 0 0,.bool false,.slice none 0 0,.slice none 0 0]) HS rfl atg rfl rfl (fun UT PT HS => ?_);refine JL.store HS rfl rfl (i:=0) rfl as6 rfl rfl rfl (vs':=[.bool s42a,.slice Qy n42a Tq,.slice Q8 WI Uh,.bool s42b,.slice Qz n42b Tt,.slice Q9 WJ Ui]) rfl rfl (fun w44 HS => ?_);refine Jn<|JC.seq<|Js<|Lm rfl<|Lz (.bool false) (fun a ha=>fG (ha.ev rfl) rfl asY)<|Lm rfl<|bz (.pointer (some ⟨Am,0,none⟩)) (fun a ha=>dF (ha.ev rfl) as2 rfl asR rfl rfl)<|bz (.agg #[.bool zF,.slice xY yX yw,.slice x8 yQ yA]) (fun a ha=>eG (ha.ev rfl) asT asR (HS.box _ au) rfl rfl)<|bz (.pointer (some ⟨UT,0,none⟩)) (fun a ha=>dF (ha.ev rfl) as2 rfl asR rfl rfl)<|bz (.agg #[.bool s42a,.slice Qy n42a Tq,.slice Q8 WI Uh]) (fun a ha=>eG (ha.ev rfl) asT asR (HS.box _ ak) rfl rfl)<|JL.dN rfl rfl rfl rfl rfl rfl atH (BA HT HB HS (HS.at_ 2 rfl) (HS.at_ 0 rfl) af)<|?_
    rintro v45 PU ⟨rfl,HS⟩;refine bz (.bool false) (fun a ha=>eH (ha.ev rfl) (ha.ev rfl) ((H7 _ _).trans (congrArg (! ·) (decide_eq_true rfl))))<|Lf rfl rfl<|Lm rfl<|bz (.pointer (some ⟨Am,3,none⟩)) (fun a ha=>dF (ha.ev rfl) as2 rfl asR rfl rfl)<|bz (.agg #[.bool zG,.slice xZ yY yx,.slice x9 yR yB]) (fun a ha=>eG (ha.ev rfl) asT asR (HS.box _ au) rfl rfl)<|bz (.pointer (some ⟨UT,3,none⟩)) (fun a ha=>dF (ha.ev rfl) as2 rfl asR rfl rfl)<|bz (.agg #[.bool s42b,.slice Qz n42b Tt,.slice Q9 WJ Ui]) (fun a ha=>eG (ha.ev rfl) asT asR (HS.box _ ak) rfl rfl)<|JL.dN rfl rfl rfl rfl rfl rfl atH (BA HT HB HS (HS.at_ 3 rfl) (HS.at_ 1 rfl) af)<|?_;rintro v46 w46 ⟨rfl,HS⟩;refine bz (.bool false) (fun a ha=>eH (ha.ev rfl) (ha.ev rfl) ((H7 _ _).trans (congrArg (! ·) (decide_eq_true rfl))))<|Lf rfl rfl<|Jn<|JC.bJ rfl<|Jk<|JC.seq<|Js<|JL.load (.agg #[.bool s2,.slice A2 n2 c2,.slice B2 m2 d2,.bool u2]) HS 6 rfl rfl rfl asQ asO rfl rfl<|JL.call rfl rfl as5 (kR HT HB HS (HS.at_ 8 rfl) af ⟨rfl,t2⟩)<|?_;rintro v47 PV ⟨rfl,HS⟩;refine La rfl<|Jn<|Js<|Lm rfl<|Lz (.bool false) (fun a ha=>eH (ha.ev rfl) (ha.ev rfl) ai)<|Jn<|JC.bJ rfl<|Jk<|JC.seq<|JC.draw HS [] ah (fun PW HS => ?_);refine Dm 0 rfl HS.b0 rfl<|Dv (.bool true) 1 rfl HS.b0 (fun a ha w=>xy (ha.ev rfl) rfl asY)<|Dm 2 rfl HS.b0 rfl<|Dg (.nilIface) 3 rfl HS.b0 (fun a ha w=>run_move (ha.ev rfl))<|Dg (.bool true) 4 rfl HS.b0 (fun a ha w=>xy (ha.ev rfl) rfl asY)<|Dv (.bool true) 5 rfl HS.b0 (fun a ha w=>ku (ha.ev rfl) (ha.ev rfl))<|Dm 6 rfl HS.b0 rfl<|Dg (.nilIface) 7 rfl HS.b0 (fun a ha w=>run_move (ha.ev rfl))<|Dg (.bool true) 8 rfl HS.b0 (fun a ha w=>xy (ha.ev rfl) rfl asY)<|Dv (.bool true) 9 rfl HS.b0 (fun a ha w=>ku (ha.ev rfl) (ha.ev rfl))<|Dm 10 rfl HS.b0 rfl<|kU (.agg #[.bool zC,.slice xW n31 c31,.slice GM m31 d31,.bool (cO u1 q1 u2 q2)]) 11 3 ah rfl (fun _ _ _ h=>h) rfl rfl rfl rfl rfl HS.b0 rfl rfl asQ asO rfl rfl<|kU (.agg #[.bool s1,.slice A1 n1 c1,.slice B1 m1 d1,.bool u1]) 12 7 ah rfl (fun _ _ _ h=>h) rfl rfl rfl rfl rfl HS.b0 rfl rfl asQ asO rfl rfl<|kU (.agg #[.bool s2,.slice A2 n2 c2,.slice B2 m2 d2,.bool u2]) 13 6 ah rfl (fun _ _ _ h=>h) rfl rfl rfl rfl rfl HS.b0 rfl rfl asQ asO rfl rfl<|J1 14 ah<|bC.dN rfl rfl rfl rfl rfl rfl rfl aty (zB HT HB HS (HS.at_ 9 rfl) (HS.at_ 8 rfl) af t1 t2) rfl (fun aqO ar4 ace => ?_) bC.nil
    obtain ⟨ap2,amY,apl,anM,anf,aoT,an4,rfl,HS⟩:=ace;refine ⟨HS.b0,?_⟩;refine J1 15 ah<|bC.dN rfl rfl rfl rfl rfl rfl rfl atM (BD HT HB HS (HS.at_ 6 rfl) (HS.at_ 0 rfl) af rfl rfl) rfl (fun aqP ar5 acf => ?_) bC.nil;obtain ⟨rfl,HS⟩:=acf;refine ⟨HS.b0,?_⟩;refine Dv (.bool true) 16 rfl HS.b0 (fun a ha w=>ku (ha.ev rfl) (ha.ev rfl))<|Dm 17 rfl HS.b0 rfl<|Dg (.int .i64 (fP u1 q1 u2 q2)) 18 rfl HS.b0 (fun a ha w=>run_move (ha.ev rfl))<|kU (.agg #[.bool s1,.slice A1 n1 c1,.slice B1 m1 d1,.bool u1]) 19 7 ah rfl (fun _ _ _ h=>h) rfl rfl rfl rfl rfl HS.b0 rfl rfl asQ asO rfl rfl<|kU (.agg #[.bool s2,.slice A2 n2 c2,.slice B2 m2 d2,.bool u2]) 20 6 ah rfl (fun _ _ _ h=>h) rfl rfl rfl rfl rfl HS.b0 rfl rfl asQ asO rfl rfl<|J1 21 ah<|bC.dN rfl rfl rfl rfl rfl rfl rfl Tryz.call39 (OC HT HB HS (HS.at_ 10 rfl) (HS.at_ 9 rfl) af) rfl (fun aqR ar6 acg => ?_) bC.nil;obtain ⟨rfl,HS⟩:=acg;refine ⟨HS.b0,?_⟩;refine Dg (.bool true) 22 rfl HS.b0 (fun a ha w=>jA (ha.ev rfl) (ha.ev rfl) (by simp))<|Dv (.bool true) 23 rfl HS.b0 (fun a ha w=>ku (ha.ev rfl) (ha.ev rfl))<|Dm 24 rfl HS.b0 rfl<|kU (.agg #[.bool FN,.slice Cb n35 Dn,.slice CJ m35 d35,.bool (vk u1 q1 u2 q2)]) 25 2 ah rfl (fun _ _ _ h=>h) rfl rfl rfl rfl rfl HS.b0 rfl rfl asQ asO rfl rfl<|kU (.agg #[.bool s1,.slice A1 n1 c1,.slice B1 m1 d1,.bool u1]) 26 7 ah rfl (fun _ _ _ h=>h) rfl rfl rfl rfl rfl HS.b0 rfl rfl asQ asO rfl rfl<|kU (.agg #[.bool s2,.slice A2 n2 c2,.slice B2 m2 d2,.bool u2]) 27 6 ah rfl (fun _ _ _ h=>h) rfl rfl rfl rfl rfl HS.b0 rfl rfl asQ asO rfl rfl<|J1 28 ah<|bC.dN rfl rfl rfl rfl rfl rfl rfl Tryz.call40 (akk HT HB HS (HS.at_ 10 rfl) (HS.at_ 9 rfl) af t1 t2) rfl (fun aqS ar7 ach => ?_) bC.nil;obtain ⟨ap3,amZ,apm,anN,ang,aoU,an5,rfl,HS⟩:=ach;refine ⟨HS.b0,?_⟩;refine J1 29 ah<|?_;have HS:=HS.add (FV.stable _ _ _ _) (FV.lesser (HS.at_ 0 rfl) (HS.at_ 6 rfl));refine bC.dN rfl rfl rfl rfl rfl rfl rfl atM (BD HT HB HS (HS.at_ 7 rfl) (HS.at_ 0 rfl) af rfl rfl) rfl (fun aqT ar8 aci => ?_) bC.nil;obtain ⟨rfl,HS⟩:=aci;refine ⟨HS.b0,?_⟩
    refine Dv (.bool true) 30 rfl HS.b0 (fun a ha w=>ku (ha.ev rfl) (ha.ev rfl))<|Ds 31 rfl HS.b0 rfl<|JR.next ah (fun _ _ h=>h)<|Ja Tryz.results5 (.tmp rfl)<|?_;exact ⟨rfl,HS.o0 8 17⟩
   ·skip
    refine JC.seq<|?_;obtain ⟨rfl,t1⟩:=hc29;refine JC.region<|JL.load (.agg #[.bool s1,.slice A1 n1 c1,.slice B1 m1 d1,.bool u1]) HS 3 rfl rfl rfl asQ asO rfl rfl<|JL.load (.agg #[.bool s2,.slice A2 n2 c2,.slice B2 m2 d2,.bool u2]) HS 2 rfl rfl rfl asQ asO rfl rfl<|JL.call rfl rfl atq (ZP HT HB HS (HS.at_ 3 rfl) (HS.at_ 2 rfl) af af (fun h=>lN h.2))<|?_;rintro v50 PX ⟨rfl,HS⟩;refine Lm rfl<|Lx rfl rfl<|Lx rfl rfl<|JL.alloc (vs:=[.bool false,.slice none 0 0,.slice none 0 0,.bool false]) HS rfl asU rfl rfl (fun UU PY HS => ?_);refine JL.store HS rfl rfl (i:=0) rfl asO rfl rfl rfl (vs':=[.bool false,.slice none 0 0,.slice none 0 0,.bool false]) rfl rfl (fun PZ HS => ?_);refine La rfl<|Jn<|Js<|JL.load (.agg #[.bool s1,.slice A1 n1 c1,.slice B1 m1 d1,.bool u1]) HS 4 rfl rfl rfl asQ asO rfl rfl<|JL.load (.agg #[.bool s2,.slice A2 n2 c2,.slice B2 m2 d2,.bool u2]) HS 3 rfl rfl rfl asQ asO rfl rfl<|JL.call rfl rfl Tryz.call33 (ZR HT HB HS (HS.at_ 3 rfl) (HS.at_ 2 rfl) af af (fun h=>lN h.2))<|?_;rintro v53 w53 ⟨rfl,HS⟩;refine Lm rfl<|Lx rfl rfl<|Lx rfl rfl<|La rfl<|La rfl<|Jn<|Js<|JL.load (.agg #[.bool s1,.slice A1 n1 c1,.slice B1 m1 d1,.bool u1]) HS 4 rfl rfl rfl asQ asO rfl rfl<|JL.load (.agg #[.bool s2,.slice A2 n2 c2,.slice B2 m2 d2,.bool u2]) HS 3 rfl rfl rfl asQ asO rfl rfl<|JL.call rfl rfl Tryz.call34 (ZQ HT HB HS (HS.at_ 3 rfl) (HS.at_ 2 rfl) af af (fun h=>lN h.2))<|?_;rintro v54 w54 ⟨rfl,HS⟩;refine Lm rfl<|Lx rfl rfl<|Lx rfl rfl<|JL.alloc (vs:=[.bool false,.slice none 0 0,.slice none 0 0,.bool false]) HS rfl asU rfl rfl (fun g55 w55 HS => ?_);refine JL.store HS rfl rfl (i:=0) rfl asO rfl rfl rfl (vs':=[.bool false,.slice none 0 0,.slice none 0 0,.bool false]) rfl rfl (fun w56 HS => ?_);refine La rfl<|Jn<|Js<|JL.load (.agg #[.bool s1,.slice A1 n1 c1,.slice B1 m1 d1,.bool u1]) HS 5 rfl rfl rfl asQ asO rfl rfl<|JL.load (.agg #[.bool iK,.slice iw gB iE,.slice iC gu iT,.bool iL,.slice iy gG iF,.slice iD gy iU]) HS 3 rfl rfl rfl atm as6 rfl rfl<|JL.call rfl rfl atN (F8 HT HB HS (HS.at_ 3 rfl) (HS.at_ 1 rfl) (HS.at_ 0 rfl) af af af ⟨rfl,t1⟩)<|?_
    rintro v57 w57 ⟨Zh,QD,Xh,TD,Rj,WL,Uj,Zi,QE,Xi,TE,Rk,WM,Uk,rfl,HS⟩;refine Lm rfl<|Lx rfl rfl<|Lx rfl rfl<|JL.alloc (vs:=[.bool false,.slice none 0 0,.slice none 0 0,.bool false,.slice none 0 0,.slice none 0 0]) HS rfl atg rfl rfl (fun Mc w58 HS => ?_);refine JL.store HS rfl rfl (i:=0) rfl as6 rfl rfl rfl (vs':=[.bool Zh,.slice QD Xh TD,.slice Rj WL Uj,.bool Zi,.slice QE Xi TE,.slice Rk WM Uk]) rfl rfl (fun w59 HS => ?_);refine La rfl<|Jn<|Js<|JL.load (.agg #[.bool s1,.slice A1 n1 c1,.slice B1 m1 d1,.bool u1]) HS 6 rfl rfl rfl asQ asO rfl rfl<|JL.call rfl rfl as5 (kR HT HB HS (HS.at_ 5 rfl) af ⟨rfl,t1⟩)<|?_;rintro v60 w60 ⟨rfl,HS⟩;refine La rfl<|Jn<|JC.seq<|Js<|Lm rfl<|Lz (.bool false) (fun a ha=>eH (ha.ev rfl) (ha.ev rfl) ai)<|Jn<|JC.bJ rfl<|Jk<|Js<|JL.load (.agg #[.bool s1,.slice A1 n1 c1,.slice B1 m1 d1,.bool u1]) HS 6 rfl rfl rfl asQ asO rfl rfl<|JL.load (.agg #[.bool iK,.slice iw gB iE,.slice iC gu iT,.bool iL,.slice iy gG iF,.slice iD gy iU]) HS 4 rfl rfl rfl atm as6 rfl rfl<|JL.call rfl rfl Tryz.call36 (YN HT HB HS (HS.at_ 5 rfl) (HS.at_ 3 rfl) (HS.at_ 2 rfl) af)<|?_;rintro v61 w61 ⟨Zk,QG,Xj,TG,Rn,WN,Ul,Zl,QH,Xk,TI,Ro,WO,Um,rfl,HS⟩;refine JL.alloc (vs:=[.bool false,.slice none 0 0,.slice none 0 0,.bool false,.slice none 0 0,.slice none 0 0]) HS rfl atg rfl rfl (fun UW w62 HS => ?_);refine JL.store HS rfl rfl (i:=0) rfl as6 rfl rfl rfl (vs':=[.bool Zk,.slice QG Xj TG,.slice Rn WN Ul,.bool Zl,.slice QH Xk TI,.slice Ro WO Um]) rfl rfl (fun w63 HS => ?_);refine Jn<|JC.seq<|Js<|Lm rfl<|Lz (.bool false) (fun a ha=>fG (ha.ev rfl) rfl asY)<|Lm rfl<|bz (.pointer (some ⟨Mc,0,none⟩)) (fun a ha=>dF (ha.ev rfl) as2 rfl asR rfl rfl)<|bz (.agg #[.bool Zh,.slice QD Xh TD,.slice Rj WL Uj]) (fun a ha=>eG (ha.ev rfl) asT asR (HS.box _ au) rfl rfl)<|bz (.pointer (some ⟨UW,0,none⟩)) (fun a ha=>dF (ha.ev rfl) as2 rfl asR rfl rfl)<|bz (.agg #[.bool Zk,.slice QG Xj TG,.slice Rn WN Ul]) (fun a ha=>eG (ha.ev rfl) asT asR (HS.box _ ak) rfl rfl)<|JL.dN rfl rfl rfl rfl rfl rfl atH (BA HT HB HS (HS.at_ 2 rfl) (HS.at_ 0 rfl) af)<|?_
    rintro v64 nH ⟨rfl,HS⟩;refine bz (.bool false) (fun a ha=>eH (ha.ev rfl) (ha.ev rfl) ((H7 _ _).trans (congrArg (! ·) (decide_eq_true rfl))))<|Lf rfl rfl<|Lm rfl<|bz (.pointer (some ⟨Mc,3,none⟩)) (fun a ha=>dF (ha.ev rfl) as2 rfl asR rfl rfl)<|bz (.agg #[.bool Zi,.slice QE Xi TE,.slice Rk WM Uk]) (fun a ha=>eG (ha.ev rfl) asT asR (HS.box _ au) rfl rfl)<|bz (.pointer (some ⟨UW,3,none⟩)) (fun a ha=>dF (ha.ev rfl) as2 rfl asR rfl rfl)<|bz (.agg #[.bool Zl,.slice QH Xk TI,.slice Ro WO Um]) (fun a ha=>eG (ha.ev rfl) asT asR (HS.box _ ak) rfl rfl)<|JL.dN rfl rfl rfl rfl rfl rfl atH (BA HT HB HS (HS.at_ 3 rfl) (HS.at_ 1 rfl) af)<|?_;rintro v65 w65 ⟨rfl,HS⟩;refine bz (.bool false) (fun a ha=>eH (ha.ev rfl) (ha.ev rfl) ((H7 _ _).trans (congrArg (! ·) (decide_eq_true rfl))))<|Lf rfl rfl<|Jn<|JC.bJ rfl<|Jk<|JC.seq<|Js<|JL.load (.agg #[.bool s2,.slice A2 n2 c2,.slice B2 m2 d2,.bool u2]) HS 6 rfl rfl rfl asQ asO rfl rfl<|JL.call rfl rfl as5 (sU HT HB HS (HS.at_ 6 rfl) af lN)<|?_;rintro v66 w66 ⟨rfl,HS⟩;refine La rfl<|Jn<|Js<|Lm rfl<|Lz (.bool true) (fun a ha=>eH (ha.ev rfl) (ha.ev rfl) ai)<|Jn<|JC.bH rfl<|Js<|Lm rfl<|JL.call rfl rfl att (sF HS 2)<|?_;rintro v67 w67 ⟨rfl,HS⟩;refine Lm rfl<|Lz (.bool true) (fun a ha=>jA (ha.ev rfl) (ha.ev rfl) ai)<|Lm rfl<|fD rfl<|JL.dN rfl rfl rfl rfl rfl rfl att (sF HS 2)<|?_;rintro v68 w68 ⟨rfl,HS⟩;refine fD rfl<|bz (.bool true) (fun a ha=>jA (ha.ev rfl) (ha.ev rfl) ai)<|Lt rfl rfl<|Lm rfl<|fD rfl<|JL.dN rfl rfl rfl rfl rfl rfl att (sF HS 2)<|?_;rintro v69 w69 ⟨rfl,HS⟩;refine fD rfl<|bz (.bool true) (fun a ha=>jA (ha.ev rfl) (ha.ev rfl) ai)<|Lt rfl rfl<|Lm rfl<|fD rfl<|bz (.bool true) (fun a ha=>jA (ha.ev rfl) (ha.ev rfl) ai)<|Lt rfl rfl<|La rfl<|Jn<|Ja Tryz.results5 (.tmp rfl)<|?_;exact ⟨rfl,HS.o0 8 12⟩
  ·skip
   refine Js<|JL.load (.agg #[.bool s1,.slice A1 n1 c1,.slice B1 m1 d1,.bool u1]) HS 3 rfl rfl rfl asQ asO rfl rfl<|JL.load (.agg #[.bool s2,.slice A2 n2 c2,.slice B2 m2 d2,.bool u2]) HS 2 rfl rfl rfl asQ asO rfl rfl<|JL.call rfl rfl atq (ZP HT HB HS (HS.at_ 3 rfl) (HS.at_ 2 rfl) af af (fun h=>hc29 h.1))<|?_;rintro v70 w70 ⟨rfl,HS⟩;refine Lm rfl<|Lx rfl rfl<|Lx rfl rfl<|JL.alloc (vs:=[.bool false,.slice none 0 0,.slice none 0 0,.bool false]) HS rfl asU rfl rfl (fun g71 w71 HS => ?_);refine JL.store HS rfl rfl (i:=0) rfl asO rfl rfl rfl (vs':=[.bool false,.slice none 0 0,.slice none 0 0,.bool false]) rfl rfl (fun w72 HS => ?_);refine La rfl<|Jn<|Js<|JL.load (.agg #[.bool s1,.slice A1 n1 c1,.slice B1 m1 d1,.bool u1]) HS 4 rfl rfl rfl asQ asO rfl rfl<|JL.load (.agg #[.bool s2,.slice A2 n2 c2,.slice B2 m2 d2,.bool u2]) HS 3 rfl rfl rfl asQ asO rfl rfl<|JL.call rfl rfl Tryz.call33 (ZR HT HB HS (HS.at_ 3 rfl) (HS.at_ 2 rfl) af af (fun h=>hc29 h.1))<|?_;rintro v73 w73 ⟨rfl,HS⟩;refine Lm rfl<|Lx rfl rfl<|Lx rfl rfl<|La rfl<|La rfl<|Jn<|Js<|JL.load (.agg #[.bool s1,.slice A1 n1 c1,.slice B1 m1 d1,.bool u1]) HS 4 rfl rfl rfl asQ asO rfl rfl<|JL.load (.agg #[.bool s2,.slice A2 n2 c2,.slice B2 m2 d2,.bool u2]) HS 3 rfl rfl rfl asQ asO rfl rfl<|JL.call rfl rfl Tryz.call34 (ZQ HT HB HS (HS.at_ 3 rfl) (HS.at_ 2 rfl) af af (fun h=>hc29 h.1))<|?_;rintro v74 w74 ⟨rfl,HS⟩;refine Lm rfl<|Lx rfl rfl<|Lx rfl rfl<|JL.alloc (vs:=[.bool false,.slice none 0 0,.slice none 0 0,.bool false]) HS rfl asU rfl rfl (fun g75 w75 HS => ?_);refine JL.store HS rfl rfl (i:=0) rfl asO rfl rfl rfl (vs':=[.bool false,.slice none 0 0,.slice none 0 0,.bool false]) rfl rfl (fun w76 HS => ?_);refine La rfl<|Jn<|Js<|JL.load (.agg #[.bool s1,.slice A1 n1 c1,.slice B1 m1 d1,.bool u1]) HS 5 rfl rfl rfl asQ asO rfl rfl<|JL.load (.agg #[.bool iK,.slice iw gB iE,.slice iC gu iT,.bool iL,.slice iy gG iF,.slice iD gy iU]) HS 3 rfl rfl rfl atm as6 rfl rfl<|JL.call rfl rfl atN (alx HT HB HS (HS.at_ 3 rfl) (HS.at_ 1 rfl) (HS.at_ 0 rfl) af (fun h=>hc29 h))<|?_
   rintro v77 w77 ⟨rfl,HS⟩;refine Lm rfl<|Lx rfl rfl<|Lx rfl rfl<|JL.alloc (vs:=[.bool false,.slice none 0 0,.slice none 0 0,.bool false,.slice none 0 0,.slice none 0 0]) HS rfl atg rfl rfl (fun Ij w78 HS => ?_);refine JL.store HS rfl rfl (i:=0) rfl as6 rfl rfl rfl (vs':=[.bool false,.slice none 0 0,.slice none 0 0,.bool false,.slice none 0 0,.slice none 0 0]) rfl rfl (fun w79 HS => ?_);refine La rfl<|Jn<|Js<|JL.load (.agg #[.bool s1,.slice A1 n1 c1,.slice B1 m1 d1,.bool u1]) HS 6 rfl rfl rfl asQ asO rfl rfl<|JL.call rfl rfl as5 (sU HT HB HS (HS.at_ 3 rfl) af hc29)<|?_;rintro v80 w80 ⟨rfl,HS⟩;refine La rfl<|Jn<|JC.seq<|Js<|Lm rfl<|Lz (.bool true) (fun a ha=>eH (ha.ev rfl) (ha.ev rfl) ai)<|Jn<|JC.bH rfl<|Js<|Lm rfl<|JL.call rfl rfl att (sF HS 2)<|?_;rintro v81 w81 ⟨rfl,HS⟩;refine Lm rfl<|Lz (.bool true) (fun a ha=>jA (ha.ev rfl) (ha.ev rfl) ai)<|Lm rfl<|fD rfl<|JL.dN rfl rfl rfl rfl rfl rfl att (sF HS 2)<|?_;rintro v82 w82 ⟨rfl,HS⟩;refine fD rfl<|bz (.bool true) (fun a ha=>jA (ha.ev rfl) (ha.ev rfl) ai)<|Lt rfl rfl<|Lm rfl<|fD rfl<|JL.dN rfl rfl rfl rfl rfl rfl att (sF HS 2)<|?_;rintro v83 w83 ⟨rfl,HS⟩;refine fD rfl<|bz (.bool true) (fun a ha=>jA (ha.ev rfl) (ha.ev rfl) ai)<|Lt rfl rfl<|Lm rfl<|fD rfl<|JL.dN rfl rfl rfl rfl rfl rfl att (sF HS 2)<|?_;rintro v84 w84 ⟨rfl,HS⟩;refine fD rfl<|bz (.bool true) (fun a ha=>jA (ha.ev rfl) (ha.ev rfl) ai)<|Lt rfl rfl<|Lm rfl<|fD rfl<|bz (.bool true) (fun a ha=>jA (ha.ev rfl) (ha.ev rfl) ai)<|Lt rfl rfl<|Lm rfl<|bz (.pointer (some ⟨g71,3,none⟩)) (fun a ha=>dF (ha.ev rfl) asV rfl as4 rfl rfl)<|bz (.bool false) (fun a ha=>ji (ha.ev rfl) as3 (HS.box _ ay) rfl)<|bz (.bool true) (fun a ha=>jK (b:=false) (ha.ev rfl))<|Lt rfl rfl<|Lm rfl<|bz (.pointer (some ⟨g75,3,none⟩)) (fun a ha=>dF (ha.ev rfl) asV rfl as4 rfl rfl)<|bz (.bool false) (fun a ha=>ji (ha.ev rfl) as3 (HS.box _ au) rfl)<|bz (.bool true) (fun a ha=>jK (b:=false) (ha.ev rfl))<|Lt rfl rfl<|Lm rfl<|bz (.pointer (some ⟨Ij,0,none⟩)) (fun a ha=>dF (ha.ev rfl) as2 rfl asR rfl rfl)<|bz (.pointer (some ⟨Ij,1,none⟩)) (fun a ha=>dF (ha.ev rfl) as9 rfl ata rfl rfl)<|bz (.slice none 0 0) (fun a ha=>ji (ha.ev rfl) atb (HS.box _ ak) rfl)<|bz (.int .i64 0) (fun a ha=>o6 (ha.ev rfl) atc)<|bz (.pointer (some ⟨Ij,3,none⟩)) (fun a ha=>dF (ha.ev rfl) as2 rfl asR rfl rfl)<|bz (.pointer (some ⟨Ij,4,none⟩)) (fun a ha=>dF (ha.ev rfl) as9 rfl ata rfl rfl)<|bz (.slice none 0 0) (fun a ha=>ji (ha.ev rfl) atb (HS.box _ ak) rfl)<|bz (.int .i64 0) (fun a ha=>o6 (ha.ev rfl) atc)<|bz (.int .i64 0) (fun a ha=>fF (ha.ev rfl) (ha.ev rfl) ai)<|bz (.bool true) (fun a ha=>jA (ha.ev rfl) (ha.ev rfl) ai)<|Lt rfl rfl<|La rfl<|Jn<|Ja Tryz.results5 (.tmp rfl)<|?_
   exact ⟨rfl,HS.o0 7 8⟩
theorem alZ  {s1:Bool} {A1:Option Addr} {n1 c1:Nat} {B1:Option Addr} {m1 d1:Nat} {q1:Rat} {k1:Nat} {b1:Bool} {u1:Bool} {s2:Bool} {A2:Option Addr} {n2 c2:Nat} {B2:Option Addr} {m2 d2:Nat} {q2:Rat} {k2:Nat} {b2:Bool} {u2:Bool} {iK:Bool} {iw:Option Addr} {gB iE:Nat} {iC:Option Addr} {gu iT:Nat} {je:Rat} {uH:Nat} {tX:Bool} {iL:Bool} {iy:Option Addr} {gG iF:Nat} {iD:Option Addr} {gy iU:Nat} {jf:Rat} {uI:Nat} {tY:Bool} (W:World) (ht:Tz W) (hb:Tab W) (_hx:Mx W) (f1:bV W ⟨.agg #[.bool s1,.slice A1 n1 c1,.slice B1 m1 d1],q1,k1,b1⟩) (f2:bV W ⟨.agg #[.bool s2,.slice A2 n2 c2,.slice B2 m2 d2],q2,k2,b2⟩) (nS:bV W ⟨.agg #[.bool iK,.slice iw gB iE,.slice iC gu iT],je,uH,tX⟩) (nT:bV W ⟨.agg #[.bool iL,.slice iy gG iF,.slice iD gy iU],jf,uI,tY⟩)  :
  Calls Tryz.prog 5 #[.agg #[.bool s1,.slice A1 n1 c1,.slice B1 m1 d1,.bool u1],.agg #[.bool s2,.slice A2 n2 c2,.slice B2 m2 d2,.bool u2],.agg #[.bool iK,.slice iw gB iE,.slice iC gu iT,.bool iL,.slice iy gG iF,.slice iD gy iU]] W fun e w'=>e = .returned (.bool true)/\Below W.heap.size W w':=law_true (al0 ht hb (St.init W) f1 f2 nS nT)
end
end Go.Proofs.BGQ
