/- Part of a proof, said shortly. -/
import Derived.Test.YtbihljnjaondcaaGreatDoorCards
import Derived.Test.YtbihljnjaondcaaGreatDoorTie
import Derived.WalkKit
import Derived.ProofKit
import Derived.OpenShut
import Derived.Carry
import Derived.Deep.DeepHandedRow
import Derived.Deep.DeepLaidRun
import Derived.Lib.LaidTab
import Derived.Lib.SmallJoins
import Derived.LaidSub
import Derived.LaidMore
import Derived.Shelf.Vars
import Derived.LoopN
import Derived.Test.YtbihljnjaondcaaGreatDoorAlz
import Derived.Test.YtbihljnjaondcaaGreatDoorC13
import Derived.Test.YtbihljnjaondcaaGreatDoorS4
import Derived.Test.YtbihljnjaondcaaGreatDoorS6
import Derived.Test.YtbihljnjaondcaaGreatDoorC12
import Derived.Test.YtbihljnjaondcaaGreatDoorC11
import Derived.Test.YtbihljnjaondcaaGreatDoorC10
import Derived.Test.YtbihljnjaondcaaGreatDoorC6
import Derived.Test.YtbihljnjaondcaaGreatDoorC2
import Derived.Test.YtbihljnjaondcaaGreatDoorC1
import Derived.Test.YtbihljnjaondcaaGreatDoorC5
import Derived.Test.YtbihljnjaondcaaGreatDoorC4
import Derived.Test.YtbihljnjaondcaaGreatDoorC3
import Derived.Test.YtbihljnjaondcaaGreatDoorC9
import Derived.Test.YtbihljnjaondcaaGreatDoorC8
import Derived.Test.YtbihljnjaondcaaGreatDoorC7
import Derived.Test.YtbihljnjaondcaaGreatDoorS7
import Derived.Test.YtbihljnjaondcaaGreatDoorC14
import Derived.Test.YtbihljnjaondcaaGreatDoorC16
import Derived.Test.YtbihljnjaondcaaGreatDoorC20
import Derived.Test.YtbihljnjaondcaaGreatDoorC15
import Derived.Test.YtbihljnjaondcaaGreatDoorS1
import Derived.Test.YtbihljnjaondcaaGreatDoorS19
import Derived.Test.YtbihljnjaondcaaGreatDoorS28
import Derived.Test.YtbihljnjaondcaaGreatDoorC19
import Derived.Test.YtbihljnjaondcaaGreatDoorC18
import Derived.Test.YtbihljnjaondcaaGreatDoorC17
import Derived.Test.YtbihljnjaondcaaGreatDoorC21
import Derived.Test.YtbihljnjaondcaaGreatDoorS2
import Derived.Test.YtbihljnjaondcaaGreatDoorS13
import Derived.Test.YtbihljnjaondcaaGreatDoorS16
import Derived.Test.YtbihljnjaondcaaGreatDoorS22
import Derived.Test.YtbihljnjaondcaaGreatDoorS23
import Derived.Test.YtbihljnjaondcaaGreatDoorS32
import Derived.Test.YtbihljnjaondcaaGreatDoorS10
import Derived.Test.YtbihljnjaondcaaGreatDoorS30
import Derived.Test.YtbihljnjaondcaaGreatDoorC25
import Derived.Test.YtbihljnjaondcaaGreatDoorS12
import Derived.Test.YtbihljnjaondcaaGreatDoorC22
import Derived.Test.YtbihljnjaondcaaGreatDoorS21
import Derived.Test.YtbihljnjaondcaaGreatDoorC23
import Derived.Test.YtbihljnjaondcaaGreatDoorC24
set_option maxRecDepth 100000
open Go.Proofs.YtbihljnjaondcaaGreatDoor (a0p a0q a0r a0s yw bU fO cO PS iy1 PT FX iy4 iy5 iy6 Yo iy8 iy9 aAJ)
set_option linter.unusedVariables false
set_option linter.unusedSimpArgs false
namespace Go.Proofs.YtbihljnjaondcaaGreatDoor
open Go Go.RowKit Lw
section
variable {W0 w:World} {bs:List Bx} {L:List En} {ts:List Bt} {M:List Qn} {s s':Bool} {A A' B B':Option Addr} {n c n' c' m d m' d' k k':Nat} {q r:Rat} {x y:Int} {b b':Bool}
set_option maxRecDepth 100000 in
set_option maxHeartbeats 2400000 in
theorem ay1 (HE:bG W0 w bs L ts M) (h:⟨.agg #[.bool s,.slice A n c,.slice A' n' c'],q,k,b⟩∈M) (hk:k≤100000) :
  Calls Tryz.prog 78 #[.agg #[.bool s,.slice A n c,.slice A' n' c']] w fun e w'=>e = .returned (.int .i64 (nM q))∧bG W0 w' bs L ts M:=by
 refine Calls.mono (R:=fun e w'=>e = .returned (.int .i64 (nM q))∧bG w w' [] L [] M) ?_ fun _ _ hh=>⟨hh.1,HE.back hh.2⟩
 replace HE:=HE.here.gQ (.bool s) (.slice A n c) (.slice A' n' c')
 have HS:=Lib.hid (arW q)
 obtain ⟨q0,q1,q2,q3,q4,q5⟩:=HE.c3 (.head _)
 have HK:=Lib.hid (zT HE h hk)
 by_cases hq:q=0
 ·have HQ:=Lib.hid hq
  clear hq hk
  go_enter Tryz.func78,Tryz.ntmps78
  go_wp2_with fail
  refine HK.out.mono ?_
  rintro e w1 ⟨sx,Ax,nx,cx,Ay,ny,cy,rfl,HE⟩
  have hn:=((HE.fr _ (.head _)).own).2.1
  obtain rfl:=(Jm hn).2 HQ.out
  clear q0 q1 q2 q3 q4 q5 hn
  have HF:=(HE.tK (D:=Ax) (m:=0) (d:=cx) (.head _) sx (.slice Ay ny cy)).bare
  have TA:=(HE.rD (.head _)).put (.bool sx) (.slice Ax 0 cx) (.slice Ay ny cy)
  obtain ⟨q0,q1,q2,q3,q4,q5⟩:=HE.c3 (.head _)
  obtain ⟨z0,z1,z2,z3,z4,z5⟩:=TA.cells
  go_wp2_with fail
  go_ret
  exact ⟨rF (by rw [HQ.out,ajs]),HF.Qq⟩
 ·by_cases hneg:q.num < 0
  ·have HQ:=Lib.hid (show nM q = -1 by rw [HS.out,if_pos hneg])
   have HN:=Lib.hid (show q≠0∧rs q=true from ⟨hq,decide_eq_true hneg⟩)
   clear hq hneg hk
   go_enter Tryz.func78,Tryz.ntmps78
   go_wp2_with fail
   refine HK.out.mono ?_
   rintro e w1 ⟨sx,Ax,nx,cx,Ay,ny,cy,rfl,HE⟩
   have hn:=(HE.fr _ (.head _)).own
   have hn0:((nx:Int)==0)=false:=by rw [beq_eq_false_iff_ne]; have:=mt (Jm hn.2.1).1 HN.out.1; omega
   obtain rfl:sx=true:=hn.1.trans HN.out.2
   clear q0 q1 q2 q3 q4 q5 hn
   have HF:=(HE.tK (D:=Ax) (m:=nx) (d:=cx) (.head _) true (.slice Ay ny cy)).bare
   have TA:=(HE.rD (.head _)).put (.bool true) (.slice Ax nx cx) (.slice Ay ny cy)
   obtain ⟨q0,q1,q2,q3,q4,q5⟩:=HE.c3 (.head _)
   obtain ⟨z0,z1,z2,z3,z4,z5⟩:=TA.cells
   go_wp2_with fail
   go_ret
   exact ⟨rF HQ.out.symm,HF.Qq⟩
  ·have HQ:=Lib.hid (show nM q=1 by rw [HS.out,if_neg hneg,if_neg (fun e=>hq (Rat.num_eq_zero.1 e))])
   have HN:=Lib.hid (show q≠0∧rs q=false from ⟨hq,decide_eq_false hneg⟩)
   clear hq hneg hk
   go_enter Tryz.func78,Tryz.ntmps78
   go_wp2_with fail
   refine HK.out.mono ?_
   rintro e w1 ⟨sx,Ax,nx,cx,Ay,ny,cy,rfl,HE⟩
   have hn:=(HE.fr _ (.head _)).own
   have hn0:((nx:Int)==0)=false:=by rw [beq_eq_false_iff_ne]; have:=mt (Jm hn.2.1).1 HN.out.1; omega
   obtain rfl:sx=false:=hn.1.trans HN.out.2
   clear q0 q1 q2 q3 q4 q5 hn
   have HF:=(HE.tK (D:=Ax) (m:=nx) (d:=cx) (.head _) false (.slice Ay ny cy)).bare
   have TA:=(HE.rD (.head _)).put (.bool false) (.slice Ax nx cx) (.slice Ay ny cy)
   obtain ⟨q0,q1,q2,q3,q4,q5⟩:=HE.c3 (.head _)
   obtain ⟨z0,z1,z2,z3,z4,z5⟩:=TA.cells
   go_wp2_with fail
   go_ret
   exact ⟨rF HQ.out.symm,HF.Qq⟩
end
end Go.Proofs.YtbihljnjaondcaaGreatDoor
namespace Lw
open Go Go.RowKit
def BA (q:Rat):Rat:=if q < 0 then -q else q
theorem aw5 (q:Rat):rs (BA q)=false∧rn (BA q)=rn q∧rd (BA q)=rd q:=by
 unfold BA
 by_cases h:q < 0
 ·rw [if_pos h]
  obtain ⟨f1,f2,f3⟩:=aps (q:=q) rfl
  refine ⟨?_,f2,f3⟩
  rw [f1,show rs q=true from decide_eq_true (adT.2 h)]
  simp
 ·rw [if_neg h]
  exact ⟨decide_eq_false (fun e=>h (adT.1 e)),rfl,rfl⟩
theorem fJ.abs {w:World} {s:Bool} {A A':Option Addr} {n c n' c' k:Nat} {q:Rat} (h:fJ w ⟨.agg #[.bool s,.slice A n c,.slice A' n' c'],q,k,true⟩):fJ w ⟨.agg #[.bool false,.slice A n c,.slice A' n' c'],BA q,k,true⟩:=by
 obtain ⟨h1,h2,h3,r1,r2,h6,h7,h8,h9⟩:=h.own
 obtain ⟨f1,f2,f3⟩:=aw5 q
 rw [← f2] at r1
 rw [← f3] at r2
 have hq:=P9 (BA q)
 have hf:=RD (BA q)
 rw [f1] at hq hf
 exact ⟨false,A,n,c,A',n',c',rn (BA q),rd (BA q),rfl,r1,r2,by rw [f2,h2],by rw [f3,h3],h6,h7,h8,h9,hq,hf⟩
end Lw
namespace Go.Proofs.YtbihljnjaondcaaGreatDoor
open Go Go.RowKit Lw
section
variable {W0 w:World} {bs:List Bx} {L:List En} {ts:List Bt} {M:List Qn} {s s':Bool} {A A' B B':Option Addr} {n c n' c' m d m' d' k k':Nat} {q r:Rat} {b b':Bool}
set_option maxRecDepth 100000 in
set_option maxHeartbeats 1600000 in
theorem ayy (HE:bG W0 w bs L ts M) (h:⟨.agg #[.bool s,.slice A n c,.slice A' n' c'],q,k,b⟩∈M) (hk:k≤100000) :
  Calls Tryz.prog 79 #[.agg #[.bool s,.slice A n c,.slice A' n' c']] w (jB W0 bs L ts M (BA q) k):=by
 refine Calls.mono (R:=jB w [] L [] M (BA q) k) ?_ fun _ _ hh=>jB.of HE hh
 replace HE:=(HE.here.gQ (.bool s) (.slice A n c) (.slice A' n' c')).gQ (.bool false) (.slice none 0 0) (.slice none 0 0)
 simp only [World.size_alloc] at HE
 obtain ⟨q0,q1,q2,q3,q4,q5⟩:=HE.c3 (.tail _ (.head _))
 go_enter Tryz.func79,Tryz.ntmps79
 go_wp2_with fail
 refine (zT HE h hk).mono ?_
 clear HE
 rintro e w1 ⟨s1,A1,n1,c1,B1,m1,d1,rfl,HE⟩
 clear q0 q1 q2 q3 q4 q5
 go_wp2_with fail
 refine (Rq HE (.head _) hk).mono ?_
 clear HE
 rintro e w2 ⟨s2,A2,n2,c2,B2,m2,d2,rfl,HE⟩
 have TA:=(HE.rD (.tail _ (.head _))).put (.bool s2) (.slice A2 n2 c2) (.slice B2 m2 d2)
 have TB:=TA.set0 (.bool false)
 have TR:=((HE.rD (.head _)).IW (g':=w.heap.size) (by omega) (.bool s2) (.slice A2 n2 c2) (.slice B2 m2 d2)).far (p:=⟨w.heap.size,0,none⟩) (by dsimp only; omega) (.bool false)
 have H2:=HE.G9 (D:=A2) (m:=n2) (d:=c2) (s':=s2) (v := .slice B2 m2 d2) (.tail _ (.head _)) [⟨w.heap.size+1,.bool false,.slice none 0 0,.slice none 0 0⟩] (fun b hb=>by simp only [List.mem_cons,List.not_mem_nil,or_false] at hb; subst hb; exact ⟨.head _,by dsimp only; omega⟩)
 have H3:=H2.set0 (.head _) [⟨w.heap.size+1,.bool false,.slice none 0 0,.slice none 0 0⟩] (fun b hb=>by simp only [List.mem_cons,List.not_mem_nil,or_false] at hb; subst hb; exact ⟨.tail _ (.head _),by dsimp only; omega⟩) false
 obtain ⟨q0,q1,q2,q3,q4,q5⟩:=HE.c3 (.tail _ (.head _))
 obtain ⟨z0,z1,z2,z3,z4,z5⟩:=TA.cells
 obtain ⟨y0,y1,y2,y3,y4,y5⟩:=TB.cells
 obtain ⟨x0,x1,x2,x3,x4,x5⟩:=TR.cells
 go_wp2_with fail
 refine bodyPost_ret (v := .agg #[.bool false,.slice A2 n2 c2,.slice B2 m2 d2]) (by simp [results,Tryz.results79,go_sem,x0,x1,x2]) rfl ?_
 have HK:=(H3.tK (D:=A2) (m:=n2) (d:=c2) (.tail _ (.head _)) false (.slice B2 m2 d2)).bare
 have HF:=(HK.fr _ (.head _)).abs
 exact ⟨_,_,_,_,_,_,_,rfl,(HK.Qq.Qq).cons HF⟩
end
end Go.Proofs.YtbihljnjaondcaaGreatDoor
namespace Go.Proofs.YtbihljnjaondcaaGreatDoor
open Go Go.ChangeShapes Go.WideShapes Go.ChangeAt Go.RowKit Go.Joins Lw
set_option maxRecDepth 100000 in
theorem aDM {H:Type} {enc:TypeId×Value→H} {W:World} {base:Nat} {v:Value} {d:DataW H} {p:List MemPlace}
  (hv:Value.okWide Tryz.prog W .any base 24 v) (h:DataW.Trod enc Tryz.prog W 0 (fun _=>true) true 24 v d p) :
  ∃ s A n c B m c' k q b,v = .agg #[.bool s,.slice A n c,.slice B m c']∧fJ W ⟨.agg #[.bool s,.slice A n c,.slice B m c'],q,k,b⟩:=by
 obtain ⟨c0,c1,c2,y0,y1,y2,_,rfl,rfl,rfl,hy0,hy1,hy2⟩:=open_agg3 Tryz.underlying24 (by kernel_rfl) al4 hv h
 obtain ⟨s,e0,rfl⟩:=DataW.trod_bool aYU hy0
 obtain rfl:c0 = .bool s:=by simpa using e0
 obtain ⟨A,n,c,l,rfl,h1,h2,h3⟩:=afj hy1
 obtain ⟨B,m,c',l',rfl,g1,g2,g3⟩:=afj hy2
 exact ⟨s,A,n,c,B,m,c',max n m,qv s l l',fV s l l',rfl,s,A,n,c,B,m,c',l,l',rfl,h1,g1,h2,g2,Nat.le_max_left _ _,Nat.le_max_right _ _,h3,g3,rfl,rfl⟩
end Go.Proofs.YtbihljnjaondcaaGreatDoor
namespace Go.Proofs.YtbihljnjaondcaaGreatDoor
open Go Go.RowKit Lw
section
variable {W0 w:World} {bs:List Bx} {L:List En} {ts:List Bt} {M:List Qn} {v v':Value} {q r:Rat} {k k':Nat} {b b':Bool}
theorem ay2 (HE:bG W0 w bs L ts M) (h:⟨v,q,k,b⟩∈M) (hk:k≤100000) :
  Calls Tryz.prog 78 #[v] w fun e w'=>e = .returned (.int .i64 (nM q))∧bG W0 w' bs L ts M:=by
 obtain ⟨s,A,n,c,A',n',c',e1⟩:=(HE.fr _ h).shape
 dsimp only at e1
 subst e1
 exact ay1 HE h hk
end
end Go.Proofs.YtbihljnjaondcaaGreatDoor
namespace Go.Proofs.YtbihljnjaondcaaGreatDoor
open Go Go.RowKit Lw bZ
section
variable {W0 w w':World} {U:List Box} {Ps:List (World→Prop)} {v v':Value} {q r:Rat} {x y:Int} {k k':Nat} {b b':Bool} {f:FuncId} {vs:List Value} {L:List En} {M:List Qn}
theorem ayx (HT:Tz W0) (HB:Tab W0) (HS:St W0 U Ps w) {s1:Bool} {A1:Option Addr} {n1 c1:Nat} {B1:Option Addr} {m1 d1:Nat} {q1:Rat} {k1:Nat} {b1:Bool} (f1:FV (a0p s1 A1 n1 c1 B1 m1 d1) q1 k1 b1 w) (hk:k1≤100000):bY Tryz.prog 79 [(a0p s1 A1 n1 c1 B1 m1 d1)] w (xY W0 U Ps (BA q1) (k1)) :=
 ana HS (ayy ((St.start HS HT HB).cons f1) (.head _) hk)
theorem NM (HT:Tz W0) (HB:Tab W0) (HS:St W0 U Ps w) {s1:Bool} {A1:Option Addr} {n1 c1:Nat} {B1:Option Addr} {m1 d1:Nat} {q1:Rat} {k1:Nat} {b1:Bool} (f1:FV (a0p s1 A1 n1 c1 B1 m1 d1) q1 k1 b1 w) (hk:k1≤100000):bY Tryz.prog 78 [(a0p s1 A1 n1 c1 B1 m1 d1)] w (iP W0 U Ps (.int .i64 (nM q1))) :=
 GN HS (ay2 ((St.start HS HT HB).cons f1) (.head _) hk)
end
end Go.Proofs.YtbihljnjaondcaaGreatDoor
namespace bZ
open Go Go.RowKit
section
variable {P:Program} {ρ:Operand→Value} {w:World} {dst:Option Tmp} {ty:TypeId} {pos:String} {fB:Array Edge} {gd:Option (Nat×Bool)}
theorem aEX {t t':TypeId} {x y:Operand} {k:IntKind} {a b c:Int} (hx:ρ x = .int k a) (hy:ρ y = .int k b) (hb:b≠0) (h:a.tmod b=c):(execOp ρ ⟨dst,.binOp .rem t x y t',ty,pos,fB,gd⟩).run P w = .ok (.value (.int k c)) w:=by
 subst h
 simp [execOp,hx,hy,eqGuard,binOp,Op.intDiv,hb]
theorem arj {t t':TypeId} {x y:Operand} {k k':IntKind} {a c:Int} {n:Nat} (hx:ρ x = .int k a) (hy:ρ y = .int k' (n:Int)) (hn:n≤k.bits) (h:k.wrap (a*2 ^ n)=c):(execOp ρ ⟨dst,.binOp .shl t x y t',ty,pos,fB,gd⟩).run P w = .ok (.value (.int k c)) w:=by
 subst h
 have e:min n k.bits=n:=Nat.min_eq_left hn
 have e2:¬ ((n:Int) < 0):=by omega
 simp [execOp,hx,hy,eqGuard,binOp,Op.shift,e,e2]
end
end bZ
namespace Lw
open Go Go.RowKit bZ
theorem Qk (q:Rat):(nM q==0)=decide (q=0):=by rw [arZ]; exact yR q 0
end Lw
namespace Lw
open Go
theorem aEJ {l h x:Rat} (hl:0≤l) (hh:l≤h) (hx:0≤x) (h1:l≤x*x) (h2:x*x≤h) (m:Nat):xe l m≤x∧x≤vY h m:=by
 have hh0:0≤h:=by grind
 have a:=Vo hl m
 have b:=Zi hh0 m
 have c:=Qd hl m
 have d:=Qd hh0 m
 exact ⟨ajD c.1 hx (by grind),ajD hx d.2 (by grind)⟩
theorem aED {b b':Bool} {q q':Rat} (h:bV b b' q q' < 0):q < 0:=by
 unfold bV at h
 split at h
 ·exact h
 ·exact absurd h (by grind)
theorem aqX {b b':Bool} {q q':Rat} (h:okR b b' q q'=false) (m:Nat):xe (bV b b' q q') m=0∧vY (bW b b' q q') m=0:=by
 rw [aib h,aic h]
 have h1:=(Qd (q:=0) (by grind) m)
 have h2:=Vo (q:=0) (by grind) m
 have h3:=aee (q:=0) (by grind) m
 constructor
 ·by_cases e:xe 0 m=0
  ·exact e
  ·exact absurd (Rat.mul_pos (show 0 < xe 0 m by grind) (show 0 < xe 0 m by grind)) h2
 ·by_cases e:vY 0 m=0
  ·exact e
  ·have h4:=h3 e
   have h5 : ∀ x:Rat,¬ x*x < 0:=fun x hx=>by
    by_cases h0:0≤x
    ·have:=Rat.mul_nonneg h0 h0; grind
    ·have:=Rat.mul_nonneg (show 0 ≤ -x by grind) (show 0 ≤ -x by grind); grind
   exact absurd h4 (h5 _)
theorem aw4 (q:Rat):0≤BA q:=by unfold BA; split <;> grind
end Lw
namespace Go.Proofs.YtbihljnjaondcaaGreatDoor
open Go Go.RowKit Lw bZ
section
variable {W0 w:World} {U:List Box} {Ps:List (World→Prop)}
variable {ax:Bool} {ay:Option Addr} {aj c1a:Nat} {az:Option Addr} {ak aA:Nat} {aB:Bool} {aC:Option Addr} {n1b aG:Nat} {aF:Option Addr} {au aH:Nat} {s2:Bool} {A2:Option Addr} {n2 c2:Nat} {B2:Option Addr} {m2 d2:Nat}
theorem aGI (HT:Tz W0) (HB:Tab W0) (HS:St W0 U Ps w) {af:Rat} {bC:Nat} {bu:Bool} {ah:Rat} {bD:Nat} {bn:Bool} {q2:Rat} {k2:Nat} {b2:Bool} (f1a:FV (a0p ax ay aj c1a az ak aA) af bC bu w) (bI:FV (a0p aB aC n1b aG aF au aH) ah bD bn w) (f2:FV (a0p s2 A2 n2 c2 B2 m2 d2) q2 k2 b2 w) (hk:bC+bD+k2≤1000) (hz:(bV bu bn af ah)≤q2∧q2≤(bW bu bn af ah)) :
 bY Tryz.prog 42 [(a0r ax ay aj c1a az ak aA aB aC n1b aG aF au aH),(a0p s2 A2 n2 c2 B2 m2 d2)] w (iP W0 U Ps (.bool true)):=by
 have h:=aeZ HT HB HS f1a bI f2 hk
 rw [decide_eq_true hz.1,decide_eq_true hz.2] at h
 exact h
theorem aGH (HT:Tz W0) (HB:Tab W0) (HS:St W0 U Ps w) {af:Rat} {bC:Nat} {bu:Bool} {ah:Rat} {bD:Nat} {bn:Bool} {q2:Rat} {k2:Nat} {b2:Bool} (f1a:FV (a0p ax ay aj c1a az ak aA) af bC bu w) (bI:FV (a0p aB aC n1b aG aF au aH) ah bD bn w) (f2:FV (a0p s2 A2 n2 c2 B2 m2 d2) q2 k2 b2 w) (hk:bC+bD+k2≤1000) (hz:¬ ((bV bu bn af ah)≤q2∧q2≤(bW bu bn af ah))) :
 bY Tryz.prog 42 [(a0r ax ay aj c1a az ak aA aB aC n1b aG aF au aH),(a0p s2 A2 n2 c2 B2 m2 d2)] w (iP W0 U Ps (.bool false)):=by
 have h:=aeZ HT HB HS f1a bI f2 hk
 rw [show (decide ((bV bu bn af ah)≤q2)&&decide (q2≤(bW bu bn af ah)))=false by rw [← Bool.decide_and]; exact decide_eq_false hz] at h
 exact h
end
end Go.Proofs.YtbihljnjaondcaaGreatDoor
namespace Go.Proofs.YtbihljnjaondcaaGreatDoor
open Go Go.RowKit Lw bZ
section
variable {W0 w:World} {U:List Box} {Ps:List (World→Prop)}
variable {ax:Bool} {ay:Option Addr} {aj c1a:Nat} {az:Option Addr} {ak aA:Nat} {aB:Bool} {aC:Option Addr} {n1b aG:Nat} {aF:Option Addr} {au aH:Nat} {s2:Bool} {A2:Option Addr} {n2 c2:Nat} {B2:Option Addr} {m2 d2:Nat}
theorem ar2 {m:Nat} (h:m≤39):IntKind.i64.wrap (1*2 ^ m)=((2 ^ m:Nat):Int):=by
 have:2 ^ m≤2 ^ 39:=Nat.pow_le_pow_right (by decide) h
 have e:(1:Int)*2 ^ m=((2 ^ m:Nat):Int):=by rw [Int.one_mul]; exact (Int.natCast_pow 2 m).symm
 rw [e]
 have h0:(0:Int)≤((2 ^ m:Nat):Int):=Int.natCast_nonneg _
 exact Bh (by omega) (by omega)
theorem aEi {t m:Nat} (h:m=t % 40):((t:Int)).tmod 40=(m:Int):=by
 rw [Int.tmod_eq_emod_of_nonneg (by omega)]
 omega
theorem asq {m:Nat} (h:m≤39):((2 ^ m:Nat):Int)≤9223372036854775807:=by
 have:2 ^ m≤2 ^ 39:=Nat.pow_le_pow_right (by decide) h
 omega
set_option maxHeartbeats 4000000 in
theorem aAz (HT:Tz W0) (HB:Tab W0) {t3 m3:Nat} {af:Rat} {bC:Nat} {bu:Bool} {ah:Rat} {bD:Nat} {bn:Bool} {q2:Rat} {k2:Nat} {b2:Bool} (HS:St W0 U Ps w) (f1a:FV (a0p ax ay aj c1a az ak aA) af bC bu w) (bI:FV (a0p aB aC n1b aG aF au aH) ah bD bn w) (f2:FV (a0p s2 A2 n2 c2 B2 m2 d2) q2 k2 b2 w) (ht3:t3≤255) (hm3:m3=t3 % 40):bY Tryz.prog 11 [(a0r ax ay aj c1a az ak aA aB aC n1b aG aF au aH),(a0p s2 A2 n2 c2 B2 m2 d2),.int .u8 (t3:Int)] w (iP W0 U Ps (.bool true)):=by
 have HS:=HS.add (FV.stable _ _ _ _) f1a
 have HS:=HS.add (FV.stable _ _ _ _) bI
 have HS:=HS.add (FV.stable _ _ _ _) f2
 clear f1a bI f2
 refine iL a0n rfl Tryz.ntmps11 rfl ?_
 refine JC.seq ?_
 refine JC.region ?_
 refine JL.box (vs:=(a0s ax ay aj c1a az ak aA aB aC n1b aG aF au aH)) HS rfl rfl rfl rfl (fun g1 w1 HS => ?_)
 refine JL.box (vs:=(a0q s2 A2 n2 c2 B2 m2 d2)) HS rfl rfl rfl rfl (fun g2 w2 HS => ?_)
 refine Lv (.bool false) (fun a ha=>run_assign (ha.ev rfl)) ?_
 refine jn ?_
 refine JC.seq ?_
 refine JC.seq ?_
 refine JC.region ?_
 refine JL.load (a0r ax ay aj c1a az ak aA aB aC n1b aG aF au aH) HS 1 rfl rfl rfl aYq aYo rfl rfl ?_
 refine JL.buildSlice (ps:=[(0,(a0r ax ay aj c1a az ak aA aB aC n1b aG aF au aH))]) (vs:=(a0s ax ay aj c1a az ak aA aB aC n1b aG aF au aH)) HS rfl (fun a ha=>by simp only [List.map_cons,List.map_nil,ha.ev (x := .tmp 14) (v:=(a0r ax ay aj c1a az ak aA aB aC n1b aG aF au aH)) rfl]) aY0 aYo aYt rfl rfl (by kernel_rfl) rfl (fun g3 w3 HS => ?_)
 refine JL.call rfl rfl aZh (aoj HT HB HS) (fun v4 w4 HR4 => ?_)
 obtain ⟨rfl,HS⟩:=HR4
 refine Lv (.bool (!(decide (aj≤8∧ak≤8∧n1b≤8∧au≤8)))) (fun a ha=>sU (ha.ev rfl)) ?_
 cases Ap:((decide (aj≤8∧ak≤8∧n1b≤8∧au≤8)))
 ·skip
  refine Lv (.bool true) (fun a ha=>run_move (ha.ev rfl)) ?_
  refine Lp ?_
  refine Lp ?_
  refine Lp ?_
  refine Lp ?_
  refine Lv (.bool true) (fun a ha=>eY (ha.ev rfl) (ha.ev rfl)) ?_
  refine Lv (.bool true) (fun a ha=>run_move (ha.ev rfl)) ?_
  refine Lp ?_
  refine Lp ?_
  refine Lp ?_
  refine Lp ?_
  refine Lv (.bool true) (fun a ha=>eY (ha.ev rfl) (ha.ev rfl)) ?_
  refine Lv (.bool true) (fun a ha=>run_move (ha.ev rfl)) ?_
  refine Lp ?_
  refine Lp ?_
  refine Lv (.bool true) (fun a ha=>eY (ha.ev rfl) (ha.ev rfl)) ?_
  refine jn ?_
  refine JC.iy rfl ?_
  refine JC.seq ?_
  refine JC.region ?_
  refine JL.call rfl rfl aYO (zh HT HB HS  ) (fun v6 w6 uk => ?_)
  obtain ⟨rfl,HS⟩:=uk
  refine Lv (.bool true) (fun a ha=>run_assign (ha.ev rfl)) ?_
  refine jn ?_
  refine JC.ret (fun a ha => ?_)
  repeat (first | refine dh ?_ | refine df ?_)
  refine fG (v := .bool true) ha Tryz.results11 (.tmp rfl) ⟨_,rfl,?_⟩
  exact ⟨rfl,HS.gy 3 3 rfl rfl⟩
 ·skip
  have hfew:=of_decide_eq_true Ap
  have HS:=HS.pO 2 rfl (fun _ h=>(fJ.cut (K:=8) h (by omega) (by omega):FV _ _ 8 _ _))
  have HS:=HS.pO 2 rfl (fun _ h=>(fJ.cut (K:=8) h (by omega) (by omega):FV _ _ 8 _ _))
  refine Lv (.bool false) (fun a ha=>run_move (ha.ev rfl)) ?_
  refine Lg (.pointer (some ⟨g2,1,none⟩)) (fun a ha=>bH (ha.ev rfl) aYx rfl aYL rfl rfl) ?_
  refine Lg (.slice A2 n2 c2) (fun a ha=>Ef (ha.ev rfl) aYM (HS.box _ (.tail _ (.head _))) rfl) ?_
  refine Lg (.int .i64 (n2:Int)) (fun a ha=>yV (ha.ev rfl) aYS) ?_
  refine Lg (.bool (decide ((n2:Int) > 8))) (fun a ha=>wH (ha.ev rfl) (ha.ev rfl) rfl) ?_
  refine Lv (.bool (decide ((n2:Int) > 8))) (fun a ha=>gB (ha.ev rfl) (ha.ev rfl)) ?_
  cases PR:(decide ((n2:Int) > 8))
  ·skip
   have hd7:=of_decide_eq_false PR
   refine Lv (.bool false) (fun a ha=>run_move (ha.ev rfl)) ?_
   refine Lg (.pointer (some ⟨g2,2,none⟩)) (fun a ha=>bH (ha.ev rfl) aYx rfl aYL rfl rfl) ?_
   refine Lg (.slice B2 m2 d2) (fun a ha=>Ef (ha.ev rfl) aYM (HS.box _ (.tail _ (.head _))) rfl) ?_
   refine Lg (.int .i64 (m2:Int)) (fun a ha=>yV (ha.ev rfl) aYS) ?_
   refine Lg (.bool (decide ((m2:Int) > 8))) (fun a ha=>wH (ha.ev rfl) (ha.ev rfl) rfl) ?_
   refine Lv (.bool (decide ((m2:Int) > 8))) (fun a ha=>gB (ha.ev rfl) (ha.ev rfl)) ?_
   cases acU:(decide ((m2:Int) > 8))
   ·skip
    have hd8:=of_decide_eq_false acU
    refine Lv (.bool false) (fun a ha=>run_move (ha.ev rfl)) ?_
    refine JL.cZ rfl rfl rfl rfl rfl rfl aYO (zh HT HB HS  ) (fun v9 w9 Iy => ?_)
    obtain ⟨rfl,HS⟩:=Iy
    refine Lg (.bool false) (fun a ha=>sU (b:=true) (ha.ev rfl)) ?_
    refine Lv (.bool false) (fun a ha=>gB (ha.ev rfl) (ha.ev rfl)) ?_
    refine jn ?_
    refine JC.jA rfl ?_
    refine JC.jF (fun _ _ h=>h) ?_
    refine JC.seq ?_
    have HS:=HS.pO 2 rfl (fun _ h=>(fJ.cut (K:=8) h (by omega) (by omega):FV _ _ 8 _ _))
    refine JC.region ?_
    refine Lv (.int .u8 (t3:Int)) (fun a ha=>run_move (ha.ev rfl)) ?_
    refine Lv (.int .u8 (m3:Int)) (fun a ha=>aEX (ha.ev rfl) (ha.ev rfl) (by decide) (aEi hm3)) ?_
    refine Lv (.int .i64 (m3:Int)) (fun a ha=>arc (ha.ev rfl) Tryz.runUnderlying5 Tryz.runUnderlying3 (by rw [IntKind.wrap_i64]; omega)) ?_
    refine Lv (.int .i64 (m3:Int)) (fun a ha=>run_assign (ha.ev rfl)) ?_
    refine jn ?_
    refine JC.seq ?_
    refine JC.region ?_
    refine JL.load (a0r ax ay aj c1a az ak aA aB aC n1b aG aF au aH) HS 2 rfl rfl rfl aYq aYo rfl rfl ?_
    refine Lv (.int .i64 (m3:Int)) (fun a ha=>run_move (ha.ev rfl)) ?_
    by_cases RS:(bV bu bn af ah) < 0
    ·skip
     refine JL.call rfl rfl aY7 (ajX HT HB HS (HS.at_ 2 rfl) (HS.at_ 1 rfl) (by omega) (by omega) RS) (fun v11 Dp DV => ?_)
     obtain ⟨rfl,HS⟩:=DV
     refine Lv (.tuple #[fO,.iface 74 (.int .i64 3)]) (fun a ha=>run_move (ha.ev rfl)) ?_
     refine Lv fO (fun a ha=>bK (ha.ev rfl) rfl) ?_
     refine Lv (.iface 74 (.int .i64 3)) (fun a ha=>bK (ha.ev rfl) rfl) ?_
     refine JL.alloc (vs:=cO) HS rfl aYt rfl rfl (fun g12 w12 HS => ?_)
     refine JL.store HS rfl rfl (i:=0) rfl aYo rfl rfl rfl (vs':=cO) rfl rfl (fun Gl HS => ?_)
     refine Lv (.iface 74 (.int .i64 3)) (fun a ha=>run_assign (ha.ev rfl)) ?_
     refine jn ?_
     refine JC.seq ?_
     refine JC.seq ?_
     refine JC.region ?_
     refine Lv (.iface 74 (.int .i64 3)) (fun a ha=>run_move (ha.ev rfl)) ?_
     refine Lv (.bool true) (fun a ha=>Zo (ha.ev rfl) rfl aYA) ?_
     refine jn ?_
     refine JC.iy rfl ?_
     refine JC.seq ?_
     refine JC.region ?_
     refine Lv (.iface 74 (.int .i64 3)) (fun a ha=>run_move (ha.ev rfl)) ?_
     refine JL.call rfl rfl aZL (Yj HT HB HS (z1:=3) (by decide) (by decide)) (fun v14 JX Io => ?_)
     obtain ⟨rfl,HS⟩:=Io
     refine Lv (.bool true) (fun a ha=>run_move (ha.ev rfl)) ?_
     refine Lg (.pointer (some ⟨g1,0,none⟩)) (fun a ha=>bH (ha.ev rfl) aYr rfl aYn rfl rfl) ?_
     refine Lg (a0p ax ay aj c1a az ak aA) (fun a ha=>gU (ha.ev rfl) aYp aYn (HS.box _ (.tail _ (.tail _ (.tail _ (.head _))))) rfl rfl) ?_
     refine JL.cZ rfl rfl rfl rfl rfl rfl aZa (NM HT HB HS (HS.at_ 2 rfl) (by omega)) (fun v15 J4 Ip => ?_)
     obtain ⟨rfl,HS⟩:=Ip
     refine Lg (.bool true) (fun a ha=>qX (ha.ev rfl) (ha.ev rfl) ((ajv _).trans (decide_eq_true (aED RS)))) ?_
     refine Lv (.bool true) (fun a ha=>eY (ha.ev rfl) (ha.ev rfl)) ?_
     refine Lv (.bool true) (fun a ha=>run_assign (ha.ev rfl)) ?_
     refine jn ?_
     refine JC.ret (fun a ha => ?_)
     repeat (first | refine dh ?_ | refine df ?_)
     refine fG (v := .bool true) ha Tryz.results11 (.tmp rfl) ⟨_,rfl,?_⟩
     exact ⟨rfl,HS.gy 4 6 rfl rfl⟩
    ·skip
     refine JL.call rfl rfl aY7 (Jf (K:=300) (ae3 HT HB HS (HS.at_ 2 rfl) (HS.at_ 1 rfl) (by omega) (by omega) (show 0≤(bV bu bn af ah) by grind)) (by omega)) (fun v16 w16 Iq => ?_)
     obtain ⟨BZ,Bl,BU,BC,Bq,BR,BD,zD,yX,zk,c16b,yZ,zi,zf,rfl,HS⟩:=Iq
     refine Lv (.tuple #[(a0r BZ Bl BU BC Bq BR BD zD yX zk c16b yZ zi zf),.nilIface]) (fun a ha=>run_move (ha.ev rfl)) ?_
     refine Lv (a0r BZ Bl BU BC Bq BR BD zD yX zk c16b yZ zi zf) (fun a ha=>bK (ha.ev rfl) rfl) ?_
     refine Lv (.nilIface) (fun a ha=>bK (ha.ev rfl) rfl) ?_
     refine JL.alloc (vs:=cO) HS rfl aYt rfl rfl (fun g17 LH HS => ?_)
     refine JL.store HS rfl rfl (i:=0) rfl aYo rfl rfl rfl (vs':=(a0s BZ Bl BU BC Bq BR BD zD yX zk c16b yZ zi zf)) rfl rfl (fun QA HS => ?_)
     refine Lv (.nilIface) (fun a ha=>run_assign (ha.ev rfl)) ?_
     refine jn ?_
     refine JC.seq ?_
     refine JC.seq ?_
     refine JC.region ?_
     refine Lv (.nilIface) (fun a ha=>run_move (ha.ev rfl)) ?_
     refine Lv (.bool false) (fun a ha=>JK (ha.ev rfl) rfl aYA) ?_
     refine jn ?_
     refine JC.jA rfl ?_
     refine JC.jF (fun _ _ h=>h) ?_
     refine JC.seq ?_
     refine JC.region ?_
     refine JL.load (a0p s2 A2 n2 c2 B2 m2 d2) HS 2 rfl rfl rfl aYp aYn rfl rfl ?_
     refine JL.call rfl rfl Tryz.call79 (ayx HT HB HS (HS.at_ 2 rfl) (by omega)) (fun v19 O6 Q7 => ?_)
     obtain ⟨Vs,Uc,n19,c19,Uf,m19,d19,rfl,HS⟩:=Q7
     refine JL.store HS rfl rfl (i:=2) rfl aYn rfl rfl rfl (vs':=(a0q Vs Uc n19 c19 Uf m19 d19)) rfl rfl (fun O7 HS => ?_)
     refine jn ?_
     refine JC.seq ?_
     by_cases hc21:(bV bu bn af ah)≤(BA q2)*(BA q2)∧(BA q2)*(BA q2)≤(bW bu bn af ah)
     ·skip
      refine JC.seq ?_
      refine JC.draw HS [] (by kernel_rfl) (fun ZZ HS => ?_)
      refine Da (a0r ax ay aj c1a az ak aA aB aC n1b aG aF au aH) 0 3 rfl HS.b0 rfl rfl aYq aYo ?_
      refine Da (a0p Vs Uc n19 c19 Uf m19 d19) 1 2 rfl HS.b0 rfl rfl aYp aYn ?_
      refine Da (a0p Vs Uc n19 c19 Uf m19 d19) 2 2 rfl HS.b0 rfl rfl aYp aYn ?_
      refine bJ 3 rfl rfl rfl aYv (iQ HT HB HS (HS.at_ 0 rfl) (HS.at_ 0 rfl) (by omega)) (fun aUq aWD au0 => ?_)
      obtain ⟨aSy,aIq,aQJ,aLg,aJO,aPl,aMM,rfl,HS⟩:=au0
      refine ⟨HS.b0,?_⟩
      refine bJ 4 rfl rfl rfl aYF (aGI HT HB HS (HS.at_ 6 rfl) (HS.at_ 5 rfl) (HS.at_ 0 rfl) (by omega) hc21) (fun aUr aWE au1 => ?_)
      obtain ⟨rfl,HS⟩:=au1
      refine ⟨HS.b0,?_⟩
      refine Dv (.bool true) 5 rfl HS.b0 (fun a ha w=>run_move (ha.ev rfl)) ?_
      refine fM (a0r BZ Bl BU BC Bq BR BD zD yX zk c16b yZ zi zf) 6 0 (by kernel_rfl) rfl (fun _ _ _ h=>h) rfl rfl rfl rfl rfl HS.b0 rfl rfl aYq aYo rfl rfl ?_
      refine fM (a0p Vs Uc n19 c19 Uf m19 d19) 7 2 (by kernel_rfl) rfl (fun _ _ _ h=>h) rfl rfl rfl rfl rfl HS.b0 rfl rfl aYp aYn rfl rfl ?_
      refine J1 8 (by kernel_rfl) ?_
      refine ai.cZ rfl rfl rfl rfl rfl rfl rfl aYF (Dn HT HB HS (HS.at_ 2 rfl) (HS.at_ 3 rfl) (HS.at_ 1 rfl) (by omega) (ajh (show 0≤(bV bu bn af ah) by grind) (oP _ _ _ _) _) (aEJ (show 0≤(bV bu bn af ah) by grind) (oP _ _ _ _) (aw4 q2) hc21.1 hc21.2 m3)) rfl (fun aUs aWF au2 => ?_) ai.nil
      obtain ⟨rfl,HS⟩:=au2
      refine ⟨HS.b0,?_⟩
      refine Dg (.bool false) 9 rfl HS.b0 (fun a ha w=>sU (b:=true) (ha.ev rfl)) ?_
      refine Dv (.bool false) 10 rfl HS.b0 (fun a ha w=>eY (ha.ev rfl) (ha.ev rfl)) ?_
      refine JR.next (by kernel_rfl) (fun _ _ h=>h) ?_
      refine JC.jA rfl ?_
      refine JC.jF (fun _ _ h=>h) ?_
      refine JC.seq ?_
      refine JC.seq ?_
      refine JC.region ?_
      refine JL.load (a0r ax ay aj c1a az ak aA aB aC n1b aG aF au aH) HS 3 rfl rfl rfl aYq aYo rfl rfl ?_
      refine JL.call rfl rfl aY5 (KZ HT HB HS (HS.at_ 6 rfl) (HS.at_ 5 rfl) (by omega)) (fun v24 Z7 af8 => ?_)
      obtain ⟨rfl,HS⟩:=af8
      refine Lv (.bool (!(okR bu bn af ah))) (fun a ha=>sU (ha.ev rfl)) ?_
      refine jn ?_
      cases anT:((okR bu bn af ah))
      ·skip
       have hr0:=aqX anT m3
       refine JC.iy rfl ?_
       refine JC.seq ?_
       refine JC.region ?_
       refine Lv (.pointer (some ⟨g17,0,none⟩)) (fun a ha=>bH (ha.ev rfl) aYr rfl aYn rfl rfl) ?_
       refine JL.load (a0p BZ Bl BU BC Bq BR BD) HS 0 rfl rfl rfl aYp aYn rfl rfl ?_
       refine JL.call rfl rfl aZa (NM HT HB HS (HS.at_ 2 rfl) (by omega)) (fun v26 w26 Xa => ?_)
       obtain ⟨rfl,HS⟩:=Xa
       refine Lv (.bool true) (fun a ha=>rC (ha.ev rfl) (ha.ev rfl) ((Qk _).trans (decide_eq_true hr0.1))) ?_
       refine Lv (.bool true) (fun a ha=>run_move (ha.ev rfl)) ?_
       refine Lg (.pointer (some ⟨g17,3,none⟩)) (fun a ha=>bH (ha.ev rfl) aYr rfl aYn rfl rfl) ?_
       refine Lg (a0p zD yX zk c16b yZ zi zf) (fun a ha=>gU (ha.ev rfl) aYp aYn (HS.box _ (.head _)) rfl rfl) ?_
       refine JL.cZ rfl rfl rfl rfl rfl rfl aZa (NM HT HB HS (HS.at_ 3 rfl) (by omega)) (fun v27 w27 Xb => ?_)
       obtain ⟨rfl,HS⟩:=Xb
       refine Lg (.bool true) (fun a ha=>rC (ha.ev rfl) (ha.ev rfl) ((Qk _).trans (decide_eq_true hr0.2))) ?_
       refine Lv (.bool true) (fun a ha=>eY (ha.ev rfl) (ha.ev rfl)) ?_
       refine Lv (.bool true) (fun a ha=>run_assign (ha.ev rfl)) ?_
       refine jn ?_
       refine JC.ret (fun a ha => ?_)
       repeat (first | refine dh ?_ | refine df ?_)
       refine fG (v := .bool true) ha Tryz.results11 (.tmp rfl) ⟨_,rfl,?_⟩
       exact ⟨rfl,HS.gy 4 10 rfl rfl⟩
      ·skip
       obtain ⟨rfl,rfl,fE⟩:=KN anT
       have e1:=vG fE
       have e2:=vF fE
       have hl0:0≤(bV true true af ah):=by grind
       have hh0:=Rat.le_trans hl0 (oP true true af ah)
       refine JC.jA rfl ?_
       refine JC.jF (fun _ _ h=>h) ?_
       refine JC.seq ?_
       refine JC.region ?_
       refine Lv (.int .i64 (m3:Int)) (fun a ha=>run_move (ha.ev rfl)) ?_
       refine Lv (.int .i64 ((2 ^ m3:Nat):Int)) (fun a ha=>arj (ha.ev rfl) (ha.ev rfl) (n:=m3) (show m3≤64 by omega) (ar2 (by omega))) ?_
       refine JL.call rfl rfl Tryz.call80 (ahp HT HB HS  (by decide) (by decide) (by have:=Fj m3; omega) (asq (by omega)) (two_pos _)) (fun v28 Z8 Xc => ?_)
       obtain ⟨Vt,Ud,n28,c28,Wy,m28,d28,rfl,HS⟩:=Xc
       refine Lv (.tuple #[(a0p Vt Ud n28 c28 Wy m28 d28),.nilIface]) (fun a ha=>run_move (ha.ev rfl)) ?_
       refine Lv (a0p Vt Ud n28 c28 Wy m28 d28) (fun a ha=>bK (ha.ev rfl) rfl) ?_
       refine Lv (.nilIface) (fun a ha=>bK (ha.ev rfl) rfl) ?_
       refine JL.alloc (vs:=bU) HS rfl aYs rfl rfl (fun g29 w29 HS => ?_)
       refine JL.store HS rfl rfl (i:=0) rfl aYn rfl rfl rfl (vs':=(a0q Vt Ud n28 c28 Wy m28 d28)) rfl rfl (fun w30 HS => ?_)
       refine Lv (.nilIface) (fun a ha=>run_assign (ha.ev rfl)) ?_
       refine jn ?_
       refine JC.seq ?_
       refine JC.region ?_
       refine Lv (.pointer (some ⟨g17,0,none⟩)) (fun a ha=>bH (ha.ev rfl) aYr rfl aYn rfl rfl) ?_
       refine JL.load (a0p BZ Bl BU BC Bq BR BD) HS 1 rfl rfl rfl aYp aYn rfl rfl ?_
       refine JL.load (a0p Vt Ud n28 c28 Wy m28 d28) HS 0 rfl rfl rfl aYp aYn rfl rfl ?_
       refine JL.call rfl rfl aYG (xu HT HB HS (HS.at_ 3 rfl) (HS.at_ 0 rfl) (by omega)) (fun v31 w31 avh => ?_)
       obtain ⟨s31,A31,n31,c31,B31,m31,d31,rfl,HS⟩:=avh
       refine JL.alloc (vs:=bU) HS rfl aYs rfl rfl (fun g32 w32 HS => ?_)
       refine JL.store HS rfl rfl (i:=0) rfl aYn rfl rfl rfl (vs':=(a0q s31 A31 n31 c31 B31 m31 d31)) rfl rfl (fun w33 HS => ?_)
       refine jn ?_
       refine JC.seq ?_
       refine JC.region ?_
       refine Lv (.pointer (some ⟨g17,3,none⟩)) (fun a ha=>bH (ha.ev rfl) aYr rfl aYn rfl rfl) ?_
       refine JL.load (a0p zD yX zk c16b yZ zi zf) HS 2 rfl rfl rfl aYp aYn rfl rfl ?_
       refine JL.load (a0p Vt Ud n28 c28 Wy m28 d28) HS 1 rfl rfl rfl aYp aYn rfl rfl ?_
       refine JL.call rfl rfl aZs (UD HT HB HS (HS.at_ 5 rfl) (HS.at_ 1 rfl) (by omega)) (fun v34 w34 Xd => ?_)
       obtain ⟨Gh,FC,n34,c34,FK,m34,d34,rfl,HS⟩:=Xd
       refine JL.alloc (vs:=bU) HS rfl aYs rfl rfl (fun g35 w35 HS => ?_)
       refine JL.store HS rfl rfl (i:=0) rfl aYn rfl rfl rfl (vs':=(a0q Gh FC n34 c34 FK m34 d34)) rfl rfl (fun w36 HS => ?_)
       refine jn ?_
       refine JC.seq ?_
       refine JC.seq ?_
       refine JC.draw HS [] (by kernel_rfl) (fun w37 HS => ?_)
       refine Dv (.nilIface) 0 rfl HS.b0 (fun a ha w=>run_move (ha.ev rfl)) ?_
       refine Dv (.bool false) 1 rfl HS.b0 (fun a ha w=>JK (ha.ev rfl) rfl aYA) ?_
       refine Dv (.bool false) 2 rfl HS.b0 (fun a ha w=>run_move (ha.ev rfl)) ?_
       refine Dg (.pointer (some ⟨g17,0,none⟩)) 3 rfl HS.b0 (fun a ha w=>bH (ha.ev rfl) aYr rfl aYn rfl rfl) ?_
       refine fM (a0p BZ Bl BU BC Bq BR BD) 4 3 (by kernel_rfl) rfl (fun _ _ _ h=>h) rfl rfl rfl rfl rfl HS.b0 rfl rfl aYp aYn rfl rfl ?_
       refine Dg (.pointer (some ⟨g17,0,none⟩)) 5 rfl HS.b0 (fun a ha w=>bH (ha.ev rfl) aYr rfl aYn rfl rfl) ?_
       refine fM (a0p BZ Bl BU BC Bq BR BD) 6 3 (by kernel_rfl) rfl (fun _ _ _ h=>h) rfl rfl rfl rfl rfl HS.b0 rfl rfl aYp aYn rfl rfl ?_
       refine Dg (.pointer (some ⟨g1,0,none⟩)) 8 rfl HS.b0 (fun a ha w=>bH (ha.ev rfl) aYr rfl aYn rfl rfl) ?_
       refine fM (a0p ax ay aj c1a az ak aA) 9 6 (by kernel_rfl) rfl (fun _ _ _ h=>h) rfl rfl rfl rfl rfl HS.b0 rfl rfl aYp aYn rfl rfl ?_
       refine J1 7 (by kernel_rfl) ?_
       refine ai.cZ rfl rfl rfl rfl rfl rfl rfl aYv (iQ HT HB HS (HS.at_ 5 rfl) (HS.at_ 5 rfl) (by omega)) rfl (fun aUJ aWV avj => ?_) ai.nil
       obtain ⟨aSV,aIJ,aQ1,aLB,aJ7,aPD,aM5,rfl,HS⟩:=avj
       refine ⟨HS.b0,?_⟩
       refine J1 10 (by kernel_rfl) ?_
       refine ai.cZ rfl rfl rfl rfl rfl rfl rfl aYD (vJ HT HB HS (HS.at_ 0 rfl) (HS.at_ 10 rfl) (by omega)) rfl (fun aUK aWW avk => ?_) ai.nil
       obtain ⟨rfl,HS⟩:=avk
       refine ⟨HS.b0,?_⟩
       refine Dg (.bool false) 11 rfl HS.b0 (fun a ha w=>wH (ha.ev rfl) (ha.ev rfl) ((Kr _ _).trans (decide_eq_false (by have:=Vo hl0 m3; rwa [e1] at this ⊢)))) ?_
       refine Dv (.bool false) 12 rfl HS.b0 (fun a ha w=>gB (ha.ev rfl) (ha.ev rfl)) ?_
       refine Dv (.bool false) 13 rfl HS.b0 (fun a ha w=>run_move (ha.ev rfl)) ?_
       refine fM (a0p s31 A31 n31 c31 B31 m31 d31) 14 1 (by kernel_rfl) rfl (fun _ _ _ h=>h) rfl rfl rfl rfl rfl HS.b0 rfl rfl aYp aYn rfl rfl ?_
       refine fM (a0p s31 A31 n31 c31 B31 m31 d31) 15 1 (by kernel_rfl) rfl (fun _ _ _ h=>h) rfl rfl rfl rfl rfl HS.b0 rfl rfl aYp aYn rfl rfl ?_
       refine Dg (.pointer (some ⟨g1,0,none⟩)) 17 rfl HS.b0 (fun a ha w=>bH (ha.ev rfl) aYr rfl aYn rfl rfl) ?_
       refine fM (a0p ax ay aj c1a az ak aA) 18 6 (by kernel_rfl) rfl (fun _ _ _ h=>h) rfl rfl rfl rfl rfl HS.b0 rfl rfl aYp aYn rfl rfl ?_
       refine J1 16 (by kernel_rfl) ?_
       refine ai.cZ rfl rfl rfl rfl rfl rfl rfl aYv (iQ HT HB HS (HS.at_ 2 rfl) (HS.at_ 2 rfl) (by omega)) rfl (fun aUL aWX avl => ?_) ai.nil
       obtain ⟨aSW,aIK,aQ2,aLC,aJ8,aPE,aM6,rfl,HS⟩:=avl
       refine ⟨HS.b0,?_⟩
       refine J1 19 (by kernel_rfl) ?_
       refine ai.cZ rfl rfl rfl rfl rfl rfl rfl aYD (vJ HT HB HS (HS.at_ 0 rfl) (HS.at_ 11 rfl) (by omega)) rfl (fun aUM aWY avm => ?_) ai.nil
       obtain ⟨rfl,HS⟩:=avm
       refine ⟨HS.b0,?_⟩
       refine Dg (.bool false) 20 rfl HS.b0 (fun a ha w=>Qh (ha.ev rfl) (ha.ev rfl) ((Ru _ _).trans (decide_eq_false (by have:=ajf hl0 m3; rwa [e1] at this ⊢)))) ?_
       refine Dv (.bool false) 21 rfl HS.b0 (fun a ha w=>gB (ha.ev rfl) (ha.ev rfl)) ?_
       refine Dv (.bool false) 22 rfl HS.b0 (fun a ha w=>run_move (ha.ev rfl)) ?_
       refine Dg (.pointer (some ⟨g17,3,none⟩)) 23 rfl HS.b0 (fun a ha w=>bH (ha.ev rfl) aYr rfl aYn rfl rfl) ?_
       refine fM (a0p zD yX zk c16b yZ zi zf) 24 3 (by kernel_rfl) rfl (fun _ _ _ h=>h) rfl rfl rfl rfl rfl HS.b0 rfl rfl aYp aYn rfl rfl ?_
       refine Dg (.pointer (some ⟨g17,3,none⟩)) 25 rfl HS.b0 (fun a ha w=>bH (ha.ev rfl) aYr rfl aYn rfl rfl) ?_
       refine fM (a0p zD yX zk c16b yZ zi zf) 26 3 (by kernel_rfl) rfl (fun _ _ _ h=>h) rfl rfl rfl rfl rfl HS.b0 rfl rfl aYp aYn rfl rfl ?_
       refine Dg (.pointer (some ⟨g1,3,none⟩)) 28 rfl HS.b0 (fun a ha w=>bH (ha.ev rfl) aYr rfl aYn rfl rfl) ?_
       refine fM (a0p aB aC n1b aG aF au aH) 29 6 (by kernel_rfl) rfl (fun _ _ _ h=>h) rfl rfl rfl rfl rfl HS.b0 rfl rfl aYp aYn rfl rfl ?_
       refine J1 27 (by kernel_rfl) ?_
       refine ai.cZ rfl rfl rfl rfl rfl rfl rfl aYv (iQ HT HB HS (HS.at_ 8 rfl) (HS.at_ 8 rfl) (by omega)) rfl (fun aUN aWZ avn => ?_) ai.nil
       obtain ⟨aSX,aIL,aQ3,aLD,aJ9,aPF,aM7,rfl,HS⟩:=avn
       refine ⟨HS.b0,?_⟩
       refine J1 30 (by kernel_rfl) ?_
       refine ai.cZ rfl rfl rfl rfl rfl rfl rfl aYD (vJ HT HB HS (HS.at_ 0 rfl) (HS.at_ 11 rfl) (by omega)) rfl (fun aUO aW0 avo => ?_) ai.nil
       obtain ⟨rfl,HS⟩:=avo
       refine ⟨HS.b0,?_⟩
       refine Dg (.bool false) 31 rfl HS.b0 (fun a ha w=>qX (ha.ev rfl) (ha.ev rfl) ((Rw _ _).trans (decide_eq_false (by have:=Zi hh0 m3; rwa [e2] at this ⊢)))) ?_
       refine Dv (.bool false) 32 rfl HS.b0 (fun a ha w=>gB (ha.ev rfl) (ha.ev rfl)) ?_
       refine JR.next (by kernel_rfl) (fun _ _ h=>h) ?_
       refine JC.jA rfl ?_
       refine JC.jF (fun _ _ h=>h) ?_
       by_cases hc39:vY (bW true true af ah) m3=0
       ·skip
        refine JC.seq ?_
        refine JC.draw HS [] (by kernel_rfl) (fun w40 HS => ?_)
        refine Dv (.pointer (some ⟨g17,3,none⟩)) 0 rfl HS.b0 (fun a ha w=>bH (ha.ev rfl) aYr rfl aYn rfl rfl) ?_
        refine Da (a0p zD yX zk c16b yZ zi zf) 1 3 rfl HS.b0 rfl rfl aYp aYn ?_
        refine bJ 2 rfl rfl rfl aZa (NM HT HB HS (HS.at_ 9 rfl) (by omega)) (fun aUV aW7 avx => ?_)
        obtain ⟨rfl,HS⟩:=avx
        refine ⟨HS.b0,?_⟩
        refine Dv (.bool true) 3 rfl HS.b0 (fun a ha w=>rC (ha.ev rfl) (ha.ev rfl) ((Qk _).trans (decide_eq_true hc39))) ?_
        refine Dv (.bool true) 4 rfl HS.b0 (fun a ha w=>run_move (ha.ev rfl)) ?_
        refine Jp 5 (by kernel_rfl) rfl rfl (fun _ _ _ h=>h) rfl rfl rfl rfl rfl HS.b0 ?_
        refine Jp 6 (by kernel_rfl) rfl rfl (fun _ _ _ h=>h) rfl rfl rfl rfl rfl HS.b0 ?_
        refine Jp 8 (by kernel_rfl) rfl rfl (fun _ _ _ h=>h) rfl rfl rfl rfl rfl HS.b0 ?_
        refine Jp 9 (by kernel_rfl) rfl rfl (fun _ _ _ h=>h) rfl rfl rfl rfl rfl HS.b0 ?_
        refine J1 7 (by kernel_rfl) ?_
        refine ai.pass rfl rfl rfl rfl rfl rfl rfl rfl rfl rfl ?_ ai.nil
        refine ⟨HS.b0,?_⟩
        refine J1 10 (by kernel_rfl) ?_
        refine ai.pass rfl rfl rfl rfl rfl rfl rfl rfl rfl rfl ?_ ai.nil
        refine ⟨HS.b0,?_⟩
        refine Jp 11 (by kernel_rfl) rfl rfl (fun _ _ _ h=>h) rfl rfl rfl rfl rfl HS.b0 ?_
        refine Dv (.bool true) 12 rfl HS.b0 (fun a ha w=>eY (ha.ev rfl) (ha.ev rfl)) ?_
        refine Dv (.bool true) 13 rfl HS.b0 (fun a ha w=>run_assign (ha.ev rfl)) ?_
        refine JR.next (by kernel_rfl) (fun _ _ h=>h) ?_
        refine JC.ret (fun a ha => ?_)
        repeat (first | refine dh ?_ | refine df ?_)
        refine fG (v := .bool true) ha Tryz.results11 (.tmp rfl) ⟨_,rfl,?_⟩
        exact ⟨rfl,HS.gy 7 16 rfl rfl⟩
       ·skip
        refine JC.seq ?_
        refine JC.draw HS [] (by kernel_rfl) (fun w42 HS => ?_)
        refine Dv (.pointer (some ⟨g17,3,none⟩)) 0 rfl HS.b0 (fun a ha w=>bH (ha.ev rfl) aYr rfl aYn rfl rfl) ?_
        refine Da (a0p zD yX zk c16b yZ zi zf) 1 3 rfl HS.b0 rfl rfl aYp aYn ?_
        refine bJ 2 rfl rfl rfl aZa (NM HT HB HS (HS.at_ 9 rfl) (by omega)) (fun aUZ aXa avA => ?_)
        obtain ⟨rfl,HS⟩:=avA
        refine ⟨HS.b0,?_⟩
        refine Dv (.bool false) 3 rfl HS.b0 (fun a ha w=>rC (ha.ev rfl) (ha.ev rfl) ((Qk _).trans (decide_eq_false hc39))) ?_
        refine Dv (.bool false) 4 rfl HS.b0 (fun a ha w=>run_move (ha.ev rfl)) ?_
        refine fM (a0p Gh FC n34 c34 FK m34 d34) 5 0 (by kernel_rfl) rfl (fun _ _ _ h=>h) rfl rfl rfl rfl rfl HS.b0 rfl rfl aYp aYn rfl rfl ?_
        refine fM (a0p Gh FC n34 c34 FK m34 d34) 6 0 (by kernel_rfl) rfl (fun _ _ _ h=>h) rfl rfl rfl rfl rfl HS.b0 rfl rfl aYp aYn rfl rfl ?_
        refine Dg (.pointer (some ⟨g1,3,none⟩)) 8 rfl HS.b0 (fun a ha w=>bH (ha.ev rfl) aYr rfl aYn rfl rfl) ?_
        refine fM (a0p aB aC n1b aG aF au aH) 9 6 (by kernel_rfl) rfl (fun _ _ _ h=>h) rfl rfl rfl rfl rfl HS.b0 rfl rfl aYp aYn rfl rfl ?_
        refine J1 7 (by kernel_rfl) ?_
        refine ai.cZ rfl rfl rfl rfl rfl rfl rfl aYv (iQ HT HB HS (HS.at_ 3 rfl) (HS.at_ 3 rfl) (by omega)) rfl (fun aU0 aXb avC => ?_) ai.nil
        obtain ⟨aSZ,aIN,aQ5,aLF,aJ',aPG,aM8,rfl,HS⟩:=avC
        refine ⟨HS.b0,?_⟩
        refine J1 10 (by kernel_rfl) ?_
        refine ai.cZ rfl rfl rfl rfl rfl rfl rfl aYD (vJ HT HB HS (HS.at_ 0 rfl) (HS.at_ 12 rfl) (by omega)) rfl (fun aU1 aXc avD => ?_) ai.nil
        obtain ⟨rfl,HS⟩:=avD
        refine ⟨HS.b0,?_⟩
        refine Dg (.bool true) 11 rfl HS.b0 (fun a ha w=>qX (ha.ev rfl) (ha.ev rfl) ((Rw _ _).trans (decide_eq_true (by have:=aee hh0 m3 hc39; rwa [e2] at this ⊢)))) ?_
        refine Dv (.bool true) 12 rfl HS.b0 (fun a ha w=>gB (ha.ev rfl) (ha.ev rfl)) ?_
        refine Dv (.bool true) 13 rfl HS.b0 (fun a ha w=>run_assign (ha.ev rfl)) ?_
        refine JR.next (by kernel_rfl) (fun _ _ h=>h) ?_
        refine JC.ret (fun a ha => ?_)
        repeat (first | refine dh ?_ | refine df ?_)
        refine fG (v := .bool true) ha Tryz.results11 (.tmp rfl) ⟨_,rfl,?_⟩
        exact ⟨rfl,HS.gy 7 17 rfl rfl⟩
     ·skip
      refine JC.seq ?_
      refine JC.draw HS [] (by kernel_rfl) (fun w44 HS => ?_)
      refine Da (a0r ax ay aj c1a az ak aA aB aC n1b aG aF au aH) 0 3 rfl HS.b0 rfl rfl aYq aYo ?_
      refine Da (a0p Vs Uc n19 c19 Uf m19 d19) 1 2 rfl HS.b0 rfl rfl aYp aYn ?_
      refine Da (a0p Vs Uc n19 c19 Uf m19 d19) 2 2 rfl HS.b0 rfl rfl aYp aYn ?_
      refine bJ 3 rfl rfl rfl aYv (iQ HT HB HS (HS.at_ 0 rfl) (HS.at_ 0 rfl) (by omega)) (fun aU2 aXd avF => ?_)
      obtain ⟨aS1,aIO,aQ6,aLG,aKa,aPH,aM9,rfl,HS⟩:=avF
      refine ⟨HS.b0,?_⟩
      refine bJ 4 rfl rfl rfl aYF (aGH HT HB HS (HS.at_ 6 rfl) (HS.at_ 5 rfl) (HS.at_ 0 rfl) (by omega) hc21) (fun aU3 aXe avG => ?_)
      obtain ⟨rfl,HS⟩:=avG
      refine ⟨HS.b0,?_⟩
      refine Dv (.bool false) 5 rfl HS.b0 (fun a ha w=>run_move (ha.ev rfl)) ?_
      refine Jp 6 (by kernel_rfl) rfl rfl (fun _ _ _ h=>h) rfl rfl rfl rfl rfl HS.b0 ?_
      refine Jp 7 (by kernel_rfl) rfl rfl (fun _ _ _ h=>h) rfl rfl rfl rfl rfl HS.b0 ?_
      refine J1 8 (by kernel_rfl) ?_
      refine ai.pass rfl rfl rfl rfl rfl rfl rfl rfl rfl rfl ?_ ai.nil
      refine ⟨HS.b0,?_⟩
      refine Jp 9 (by kernel_rfl) rfl rfl (fun _ _ _ h=>h) rfl rfl rfl rfl rfl HS.b0 ?_
      refine Dv (.bool false) 10 rfl HS.b0 (fun a ha w=>gB (ha.ev rfl) (ha.ev rfl)) ?_
      refine JR.next (by kernel_rfl) (fun _ _ h=>h) ?_
      refine JC.jA rfl ?_
      refine JC.jF (fun _ _ h=>h) ?_
      refine JC.seq ?_
      refine JC.seq ?_
      refine JC.region ?_
      refine JL.load (a0r ax ay aj c1a az ak aA aB aC n1b aG aF au aH) HS 3 rfl rfl rfl aYq aYo rfl rfl ?_
      refine JL.call rfl rfl aY5 (KZ HT HB HS (HS.at_ 6 rfl) (HS.at_ 5 rfl) (by omega)) (fun v46 w46 agl => ?_)
      obtain ⟨rfl,HS⟩:=agl
      refine Lv (.bool (!(okR bu bn af ah))) (fun a ha=>sU (ha.ev rfl)) ?_
      refine jn ?_
      cases anU:((okR bu bn af ah))
      ·skip
       have hr0:=aqX anU m3
       refine JC.iy rfl ?_
       refine JC.seq ?_
       refine JC.region ?_
       refine Lv (.pointer (some ⟨g17,0,none⟩)) (fun a ha=>bH (ha.ev rfl) aYr rfl aYn rfl rfl) ?_
       refine JL.load (a0p BZ Bl BU BC Bq BR BD) HS 0 rfl rfl rfl aYp aYn rfl rfl ?_
       refine JL.call rfl rfl aZa (NM HT HB HS (HS.at_ 2 rfl) (by omega)) (fun v48 w48 agn => ?_)
       obtain ⟨rfl,HS⟩:=agn
       refine Lv (.bool true) (fun a ha=>rC (ha.ev rfl) (ha.ev rfl) ((Qk _).trans (decide_eq_true hr0.1))) ?_
       refine Lv (.bool true) (fun a ha=>run_move (ha.ev rfl)) ?_
       refine Lg (.pointer (some ⟨g17,3,none⟩)) (fun a ha=>bH (ha.ev rfl) aYr rfl aYn rfl rfl) ?_
       refine Lg (a0p zD yX zk c16b yZ zi zf) (fun a ha=>gU (ha.ev rfl) aYp aYn (HS.box _ (.head _)) rfl rfl) ?_
       refine JL.cZ rfl rfl rfl rfl rfl rfl aZa (NM HT HB HS (HS.at_ 3 rfl) (by omega)) (fun v49 w49 agp => ?_)
       obtain ⟨rfl,HS⟩:=agp
       refine Lg (.bool true) (fun a ha=>rC (ha.ev rfl) (ha.ev rfl) ((Qk _).trans (decide_eq_true hr0.2))) ?_
       refine Lv (.bool true) (fun a ha=>eY (ha.ev rfl) (ha.ev rfl)) ?_
       refine Lv (.bool true) (fun a ha=>run_assign (ha.ev rfl)) ?_
       refine jn ?_
       refine JC.ret (fun a ha => ?_)
       repeat (first | refine dh ?_ | refine df ?_)
       refine fG (v := .bool true) ha Tryz.results11 (.tmp rfl) ⟨_,rfl,?_⟩
       exact ⟨rfl,HS.gy 4 10 rfl rfl⟩
      ·skip
       obtain ⟨rfl,rfl,fE⟩:=KN anU
       have e1:=vG fE
       have e2:=vF fE
       have hl0:0≤(bV true true af ah):=by grind
       have hh0:=Rat.le_trans hl0 (oP true true af ah)
       refine JC.jA rfl ?_
       refine JC.jF (fun _ _ h=>h) ?_
       refine JC.seq ?_
       refine JC.region ?_
       refine Lv (.int .i64 (m3:Int)) (fun a ha=>run_move (ha.ev rfl)) ?_
       refine Lv (.int .i64 ((2 ^ m3:Nat):Int)) (fun a ha=>arj (ha.ev rfl) (ha.ev rfl) (n:=m3) (show m3≤64 by omega) (ar2 (by omega))) ?_
       refine JL.call rfl rfl Tryz.call80 (ahp HT HB HS  (by decide) (by decide) (by have:=Fj m3; omega) (asq (by omega)) (two_pos _)) (fun v50 w50 Xe => ?_)
       obtain ⟨Qi,Pj,n50,Pv,WG,m50,d50,rfl,HS⟩:=Xe
       refine Lv (.tuple #[(a0p Qi Pj n50 Pv WG m50 d50),.nilIface]) (fun a ha=>run_move (ha.ev rfl)) ?_
       refine Lv (a0p Qi Pj n50 Pv WG m50 d50) (fun a ha=>bK (ha.ev rfl) rfl) ?_
       refine Lv (.nilIface) (fun a ha=>bK (ha.ev rfl) rfl) ?_
       refine JL.alloc (vs:=bU) HS rfl aYs rfl rfl (fun Kv w51 HS => ?_)
       refine JL.store HS rfl rfl (i:=0) rfl aYn rfl rfl rfl (vs':=(a0q Qi Pj n50 Pv WG m50 d50)) rfl rfl (fun w52 HS => ?_)
       refine Lv (.nilIface) (fun a ha=>run_assign (ha.ev rfl)) ?_
       refine jn ?_
       refine JC.seq ?_
       refine JC.region ?_
       refine Lv (.pointer (some ⟨g17,0,none⟩)) (fun a ha=>bH (ha.ev rfl) aYr rfl aYn rfl rfl) ?_
       refine JL.load (a0p BZ Bl BU BC Bq BR BD) HS 1 rfl rfl rfl aYp aYn rfl rfl ?_
       refine JL.load (a0p Qi Pj n50 Pv WG m50 d50) HS 0 rfl rfl rfl aYp aYn rfl rfl ?_
       refine JL.call rfl rfl aYG (xu HT HB HS (HS.at_ 3 rfl) (HS.at_ 0 rfl) (by omega)) (fun v53 w53 ags => ?_)
       obtain ⟨s53,A53,n53,c53,B53,m53,d53,rfl,HS⟩:=ags
       refine JL.alloc (vs:=bU) HS rfl aYs rfl rfl (fun g54 w54 HS => ?_)
       refine JL.store HS rfl rfl (i:=0) rfl aYn rfl rfl rfl (vs':=(a0q s53 A53 n53 c53 B53 m53 d53)) rfl rfl (fun w55 HS => ?_)
       refine jn ?_
       refine JC.seq ?_
       refine JC.region ?_
       refine Lv (.pointer (some ⟨g17,3,none⟩)) (fun a ha=>bH (ha.ev rfl) aYr rfl aYn rfl rfl) ?_
       refine JL.load (a0p zD yX zk c16b yZ zi zf) HS 2 rfl rfl rfl aYp aYn rfl rfl ?_
       refine JL.load (a0p Qi Pj n50 Pv WG m50 d50) HS 1 rfl rfl rfl aYp aYn rfl rfl ?_
       refine JL.call rfl rfl aZs (UD HT HB HS (HS.at_ 5 rfl) (HS.at_ 1 rfl) (by omega)) (fun v56 w56 avO => ?_)
       obtain ⟨s56,A56,n56,c56,B56,m56,d56,rfl,HS⟩:=avO
       refine JL.alloc (vs:=bU) HS rfl aYs rfl rfl (fun g57 w57 HS => ?_)
       refine JL.store HS rfl rfl (i:=0) rfl aYn rfl rfl rfl (vs':=(a0q s56 A56 n56 c56 B56 m56 d56)) rfl rfl (fun w58 HS => ?_)
       refine jn ?_
       refine JC.seq ?_
       refine JC.seq ?_
       refine JC.draw HS [] (by kernel_rfl) (fun w59 HS => ?_)
       refine Dv (.nilIface) 0 rfl HS.b0 (fun a ha w=>run_move (ha.ev rfl)) ?_
       refine Dv (.bool false) 1 rfl HS.b0 (fun a ha w=>JK (ha.ev rfl) rfl aYA) ?_
       refine Dv (.bool false) 2 rfl HS.b0 (fun a ha w=>run_move (ha.ev rfl)) ?_
       refine Dg (.pointer (some ⟨g17,0,none⟩)) 3 rfl HS.b0 (fun a ha w=>bH (ha.ev rfl) aYr rfl aYn rfl rfl) ?_
       refine fM (a0p BZ Bl BU BC Bq BR BD) 4 3 (by kernel_rfl) rfl (fun _ _ _ h=>h) rfl rfl rfl rfl rfl HS.b0 rfl rfl aYp aYn rfl rfl ?_
       refine Dg (.pointer (some ⟨g17,0,none⟩)) 5 rfl HS.b0 (fun a ha w=>bH (ha.ev rfl) aYr rfl aYn rfl rfl) ?_
       refine fM (a0p BZ Bl BU BC Bq BR BD) 6 3 (by kernel_rfl) rfl (fun _ _ _ h=>h) rfl rfl rfl rfl rfl HS.b0 rfl rfl aYp aYn rfl rfl ?_
       refine Dg (.pointer (some ⟨g1,0,none⟩)) 8 rfl HS.b0 (fun a ha w=>bH (ha.ev rfl) aYr rfl aYn rfl rfl) ?_
       refine fM (a0p ax ay aj c1a az ak aA) 9 6 (by kernel_rfl) rfl (fun _ _ _ h=>h) rfl rfl rfl rfl rfl HS.b0 rfl rfl aYp aYn rfl rfl ?_
       refine J1 7 (by kernel_rfl) ?_
       refine ai.cZ rfl rfl rfl rfl rfl rfl rfl aYv (iQ HT HB HS (HS.at_ 5 rfl) (HS.at_ 5 rfl) (by omega)) rfl (fun aU9 aXl avU => ?_) ai.nil
       obtain ⟨aS6,aIT,aRb,aLM,aKf,aPN,aNf,rfl,HS⟩:=avU
       refine ⟨HS.b0,?_⟩
       refine J1 10 (by kernel_rfl) ?_
       refine ai.cZ rfl rfl rfl rfl rfl rfl rfl aYD (vJ HT HB HS (HS.at_ 0 rfl) (HS.at_ 10 rfl) (by omega)) rfl (fun aVa aXn avW => ?_) ai.nil
       obtain ⟨rfl,HS⟩:=avW
       refine ⟨HS.b0,?_⟩
       refine Dg (.bool false) 11 rfl HS.b0 (fun a ha w=>wH (ha.ev rfl) (ha.ev rfl) ((Kr _ _).trans (decide_eq_false (by have:=Vo hl0 m3; rwa [e1] at this ⊢)))) ?_
       refine Dv (.bool false) 12 rfl HS.b0 (fun a ha w=>gB (ha.ev rfl) (ha.ev rfl)) ?_
       refine Dv (.bool false) 13 rfl HS.b0 (fun a ha w=>run_move (ha.ev rfl)) ?_
       refine fM (a0p s53 A53 n53 c53 B53 m53 d53) 14 1 (by kernel_rfl) rfl (fun _ _ _ h=>h) rfl rfl rfl rfl rfl HS.b0 rfl rfl aYp aYn rfl rfl ?_
       refine fM (a0p s53 A53 n53 c53 B53 m53 d53) 15 1 (by kernel_rfl) rfl (fun _ _ _ h=>h) rfl rfl rfl rfl rfl HS.b0 rfl rfl aYp aYn rfl rfl ?_
       refine Dg (.pointer (some ⟨g1,0,none⟩)) 17 rfl HS.b0 (fun a ha w=>bH (ha.ev rfl) aYr rfl aYn rfl rfl) ?_
       refine fM (a0p ax ay aj c1a az ak aA) 18 6 (by kernel_rfl) rfl (fun _ _ _ h=>h) rfl rfl rfl rfl rfl HS.b0 rfl rfl aYp aYn rfl rfl ?_
       refine J1 16 (by kernel_rfl) ?_
       refine ai.cZ rfl rfl rfl rfl rfl rfl rfl aYv (iQ HT HB HS (HS.at_ 2 rfl) (HS.at_ 2 rfl) (by omega)) rfl (fun aVb aXo avX => ?_) ai.nil
       obtain ⟨aS7,aIU,aRc,aLN,aKg,aPO,aNg,rfl,HS⟩:=avX
       refine ⟨HS.b0,?_⟩
       refine J1 19 (by kernel_rfl) ?_
       refine ai.cZ rfl rfl rfl rfl rfl rfl rfl aYD (vJ HT HB HS (HS.at_ 0 rfl) (HS.at_ 11 rfl) (by omega)) rfl (fun aVc aXp avY => ?_) ai.nil
       obtain ⟨rfl,HS⟩:=avY
       refine ⟨HS.b0,?_⟩
       refine Dg (.bool false) 20 rfl HS.b0 (fun a ha w=>Qh (ha.ev rfl) (ha.ev rfl) ((Ru _ _).trans (decide_eq_false (by have:=ajf hl0 m3; rwa [e1] at this ⊢)))) ?_
       refine Dv (.bool false) 21 rfl HS.b0 (fun a ha w=>gB (ha.ev rfl) (ha.ev rfl)) ?_
       refine Dv (.bool false) 22 rfl HS.b0 (fun a ha w=>run_move (ha.ev rfl)) ?_
       refine Dg (.pointer (some ⟨g17,3,none⟩)) 23 rfl HS.b0 (fun a ha w=>bH (ha.ev rfl) aYr rfl aYn rfl rfl) ?_
       refine fM (a0p zD yX zk c16b yZ zi zf) 24 3 (by kernel_rfl) rfl (fun _ _ _ h=>h) rfl rfl rfl rfl rfl HS.b0 rfl rfl aYp aYn rfl rfl ?_
       refine Dg (.pointer (some ⟨g17,3,none⟩)) 25 rfl HS.b0 (fun a ha w=>bH (ha.ev rfl) aYr rfl aYn rfl rfl) ?_
       refine fM (a0p zD yX zk c16b yZ zi zf) 26 3 (by kernel_rfl) rfl (fun _ _ _ h=>h) rfl rfl rfl rfl rfl HS.b0 rfl rfl aYp aYn rfl rfl ?_
       refine Dg (.pointer (some ⟨g1,3,none⟩)) 28 rfl HS.b0 (fun a ha w=>bH (ha.ev rfl) aYr rfl aYn rfl rfl) ?_
       refine fM (a0p aB aC n1b aG aF au aH) 29 6 (by kernel_rfl) rfl (fun _ _ _ h=>h) rfl rfl rfl rfl rfl HS.b0 rfl rfl aYp aYn rfl rfl ?_
       refine J1 27 (by kernel_rfl) ?_
       refine ai.cZ rfl rfl rfl rfl rfl rfl rfl aYv (iQ HT HB HS (HS.at_ 8 rfl) (HS.at_ 8 rfl) (by omega)) rfl (fun aVd aXq avZ => ?_) ai.nil
       obtain ⟨aS8,aIV,aRd,aLO,aKh,aPQ,aNh,rfl,HS⟩:=avZ
       refine ⟨HS.b0,?_⟩
       refine J1 30 (by kernel_rfl) ?_
       refine ai.cZ rfl rfl rfl rfl rfl rfl rfl aYD (vJ HT HB HS (HS.at_ 0 rfl) (HS.at_ 11 rfl) (by omega)) rfl (fun aVf aXs av2 => ?_) ai.nil
       obtain ⟨rfl,HS⟩:=av2
       refine ⟨HS.b0,?_⟩
       refine Dg (.bool false) 31 rfl HS.b0 (fun a ha w=>qX (ha.ev rfl) (ha.ev rfl) ((Rw _ _).trans (decide_eq_false (by have:=Zi hh0 m3; rwa [e2] at this ⊢)))) ?_
       refine Dv (.bool false) 32 rfl HS.b0 (fun a ha w=>gB (ha.ev rfl) (ha.ev rfl)) ?_
       refine JR.next (by kernel_rfl) (fun _ _ h=>h) ?_
       refine JC.jA rfl ?_
       refine JC.jF (fun _ _ h=>h) ?_
       by_cases ahN:vY (bW true true af ah) m3=0
       ·skip
        refine JC.seq ?_
        refine JC.draw HS [] (by kernel_rfl) (fun w62 HS => ?_)
        refine Dv (.pointer (some ⟨g17,3,none⟩)) 0 rfl HS.b0 (fun a ha w=>bH (ha.ev rfl) aYr rfl aYn rfl rfl) ?_
        refine Da (a0p zD yX zk c16b yZ zi zf) 1 3 rfl HS.b0 rfl rfl aYp aYn ?_
        refine bJ 2 rfl rfl rfl aZa (NM HT HB HS (HS.at_ 9 rfl) (by omega)) (fun aVh aXw av4 => ?_)
        obtain ⟨rfl,HS⟩:=av4
        refine ⟨HS.b0,?_⟩
        refine Dv (.bool true) 3 rfl HS.b0 (fun a ha w=>rC (ha.ev rfl) (ha.ev rfl) ((Qk _).trans (decide_eq_true ahN))) ?_
        refine Dv (.bool true) 4 rfl HS.b0 (fun a ha w=>run_move (ha.ev rfl)) ?_
        refine Jp 5 (by kernel_rfl) rfl rfl (fun _ _ _ h=>h) rfl rfl rfl rfl rfl HS.b0 ?_
        refine Jp 6 (by kernel_rfl) rfl rfl (fun _ _ _ h=>h) rfl rfl rfl rfl rfl HS.b0 ?_
        refine Jp 8 (by kernel_rfl) rfl rfl (fun _ _ _ h=>h) rfl rfl rfl rfl rfl HS.b0 ?_
        refine Jp 9 (by kernel_rfl) rfl rfl (fun _ _ _ h=>h) rfl rfl rfl rfl rfl HS.b0 ?_
        refine J1 7 (by kernel_rfl) ?_
        refine ai.pass rfl rfl rfl rfl rfl rfl rfl rfl rfl rfl ?_ ai.nil
        refine ⟨HS.b0,?_⟩
        refine J1 10 (by kernel_rfl) ?_
        refine ai.pass rfl rfl rfl rfl rfl rfl rfl rfl rfl rfl ?_ ai.nil
        refine ⟨HS.b0,?_⟩
        refine Jp 11 (by kernel_rfl) rfl rfl (fun _ _ _ h=>h) rfl rfl rfl rfl rfl HS.b0 ?_
        refine Dv (.bool true) 12 rfl HS.b0 (fun a ha w=>eY (ha.ev rfl) (ha.ev rfl)) ?_
        refine Dv (.bool true) 13 rfl HS.b0 (fun a ha w=>run_assign (ha.ev rfl)) ?_
        refine JR.next (by kernel_rfl) (fun _ _ h=>h) ?_
        refine JC.ret (fun a ha => ?_)
        repeat (first | refine dh ?_ | refine df ?_)
        refine fG (v := .bool true) ha Tryz.results11 (.tmp rfl) ⟨_,rfl,?_⟩
        exact ⟨rfl,HS.gy 7 16 rfl rfl⟩
       ·skip
        refine JC.seq ?_
        refine JC.draw HS [] (by kernel_rfl) (fun Bh HS => ?_)
        refine Dv (.pointer (some ⟨g17,3,none⟩)) 0 rfl HS.b0 (fun a ha w=>bH (ha.ev rfl) aYr rfl aYn rfl rfl) ?_
        refine Da (a0p zD yX zk c16b yZ zi zf) 1 3 rfl HS.b0 rfl rfl aYp aYn ?_
        refine bJ 2 rfl rfl rfl aZa (NM HT HB HS (HS.at_ 9 rfl) (by omega)) (fun aVi aXy av5 => ?_)
        obtain ⟨rfl,HS⟩:=av5
        refine ⟨HS.b0,?_⟩
        refine Dv (.bool false) 3 rfl HS.b0 (fun a ha w=>rC (ha.ev rfl) (ha.ev rfl) ((Qk _).trans (decide_eq_false ahN))) ?_
        refine Dv (.bool false) 4 rfl HS.b0 (fun a ha w=>run_move (ha.ev rfl)) ?_
        refine fM (a0p s56 A56 n56 c56 B56 m56 d56) 5 0 (by kernel_rfl) rfl (fun _ _ _ h=>h) rfl rfl rfl rfl rfl HS.b0 rfl rfl aYp aYn rfl rfl ?_
        refine fM (a0p s56 A56 n56 c56 B56 m56 d56) 6 0 (by kernel_rfl) rfl (fun _ _ _ h=>h) rfl rfl rfl rfl rfl HS.b0 rfl rfl aYp aYn rfl rfl ?_
        refine Dg (.pointer (some ⟨g1,3,none⟩)) 8 rfl HS.b0 (fun a ha w=>bH (ha.ev rfl) aYr rfl aYn rfl rfl) ?_
        refine fM (a0p aB aC n1b aG aF au aH) 9 6 (by kernel_rfl) rfl (fun _ _ _ h=>h) rfl rfl rfl rfl rfl HS.b0 rfl rfl aYp aYn rfl rfl ?_
        refine J1 7 (by kernel_rfl) ?_
        refine ai.cZ rfl rfl rfl rfl rfl rfl rfl aYv (iQ HT HB HS (HS.at_ 3 rfl) (HS.at_ 3 rfl) (by omega)) rfl (fun aVj aXz av6 => ?_) ai.nil
        obtain ⟨aS9,aIW,aRf,aLP,aKi,aPR,aNi,rfl,HS⟩:=av6
        refine ⟨HS.b0,?_⟩
        refine J1 10 (by kernel_rfl) ?_
        refine ai.cZ rfl rfl rfl rfl rfl rfl rfl aYD (vJ HT HB HS (HS.at_ 0 rfl) (HS.at_ 12 rfl) (by omega)) rfl (fun aVk aXA av7 => ?_) ai.nil
        obtain ⟨rfl,HS⟩:=av7
        refine ⟨HS.b0,?_⟩
        refine Dg (.bool true) 11 rfl HS.b0 (fun a ha w=>qX (ha.ev rfl) (ha.ev rfl) ((Rw _ _).trans (decide_eq_true (by have:=aee hh0 m3 ahN; rwa [e2] at this ⊢)))) ?_
        refine Dv (.bool true) 12 rfl HS.b0 (fun a ha w=>gB (ha.ev rfl) (ha.ev rfl)) ?_
        refine Dv (.bool true) 13 rfl HS.b0 (fun a ha w=>run_assign (ha.ev rfl)) ?_
        refine JR.next (by kernel_rfl) (fun _ _ h=>h) ?_
        refine JC.ret (fun a ha => ?_)
        repeat (first | refine dh ?_ | refine df ?_)
        refine fG (v := .bool true) ha Tryz.results11 (.tmp rfl) ⟨_,rfl,?_⟩
        exact ⟨rfl,HS.gy 7 17 rfl rfl⟩
   ·skip
    have hd8:=of_decide_eq_true acU
    refine Lv (.bool true) (fun a ha=>run_move (ha.ev rfl)) ?_
    refine Lp ?_
    refine Lp ?_
    refine Lv (.bool true) (fun a ha=>eY (ha.ev rfl) (ha.ev rfl)) ?_
    refine jn ?_
    refine JC.iy rfl ?_
    refine JC.seq ?_
    refine JC.region ?_
    refine JL.call rfl rfl aYO (zh HT HB HS  ) (fun v66 w66 agx => ?_)
    obtain ⟨rfl,HS⟩:=agx
    refine Lv (.bool true) (fun a ha=>run_assign (ha.ev rfl)) ?_
    refine jn ?_
    refine JC.ret (fun a ha => ?_)
    repeat (first | refine dh ?_ | refine df ?_)
    refine fG (v := .bool true) ha Tryz.results11 (.tmp rfl) ⟨_,rfl,?_⟩
    exact ⟨rfl,HS.gy 3 5 rfl rfl⟩
  ·skip
   have hd7:=of_decide_eq_true PR
   refine Lv (.bool true) (fun a ha=>run_move (ha.ev rfl)) ?_
   refine Lp ?_
   refine Lp ?_
   refine Lp ?_
   refine Lp ?_
   refine Lv (.bool true) (fun a ha=>eY (ha.ev rfl) (ha.ev rfl)) ?_
   refine Lv (.bool true) (fun a ha=>run_move (ha.ev rfl)) ?_
   refine Lp ?_
   refine Lp ?_
   refine Lv (.bool true) (fun a ha=>eY (ha.ev rfl) (ha.ev rfl)) ?_
   refine jn ?_
   refine JC.iy rfl ?_
   refine JC.seq ?_
   refine JC.region ?_
   refine JL.call rfl rfl aYO (zh HT HB HS  ) (fun v67 w67 agy => ?_)
   obtain ⟨rfl,HS⟩:=agy
   refine Lv (.bool true) (fun a ha=>run_assign (ha.ev rfl)) ?_
   refine jn ?_
   refine JC.ret (fun a ha => ?_)
   repeat (first | refine dh ?_ | refine df ?_)
   refine fG (v := .bool true) ha Tryz.results11 (.tmp rfl) ⟨_,rfl,?_⟩
   exact ⟨rfl,HS.gy 3 5 rfl rfl⟩
theorem aAy {t3:Nat} {ax:Bool} {ay:Option Addr} {aj c1a:Nat} {az:Option Addr} {ak aA:Nat} {af:Rat} {bC:Nat} {bu:Bool} {aB:Bool} {aC:Option Addr} {n1b aG:Nat} {aF:Option Addr} {au aH:Nat} {ah:Rat} {bD:Nat} {bn:Bool} {s2:Bool} {A2:Option Addr} {n2 c2:Nat} {B2:Option Addr} {m2 d2:Nat} {q2:Rat} {k2:Nat} {b2:Bool} (W:World) (ht:Tz W) (hb:Tab W) (_hx:Mx W) (f1a:fJ W ⟨(a0p ax ay aj c1a az ak aA),af,bC,bu⟩) (bI:fJ W ⟨(a0p aB aC n1b aG aF au aH),ah,bD,bn⟩) (f2:fJ W ⟨(a0p s2 A2 n2 c2 B2 m2 d2),q2,k2,b2⟩) (ht3:t3≤255) :
  Calls Tryz.prog 11 #[(a0r ax ay aj c1a az ak aA aB aC n1b aG aF au aH),(a0p s2 A2 n2 c2 B2 m2 d2),.int .u8 (t3:Int)] W fun e w'=>e = .returned (.bool true)∧Below W.heap.size W w':=law_true (aAz ht hb (St.init W) f1a bI f2 ht3 rfl)
theorem aAB {af:Rat} {bC:Nat} {bu:Bool} {ah:Rat} {bD:Nat} {bn:Bool} {q2:Rat} {k2:Nat} {b2:Bool} {z3:Int} (W:World) (ht:Tz W) (hb:Tab W) (hx:Mx W) (f1a:fJ W ⟨(a0p ax ay aj c1a az ak aA),af,bC,bu⟩) (bI:fJ W ⟨(a0p aB aC n1b aG aF au aH),ah,bD,bn⟩) (f2:fJ W ⟨(a0p s2 A2 n2 c2 B2 m2 d2),q2,k2,b2⟩) (w3:(Lit.int .u8 z3).wf=true) :
 Calls Tryz.prog 11 #[(a0r ax ay aj c1a az ak aA aB aC n1b aG aF au aH),(a0p s2 A2 n2 c2 B2 m2 d2),.int .u8 z3] W fun e w'=>e = .returned (.bool true)∧Below W.heap.size W w':=by
 have h:=TK w3
 obtain ⟨t3,rfl⟩ : ∃ t:Nat,z3=(t:Int):=⟨z3.toNat,by omega⟩
 exact aAy W ht hb hx f1a bI f2 (by omega)
end
end Go.Proofs.YtbihljnjaondcaaGreatDoor
