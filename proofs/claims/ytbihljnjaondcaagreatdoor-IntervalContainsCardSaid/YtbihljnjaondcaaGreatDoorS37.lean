/- Part of a proof, said shortly. -/
import Derived.Lib.TrailingZeros
import Derived.Deep.RegionWith
import Derived.OpenShut
import Derived.Deep.Strs
import Derived.Test.YtbihljnjaondcaaGreatDoorAlz
import Derived.Test.YtbihljnjaondcaaGreatDoorC5
import Derived.Test.YtbihljnjaondcaaGreatDoorC1
import Derived.Test.YtbihljnjaondcaaGreatDoorC13
import Derived.Test.YtbihljnjaondcaaGreatDoorC12
import Derived.Test.YtbihljnjaondcaaGreatDoorC11
import Derived.Test.YtbihljnjaondcaaGreatDoorC10
import Derived.Test.YtbihljnjaondcaaGreatDoorC6
import Derived.Test.YtbihljnjaondcaaGreatDoorC2
import Derived.Test.YtbihljnjaondcaaGreatDoorC4
import Derived.Test.YtbihljnjaondcaaGreatDoorC3
import Derived.Test.YtbihljnjaondcaaGreatDoorC9
import Derived.Test.YtbihljnjaondcaaGreatDoorC8
import Derived.Test.YtbihljnjaondcaaGreatDoorC7
import Derived.Test.YtbihljnjaondcaaGreatDoorS7
import Derived.Test.YtbihljnjaondcaaGreatDoorS4
import Derived.Test.YtbihljnjaondcaaGreatDoorS6
import Derived.Test.YtbihljnjaondcaaGreatDoorC20
import Derived.Test.YtbihljnjaondcaaGreatDoorS5
import Derived.Test.YtbihljnjaondcaaGreatDoorS11
import Derived.Test.YtbihljnjaondcaaGreatDoorS20
import Derived.Test.YtbihljnjaondcaaGreatDoorC15
import Derived.Test.YtbihljnjaondcaaGreatDoorS1
import Derived.Test.YtbihljnjaondcaaGreatDoorS19
import Derived.Test.YtbihljnjaondcaaGreatDoorS27
import Derived.Test.YtbihljnjaondcaaGreatDoorS28
import Derived.Test.YtbihljnjaondcaaGreatDoorC16
import Derived.Test.YtbihljnjaondcaaGreatDoorC14
import Derived.Test.YtbihljnjaondcaaGreatDoorC19
import Derived.Test.YtbihljnjaondcaaGreatDoorC18
import Derived.Test.YtbihljnjaondcaaGreatDoorC17
import Derived.Test.YtbihljnjaondcaaGreatDoorC25
import Derived.Test.YtbihljnjaondcaaGreatDoorS10
import Derived.Test.YtbihljnjaondcaaGreatDoorC21
import Derived.Test.YtbihljnjaondcaaGreatDoorS2
import Derived.Test.YtbihljnjaondcaaGreatDoorS13
import Derived.Test.YtbihljnjaondcaaGreatDoorS24
import Derived.Test.YtbihljnjaondcaaGreatDoorS15
import Derived.Test.YtbihljnjaondcaaGreatDoorS3
import Derived.Test.YtbihljnjaondcaaGreatDoorC22
import Derived.Test.YtbihljnjaondcaaGreatDoorS8
import Derived.Test.YtbihljnjaondcaaGreatDoorS17
import Derived.Test.YtbihljnjaondcaaGreatDoorS21
import Derived.Test.YtbihljnjaondcaaGreatDoorS29
import Derived.Test.YtbihljnjaondcaaGreatDoorC23
import Derived.Test.YtbihljnjaondcaaGreatDoorC24
set_option maxRecDepth 100000
open Go.Proofs.YtbihljnjaondcaaGreatDoor (a0p a0q a0r a0s yw bU fO cO PS iy1 PT FX iy4 iy5 iy6 Yo iy8 iy9 aAJ)
set_option linter.unusedVariables false
set_option linter.unusedSimpArgs false
namespace Lw
theorem aDI {a:Rat} (h:a≠0):(a⁻¹).num=(if a.num < 0 then -(a.den:Int) else a.den)∧(a⁻¹).den=a.num.natAbs:=by
 show (Rat.inv a).num=_∧(Rat.inv a).den=_
 unfold Rat.inv
 have h0:a.num≠0:=fun e=>h (Rat.num_eq_zero.1 e)
 split
 ·exact ⟨rfl,rfl⟩
 ·split
  ·exact ⟨rfl,rfl⟩
  ·omega
end Lw
namespace Lw
open Go Go.RowKit
theorem aAo {q:Rat} (h:q≠0):rs q⁻¹=rs q∧rn q⁻¹=rd q∧rd q⁻¹=rn q:=by
 obtain ⟨h1,h2⟩:=aDI h
 have hz:q.num≠0:=fun e=>h (Rat.num_eq_zero.1 e)
 have hd:=den_pos q
 unfold rs rn rd
 rw [h1,h2,if_neg hz]
 by_cases hn:q.num < 0
 ·rw [if_pos hn,if_neg (by omega),decide_eq_true hn,decide_eq_true (by omega),Int.natAbs_neg,Int.natAbs_natCast]
  exact ⟨rfl,rfl,rfl⟩
 ·rw [if_neg hn,if_neg (by omega),decide_eq_false hn,decide_eq_false (by omega),Int.natAbs_natCast]
  exact ⟨rfl,rfl,rfl⟩
end Lw
namespace Go.Proofs.YtbihljnjaondcaaGreatDoor
open Go Go.RowKit Lw
section
variable {W0 w:World} {bs:List Bx} {L:List En} {ts:List Bt} {M:List Qn} {s s':Bool} {A A':Option Addr} {n c n' c' k k':Nat} {q:Rat} {v:Value} {b:Bool}
set_option maxRecDepth 100000 in
set_option maxHeartbeats 1600000 in
theorem aAq (HE:bG W0 w bs L ts M) (h:⟨.agg #[.bool s,.slice A n c,.slice A' n' c'],q,k,true⟩∈M) (hq:q≠0) :
  Calls Tryz.prog 84 #[.agg #[.bool s,.slice A n c,.slice A' n' c']] w (jB W0 bs L ts M q⁻¹ k):=by
 have H1:=(HE.here.gQ (.bool s) (.slice A n c) (.slice A' n' c')).gQ (.bool false) (.slice none 0 0) (.slice none 0 0)
 have H2:=((HE.here.gQ (.bool s) (.slice A n c) (.slice A' n' c')).gQ (.bool s) (.slice A' n' c') (.slice A n c)).bare
 simp only [World.size_alloc] at H1
 obtain ⟨e0,e1,e2,e3,e4,e5⟩:=H1.c3 (.tail _ (.head _))
 have HQ:=Lib.hid hq
 clear hq
 refine Calls.mono (R:=jB w [] L [] M q⁻¹ k) ?_ fun _ _ hh=>jB.of HE hh
 go_enter Tryz.func84,Tryz.ntmps84
 go_wp2_with fail
 refine bodyPost_ret (v := .agg #[.bool s,.slice A' n' c',.slice A n c]) (by simp [results,Tryz.results84,go_sem]) rfl ?_
 obtain ⟨h1,h2,h3,h4,h5,h6,h7,h8,h9⟩:=(H2.fr _ h).own
 obtain ⟨f1,f2,f3⟩:=aAo HQ.out
 rw [← f2] at h5 h3
 rw [← f3] at h4 h2
 exact ⟨_,_,_,_,_,_,_,rfl,H2.cons ⟨s,A',n',c',A,n,c,rn q⁻¹,rd q⁻¹,rfl,h5,h4,h3.symm,h2.symm,h7,h6,h9,h8,by rw [h1,← f1]; exact P9 _,by rw [h1,← f1]; exact RD _⟩⟩
end
end Go.Proofs.YtbihljnjaondcaaGreatDoor
namespace Go.Proofs.YtbihljnjaondcaaGreatDoor
open Go Go.RowKit Lw
section
variable {W0 w:World} {bs:List Bx} {L:List En} {ts:List Bt} {M:List Qn} {s s':Bool} {A A' B B':Option Addr} {n c n' c' m d m' d' k k':Nat} {q r:Rat} {x y:Int} {b b':Bool}
set_option maxRecDepth 100000 in
set_option maxHeartbeats 4000000 in
theorem ayE (HE:bG W0 w bs L ts M) (h:⟨.agg #[.bool s,.slice A n c,.slice A' n' c'],q,k,b⟩∈M) (h':⟨.agg #[.bool s',.slice B m d,.slice B' m' d'],r,k',b'⟩∈M) (hk:k+k'≤8000) (hr:r≠0) :
  Calls Tryz.prog 76 #[.agg #[.bool s,.slice A n c,.slice A' n' c'],.agg #[.bool s',.slice B m d,.slice B' m' d']] w (Bv W0 bs L ts M (q*r⁻¹) (k+k'+2)):=by
 refine Calls.mono (R:=Bv w [] L [] M (q*r⁻¹) (k+k'+2)) ?_ fun _ _ hh=>Bv.of HE hh
 have HQ:=Lib.hid hr
 clear hr
 replace HE:=((HE.here.gQ (.bool s) (.slice A n c) (.slice A' n' c')).gQ (.bool s') (.slice B m d) (.slice B' m' d')).gQ (.bool false) (.slice none 0 0) (.slice none 0 0)
 simp only [World.size_alloc] at HE
 obtain ⟨q0,q1,q2,q3,q4,q5⟩:=HE.c3 (.head _)
 obtain ⟨q6,q7,q8,q9,q10,q11⟩:=HE.c3 (.tail _ (.head _))
 obtain ⟨q12,q13,jC,jD,q16,jE⟩:=HE.c3 (.tail _ (.tail _ (.head _)))
 go_enter Tryz.func76,Tryz.ntmps76
 go_wp2_with fail
 go_region_with
  (first
   | (go_at_call 83; have _:=y8; refine (zT (by with_reducible first | exact HE | exact HE.drew) (.tail _ h') (by omega)).mono ?_; rintro e w2 ⟨sb,Ba,ma,da,Bb,mb,db,rfl,HE⟩; obtain ⟨v0,v1,v2,v3,v4,v5⟩:=HE.c3 (.tail _ (.tail _ (.head _))); obtain ⟨v6,v7,v8,v9,v10,v11⟩:=HE.c3 (.tail _ (.head _)))
   | (go_at_call 83; refine (zT (by with_reducible first | exact HE | exact HE.drew) h (by omega)).mono ?_; rintro e w1 ⟨sa,Aa,na,ca,Ab,nb,cb,rfl,HE⟩; have y8:=HE; obtain ⟨u0,u1,u2,u3,u4,u5⟩:=HE.c3 (.tail _ (.tail _ (.head _))); obtain ⟨u6,u7,u8,u9,u10,u11⟩:=HE.c3 (.tail _ (.head _))))
 all_goals
  first | clear q0 q1 q2 q3 q4 q5 q6 q7 q8 q9 q10 q11 q12 q13 jC jD q16 jE u0 u1 u2 u3 u4 u5 u6 u7 u8 u9 u10 u11 v0 v1 v2 v3 v4 v5 v6 v7 v8 v9 v10 v11 y8 | skip
  have HA:=HE.fr _ (.tail _ (.head _))
  have HB:=HE.fr _ (.head _)
  have hn0:((ma:Int)==0)=false:=by rw [beq_eq_false_iff_ne]; have:=mt (Jm HB.own.2.1).1 HQ.out; omega
  replace HE:=(HE.G9 (s':=sa) (D:=Aa) (m:=na) (d:=ca) (v := .slice Ab nb cb) (.tail _ (.tail _ (.head _))) [⟨w.heap.size+1+1,.bool false,.slice none 0 0,.slice none 0 0⟩,⟨w.heap.size+1,.bool s',.slice B m d,.slice B' m' d'⟩] (fun b hb=>by simp only [List.mem_cons,List.not_mem_nil,or_false] at hb; rcases hb with rfl | rfl <;> exact ⟨(by repeat (first | exact .head _ | assumption | refine .tail _ ?_)),by dsimp only; omega⟩)).G9 (s':=sb) (D:=Ba) (m:=ma) (d:=da) (v := .slice Bb mb db) (.tail _ (.tail _ (.head _))) [⟨w.heap.size,.bool sa,.slice Aa na ca,.slice Ab nb cb⟩,⟨w.heap.size+1+1,.bool false,.slice none 0 0,.slice none 0 0⟩] (fun b hb=>by simp only [List.mem_cons,List.not_mem_nil,or_false] at hb; rcases hb with rfl | rfl <;> exact ⟨(by repeat (first | exact .head _ | assumption | refine .tail _ ?_)),by dsimp only; omega⟩)
  clear HA HB
  generalize (((((((w2.setCell ⟨w.heap.size,0,none⟩ (.bool sa)).setCell ⟨w.heap.size,1,none⟩ (.slice Aa na ca)).setCell ⟨w.heap.size,2,none⟩ (.slice Ab nb cb)).setCell ⟨w.heap.size+1,0,none⟩ (.bool sb)).setCell ⟨w.heap.size+1,1,none⟩ (.slice Ba ma da)).setCell ⟨w.heap.size+1,2,none⟩ (.slice Bb mb db)))=W5 at *
  obtain ⟨kL,kM,lH,lI,q22,q23⟩:=HE.c3 (.head _)
  obtain ⟨q24,mG,mX,mY,nV,nX⟩:=HE.c3 (.tail _ (.head _))
  obtain ⟨q30,nY,q32,og,pg,q35⟩:=HE.c3 (.tail _ (.tail _ (.head _)))
  go_wp2_with fail
  have TA:=HE.rD (.tail _ (.head _))
  have TB:=HE.rD (.head _)
  go_region_held3 (fun w'=>w'.cell? ⟨w.heap.size,0,none⟩=some (.bool sa)∧w'.cell? ⟨w.heap.size,1,none⟩=some (.slice Aa na ca)∧w'.cell? ⟨w.heap.size,2,none⟩=some (.slice Ab nb cb)∧w'.cell? ⟨w.heap.size+1,0,none⟩=some (.bool sb)∧w'.cell? ⟨w.heap.size+1,1,none⟩=some (.slice Ba ma da)∧w'.cell? ⟨w.heap.size+1,2,none⟩=some (.slice Bb mb db)) (with_reducible first | exact iG.cc TA TB | exact iG.cc TA.drew TB.drew | exact iG.cc UA UB)
   (first
    | (go_at_call 84; refine (aAq (by with_reducible first | exact HE | exact HE.drew) (by repeat (first | exact .head _ | assumption | refine .tail _ ?_)) HQ.out).mono ?_; rintro e wn ⟨sx,Ax,nx,cx,Ay,ny,cy,rfl,HE⟩; have TA:=HE.rD (.tail _ (.head _)); have TB:=HE.rD (.head _))
    | (go_at_call 148; refine (ash (by with_reducible first | exact HE | exact HE.drew) (by repeat (first | exact .head _ | assumption | refine .tail _ ?_)) (by repeat (first | exact .head _ | assumption | refine .tail _ ?_)) (by omega)).mono ?_; rintro e wn ⟨sx,Ax,nx,cx,Ay,ny,cy,rfl,HE⟩; have TA:=HE.rD (.tail _ (.head _)); have TB:=HE.rD (.head _); have UA:=TA.IW (g':=w.heap.size+1+1) (by omega) (.bool sx) (.slice Ax nx cx) (.slice Ay ny cy); have UB:=TB.IW (g':=w.heap.size+1+1) (by omega) (.bool sx) (.slice Ax nx cx) (.slice Ay ny cy); obtain ⟨z0,z1,z2,z3,z4,z5⟩:=HE.c3 (.tail _ (.tail _ (.head _)))))
  go_wp2_with fail
  refine bodyPost_ret (v := .tuple #[.agg #[.bool sx,.slice Ax nx cx,.slice Ay ny cy],.nilIface]) (by simp [results,Tryz.results76,go_sem,z0,z1,z2]) rfl ?_
  have HK:=(HE.tK (D:=Ax) (m:=nx) (d:=cx) (.tail _ (.tail _ (.head _))) sx (.slice Ay ny cy)).bare
  exact ⟨_,_,_,_,_,_,_,rfl,HK.pick (fun _ he=>he) (fun _ he=>by rcases List.mem_cons.1 he with rfl | he; exact .head _; exact .tail _ (.tail _ (.tail _ (.tail _ he))))⟩
end
end Go.Proofs.YtbihljnjaondcaaGreatDoor
namespace Go.Proofs.YtbihljnjaondcaaGreatDoor
open Go Go.RowKit Lw bZ
section
variable {W0 w w':World} {U:List Box} {Ps:List (World→Prop)} {v v':Value} {q r:Rat} {x y:Int} {k k':Nat} {b b':Bool} {f:FuncId} {vs:List Value} {L:List En} {M:List Qn}
theorem acp (HT:Tz W0) (HB:Tab W0) (HS:St W0 U Ps w) {s1:Bool} {A1:Option Addr} {n1 c1:Nat} {B1:Option Addr} {m1 d1:Nat} {q1:Rat} {k1:Nat} {b1:Bool} {s2:Bool} {A2:Option Addr} {n2 c2:Nat} {B2:Option Addr} {m2 d2:Nat} {q2:Rat} {k2:Nat} {b2:Bool} (f1:FV (a0p s1 A1 n1 c1 B1 m1 d1) q1 k1 b1 w) (f2:FV (a0p s2 A2 n2 c2 B2 m2 d2) q2 k2 b2 w) (hk:k1+k2≤8000) (hr:q2≠0):bY Tryz.prog 76 [(a0p s1 A1 n1 c1 B1 m1 d1),(a0p s2 A2 n2 c2 B2 m2 d2)] w (Bo W0 U Ps (q1*q2⁻¹) (k1+k2+2) (.nilIface)) :=
 NQ HS (ayE (((St.start HS HT HB).cons f2).cons f1) (.head _) (.tail _ (.head _)) hk hr)
end
end Go.Proofs.YtbihljnjaondcaaGreatDoor
namespace Go.Proofs.YtbihljnjaondcaaGreatDoor
open Go Go.ChangeShapes Go.WideShapes Go.ChangeAt Go.RowKit Go.Joins Lw
theorem axC:Tryz.prog.cellsOf 69=2:=by kernel_rfl
theorem aF' {α:Type} {l:List α} (h:l.length=2) : ∃ a b,l=[a,b]:=by
 match l,h with
 | [a,b],_=>exact ⟨a,b,rfl⟩
theorem aF8 {α:Type} {cs:Array α} (h:cs.size=2) : ∃ a b,cs = #[a,b]:=by
 obtain ⟨l⟩:=cs
 match l,h with
 | [a,b],_=>exact ⟨a,b,rfl⟩
theorem aF6 {H:Type} {enc:TypeId×Value→H} {W:World} {base:Nat} {v:Value} {d:DataW H} {p:List MemPlace}
  (hv:Value.okWide Tryz.prog W .any base 69 v) (h:DataW.Trod enc Tryz.prog W 0 (fun _=>true) true 69 v d p) :
  ∃ z1 z2,v = .agg #[.int .u8 z1,.int .u8 z2]∧(Lit.int .u8 z1).wf=true∧(Lit.int .u8 z2).wf=true:=by
 simp only [Value.okWide,Tryz.underlying69] at hv
 obtain ⟨cs,rfl,hsz,_⟩:=hv
 obtain ⟨c0,c1,rfl⟩:=aF8 (hsz.trans axC)
 obtain ⟨fuel,hf⟩:=h
 obtain ⟨xs,m,_,_,_,hn,hi⟩:=DataW.trod_array Tryz.underlying69 hf
 obtain ⟨a,b,rfl⟩:=aF' hn
 have h0:=hi 0 (by omega)
 have h1:=hi 1 (by omega)
 rw [al5] at h0 h1
 obtain ⟨z1,e1,_,w1⟩:=DataW.trod_int aYZ (show DataW.trod enc Tryz.prog W 0 (fun _=>true) true m 5 [c0]=some a from h0)
 obtain ⟨z2,e2,_,w2⟩:=DataW.trod_int aYZ (show DataW.trod enc Tryz.prog W 0 (fun _=>true) true m 5 [c1]=some b from h1)
 injection e1 with e1
 injection e2 with e2
 subst e1 e2
 exact ⟨z1,z2,rfl,w1,w2⟩
end Go.Proofs.YtbihljnjaondcaaGreatDoor
namespace Lw
open Go
theorem aA7 {a b:Rat} (h:a≤b):a≤(a+b)*Rat.divInt 1 2∧(a+b)*Rat.divInt 1 2≤b:=by
 have e:(a+b)*Rat.divInt 1 2=(a+b) / 2:=by
  rw [show Rat.divInt 1 2=(2:Rat)⁻¹ by decide +kernel,Rat.div_def]
 rw [e]
 grind
theorem azY {a b c d x:Rat} (h1:a≤x) (h2:x≤b):gY a c≤x∧x≤gX b d:=by
 have:=Ol a c
 have:=PU b d
 grind
theorem aoW {a b c d:Rat} (h1:a≤b) (h2:c≤d) (h:a≤d∧c≤b):gX a c≤gY b d:=by
 have h3:=aoX h1 h2 h.1 h.2
 grind
theorem aoV {a b c d x:Rat} (h1:a≤x) (h2:x≤b):((decide (gX a c≤x)&&decide (x≤gY b d)) != (decide (c≤x)&&decide (x≤d)))=false:=by
 have e1:decide (gX a c≤x)=decide (c≤x):=by
  rw [decide_eq_decide,PW]
  split <;> constructor <;> intro <;> grind
 have e2:decide (x≤gY b d)=decide (x≤d):=by
  rw [decide_eq_decide,SH]
  split <;> constructor <;> intro <;> grind
 rw [e1,e2]
 simp
theorem adR {c d y:Rat} (h0:0 < c∨d < 0) (h1:c≤y) (h2:y≤d):y≠0:=by grind
theorem ack {a b c d x y:Rat} (h0:0 < c∨d < 0) (h1:a≤x) (h2:x≤b) (h3:c≤y) (h4:y≤d):lC a b d⁻¹ c⁻¹≤x*y⁻¹∧x*y⁻¹≤jV a b d⁻¹ c⁻¹ :=
 SI h1 h2 (EO h4 (by grind)) (EO h3 (by grind))
end Lw
namespace Go.Proofs.YtbihljnjaondcaaGreatDoor
open Go Go.RowKit Lw bZ
section
variable {W0 w:World} {U:List Box} {Ps:List (World→Prop)}
variable {ax:Bool} {ay:Option Addr} {aj c1a:Nat} {az:Option Addr} {ak aA:Nat} {aB:Bool} {aC:Option Addr} {n1b aG:Nat} {aF:Option Addr} {au aH:Nat} {s2:Bool} {A2:Option Addr} {n2 c2:Nat} {B2:Option Addr} {m2 d2:Nat} {aP:Bool} {aQ:Option Addr} {aK aS:Nat} {aU:Option Addr} {aN aY:Nat} {aV:Bool} {aW:Option Addr} {aO aX:Nat} {aZ:Option Addr} {aT bf:Nat}
theorem aGQ (HT:Tz W0) (HB:Tab W0) (HS:St W0 U Ps w) {af:Rat} {bC:Nat} {ah:Rat} {bD:Nat} (f1a:FV (a0p ax ay aj c1a az ak aA) af bC true w) (bI:FV (a0p aB aC n1b aG aF au aH) ah bD true w) (hk:bC+bD≤900) (fE:af≤ah):bY Tryz.prog 56 [(a0r ax ay aj c1a az ak aA aB aC n1b aG aF au aH)] w (xG W0 U Ps (-ah) (-af) (bC+bD)):=by
 have h:=asN HT HB HS f1a bI hk
 simp only [vG fE,vF fE] at h
 exact h
theorem aGP (HT:Tz W0) (HB:Tab W0) (HS:St W0 U Ps w) {af:Rat} {bC:Nat} {ah:Rat} {bD:Nat} (f1a:FV (a0p ax ay aj c1a az ak aA) af bC true w) (bI:FV (a0p aB aC n1b aG aF au aH) ah bD true w) (hk:bC+bD≤900) (fE:af≤ah):bY Tryz.prog 48 [(a0r ax ay aj c1a az ak aA aB aC n1b aG aF au aH)] w (xY W0 U Ps ((af+ah)*Rat.divInt 1 2) ((bC+bD)+(bC+bD)+8)):=by
 have h:=asL HT HB HS f1a bI hk
 simp only [vG fE,vF fE] at h
 exact h
theorem aGM (HT:Tz W0) (HB:Tab W0) (HS:St W0 U Ps w) {af:Rat} {bC:Nat} {ah:Rat} {bD:Nat} {aI:Rat} {bM:Nat} {aJ:Rat} {bP:Nat} (f1a:FV (a0p ax ay aj c1a az ak aA) af bC true w) (bI:FV (a0p aB aC n1b aG aF au aH) ah bD true w) (fC:FV (a0p aP aQ aK aS aU aN aY) aI bM true w) (fD:FV (a0p aV aW aO aX aZ aT bf) aJ bP true w) (hk:bC+bD+(bM+bP)≤1000) (h1:af≤aJ) (h2:aI≤ah) (fE:af≤ah) (gV:aI≤aJ):bY Tryz.prog 53 [(a0r ax ay aj c1a az ak aA aB aC n1b aG aF au aH),(a0r aP aQ aK aS aU aN aY aV aW aO aX aZ aT bf)] w (yY W0 U Ps (gX af aI) (gY ah aJ) ((bC+bD)+(bM+bP)) (.nilIface)):=by
 have h:=asI HT HB HS f1a bI fC fD hk (by simp only [vG fE,vF fE,vG gV,vF gV]; exact h1) (by simp only [vG fE,vF fE,vG gV,vF gV]; exact h2)
 simp only [vG fE,vF fE,vG gV,vF gV] at h
 exact h
theorem aGN (HT:Tz W0) (HB:Tab W0) (HS:St W0 U Ps w) {af:Rat} {bC:Nat} {ah:Rat} {bD:Nat} {aI:Rat} {bM:Nat} {aJ:Rat} {bP:Nat} (f1a:FV (a0p ax ay aj c1a az ak aA) af bC true w) (bI:FV (a0p aB aC n1b aG aF au aH) ah bD true w) (fC:FV (a0p aP aQ aK aS aU aN aY) aI bM true w) (fD:FV (a0p aV aW aO aX aZ aT bf) aJ bP true w) (hk:bC+bD+(bM+bP)≤1000) (hc:aJ < af∨ah < aI) (fE:af≤ah) (gV:aI≤aJ):bY Tryz.prog 53 [(a0r ax ay aj c1a az ak aA aB aC n1b aG aF au aH),(a0r aP aQ aK aS aU aN aY aV aW aO aX aZ aT bf)] w (iP W0 U Ps (.tuple #[fO,.iface 74 (.int .i64 16)])):=by
 have h:=asJ HT HB HS f1a bI fC fD hk (by simp only [vG fE,vF fE,vG gV,vF gV]; exact hc)
 exact h
theorem ZP (HT:Tz W0) (HB:Tab W0) (HS:St W0 U Ps w) {af:Rat} {bC:Nat} {ah:Rat} {bD:Nat} {q2:Rat} {k2:Nat} {b2:Bool} (f1a:FV (a0p ax ay aj c1a az ak aA) af bC true w) (bI:FV (a0p aB aC n1b aG aF au aH) ah bD true w) (f2:FV (a0p s2 A2 n2 c2 B2 m2 d2) q2 k2 b2 w) (hk:bC+bD+k2≤1000) (hab:af≤ah) (hz:q2 < af∨ah < q2) :
 bY Tryz.prog 42 [(a0r ax ay aj c1a az ak aA aB aC n1b aG aF au aH),(a0p s2 A2 n2 c2 B2 m2 d2)] w (iP W0 U Ps (.bool false)):=by
 have h:=VF HT HB HS f1a bI f2 hk hab
 rw [show (decide (af≤q2)&&decide (q2≤ah))=false by rcases hz with hz | hz; (rw [decide_eq_false (show ¬ af≤q2 by grind)]; rfl); (rw [decide_eq_false (show ¬ q2≤ah by grind)]; cases decide (af≤q2) <;> rfl)] at h
 exact h
end
end Go.Proofs.YtbihljnjaondcaaGreatDoor
namespace Go.Proofs.YtbihljnjaondcaaGreatDoor
open Go Go.RowKit Lw bZ
section
variable {W0 w:World} {U:List Box} {Ps:List (World→Prop)}
variable {ax:Bool} {ay:Option Addr} {aj c1a:Nat} {az:Option Addr} {ak aA:Nat} {aB:Bool} {aC:Option Addr} {n1b aG:Nat} {aF:Option Addr} {au aH:Nat} {aP:Bool} {aQ:Option Addr} {aK aS:Nat} {aU:Option Addr} {aN aY:Nat} {aV:Bool} {aW:Option Addr} {aO aX:Nat} {aZ:Option Addr} {aT bf:Nat}
set_option maxHeartbeats 4000000 in
theorem aAf (HT:Tz W0) (HB:Tab W0) {o6 o7:Int} {af:Rat} {bC:Nat} {bu:Bool} {ah:Rat} {bD:Nat} {bn:Bool} {aI:Rat} {bM:Nat} {bT:Bool} {aJ:Rat} {bP:Nat} {bQ:Bool} (HS:St W0 U Ps w) (f1a:FV (a0p ax ay aj c1a az ak aA) af bC bu w) (bI:FV (a0p aB aC n1b aG aF au aH) ah bD bn w) (fC:FV (a0p aP aQ aK aS aU aN aY) aI bM bT w) (fD:FV (a0p aV aW aO aX aZ aT bf) aJ bP bQ w) (GV:0≤o6∧o6≤255) (hz3b:0≤o7∧o7≤255):bY Tryz.prog 8 [(a0r ax ay aj c1a az ak aA aB aC n1b aG aF au aH),(a0r aP aQ aK aS aU aN aY aV aW aO aX aZ aT bf),.agg #[.int .u8 o6,.int .u8 o7]] w (iP W0 U Ps (.bool true)):=by
 have HS:=HS.add (FV.stable _ _ _ _) f1a
 have HS:=HS.add (FV.stable _ _ _ _) bI
 have HS:=HS.add (FV.stable _ _ _ _) fC
 have HS:=HS.add (FV.stable _ _ _ _) fD
 clear f1a bI fC fD
 refine iL a0e rfl Tryz.ntmps8 rfl ?_
 refine JC.seq ?_
 refine JC.region ?_
 refine JL.box (vs:=(a0s ax ay aj c1a az ak aA aB aC n1b aG aF au aH)) HS rfl rfl rfl rfl (fun g1 w1 HS => ?_)
 refine JL.box (vs:=(a0s aP aQ aK aS aU aN aY aV aW aO aX aZ aT bf)) HS rfl rfl rfl rfl (fun g2 w2 HS => ?_)
 refine JL.box (vs:=[.int .u8 o6,.int .u8 o7]) HS rfl rfl rfl rfl (fun g3 w3 HS => ?_)
 refine Lv (.bool false) (fun a ha=>run_assign (ha.ev rfl)) ?_
 refine jn ?_
 refine JC.seq ?_
 refine JC.seq ?_
 refine JC.region ?_
 refine JL.load (a0r ax ay aj c1a az ak aA aB aC n1b aG aF au aH) HS 2 rfl rfl rfl aYq aYo rfl rfl ?_
 refine JL.load (a0r aP aQ aK aS aU aN aY aV aW aO aX aZ aT bf) HS 1 rfl rfl rfl aYq aYo rfl rfl ?_
 refine JL.buildSlice (ps:=[(0,(a0r ax ay aj c1a az ak aA aB aC n1b aG aF au aH)),(1,(a0r aP aQ aK aS aU aN aY aV aW aO aX aZ aT bf))]) (vs:=[.bool ax,.slice ay aj c1a,.slice az ak aA,.bool aB,.slice aC n1b aG,.slice aF au aH,.bool aP,.slice aQ aK aS,.slice aU aN aY,.bool aV,.slice aW aO aX,.slice aZ aT bf]) HS rfl (fun a ha=>by simp only [List.map_cons,List.map_nil,ha.ev (x := .tmp 15) (v:=(a0r ax ay aj c1a az ak aA aB aC n1b aG aF au aH)) rfl,ha.ev (x := .tmp 16) (v:=(a0r aP aQ aK aS aU aN aY aV aW aO aX aZ aT bf)) rfl]) aY0 aYo aYt rfl rfl (by kernel_rfl) rfl (fun g4 w4 HS => ?_)
 refine JL.call rfl rfl aZh (Ym HT HB HS) (fun v5 w5 vk => ?_)
 obtain ⟨rfl,HS⟩:=vk
 refine Lv (.bool (!(decide (aj≤8∧ak≤8∧n1b≤8∧au≤8∧aK≤8∧aN≤8∧aO≤8∧aT≤8)))) (fun a ha=>sU (ha.ev rfl)) ?_
 cases EN:((decide (aj≤8∧ak≤8∧n1b≤8∧au≤8∧aK≤8∧aN≤8∧aO≤8∧aT≤8)))
 ·skip
  refine Lv (.bool true) (fun a ha=>run_move (ha.ev rfl)) ?_
  refine Lp ?_
  refine Lp ?_
  refine Lp ?_
  refine Lv (.bool true) (fun a ha=>eY (ha.ev rfl) (ha.ev rfl)) ?_
  refine Lv (.bool true) (fun a ha=>run_move (ha.ev rfl)) ?_
  refine Lp ?_
  refine Lp ?_
  refine Lp ?_
  refine Lv (.bool true) (fun a ha=>eY (ha.ev rfl) (ha.ev rfl)) ?_
  refine Lv (.bool true) (fun a ha=>run_move (ha.ev rfl)) ?_
  refine Lp ?_
  refine Lp ?_
  refine Lv (.bool true) (fun a ha=>eY (ha.ev rfl) (ha.ev rfl)) ?_
  refine jn ?_
  refine JC.iy rfl ?_
  refine JC.seq ?_
  refine JC.region ?_
  refine JL.call rfl rfl aYO (zh HT HB HS  ) (fun v7 w7 wM => ?_)
  obtain ⟨rfl,HS⟩:=wM
  refine Lv (.bool true) (fun a ha=>run_assign (ha.ev rfl)) ?_
  refine jn ?_
  refine JC.ret (fun a ha => ?_)
  repeat (first | refine dh ?_ | refine df ?_)
  refine fG (v := .bool true) ha Tryz.results8 (.tmp rfl) ⟨_,rfl,?_⟩
  exact ⟨rfl,HS.gy 4 4 rfl rfl⟩
 ·skip
  have hfew:=of_decide_eq_true EN
  have HS:=HS.pO 3 rfl (fun _ h=>(fJ.cut (K:=8) h (by omega) (by omega):FV _ _ 8 _ _))
  have HS:=HS.pO 3 rfl (fun _ h=>(fJ.cut (K:=8) h (by omega) (by omega):FV _ _ 8 _ _))
  have HS:=HS.pO 3 rfl (fun _ h=>(fJ.cut (K:=8) h (by omega) (by omega):FV _ _ 8 _ _))
  have HS:=HS.pO 3 rfl (fun _ h=>(fJ.cut (K:=8) h (by omega) (by omega):FV _ _ 8 _ _))
  refine Lv (.bool false) (fun a ha=>run_move (ha.ev rfl)) ?_
  refine Lg (a0r ax ay aj c1a az ak aA aB aC n1b aG aF au aH) (fun a ha=>gU (ha.ev rfl) aYq aYo (HS.box _ (.tail _ (.tail _ (.tail _ (.head _))))) rfl rfl) ?_
  refine JL.cZ rfl rfl rfl rfl rfl rfl aY5 (KZ HT HB HS (HS.at_ 3 rfl) (HS.at_ 2 rfl) (by omega)) (fun v8 w8 CJ => ?_)
  obtain ⟨rfl,HS⟩:=CJ
  refine Lg (.bool (!(okR bu bn af ah))) (fun a ha=>sU (ha.ev rfl)) ?_
  refine Lv (.bool (!(okR bu bn af ah))) (fun a ha=>gB (ha.ev rfl) (ha.ev rfl)) ?_
  cases KJ:((okR bu bn af ah))
  ·skip
   refine Lv (.bool true) (fun a ha=>run_move (ha.ev rfl)) ?_
   refine Lp ?_
   refine Lp ?_
   refine Lp ?_
   refine Lv (.bool true) (fun a ha=>eY (ha.ev rfl) (ha.ev rfl)) ?_
   refine Lv (.bool true) (fun a ha=>run_move (ha.ev rfl)) ?_
   refine Lp ?_
   refine Lp ?_
   refine Lv (.bool true) (fun a ha=>eY (ha.ev rfl) (ha.ev rfl)) ?_
   refine jn ?_
   refine JC.iy rfl ?_
   refine JC.seq ?_
   refine JC.region ?_
   refine JL.call rfl rfl aYO (zh HT HB HS  ) (fun v10 w10 FN => ?_)
   obtain ⟨rfl,HS⟩:=FN
   refine Lv (.bool true) (fun a ha=>run_assign (ha.ev rfl)) ?_
   refine jn ?_
   refine JC.ret (fun a ha => ?_)
   repeat (first | refine dh ?_ | refine df ?_)
   refine fG (v := .bool true) ha Tryz.results8 (.tmp rfl) ⟨_,rfl,?_⟩
   exact ⟨rfl,HS.gy 4 8 rfl rfl⟩
  ·skip
   obtain ⟨rfl,rfl,fE⟩:=KN KJ
   refine Lv (.bool false) (fun a ha=>run_move (ha.ev rfl)) ?_
   refine Lg (a0r aP aQ aK aS aU aN aY aV aW aO aX aZ aT bf) (fun a ha=>gU (ha.ev rfl) aYq aYo (HS.box _ (.tail _ (.tail _ (.head _)))) rfl rfl) ?_
   refine JL.cZ rfl rfl rfl rfl rfl rfl aY5 (KZ HT HB HS (HS.at_ 1 rfl) (HS.at_ 0 rfl) (by omega)) (fun v11 Dp DV => ?_)
   obtain ⟨rfl,HS⟩:=DV
   refine Lg (.bool (!(okR bT bQ aI aJ))) (fun a ha=>sU (ha.ev rfl)) ?_
   refine Lv (.bool (!(okR bT bQ aI aJ))) (fun a ha=>gB (ha.ev rfl) (ha.ev rfl)) ?_
   cases Sj:((okR bT bQ aI aJ))
   ·skip
    refine Lv (.bool true) (fun a ha=>run_move (ha.ev rfl)) ?_
    refine Lp ?_
    refine Lp ?_
    refine Lv (.bool true) (fun a ha=>eY (ha.ev rfl) (ha.ev rfl)) ?_
    refine jn ?_
    refine JC.iy rfl ?_
    refine JC.seq ?_
    refine JC.region ?_
    refine JL.call rfl rfl aYO (zh HT HB HS  ) (fun v13 Gl QX => ?_)
    obtain ⟨rfl,HS⟩:=QX
    refine Lv (.bool true) (fun a ha=>run_assign (ha.ev rfl)) ?_
    refine jn ?_
    refine JC.ret (fun a ha => ?_)
    repeat (first | refine dh ?_ | refine df ?_)
    refine fG (v := .bool true) ha Tryz.results8 (.tmp rfl) ⟨_,rfl,?_⟩
    exact ⟨rfl,HS.gy 4 8 rfl rfl⟩
   ·skip
    obtain ⟨rfl,rfl,gV⟩:=KN Sj
    refine Lv (.bool false) (fun a ha=>run_move (ha.ev rfl)) ?_
    refine JL.cZ rfl rfl rfl rfl rfl rfl aYO (zh HT HB HS  ) (fun v14 JX Io => ?_)
    obtain ⟨rfl,HS⟩:=Io
    refine Lg (.bool false) (fun a ha=>sU (b:=true) (ha.ev rfl)) ?_
    refine Lv (.bool false) (fun a ha=>gB (ha.ev rfl) (ha.ev rfl)) ?_
    refine jn ?_
    refine JC.jA rfl ?_
    refine JC.jF (fun _ _ h=>h) ?_
    refine JC.cut (ι:=PT) (fun ⟨qY,pY,qQ,qw,qj,qL,qG,qZ,qf,qR,qA,ql,qM,qH,yc,yf⟩=>[(0,(a0r ax ay aj c1a az ak aA aB aC n1b aG aF au aH)),(1,(a0r aP aQ aK aS aU aN aY aV aW aO aX aZ aT bf)),(2,.agg #[.int .u8 o6,.int .u8 o7]),(3,.pointer (some ⟨g1,0,none⟩)),(4,.pointer (some ⟨g2,0,none⟩)),(6,.bool false),(7,.pointer (some ⟨yc,0,none⟩)),(8,.pointer (some ⟨yf,0,none⟩)),(15,(a0r ax ay aj c1a az ak aA aB aC n1b aG aF au aH)),(16,(a0r aP aQ aK aS aU aN aY aV aW aO aX aZ aT bf)),(17,.slice (some ⟨g4,0,none⟩) 2 2),(18,.bool true),(19,.bool false),(20,.bool false),(21,(a0r ax ay aj c1a az ak aA aB aC n1b aG aF au aH)),(22,.bool true),(23,.bool false),(24,.bool false),(25,.bool false),(26,(a0r aP aQ aK aS aU aN aY aV aW aO aX aZ aT bf)),(27,.bool true),(28,.bool false),(29,.bool false),(30,.bool false),(31,.bool true),(32,.bool false),(33,.bool false)]) (fun ⟨qY,pY,qQ,qw,qj,qL,qG,qZ,qf,qR,qA,ql,qM,qH,yc,yf⟩ w=>St W0 (⟨yf,24,(a0q qZ qf qR qA ql qM qH)⟩ :: ⟨yc,24,(a0q qY pY qQ qw qj qL qG)⟩ :: ⟨g4,48,[.bool ax,.slice ay aj c1a,.slice az ak aA,.bool aB,.slice aC n1b aG,.slice aF au aH,.bool aP,.slice aQ aK aS,.slice aU aN aY,.bool aV,.slice aW aO aX,.slice aZ aT bf]⟩ :: ⟨g3,69,[.int .u8 o6,.int .u8 o7]⟩ :: ⟨g2,48,(a0s aP aQ aK aS aU aN aY aV aW aO aX aZ aT bf)⟩ :: ⟨g1,48,(a0s ax ay aj c1a az ak aA aB aC n1b aG aF au aH)⟩ :: U) (FV (a0p qZ qf qR qA ql qM qH) (aI+Rat.divInt o7 255*(aJ - aI)) (8+(6+(8+(8+1)+2)+2)+2) true :: FV (a0p qY pY qQ qw qj qL qG) (af+Rat.divInt o6 255*(ah - af)) (8+(6+(8+(8+1)+2)+2)+2) true :: FV (a0p aV aW aO aX aZ aT bf) aJ 8 true :: FV (a0p aP aQ aK aS aU aN aY) aI 8 true :: FV (a0p aB aC n1b aG aF au aH) ah 8 true :: FV (a0p ax ay aj c1a az ak aA) af 8 true :: FV (a0p aV aW aO aX aZ aT bf) aJ bP true :: FV (a0p aP aQ aK aS aU aN aY) aI bM true :: FV (a0p aB aC n1b aG aF au aH) ah bD true :: FV (a0p ax ay aj c1a az ak aA) af bC true :: Ps) w) ?_ ?_
    ·skip
     refine JC.draw HS [] (by kernel_rfl) (fun w16 HS => ?_)
     refine Da (a0r ax ay aj c1a az ak aA aB aC n1b aG aF au aH) 0 3 rfl HS.b0 rfl rfl aYq aYo ?_
     refine Dv (.pointer (some ⟨g3,0,none⟩)) 1 rfl HS.b0 (fun a ha w=>KY (ha.ev rfl) (ha.ev rfl) Tryz.runUnderlying69 aYW (j:=0) rfl (by decide) rfl) ?_
     refine Do (.int .u8 o6) 2 1 rfl HS.b0 rfl rfl aYV ?_
     refine Da (a0r aP aQ aK aS aU aN aY aV aW aO aX aZ aT bf) 4 2 rfl HS.b0 rfl rfl aYq aYo ?_
     refine Dv (.pointer (some ⟨g3,1,none⟩)) 5 rfl HS.b0 (fun a ha w=>KY (ha.ev rfl) (ha.ev rfl) Tryz.runUnderlying69 aYW (j:=1) rfl (by decide) rfl) ?_
     refine Do (.int .u8 o7) 6 1 rfl HS.b0 rfl rfl aYV ?_
     refine JR.any [3,8,9] (by kernel_rfl) rfl ?_
     refine ai.call rfl rfl rfl aYH (xR HT HB HS (HS.at_ 3 rfl) (HS.at_ 2 rfl) (by omega) GV.1 GV.2) rfl (fun aeP ae5 MW => ?_) ?_
     ·skip
      obtain ⟨qY,pY,qQ,qw,qj,qL,qG,rfl,HS⟩:=MW
      refine ⟨HS.b0,?_⟩
      refine JR.any [7,8,9] (by kernel_rfl) rfl ?_
      refine ai.call rfl rfl rfl aYH (xR HT HB HS (HS.at_ 2 rfl) (HS.at_ 1 rfl) (by omega) hz3b.1 hz3b.2) rfl (fun Le LG zI => ?_) ?_
      ·skip
       obtain ⟨qZ,qf,qR,qA,ql,qM,qH,rfl,HS⟩:=zI
       refine ⟨HS.b0,?_⟩
       refine JR.any [8,9] (by kernel_rfl) rfl ?_
       refine ai.alloc (vs:=bU) HS rfl rfl aYs rfl rfl rfl (fun yc ZT HS => ?_) ?_
       ·skip
        refine ⟨HS.b1,?_⟩
        refine jy (vs:=bU) 9 HS rfl aYs rfl (fun yf _ HS=>⟨HS.b2,?_⟩)
        refine bF 10 (a0q qY pY qQ qw qj qL qG) HS 1 rfl rfl rfl rfl aYn (fun _ HS=>⟨HS.b2,?_⟩)
        refine bF 11 (a0q qZ qf qR qA ql qM qH) HS 0 rfl rfl rfl rfl aYn (fun _ HS=>⟨HS.b2,?_⟩)
        exact JR.mt (qY,pY,qQ,qw,qj,qL,qG,qZ,qf,qR,qA,ql,qM,qH,yc,yf) HS
       refine ai.alloc (vs:=bU) HS rfl rfl aYs rfl rfl rfl (fun yf ZU HS => ?_) ai.nil
       refine ⟨HS.b1,?_⟩
       refine jy (vs:=bU) 8 HS rfl aYs rfl (fun yc _ HS=>⟨HS.b2,?_⟩)
       refine bF 10 (a0q qY pY qQ qw qj qL qG) HS 0 rfl rfl rfl rfl aYn (fun _ HS=>⟨HS.b2,?_⟩)
       refine bF 11 (a0q qZ qf qR qA ql qM qH) HS 1 rfl rfl rfl rfl aYn (fun _ HS=>⟨HS.b2,?_⟩)
       exact JR.mt (qY,pY,qQ,qw,qj,qL,qG,qZ,qf,qR,qA,ql,qM,qH,yc,yf) (HS.perm (.swap _ _ _))
      refine ai.alloc (vs:=bU) HS rfl rfl aYs rfl rfl rfl (fun yc ZT HS => ?_) ?_
      ·skip
       refine ⟨HS.b1,?_⟩
       refine JR.any [7,9] (by kernel_rfl) rfl ?_
       refine ai.call rfl rfl rfl aYH (xR HT HB HS (HS.at_ 2 rfl) (HS.at_ 1 rfl) (by omega) hz3b.1 hz3b.2) rfl (fun Le LG zI => ?_) ?_
       ·skip
        obtain ⟨qZ,qf,qR,qA,ql,qM,qH,rfl,HS⟩:=zI
        refine ⟨HS.b1,?_⟩
        refine jy (vs:=bU) 9 HS rfl aYs rfl (fun yf _ HS=>⟨HS.b2,?_⟩)
        refine bF 10 (a0q qY pY qQ qw qj qL qG) HS 1 rfl rfl rfl rfl aYn (fun _ HS=>⟨HS.b2,?_⟩)
        refine bF 11 (a0q qZ qf qR qA ql qM qH) HS 0 rfl rfl rfl rfl aYn (fun _ HS=>⟨HS.b2,?_⟩)
        exact JR.mt (qY,pY,qQ,qw,qj,qL,qG,qZ,qf,qR,qA,ql,qM,qH,yc,yf) HS
       refine ai.alloc (vs:=bU) HS rfl rfl aYs rfl rfl rfl (fun yf ZU HS => ?_) ai.nil
       refine ⟨HS.b2,?_⟩
       refine bJ 7 rfl rfl rfl aYH (xR HT HB HS (HS.at_ 2 rfl) (HS.at_ 1 rfl) (by omega) hz3b.1 hz3b.2) (fun Le LG zI => ?_)
       obtain ⟨qZ,qf,qR,qA,ql,qM,qH,rfl,HS⟩:=zI
       refine ⟨HS.b2,?_⟩
       refine bF 10 (a0q qY pY qQ qw qj qL qG) HS 1 rfl rfl rfl rfl aYn (fun _ HS=>⟨HS.b2,?_⟩)
       refine bF 11 (a0q qZ qf qR qA ql qM qH) HS 0 rfl rfl rfl rfl aYn (fun _ HS=>⟨HS.b2,?_⟩)
       exact JR.mt (qY,pY,qQ,qw,qj,qL,qG,qZ,qf,qR,qA,ql,qM,qH,yc,yf) HS
      refine ai.alloc (vs:=bU) HS rfl rfl aYs rfl rfl rfl (fun yf ZU HS => ?_) ai.nil
      refine ⟨HS.b1,?_⟩
      refine JR.any [7,8] (by kernel_rfl) rfl ?_
      refine ai.call rfl rfl rfl aYH (xR HT HB HS (HS.at_ 2 rfl) (HS.at_ 1 rfl) (by omega) hz3b.1 hz3b.2) rfl (fun Le LG zI => ?_) ?_
      ·skip
       obtain ⟨qZ,qf,qR,qA,ql,qM,qH,rfl,HS⟩:=zI
       refine ⟨HS.b1,?_⟩
       refine jy (vs:=bU) 8 HS rfl aYs rfl (fun yc _ HS=>⟨HS.b2,?_⟩)
       refine bF 10 (a0q qY pY qQ qw qj qL qG) HS 0 rfl rfl rfl rfl aYn (fun _ HS=>⟨HS.b2,?_⟩)
       refine bF 11 (a0q qZ qf qR qA ql qM qH) HS 1 rfl rfl rfl rfl aYn (fun _ HS=>⟨HS.b2,?_⟩)
       exact JR.mt (qY,pY,qQ,qw,qj,qL,qG,qZ,qf,qR,qA,ql,qM,qH,yc,yf) (HS.perm (.swap _ _ _))
      refine ai.alloc (vs:=bU) HS rfl rfl aYs rfl rfl rfl (fun yc ZT HS => ?_) ai.nil
      refine ⟨HS.b2,?_⟩
      refine bJ 7 rfl rfl rfl aYH (xR HT HB HS (HS.at_ 2 rfl) (HS.at_ 1 rfl) (by omega) hz3b.1 hz3b.2) (fun Le LG zI => ?_)
      obtain ⟨qZ,qf,qR,qA,ql,qM,qH,rfl,HS⟩:=zI
      refine ⟨HS.b2,?_⟩
      refine bF 10 (a0q qY pY qQ qw qj qL qG) HS 0 rfl rfl rfl rfl aYn (fun _ HS=>⟨HS.b2,?_⟩)
      refine bF 11 (a0q qZ qf qR qA ql qM qH) HS 1 rfl rfl rfl rfl aYn (fun _ HS=>⟨HS.b2,?_⟩)
      exact JR.mt (qY,pY,qQ,qw,qj,qL,qG,qZ,qf,qR,qA,ql,qM,qH,yc,yf) (HS.perm (.swap _ _ _))
     refine ai.alloc (vs:=bU) HS rfl rfl aYs rfl rfl rfl (fun yc ZT HS => ?_) ?_
     ·skip
      refine ⟨HS.b1,?_⟩
      refine JR.any [3,9] (by kernel_rfl) rfl ?_
      refine ai.call rfl rfl rfl aYH (xR HT HB HS (HS.at_ 3 rfl) (HS.at_ 2 rfl) (by omega) GV.1 GV.2) rfl (fun aeP ae5 MW => ?_) ?_
      ·skip
       obtain ⟨qY,pY,qQ,qw,qj,qL,qG,rfl,HS⟩:=MW
       refine ⟨HS.b1,?_⟩
       refine JR.any [7,9] (by kernel_rfl) rfl ?_
       refine ai.call rfl rfl rfl aYH (xR HT HB HS (HS.at_ 2 rfl) (HS.at_ 1 rfl) (by omega) hz3b.1 hz3b.2) rfl (fun Le LG zI => ?_) ?_
       ·skip
        obtain ⟨qZ,qf,qR,qA,ql,qM,qH,rfl,HS⟩:=zI
        refine ⟨HS.b1,?_⟩
        refine jy (vs:=bU) 9 HS rfl aYs rfl (fun yf _ HS=>⟨HS.b2,?_⟩)
        refine bF 10 (a0q qY pY qQ qw qj qL qG) HS 1 rfl rfl rfl rfl aYn (fun _ HS=>⟨HS.b2,?_⟩)
        refine bF 11 (a0q qZ qf qR qA ql qM qH) HS 0 rfl rfl rfl rfl aYn (fun _ HS=>⟨HS.b2,?_⟩)
        exact JR.mt (qY,pY,qQ,qw,qj,qL,qG,qZ,qf,qR,qA,ql,qM,qH,yc,yf) HS
       refine ai.alloc (vs:=bU) HS rfl rfl aYs rfl rfl rfl (fun yf ZU HS => ?_) ai.nil
       refine ⟨HS.b2,?_⟩
       refine bJ 7 rfl rfl rfl aYH (xR HT HB HS (HS.at_ 2 rfl) (HS.at_ 1 rfl) (by omega) hz3b.1 hz3b.2) (fun Le LG zI => ?_)
       obtain ⟨qZ,qf,qR,qA,ql,qM,qH,rfl,HS⟩:=zI
       refine ⟨HS.b2,?_⟩
       refine bF 10 (a0q qY pY qQ qw qj qL qG) HS 1 rfl rfl rfl rfl aYn (fun _ HS=>⟨HS.b2,?_⟩)
       refine bF 11 (a0q qZ qf qR qA ql qM qH) HS 0 rfl rfl rfl rfl aYn (fun _ HS=>⟨HS.b2,?_⟩)
       exact JR.mt (qY,pY,qQ,qw,qj,qL,qG,qZ,qf,qR,qA,ql,qM,qH,yc,yf) HS
      refine ai.alloc (vs:=bU) HS rfl rfl aYs rfl rfl rfl (fun yf ZU HS => ?_) ai.nil
      refine ⟨HS.b2,?_⟩
      refine bJ 3 rfl rfl rfl aYH (xR HT HB HS (HS.at_ 3 rfl) (HS.at_ 2 rfl) (by omega) GV.1 GV.2) (fun aeP ae5 MW => ?_)
      obtain ⟨qY,pY,qQ,qw,qj,qL,qG,rfl,HS⟩:=MW
      refine ⟨HS.b2,?_⟩
      refine bJ 7 rfl rfl rfl aYH (xR HT HB HS (HS.at_ 2 rfl) (HS.at_ 1 rfl) (by omega) hz3b.1 hz3b.2) (fun Le LG zI => ?_)
      obtain ⟨qZ,qf,qR,qA,ql,qM,qH,rfl,HS⟩:=zI
      refine ⟨HS.b2,?_⟩
      refine bF 10 (a0q qY pY qQ qw qj qL qG) HS 1 rfl rfl rfl rfl aYn (fun _ HS=>⟨HS.b2,?_⟩)
      refine bF 11 (a0q qZ qf qR qA ql qM qH) HS 0 rfl rfl rfl rfl aYn (fun _ HS=>⟨HS.b2,?_⟩)
      exact JR.mt (qY,pY,qQ,qw,qj,qL,qG,qZ,qf,qR,qA,ql,qM,qH,yc,yf) HS
     refine ai.alloc (vs:=bU) HS rfl rfl aYs rfl rfl rfl (fun yf ZU HS => ?_) ai.nil
     refine ⟨HS.b1,?_⟩
     refine JR.any [3,8] (by kernel_rfl) rfl ?_
     refine ai.call rfl rfl rfl aYH (xR HT HB HS (HS.at_ 3 rfl) (HS.at_ 2 rfl) (by omega) GV.1 GV.2) rfl (fun aeP ae5 MW => ?_) ?_
     ·skip
      obtain ⟨qY,pY,qQ,qw,qj,qL,qG,rfl,HS⟩:=MW
      refine ⟨HS.b1,?_⟩
      refine JR.any [7,8] (by kernel_rfl) rfl ?_
      refine ai.call rfl rfl rfl aYH (xR HT HB HS (HS.at_ 2 rfl) (HS.at_ 1 rfl) (by omega) hz3b.1 hz3b.2) rfl (fun Le LG zI => ?_) ?_
      ·skip
       obtain ⟨qZ,qf,qR,qA,ql,qM,qH,rfl,HS⟩:=zI
       refine ⟨HS.b1,?_⟩
       refine jy (vs:=bU) 8 HS rfl aYs rfl (fun yc _ HS=>⟨HS.b2,?_⟩)
       refine bF 10 (a0q qY pY qQ qw qj qL qG) HS 0 rfl rfl rfl rfl aYn (fun _ HS=>⟨HS.b2,?_⟩)
       refine bF 11 (a0q qZ qf qR qA ql qM qH) HS 1 rfl rfl rfl rfl aYn (fun _ HS=>⟨HS.b2,?_⟩)
       exact JR.mt (qY,pY,qQ,qw,qj,qL,qG,qZ,qf,qR,qA,ql,qM,qH,yc,yf) (HS.perm (.swap _ _ _))
      refine ai.alloc (vs:=bU) HS rfl rfl aYs rfl rfl rfl (fun yc ZT HS => ?_) ai.nil
      refine ⟨HS.b2,?_⟩
      refine bJ 7 rfl rfl rfl aYH (xR HT HB HS (HS.at_ 2 rfl) (HS.at_ 1 rfl) (by omega) hz3b.1 hz3b.2) (fun Le LG zI => ?_)
      obtain ⟨qZ,qf,qR,qA,ql,qM,qH,rfl,HS⟩:=zI
      refine ⟨HS.b2,?_⟩
      refine bF 10 (a0q qY pY qQ qw qj qL qG) HS 0 rfl rfl rfl rfl aYn (fun _ HS=>⟨HS.b2,?_⟩)
      refine bF 11 (a0q qZ qf qR qA ql qM qH) HS 1 rfl rfl rfl rfl aYn (fun _ HS=>⟨HS.b2,?_⟩)
      exact JR.mt (qY,pY,qQ,qw,qj,qL,qG,qZ,qf,qR,qA,ql,qM,qH,yc,yf) (HS.perm (.swap _ _ _))
     refine ai.alloc (vs:=bU) HS rfl rfl aYs rfl rfl rfl (fun yc ZT HS => ?_) ai.nil
     refine ⟨HS.b2,?_⟩
     refine bJ 3 rfl rfl rfl aYH (xR HT HB HS (HS.at_ 3 rfl) (HS.at_ 2 rfl) (by omega) GV.1 GV.2) (fun aeP ae5 MW => ?_)
     obtain ⟨qY,pY,qQ,qw,qj,qL,qG,rfl,HS⟩:=MW
     refine ⟨HS.b2,?_⟩
     refine bJ 7 rfl rfl rfl aYH (xR HT HB HS (HS.at_ 2 rfl) (HS.at_ 1 rfl) (by omega) hz3b.1 hz3b.2) (fun Le LG zI => ?_)
     obtain ⟨qZ,qf,qR,qA,ql,qM,qH,rfl,HS⟩:=zI
     refine ⟨HS.b2,?_⟩
     refine bF 10 (a0q qY pY qQ qw qj qL qG) HS 0 rfl rfl rfl rfl aYn (fun _ HS=>⟨HS.b2,?_⟩)
     refine bF 11 (a0q qZ qf qR qA ql qM qH) HS 1 rfl rfl rfl rfl aYn (fun _ HS=>⟨HS.b2,?_⟩)
     exact JR.mt (qY,pY,qQ,qw,qj,qL,qG,qZ,qf,qR,qA,ql,qM,qH,yc,yf) (HS.perm (.swap _ _ _))
    ·skip
     rintro ⟨qY,pY,qQ,qw,qj,qL,qG,qZ,qf,qR,qA,ql,qM,qH,yc,yf⟩ aHx HS
     try dsimp only at HS ⊢
     refine JC.seq ?_
     refine JC.seq ?_
     obtain ⟨xq,hxe⟩ : ∃ r,r=af+Rat.divInt o6 255*(ah - af):=⟨_,rfl⟩
     have HS:=HS.pO 1 rfl (fun _ h=>h.as hxe.symm (Nat.le_refl _))
     obtain ⟨yq,hye⟩ : ∃ r,r=aI+Rat.divInt o7 255*(aJ - aI):=⟨_,rfl⟩
     have HS:=HS.pO 1 rfl (fun _ h=>h.as hye.symm (Nat.le_refl _))
     obtain ⟨hx1,hx2⟩:af≤xq∧xq≤ah:=by rw [hxe]; exact VK fE GV.1 GV.2
     obtain ⟨hy1,hy2⟩:aI≤yq∧yq≤aJ:=by rw [hye]; exact VK gV hz3b.1 hz3b.2
     clear hxe hye
     refine JC.draw HS [] (by kernel_rfl) (fun LH HS => ?_)
     refine Da (a0r ax ay aj c1a az ak aA aB aC n1b aG aF au aH) 0 5 rfl HS.b0 rfl rfl aYq aYo ?_
     refine Da (a0p qY pY qQ qw qj qL qG) 2 1 rfl HS.b0 rfl rfl aYp aYn ?_
     refine bJ 1 rfl rfl rfl Tryz.call56 (aGQ HT HB HS (HS.at_ 7 rfl) (HS.at_ 6 rfl) (by omega) fE) (fun aTJ aV3 aup => ?_)
     obtain ⟨aRU,aHR,aQb,aKI,aJg,aOM,aMc,aRV,aHS,aQc,aKJ,aJh,aON,aMd,rfl,HS⟩:=aup
     refine ⟨HS.b0,?_⟩
     refine bJ 3 rfl rfl rfl aZH (X5 HT HB HS (HS.at_ 3 rfl) (by omega)) (fun ZI ZV Ir => ?_)
     obtain ⟨pW,pI,pU,pK,pJ,pR,pM,rfl,HS⟩:=Ir
     refine ⟨HS.b0,?_⟩
     refine bJ 4 rfl rfl rfl aYF (Dn HT HB HS (HS.at_ 1 rfl) (HS.at_ 2 rfl) (HS.at_ 0 rfl) (by omega) (by grind) (by grind)) (fun aTL aV4 auq => ?_)
     obtain ⟨rfl,HS⟩:=auq
     refine ⟨HS.b0,?_⟩
     refine Dv (.bool false) 5 rfl HS.b0 (fun a ha w=>sU (b:=true) (ha.ev rfl)) ?_
     refine Dv (.bool false) 6 rfl HS.b0 (fun a ha w=>run_move (ha.ev rfl)) ?_
     refine fM (a0r ax ay aj c1a az ak aA aB aC n1b aG aF au aH) 7 5 (by kernel_rfl) rfl (fun _ _ _ h=>h) rfl rfl rfl rfl rfl HS.b0 rfl rfl aYq aYo rfl rfl ?_
     refine fM (a0r aP aQ aK aS aU aN aY aV aW aO aX aZ aT bf) 8 4 (by kernel_rfl) rfl (fun _ _ _ h=>h) rfl rfl rfl rfl rfl HS.b0 rfl rfl aYq aYo rfl rfl ?_
     refine fM (a0p qY pY qQ qw qj qL qG) 10 1 (by kernel_rfl) rfl (fun _ _ _ h=>h) rfl rfl rfl rfl rfl HS.b0 rfl rfl aYp aYn rfl rfl ?_
     refine fM (a0p qZ qf qR qA ql qM qH) 11 0 (by kernel_rfl) rfl (fun _ _ _ h=>h) rfl rfl rfl rfl rfl HS.b0 rfl rfl aYp aYn rfl rfl ?_
     refine J1 9 (by kernel_rfl) ?_
     refine ai.cZ rfl rfl rfl rfl rfl rfl rfl aY8 (Qv HT HB HS (HS.at_ 10 rfl) (HS.at_ 9 rfl) (HS.at_ 8 rfl) (HS.at_ 7 rfl) (by omega) fE gV) rfl (fun aTM VH aur => ?_) ai.nil
     obtain ⟨aRW,aHT,aQd,aKK,aJi,aOO,aMe,aRX,aHU,aQe,aKL,aJj,aOP,aMf,rfl,HS⟩:=aur
     refine ⟨HS.b0,?_⟩
     refine J1 12 (by kernel_rfl) ?_
     refine ai.cZ rfl rfl rfl rfl rfl rfl rfl aYG (xu HT HB HS (HS.at_ 6 rfl) (HS.at_ 5 rfl) (by omega)) rfl (fun aTN aV5 aus => ?_) ai.nil
     obtain ⟨aRY,aHV,aQf,aKM,aJk,aOQ,aMg,rfl,HS⟩:=aus
     refine ⟨HS.b0,?_⟩
     refine J1 13 (by kernel_rfl) ?_
     refine ai.cZ rfl rfl rfl rfl rfl rfl rfl aYF (Dn HT HB HS (HS.at_ 1 rfl) (HS.at_ 2 rfl) (HS.at_ 0 rfl) (by omega) (by grind) (by grind)) rfl (fun aTO aV6 aut => ?_) ai.nil
     obtain ⟨rfl,HS⟩:=aut
     refine ⟨HS.b0,?_⟩
     refine Dg (.bool false) 14 rfl HS.b0 (fun a ha w=>sU (b:=true) (ha.ev rfl)) ?_
     refine Dv (.bool false) 15 rfl HS.b0 (fun a ha w=>gB (ha.ev rfl) (ha.ev rfl)) ?_
     refine Dv (.bool false) 16 rfl HS.b0 (fun a ha w=>run_move (ha.ev rfl)) ?_
     refine fM (a0r ax ay aj c1a az ak aA aB aC n1b aG aF au aH) 17 5 (by kernel_rfl) rfl (fun _ _ _ h=>h) rfl rfl rfl rfl rfl HS.b0 rfl rfl aYq aYo rfl rfl ?_
     refine fM (a0r aP aQ aK aS aU aN aY aV aW aO aX aZ aT bf) 18 4 (by kernel_rfl) rfl (fun _ _ _ h=>h) rfl rfl rfl rfl rfl HS.b0 rfl rfl aYq aYo rfl rfl ?_
     refine fM (a0p qY pY qQ qw qj qL qG) 20 1 (by kernel_rfl) rfl (fun _ _ _ h=>h) rfl rfl rfl rfl rfl HS.b0 rfl rfl aYp aYn rfl rfl ?_
     refine fM (a0p qZ qf qR qA ql qM qH) 21 0 (by kernel_rfl) rfl (fun _ _ _ h=>h) rfl rfl rfl rfl rfl HS.b0 rfl rfl aYp aYn rfl rfl ?_
     refine J1 19 (by kernel_rfl) ?_
     refine ai.cZ rfl rfl rfl rfl rfl rfl rfl a0c (ajZ HT HB HS (HS.at_ 13 rfl) (HS.at_ 12 rfl) (HS.at_ 11 rfl) (HS.at_ 10 rfl) (by omega) fE gV) rfl (fun aTP aV7 auu => ?_) ai.nil
     obtain ⟨aRZ,aHW,aQg,aKN,aJl,aOR,aMh,aR0,aHX,aQh,aKO,aJm,aOS,aMi,rfl,HS⟩:=auu
     refine ⟨HS.b0,?_⟩
     refine J1 22 (by kernel_rfl) ?_
     refine ai.cZ rfl rfl rfl rfl rfl rfl rfl aZs (UD HT HB HS (HS.at_ 9 rfl) (HS.at_ 8 rfl) (by omega)) rfl (fun aTQ aV8 auv => ?_) ai.nil
     obtain ⟨aR1,aHY,aQi,aKP,aJn,aOT,aMj,rfl,HS⟩:=auv
     refine ⟨HS.b0,?_⟩
     refine J1 23 (by kernel_rfl) ?_
     refine ai.cZ rfl rfl rfl rfl rfl rfl rfl aYF (Dn HT HB HS (HS.at_ 1 rfl) (HS.at_ 2 rfl) (HS.at_ 0 rfl) (by omega) (by grind) (by grind)) rfl (fun aTR aV9 auw => ?_) ai.nil
     obtain ⟨rfl,HS⟩:=auw
     refine ⟨HS.b0,?_⟩
     refine Dg (.bool false) 24 rfl HS.b0 (fun a ha w=>sU (b:=true) (ha.ev rfl)) ?_
     refine Dv (.bool false) 25 rfl HS.b0 (fun a ha w=>gB (ha.ev rfl) (ha.ev rfl)) ?_
     refine Dv (.bool false) 26 rfl HS.b0 (fun a ha w=>run_move (ha.ev rfl)) ?_
     refine fM (a0r ax ay aj c1a az ak aA aB aC n1b aG aF au aH) 27 5 (by kernel_rfl) rfl (fun _ _ _ h=>h) rfl rfl rfl rfl rfl HS.b0 rfl rfl aYq aYo rfl rfl ?_
     refine fM (a0r aP aQ aK aS aU aN aY aV aW aO aX aZ aT bf) 28 4 (by kernel_rfl) rfl (fun _ _ _ h=>h) rfl rfl rfl rfl rfl HS.b0 rfl rfl aYq aYo rfl rfl ?_
     refine fM (a0p qY pY qQ qw qj qL qG) 30 1 (by kernel_rfl) rfl (fun _ _ _ h=>h) rfl rfl rfl rfl rfl HS.b0 rfl rfl aYp aYn rfl rfl ?_
     refine fM (a0p qZ qf qR qA ql qM qH) 31 0 (by kernel_rfl) rfl (fun _ _ _ h=>h) rfl rfl rfl rfl rfl HS.b0 rfl rfl aYp aYn rfl rfl ?_
     refine J1 29 (by kernel_rfl) ?_
     refine ai.cZ rfl rfl rfl rfl rfl rfl rfl aYT (Fq HT HB HS (HS.at_ 16 rfl) (HS.at_ 15 rfl) (HS.at_ 14 rfl) (HS.at_ 13 rfl) (by omega) fE gV) rfl (fun aTT aV' auy => ?_) ai.nil
     obtain ⟨aR2,aHZ,aQj,aKQ,aJo,aOU,aMk,aR4,aH0,aQk,aKR,aJp,aOV,aMl,rfl,HS⟩:=auy
     refine ⟨HS.b0,?_⟩
     refine J1 32 (by kernel_rfl) ?_
     refine ai.cZ rfl rfl rfl rfl rfl rfl rfl aYv (iQ HT HB HS (HS.at_ 12 rfl) (HS.at_ 11 rfl) (by omega)) rfl (fun aTU aWc auz => ?_) ai.nil
     obtain ⟨aR5,aH1,aQl,aKS,aJq,aOW,aMm,rfl,HS⟩:=auz
     refine ⟨HS.b0,?_⟩
     refine J1 33 (by kernel_rfl) ?_
     refine ai.cZ rfl rfl rfl rfl rfl rfl rfl aYF (Dn HT HB HS (HS.at_ 1 rfl) (HS.at_ 2 rfl) (HS.at_ 0 rfl) (by omega) (Om fE gV) (SI hx1 hx2 hy1 hy2)) rfl (fun aTV aWd auA => ?_) ai.nil
     obtain ⟨rfl,HS⟩:=auA
     refine ⟨HS.b0,?_⟩
     refine Dg (.bool false) 34 rfl HS.b0 (fun a ha w=>sU (b:=true) (ha.ev rfl)) ?_
     refine Dv (.bool false) 35 rfl HS.b0 (fun a ha w=>gB (ha.ev rfl) (ha.ev rfl)) ?_
     refine Dv (.bool false) 36 rfl HS.b0 (fun a ha w=>run_move (ha.ev rfl)) ?_
     refine fM (a0r ax ay aj c1a az ak aA aB aC n1b aG aF au aH) 37 5 (by kernel_rfl) rfl (fun _ _ _ h=>h) rfl rfl rfl rfl rfl HS.b0 rfl rfl aYq aYo rfl rfl ?_
     refine fM (a0r aP aQ aK aS aU aN aY aV aW aO aX aZ aT bf) 38 4 (by kernel_rfl) rfl (fun _ _ _ h=>h) rfl rfl rfl rfl rfl HS.b0 rfl rfl aYq aYo rfl rfl ?_
     refine fM (a0p qY pY qQ qw qj qL qG) 40 1 (by kernel_rfl) rfl (fun _ _ _ h=>h) rfl rfl rfl rfl rfl HS.b0 rfl rfl aYp aYn rfl rfl ?_
     refine J1 39 (by kernel_rfl) ?_
     refine ai.cZ rfl rfl rfl rfl rfl rfl rfl a0d (ajU HT HB HS (HS.at_ 19 rfl) (HS.at_ 18 rfl) (HS.at_ 17 rfl) (HS.at_ 16 rfl) (by omega) fE gV) rfl (fun aTW aWe auB => ?_) ai.nil
     obtain ⟨aR6,aH2,aQm,aKT,aJr,aOX,aMn,aR7,aH3,aQn,aKU,aJs,aOY,aMo,rfl,HS⟩:=auB
     refine ⟨HS.b0,?_⟩
     refine J1 41 (by kernel_rfl) ?_
     refine ai.cZ rfl rfl rfl rfl rfl rfl rfl aYF (Dn HT HB HS (HS.at_ 0 rfl) (HS.at_ 1 rfl) (HS.at_ 15 rfl) (by omega) (ah2 fE) (azY hx1 hx2)) rfl (fun aTX aWf auC => ?_) ai.nil
     obtain ⟨rfl,HS⟩:=auC
     refine ⟨HS.b0,?_⟩
     refine Dg (.bool false) 42 rfl HS.b0 (fun a ha w=>sU (b:=true) (ha.ev rfl)) ?_
     refine Dv (.bool false) 43 rfl HS.b0 (fun a ha w=>gB (ha.ev rfl) (ha.ev rfl)) ?_
     refine Dv (.bool false) 44 rfl HS.b0 (fun a ha w=>run_move (ha.ev rfl)) ?_
     refine fM (a0r ax ay aj c1a az ak aA aB aC n1b aG aF au aH) 45 5 (by kernel_rfl) rfl (fun _ _ _ h=>h) rfl rfl rfl rfl rfl HS.b0 rfl rfl aYq aYo rfl rfl ?_
     refine fM (a0r ax ay aj c1a az ak aA aB aC n1b aG aF au aH) 46 5 (by kernel_rfl) rfl (fun _ _ _ h=>h) rfl rfl rfl rfl rfl HS.b0 rfl rfl aYq aYo rfl rfl ?_
     refine J1 47 (by kernel_rfl) ?_
     refine ai.cZ rfl rfl rfl rfl rfl rfl rfl Tryz.call48 (aGP HT HB HS (HS.at_ 21 rfl) (HS.at_ 20 rfl) (by omega) fE) rfl (fun aTY aWg auD => ?_) ai.nil
     obtain ⟨aR8,aH4,aQo,aKV,aJt,aOZ,aMq,rfl,HS⟩:=auD
     refine ⟨HS.b0,?_⟩
     refine J1 48 (by kernel_rfl) ?_
     refine ai.cZ rfl rfl rfl rfl rfl rfl rfl aYF (Dn HT HB HS (HS.at_ 22 rfl) (HS.at_ 21 rfl) (HS.at_ 0 rfl) (by omega) fE (aA7 fE)) rfl (fun aTZ aWh auE => ?_) ai.nil
     obtain ⟨rfl,HS⟩:=auE
     refine ⟨HS.b0,?_⟩
     refine Dg (.bool false) 49 rfl HS.b0 (fun a ha w=>sU (b:=true) (ha.ev rfl)) ?_
     refine Dv (.bool false) 50 rfl HS.b0 (fun a ha w=>gB (ha.ev rfl) (ha.ev rfl)) ?_
     refine JR.next (by kernel_rfl) (fun _ _ h=>h) ?_
     refine JC.jA rfl ?_
     refine JC.jF (fun _ _ h=>h) ?_
     refine JC.seq ?_
     refine JC.region ?_
     refine JL.load (a0r ax ay aj c1a az ak aA aB aC n1b aG aF au aH) HS 5 rfl rfl rfl aYq aYo rfl rfl ?_
     refine JL.load (a0r aP aQ aK aS aU aN aY aV aW aO aX aZ aT bf) HS 4 rfl rfl rfl aYq aYo rfl rfl ?_
     by_cases hc19:af≤aJ∧aI≤ah
     ·skip
      refine JL.call rfl rfl Tryz.call53 (aGM HT HB HS (HS.at_ 22 rfl) (HS.at_ 21 rfl) (HS.at_ 20 rfl) (HS.at_ 19 rfl) (by omega) hc19.1 hc19.2 fE gV) (fun v20 O7 MX => ?_)
      obtain ⟨Zv,VV,YS,Xq,Wv,Yz,XL,Zw,VW,YT,Xr,Wx,YA,XM,rfl,HS⟩:=MX
      refine Lv (.tuple #[(a0r Zv VV YS Xq Wv Yz XL Zw VW YT Xr Wx YA XM),.nilIface]) (fun a ha=>run_move (ha.ev rfl)) ?_
      refine Lv (a0r Zv VV YS Xq Wv Yz XL Zw VW YT Xr Wx YA XM) (fun a ha=>bK (ha.ev rfl) rfl) ?_
      refine Lv (.nilIface) (fun a ha=>bK (ha.ev rfl) rfl) ?_
      refine JL.alloc (vs:=cO) HS rfl aYt rfl rfl (fun g21 VI HS => ?_)
      refine JL.store HS rfl rfl (i:=0) rfl aYo rfl rfl rfl (vs':=(a0s Zv VV YS Xq Wv Yz XL Zw VW YT Xr Wx YA XM)) rfl rfl (fun ZZ HS => ?_)
      refine Lv (.nilIface) (fun a ha=>run_assign (ha.ev rfl)) ?_
      refine jn ?_
      refine JC.seq ?_
      by_cases aN5:af≤aI
      ·skip
       refine JC.seq ?_
       refine JC.draw HS [] (by kernel_rfl) (fun Z7 HS => ?_)
       refine Dv (.nilIface) 0 rfl HS.b0 (fun a ha w=>run_move (ha.ev rfl)) ?_
       refine Dv (.bool true) 1 rfl HS.b0 (fun a ha w=>Fa (ha.ev rfl) rfl aYA) ?_
       refine Da (a0r ax ay aj c1a az ak aA aB aC n1b aG aF au aH) 2 6 rfl HS.b0 rfl rfl aYq aYo ?_
       refine Dv (.pointer (some ⟨g2,0,none⟩)) 3 rfl HS.b0 (fun a ha w=>bH (ha.ev rfl) aYr rfl aYn rfl rfl) ?_
       refine Da (a0p aP aQ aK aS aU aN aY) 4 5 rfl HS.b0 rfl rfl aYp aYn ?_
       refine bJ 5 rfl rfl rfl aYF (Dn HT HB HS (HS.at_ 24 rfl) (HS.at_ 23 rfl) (HS.at_ 22 rfl) (by omega) fE (by grind)) (fun aUG aWS ave => ?_)
       obtain ⟨rfl,HS⟩:=ave
       refine ⟨HS.b0,?_⟩
       refine Dv (.bool true) 6 rfl HS.b0 (fun a ha w=>run_move (ha.ev rfl)) ?_
       refine Jp 7 (by kernel_rfl) rfl rfl (fun _ _ _ h=>h) rfl rfl rfl rfl rfl HS.b0 ?_
       refine Jp 8 (by kernel_rfl) rfl rfl (fun _ _ _ h=>h) rfl rfl rfl rfl rfl HS.b0 ?_
       refine Jp 9 (by kernel_rfl) rfl rfl (fun _ _ _ h=>h) rfl rfl rfl rfl rfl HS.b0 ?_
       refine J1 10 (by kernel_rfl) ?_
       refine ai.pass rfl rfl rfl rfl rfl rfl rfl rfl rfl rfl ?_ ai.nil
       refine ⟨HS.b0,?_⟩
       refine Dv (.bool true) 11 rfl HS.b0 (fun a ha w=>eY (ha.ev rfl) (ha.ev rfl)) ?_
       refine Dv (.bool false) 12 rfl HS.b0 (fun a ha w=>TC (ha.ev rfl) (ha.ev rfl) aY1 rfl) ?_
       refine Dv (.bool false) 13 rfl HS.b0 (fun a ha w=>run_move (ha.ev rfl)) ?_
       refine Dg (.nilIface) 14 rfl HS.b0 (fun a ha w=>run_move (ha.ev rfl)) ?_
       refine Dg (.bool true) 15 rfl HS.b0 (fun a ha w=>Fa (ha.ev rfl) rfl aYA) ?_
       refine Dg (.bool true) 16 rfl HS.b0 (fun a ha w=>run_move (ha.ev rfl)) ?_
       refine fM (a0r Zv VV YS Xq Wv Yz XL Zw VW YT Xr Wx YA XM) 17 0 (by kernel_rfl) rfl (fun _ _ _ h=>h) rfl rfl rfl rfl rfl HS.b0 rfl rfl aYq aYo rfl rfl ?_
       refine fM (a0p qY pY qQ qw qj qL qG) 18 2 (by kernel_rfl) rfl (fun _ _ _ h=>h) rfl rfl rfl rfl rfl HS.b0 rfl rfl aYp aYn rfl rfl ?_
       refine fM (a0r aP aQ aK aS aU aN aY aV aW aO aX aZ aT bf) 20 5 (by kernel_rfl) rfl (fun _ _ _ h=>h) rfl rfl rfl rfl rfl HS.b0 rfl rfl aYq aYo rfl rfl ?_
       refine fM (a0p qY pY qQ qw qj qL qG) 21 2 (by kernel_rfl) rfl (fun _ _ _ h=>h) rfl rfl rfl rfl rfl HS.b0 rfl rfl aYp aYn rfl rfl ?_
       refine J1 19 (by kernel_rfl) ?_
       refine ai.cZ rfl rfl rfl rfl rfl rfl rfl aYF (VF HT HB HS (HS.at_ 0 rfl) (HS.at_ 1 rfl) (HS.at_ 18 rfl) (by omega) (aoW fE gV hc19)) rfl (fun aUH aWT avf => ?_) ai.nil
       obtain ⟨rfl,HS⟩:=avf
       refine ⟨HS.b0,?_⟩
       refine J1 22 (by kernel_rfl) ?_
       refine ai.cZ rfl rfl rfl rfl rfl rfl rfl aYF (VF HT HB HS (HS.at_ 22 rfl) (HS.at_ 21 rfl) (HS.at_ 18 rfl) (by omega) gV) rfl (fun aUI aWU avg => ?_) ai.nil
       obtain ⟨rfl,HS⟩:=avg
       refine ⟨HS.b0,?_⟩
       refine Dg (.bool false) 23 rfl HS.b0 (fun a ha w=>TC (ha.ev rfl) (ha.ev rfl) aY1 (aoV hx1 hx2)) ?_
       refine Dg (.bool false) 24 rfl HS.b0 (fun a ha w=>eY (ha.ev rfl) (ha.ev rfl)) ?_
       refine Dv (.bool false) 25 rfl HS.b0 (fun a ha w=>gB (ha.ev rfl) (ha.ev rfl)) ?_
       refine JR.next (by kernel_rfl) (fun _ _ h=>h) ?_
       refine JC.jA rfl ?_
       refine JC.jF (fun _ _ h=>h) ?_
       refine JC.seq ?_
       refine JC.region ?_
       refine JL.load (a0r ax ay aj c1a az ak aA aB aC n1b aG aF au aH) HS 6 rfl rfl rfl aYq aYo rfl rfl ?_
       refine JL.load (a0r aP aQ aK aS aU aN aY aV aW aO aX aZ aT bf) HS 5 rfl rfl rfl aYq aYo rfl rfl ?_
       by_cases acF:0 < aI∨aJ < 0
       ·skip
        refine JL.call rfl rfl aYX (TP HT HB HS (HS.at_ 24 rfl) (HS.at_ 23 rfl) (HS.at_ 22 rfl) (HS.at_ 21 rfl) (by omega) acF fE gV) (fun v27 w27 Xb => ?_)
        obtain ⟨aes,aao,adE,abr,aaP,adb,abU,aet,aap,adF,abt,aaQ,ade,abV,rfl,HS⟩:=Xb
        refine Lv (.tuple #[(a0r aes aao adE abr aaP adb abU aet aap adF abt aaQ ade abV),.nilIface]) (fun a ha=>run_move (ha.ev rfl)) ?_
        refine Lv (a0r aes aao adE abr aaP adb abU aet aap adF abt aaQ ade abV) (fun a ha=>bK (ha.ev rfl) rfl) ?_
        refine Lv (.nilIface) (fun a ha=>bK (ha.ev rfl) rfl) ?_
        refine JL.alloc (vs:=cO) HS rfl aYt rfl rfl (fun g28 Z8 HS => ?_)
        refine JL.store HS rfl rfl (i:=0) rfl aYo rfl rfl rfl (vs':=(a0s aes aao adE abr aaP adb abU aet aap adF abt aaQ ade abV)) rfl rfl (fun w29 HS => ?_)
        refine Lv (.nilIface) (fun a ha=>run_assign (ha.ev rfl)) ?_
        refine jn ?_
        refine JC.seq ?_
        refine JC.seq ?_
        refine JC.region ?_
        refine Lv (.nilIface) (fun a ha=>run_move (ha.ev rfl)) ?_
        refine Lv (.bool false) (fun a ha=>JK (ha.ev rfl) rfl aYA) ?_
        refine jn ?_
        refine JC.jA rfl ?_
        refine JC.jF (fun _ _ h=>h) ?_
        refine JC.seq ?_
        refine JC.region ?_
        refine JL.load (a0p qY pY qQ qw qj qL qG) HS 3 rfl rfl rfl aYp aYn rfl rfl ?_
        refine JL.load (a0p qZ qf qR qA ql qM qH) HS 2 rfl rfl rfl aYp aYn rfl rfl ?_
        refine JL.call rfl rfl a0f (acp HT HB HS (HS.at_ 20 rfl) (HS.at_ 19 rfl) (by omega) (adR acF hy1 hy2)) (fun v30 w30 aga => ?_)
        obtain ⟨s30,A30,n30,c30,B30,m30,d30,rfl,HS⟩:=aga
        refine Lv (.tuple #[(a0p s30 A30 n30 c30 B30 m30 d30),.nilIface]) (fun a ha=>run_move (ha.ev rfl)) ?_
        refine Lv (a0p s30 A30 n30 c30 B30 m30 d30) (fun a ha=>bK (ha.ev rfl) rfl) ?_
        refine Lv (.nilIface) (fun a ha=>bK (ha.ev rfl) rfl) ?_
        refine JL.alloc (vs:=bU) HS rfl aYs rfl rfl (fun g31 w31 HS => ?_)
        refine JL.store HS rfl rfl (i:=0) rfl aYn rfl rfl rfl (vs':=(a0q s30 A30 n30 c30 B30 m30 d30)) rfl rfl (fun w32 HS => ?_)
        refine Lv (.nilIface) (fun a ha=>run_assign (ha.ev rfl)) ?_
        refine jn ?_
        refine JC.seq ?_
        refine JC.region ?_
        refine Lv (.nilIface) (fun a ha=>run_move (ha.ev rfl)) ?_
        refine Lv (.bool true) (fun a ha=>Fa (ha.ev rfl) rfl aYA) ?_
        refine Lv (.bool true) (fun a ha=>run_move (ha.ev rfl)) ?_
        refine Lg (a0r aes aao adE abr aaP adb abU aet aap adF abt aaQ ade abV) (fun a ha=>gU (ha.ev rfl) aYq aYo (HS.box _ (.tail _ (.head _))) rfl rfl) ?_
        refine Lg (a0p s30 A30 n30 c30 B30 m30 d30) (fun a ha=>gU (ha.ev rfl) aYp aYn (HS.box _ (.head _)) rfl rfl) ?_
        refine JL.cZ rfl rfl rfl rfl rfl rfl aYF (Dn HT HB HS (HS.at_ 1 rfl) (HS.at_ 2 rfl) (HS.at_ 0 rfl) (by omega) (Om fE (EO gV acF)) (ack acF hx1 hx2 hy1 hy2)) (fun v33 w33 agd => ?_)
        obtain ⟨rfl,HS⟩:=agd
        refine Lv (.bool true) (fun a ha=>eY (ha.ev rfl) (ha.ev rfl)) ?_
        refine Lv (.bool true) (fun a ha=>run_assign (ha.ev rfl)) ?_
        refine jn ?_
        refine JC.ret (fun a ha => ?_)
        repeat (first | refine dh ?_ | refine df ?_)
        refine fG (v := .bool true) ha Tryz.results8 (.tmp rfl) ⟨_,rfl,?_⟩
        exact ⟨rfl,HS.gy 9 32 rfl rfl⟩
       ·skip
        refine JL.call rfl rfl aYX (VG HT HB HS (HS.at_ 24 rfl) (HS.at_ 23 rfl) (HS.at_ 22 rfl) (HS.at_ 21 rfl) (by omega) (by grind) fE gV) (fun v34 w34 Xd => ?_)
        obtain ⟨rfl,HS⟩:=Xd
        refine Lv (.tuple #[fO,.iface 74 (.int .i64 8)]) (fun a ha=>run_move (ha.ev rfl)) ?_
        refine Lv fO (fun a ha=>bK (ha.ev rfl) rfl) ?_
        refine Lv (.iface 74 (.int .i64 8)) (fun a ha=>bK (ha.ev rfl) rfl) ?_
        refine JL.alloc (vs:=cO) HS rfl aYt rfl rfl (fun g35 w35 HS => ?_)
        refine JL.store HS rfl rfl (i:=0) rfl aYo rfl rfl rfl (vs':=cO) rfl rfl (fun w36 HS => ?_)
        refine Lv (.iface 74 (.int .i64 8)) (fun a ha=>run_assign (ha.ev rfl)) ?_
        refine jn ?_
        refine JC.seq ?_
        refine JC.seq ?_
        refine JC.region ?_
        refine Lv (.iface 74 (.int .i64 8)) (fun a ha=>run_move (ha.ev rfl)) ?_
        refine Lv (.bool true) (fun a ha=>Zo (ha.ev rfl) rfl aYA) ?_
        refine jn ?_
        refine JC.iy rfl ?_
        refine JC.seq ?_
        refine JC.region ?_
        refine Lv (.iface 74 (.int .i64 8)) (fun a ha=>run_move (ha.ev rfl)) ?_
        refine JL.call rfl rfl aZL (Yj HT HB HS (z1:=8) (by decide) (by decide)) (fun v37 w37 agf => ?_)
        obtain ⟨rfl,HS⟩:=agf
        refine Lv (.bool true) (fun a ha=>run_move (ha.ev rfl)) ?_
        refine Lg (a0r aP aQ aK aS aU aN aY aV aW aO aX aZ aT bf) (fun a ha=>gU (ha.ev rfl) aYq aYo (HS.box _ (.tail _ (.tail _ (.tail _ (.tail _ (.tail _ (.tail _ (.head _)))))))) rfl rfl) ?_
        refine Lg yw (fun a ha=>bZ.run_build (vs:=[]) (by simp only [List.map_cons,List.map_nil]) aYx aYs Dh rfl) ?_
        refine JL.cZ rfl rfl rfl rfl rfl rfl aYF (Dn HT HB HS (HS.at_ 22 rfl) (HS.at_ 21 rfl) (FV.zero 0 _) (by omega) gV (by grind)) (fun v38 w38 agh => ?_)
        obtain ⟨rfl,HS⟩:=agh
        refine Lv (.bool true) (fun a ha=>eY (ha.ev rfl) (ha.ev rfl)) ?_
        refine Lv (.bool true) (fun a ha=>run_assign (ha.ev rfl)) ?_
        refine jn ?_
        refine JC.ret (fun a ha => ?_)
        repeat (first | refine dh ?_ | refine df ?_)
        refine fG (v := .bool true) ha Tryz.results8 (.tmp rfl) ⟨_,rfl,?_⟩
        exact ⟨rfl,HS.gy 8 29 rfl rfl⟩
      ·skip
       refine JC.seq ?_
       refine JC.draw HS [] (by kernel_rfl) (fun w39 HS => ?_)
       refine Dv (.nilIface) 0 rfl HS.b0 (fun a ha w=>run_move (ha.ev rfl)) ?_
       refine Dv (.bool true) 1 rfl HS.b0 (fun a ha w=>Fa (ha.ev rfl) rfl aYA) ?_
       refine Da (a0r ax ay aj c1a az ak aA aB aC n1b aG aF au aH) 2 6 rfl HS.b0 rfl rfl aYq aYo ?_
       refine Dv (.pointer (some ⟨g2,0,none⟩)) 3 rfl HS.b0 (fun a ha w=>bH (ha.ev rfl) aYr rfl aYn rfl rfl) ?_
       refine Da (a0p aP aQ aK aS aU aN aY) 4 5 rfl HS.b0 rfl rfl aYp aYn ?_
       refine bJ 5 rfl rfl rfl aYF (ZP HT HB HS (HS.at_ 24 rfl) (HS.at_ 23 rfl) (HS.at_ 22 rfl) (by omega) fE (by grind)) (fun aUP aW1 avr => ?_)
       obtain ⟨rfl,HS⟩:=avr
       refine ⟨HS.b0,?_⟩
       refine Dv (.bool false) 6 rfl HS.b0 (fun a ha w=>run_move (ha.ev rfl)) ?_
       refine fM (a0r aP aQ aK aS aU aN aY aV aW aO aX aZ aT bf) 7 5 (by kernel_rfl) rfl (fun _ _ _ h=>h) rfl rfl rfl rfl rfl HS.b0 rfl rfl aYq aYo rfl rfl ?_
       refine Dg (.pointer (some ⟨g1,0,none⟩)) 8 rfl HS.b0 (fun a ha w=>bH (ha.ev rfl) aYr rfl aYn rfl rfl) ?_
       refine fM (a0p ax ay aj c1a az ak aA) 9 6 (by kernel_rfl) rfl (fun _ _ _ h=>h) rfl rfl rfl rfl rfl HS.b0 rfl rfl aYp aYn rfl rfl ?_
       refine J1 10 (by kernel_rfl) ?_
       refine ai.cZ rfl rfl rfl rfl rfl rfl rfl aYF (Dn HT HB HS (HS.at_ 22 rfl) (HS.at_ 21 rfl) (HS.at_ 24 rfl) (by omega) gV (by grind)) rfl (fun aUQ aW2 avs => ?_) ai.nil
       obtain ⟨rfl,HS⟩:=avs
       refine ⟨HS.b0,?_⟩
       refine Dv (.bool true) 11 rfl HS.b0 (fun a ha w=>gB (ha.ev rfl) (ha.ev rfl)) ?_
       refine Dv (.bool false) 12 rfl HS.b0 (fun a ha w=>TC (ha.ev rfl) (ha.ev rfl) aY1 rfl) ?_
       refine Dv (.bool false) 13 rfl HS.b0 (fun a ha w=>run_move (ha.ev rfl)) ?_
       refine Dg (.nilIface) 14 rfl HS.b0 (fun a ha w=>run_move (ha.ev rfl)) ?_
       refine Dg (.bool true) 15 rfl HS.b0 (fun a ha w=>Fa (ha.ev rfl) rfl aYA) ?_
       refine Dg (.bool true) 16 rfl HS.b0 (fun a ha w=>run_move (ha.ev rfl)) ?_
       refine fM (a0r Zv VV YS Xq Wv Yz XL Zw VW YT Xr Wx YA XM) 17 0 (by kernel_rfl) rfl (fun _ _ _ h=>h) rfl rfl rfl rfl rfl HS.b0 rfl rfl aYq aYo rfl rfl ?_
       refine fM (a0p qY pY qQ qw qj qL qG) 18 2 (by kernel_rfl) rfl (fun _ _ _ h=>h) rfl rfl rfl rfl rfl HS.b0 rfl rfl aYp aYn rfl rfl ?_
       refine fM (a0r aP aQ aK aS aU aN aY aV aW aO aX aZ aT bf) 20 5 (by kernel_rfl) rfl (fun _ _ _ h=>h) rfl rfl rfl rfl rfl HS.b0 rfl rfl aYq aYo rfl rfl ?_
       refine fM (a0p qY pY qQ qw qj qL qG) 21 2 (by kernel_rfl) rfl (fun _ _ _ h=>h) rfl rfl rfl rfl rfl HS.b0 rfl rfl aYp aYn rfl rfl ?_
       refine J1 19 (by kernel_rfl) ?_
       refine ai.cZ rfl rfl rfl rfl rfl rfl rfl aYF (VF HT HB HS (HS.at_ 0 rfl) (HS.at_ 1 rfl) (HS.at_ 18 rfl) (by omega) (aoW fE gV hc19)) rfl (fun aUR aW3 avt => ?_) ai.nil
       obtain ⟨rfl,HS⟩:=avt
       refine ⟨HS.b0,?_⟩
       refine J1 22 (by kernel_rfl) ?_
       refine ai.cZ rfl rfl rfl rfl rfl rfl rfl aYF (VF HT HB HS (HS.at_ 22 rfl) (HS.at_ 21 rfl) (HS.at_ 18 rfl) (by omega) gV) rfl (fun aUT aW5 avv => ?_) ai.nil
       obtain ⟨rfl,HS⟩:=avv
       refine ⟨HS.b0,?_⟩
       refine Dg (.bool false) 23 rfl HS.b0 (fun a ha w=>TC (ha.ev rfl) (ha.ev rfl) aY1 (aoV hx1 hx2)) ?_
       refine Dg (.bool false) 24 rfl HS.b0 (fun a ha w=>eY (ha.ev rfl) (ha.ev rfl)) ?_
       refine Dv (.bool false) 25 rfl HS.b0 (fun a ha w=>gB (ha.ev rfl) (ha.ev rfl)) ?_
       refine JR.next (by kernel_rfl) (fun _ _ h=>h) ?_
       refine JC.jA rfl ?_
       refine JC.jF (fun _ _ h=>h) ?_
       refine JC.seq ?_
       refine JC.region ?_
       refine JL.load (a0r ax ay aj c1a az ak aA aB aC n1b aG aF au aH) HS 6 rfl rfl rfl aYq aYo rfl rfl ?_
       refine JL.load (a0r aP aQ aK aS aU aN aY aV aW aO aX aZ aT bf) HS 5 rfl rfl rfl aYq aYo rfl rfl ?_
       by_cases acG:0 < aI∨aJ < 0
       ·skip
        refine JL.call rfl rfl aYX (TP HT HB HS (HS.at_ 24 rfl) (HS.at_ 23 rfl) (HS.at_ 22 rfl) (HS.at_ 21 rfl) (by omega) acG fE gV) (fun v42 w42 agi => ?_)
        obtain ⟨s42a,aaw,n42a,abz,aaX,adk,ab1,s42b,aax,n42b,abA,aaY,adl,ab2,rfl,HS⟩:=agi
        refine Lv (.tuple #[(a0r s42a aaw n42a abz aaX adk ab1 s42b aax n42b abA aaY adl ab2),.nilIface]) (fun a ha=>run_move (ha.ev rfl)) ?_
        refine Lv (a0r s42a aaw n42a abz aaX adk ab1 s42b aax n42b abA aaY adl ab2) (fun a ha=>bK (ha.ev rfl) rfl) ?_
        refine Lv (.nilIface) (fun a ha=>bK (ha.ev rfl) rfl) ?_
        refine JL.alloc (vs:=cO) HS rfl aYt rfl rfl (fun g43 w43 HS => ?_)
        refine JL.store HS rfl rfl (i:=0) rfl aYo rfl rfl rfl (vs':=(a0s s42a aaw n42a abz aaX adk ab1 s42b aax n42b abA aaY adl ab2)) rfl rfl (fun w44 HS => ?_)
        refine Lv (.nilIface) (fun a ha=>run_assign (ha.ev rfl)) ?_
        refine jn ?_
        refine JC.seq ?_
        refine JC.seq ?_
        refine JC.region ?_
        refine Lv (.nilIface) (fun a ha=>run_move (ha.ev rfl)) ?_
        refine Lv (.bool false) (fun a ha=>JK (ha.ev rfl) rfl aYA) ?_
        refine jn ?_
        refine JC.jA rfl ?_
        refine JC.jF (fun _ _ h=>h) ?_
        refine JC.seq ?_
        refine JC.region ?_
        refine JL.load (a0p qY pY qQ qw qj qL qG) HS 3 rfl rfl rfl aYp aYn rfl rfl ?_
        refine JL.load (a0p qZ qf qR qA ql qM qH) HS 2 rfl rfl rfl aYp aYn rfl rfl ?_
        refine JL.call rfl rfl a0f (acp HT HB HS (HS.at_ 20 rfl) (HS.at_ 19 rfl) (by omega) (adR acG hy1 hy2)) (fun v45 w45 agk => ?_)
        obtain ⟨s45,A45,n45,c45,B45,m45,d45,rfl,HS⟩:=agk
        refine Lv (.tuple #[(a0p s45 A45 n45 c45 B45 m45 d45),.nilIface]) (fun a ha=>run_move (ha.ev rfl)) ?_
        refine Lv (a0p s45 A45 n45 c45 B45 m45 d45) (fun a ha=>bK (ha.ev rfl) rfl) ?_
        refine Lv (.nilIface) (fun a ha=>bK (ha.ev rfl) rfl) ?_
        refine JL.alloc (vs:=bU) HS rfl aYs rfl rfl (fun g46 w46 HS => ?_)
        refine JL.store HS rfl rfl (i:=0) rfl aYn rfl rfl rfl (vs':=(a0q s45 A45 n45 c45 B45 m45 d45)) rfl rfl (fun w47 HS => ?_)
        refine Lv (.nilIface) (fun a ha=>run_assign (ha.ev rfl)) ?_
        refine jn ?_
        refine JC.seq ?_
        refine JC.region ?_
        refine Lv (.nilIface) (fun a ha=>run_move (ha.ev rfl)) ?_
        refine Lv (.bool true) (fun a ha=>Fa (ha.ev rfl) rfl aYA) ?_
        refine Lv (.bool true) (fun a ha=>run_move (ha.ev rfl)) ?_
        refine Lg (a0r s42a aaw n42a abz aaX adk ab1 s42b aax n42b abA aaY adl ab2) (fun a ha=>gU (ha.ev rfl) aYq aYo (HS.box _ (.tail _ (.head _))) rfl rfl) ?_
        refine Lg (a0p s45 A45 n45 c45 B45 m45 d45) (fun a ha=>gU (ha.ev rfl) aYp aYn (HS.box _ (.head _)) rfl rfl) ?_
        refine JL.cZ rfl rfl rfl rfl rfl rfl aYF (Dn HT HB HS (HS.at_ 1 rfl) (HS.at_ 2 rfl) (HS.at_ 0 rfl) (by omega) (Om fE (EO gV acG)) (ack acG hx1 hx2 hy1 hy2)) (fun v48 w48 agn => ?_)
        obtain ⟨rfl,HS⟩:=agn
        refine Lv (.bool true) (fun a ha=>eY (ha.ev rfl) (ha.ev rfl)) ?_
        refine Lv (.bool true) (fun a ha=>run_assign (ha.ev rfl)) ?_
        refine jn ?_
        refine JC.ret (fun a ha => ?_)
        repeat (first | refine dh ?_ | refine df ?_)
        refine fG (v := .bool true) ha Tryz.results8 (.tmp rfl) ⟨_,rfl,?_⟩
        exact ⟨rfl,HS.gy 9 32 rfl rfl⟩
       ·skip
        refine JL.call rfl rfl aYX (VG HT HB HS (HS.at_ 24 rfl) (HS.at_ 23 rfl) (HS.at_ 22 rfl) (HS.at_ 21 rfl) (by omega) (by grind) fE gV) (fun v49 w49 agp => ?_)
        obtain ⟨rfl,HS⟩:=agp
        refine Lv (.tuple #[fO,.iface 74 (.int .i64 8)]) (fun a ha=>run_move (ha.ev rfl)) ?_
        refine Lv fO (fun a ha=>bK (ha.ev rfl) rfl) ?_
        refine Lv (.iface 74 (.int .i64 8)) (fun a ha=>bK (ha.ev rfl) rfl) ?_
        refine JL.alloc (vs:=cO) HS rfl aYt rfl rfl (fun zO w50 HS => ?_)
        refine JL.store HS rfl rfl (i:=0) rfl aYo rfl rfl rfl (vs':=cO) rfl rfl (fun w51 HS => ?_)
        refine Lv (.iface 74 (.int .i64 8)) (fun a ha=>run_assign (ha.ev rfl)) ?_
        refine jn ?_
        refine JC.seq ?_
        refine JC.seq ?_
        refine JC.region ?_
        refine Lv (.iface 74 (.int .i64 8)) (fun a ha=>run_move (ha.ev rfl)) ?_
        refine Lv (.bool true) (fun a ha=>Zo (ha.ev rfl) rfl aYA) ?_
        refine jn ?_
        refine JC.iy rfl ?_
        refine JC.seq ?_
        refine JC.region ?_
        refine Lv (.iface 74 (.int .i64 8)) (fun a ha=>run_move (ha.ev rfl)) ?_
        refine JL.call rfl rfl aZL (Yj HT HB HS (z1:=8) (by decide) (by decide)) (fun v52 w52 avL => ?_)
        obtain ⟨rfl,HS⟩:=avL
        refine Lv (.bool true) (fun a ha=>run_move (ha.ev rfl)) ?_
        refine Lg (a0r aP aQ aK aS aU aN aY aV aW aO aX aZ aT bf) (fun a ha=>gU (ha.ev rfl) aYq aYo (HS.box _ (.tail _ (.tail _ (.tail _ (.tail _ (.tail _ (.tail _ (.head _)))))))) rfl rfl) ?_
        refine Lg yw (fun a ha=>bZ.run_build (vs:=[]) (by simp only [List.map_cons,List.map_nil]) aYx aYs Dh rfl) ?_
        refine JL.cZ rfl rfl rfl rfl rfl rfl aYF (Dn HT HB HS (HS.at_ 22 rfl) (HS.at_ 21 rfl) (FV.zero 0 _) (by omega) gV (by grind)) (fun v53 w53 ags => ?_)
        obtain ⟨rfl,HS⟩:=ags
        refine Lv (.bool true) (fun a ha=>eY (ha.ev rfl) (ha.ev rfl)) ?_
        refine Lv (.bool true) (fun a ha=>run_assign (ha.ev rfl)) ?_
        refine jn ?_
        refine JC.ret (fun a ha => ?_)
        repeat (first | refine dh ?_ | refine df ?_)
        refine fG (v := .bool true) ha Tryz.results8 (.tmp rfl) ⟨_,rfl,?_⟩
        exact ⟨rfl,HS.gy 8 29 rfl rfl⟩
     ·skip
      refine JL.call rfl rfl Tryz.call53 (aGN HT HB HS (HS.at_ 22 rfl) (HS.at_ 21 rfl) (HS.at_ 20 rfl) (HS.at_ 19 rfl) (by omega) (by grind) fE gV) (fun v54 w54 avM => ?_)
      obtain ⟨rfl,HS⟩:=avM
      refine Lv (.tuple #[fO,.iface 74 (.int .i64 16)]) (fun a ha=>run_move (ha.ev rfl)) ?_
      refine Lv fO (fun a ha=>bK (ha.ev rfl) rfl) ?_
      refine Lv (.iface 74 (.int .i64 16)) (fun a ha=>bK (ha.ev rfl) rfl) ?_
      refine JL.alloc (vs:=cO) HS rfl aYt rfl rfl (fun g55 w55 HS => ?_)
      refine JL.store HS rfl rfl (i:=0) rfl aYo rfl rfl rfl (vs':=cO) rfl rfl (fun w56 HS => ?_)
      refine Lv (.iface 74 (.int .i64 16)) (fun a ha=>run_assign (ha.ev rfl)) ?_
      refine jn ?_
      refine JC.seq ?_
      by_cases aN6:af≤aI
      ·skip
       refine JC.seq ?_
       refine JC.draw HS [] (by kernel_rfl) (fun w58 HS => ?_)
       refine Dv (.iface 74 (.int .i64 16)) 0 rfl HS.b0 (fun a ha w=>run_move (ha.ev rfl)) ?_
       refine Dv (.bool false) 1 rfl HS.b0 (fun a ha w=>Qg (ha.ev rfl) rfl aYA) ?_
       refine Da (a0r ax ay aj c1a az ak aA aB aC n1b aG aF au aH) 2 6 rfl HS.b0 rfl rfl aYq aYo ?_
       refine Dv (.pointer (some ⟨g2,0,none⟩)) 3 rfl HS.b0 (fun a ha w=>bH (ha.ev rfl) aYr rfl aYn rfl rfl) ?_
       refine Da (a0p aP aQ aK aS aU aN aY) 4 5 rfl HS.b0 rfl rfl aYp aYn ?_
       refine bJ 5 rfl rfl rfl aYF (ZP HT HB HS (HS.at_ 22 rfl) (HS.at_ 21 rfl) (HS.at_ 20 rfl) (by omega) fE (by grind)) (fun aU7 aXi avS => ?_)
       obtain ⟨rfl,HS⟩:=avS
       refine ⟨HS.b0,?_⟩
       refine Dv (.bool false) 6 rfl HS.b0 (fun a ha w=>run_move (ha.ev rfl)) ?_
       refine fM (a0r aP aQ aK aS aU aN aY aV aW aO aX aZ aT bf) 7 5 (by kernel_rfl) rfl (fun _ _ _ h=>h) rfl rfl rfl rfl rfl HS.b0 rfl rfl aYq aYo rfl rfl ?_
       refine Dg (.pointer (some ⟨g1,0,none⟩)) 8 rfl HS.b0 (fun a ha w=>bH (ha.ev rfl) aYr rfl aYn rfl rfl) ?_
       refine fM (a0p ax ay aj c1a az ak aA) 9 6 (by kernel_rfl) rfl (fun _ _ _ h=>h) rfl rfl rfl rfl rfl HS.b0 rfl rfl aYp aYn rfl rfl ?_
       refine J1 10 (by kernel_rfl) ?_
       refine ai.cZ rfl rfl rfl rfl rfl rfl rfl aYF (ZP HT HB HS (HS.at_ 20 rfl) (HS.at_ 19 rfl) (HS.at_ 22 rfl) (by omega) gV (by grind)) rfl (fun aU8 aXj avT => ?_) ai.nil
       obtain ⟨rfl,HS⟩:=avT
       refine ⟨HS.b0,?_⟩
       refine Dv (.bool false) 11 rfl HS.b0 (fun a ha w=>gB (ha.ev rfl) (ha.ev rfl)) ?_
       refine Dv (.bool false) 12 rfl HS.b0 (fun a ha w=>TC (ha.ev rfl) (ha.ev rfl) aY1 rfl) ?_
       refine Dv (.bool false) 13 rfl HS.b0 (fun a ha w=>run_move (ha.ev rfl)) ?_
       refine Dg (.iface 74 (.int .i64 16)) 14 rfl HS.b0 (fun a ha w=>run_move (ha.ev rfl)) ?_
       refine Dg (.bool false) 15 rfl HS.b0 (fun a ha w=>Qg (ha.ev rfl) rfl aYA) ?_
       refine Dg (.bool false) 16 rfl HS.b0 (fun a ha w=>run_move (ha.ev rfl)) ?_
       refine Jp 17 (by kernel_rfl) rfl rfl (fun _ _ _ h=>h) rfl rfl rfl rfl rfl HS.b0 ?_
       refine Jp 18 (by kernel_rfl) rfl rfl (fun _ _ _ h=>h) rfl rfl rfl rfl rfl HS.b0 ?_
       refine Jp 20 (by kernel_rfl) rfl rfl (fun _ _ _ h=>h) rfl rfl rfl rfl rfl HS.b0 ?_
       refine Jp 21 (by kernel_rfl) rfl rfl (fun _ _ _ h=>h) rfl rfl rfl rfl rfl HS.b0 ?_
       refine J1 19 (by kernel_rfl) ?_
       refine ai.pass rfl rfl rfl rfl rfl rfl rfl rfl rfl rfl ?_ ai.nil
       refine ⟨HS.b0,?_⟩
       refine J1 22 (by kernel_rfl) ?_
       refine ai.pass rfl rfl rfl rfl rfl rfl rfl rfl rfl rfl ?_ ai.nil
       refine ⟨HS.b0,?_⟩
       refine Jp 23 (by kernel_rfl) rfl rfl (fun _ _ _ h=>h) rfl rfl rfl rfl rfl HS.b0 ?_
       refine Dg (.bool false) 24 rfl HS.b0 (fun a ha w=>gB (ha.ev rfl) (ha.ev rfl)) ?_
       refine Dv (.bool false) 25 rfl HS.b0 (fun a ha w=>gB (ha.ev rfl) (ha.ev rfl)) ?_
       refine JR.next (by kernel_rfl) (fun _ _ h=>h) ?_
       refine JC.jA rfl ?_
       refine JC.jF (fun _ _ h=>h) ?_
       refine JC.seq ?_
       refine JC.region ?_
       refine JL.load (a0r ax ay aj c1a az ak aA aB aC n1b aG aF au aH) HS 6 rfl rfl rfl aYq aYo rfl rfl ?_
       refine JL.load (a0r aP aQ aK aS aU aN aY aV aW aO aX aZ aT bf) HS 5 rfl rfl rfl aYq aYo rfl rfl ?_
       by_cases acH:0 < aI∨aJ < 0
       ·skip
        refine JL.call rfl rfl aYX (TP HT HB HS (HS.at_ 22 rfl) (HS.at_ 21 rfl) (HS.at_ 20 rfl) (HS.at_ 19 rfl) (by omega) acH fE gV) (fun v61 w61 agv => ?_)
        obtain ⟨aeD,aaE,adN,abJ,aa4,adq,ab7,aeE,aaF,adO,abK,aa5,adr,ab8,rfl,HS⟩:=agv
        refine Lv (.tuple #[(a0r aeD aaE adN abJ aa4 adq ab7 aeE aaF adO abK aa5 adr ab8),.nilIface]) (fun a ha=>run_move (ha.ev rfl)) ?_
        refine Lv (a0r aeD aaE adN abJ aa4 adq ab7 aeE aaF adO abK aa5 adr ab8) (fun a ha=>bK (ha.ev rfl) rfl) ?_
        refine Lv (.nilIface) (fun a ha=>bK (ha.ev rfl) rfl) ?_
        refine JL.alloc (vs:=cO) HS rfl aYt rfl rfl (fun g62 w62 HS => ?_)
        refine JL.store HS rfl rfl (i:=0) rfl aYo rfl rfl rfl (vs':=(a0s aeD aaE adN abJ aa4 adq ab7 aeE aaF adO abK aa5 adr ab8)) rfl rfl (fun w63 HS => ?_)
        refine Lv (.nilIface) (fun a ha=>run_assign (ha.ev rfl)) ?_
        refine jn ?_
        refine JC.seq ?_
        refine JC.seq ?_
        refine JC.region ?_
        refine Lv (.nilIface) (fun a ha=>run_move (ha.ev rfl)) ?_
        refine Lv (.bool false) (fun a ha=>JK (ha.ev rfl) rfl aYA) ?_
        refine jn ?_
        refine JC.jA rfl ?_
        refine JC.jF (fun _ _ h=>h) ?_
        refine JC.seq ?_
        refine JC.region ?_
        refine JL.load (a0p qY pY qQ qw qj qL qG) HS 3 rfl rfl rfl aYp aYn rfl rfl ?_
        refine JL.load (a0p qZ qf qR qA ql qM qH) HS 2 rfl rfl rfl aYp aYn rfl rfl ?_
        refine JL.call rfl rfl a0f (acp HT HB HS (HS.at_ 18 rfl) (HS.at_ 17 rfl) (by omega) (adR acH hy1 hy2)) (fun v64 Bh agw => ?_)
        obtain ⟨s64,A64,n64,c64,B64,m64,d64,rfl,HS⟩:=agw
        refine Lv (.tuple #[(a0p s64 A64 n64 c64 B64 m64 d64),.nilIface]) (fun a ha=>run_move (ha.ev rfl)) ?_
        refine Lv (a0p s64 A64 n64 c64 B64 m64 d64) (fun a ha=>bK (ha.ev rfl) rfl) ?_
        refine Lv (.nilIface) (fun a ha=>bK (ha.ev rfl) rfl) ?_
        refine JL.alloc (vs:=bU) HS rfl aYs rfl rfl (fun g65 w65 HS => ?_)
        refine JL.store HS rfl rfl (i:=0) rfl aYn rfl rfl rfl (vs':=(a0q s64 A64 n64 c64 B64 m64 d64)) rfl rfl (fun w66 HS => ?_)
        refine Lv (.nilIface) (fun a ha=>run_assign (ha.ev rfl)) ?_
        refine jn ?_
        refine JC.seq ?_
        refine JC.region ?_
        refine Lv (.nilIface) (fun a ha=>run_move (ha.ev rfl)) ?_
        refine Lv (.bool true) (fun a ha=>Fa (ha.ev rfl) rfl aYA) ?_
        refine Lv (.bool true) (fun a ha=>run_move (ha.ev rfl)) ?_
        refine Lg (a0r aeD aaE adN abJ aa4 adq ab7 aeE aaF adO abK aa5 adr ab8) (fun a ha=>gU (ha.ev rfl) aYq aYo (HS.box _ (.tail _ (.head _))) rfl rfl) ?_
        refine Lg (a0p s64 A64 n64 c64 B64 m64 d64) (fun a ha=>gU (ha.ev rfl) aYp aYn (HS.box _ (.head _)) rfl rfl) ?_
        refine JL.cZ rfl rfl rfl rfl rfl rfl aYF (Dn HT HB HS (HS.at_ 1 rfl) (HS.at_ 2 rfl) (HS.at_ 0 rfl) (by omega) (Om fE (EO gV acH)) (ack acH hx1 hx2 hy1 hy2)) (fun v67 w67 agy => ?_)
        obtain ⟨rfl,HS⟩:=agy
        refine Lv (.bool true) (fun a ha=>eY (ha.ev rfl) (ha.ev rfl)) ?_
        refine Lv (.bool true) (fun a ha=>run_assign (ha.ev rfl)) ?_
        refine jn ?_
        refine JC.ret (fun a ha => ?_)
        repeat (first | refine dh ?_ | refine df ?_)
        refine fG (v := .bool true) ha Tryz.results8 (.tmp rfl) ⟨_,rfl,?_⟩
        exact ⟨rfl,HS.gy 9 30 rfl rfl⟩
       ·skip
        refine JL.call rfl rfl aYX (VG HT HB HS (HS.at_ 22 rfl) (HS.at_ 21 rfl) (HS.at_ 20 rfl) (HS.at_ 19 rfl) (by omega) (by grind) fE gV) (fun v68 w68 agz => ?_)
        obtain ⟨rfl,HS⟩:=agz
        refine Lv (.tuple #[fO,.iface 74 (.int .i64 8)]) (fun a ha=>run_move (ha.ev rfl)) ?_
        refine Lv fO (fun a ha=>bK (ha.ev rfl) rfl) ?_
        refine Lv (.iface 74 (.int .i64 8)) (fun a ha=>bK (ha.ev rfl) rfl) ?_
        refine JL.alloc (vs:=cO) HS rfl aYt rfl rfl (fun RG w69 HS => ?_)
        refine JL.store HS rfl rfl (i:=0) rfl aYo rfl rfl rfl (vs':=cO) rfl rfl (fun w70 HS => ?_)
        refine Lv (.iface 74 (.int .i64 8)) (fun a ha=>run_assign (ha.ev rfl)) ?_
        refine jn ?_
        refine JC.seq ?_
        refine JC.seq ?_
        refine JC.region ?_
        refine Lv (.iface 74 (.int .i64 8)) (fun a ha=>run_move (ha.ev rfl)) ?_
        refine Lv (.bool true) (fun a ha=>Zo (ha.ev rfl) rfl aYA) ?_
        refine jn ?_
        refine JC.iy rfl ?_
        refine JC.seq ?_
        refine JC.region ?_
        refine Lv (.iface 74 (.int .i64 8)) (fun a ha=>run_move (ha.ev rfl)) ?_
        refine JL.call rfl rfl aZL (Yj HT HB HS (z1:=8) (by decide) (by decide)) (fun v71 w71 awe => ?_)
        obtain ⟨rfl,HS⟩:=awe
        refine Lv (.bool true) (fun a ha=>run_move (ha.ev rfl)) ?_
        refine Lg (a0r aP aQ aK aS aU aN aY aV aW aO aX aZ aT bf) (fun a ha=>gU (ha.ev rfl) aYq aYo (HS.box _ (.tail _ (.tail _ (.tail _ (.tail _ (.tail _ (.tail _ (.head _)))))))) rfl rfl) ?_
        refine Lg yw (fun a ha=>bZ.run_build (vs:=[]) (by simp only [List.map_cons,List.map_nil]) aYx aYs Dh rfl) ?_
        refine JL.cZ rfl rfl rfl rfl rfl rfl aYF (Dn HT HB HS (HS.at_ 20 rfl) (HS.at_ 19 rfl) (FV.zero 0 _) (by omega) gV (by grind)) (fun v72 w72 awf => ?_)
        obtain ⟨rfl,HS⟩:=awf
        refine Lv (.bool true) (fun a ha=>eY (ha.ev rfl) (ha.ev rfl)) ?_
        refine Lv (.bool true) (fun a ha=>run_assign (ha.ev rfl)) ?_
        refine jn ?_
        refine JC.ret (fun a ha => ?_)
        repeat (first | refine dh ?_ | refine df ?_)
        refine fG (v := .bool true) ha Tryz.results8 (.tmp rfl) ⟨_,rfl,?_⟩
        exact ⟨rfl,HS.gy 8 27 rfl rfl⟩
      ·skip
       refine JC.seq ?_
       refine JC.draw HS [] (by kernel_rfl) (fun w73 HS => ?_)
       refine Dv (.iface 74 (.int .i64 16)) 0 rfl HS.b0 (fun a ha w=>run_move (ha.ev rfl)) ?_
       refine Dv (.bool false) 1 rfl HS.b0 (fun a ha w=>Qg (ha.ev rfl) rfl aYA) ?_
       refine Da (a0r ax ay aj c1a az ak aA aB aC n1b aG aF au aH) 2 6 rfl HS.b0 rfl rfl aYq aYo ?_
       refine Dv (.pointer (some ⟨g2,0,none⟩)) 3 rfl HS.b0 (fun a ha w=>bH (ha.ev rfl) aYr rfl aYn rfl rfl) ?_
       refine Da (a0p aP aQ aK aS aU aN aY) 4 5 rfl HS.b0 rfl rfl aYp aYn ?_
       refine bJ 5 rfl rfl rfl aYF (ZP HT HB HS (HS.at_ 22 rfl) (HS.at_ 21 rfl) (HS.at_ 20 rfl) (by omega) fE (by grind)) (fun aVq aXK awg => ?_)
       obtain ⟨rfl,HS⟩:=awg
       refine ⟨HS.b0,?_⟩
       refine Dv (.bool false) 6 rfl HS.b0 (fun a ha w=>run_move (ha.ev rfl)) ?_
       refine fM (a0r aP aQ aK aS aU aN aY aV aW aO aX aZ aT bf) 7 5 (by kernel_rfl) rfl (fun _ _ _ h=>h) rfl rfl rfl rfl rfl HS.b0 rfl rfl aYq aYo rfl rfl ?_
       refine Dg (.pointer (some ⟨g1,0,none⟩)) 8 rfl HS.b0 (fun a ha w=>bH (ha.ev rfl) aYr rfl aYn rfl rfl) ?_
       refine fM (a0p ax ay aj c1a az ak aA) 9 6 (by kernel_rfl) rfl (fun _ _ _ h=>h) rfl rfl rfl rfl rfl HS.b0 rfl rfl aYp aYn rfl rfl ?_
       refine J1 10 (by kernel_rfl) ?_
       refine ai.cZ rfl rfl rfl rfl rfl rfl rfl aYF (ZP HT HB HS (HS.at_ 20 rfl) (HS.at_ 19 rfl) (HS.at_ 22 rfl) (by omega) gV (by grind)) rfl (fun aVr aXL awh => ?_) ai.nil
       obtain ⟨rfl,HS⟩:=awh
       refine ⟨HS.b0,?_⟩
       refine Dv (.bool false) 11 rfl HS.b0 (fun a ha w=>gB (ha.ev rfl) (ha.ev rfl)) ?_
       refine Dv (.bool false) 12 rfl HS.b0 (fun a ha w=>TC (ha.ev rfl) (ha.ev rfl) aY1 rfl) ?_
       refine Dv (.bool false) 13 rfl HS.b0 (fun a ha w=>run_move (ha.ev rfl)) ?_
       refine Dg (.iface 74 (.int .i64 16)) 14 rfl HS.b0 (fun a ha w=>run_move (ha.ev rfl)) ?_
       refine Dg (.bool false) 15 rfl HS.b0 (fun a ha w=>Qg (ha.ev rfl) rfl aYA) ?_
       refine Dg (.bool false) 16 rfl HS.b0 (fun a ha w=>run_move (ha.ev rfl)) ?_
       refine Jp 17 (by kernel_rfl) rfl rfl (fun _ _ _ h=>h) rfl rfl rfl rfl rfl HS.b0 ?_
       refine Jp 18 (by kernel_rfl) rfl rfl (fun _ _ _ h=>h) rfl rfl rfl rfl rfl HS.b0 ?_
       refine Jp 20 (by kernel_rfl) rfl rfl (fun _ _ _ h=>h) rfl rfl rfl rfl rfl HS.b0 ?_
       refine Jp 21 (by kernel_rfl) rfl rfl (fun _ _ _ h=>h) rfl rfl rfl rfl rfl HS.b0 ?_
       refine J1 19 (by kernel_rfl) ?_
       refine ai.pass rfl rfl rfl rfl rfl rfl rfl rfl rfl rfl ?_ ai.nil
       refine ⟨HS.b0,?_⟩
       refine J1 22 (by kernel_rfl) ?_
       refine ai.pass rfl rfl rfl rfl rfl rfl rfl rfl rfl rfl ?_ ai.nil
       refine ⟨HS.b0,?_⟩
       refine Jp 23 (by kernel_rfl) rfl rfl (fun _ _ _ h=>h) rfl rfl rfl rfl rfl HS.b0 ?_
       refine Dg (.bool false) 24 rfl HS.b0 (fun a ha w=>gB (ha.ev rfl) (ha.ev rfl)) ?_
       refine Dv (.bool false) 25 rfl HS.b0 (fun a ha w=>gB (ha.ev rfl) (ha.ev rfl)) ?_
       refine JR.next (by kernel_rfl) (fun _ _ h=>h) ?_
       refine JC.jA rfl ?_
       refine JC.jF (fun _ _ h=>h) ?_
       refine JC.seq ?_
       refine JC.region ?_
       refine JL.load (a0r ax ay aj c1a az ak aA aB aC n1b aG aF au aH) HS 6 rfl rfl rfl aYq aYo rfl rfl ?_
       refine JL.load (a0r aP aQ aK aS aU aN aY aV aW aO aX aZ aT bf) HS 5 rfl rfl rfl aYq aYo rfl rfl ?_
       by_cases acI:0 < aI∨aJ < 0
       ·skip
        refine JL.call rfl rfl aYX (TP HT HB HS (HS.at_ 22 rfl) (HS.at_ 21 rfl) (HS.at_ 20 rfl) (HS.at_ 19 rfl) (by omega) acI fE gV) (fun v76 w76 awj => ?_)
        obtain ⟨aeG,aaH,adP,abL,aa7,ads,ab9,aeH,aaI,adQ,abM,aa8,adt,acd,rfl,HS⟩:=awj
        refine Lv (.tuple #[(a0r aeG aaH adP abL aa7 ads ab9 aeH aaI adQ abM aa8 adt acd),.nilIface]) (fun a ha=>run_move (ha.ev rfl)) ?_
        refine Lv (a0r aeG aaH adP abL aa7 ads ab9 aeH aaI adQ abM aa8 adt acd) (fun a ha=>bK (ha.ev rfl) rfl) ?_
        refine Lv (.nilIface) (fun a ha=>bK (ha.ev rfl) rfl) ?_
        refine JL.alloc (vs:=cO) HS rfl aYt rfl rfl (fun g77 w77 HS => ?_)
        refine JL.store HS rfl rfl (i:=0) rfl aYo rfl rfl rfl (vs':=(a0s aeG aaH adP abL aa7 ads ab9 aeH aaI adQ abM aa8 adt acd)) rfl rfl (fun w78 HS => ?_)
        refine Lv (.nilIface) (fun a ha=>run_assign (ha.ev rfl)) ?_
        refine jn ?_
        refine JC.seq ?_
        refine JC.seq ?_
        refine JC.region ?_
        refine Lv (.nilIface) (fun a ha=>run_move (ha.ev rfl)) ?_
        refine Lv (.bool false) (fun a ha=>JK (ha.ev rfl) rfl aYA) ?_
        refine jn ?_
        refine JC.jA rfl ?_
        refine JC.jF (fun _ _ h=>h) ?_
        refine JC.seq ?_
        refine JC.region ?_
        refine JL.load (a0p qY pY qQ qw qj qL qG) HS 3 rfl rfl rfl aYp aYn rfl rfl ?_
        refine JL.load (a0p qZ qf qR qA ql qM qH) HS 2 rfl rfl rfl aYp aYn rfl rfl ?_
        refine JL.call rfl rfl a0f (acp HT HB HS (HS.at_ 18 rfl) (HS.at_ 17 rfl) (by omega) (adR acI hy1 hy2)) (fun v79 w79 agB => ?_)
        obtain ⟨s79,A79,n79,c79,B79,m79,d79,rfl,HS⟩:=agB
        refine Lv (.tuple #[(a0p s79 A79 n79 c79 B79 m79 d79),.nilIface]) (fun a ha=>run_move (ha.ev rfl)) ?_
        refine Lv (a0p s79 A79 n79 c79 B79 m79 d79) (fun a ha=>bK (ha.ev rfl) rfl) ?_
        refine Lv (.nilIface) (fun a ha=>bK (ha.ev rfl) rfl) ?_
        refine JL.alloc (vs:=bU) HS rfl aYs rfl rfl (fun g80 w80 HS => ?_)
        refine JL.store HS rfl rfl (i:=0) rfl aYn rfl rfl rfl (vs':=(a0q s79 A79 n79 c79 B79 m79 d79)) rfl rfl (fun w81 HS => ?_)
        refine Lv (.nilIface) (fun a ha=>run_assign (ha.ev rfl)) ?_
        refine jn ?_
        refine JC.seq ?_
        refine JC.region ?_
        refine Lv (.nilIface) (fun a ha=>run_move (ha.ev rfl)) ?_
        refine Lv (.bool true) (fun a ha=>Fa (ha.ev rfl) rfl aYA) ?_
        refine Lv (.bool true) (fun a ha=>run_move (ha.ev rfl)) ?_
        refine Lg (a0r aeG aaH adP abL aa7 ads ab9 aeH aaI adQ abM aa8 adt acd) (fun a ha=>gU (ha.ev rfl) aYq aYo (HS.box _ (.tail _ (.head _))) rfl rfl) ?_
        refine Lg (a0p s79 A79 n79 c79 B79 m79 d79) (fun a ha=>gU (ha.ev rfl) aYp aYn (HS.box _ (.head _)) rfl rfl) ?_
        refine JL.cZ rfl rfl rfl rfl rfl rfl aYF (Dn HT HB HS (HS.at_ 1 rfl) (HS.at_ 2 rfl) (HS.at_ 0 rfl) (by omega) (Om fE (EO gV acI)) (ack acI hx1 hx2 hy1 hy2)) (fun v82 w82 agD => ?_)
        obtain ⟨rfl,HS⟩:=agD
        refine Lv (.bool true) (fun a ha=>eY (ha.ev rfl) (ha.ev rfl)) ?_
        refine Lv (.bool true) (fun a ha=>run_assign (ha.ev rfl)) ?_
        refine jn ?_
        refine JC.ret (fun a ha => ?_)
        repeat (first | refine dh ?_ | refine df ?_)
        refine fG (v := .bool true) ha Tryz.results8 (.tmp rfl) ⟨_,rfl,?_⟩
        exact ⟨rfl,HS.gy 9 30 rfl rfl⟩
       ·skip
        refine JL.call rfl rfl aYX (VG HT HB HS (HS.at_ 22 rfl) (HS.at_ 21 rfl) (HS.at_ 20 rfl) (HS.at_ 19 rfl) (by omega) (by grind) fE gV) (fun v83 w83 awn => ?_)
        obtain ⟨rfl,HS⟩:=awn
        refine Lv (.tuple #[fO,.iface 74 (.int .i64 8)]) (fun a ha=>run_move (ha.ev rfl)) ?_
        refine Lv fO (fun a ha=>bK (ha.ev rfl) rfl) ?_
        refine Lv (.iface 74 (.int .i64 8)) (fun a ha=>bK (ha.ev rfl) rfl) ?_
        refine JL.alloc (vs:=cO) HS rfl aYt rfl rfl (fun g84 w84 HS => ?_)
        refine JL.store HS rfl rfl (i:=0) rfl aYo rfl rfl rfl (vs':=cO) rfl rfl (fun w85 HS => ?_)
        refine Lv (.iface 74 (.int .i64 8)) (fun a ha=>run_assign (ha.ev rfl)) ?_
        refine jn ?_
        refine JC.seq ?_
        refine JC.seq ?_
        refine JC.region ?_
        refine Lv (.iface 74 (.int .i64 8)) (fun a ha=>run_move (ha.ev rfl)) ?_
        refine Lv (.bool true) (fun a ha=>Zo (ha.ev rfl) rfl aYA) ?_
        refine jn ?_
        refine JC.iy rfl ?_
        refine JC.seq ?_
        refine JC.region ?_
        refine Lv (.iface 74 (.int .i64 8)) (fun a ha=>run_move (ha.ev rfl)) ?_
        refine JL.call rfl rfl aZL (Yj HT HB HS (z1:=8) (by decide) (by decide)) (fun v86 w86 agE => ?_)
        obtain ⟨rfl,HS⟩:=agE
        refine Lv (.bool true) (fun a ha=>run_move (ha.ev rfl)) ?_
        refine Lg (a0r aP aQ aK aS aU aN aY aV aW aO aX aZ aT bf) (fun a ha=>gU (ha.ev rfl) aYq aYo (HS.box _ (.tail _ (.tail _ (.tail _ (.tail _ (.tail _ (.tail _ (.head _)))))))) rfl rfl) ?_
        refine Lg yw (fun a ha=>bZ.run_build (vs:=[]) (by simp only [List.map_cons,List.map_nil]) aYx aYs Dh rfl) ?_
        refine JL.cZ rfl rfl rfl rfl rfl rfl aYF (Dn HT HB HS (HS.at_ 20 rfl) (HS.at_ 19 rfl) (FV.zero 0 _) (by omega) gV (by grind)) (fun v87 w87 awp => ?_)
        obtain ⟨rfl,HS⟩:=awp
        refine Lv (.bool true) (fun a ha=>eY (ha.ev rfl) (ha.ev rfl)) ?_
        refine Lv (.bool true) (fun a ha=>run_assign (ha.ev rfl)) ?_
        refine jn ?_
        refine JC.ret (fun a ha => ?_)
        repeat (first | refine dh ?_ | refine df ?_)
        refine fG (v := .bool true) ha Tryz.results8 (.tmp rfl) ⟨_,rfl,?_⟩
        exact ⟨rfl,HS.gy 8 27 rfl rfl⟩
theorem aAe {o6 o7:Int} {ax:Bool} {ay:Option Addr} {aj c1a:Nat} {az:Option Addr} {ak aA:Nat} {af:Rat} {bC:Nat} {bu:Bool} {aB:Bool} {aC:Option Addr} {n1b aG:Nat} {aF:Option Addr} {au aH:Nat} {ah:Rat} {bD:Nat} {bn:Bool} {aP:Bool} {aQ:Option Addr} {aK aS:Nat} {aU:Option Addr} {aN aY:Nat} {aI:Rat} {bM:Nat} {bT:Bool} {aV:Bool} {aW:Option Addr} {aO aX:Nat} {aZ:Option Addr} {aT bf:Nat} {aJ:Rat} {bP:Nat} {bQ:Bool} (W:World) (ht:Tz W) (hb:Tab W) (_hx:Mx W) (f1a:fJ W ⟨(a0p ax ay aj c1a az ak aA),af,bC,bu⟩) (bI:fJ W ⟨(a0p aB aC n1b aG aF au aH),ah,bD,bn⟩) (fC:fJ W ⟨(a0p aP aQ aK aS aU aN aY),aI,bM,bT⟩) (fD:fJ W ⟨(a0p aV aW aO aX aZ aT bf),aJ,bP,bQ⟩) (TU:(Lit.int .u8 o6).wf=true) (TV:(Lit.int .u8 o7).wf=true) :
  Calls Tryz.prog 8 #[(a0r ax ay aj c1a az ak aA aB aC n1b aG aF au aH),(a0r aP aQ aK aS aU aN aY aV aW aO aX aZ aT bf),.agg #[.int .u8 o6,.int .u8 o7]] W fun e w'=>e = .returned (.bool true)∧Below W.heap.size W w':=law_true (aAf ht hb (St.init W) f1a bI fC fD (TK TU) (TK TV))
end
end Go.Proofs.YtbihljnjaondcaaGreatDoor
