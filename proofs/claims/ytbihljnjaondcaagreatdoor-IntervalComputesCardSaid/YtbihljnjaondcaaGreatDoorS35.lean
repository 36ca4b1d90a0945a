/- Part of a proof, said shortly. -/
import Derived.Deep.RegionWith
import Derived.Test.YtbihljnjaondcaaGreatDoorAlz
import Derived.Test.YtbihljnjaondcaaGreatDoorC20
import Derived.Test.YtbihljnjaondcaaGreatDoorS5
import Derived.Test.YtbihljnjaondcaaGreatDoorS26
import Derived.Test.YtbihljnjaondcaaGreatDoorC16
import Derived.Test.YtbihljnjaondcaaGreatDoorS6
import Derived.Test.YtbihljnjaondcaaGreatDoorS18
import Derived.Test.YtbihljnjaondcaaGreatDoorC14
import Derived.Test.YtbihljnjaondcaaGreatDoorC13
import Derived.Test.YtbihljnjaondcaaGreatDoorC12
import Derived.Test.YtbihljnjaondcaaGreatDoorC11
import Derived.Test.YtbihljnjaondcaaGreatDoorC10
import Derived.Test.YtbihljnjaondcaaGreatDoorC6
import Derived.Test.YtbihljnjaondcaaGreatDoorC2
import Derived.Test.YtbihljnjaondcaaGreatDoorC1
import Derived.Test.YtbihljnjaondcaaGreatDoorC5
import Derived.Test.YtbihljnjaondcaaGreatDoorC4
import Derived.Test.YtbihljnjaondcaaGreatDoorC3
import Derived.Test.YtbihljnjaondcaaGreatDoorC9
import Derived.Test.YtbihljnjaondcaaGreatDoorC8
import Derived.Test.YtbihljnjaondcaaGreatDoorC7
import Derived.Test.YtbihljnjaondcaaGreatDoorS7
import Derived.Test.YtbihljnjaondcaaGreatDoorC19
import Derived.Test.YtbihljnjaondcaaGreatDoorC18
import Derived.Test.YtbihljnjaondcaaGreatDoorC17
import Derived.Test.YtbihljnjaondcaaGreatDoorS11
import Derived.Test.YtbihljnjaondcaaGreatDoorS25
import Derived.Test.YtbihljnjaondcaaGreatDoorC15
import Derived.Test.YtbihljnjaondcaaGreatDoorS1
import Derived.Test.YtbihljnjaondcaaGreatDoorS9
import Derived.Test.YtbihljnjaondcaaGreatDoorC21
import Derived.Test.YtbihljnjaondcaaGreatDoorS2
import Derived.Test.YtbihljnjaondcaaGreatDoorS24
import Derived.Test.YtbihljnjaondcaaGreatDoorS14
import Derived.Test.YtbihljnjaondcaaGreatDoorC25
set_option maxRecDepth 100000
open Go.Proofs.YtbihljnjaondcaaGreatDoor (a0p a0q a0r a0s yw bU fO cO PS iy1 PT FX iy4 iy5 iy6 Yo iy8 iy9 aAJ)
set_option linter.unusedVariables false
set_option linter.unusedSimpArgs false
namespace Go.Proofs.YtbihljnjaondcaaGreatDoor
open Go Go.RowKit Lw
section
variable {W0 w:World} {bs:List Bx} {L:List En} {ts:List Bt} {M:List Qn} {s s':Bool} {A A' B B':Option Addr} {n c n' c' m d m' d' k k':Nat} {q r:Rat} {x y:Int} {b b':Bool}
theorem ax8 (q r:Rat):q*r⁻¹=Rat.divInt (q.num*(r.den:Int)) ((q.den:Int)*r.num):=by
 have h:=Rat.divInt_mul_divInt q.num (r.den:Int) (d₁:=(q.den:Int)) (d₂:=r.num)
 rw [Rat.num_divInt_den,← Rat.inv_def] at h
 exact h
set_option maxRecDepth 100000 in
set_option maxHeartbeats 3200000 in
theorem aEl (HE:bG W0 w bs L ts M) (h:⟨.agg #[.bool s,.slice A n c,.slice A' n' c'],q,k,b⟩∈M) (h':⟨.agg #[.bool s',.slice B m d,.slice B' m' d'],r,k',b'⟩∈M) (hk:k+k'≤900) (hr:r≠0) :
  Calls Tryz.prog 95 #[.agg #[.bool s,.slice A n c,.slice A' n' c'],.agg #[.bool s',.slice B m d,.slice B' m' d']] w (fun e w' => ∃ (s:Bool) (A:Option Addr) (n c:Nat) (A':Option Addr) (n' c':Nat),e = .returned (.tuple #[.agg #[.bool s,.slice A n c,.slice A' n' c'],.int .i64 0])∧bG W0 w' bs L ts (⟨.agg #[.bool s,.slice A n c,.slice A' n' c'],q*r⁻¹,2*k+2*k'+12,true⟩ :: M)):=by
 refine Calls.mono (R:=(fun e w' => ∃ (s:Bool) (A:Option Addr) (n c:Nat) (A':Option Addr) (n' c':Nat),e = .returned (.tuple #[.agg #[.bool s,.slice A n c,.slice A' n' c'],.int .i64 0])∧bG w w' [] L [] (⟨.agg #[.bool s,.slice A n c,.slice A' n' c'],q*r⁻¹,2*k+2*k'+12,true⟩ :: M))) ?_ fun _ _ hh=>by obtain ⟨s,A,n,c,A',n',c',e1,he⟩:=hh; exact ⟨s,A,n,c,A',n',c',e1,HE.back he⟩
 have HD:=Lib.hid (Int.mul_ne_zero (tJ q) (fun e=>hr (Rat.num_eq_zero.1 e)))
 have HV:=Lib.hid (ax8 q r)
 clear hr
 replace HE:=((HE.here.gQ (.bool s) (.slice A n c) (.slice A' n' c')).gQ (.bool s') (.slice B m d) (.slice B' m' d')).gQ (.bool false) (.slice none 0 0) (.slice none 0 0)
 simp only [World.size_alloc] at HE
 obtain ⟨q0,q1,q2,q3,q4,q5⟩:=HE.c3 (.head _)
 obtain ⟨q6,q7,q8,q9,q10,q11⟩:=HE.c3 (.tail _ (.head _))
 obtain ⟨q12,q13,jC,jD,q16,jE⟩:=HE.c3 (.tail _ (.tail _ (.head _)))
 go_enter Tryz.func95,Tryz.ntmps95
 go_wp2_with fail
 refine (KX HE h (by omega)).mono ?_
 clear HE
 rintro e w1 ⟨s1,D1,m1,d1,s2,D2,m2,d2,rfl,HE⟩
 replace HE:=(HE.fF (.bool s1) (.slice D1 m1 d1)).fF (.bool s2) (.slice D2 m2 d2)
 simp only [World.size_alloc] at HE
 clear q0 q1 q2 q3 q4 q5 q6 q7 q8 q9 q10 q11 q12 q13 jC jD q16 jE
 obtain ⟨kL,kM,lH,lI⟩:=HE.c2 (.head _)
 obtain ⟨q22,q23,q24,mG⟩:=HE.c2 (.tail _ (.head _))
 obtain ⟨mX,mY,nV,nX,q30,nY⟩:=HE.c3 (.head _)
 obtain ⟨q32,og,pg,q35,vS,q37⟩:=HE.c3 (.tail _ (.head _))
 obtain ⟨wG,wX,wY,wZ,xA,xB⟩:=HE.c3 (.tail _ (.tail _ (.head _)))
 go_wp2_with fail
 refine (KX HE h' (by omega)).mono ?_
 clear HE
 rintro e w2 ⟨s3,D3,m3,d3,s4,D4,m4,d4,rfl,HE⟩
 replace HE:=(HE.fF (.bool s3) (.slice D3 m3 d3)).fF (.bool s4) (.slice D4 m4 d4)
 simp only [World.size_alloc] at HE
 clear kL kM lH lI q22 q23 q24 mG mX mY nV nX q30 nY q32 og pg q35 vS q37 wG wX wY wZ xA xB
 obtain ⟨yG,yH,yI,yJ⟩:=HE.c2 (.head _)
 obtain ⟨zq,zu,zx,zy⟩:=HE.c2 (.tail _ (.head _))
 obtain ⟨zA,zB,He,Hg⟩:=HE.c2 (.tail _ (.tail _ (.head _)))
 obtain ⟨Jq,Jr,Js,Jt⟩:=HE.c2 (.tail _ (.tail _ (.tail _ (.head _))))
 obtain ⟨Ju,Jw,Jy,Jz,JA,JB⟩:=HE.c3 (.head _)
 obtain ⟨JD,JE,JF,JG,JH,JI⟩:=HE.c3 (.tail _ (.head _))
 obtain ⟨KP,KQ,KR,KT,KU,KW⟩:=HE.c3 (.tail _ (.tail _ (.head _)))
 go_wp2_with fail
 go_region_held3 (fun w'=>w'.cell? ⟨w1.heap.size,0,none⟩=some (.bool s1)∧w'.cell? ⟨w1.heap.size,1,none⟩=some (.slice D1 m1 d1)∧w'.cell? ⟨w1.heap.size+1,0,none⟩=some (.bool s2)∧w'.cell? ⟨w1.heap.size+1,1,none⟩=some (.slice D2 m2 d2)∧w'.cell? ⟨w2.heap.size,0,none⟩=some (.bool s3)∧w'.cell? ⟨w2.heap.size,1,none⟩=some (.slice D3 m3 d3)∧w'.cell? ⟨w2.heap.size+1,0,none⟩=some (.bool s4)∧w'.cell? ⟨w2.heap.size+1,1,none⟩=some (.slice D4 m4 d4)) (first | exact ⟨(HE.c2 (.tail _ (.tail _ (.tail _ (.head _))))).1,(HE.c2 (.tail _ (.tail _ (.tail _ (.head _))))).2.1,(HE.c2 (.tail _ (.tail _ (.head _)))).1,(HE.c2 (.tail _ (.tail _ (.head _)))).2.1,(HE.c2 (.tail _ (.head _))).1,(HE.c2 (.tail _ (.head _))).2.1,(HE.c2 (.head _)).1,(HE.c2 (.head _)).2.1⟩ | exact ⟨(HE.drew.c2 (.tail _ (.tail _ (.tail _ (.head _))))).1,(HE.drew.c2 (.tail _ (.tail _ (.tail _ (.head _))))).2.1,(HE.drew.c2 (.tail _ (.tail _ (.head _)))).1,(HE.drew.c2 (.tail _ (.tail _ (.head _)))).2.1,(HE.drew.c2 (.tail _ (.head _))).1,(HE.drew.c2 (.tail _ (.head _))).2.1,(HE.drew.c2 (.head _)).1,(HE.drew.c2 (.head _)).2.1⟩ | exact ⟨(HK.c2 (.tail _ (.tail _ (.tail _ (.head _))))).1,(HK.c2 (.tail _ (.tail _ (.tail _ (.head _))))).2.1,(HK.c2 (.tail _ (.tail _ (.head _)))).1,(HK.c2 (.tail _ (.tail _ (.head _)))).2.1,(HK.c2 (.tail _ (.head _))).1,(HK.c2 (.tail _ (.head _))).2.1,(HK.c2 (.head _)).1,(HK.c2 (.head _)).2.1⟩)
  (first
   | (go_at_call 100; refine (aef (by with_reducible first | exact HE | exact HE.drew) (by repeat (first | exact .head _ | assumption | refine .tail _ ?_)) (by repeat (first | exact .head _ | assumption | refine .tail _ ?_)) (by omega)).mono ?_; rintro e wn ⟨sx,Ax,nx,cx,rfl,HE⟩)
   | (go_at_call 101; refine (ajd (by with_reducible first | exact HE | exact HE.drew) (by repeat (first | exact .head _ | assumption | refine .tail _ ?_)) (by repeat (first | exact .head _ | assumption | refine .tail _ ?_)) (by omega) HD.out).mono ?_; rintro e wn ⟨sx,Ax,nx,cx,Ay,ny,cy,rfl,HE⟩; have HK:=HE.tK (D:=Ax) (m:=nx) (d:=cx) (.head _) sx (.slice Ay ny cy); obtain ⟨z0,z1,z2,z3,z4,z5⟩:=HE.c3 (.head _)))
 go_wp2_with fail
 refine bodyPost_ret (v := .tuple #[.agg #[.bool sx,.slice Ax nx cx,.slice Ay ny cy],.int .i64 0]) (by simp [results,Tryz.results95,go_sem,z0,z1,z2]) rfl ?_
 rw [HV.out]
 exact ⟨_,_,_,_,_,_,_,rfl,(HK.bare.pick (fun e he => .tail _ (.tail _ (.tail _ (.tail _ (.tail _ (.tail _ (he))))))) (fun _ he=>he)).hd (·.weak (by omega))⟩
end
end Go.Proofs.YtbihljnjaondcaaGreatDoor
namespace Go.Proofs.YtbihljnjaondcaaGreatDoor
open Go Go.RowKit Lw bZ
section
variable {W0 w w':World} {U:List Box} {Ps:List (World→Prop)} {v v':Value} {q r:Rat} {x y:Int} {k k':Nat} {b b':Bool} {f:FuncId} {vs:List Value} {L:List En} {M:List Qn}
theorem Vl (HT:Tz W0) (HB:Tab W0) (HS:St W0 U Ps w) {s1:Bool} {A1:Option Addr} {n1 c1:Nat} {B1:Option Addr} {m1 d1:Nat} {q1:Rat} {k1:Nat} {b1:Bool} {s2:Bool} {A2:Option Addr} {n2 c2:Nat} {B2:Option Addr} {m2 d2:Nat} {q2:Rat} {k2:Nat} {b2:Bool} (f1:FV (a0p s1 A1 n1 c1 B1 m1 d1) q1 k1 b1 w) (f2:FV (a0p s2 A2 n2 c2 B2 m2 d2) q2 k2 b2 w) (hk:k1+k2≤900) (hr:q2≠0):bY Tryz.prog 95 [(a0p s1 A1 n1 c1 B1 m1 d1),(a0p s2 A2 n2 c2 B2 m2 d2)] w (Bo W0 U Ps (q1*q2⁻¹) (2*k1+2*k2+12) (.int .i64 0)) :=
 NQ HS (aEl (((St.start HS HT HB).cons f2).cons f1) (.head _) (.tail _ (.head _)) hk hr)
end
end Go.Proofs.YtbihljnjaondcaaGreatDoor
namespace Lw
theorem aiq {q r:Rat} (h:r≤q):gY q r=r:=by rw [SH]; split <;> grind
theorem aip {q r:Rat} (h:r≤q):gX q r=q:=by rw [PW,if_neg (by grind)]
end Lw
namespace Lw
open Go Go.RowKit bZ
theorem FV.VB {u v:Value} {r:Rat} {k K:Nat} {w:World} (h:FV v (1*r⁻¹) K true w) (h2:FV u r k true w) (hr:r≠0):FV v (1*r⁻¹) (k+1) true w:=by
 have h3:=fJ.lt h2
 obtain ⟨e1,_,e2,_,_⟩:=apx hr
 have h4:pw k≤pw (k+1):=uX (by omega)
 exact Go.Proofs.YtbihljnjaondcaaGreatDoor.fJ.tight h (by rw [Rat.one_mul,e1]; omega) (by rw [Rat.one_mul,e2]; omega)
theorem aFE (q r s t:Rat):gY (gY (gY (gY (q+0) q) r) s) t=Be q r s t:=by rw [ajC]; rfl
theorem aFD (q r s t:Rat):gX (gX (gX (gX (q+0) q) r) s) t=hi4 q r s t:=by rw [ajB]; rfl
theorem amG {c d:Rat} (h:c≤d) (h0:0 < c∨d < 0):bV true true (gY (1*c⁻¹) (1*d⁻¹)) (gX (1*c⁻¹) (1*d⁻¹))=d⁻¹:=by
 have:=EO h h0
 rw [Rat.one_mul,Rat.one_mul,aiq this,aip this,vG this]
theorem amF {c d:Rat} (h:c≤d) (h0:0 < c∨d < 0):bW true true (gY (1*c⁻¹) (1*d⁻¹)) (gX (1*c⁻¹) (1*d⁻¹))=c⁻¹:=by
 have:=EO h h0
 rw [Rat.one_mul,Rat.one_mul,aiq this,aip this,vF this]
theorem az0 {a b c d:Rat} (h1:a≤b) (h2:c≤d):Be a b c d=gY a c:=by
 unfold Be
 rw [adx h1]
 have:=Ol a c
 exact adx (by grind)
theorem azX {a b c d:Rat} (h1:a≤b) (h2:c≤d):hi4 a b c d=gX b d:=by
 unfold hi4
 rw [YL h1]
 rw [PW b c]
 split
 ·rw [YL h2,YL (show b≤d by grind)]
 ·rfl
theorem aA4 {a b c d:Rat} (h:d < a∨b < c):gY b d < gX a c:=by
 have h1:=Ol b d
 have h2:=PU a c
 grind
end Lw
namespace Go.Proofs.YtbihljnjaondcaaGreatDoor
open Go Go.RowKit Lw bZ
section
variable {W0 w:World} {U:List Box} {Ps:List (World→Prop)}
variable {s1:Bool} {A1:Option Addr} {n1 c1:Nat} {B1:Option Addr} {m1 d1:Nat} {s2:Bool} {A2:Option Addr} {n2 c2:Nat} {B2:Option Addr} {m2 d2:Nat} {s3:Bool} {A3:Option Addr} {n3 c3:Nat} {B3:Option Addr} {m3 d3:Nat} {s4:Bool} {A4:Option Addr} {n4 c4:Nat} {B4:Option Addr} {m4 d4:Nat}
set_option maxHeartbeats 1600000 in
theorem aq6 (HT:Tz W0) (HB:Tab W0) {g:Nat} {q1:Rat} {k1:Nat} {b1:Bool} {q2:Rat} {k2:Nat} {b2:Bool} {q3:Rat} {k3:Nat} {b3:Bool} {q4:Rat} {k4:Nat} {b4:Bool} (HS:St W0 (⟨g,24,[.bool s1,.slice A1 n1 c1,.slice B1 m1 d1,.bool s2,.slice A2 n2 c2,.slice B2 m2 d2,.bool s3,.slice A3 n3 c3,.slice B3 m3 d3,.bool s4,.slice A4 n4 c4,.slice B4 m4 d4]⟩ :: U) Ps w) (f1:FV (a0p s1 A1 n1 c1 B1 m1 d1) q1 k1 b1 w) (f2:FV (a0p s2 A2 n2 c2 B2 m2 d2) q2 k2 b2 w) (f3:FV (a0p s3 A3 n3 c3 B3 m3 d3) q3 k3 b3 w) (f4:FV (a0p s4 A4 n4 c4 B4 m4 d4) q4 k4 b4 w) (hk:k1+(k1+k2+k3+k4)≤780):bY Tryz.prog 123 [.slice (some ⟨g,0,none⟩) 4 4] w (xG W0 (⟨g,24,[.bool s1,.slice A1 n1 c1,.slice B1 m1 d1,.bool s2,.slice A2 n2 c2,.slice B2 m2 d2,.bool s3,.slice A3 n3 c3,.slice B3 m3 d3,.bool s4,.slice A4 n4 c4,.slice B4 m4 d4]⟩ :: U) Ps (Be q1 q2 q3 q4) (hi4 q1 q2 q3 q4) (k1+(k1+k2+k3+k4)+12)):=by
 have HS:=HS.add (FV.stable _ _ _ _) f1
 have HS:=HS.add (FV.stable _ _ _ _) f2
 have HS:=HS.add (FV.stable _ _ _ _) f3
 have HS:=HS.add (FV.stable _ _ _ _) f4
 clear f1 f2 f3 f4
 refine iL Tryz.func123 rfl Tryz.ntmps123 rfl ?_
 refine JC.seq ?_
 refine JC.region ?_
 refine JL.alloc (vs:=cO) HS rfl aYt rfl rfl (fun g1 w1 HS => ?_)
 refine jn ?_
 refine JC.cut (ι:=Yo) (fun ⟨jq,iT,jl,ja,iW,jh,jd,iO,iH,n2009,iJ,iI,iM,iK,gZ⟩=>[(0,.slice (some ⟨g,0,none⟩) 4 4),(2,.pointer (some ⟨g1,0,none⟩)),(3,.pointer (some ⟨gZ,0,none⟩))]) (fun ⟨jq,iT,jl,ja,iW,jh,jd,iO,iH,n2009,iJ,iI,iM,iK,gZ⟩ w=>St W0 (⟨gZ,48,(a0s jq iT jl ja iW jh jd iO iH n2009 iJ iI iM iK)⟩ :: ⟨g1,48,cO⟩ :: ⟨g,24,[.bool s1,.slice A1 n1 c1,.slice B1 m1 d1,.bool s2,.slice A2 n2 c2,.slice B2 m2 d2,.bool s3,.slice A3 n3 c3,.slice B3 m3 d3,.bool s4,.slice A4 n4 c4,.slice B4 m4 d4]⟩ :: U) (FV (a0p iO iH n2009 iJ iI iM iK) (q1+0) (k1+0+2) true :: FV (a0p jq iT jl ja iW jh jd) (q1+0) (k1+0+2) true :: FV (a0p s4 A4 n4 c4 B4 m4 d4) q4 k4 b4 :: FV (a0p s3 A3 n3 c3 B3 m3 d3) q3 k3 b3 :: FV (a0p s2 A2 n2 c2 B2 m2 d2) q2 k2 b2 :: FV (a0p s1 A1 n1 c1 B1 m1 d1) q1 k1 b1 :: Ps) w) ?_ ?_
 ·skip
  refine JC.draw HS [] (by kernel_rfl) (fun w3 HS => ?_)
  refine Dv (.slice (some ⟨g,0,none⟩) 4 4) 0 rfl HS.b0 (fun a ha w=>run_move (ha.ev rfl)) ?_
  refine Dv (.pointer (some ⟨g,0,none⟩)) 1 rfl HS.b0 (fun a ha w=>zC (ha.ev rfl) (ha.ev rfl) aYC aYn (j:=0) rfl (by decide) rfl) ?_
  refine Da (a0p s1 A1 n1 c1 B1 m1 d1) 2 1 rfl HS.b0 rfl rfl aYp aYn ?_
  refine Dv yw 3 rfl HS.b0 (fun a ha w=>bZ.run_build (vs:=[]) (by simp only [List.map_cons,List.map_nil]) aYx aYs Dh rfl) ?_
  refine Dv (.slice (some ⟨g,0,none⟩) 4 4) 5 rfl HS.b0 (fun a ha w=>run_move (ha.ev rfl)) ?_
  refine Dv (.pointer (some ⟨g,0,none⟩)) 6 rfl HS.b0 (fun a ha w=>zC (ha.ev rfl) (ha.ev rfl) aYC aYn (j:=0) rfl (by decide) rfl) ?_
  refine Da (a0p s1 A1 n1 c1 B1 m1 d1) 7 1 rfl HS.b0 rfl rfl aYp aYn ?_
  refine Dv yw 8 rfl HS.b0 (fun a ha w=>bZ.run_build (vs:=[]) (by simp only [List.map_cons,List.map_nil]) aYx aYs Dh rfl) ?_
  refine JR.any [4,11] (by kernel_rfl) rfl ?_
  refine ai.call rfl rfl rfl aYR (Bf HT HB HS (HS.at_ 3 rfl) (FV.zero 0 _) (by omega)) rfl (fun ZJ ZX Iu => ?_) ?_
  ·skip
   obtain ⟨jq,iT,jl,ja,iW,jh,jd,rfl,HS⟩:=Iu
   refine ⟨HS.b0,?_⟩
   refine JR.any [9,11] (by kernel_rfl) rfl ?_
   refine ai.call rfl rfl rfl aYR (Bf HT HB HS (HS.at_ 4 rfl) (FV.zero 0 _) (by omega)) rfl (fun Qs QB CB => ?_) ?_
   ·skip
    obtain ⟨iO,iH,n2009,iJ,iI,iM,iK,rfl,HS⟩:=CB
    refine ⟨HS.b0,?_⟩
    refine Dv (a0r jq iT jl ja iW jh jd iO iH n2009 iJ iI iM iK) 10 rfl HS.b0 (fun a ha w=>bZ.run_build (vs:=[(0,(a0p jq iT jl ja iW jh jd)),(1,(a0p iO iH n2009 iJ iI iM iK))]) (by simp only [List.map_cons,List.map_nil,ha.ev (x := .tmp 10) (v:=(a0p jq iT jl ja iW jh jd)) rfl,ha.ev (x := .tmp 15) (v:=(a0p iO iH n2009 iJ iI iM iK)) rfl]) aYr aYt pV rfl) ?_
    refine jy (vs:=cO) 11 HS rfl aYt rfl (fun gZ _ HS=>⟨HS.b1,?_⟩)
    refine bF 12 (a0s jq iT jl ja iW jh jd iO iH n2009 iJ iI iM iK) HS 0 rfl rfl rfl rfl aYo (fun _ HS=>⟨HS.b1,?_⟩)
    exact JR.mt (jq,iT,jl,ja,iW,jh,jd,iO,iH,n2009,iJ,iI,iM,iK,gZ) HS
   refine ai.alloc (vs:=cO) HS rfl rfl aYt rfl rfl rfl (fun gZ ZY HS => ?_) ai.nil
   refine ⟨HS.b1,?_⟩
   refine bJ 9 rfl rfl rfl aYR (Bf HT HB HS (HS.at_ 4 rfl) (FV.zero 0 _) (by omega)) (fun Qs QB CB => ?_)
   obtain ⟨iO,iH,n2009,iJ,iI,iM,iK,rfl,HS⟩:=CB
   refine ⟨HS.b1,?_⟩
   refine Dv (a0r jq iT jl ja iW jh jd iO iH n2009 iJ iI iM iK) 10 rfl HS.b1 (fun a ha w=>bZ.run_build (vs:=[(0,(a0p jq iT jl ja iW jh jd)),(1,(a0p iO iH n2009 iJ iI iM iK))]) (by simp only [List.map_cons,List.map_nil,ha.ev (x := .tmp 10) (v:=(a0p jq iT jl ja iW jh jd)) rfl,ha.ev (x := .tmp 15) (v:=(a0p iO iH n2009 iJ iI iM iK)) rfl]) aYr aYt pV rfl) ?_
   refine bF 12 (a0s jq iT jl ja iW jh jd iO iH n2009 iJ iI iM iK) HS 0 rfl rfl rfl rfl aYo (fun _ HS=>⟨HS.b1,?_⟩)
   exact JR.mt (jq,iT,jl,ja,iW,jh,jd,iO,iH,n2009,iJ,iI,iM,iK,gZ) HS
  refine ai.alloc (vs:=cO) HS rfl rfl aYt rfl rfl rfl (fun gZ ZY HS => ?_) ai.nil
  refine ⟨HS.b1,?_⟩
  refine bJ 4 rfl rfl rfl aYR (Bf HT HB HS (HS.at_ 3 rfl) (FV.zero 0 _) (by omega)) (fun ZJ ZX Iu => ?_)
  obtain ⟨jq,iT,jl,ja,iW,jh,jd,rfl,HS⟩:=Iu
  refine ⟨HS.b1,?_⟩
  refine bJ 9 rfl rfl rfl aYR (Bf HT HB HS (HS.at_ 4 rfl) (FV.zero 0 _) (by omega)) (fun Qs QB CB => ?_)
  obtain ⟨iO,iH,n2009,iJ,iI,iM,iK,rfl,HS⟩:=CB
  refine ⟨HS.b1,?_⟩
  refine Dv (a0r jq iT jl ja iW jh jd iO iH n2009 iJ iI iM iK) 10 rfl HS.b1 (fun a ha w=>bZ.run_build (vs:=[(0,(a0p jq iT jl ja iW jh jd)),(1,(a0p iO iH n2009 iJ iI iM iK))]) (by simp only [List.map_cons,List.map_nil,ha.ev (x := .tmp 10) (v:=(a0p jq iT jl ja iW jh jd)) rfl,ha.ev (x := .tmp 15) (v:=(a0p iO iH n2009 iJ iI iM iK)) rfl]) aYr aYt pV rfl) ?_
  refine bF 12 (a0s jq iT jl ja iW jh jd iO iH n2009 iJ iI iM iK) HS 0 rfl rfl rfl rfl aYo (fun _ HS=>⟨HS.b1,?_⟩)
  exact JR.mt (jq,iT,jl,ja,iW,jh,jd,iO,iH,n2009,iJ,iI,iM,iK,gZ) HS
 ·skip
  rintro ⟨jq,iT,jl,ja,iW,jh,jd,iO,iH,n2009,iJ,iI,iM,iK,gZ⟩ ati HS
  try dsimp only at HS ⊢
  refine JC.seq ?_
  refine JC.seq ?_
  refine JC.region ?_
  refine Lv (.slice (some ⟨g,0,none⟩) 4 4) (fun a ha=>run_move (ha.ev rfl)) ?_
  refine Lv (.int .i64 4) (fun a ha=>yV (ha.ev rfl) aYC) ?_
  refine Lv (.int .i64 0) (fun a ha=>run_move (ha.ev rfl)) ?_
  refine jn ?_
  refine JC.block ?_
  refine JC.Qr 40 ?_
  refine JC.seq ?_
  refine JC.region ?_
  refine Lv (.bool true) (fun a ha=>qX (ha.ev rfl) (ha.ev rfl) (by decide)) ?_
  refine jn ?_
  refine JC.seq ?_
  refine JC.iy rfl ?_
  refine JC.jF (fun _ _ h=>h) ?_
  refine JC.seq ?_
  refine JC.block ?_
  refine JC.seq ?_
  refine JC.region ?_
  refine Lv (.pointer (some ⟨g,0,none⟩)) (fun a ha=>zC (ha.ev rfl) (ha.ev rfl) aYC aYn (j:=0) rfl (by decide) rfl) ?_
  refine JL.load (a0p s1 A1 n1 c1 B1 m1 d1) HS 2 rfl rfl rfl aYp aYn rfl rfl ?_
  refine JL.alloc (vs:=bU) HS rfl aYs rfl rfl (fun g4 w4 HS => ?_)
  refine JL.store HS rfl rfl (i:=0) rfl aYn rfl rfl rfl (vs':=(a0q s1 A1 n1 c1 B1 m1 d1)) rfl rfl (fun w5 HS => ?_)
  refine jn ?_
  refine JC.IL (ι:=PS) (fun ⟨jw,iV,jo,jc,iZ,jk,jf,rq,qh,qV,qC,qo,qO,qJ⟩=>[(0,.slice (some ⟨g,0,none⟩) 4 4),(2,.pointer (some ⟨g1,0,none⟩)),(3,.pointer (some ⟨gZ,0,none⟩)),(5,.pointer (some ⟨g4,0,none⟩)),(17,.slice (some ⟨g,0,none⟩) 4 4),(18,.int .i64 4),(19,.int .i64 0),(20,.bool true),(21,.pointer (some ⟨g,0,none⟩)),(22,(a0p s1 A1 n1 c1 B1 m1 d1))]) (fun ⟨jw,iV,jo,jc,iZ,jk,jf,rq,qh,qV,qC,qo,qO,qJ⟩ w=>St W0 (⟨g4,24,(a0q s1 A1 n1 c1 B1 m1 d1)⟩ :: ⟨gZ,48,(a0s jw iV jo jc iZ jk jf rq qh qV qC qo qO qJ)⟩ :: ⟨g1,48,cO⟩ :: ⟨g,24,[.bool s1,.slice A1 n1 c1,.slice B1 m1 d1,.bool s2,.slice A2 n2 c2,.slice B2 m2 d2,.bool s3,.slice A3 n3 c3,.slice B3 m3 d3,.bool s4,.slice A4 n4 c4,.slice B4 m4 d4]⟩ :: U) (FV (a0p rq qh qV qC qo qO qJ) (gX (q1+0) q1) ((k1+0+2)+k1+2) true :: FV (a0p jw iV jo jc iZ jk jf) (gY (q1+0) q1) ((k1+0+2)+k1+2) true :: FV (a0p iO iH n2009 iJ iI iM iK) (q1+0) (k1+0+2) true :: FV (a0p jq iT jl ja iW jh jd) (q1+0) (k1+0+2) true :: FV (a0p s4 A4 n4 c4 B4 m4 d4) q4 k4 b4 :: FV (a0p s3 A3 n3 c3 B3 m3 d3) q3 k3 b3 :: FV (a0p s2 A2 n2 c2 B2 m2 d2) q2 k2 b2 :: FV (a0p s1 A1 n1 c1 B1 m1 d1) q1 k1 b1 :: Ps) w) ?_ ?_
  ·skip
   refine JC.draw HS [9,11] (by kernel_rfl) (fun w8 HS => ?_)
   refine Dv (.pointer (some ⟨gZ,0,none⟩)) 0 rfl HS.b0 (fun a ha w=>bH (ha.ev rfl) aYr rfl aYn rfl rfl) ?_
   refine Da (a0p jq iT jl ja iW jh jd) 1 1 rfl HS.b0 rfl rfl aYp aYn ?_
   refine Da (a0p s1 A1 n1 c1 B1 m1 d1) 2 0 rfl HS.b0 rfl rfl aYp aYn ?_
   refine Dv (.pointer (some ⟨gZ,3,none⟩)) 4 rfl HS.b0 (fun a ha w=>bH (ha.ev rfl) aYr rfl aYn rfl rfl) ?_
   refine Da (a0p iO iH n2009 iJ iI iM iK) 5 1 rfl HS.b0 rfl rfl aYp aYn ?_
   refine JR.any [3,6] (by kernel_rfl) rfl ?_
   refine ai.call rfl rfl rfl aYB (vg HT HB HS (HS.at_ 1 rfl) (HS.at_ 5 rfl) (by omega)) rfl (fun Qu QC CG => ?_) ?_
   ·skip
    obtain ⟨jw,iV,jo,jc,iZ,jk,jf,rfl,HS⟩:=CG
    refine ⟨HS.b0,?_⟩
    refine Dv (.pointer (some ⟨gZ,0,none⟩)) 8 rfl HS.b0 (fun a ha w=>bH (ha.ev rfl) aYr rfl aYn rfl rfl) ?_
    refine J1 6 (by kernel_rfl) ?_
    refine ai.load (a0p s1 A1 n1 c1 B1 m1 d1) HS 0 rfl rfl rfl rfl aYp aYn rfl rfl rfl ?_ ai.nil
    refine ⟨HS.b0,?_⟩
    refine bJ 7 rfl rfl rfl aYI (yK HT HB HS (HS.at_ 1 rfl) (HS.at_ 6 rfl) (by omega)) (fun VD QD FO => ?_)
    obtain ⟨rq,qh,qV,qC,qo,qO,qJ,rfl,HS⟩:=FO
    refine ⟨HS.b0,?_⟩
    refine bF 9 (a0s jw iV jo jc iZ jk jf iO iH n2009 iJ iI iM iK) HS 1 rfl rfl rfl rfl aYn (fun _ HS=>⟨(eX (s:=9) rfl rfl),?_⟩)
    refine Dv (.pointer (some ⟨gZ,3,none⟩)) 10 rfl (eX (s:=9) rfl rfl) (fun a ha w=>bH (ha.ev rfl) aYr rfl aYn rfl rfl) ?_
    refine bF 11 (a0s jw iV jo jc iZ jk jf rq qh qV qC qo qO qJ) HS 1 rfl rfl rfl rfl aYn (fun _ HS=>⟨(eX (s:=9) rfl rfl),?_⟩)
    exact JR.mt (jw,iV,jo,jc,iZ,jk,jf,rq,qh,qV,qC,qo,qO,qJ) HS
   refine ai.load (a0p s1 A1 n1 c1 B1 m1 d1) HS 0 rfl rfl rfl rfl aYp aYn rfl rfl rfl ?_ ai.nil
   refine ⟨HS.b0,?_⟩
   refine bJ 3 rfl rfl rfl aYB (vg HT HB HS (HS.at_ 1 rfl) (HS.at_ 5 rfl) (by omega)) (fun Qu QC CG => ?_)
   obtain ⟨jw,iV,jo,jc,iZ,jk,jf,rfl,HS⟩:=CG
   refine ⟨HS.b0,?_⟩
   refine Dv (.pointer (some ⟨gZ,0,none⟩)) 8 rfl HS.b0 (fun a ha w=>bH (ha.ev rfl) aYr rfl aYn rfl rfl) ?_
   refine bJ 7 rfl rfl rfl aYI (yK HT HB HS (HS.at_ 1 rfl) (HS.at_ 6 rfl) (by omega)) (fun VD QD FO => ?_)
   obtain ⟨rq,qh,qV,qC,qo,qO,qJ,rfl,HS⟩:=FO
   refine ⟨HS.b0,?_⟩
   refine bF 9 (a0s jw iV jo jc iZ jk jf iO iH n2009 iJ iI iM iK) HS 1 rfl rfl rfl rfl aYn (fun _ HS=>⟨(eX (s:=9) rfl rfl),?_⟩)
   refine Dv (.pointer (some ⟨gZ,3,none⟩)) 10 rfl (eX (s:=9) rfl rfl) (fun a ha w=>bH (ha.ev rfl) aYr rfl aYn rfl rfl) ?_
   refine bF 11 (a0s jw iV jo jc iZ jk jf rq qh qV qC qo qO qJ) HS 1 rfl rfl rfl rfl aYn (fun _ HS=>⟨(eX (s:=9) rfl rfl),?_⟩)
   exact JR.mt (jw,iV,jo,jc,iZ,jk,jf,rq,qh,qV,qC,qo,qO,qJ) HS
  ·skip
   rintro ⟨jw,iV,jo,jc,iZ,jk,jf,rq,qh,qV,qC,qo,qO,qJ⟩ akp HS
   try dsimp only at HS ⊢
   refine JL.EH (fun _ _ h=>h) ?_
   refine JC.region ?_
   refine Lv (.int .i64 1) (fun a ha=>BX (ha.ev rfl) (ha.ev rfl) (by decide)) ?_
   refine Lv (.int .i64 1) (fun a ha=>run_move (ha.ev rfl)) ?_
   refine JL.again 39 (fun _ _ h=>h) ?_
   refine JC.seq ?_
   refine JC.region ?_
   refine Lv (.bool true) (fun a ha=>qX (ha.ev rfl) (ha.ev rfl) (by decide)) ?_
   refine jn ?_
   refine JC.seq ?_
   refine JC.iy rfl ?_
   refine JC.jF (fun _ _ h=>h) ?_
   refine JC.seq ?_
   refine JC.block ?_
   refine JC.seq ?_
   refine JC.region ?_
   refine Lv (.pointer (some ⟨g,3,none⟩)) (fun a ha=>zC (ha.ev rfl) (ha.ev rfl) aYC aYn (j:=1) rfl (by decide) rfl) ?_
   refine JL.load (a0p s2 A2 n2 c2 B2 m2 d2) HS 3 rfl rfl rfl aYp aYn rfl rfl ?_
   refine JL.alloc (vs:=bU) HS rfl aYs rfl rfl (fun g9 w9 HS => ?_)
   refine JL.store HS rfl rfl (i:=0) rfl aYn rfl rfl rfl (vs':=(a0q s2 A2 n2 c2 B2 m2 d2)) rfl rfl (fun w10 HS => ?_)
   refine jn ?_
   refine JC.IL (ι:=PS) (fun ⟨wI,vZ,wF,wz,wu,wE,wB,xg,wK,wW,wQ,wL,wV,wR⟩=>[(0,.slice (some ⟨g,0,none⟩) 4 4),(2,.pointer (some ⟨g1,0,none⟩)),(3,.pointer (some ⟨gZ,0,none⟩)),(5,.pointer (some ⟨g9,0,none⟩)),(17,.slice (some ⟨g,0,none⟩) 4 4),(18,.int .i64 4),(19,.int .i64 1),(20,.bool true),(21,.pointer (some ⟨g,3,none⟩)),(22,(a0p s2 A2 n2 c2 B2 m2 d2)),(33,.int .i64 1)]) (fun ⟨wI,vZ,wF,wz,wu,wE,wB,xg,wK,wW,wQ,wL,wV,wR⟩ w=>St W0 (⟨g9,24,(a0q s2 A2 n2 c2 B2 m2 d2)⟩ :: ⟨g4,24,(a0q s1 A1 n1 c1 B1 m1 d1)⟩ :: ⟨gZ,48,(a0s wI vZ wF wz wu wE wB xg wK wW wQ wL wV wR)⟩ :: ⟨g1,48,cO⟩ :: ⟨g,24,[.bool s1,.slice A1 n1 c1,.slice B1 m1 d1,.bool s2,.slice A2 n2 c2,.slice B2 m2 d2,.bool s3,.slice A3 n3 c3,.slice B3 m3 d3,.bool s4,.slice A4 n4 c4,.slice B4 m4 d4]⟩ :: U) (FV (a0p xg wK wW wQ wL wV wR) (gX (gX (q1+0) q1) q2) (((k1+0+2)+k1+2)+k2+2) true :: FV (a0p wI vZ wF wz wu wE wB) (gY (gY (q1+0) q1) q2) (((k1+0+2)+k1+2)+k2+2) true :: FV (a0p rq qh qV qC qo qO qJ) (gX (q1+0) q1) ((k1+0+2)+k1+2) true :: FV (a0p jw iV jo jc iZ jk jf) (gY (q1+0) q1) ((k1+0+2)+k1+2) true :: FV (a0p iO iH n2009 iJ iI iM iK) (q1+0) (k1+0+2) true :: FV (a0p jq iT jl ja iW jh jd) (q1+0) (k1+0+2) true :: FV (a0p s4 A4 n4 c4 B4 m4 d4) q4 k4 b4 :: FV (a0p s3 A3 n3 c3 B3 m3 d3) q3 k3 b3 :: FV (a0p s2 A2 n2 c2 B2 m2 d2) q2 k2 b2 :: FV (a0p s1 A1 n1 c1 B1 m1 d1) q1 k1 b1 :: Ps) w) ?_ ?_
   ·skip
    refine JC.draw HS [9,11] (by kernel_rfl) (fun Gl HS => ?_)
    refine Dv (.pointer (some ⟨gZ,0,none⟩)) 0 rfl HS.b0 (fun a ha w=>bH (ha.ev rfl) aYr rfl aYn rfl rfl) ?_
    refine Da (a0p jw iV jo jc iZ jk jf) 1 2 rfl HS.b0 rfl rfl aYp aYn ?_
    refine Da (a0p s2 A2 n2 c2 B2 m2 d2) 2 0 rfl HS.b0 rfl rfl aYp aYn ?_
    refine Dv (.pointer (some ⟨gZ,3,none⟩)) 4 rfl HS.b0 (fun a ha w=>bH (ha.ev rfl) aYr rfl aYn rfl rfl) ?_
    refine Da (a0p rq qh qV qC qo qO qJ) 5 2 rfl HS.b0 rfl rfl aYp aYn ?_
    refine JR.any [3,6] (by kernel_rfl) rfl ?_
    refine ai.call rfl rfl rfl aYB (vg HT HB HS (HS.at_ 1 rfl) (HS.at_ 6 rfl) (by omega)) rfl (fun ajK ae4 QT => ?_) ?_
    ·skip
     obtain ⟨wI,vZ,wF,wz,wu,wE,wB,rfl,HS⟩:=QT
     refine ⟨HS.b0,?_⟩
     refine Dv (.pointer (some ⟨gZ,0,none⟩)) 8 rfl HS.b0 (fun a ha w=>bH (ha.ev rfl) aYr rfl aYn rfl rfl) ?_
     refine J1 6 (by kernel_rfl) ?_
     refine ai.load (a0p s2 A2 n2 c2 B2 m2 d2) HS 0 rfl rfl rfl rfl aYp aYn rfl rfl rfl ?_ ai.nil
     refine ⟨HS.b0,?_⟩
     refine bJ 7 rfl rfl rfl aYI (yK HT HB HS (HS.at_ 1 rfl) (HS.at_ 7 rfl) (by omega)) (fun ajL aj0 QW => ?_)
     obtain ⟨xg,wK,wW,wQ,wL,wV,wR,rfl,HS⟩:=QW
     refine ⟨HS.b0,?_⟩
     refine bF 9 (a0s wI vZ wF wz wu wE wB rq qh qV qC qo qO qJ) HS 2 rfl rfl rfl rfl aYn (fun _ HS=>⟨(eX (s:=9) rfl rfl),?_⟩)
     refine Dv (.pointer (some ⟨gZ,3,none⟩)) 10 rfl (eX (s:=9) rfl rfl) (fun a ha w=>bH (ha.ev rfl) aYr rfl aYn rfl rfl) ?_
     refine bF 11 (a0s wI vZ wF wz wu wE wB xg wK wW wQ wL wV wR) HS 2 rfl rfl rfl rfl aYn (fun _ HS=>⟨(eX (s:=9) rfl rfl),?_⟩)
     exact JR.mt (wI,vZ,wF,wz,wu,wE,wB,xg,wK,wW,wQ,wL,wV,wR) HS
    refine ai.load (a0p s2 A2 n2 c2 B2 m2 d2) HS 0 rfl rfl rfl rfl aYp aYn rfl rfl rfl ?_ ai.nil
    refine ⟨HS.b0,?_⟩
    refine bJ 3 rfl rfl rfl aYB (vg HT HB HS (HS.at_ 1 rfl) (HS.at_ 6 rfl) (by omega)) (fun ajK ae4 QT => ?_)
    obtain ⟨wI,vZ,wF,wz,wu,wE,wB,rfl,HS⟩:=QT
    refine ⟨HS.b0,?_⟩
    refine Dv (.pointer (some ⟨gZ,0,none⟩)) 8 rfl HS.b0 (fun a ha w=>bH (ha.ev rfl) aYr rfl aYn rfl rfl) ?_
    refine bJ 7 rfl rfl rfl aYI (yK HT HB HS (HS.at_ 1 rfl) (HS.at_ 7 rfl) (by omega)) (fun ajL aj0 QW => ?_)
    obtain ⟨xg,wK,wW,wQ,wL,wV,wR,rfl,HS⟩:=QW
    refine ⟨HS.b0,?_⟩
    refine bF 9 (a0s wI vZ wF wz wu wE wB rq qh qV qC qo qO qJ) HS 2 rfl rfl rfl rfl aYn (fun _ HS=>⟨(eX (s:=9) rfl rfl),?_⟩)
    refine Dv (.pointer (some ⟨gZ,3,none⟩)) 10 rfl (eX (s:=9) rfl rfl) (fun a ha w=>bH (ha.ev rfl) aYr rfl aYn rfl rfl) ?_
    refine bF 11 (a0s wI vZ wF wz wu wE wB xg wK wW wQ wL wV wR) HS 2 rfl rfl rfl rfl aYn (fun _ HS=>⟨(eX (s:=9) rfl rfl),?_⟩)
    exact JR.mt (wI,vZ,wF,wz,wu,wE,wB,xg,wK,wW,wQ,wL,wV,wR) HS
   ·skip
    rintro ⟨wI,vZ,wF,wz,wu,wE,wB,xg,wK,wW,wQ,wL,wV,wR⟩ aHw HS
    try dsimp only at HS ⊢
    refine JL.EH (fun _ _ h=>h) ?_
    refine JC.region ?_
    refine Lv (.int .i64 2) (fun a ha=>BX (ha.ev rfl) (ha.ev rfl) (by decide)) ?_
    refine Lv (.int .i64 2) (fun a ha=>run_move (ha.ev rfl)) ?_
    refine JL.again 38 (fun _ _ h=>h) ?_
    refine JC.seq ?_
    refine JC.region ?_
    refine Lv (.bool true) (fun a ha=>qX (ha.ev rfl) (ha.ev rfl) (by decide)) ?_
    refine jn ?_
    refine JC.seq ?_
    refine JC.iy rfl ?_
    refine JC.jF (fun _ _ h=>h) ?_
    refine JC.seq ?_
    refine JC.block ?_
    refine JC.seq ?_
    refine JC.region ?_
    refine Lv (.pointer (some ⟨g,6,none⟩)) (fun a ha=>zC (ha.ev rfl) (ha.ev rfl) aYC aYn (j:=2) rfl (by decide) rfl) ?_
    refine JL.load (a0p s3 A3 n3 c3 B3 m3 d3) HS 4 rfl rfl rfl aYp aYn rfl rfl ?_
    refine JL.alloc (vs:=bU) HS rfl aYs rfl rfl (fun g14 JX HS => ?_)
    refine JL.store HS rfl rfl (i:=0) rfl aYn rfl rfl rfl (vs':=(a0q s3 A3 n3 c3 B3 m3 d3)) rfl rfl (fun J4 HS => ?_)
    refine jn ?_
    refine JC.IL (ι:=PS) (fun ⟨Fe,Es,EX,EC,Ew,ES,EF,Ff,Et,EY,ED,Ey,ET,EG⟩=>[(0,.slice (some ⟨g,0,none⟩) 4 4),(2,.pointer (some ⟨g1,0,none⟩)),(3,.pointer (some ⟨gZ,0,none⟩)),(5,.pointer (some ⟨g14,0,none⟩)),(17,.slice (some ⟨g,0,none⟩) 4 4),(18,.int .i64 4),(19,.int .i64 2),(20,.bool true),(21,.pointer (some ⟨g,6,none⟩)),(22,(a0p s3 A3 n3 c3 B3 m3 d3)),(33,.int .i64 2)]) (fun ⟨Fe,Es,EX,EC,Ew,ES,EF,Ff,Et,EY,ED,Ey,ET,EG⟩ w=>St W0 (⟨g14,24,(a0q s3 A3 n3 c3 B3 m3 d3)⟩ :: ⟨g9,24,(a0q s2 A2 n2 c2 B2 m2 d2)⟩ :: ⟨g4,24,(a0q s1 A1 n1 c1 B1 m1 d1)⟩ :: ⟨gZ,48,(a0s Fe Es EX EC Ew ES EF Ff Et EY ED Ey ET EG)⟩ :: ⟨g1,48,cO⟩ :: ⟨g,24,[.bool s1,.slice A1 n1 c1,.slice B1 m1 d1,.bool s2,.slice A2 n2 c2,.slice B2 m2 d2,.bool s3,.slice A3 n3 c3,.slice B3 m3 d3,.bool s4,.slice A4 n4 c4,.slice B4 m4 d4]⟩ :: U) (FV (a0p Ff Et EY ED Ey ET EG) (gX (gX (gX (q1+0) q1) q2) q3) ((((k1+0+2)+k1+2)+k2+2)+k3+2) true :: FV (a0p Fe Es EX EC Ew ES EF) (gY (gY (gY (q1+0) q1) q2) q3) ((((k1+0+2)+k1+2)+k2+2)+k3+2) true :: FV (a0p xg wK wW wQ wL wV wR) (gX (gX (q1+0) q1) q2) (((k1+0+2)+k1+2)+k2+2) true :: FV (a0p wI vZ wF wz wu wE wB) (gY (gY (q1+0) q1) q2) (((k1+0+2)+k1+2)+k2+2) true :: FV (a0p rq qh qV qC qo qO qJ) (gX (q1+0) q1) ((k1+0+2)+k1+2) true :: FV (a0p jw iV jo jc iZ jk jf) (gY (q1+0) q1) ((k1+0+2)+k1+2) true :: FV (a0p iO iH n2009 iJ iI iM iK) (q1+0) (k1+0+2) true :: FV (a0p jq iT jl ja iW jh jd) (q1+0) (k1+0+2) true :: FV (a0p s4 A4 n4 c4 B4 m4 d4) q4 k4 b4 :: FV (a0p s3 A3 n3 c3 B3 m3 d3) q3 k3 b3 :: FV (a0p s2 A2 n2 c2 B2 m2 d2) q2 k2 b2 :: FV (a0p s1 A1 n1 c1 B1 m1 d1) q1 k1 b1 :: Ps) w) ?_ ?_
    ·skip
     refine JC.draw HS [9,11] (by kernel_rfl) (fun QA HS => ?_)
     refine Dv (.pointer (some ⟨gZ,0,none⟩)) 0 rfl HS.b0 (fun a ha w=>bH (ha.ev rfl) aYr rfl aYn rfl rfl) ?_
     refine Da (a0p wI vZ wF wz wu wE wB) 1 3 rfl HS.b0 rfl rfl aYp aYn ?_
     refine Da (a0p s3 A3 n3 c3 B3 m3 d3) 2 0 rfl HS.b0 rfl rfl aYp aYn ?_
     refine Dv (.pointer (some ⟨gZ,3,none⟩)) 4 rfl HS.b0 (fun a ha w=>bH (ha.ev rfl) aYr rfl aYn rfl rfl) ?_
     refine Da (a0p xg wK wW wQ wL wV wR) 5 3 rfl HS.b0 rfl rfl aYp aYn ?_
     refine JR.any [3,6] (by kernel_rfl) rfl ?_
     refine ai.call rfl rfl rfl aYB (vg HT HB HS (HS.at_ 1 rfl) (HS.at_ 7 rfl) (by omega)) rfl (fun aGp aG2 af0 => ?_) ?_
     ·skip
      obtain ⟨Fe,Es,EX,EC,Ew,ES,EF,rfl,HS⟩:=af0
      refine ⟨HS.b0,?_⟩
      refine Dv (.pointer (some ⟨gZ,0,none⟩)) 8 rfl HS.b0 (fun a ha w=>bH (ha.ev rfl) aYr rfl aYn rfl rfl) ?_
      refine J1 6 (by kernel_rfl) ?_
      refine ai.load (a0p s3 A3 n3 c3 B3 m3 d3) HS 0 rfl rfl rfl rfl aYp aYn rfl rfl rfl ?_ ai.nil
      refine ⟨HS.b0,?_⟩
      refine bJ 7 rfl rfl rfl aYI (yK HT HB HS (HS.at_ 1 rfl) (HS.at_ 8 rfl) (by omega)) (fun asy as2 W9 => ?_)
      obtain ⟨Ff,Et,EY,ED,Ey,ET,EG,rfl,HS⟩:=W9
      refine ⟨HS.b0,?_⟩
      refine bF 9 (a0s Fe Es EX EC Ew ES EF xg wK wW wQ wL wV wR) HS 3 rfl rfl rfl rfl aYn (fun _ HS=>⟨(eX (s:=9) rfl rfl),?_⟩)
      refine Dv (.pointer (some ⟨gZ,3,none⟩)) 10 rfl (eX (s:=9) rfl rfl) (fun a ha w=>bH (ha.ev rfl) aYr rfl aYn rfl rfl) ?_
      refine bF 11 (a0s Fe Es EX EC Ew ES EF Ff Et EY ED Ey ET EG) HS 3 rfl rfl rfl rfl aYn (fun _ HS=>⟨(eX (s:=9) rfl rfl),?_⟩)
      exact JR.mt (Fe,Es,EX,EC,Ew,ES,EF,Ff,Et,EY,ED,Ey,ET,EG) HS
     refine ai.load (a0p s3 A3 n3 c3 B3 m3 d3) HS 0 rfl rfl rfl rfl aYp aYn rfl rfl rfl ?_ ai.nil
     refine ⟨HS.b0,?_⟩
     refine bJ 3 rfl rfl rfl aYB (vg HT HB HS (HS.at_ 1 rfl) (HS.at_ 7 rfl) (by omega)) (fun aGp aG2 af0 => ?_)
     obtain ⟨Fe,Es,EX,EC,Ew,ES,EF,rfl,HS⟩:=af0
     refine ⟨HS.b0,?_⟩
     refine Dv (.pointer (some ⟨gZ,0,none⟩)) 8 rfl HS.b0 (fun a ha w=>bH (ha.ev rfl) aYr rfl aYn rfl rfl) ?_
     refine bJ 7 rfl rfl rfl aYI (yK HT HB HS (HS.at_ 1 rfl) (HS.at_ 8 rfl) (by omega)) (fun asy as2 W9 => ?_)
     obtain ⟨Ff,Et,EY,ED,Ey,ET,EG,rfl,HS⟩:=W9
     refine ⟨HS.b0,?_⟩
     refine bF 9 (a0s Fe Es EX EC Ew ES EF xg wK wW wQ wL wV wR) HS 3 rfl rfl rfl rfl aYn (fun _ HS=>⟨(eX (s:=9) rfl rfl),?_⟩)
     refine Dv (.pointer (some ⟨gZ,3,none⟩)) 10 rfl (eX (s:=9) rfl rfl) (fun a ha w=>bH (ha.ev rfl) aYr rfl aYn rfl rfl) ?_
     refine bF 11 (a0s Fe Es EX EC Ew ES EF Ff Et EY ED Ey ET EG) HS 3 rfl rfl rfl rfl aYn (fun _ HS=>⟨(eX (s:=9) rfl rfl),?_⟩)
     exact JR.mt (Fe,Es,EX,EC,Ew,ES,EF,Ff,Et,EY,ED,Ey,ET,EG) HS
    ·skip
     rintro ⟨Fe,Es,EX,EC,Ew,ES,EF,Ff,Et,EY,ED,Ey,ET,EG⟩ aHy HS
     try dsimp only at HS ⊢
     refine JL.EH (fun _ _ h=>h) ?_
     refine JC.region ?_
     refine Lv (.int .i64 3) (fun a ha=>BX (ha.ev rfl) (ha.ev rfl) (by decide)) ?_
     refine Lv (.int .i64 3) (fun a ha=>run_move (ha.ev rfl)) ?_
     refine JL.again 37 (fun _ _ h=>h) ?_
     refine JC.seq ?_
     refine JC.region ?_
     refine Lv (.bool true) (fun a ha=>qX (ha.ev rfl) (ha.ev rfl) (by decide)) ?_
     refine jn ?_
     refine JC.seq ?_
     refine JC.iy rfl ?_
     refine JC.jF (fun _ _ h=>h) ?_
     refine JC.seq ?_
     refine JC.block ?_
     refine JC.seq ?_
     refine JC.region ?_
     refine Lv (.pointer (some ⟨g,9,none⟩)) (fun a ha=>zC (ha.ev rfl) (ha.ev rfl) aYC aYn (j:=3) rfl (by decide) rfl) ?_
     refine JL.load (a0p s4 A4 n4 c4 B4 m4 d4) HS 5 rfl rfl rfl aYp aYn rfl rfl ?_
     refine JL.alloc (vs:=bU) HS rfl aYs rfl rfl (fun g19 O6 HS => ?_)
     refine JL.store HS rfl rfl (i:=0) rfl aYn rfl rfl rfl (vs':=(a0q s4 A4 n4 c4 B4 m4 d4)) rfl rfl (fun O7 HS => ?_)
     refine jn ?_
     refine JC.IL (ι:=PS) (fun ⟨Eg,DN,Ee,DY,DR,Ed,DZ,Gg,FB,F6,FQ,FH,FZ,FU⟩=>[(0,.slice (some ⟨g,0,none⟩) 4 4),(2,.pointer (some ⟨g1,0,none⟩)),(3,.pointer (some ⟨gZ,0,none⟩)),(5,.pointer (some ⟨g19,0,none⟩)),(17,.slice (some ⟨g,0,none⟩) 4 4),(18,.int .i64 4),(19,.int .i64 3),(20,.bool true),(21,.pointer (some ⟨g,9,none⟩)),(22,(a0p s4 A4 n4 c4 B4 m4 d4)),(33,.int .i64 3)]) (fun ⟨Eg,DN,Ee,DY,DR,Ed,DZ,Gg,FB,F6,FQ,FH,FZ,FU⟩ w=>St W0 (⟨g19,24,(a0q s4 A4 n4 c4 B4 m4 d4)⟩ :: ⟨g14,24,(a0q s3 A3 n3 c3 B3 m3 d3)⟩ :: ⟨g9,24,(a0q s2 A2 n2 c2 B2 m2 d2)⟩ :: ⟨g4,24,(a0q s1 A1 n1 c1 B1 m1 d1)⟩ :: ⟨gZ,48,(a0s Eg DN Ee DY DR Ed DZ Gg FB F6 FQ FH FZ FU)⟩ :: ⟨g1,48,cO⟩ :: ⟨g,24,[.bool s1,.slice A1 n1 c1,.slice B1 m1 d1,.bool s2,.slice A2 n2 c2,.slice B2 m2 d2,.bool s3,.slice A3 n3 c3,.slice B3 m3 d3,.bool s4,.slice A4 n4 c4,.slice B4 m4 d4]⟩ :: U) (FV (a0p Gg FB F6 FQ FH FZ FU) (gX (gX (gX (gX (q1+0) q1) q2) q3) q4) (((((k1+0+2)+k1+2)+k2+2)+k3+2)+k4+2) true :: FV (a0p Eg DN Ee DY DR Ed DZ) (gY (gY (gY (gY (q1+0) q1) q2) q3) q4) (((((k1+0+2)+k1+2)+k2+2)+k3+2)+k4+2) true :: FV (a0p Ff Et EY ED Ey ET EG) (gX (gX (gX (q1+0) q1) q2) q3) ((((k1+0+2)+k1+2)+k2+2)+k3+2) true :: FV (a0p Fe Es EX EC Ew ES EF) (gY (gY (gY (q1+0) q1) q2) q3) ((((k1+0+2)+k1+2)+k2+2)+k3+2) true :: FV (a0p xg wK wW wQ wL wV wR) (gX (gX (q1+0) q1) q2) (((k1+0+2)+k1+2)+k2+2) true :: FV (a0p wI vZ wF wz wu wE wB) (gY (gY (q1+0) q1) q2) (((k1+0+2)+k1+2)+k2+2) true :: FV (a0p rq qh qV qC qo qO qJ) (gX (q1+0) q1) ((k1+0+2)+k1+2) true :: FV (a0p jw iV jo jc iZ jk jf) (gY (q1+0) q1) ((k1+0+2)+k1+2) true :: FV (a0p iO iH n2009 iJ iI iM iK) (q1+0) (k1+0+2) true :: FV (a0p jq iT jl ja iW jh jd) (q1+0) (k1+0+2) true :: FV (a0p s4 A4 n4 c4 B4 m4 d4) q4 k4 b4 :: FV (a0p s3 A3 n3 c3 B3 m3 d3) q3 k3 b3 :: FV (a0p s2 A2 n2 c2 B2 m2 d2) q2 k2 b2 :: FV (a0p s1 A1 n1 c1 B1 m1 d1) q1 k1 b1 :: Ps) w) ?_ ?_
     ·skip
      refine JC.draw HS [9,11] (by kernel_rfl) (fun Z5 HS => ?_)
      refine Dv (.pointer (some ⟨gZ,0,none⟩)) 0 rfl HS.b0 (fun a ha w=>bH (ha.ev rfl) aYr rfl aYn rfl rfl) ?_
      refine Da (a0p Fe Es EX EC Ew ES EF) 1 4 rfl HS.b0 rfl rfl aYp aYn ?_
      refine Da (a0p s4 A4 n4 c4 B4 m4 d4) 2 0 rfl HS.b0 rfl rfl aYp aYn ?_
      refine Dv (.pointer (some ⟨gZ,3,none⟩)) 4 rfl HS.b0 (fun a ha w=>bH (ha.ev rfl) aYr rfl aYn rfl rfl) ?_
      refine Da (a0p Ff Et EY ED Ey ET EG) 5 4 rfl HS.b0 rfl rfl aYp aYn ?_
      refine JR.any [3,6] (by kernel_rfl) rfl ?_
      refine ai.call rfl rfl rfl aYB (vg HT HB HS (HS.at_ 1 rfl) (HS.at_ 8 rfl) (by omega)) rfl (fun aGs aG4 af6 => ?_) ?_
      ·skip
       obtain ⟨Eg,DN,Ee,DY,DR,Ed,DZ,rfl,HS⟩:=af6
       refine ⟨HS.b0,?_⟩
       refine Dv (.pointer (some ⟨gZ,0,none⟩)) 8 rfl HS.b0 (fun a ha w=>bH (ha.ev rfl) aYr rfl aYn rfl rfl) ?_
       refine J1 6 (by kernel_rfl) ?_
       refine ai.load (a0p s4 A4 n4 c4 B4 m4 d4) HS 0 rfl rfl rfl rfl aYp aYn rfl rfl rfl ?_ ai.nil
       refine ⟨HS.b0,?_⟩
       refine bJ 7 rfl rfl rfl aYI (yK HT HB HS (HS.at_ 1 rfl) (HS.at_ 9 rfl) (by omega)) (fun aGt TT af7 => ?_)
       obtain ⟨Gg,FB,F6,FQ,FH,FZ,FU,rfl,HS⟩:=af7
       refine ⟨HS.b0,?_⟩
       refine bF 9 (a0s Eg DN Ee DY DR Ed DZ Ff Et EY ED Ey ET EG) HS 4 rfl rfl rfl rfl aYn (fun _ HS=>⟨(eX (s:=9) rfl rfl),?_⟩)
       refine Dv (.pointer (some ⟨gZ,3,none⟩)) 10 rfl (eX (s:=9) rfl rfl) (fun a ha w=>bH (ha.ev rfl) aYr rfl aYn rfl rfl) ?_
       refine bF 11 (a0s Eg DN Ee DY DR Ed DZ Gg FB F6 FQ FH FZ FU) HS 4 rfl rfl rfl rfl aYn (fun _ HS=>⟨(eX (s:=9) rfl rfl),?_⟩)
       exact JR.mt (Eg,DN,Ee,DY,DR,Ed,DZ,Gg,FB,F6,FQ,FH,FZ,FU) HS
      refine ai.load (a0p s4 A4 n4 c4 B4 m4 d4) HS 0 rfl rfl rfl rfl aYp aYn rfl rfl rfl ?_ ai.nil
      refine ⟨HS.b0,?_⟩
      refine bJ 3 rfl rfl rfl aYB (vg HT HB HS (HS.at_ 1 rfl) (HS.at_ 8 rfl) (by omega)) (fun aGs aG4 af6 => ?_)
      obtain ⟨Eg,DN,Ee,DY,DR,Ed,DZ,rfl,HS⟩:=af6
      refine ⟨HS.b0,?_⟩
      refine Dv (.pointer (some ⟨gZ,0,none⟩)) 8 rfl HS.b0 (fun a ha w=>bH (ha.ev rfl) aYr rfl aYn rfl rfl) ?_
      refine bJ 7 rfl rfl rfl aYI (yK HT HB HS (HS.at_ 1 rfl) (HS.at_ 9 rfl) (by omega)) (fun aGt TT af7 => ?_)
      obtain ⟨Gg,FB,F6,FQ,FH,FZ,FU,rfl,HS⟩:=af7
      refine ⟨HS.b0,?_⟩
      refine bF 9 (a0s Eg DN Ee DY DR Ed DZ Ff Et EY ED Ey ET EG) HS 4 rfl rfl rfl rfl aYn (fun _ HS=>⟨(eX (s:=9) rfl rfl),?_⟩)
      refine Dv (.pointer (some ⟨gZ,3,none⟩)) 10 rfl (eX (s:=9) rfl rfl) (fun a ha w=>bH (ha.ev rfl) aYr rfl aYn rfl rfl) ?_
      refine bF 11 (a0s Eg DN Ee DY DR Ed DZ Gg FB F6 FQ FH FZ FU) HS 4 rfl rfl rfl rfl aYn (fun _ HS=>⟨(eX (s:=9) rfl rfl),?_⟩)
      exact JR.mt (Eg,DN,Ee,DY,DR,Ed,DZ,Gg,FB,F6,FQ,FH,FZ,FU) HS
     ·skip
      rintro ⟨Eg,DN,Ee,DY,DR,Ed,DZ,Gg,FB,F6,FQ,FH,FZ,FU⟩ aHz HS
      try dsimp only at HS ⊢
      refine JL.EH (fun _ _ h=>h) ?_
      refine JC.region ?_
      refine Lv (.int .i64 4) (fun a ha=>BX (ha.ev rfl) (ha.ev rfl) (by decide)) ?_
      refine Lv (.int .i64 4) (fun a ha=>run_move (ha.ev rfl)) ?_
      refine JL.again 36 (fun _ _ h=>h) ?_
      refine JC.seq ?_
      refine JC.region ?_
      refine Lv (.bool false) (fun a ha=>qX (ha.ev rfl) (ha.ev rfl) (by decide)) ?_
      refine jn ?_
      refine JC.seq ?_
      refine JC.jA rfl ?_
      refine JC.exit (fun _ _ h=>h) (fun _ _ h=>h) ?_
      refine JC.seq ?_
      refine JC.region ?_
      refine JL.load (a0r Eg DN Ee DY DR Ed DZ Gg FB F6 FQ FH FZ FU) HS 4 rfl rfl rfl aYq aYo rfl rfl ?_
      refine JL.store HS rfl rfl (i:=5) rfl aYo rfl rfl rfl (vs':=(a0s Eg DN Ee DY DR Ed DZ Gg FB F6 FQ FH FZ FU)) rfl rfl (fun Z7 HS => ?_)
      refine jn ?_
      refine JC.ret (fun a ha => ?_)
      repeat (first | refine dh ?_ | refine df ?_)
      refine fG (v:=(a0r Eg DN Ee DY DR Ed DZ Gg FB F6 FQ FH FZ FU)) ha Tryz.results123 (.agg rfl aYq aYo (HS.box _ (.tail _ (.tail _ (.tail _ (.tail _ (.tail _ (.head _))))))) rfl rfl) ⟨_,rfl,?_⟩
      exact ⟨_,_,_,_,_,_,_,_,_,_,_,_,_,_,rfl,HS.tY 6 14 1 0 rfl rfl rfl (fun _ h=>h.as (aFE _ _ _ _) (by omega)) rfl (fun _ h=>h.as (aFD _ _ _ _) (by omega))⟩
end
end Go.Proofs.YtbihljnjaondcaaGreatDoor
namespace Go.Proofs.YtbihljnjaondcaaGreatDoor
open Go Go.RowKit Lw bZ
section
variable {W0 w:World} {U:List Box} {Ps:List (World→Prop)}
variable {ax:Bool} {ay:Option Addr} {aj c1a:Nat} {az:Option Addr} {ak aA:Nat} {aB:Bool} {aC:Option Addr} {n1b aG:Nat} {aF:Option Addr} {au aH:Nat} {aP:Bool} {aQ:Option Addr} {aK aS:Nat} {aU:Option Addr} {aN aY:Nat} {aV:Bool} {aW:Option Addr} {aO aX:Nat} {aZ:Option Addr} {aT bf:Nat}
set_option maxHeartbeats 400000 in
theorem aru (HT:Tz W0) (HB:Tab W0) {af:Rat} {bC:Nat} {bu:Bool} {ah:Rat} {bD:Nat} {bn:Bool} (HS:St W0 U Ps w) (f1a:FV (a0p ax ay aj c1a az ak aA) af bC bu w) (bI:FV (a0p aB aC n1b aG aF au aH) ah bD bn w) (hk:bC+bD≤60):bY Tryz.prog 57 [(a0r ax ay aj c1a az ak aA aB aC n1b aG aF au aH)] w (xG W0 U Ps (-(bW bu bn af ah)) (-(bV bu bn af ah)) ((bC+bD)+1+((bC+bD)+1+((bC+bD)+1))+12)):=by
 have HS:=HS.add (FV.stable _ _ _ _) f1a
 have HS:=HS.add (FV.stable _ _ _ _) bI
 clear f1a bI
 refine iL Tryz.func57 rfl Tryz.ntmps57 rfl ?_
 refine JC.seq ?_
 refine JC.region ?_
 refine JL.box (vs:=(a0s ax ay aj c1a az ak aA aB aC n1b aG aF au aH)) HS rfl rfl rfl rfl (fun g1 w1 HS => ?_)
 refine JL.alloc (vs:=cO) HS rfl aYt rfl rfl (fun g2 w2 HS => ?_)
 refine jn ?_
 refine JC.seq ?_
 refine JC.region ?_
 refine JL.load (a0r ax ay aj c1a az ak aA aB aC n1b aG aF au aH) HS 1 rfl rfl rfl aYq aYo rfl rfl ?_
 refine JL.call rfl rfl aYE (vT HT HB HS (HS.at_ 1 rfl) (HS.at_ 0 rfl) (by omega)) (fun v3 w3 HR3 => ?_)
 obtain ⟨jS,jZ,kK,kD,kz,kH,kF,l7,lK,lY,lS,lN,lW,lU,rfl,HS⟩:=HR3
 refine JL.store HS rfl rfl (i:=1) rfl aYo rfl rfl rfl (vs':=(a0s jS jZ kK kD kz kH kF l7 lK lY lS lN lW lU)) rfl rfl (fun w4 HS => ?_)
 refine jn ?_
 refine JC.seq ?_
 refine JC.draw HS [8] (by kernel_rfl) (fun w5 HS => ?_)
 refine Dv (.pointer (some ⟨g1,0,none⟩)) 0 rfl HS.b0 (fun a ha w=>bH (ha.ev rfl) aYr rfl aYn rfl rfl) ?_
 refine Da (a0p jS jZ kK kD kz kH kF) 1 1 rfl HS.b0 rfl rfl aYp aYn ?_
 refine Dv (.pointer (some ⟨g1,3,none⟩)) 3 rfl HS.b0 (fun a ha w=>bH (ha.ev rfl) aYr rfl aYn rfl rfl) ?_
 refine Da (a0p l7 lK lY lS lN lW lU) 4 1 rfl HS.b0 rfl rfl aYp aYn ?_
 refine bJ 2 rfl rfl rfl a0a (aea HT HB HS (HS.at_ 0 rfl) (by omega)) (fun aGy aHa agt => ?_)
 obtain ⟨OU,Mc,Ot,Nv,MN,Oe,NF,rfl,HS⟩:=agt
 refine ⟨HS.b0,?_⟩
 refine bJ 5 rfl rfl rfl a0a (aea HT HB HS (HS.at_ 2 rfl) (by omega)) (fun aGz aHb agu => ?_)
 obtain ⟨OV,Md,Ou,Nw,MO,Og,NG,rfl,HS⟩:=agu
 refine ⟨HS.b0,?_⟩
 refine J1 6 (by kernel_rfl) ?_
 refine ai.buildSlice (ps:=[(0,(a0p OU Mc Ot Nv MN Oe NF)),(1,(a0p OV Md Ou Nw MO Og NG))]) (vs:=(a0s OU Mc Ot Nv MN Oe NF OV Md Ou Nw MO Og NG)) HS rfl rfl (fun a ha=>by simp only [List.map_cons,List.map_nil,ha.ev (x := .tmp 7) (v:=(a0p OU Mc Ot Nv MN Oe NF)) rfl,ha.ev (x := .tmp 10) (v:=(a0p OV Md Ou Nw MO Og NG)) rfl]) aYC aYn aYs rfl rfl (by kernel_rfl) rfl rfl (fun aNO aXt HS => ?_) ai.nil
 refine ⟨HS.b1,?_⟩
 refine bJ 7 rfl rfl rfl aZi (aei HT HB HS (HS.at_ 1 rfl) (HS.at_ 0 rfl) (by omega)) (fun aVg aXu av3 => ?_)
 obtain ⟨arI,akB,ape,alS,akT,aoM,amk,arJ,akC,apf,alU,akU,aoN,aml,rfl,HS⟩:=av3
 refine ⟨HS.b1,?_⟩
 refine bF 8 (a0s arI akB ape alS akT aoM amk arJ akC apf alU akU aoN aml) HS 1 rfl rfl rfl rfl aYo (fun _ HS=>⟨(eX (s:=8) rfl rfl),?_⟩)
 refine JR.next (by kernel_rfl) (fun _ _ h=>h) ?_
 refine JC.ret (fun a ha => ?_)
 repeat (first | refine dh ?_ | refine df ?_)
 refine fG (v:=(a0r arI akB ape alS akT aoM amk arJ akC apf alU akU aoN aml)) ha Tryz.results57 (.agg rfl aYq aYo (HS.box _ (.tail _ (.head _))) rfl rfl) ⟨_,rfl,?_⟩
 exact ⟨_,_,_,_,_,_,_,_,_,_,_,_,_,_,rfl,HS.tY 3 8 0 1 rfl rfl rfl (fun _ h=>h.as (aiq (by have:=oP bu bn af ah; grind)) (by omega)) rfl (fun _ h=>h.as (aip (by have:=oP bu bn af ah; grind)) (by omega))⟩
set_option maxHeartbeats 400000 in
theorem arp (HT:Tz W0) (HB:Tab W0) {af:Rat} {bC:Nat} {bu:Bool} {ah:Rat} {bD:Nat} {bn:Bool} {aI:Rat} {bM:Nat} {bT:Bool} {aJ:Rat} {bP:Nat} {bQ:Bool} (HS:St W0 U Ps w) (f1a:FV (a0p ax ay aj c1a az ak aA) af bC bu w) (bI:FV (a0p aB aC n1b aG aF au aH) ah bD bn w) (fC:FV (a0p aP aQ aK aS aU aN aY) aI bM bT w) (fD:FV (a0p aV aW aO aX aZ aT bf) aJ bP bQ w) (hk:bC+bD+(bM+bP)≤250):bY Tryz.prog 59 [(a0r ax ay aj c1a az ak aA aB aC n1b aG aF au aH),(a0r aP aQ aK aS aU aN aY aV aW aO aX aZ aT bf)] w (xG W0 U Ps ((bV bu bn af ah)+(bV bT bQ aI aJ)) ((bW bu bn af ah)+(bW bT bQ aI aJ)) (((bC+bD)+(bM+bP)+2)+(((bC+bD)+(bM+bP)+2)+((bC+bD)+(bM+bP)+2))+12)):=by
 have HS:=HS.add (FV.stable _ _ _ _) f1a
 have HS:=HS.add (FV.stable _ _ _ _) bI
 have HS:=HS.add (FV.stable _ _ _ _) fC
 have HS:=HS.add (FV.stable _ _ _ _) fD
 clear f1a bI fC fD
 refine iL Tryz.func59 rfl Tryz.ntmps59 rfl ?_
 refine JC.seq ?_
 refine JC.region ?_
 refine JL.box (vs:=(a0s ax ay aj c1a az ak aA aB aC n1b aG aF au aH)) HS rfl rfl rfl rfl (fun g1 w1 HS => ?_)
 refine JL.box (vs:=(a0s aP aQ aK aS aU aN aY aV aW aO aX aZ aT bf)) HS rfl rfl rfl rfl (fun g2 w2 HS => ?_)
 refine JL.alloc (vs:=cO) HS rfl aYt rfl rfl (fun g3 w3 HS => ?_)
 refine jn ?_
 refine JC.cut (ι:=FX) (fun ⟨eP,dR,eG,dW,dU,eu,dY,eU,dS,eH,dX,dV,eF,dZ,dP,di,dM,dB,dw,dJ,dG,dQ,dm,dO,dD,dA,dK,dI⟩=>[(0,(a0r ax ay aj c1a az ak aA aB aC n1b aG aF au aH)),(1,(a0r aP aQ aK aS aU aN aY aV aW aO aX aZ aT bf)),(2,.pointer (some ⟨g1,0,none⟩)),(3,.pointer (some ⟨g2,0,none⟩)),(4,.pointer (some ⟨g3,0,none⟩))]) (fun ⟨eP,dR,eG,dW,dU,eu,dY,eU,dS,eH,dX,dV,eF,dZ,dP,di,dM,dB,dw,dJ,dG,dQ,dm,dO,dD,dA,dK,dI⟩ w=>St W0 (⟨g3,48,cO⟩ :: ⟨g2,48,(a0s dP di dM dB dw dJ dG dQ dm dO dD dA dK dI)⟩ :: ⟨g1,48,(a0s eP dR eG dW dU eu dY eU dS eH dX dV eF dZ)⟩ :: U) (FV (a0p dP di dM dB dw dJ dG) (bV bT bQ aI aJ) (bM+bP) true :: FV (a0p dQ dm dO dD dA dK dI) (bW bT bQ aI aJ) (bM+bP) true :: FV (a0p eP dR eG dW dU eu dY) (bV bu bn af ah) (bC+bD) true :: FV (a0p eU dS eH dX dV eF dZ) (bW bu bn af ah) (bC+bD) true :: FV (a0p aV aW aO aX aZ aT bf) aJ bP bQ :: FV (a0p aP aQ aK aS aU aN aY) aI bM bT :: FV (a0p aB aC n1b aG aF au aH) ah bD bn :: FV (a0p ax ay aj c1a az ak aA) af bC bu :: Ps) w) ?_ ?_
 ·skip
  refine JC.draw HS [4,5] (by kernel_rfl) (fun w5 HS => ?_)
  refine Da (a0r ax ay aj c1a az ak aA aB aC n1b aG aF au aH) 0 2 rfl HS.b0 rfl rfl aYq aYo ?_
  refine JR.any [1,2] (by kernel_rfl) rfl ?_
  refine ai.call rfl rfl rfl aYE (vT HT HB HS (HS.at_ 3 rfl) (HS.at_ 2 rfl) (by omega)) rfl (fun yL yN pq => ?_) ?_
  ·skip
   obtain ⟨eP,dR,eG,dW,dU,eu,dY,eU,dS,eH,dX,dV,eF,dZ,rfl,HS⟩:=pq
   refine ⟨HS.b0,?_⟩
   refine J1 2 (by kernel_rfl) ?_
   refine ai.load (a0r aP aQ aK aS aU aN aY aV aW aO aX aZ aT bf) HS 1 rfl rfl rfl rfl aYq aYo rfl rfl rfl ?_ ai.nil
   refine ⟨HS.b0,?_⟩
   refine bJ 3 rfl rfl rfl aYE (vT HT HB HS (HS.at_ 3 rfl) (HS.at_ 2 rfl) (by omega)) (fun yM yO pz => ?_)
   obtain ⟨dP,di,dM,dB,dw,dJ,dG,dQ,dm,dO,dD,dA,dK,dI,rfl,HS⟩:=pz
   refine ⟨HS.b0,?_⟩
   refine bF 4 (a0s eP dR eG dW dU eu dY eU dS eH dX dV eF dZ) HS 2 rfl rfl rfl rfl aYo (fun _ HS=>⟨(eX (s:=4) rfl rfl),?_⟩)
   refine bF 5 (a0s dP di dM dB dw dJ dG dQ dm dO dD dA dK dI) HS 1 rfl rfl rfl rfl aYo (fun _ HS=>⟨(eX (s:=4) rfl rfl),?_⟩)
   exact JR.mt (eP,dR,eG,dW,dU,eu,dY,eU,dS,eH,dX,dV,eF,dZ,dP,di,dM,dB,dw,dJ,dG,dQ,dm,dO,dD,dA,dK,dI) HS
  refine ai.load (a0r aP aQ aK aS aU aN aY aV aW aO aX aZ aT bf) HS 1 rfl rfl rfl rfl aYq aYo rfl rfl rfl ?_ ai.nil
  refine ⟨HS.b0,?_⟩
  refine bJ 1 rfl rfl rfl aYE (vT HT HB HS (HS.at_ 3 rfl) (HS.at_ 2 rfl) (by omega)) (fun yL yN pq => ?_)
  obtain ⟨eP,dR,eG,dW,dU,eu,dY,eU,dS,eH,dX,dV,eF,dZ,rfl,HS⟩:=pq
  refine ⟨HS.b0,?_⟩
  refine bJ 3 rfl rfl rfl aYE (vT HT HB HS (HS.at_ 3 rfl) (HS.at_ 2 rfl) (by omega)) (fun yM yO pz => ?_)
  obtain ⟨dP,di,dM,dB,dw,dJ,dG,dQ,dm,dO,dD,dA,dK,dI,rfl,HS⟩:=pz
  refine ⟨HS.b0,?_⟩
  refine bF 4 (a0s eP dR eG dW dU eu dY eU dS eH dX dV eF dZ) HS 2 rfl rfl rfl rfl aYo (fun _ HS=>⟨(eX (s:=4) rfl rfl),?_⟩)
  refine bF 5 (a0s dP di dM dB dw dJ dG dQ dm dO dD dA dK dI) HS 1 rfl rfl rfl rfl aYo (fun _ HS=>⟨(eX (s:=4) rfl rfl),?_⟩)
  exact JR.mt (eP,dR,eG,dW,dU,eu,dY,eU,dS,eH,dX,dV,eF,dZ,dP,di,dM,dB,dw,dJ,dG,dQ,dm,dO,dD,dA,dK,dI) HS
 ·skip
  rintro ⟨eP,dR,eG,dW,dU,eu,dY,eU,dS,eH,dX,dV,eF,dZ,dP,di,dM,dB,dw,dJ,dG,dQ,dm,dO,dD,dA,dK,dI⟩ H8 HS
  try dsimp only at HS ⊢
  refine JC.seq ?_
  refine JC.draw HS [12] (by kernel_rfl) (fun w6 HS => ?_)
  refine Dv (.pointer (some ⟨g1,0,none⟩)) 0 rfl HS.b0 (fun a ha w=>bH (ha.ev rfl) aYr rfl aYn rfl rfl) ?_
  refine Da (a0p eP dR eG dW dU eu dY) 1 2 rfl HS.b0 rfl rfl aYp aYn ?_
  refine Dv (.pointer (some ⟨g2,0,none⟩)) 2 rfl HS.b0 (fun a ha w=>bH (ha.ev rfl) aYr rfl aYn rfl rfl) ?_
  refine Da (a0p dP di dM dB dw dJ dG) 3 1 rfl HS.b0 rfl rfl aYp aYn ?_
  refine Dv (.pointer (some ⟨g1,3,none⟩)) 5 rfl HS.b0 (fun a ha w=>bH (ha.ev rfl) aYr rfl aYn rfl rfl) ?_
  refine Da (a0p eU dS eH dX dV eF dZ) 6 2 rfl HS.b0 rfl rfl aYp aYn ?_
  refine Dv (.pointer (some ⟨g2,3,none⟩)) 7 rfl HS.b0 (fun a ha w=>bH (ha.ev rfl) aYr rfl aYn rfl rfl) ?_
  refine Da (a0p dQ dm dO dD dA dK dI) 8 1 rfl HS.b0 rfl rfl aYp aYn ?_
  refine bJ 4 rfl rfl rfl aYR (Bf HT HB HS (HS.at_ 2 rfl) (HS.at_ 0 rfl) (by omega)) (fun aeT afh Nc => ?_)
  obtain ⟨yx,xX,yu,x8,xZ,yt,x9,rfl,HS⟩:=Nc
  refine ⟨HS.b0,?_⟩
  refine bJ 9 rfl rfl rfl aYR (Bf HT HB HS (HS.at_ 4 rfl) (HS.at_ 2 rfl) (by omega)) (fun ZK aae Iw => ?_)
  obtain ⟨xC,xh,xy,xm,xk,xx,xn,rfl,HS⟩:=Iw
  refine ⟨HS.b0,?_⟩
  refine J1 10 (by kernel_rfl) ?_
  refine ai.buildSlice (ps:=[(0,(a0p yx xX yu x8 xZ yt x9)),(1,(a0p xC xh xy xm xk xx xn))]) (vs:=(a0s yx xX yu x8 xZ yt x9 xC xh xy xm xk xx xn)) HS rfl rfl (fun a ha=>by simp only [List.map_cons,List.map_nil,ha.ev (x := .tmp 13) (v:=(a0p yx xX yu x8 xZ yt x9)) rfl,ha.ev (x := .tmp 18) (v:=(a0p xC xh xy xm xk xx xn)) rfl]) aYC aYn aYs rfl rfl (by kernel_rfl) rfl rfl (fun aNR aXC HS => ?_) ai.nil
  refine ⟨HS.b1,?_⟩
  refine bJ 11 rfl rfl rfl aZi (aei HT HB HS (HS.at_ 1 rfl) (HS.at_ 0 rfl) (by omega)) (fun aVm aXD av9 => ?_)
  obtain ⟨arK,akD,apg,alV,akV,aoO,amm,arL,akE,aph,alX,akW,aoP,amn,rfl,HS⟩:=av9
  refine ⟨HS.b1,?_⟩
  refine bF 12 (a0s arK akD apg alV akV aoO amm arL akE aph alX akW aoP amn) HS 1 rfl rfl rfl rfl aYo (fun _ HS=>⟨(eX (s:=12) rfl rfl),?_⟩)
  refine JR.next (by kernel_rfl) (fun _ _ h=>h) ?_
  refine JC.ret (fun a ha => ?_)
  repeat (first | refine dh ?_ | refine df ?_)
  refine fG (v:=(a0r arK akD apg alV akV aoO amm arL akE aph alX akW aoP amn)) ha Tryz.results59 (.agg rfl aYq aYo (HS.box _ (.tail _ (.head _))) rfl rfl) ⟨_,rfl,?_⟩
  exact ⟨_,_,_,_,_,_,_,_,_,_,_,_,_,_,rfl,HS.tY 4 12 0 1 rfl rfl rfl (fun _ h=>h.as (adx (by have h1:=oP bu bn af ah; have h2:=oP bT bQ aI aJ; grind)) (by omega)) rfl (fun _ h=>h.as (YL (by have h1:=oP bu bn af ah; have h2:=oP bT bQ aI aJ; grind)) (by omega))⟩
set_option maxHeartbeats 400000 in
theorem aFh (HT:Tz W0) (HB:Tab W0) {af:Rat} {bC:Nat} {bu:Bool} {ah:Rat} {bD:Nat} {bn:Bool} {aI:Rat} {bM:Nat} {bT:Bool} {aJ:Rat} {bP:Nat} {bQ:Bool} (HS:St W0 U Ps w) (f1a:FV (a0p ax ay aj c1a az ak aA) af bC bu w) (bI:FV (a0p aB aC n1b aG aF au aH) ah bD bn w) (fC:FV (a0p aP aQ aK aS aU aN aY) aI bM bT w) (fD:FV (a0p aV aW aO aX aZ aT bf) aJ bP bQ w) (hk:bC+bD+6*(bM+bP)≤220):bY Tryz.prog 61 [(a0r ax ay aj c1a az ak aA aB aC n1b aG aF au aH),(a0r aP aQ aK aS aU aN aY aV aW aO aX aZ aT bf)] w (xG W0 U Ps ((bV bu bn af ah) - (bW bT bQ aI aJ)) ((bW bu bn af ah) - (bV bT bQ aI aJ)) (3*((bC+bD)+6*(bM+bP))+200)):=by
 have HS:=HS.add (FV.stable _ _ _ _) f1a
 have HS:=HS.add (FV.stable _ _ _ _) bI
 have HS:=HS.add (FV.stable _ _ _ _) fC
 have HS:=HS.add (FV.stable _ _ _ _) fD
 clear f1a bI fC fD
 refine iL Tryz.func61 rfl Tryz.ntmps61 rfl ?_
 refine JC.seq ?_
 refine JC.region ?_
 refine JL.box (vs:=(a0s ax ay aj c1a az ak aA aB aC n1b aG aF au aH)) HS rfl rfl rfl rfl (fun g1 w1 HS => ?_)
 refine JL.box (vs:=(a0s aP aQ aK aS aU aN aY aV aW aO aX aZ aT bf)) HS rfl rfl rfl rfl (fun g2 w2 HS => ?_)
 refine JL.alloc (vs:=cO) HS rfl aYt rfl rfl (fun g3 w3 HS => ?_)
 refine jn ?_
 refine JC.seq ?_
 refine JC.draw HS [4] (by kernel_rfl) (fun w4 HS => ?_)
 refine Da (a0r ax ay aj c1a az ak aA aB aC n1b aG aF au aH) 0 2 rfl HS.b0 rfl rfl aYq aYo ?_
 refine Da (a0r aP aQ aK aS aU aN aY aV aW aO aX aZ aT bf) 1 1 rfl HS.b0 rfl rfl aYq aYo ?_
 refine bJ 2 rfl rfl rfl Tryz.call57 (aru HT HB HS (HS.at_ 1 rfl) (HS.at_ 0 rfl) (by omega)) (fun ajQ aki Q8 => ?_)
 obtain ⟨aS4,aIR,aQ9,aLJ,aKd,aPL,aNc,aS5,aIS,aRa,aLK,aKe,aPM,aNe,rfl,HS⟩:=Q8
 refine ⟨HS.b0,?_⟩
 refine bJ 3 rfl rfl rfl Tryz.call59 (arp HT HB HS (HS.at_ 5 rfl) (HS.at_ 4 rfl) (HS.at_ 0 rfl) (HS.at_ 1 rfl) (by omega)) (fun aGw aG9 agq => ?_)
 obtain ⟨ajk,afq,ait,ag2,afG,aij,ahc,ajl,afr,aiu,ag3,afH,aik,ahd,rfl,HS⟩:=agq
 refine ⟨HS.b0,?_⟩
 refine bF 4 (a0s ajk afq ait ag2 afG aij ahc ajl afr aiu ag3 afH aik ahd) HS 0 rfl rfl rfl rfl aYo (fun _ HS=>⟨(eX (s:=4) rfl rfl),?_⟩)
 refine JR.next (by kernel_rfl) (fun _ _ h=>h) ?_
 refine JC.ret (fun a ha => ?_)
 repeat (first | refine dh ?_ | refine df ?_)
 refine fG (v:=(a0r ajk afq ait ag2 afG aij ahc ajl afr aiu ag3 afH aik ahd)) ha Tryz.results61 (.agg rfl aYq aYo (HS.box _ (.head _)) rfl rfl) ⟨_,rfl,?_⟩
 exact ⟨_,_,_,_,_,_,_,_,_,_,_,_,_,_,rfl,HS.tY 3 8 0 1 rfl rfl rfl (fun _ h=>h.as (by have h1:=oP bu bn af ah; have h2:=oP bT bQ aI aJ; rw [vG (by grind)]; grind) (by omega)) rfl (fun _ h=>h.as (by have h1:=oP bu bn af ah; have h2:=oP bT bQ aI aJ; rw [vF (by grind)]; grind) (by omega))⟩
set_option maxHeartbeats 400000 in
theorem aE4 (HT:Tz W0) (HB:Tab W0) {af:Rat} {bC:Nat} {bu:Bool} {ah:Rat} {bD:Nat} {bn:Bool} {aI:Rat} {bM:Nat} {bT:Bool} {aJ:Rat} {bP:Nat} {bQ:Bool} (HS:St W0 U Ps w) (f1a:FV (a0p ax ay aj c1a az ak aA) af bC bu w) (bI:FV (a0p aB aC n1b aG aF au aH) ah bD bn w) (fC:FV (a0p aP aQ aK aS aU aN aY) aI bM bT w) (fD:FV (a0p aV aW aO aX aZ aT bf) aJ bP bQ w) (hk:bC+bD+(bM+bP)≤100):bY Tryz.prog 65 [(a0r ax ay aj c1a az ak aA aB aC n1b aG aF au aH),(a0r aP aQ aK aS aU aN aY aV aW aO aX aZ aT bf)] w (xG W0 U Ps (gY (bV bu bn af ah) (bV bT bQ aI aJ)) (gX (bW bu bn af ah) (bW bT bQ aI aJ)) ((bC+bD)+((bC+bD)+(bC+bD)+(bM+bP)+(bM+bP))+12)):=by
 have HS:=HS.add (FV.stable _ _ _ _) f1a
 have HS:=HS.add (FV.stable _ _ _ _) bI
 have HS:=HS.add (FV.stable _ _ _ _) fC
 have HS:=HS.add (FV.stable _ _ _ _) fD
 clear f1a bI fC fD
 refine iL Tryz.func65 rfl Tryz.ntmps65 rfl ?_
 refine JC.seq ?_
 refine JC.region ?_
 refine JL.box (vs:=(a0s ax ay aj c1a az ak aA aB aC n1b aG aF au aH)) HS rfl rfl rfl rfl (fun g1 w1 HS => ?_)
 refine JL.box (vs:=(a0s aP aQ aK aS aU aN aY aV aW aO aX aZ aT bf)) HS rfl rfl rfl rfl (fun g2 w2 HS => ?_)
 refine JL.alloc (vs:=cO) HS rfl aYt rfl rfl (fun g3 w3 HS => ?_)
 refine jn ?_
 refine JC.cut (ι:=FX) (fun ⟨eP,dR,eG,dW,dU,eu,dY,eU,dS,eH,dX,dV,eF,dZ,dP,di,dM,dB,dw,dJ,dG,dQ,dm,dO,dD,dA,dK,dI⟩=>[(0,(a0r ax ay aj c1a az ak aA aB aC n1b aG aF au aH)),(1,(a0r aP aQ aK aS aU aN aY aV aW aO aX aZ aT bf)),(2,.pointer (some ⟨g1,0,none⟩)),(3,.pointer (some ⟨g2,0,none⟩)),(4,.pointer (some ⟨g3,0,none⟩))]) (fun ⟨eP,dR,eG,dW,dU,eu,dY,eU,dS,eH,dX,dV,eF,dZ,dP,di,dM,dB,dw,dJ,dG,dQ,dm,dO,dD,dA,dK,dI⟩ w=>St W0 (⟨g3,48,cO⟩ :: ⟨g2,48,(a0s dP di dM dB dw dJ dG dQ dm dO dD dA dK dI)⟩ :: ⟨g1,48,(a0s eP dR eG dW dU eu dY eU dS eH dX dV eF dZ)⟩ :: U) (FV (a0p dP di dM dB dw dJ dG) (bV bT bQ aI aJ) (bM+bP) true :: FV (a0p dQ dm dO dD dA dK dI) (bW bT bQ aI aJ) (bM+bP) true :: FV (a0p eP dR eG dW dU eu dY) (bV bu bn af ah) (bC+bD) true :: FV (a0p eU dS eH dX dV eF dZ) (bW bu bn af ah) (bC+bD) true :: FV (a0p aV aW aO aX aZ aT bf) aJ bP bQ :: FV (a0p aP aQ aK aS aU aN aY) aI bM bT :: FV (a0p aB aC n1b aG aF au aH) ah bD bn :: FV (a0p ax ay aj c1a az ak aA) af bC bu :: Ps) w) ?_ ?_
 ·skip
  refine JC.draw HS [4,5] (by kernel_rfl) (fun w5 HS => ?_)
  refine Da (a0r ax ay aj c1a az ak aA aB aC n1b aG aF au aH) 0 2 rfl HS.b0 rfl rfl aYq aYo ?_
  refine JR.any [1,2] (by kernel_rfl) rfl ?_
  refine ai.call rfl rfl rfl aYE (vT HT HB HS (HS.at_ 3 rfl) (HS.at_ 2 rfl) (by omega)) rfl (fun yL yN pq => ?_) ?_
  ·skip
   obtain ⟨eP,dR,eG,dW,dU,eu,dY,eU,dS,eH,dX,dV,eF,dZ,rfl,HS⟩:=pq
   refine ⟨HS.b0,?_⟩
   refine J1 2 (by kernel_rfl) ?_
   refine ai.load (a0r aP aQ aK aS aU aN aY aV aW aO aX aZ aT bf) HS 1 rfl rfl rfl rfl aYq aYo rfl rfl rfl ?_ ai.nil
   refine ⟨HS.b0,?_⟩
   refine bJ 3 rfl rfl rfl aYE (vT HT HB HS (HS.at_ 3 rfl) (HS.at_ 2 rfl) (by omega)) (fun yM yO pz => ?_)
   obtain ⟨dP,di,dM,dB,dw,dJ,dG,dQ,dm,dO,dD,dA,dK,dI,rfl,HS⟩:=pz
   refine ⟨HS.b0,?_⟩
   refine bF 4 (a0s eP dR eG dW dU eu dY eU dS eH dX dV eF dZ) HS 2 rfl rfl rfl rfl aYo (fun _ HS=>⟨(eX (s:=4) rfl rfl),?_⟩)
   refine bF 5 (a0s dP di dM dB dw dJ dG dQ dm dO dD dA dK dI) HS 1 rfl rfl rfl rfl aYo (fun _ HS=>⟨(eX (s:=4) rfl rfl),?_⟩)
   exact JR.mt (eP,dR,eG,dW,dU,eu,dY,eU,dS,eH,dX,dV,eF,dZ,dP,di,dM,dB,dw,dJ,dG,dQ,dm,dO,dD,dA,dK,dI) HS
  refine ai.load (a0r aP aQ aK aS aU aN aY aV aW aO aX aZ aT bf) HS 1 rfl rfl rfl rfl aYq aYo rfl rfl rfl ?_ ai.nil
  refine ⟨HS.b0,?_⟩
  refine bJ 1 rfl rfl rfl aYE (vT HT HB HS (HS.at_ 3 rfl) (HS.at_ 2 rfl) (by omega)) (fun yL yN pq => ?_)
  obtain ⟨eP,dR,eG,dW,dU,eu,dY,eU,dS,eH,dX,dV,eF,dZ,rfl,HS⟩:=pq
  refine ⟨HS.b0,?_⟩
  refine bJ 3 rfl rfl rfl aYE (vT HT HB HS (HS.at_ 3 rfl) (HS.at_ 2 rfl) (by omega)) (fun yM yO pz => ?_)
  obtain ⟨dP,di,dM,dB,dw,dJ,dG,dQ,dm,dO,dD,dA,dK,dI,rfl,HS⟩:=pz
  refine ⟨HS.b0,?_⟩
  refine bF 4 (a0s eP dR eG dW dU eu dY eU dS eH dX dV eF dZ) HS 2 rfl rfl rfl rfl aYo (fun _ HS=>⟨(eX (s:=4) rfl rfl),?_⟩)
  refine bF 5 (a0s dP di dM dB dw dJ dG dQ dm dO dD dA dK dI) HS 1 rfl rfl rfl rfl aYo (fun _ HS=>⟨(eX (s:=4) rfl rfl),?_⟩)
  exact JR.mt (eP,dR,eG,dW,dU,eu,dY,eU,dS,eH,dX,dV,eF,dZ,dP,di,dM,dB,dw,dJ,dG,dQ,dm,dO,dD,dA,dK,dI) HS
 ·skip
  rintro ⟨eP,dR,eG,dW,dU,eu,dY,eU,dS,eH,dX,dV,eF,dZ,dP,di,dM,dB,dw,dJ,dG,dQ,dm,dO,dD,dA,dK,dI⟩ H8 HS
  try dsimp only at HS ⊢
  refine JC.seq ?_
  refine JC.region ?_
  refine Lv (.pointer (some ⟨g1,0,none⟩)) (fun a ha=>bH (ha.ev rfl) aYr rfl aYn rfl rfl) ?_
  refine JL.load (a0p eP dR eG dW dU eu dY) HS 2 rfl rfl rfl aYp aYn rfl rfl ?_
  refine Lv (.pointer (some ⟨g1,3,none⟩)) (fun a ha=>bH (ha.ev rfl) aYr rfl aYn rfl rfl) ?_
  refine JL.load (a0p eU dS eH dX dV eF dZ) HS 2 rfl rfl rfl aYp aYn rfl rfl ?_
  refine Lv (.pointer (some ⟨g2,0,none⟩)) (fun a ha=>bH (ha.ev rfl) aYr rfl aYn rfl rfl) ?_
  refine JL.load (a0p dP di dM dB dw dJ dG) HS 1 rfl rfl rfl aYp aYn rfl rfl ?_
  refine Lv (.pointer (some ⟨g2,3,none⟩)) (fun a ha=>bH (ha.ev rfl) aYr rfl aYn rfl rfl) ?_
  refine JL.load (a0p dQ dm dO dD dA dK dI) HS 1 rfl rfl rfl aYp aYn rfl rfl ?_
  refine JL.buildSlice (ps:=[(0,(a0p eP dR eG dW dU eu dY)),(1,(a0p eU dS eH dX dV eF dZ)),(2,(a0p dP di dM dB dw dJ dG)),(3,(a0p dQ dm dO dD dA dK dI))]) (vs:=[.bool eP,.slice dR eG dW,.slice dU eu dY,.bool eU,.slice dS eH dX,.slice dV eF dZ,.bool dP,.slice di dM dB,.slice dw dJ dG,.bool dQ,.slice dm dO dD,.slice dA dK dI]) HS rfl (fun a ha=>by simp only [List.map_cons,List.map_nil,ha.ev (x := .tmp 10) (v:=(a0p eP dR eG dW dU eu dY)) rfl,ha.ev (x := .tmp 12) (v:=(a0p eU dS eH dX dV eF dZ)) rfl,ha.ev (x := .tmp 14) (v:=(a0p dP di dM dB dw dJ dG)) rfl,ha.ev (x := .tmp 16) (v:=(a0p dQ dm dO dD dA dK dI)) rfl]) aYC aYn aYs rfl rfl (by kernel_rfl) rfl (fun g6 w6 HS => ?_)
  refine JL.call rfl rfl aZi (aq6 HT HB HS (HS.at_ 2 rfl) (HS.at_ 3 rfl) (HS.at_ 0 rfl) (HS.at_ 1 rfl) (by omega)) (fun v7 w7 wM => ?_)
  obtain ⟨Dj,Ce,n7a,CP,Cm,Dc,CV,Dk,Cf,n7b,CQ,B7b,Df,CW,rfl,HS⟩:=wM
  refine JL.store HS rfl rfl (i:=1) rfl aYo rfl rfl rfl (vs':=(a0s Dj Ce n7a CP Cm Dc CV Dk Cf n7b CQ B7b Df CW)) rfl rfl (fun w8 HS => ?_)
  refine jn ?_
  refine JC.ret (fun a ha => ?_)
  repeat (first | refine dh ?_ | refine df ?_)
  refine fG (v:=(a0r Dj Ce n7a CP Cm Dc CV Dk Cf n7b CQ B7b Df CW)) ha Tryz.results65 (.agg rfl aYq aYo (HS.box _ (.tail _ (.head _))) rfl rfl) ⟨_,rfl,?_⟩
  exact ⟨_,_,_,_,_,_,_,_,_,_,_,_,_,_,rfl,HS.tY 4 10 0 1 rfl rfl rfl (fun _ h=>h.as (by have h1:=oP bu bn af ah; have h2:=oP bT bQ aI aJ; exact az0 h1 h2) (by omega)) rfl (fun _ h=>h.as (by have h1:=oP bu bn af ah; have h2:=oP bT bQ aI aJ; exact azX h1 h2) (by omega))⟩
set_option maxHeartbeats 400000 in
theorem aE8 (HT:Tz W0) (HB:Tab W0) {af:Rat} {bC:Nat} {bu:Bool} {ah:Rat} {bD:Nat} {bn:Bool} {aI:Rat} {bM:Nat} {bT:Bool} {aJ:Rat} {bP:Nat} {bQ:Bool} (HS:St W0 U Ps w) (f1a:FV (a0p ax ay aj c1a az ak aA) af bC bu w) (bI:FV (a0p aB aC n1b aG aF au aH) ah bD bn w) (fC:FV (a0p aP aQ aK aS aU aN aY) aI bM bT w) (fD:FV (a0p aV aW aO aX aZ aT bf) aJ bP bQ w) (hk:bC+bD+(bM+bP)≤200) (h1:(bV bu bn af ah)≤(bW bT bQ aI aJ)) (h2:(bV bT bQ aI aJ)≤(bW bu bn af ah)):bY Tryz.prog 55 [(a0r ax ay aj c1a az ak aA aB aC n1b aG aF au aH),(a0r aP aQ aK aS aU aN aY aV aW aO aX aZ aT bf)] w (yY W0 U Ps (gX (bV bu bn af ah) (bV bT bQ aI aJ)) (gY (bW bu bn af ah) (bW bT bQ aI aJ)) ((bC+bD)+(bM+bP)+2) (.int .i64 0)):=by
 have HS:=HS.add (FV.stable _ _ _ _) f1a
 have HS:=HS.add (FV.stable _ _ _ _) bI
 have HS:=HS.add (FV.stable _ _ _ _) fC
 have HS:=HS.add (FV.stable _ _ _ _) fD
 clear f1a bI fC fD
 refine iL Tryz.func55 rfl Tryz.ntmps55 rfl ?_
 refine JC.seq ?_
 refine JC.region ?_
 refine JL.box (vs:=(a0s ax ay aj c1a az ak aA aB aC n1b aG aF au aH)) HS rfl rfl rfl rfl (fun g1 w1 HS => ?_)
 refine JL.box (vs:=(a0s aP aQ aK aS aU aN aY aV aW aO aX aZ aT bf)) HS rfl rfl rfl rfl (fun g2 w2 HS => ?_)
 refine JL.alloc (vs:=cO) HS rfl aYt rfl rfl (fun g3 w3 HS => ?_)
 refine Lv (.int .i64 0) (fun a ha=>run_assign (ha.ev rfl)) ?_
 refine jn ?_
 refine JC.cut (ι:=FX) (fun ⟨eP,dR,eG,dW,dU,eu,dY,eU,dS,eH,dX,dV,eF,dZ,dP,di,dM,dB,dw,dJ,dG,dQ,dm,dO,dD,dA,dK,dI⟩=>[(0,(a0r ax ay aj c1a az ak aA aB aC n1b aG aF au aH)),(1,(a0r aP aQ aK aS aU aN aY aV aW aO aX aZ aT bf)),(2,.pointer (some ⟨g1,0,none⟩)),(3,.pointer (some ⟨g2,0,none⟩)),(4,.pointer (some ⟨g3,0,none⟩)),(5,.int .i64 0)]) (fun ⟨eP,dR,eG,dW,dU,eu,dY,eU,dS,eH,dX,dV,eF,dZ,dP,di,dM,dB,dw,dJ,dG,dQ,dm,dO,dD,dA,dK,dI⟩ w=>St W0 (⟨g3,48,cO⟩ :: ⟨g2,48,(a0s dP di dM dB dw dJ dG dQ dm dO dD dA dK dI)⟩ :: ⟨g1,48,(a0s eP dR eG dW dU eu dY eU dS eH dX dV eF dZ)⟩ :: U) (FV (a0p dP di dM dB dw dJ dG) (bV bT bQ aI aJ) (bM+bP) true :: FV (a0p dQ dm dO dD dA dK dI) (bW bT bQ aI aJ) (bM+bP) true :: FV (a0p eP dR eG dW dU eu dY) (bV bu bn af ah) (bC+bD) true :: FV (a0p eU dS eH dX dV eF dZ) (bW bu bn af ah) (bC+bD) true :: FV (a0p aV aW aO aX aZ aT bf) aJ bP bQ :: FV (a0p aP aQ aK aS aU aN aY) aI bM bT :: FV (a0p aB aC n1b aG aF au aH) ah bD bn :: FV (a0p ax ay aj c1a az ak aA) af bC bu :: Ps) w) ?_ ?_
 ·skip
  refine JC.draw HS [4,5] (by kernel_rfl) (fun w5 HS => ?_)
  refine Da (a0r ax ay aj c1a az ak aA aB aC n1b aG aF au aH) 0 2 rfl HS.b0 rfl rfl aYq aYo ?_
  refine JR.any [1,2] (by kernel_rfl) rfl ?_
  refine ai.call rfl rfl rfl aYE (vT HT HB HS (HS.at_ 3 rfl) (HS.at_ 2 rfl) (by omega)) rfl (fun yL yN pq => ?_) ?_
  ·skip
   obtain ⟨eP,dR,eG,dW,dU,eu,dY,eU,dS,eH,dX,dV,eF,dZ,rfl,HS⟩:=pq
   refine ⟨HS.b0,?_⟩
   refine J1 2 (by kernel_rfl) ?_
   refine ai.load (a0r aP aQ aK aS aU aN aY aV aW aO aX aZ aT bf) HS 1 rfl rfl rfl rfl aYq aYo rfl rfl rfl ?_ ai.nil
   refine ⟨HS.b0,?_⟩
   refine bJ 3 rfl rfl rfl aYE (vT HT HB HS (HS.at_ 3 rfl) (HS.at_ 2 rfl) (by omega)) (fun yM yO pz => ?_)
   obtain ⟨dP,di,dM,dB,dw,dJ,dG,dQ,dm,dO,dD,dA,dK,dI,rfl,HS⟩:=pz
   refine ⟨HS.b0,?_⟩
   refine bF 4 (a0s eP dR eG dW dU eu dY eU dS eH dX dV eF dZ) HS 2 rfl rfl rfl rfl aYo (fun _ HS=>⟨(eX (s:=4) rfl rfl),?_⟩)
   refine bF 5 (a0s dP di dM dB dw dJ dG dQ dm dO dD dA dK dI) HS 1 rfl rfl rfl rfl aYo (fun _ HS=>⟨(eX (s:=4) rfl rfl),?_⟩)
   exact JR.mt (eP,dR,eG,dW,dU,eu,dY,eU,dS,eH,dX,dV,eF,dZ,dP,di,dM,dB,dw,dJ,dG,dQ,dm,dO,dD,dA,dK,dI) HS
  refine ai.load (a0r aP aQ aK aS aU aN aY aV aW aO aX aZ aT bf) HS 1 rfl rfl rfl rfl aYq aYo rfl rfl rfl ?_ ai.nil
  refine ⟨HS.b0,?_⟩
  refine bJ 1 rfl rfl rfl aYE (vT HT HB HS (HS.at_ 3 rfl) (HS.at_ 2 rfl) (by omega)) (fun yL yN pq => ?_)
  obtain ⟨eP,dR,eG,dW,dU,eu,dY,eU,dS,eH,dX,dV,eF,dZ,rfl,HS⟩:=pq
  refine ⟨HS.b0,?_⟩
  refine bJ 3 rfl rfl rfl aYE (vT HT HB HS (HS.at_ 3 rfl) (HS.at_ 2 rfl) (by omega)) (fun yM yO pz => ?_)
  obtain ⟨dP,di,dM,dB,dw,dJ,dG,dQ,dm,dO,dD,dA,dK,dI,rfl,HS⟩:=pz
  refine ⟨HS.b0,?_⟩
  refine bF 4 (a0s eP dR eG dW dU eu dY eU dS eH dX dV eF dZ) HS 2 rfl rfl rfl rfl aYo (fun _ HS=>⟨(eX (s:=4) rfl rfl),?_⟩)
  refine bF 5 (a0s dP di dM dB dw dJ dG dQ dm dO dD dA dK dI) HS 1 rfl rfl rfl rfl aYo (fun _ HS=>⟨(eX (s:=4) rfl rfl),?_⟩)
  exact JR.mt (eP,dR,eG,dW,dU,eu,dY,eU,dS,eH,dX,dV,eF,dZ,dP,di,dM,dB,dw,dJ,dG,dQ,dm,dO,dD,dA,dK,dI) HS
 ·skip
  rintro ⟨eP,dR,eG,dW,dU,eu,dY,eU,dS,eH,dX,dV,eF,dZ,dP,di,dM,dB,dw,dJ,dG,dQ,dm,dO,dD,dA,dK,dI⟩ H8 HS
  try dsimp only at HS ⊢
  refine JC.cut (ι:=PT) (fun ⟨jr,iU,jm,jb,iY,ji,je,iF,ig,iE,iw,iq,iD,iC,o8,o9⟩=>[(0,(a0r ax ay aj c1a az ak aA aB aC n1b aG aF au aH)),(1,(a0r aP aQ aK aS aU aN aY aV aW aO aX aZ aT bf)),(2,.pointer (some ⟨g1,0,none⟩)),(3,.pointer (some ⟨g2,0,none⟩)),(4,.pointer (some ⟨g3,0,none⟩)),(5,.int .i64 0),(6,.pointer (some ⟨o8,0,none⟩)),(7,.pointer (some ⟨o9,0,none⟩))]) (fun ⟨jr,iU,jm,jb,iY,ji,je,iF,ig,iE,iw,iq,iD,iC,o8,o9⟩ w=>St W0 (⟨o9,24,(a0q iF ig iE iw iq iD iC)⟩ :: ⟨o8,24,(a0q jr iU jm jb iY ji je)⟩ :: ⟨g3,48,cO⟩ :: ⟨g2,48,(a0s dP di dM dB dw dJ dG dQ dm dO dD dA dK dI)⟩ :: ⟨g1,48,(a0s eP dR eG dW dU eu dY eU dS eH dX dV eF dZ)⟩ :: U) (FV (a0p iF ig iE iw iq iD iC) (gY (bW bu bn af ah) (bW bT bQ aI aJ)) ((bC+bD)+(bM+bP)+2) true :: FV (a0p jr iU jm jb iY ji je) (gX (bV bu bn af ah) (bV bT bQ aI aJ)) ((bC+bD)+(bM+bP)+2) true :: FV (a0p dP di dM dB dw dJ dG) (bV bT bQ aI aJ) (bM+bP) true :: FV (a0p dQ dm dO dD dA dK dI) (bW bT bQ aI aJ) (bM+bP) true :: FV (a0p eP dR eG dW dU eu dY) (bV bu bn af ah) (bC+bD) true :: FV (a0p eU dS eH dX dV eF dZ) (bW bu bn af ah) (bC+bD) true :: FV (a0p aV aW aO aX aZ aT bf) aJ bP bQ :: FV (a0p aP aQ aK aS aU aN aY) aI bM bT :: FV (a0p aB aC n1b aG aF au aH) ah bD bn :: FV (a0p ax ay aj c1a az ak aA) af bC bu :: Ps) w) ?_ ?_
  ·skip
   refine JC.draw HS [] (by kernel_rfl) (fun w7 HS => ?_)
   refine Dv (.pointer (some ⟨g1,0,none⟩)) 0 rfl HS.b0 (fun a ha w=>bH (ha.ev rfl) aYr rfl aYn rfl rfl) ?_
   refine Da (a0p eP dR eG dW dU eu dY) 1 2 rfl HS.b0 rfl rfl aYp aYn ?_
   refine Dv (.pointer (some ⟨g2,0,none⟩)) 2 rfl HS.b0 (fun a ha w=>bH (ha.ev rfl) aYr rfl aYn rfl rfl) ?_
   refine Da (a0p dP di dM dB dw dJ dG) 3 1 rfl HS.b0 rfl rfl aYp aYn ?_
   refine Dv (.pointer (some ⟨g1,3,none⟩)) 5 rfl HS.b0 (fun a ha w=>bH (ha.ev rfl) aYr rfl aYn rfl rfl) ?_
   refine Da (a0p eU dS eH dX dV eF dZ) 6 2 rfl HS.b0 rfl rfl aYp aYn ?_
   refine Dv (.pointer (some ⟨g2,3,none⟩)) 7 rfl HS.b0 (fun a ha w=>bH (ha.ev rfl) aYr rfl aYn rfl rfl) ?_
   refine Da (a0p dQ dm dO dD dA dK dI) 8 1 rfl HS.b0 rfl rfl aYp aYn ?_
   refine JR.any [4,10,11] (by kernel_rfl) rfl ?_
   refine ai.call rfl rfl rfl aYI (yK HT HB HS (HS.at_ 2 rfl) (HS.at_ 0 rfl) (by omega)) rfl (fun O0 O8 AV => ?_) ?_
   ·skip
    obtain ⟨jr,iU,jm,jb,iY,ji,je,rfl,HS⟩:=AV
    refine ⟨HS.b0,?_⟩
    refine JR.any [9,10,11] (by kernel_rfl) rfl ?_
    refine ai.call rfl rfl rfl aYB (vg HT HB HS (HS.at_ 4 rfl) (HS.at_ 2 rfl) (by omega)) rfl (fun zV zW rQ => ?_) ?_
    ·skip
     obtain ⟨iF,ig,iE,iw,iq,iD,iC,rfl,HS⟩:=rQ
     refine ⟨HS.b0,?_⟩
     refine JR.any [10,11] (by kernel_rfl) rfl ?_
     refine ai.alloc (vs:=bU) HS rfl rfl aYs rfl rfl rfl (fun o8 J5 HS => ?_) ?_
     ·skip
      refine ⟨HS.b1,?_⟩
      refine jy (vs:=bU) 11 HS rfl aYs rfl (fun o9 _ HS=>⟨HS.b2,?_⟩)
      refine bF 12 (a0q jr iU jm jb iY ji je) HS 1 rfl rfl rfl rfl aYn (fun _ HS=>⟨HS.b2,?_⟩)
      refine bF 13 (a0q iF ig iE iw iq iD iC) HS 0 rfl rfl rfl rfl aYn (fun _ HS=>⟨HS.b2,?_⟩)
      exact JR.mt (jr,iU,jm,jb,iY,ji,je,iF,ig,iE,iw,iq,iD,iC,o8,o9) HS
     refine ai.alloc (vs:=bU) HS rfl rfl aYs rfl rfl rfl (fun o9 J6 HS => ?_) ai.nil
     refine ⟨HS.b1,?_⟩
     refine jy (vs:=bU) 10 HS rfl aYs rfl (fun o8 _ HS=>⟨HS.b2,?_⟩)
     refine bF 12 (a0q jr iU jm jb iY ji je) HS 0 rfl rfl rfl rfl aYn (fun _ HS=>⟨HS.b2,?_⟩)
     refine bF 13 (a0q iF ig iE iw iq iD iC) HS 1 rfl rfl rfl rfl aYn (fun _ HS=>⟨HS.b2,?_⟩)
     exact JR.mt (jr,iU,jm,jb,iY,ji,je,iF,ig,iE,iw,iq,iD,iC,o8,o9) (HS.perm (.swap _ _ _))
    refine ai.alloc (vs:=bU) HS rfl rfl aYs rfl rfl rfl (fun o8 J5 HS => ?_) ?_
    ·skip
     refine ⟨HS.b1,?_⟩
     refine JR.any [9,11] (by kernel_rfl) rfl ?_
     refine ai.call rfl rfl rfl aYB (vg HT HB HS (HS.at_ 4 rfl) (HS.at_ 2 rfl) (by omega)) rfl (fun zV zW rQ => ?_) ?_
     ·skip
      obtain ⟨iF,ig,iE,iw,iq,iD,iC,rfl,HS⟩:=rQ
      refine ⟨HS.b1,?_⟩
      refine jy (vs:=bU) 11 HS rfl aYs rfl (fun o9 _ HS=>⟨HS.b2,?_⟩)
      refine bF 12 (a0q jr iU jm jb iY ji je) HS 1 rfl rfl rfl rfl aYn (fun _ HS=>⟨HS.b2,?_⟩)
      refine bF 13 (a0q iF ig iE iw iq iD iC) HS 0 rfl rfl rfl rfl aYn (fun _ HS=>⟨HS.b2,?_⟩)
      exact JR.mt (jr,iU,jm,jb,iY,ji,je,iF,ig,iE,iw,iq,iD,iC,o8,o9) HS
     refine ai.alloc (vs:=bU) HS rfl rfl aYs rfl rfl rfl (fun o9 J6 HS => ?_) ai.nil
     refine ⟨HS.b2,?_⟩
     refine bJ 9 rfl rfl rfl aYB (vg HT HB HS (HS.at_ 4 rfl) (HS.at_ 2 rfl) (by omega)) (fun zV zW rQ => ?_)
     obtain ⟨iF,ig,iE,iw,iq,iD,iC,rfl,HS⟩:=rQ
     refine ⟨HS.b2,?_⟩
     refine bF 12 (a0q jr iU jm jb iY ji je) HS 1 rfl rfl rfl rfl aYn (fun _ HS=>⟨HS.b2,?_⟩)
     refine bF 13 (a0q iF ig iE iw iq iD iC) HS 0 rfl rfl rfl rfl aYn (fun _ HS=>⟨HS.b2,?_⟩)
     exact JR.mt (jr,iU,jm,jb,iY,ji,je,iF,ig,iE,iw,iq,iD,iC,o8,o9) HS
    refine ai.alloc (vs:=bU) HS rfl rfl aYs rfl rfl rfl (fun o9 J6 HS => ?_) ai.nil
    refine ⟨HS.b1,?_⟩
    refine JR.any [9,10] (by kernel_rfl) rfl ?_
    refine ai.call rfl rfl rfl aYB (vg HT HB HS (HS.at_ 4 rfl) (HS.at_ 2 rfl) (by omega)) rfl (fun zV zW rQ => ?_) ?_
    ·skip
     obtain ⟨iF,ig,iE,iw,iq,iD,iC,rfl,HS⟩:=rQ
     refine ⟨HS.b1,?_⟩
     refine jy (vs:=bU) 10 HS rfl aYs rfl (fun o8 _ HS=>⟨HS.b2,?_⟩)
     refine bF 12 (a0q jr iU jm jb iY ji je) HS 0 rfl rfl rfl rfl aYn (fun _ HS=>⟨HS.b2,?_⟩)
     refine bF 13 (a0q iF ig iE iw iq iD iC) HS 1 rfl rfl rfl rfl aYn (fun _ HS=>⟨HS.b2,?_⟩)
     exact JR.mt (jr,iU,jm,jb,iY,ji,je,iF,ig,iE,iw,iq,iD,iC,o8,o9) (HS.perm (.swap _ _ _))
    refine ai.alloc (vs:=bU) HS rfl rfl aYs rfl rfl rfl (fun o8 J5 HS => ?_) ai.nil
    refine ⟨HS.b2,?_⟩
    refine bJ 9 rfl rfl rfl aYB (vg HT HB HS (HS.at_ 4 rfl) (HS.at_ 2 rfl) (by omega)) (fun zV zW rQ => ?_)
    obtain ⟨iF,ig,iE,iw,iq,iD,iC,rfl,HS⟩:=rQ
    refine ⟨HS.b2,?_⟩
    refine bF 12 (a0q jr iU jm jb iY ji je) HS 0 rfl rfl rfl rfl aYn (fun _ HS=>⟨HS.b2,?_⟩)
    refine bF 13 (a0q iF ig iE iw iq iD iC) HS 1 rfl rfl rfl rfl aYn (fun _ HS=>⟨HS.b2,?_⟩)
    exact JR.mt (jr,iU,jm,jb,iY,ji,je,iF,ig,iE,iw,iq,iD,iC,o8,o9) (HS.perm (.swap _ _ _))
   refine ai.alloc (vs:=bU) HS rfl rfl aYs rfl rfl rfl (fun o8 J5 HS => ?_) ?_
   ·skip
    refine ⟨HS.b1,?_⟩
    refine JR.any [4,11] (by kernel_rfl) rfl ?_
    refine ai.call rfl rfl rfl aYI (yK HT HB HS (HS.at_ 2 rfl) (HS.at_ 0 rfl) (by omega)) rfl (fun O0 O8 AV => ?_) ?_
    ·skip
     obtain ⟨jr,iU,jm,jb,iY,ji,je,rfl,HS⟩:=AV
     refine ⟨HS.b1,?_⟩
     refine JR.any [9,11] (by kernel_rfl) rfl ?_
     refine ai.call rfl rfl rfl aYB (vg HT HB HS (HS.at_ 4 rfl) (HS.at_ 2 rfl) (by omega)) rfl (fun zV zW rQ => ?_) ?_
     ·skip
      obtain ⟨iF,ig,iE,iw,iq,iD,iC,rfl,HS⟩:=rQ
      refine ⟨HS.b1,?_⟩
      refine jy (vs:=bU) 11 HS rfl aYs rfl (fun o9 _ HS=>⟨HS.b2,?_⟩)
      refine bF 12 (a0q jr iU jm jb iY ji je) HS 1 rfl rfl rfl rfl aYn (fun _ HS=>⟨HS.b2,?_⟩)
      refine bF 13 (a0q iF ig iE iw iq iD iC) HS 0 rfl rfl rfl rfl aYn (fun _ HS=>⟨HS.b2,?_⟩)
      exact JR.mt (jr,iU,jm,jb,iY,ji,je,iF,ig,iE,iw,iq,iD,iC,o8,o9) HS
     refine ai.alloc (vs:=bU) HS rfl rfl aYs rfl rfl rfl (fun o9 J6 HS => ?_) ai.nil
     refine ⟨HS.b2,?_⟩
     refine bJ 9 rfl rfl rfl aYB (vg HT HB HS (HS.at_ 4 rfl) (HS.at_ 2 rfl) (by omega)) (fun zV zW rQ => ?_)
     obtain ⟨iF,ig,iE,iw,iq,iD,iC,rfl,HS⟩:=rQ
     refine ⟨HS.b2,?_⟩
     refine bF 12 (a0q jr iU jm jb iY ji je) HS 1 rfl rfl rfl rfl aYn (fun _ HS=>⟨HS.b2,?_⟩)
     refine bF 13 (a0q iF ig iE iw iq iD iC) HS 0 rfl rfl rfl rfl aYn (fun _ HS=>⟨HS.b2,?_⟩)
     exact JR.mt (jr,iU,jm,jb,iY,ji,je,iF,ig,iE,iw,iq,iD,iC,o8,o9) HS
    refine ai.alloc (vs:=bU) HS rfl rfl aYs rfl rfl rfl (fun o9 J6 HS => ?_) ai.nil
    refine ⟨HS.b2,?_⟩
    refine bJ 4 rfl rfl rfl aYI (yK HT HB HS (HS.at_ 2 rfl) (HS.at_ 0 rfl) (by omega)) (fun O0 O8 AV => ?_)
    obtain ⟨jr,iU,jm,jb,iY,ji,je,rfl,HS⟩:=AV
    refine ⟨HS.b2,?_⟩
    refine bJ 9 rfl rfl rfl aYB (vg HT HB HS (HS.at_ 4 rfl) (HS.at_ 2 rfl) (by omega)) (fun zV zW rQ => ?_)
    obtain ⟨iF,ig,iE,iw,iq,iD,iC,rfl,HS⟩:=rQ
    refine ⟨HS.b2,?_⟩
    refine bF 12 (a0q jr iU jm jb iY ji je) HS 1 rfl rfl rfl rfl aYn (fun _ HS=>⟨HS.b2,?_⟩)
    refine bF 13 (a0q iF ig iE iw iq iD iC) HS 0 rfl rfl rfl rfl aYn (fun _ HS=>⟨HS.b2,?_⟩)
    exact JR.mt (jr,iU,jm,jb,iY,ji,je,iF,ig,iE,iw,iq,iD,iC,o8,o9) HS
   refine ai.alloc (vs:=bU) HS rfl rfl aYs rfl rfl rfl (fun o9 J6 HS => ?_) ai.nil
   refine ⟨HS.b1,?_⟩
   refine JR.any [4,10] (by kernel_rfl) rfl ?_
   refine ai.call rfl rfl rfl aYI (yK HT HB HS (HS.at_ 2 rfl) (HS.at_ 0 rfl) (by omega)) rfl (fun O0 O8 AV => ?_) ?_
   ·skip
    obtain ⟨jr,iU,jm,jb,iY,ji,je,rfl,HS⟩:=AV
    refine ⟨HS.b1,?_⟩
    refine JR.any [9,10] (by kernel_rfl) rfl ?_
    refine ai.call rfl rfl rfl aYB (vg HT HB HS (HS.at_ 4 rfl) (HS.at_ 2 rfl) (by omega)) rfl (fun zV zW rQ => ?_) ?_
    ·skip
     obtain ⟨iF,ig,iE,iw,iq,iD,iC,rfl,HS⟩:=rQ
     refine ⟨HS.b1,?_⟩
     refine jy (vs:=bU) 10 HS rfl aYs rfl (fun o8 _ HS=>⟨HS.b2,?_⟩)
     refine bF 12 (a0q jr iU jm jb iY ji je) HS 0 rfl rfl rfl rfl aYn (fun _ HS=>⟨HS.b2,?_⟩)
     refine bF 13 (a0q iF ig iE iw iq iD iC) HS 1 rfl rfl rfl rfl aYn (fun _ HS=>⟨HS.b2,?_⟩)
     exact JR.mt (jr,iU,jm,jb,iY,ji,je,iF,ig,iE,iw,iq,iD,iC,o8,o9) (HS.perm (.swap _ _ _))
    refine ai.alloc (vs:=bU) HS rfl rfl aYs rfl rfl rfl (fun o8 J5 HS => ?_) ai.nil
    refine ⟨HS.b2,?_⟩
    refine bJ 9 rfl rfl rfl aYB (vg HT HB HS (HS.at_ 4 rfl) (HS.at_ 2 rfl) (by omega)) (fun zV zW rQ => ?_)
    obtain ⟨iF,ig,iE,iw,iq,iD,iC,rfl,HS⟩:=rQ
    refine ⟨HS.b2,?_⟩
    refine bF 12 (a0q jr iU jm jb iY ji je) HS 0 rfl rfl rfl rfl aYn (fun _ HS=>⟨HS.b2,?_⟩)
    refine bF 13 (a0q iF ig iE iw iq iD iC) HS 1 rfl rfl rfl rfl aYn (fun _ HS=>⟨HS.b2,?_⟩)
    exact JR.mt (jr,iU,jm,jb,iY,ji,je,iF,ig,iE,iw,iq,iD,iC,o8,o9) (HS.perm (.swap _ _ _))
   refine ai.alloc (vs:=bU) HS rfl rfl aYs rfl rfl rfl (fun o8 J5 HS => ?_) ai.nil
   refine ⟨HS.b2,?_⟩
   refine bJ 4 rfl rfl rfl aYI (yK HT HB HS (HS.at_ 2 rfl) (HS.at_ 0 rfl) (by omega)) (fun O0 O8 AV => ?_)
   obtain ⟨jr,iU,jm,jb,iY,ji,je,rfl,HS⟩:=AV
   refine ⟨HS.b2,?_⟩
   refine bJ 9 rfl rfl rfl aYB (vg HT HB HS (HS.at_ 4 rfl) (HS.at_ 2 rfl) (by omega)) (fun zV zW rQ => ?_)
   obtain ⟨iF,ig,iE,iw,iq,iD,iC,rfl,HS⟩:=rQ
   refine ⟨HS.b2,?_⟩
   refine bF 12 (a0q jr iU jm jb iY ji je) HS 0 rfl rfl rfl rfl aYn (fun _ HS=>⟨HS.b2,?_⟩)
   refine bF 13 (a0q iF ig iE iw iq iD iC) HS 1 rfl rfl rfl rfl aYn (fun _ HS=>⟨HS.b2,?_⟩)
   exact JR.mt (jr,iU,jm,jb,iY,ji,je,iF,ig,iE,iw,iq,iD,iC,o8,o9) (HS.perm (.swap _ _ _))
  ·skip
   rintro ⟨jr,iU,jm,jb,iY,ji,je,iF,ig,iE,iw,iq,iD,iC,o8,o9⟩ aHA HS
   try dsimp only at HS ⊢
   refine JC.seq ?_
   refine JC.seq ?_
   refine JC.region ?_
   refine JL.load (a0p jr iU jm jb iY ji je) HS 1 rfl rfl rfl aYp aYn rfl rfl ?_
   refine JL.load (a0p iF ig iE iw iq iD iC) HS 0 rfl rfl rfl aYp aYn rfl rfl ?_
   refine JL.call rfl rfl aZd (Qb HT HB HS (HS.at_ 1 rfl) (HS.at_ 0 rfl) (by omega)) (fun v8 w8 CJ => ?_)
   obtain ⟨rfl,HS⟩:=CJ
   refine Lv (.bool false) (fun a ha=>wH (ha.ev rfl) (ha.ev rfl) ((Kr _ _).trans (decide_eq_false (aoX (oP _ _ _ _) (oP _ _ _ _) h1 h2)))) ?_
   refine jn ?_
   refine JC.jA rfl ?_
   refine JC.jF (fun _ _ h=>h) ?_
   refine JC.seq ?_
   refine JC.region ?_
   refine JL.load (a0p jr iU jm jb iY ji je) HS 1 rfl rfl rfl aYp aYn rfl rfl ?_
   refine JL.load (a0p iF ig iE iw iq iD iC) HS 0 rfl rfl rfl aYp aYn rfl rfl ?_
   refine Lv (a0r jr iU jm jb iY ji je iF ig iE iw iq iD iC) (fun a ha=>bZ.run_build (vs:=[(0,(a0p jr iU jm jb iY ji je)),(1,(a0p iF ig iE iw iq iD iC))]) (by simp only [List.map_cons,List.map_nil,ha.ev (x := .tmp 27) (v:=(a0p jr iU jm jb iY ji je)) rfl,ha.ev (x := .tmp 28) (v:=(a0p iF ig iE iw iq iD iC)) rfl]) aYr aYt pV rfl) ?_
   refine JL.store HS rfl rfl (i:=2) rfl aYo rfl rfl rfl (vs':=(a0s jr iU jm jb iY ji je iF ig iE iw iq iD iC)) rfl rfl (fun w9 HS => ?_)
   refine Lv (.int .i64 0) (fun a ha=>run_assign (ha.ev rfl)) ?_
   refine jn ?_
   refine JC.ret (fun a ha => ?_)
   repeat (first | refine dh ?_ | refine df ?_)
   refine vI (v:=(a0r jr iU jm jb iY ji je iF ig iE iw iq iD iC)) (v' := .int .i64 0) ha Tryz.results55 (.agg rfl aYq aYo (HS.box _ (.tail _ (.tail _ (.head _)))) rfl rfl) (.tmp rfl) ⟨_,rfl,?_⟩
   exact ⟨_,_,_,_,_,_,_,_,_,_,_,_,_,_,rfl,HS.tY 5 10 1 0 rfl rfl rfl (fun _ h=>h.as rfl (by omega)) rfl (fun _ h=>h.as rfl (by omega))⟩
set_option maxHeartbeats 400000 in
theorem aE9 (HT:Tz W0) (HB:Tab W0) {af:Rat} {bC:Nat} {bu:Bool} {ah:Rat} {bD:Nat} {bn:Bool} {aI:Rat} {bM:Nat} {bT:Bool} {aJ:Rat} {bP:Nat} {bQ:Bool} (HS:St W0 U Ps w) (f1a:FV (a0p ax ay aj c1a az ak aA) af bC bu w) (bI:FV (a0p aB aC n1b aG aF au aH) ah bD bn w) (fC:FV (a0p aP aQ aK aS aU aN aY) aI bM bT w) (fD:FV (a0p aV aW aO aX aZ aT bf) aJ bP bQ w) (hk:bC+bD+(bM+bP)≤200) (hc:(bW bT bQ aI aJ) < (bV bu bn af ah)∨(bW bu bn af ah) < (bV bT bQ aI aJ)):bY Tryz.prog 55 [(a0r ax ay aj c1a az ak aA aB aC n1b aG aF au aH),(a0r aP aQ aK aS aU aN aY aV aW aO aX aZ aT bf)] w (iP W0 U Ps (.tuple #[fO,.int .i64 16])):=by
 have HS:=HS.add (FV.stable _ _ _ _) f1a
 have HS:=HS.add (FV.stable _ _ _ _) bI
 have HS:=HS.add (FV.stable _ _ _ _) fC
 have HS:=HS.add (FV.stable _ _ _ _) fD
 clear f1a bI fC fD
 refine iL Tryz.func55 rfl Tryz.ntmps55 rfl ?_
 refine JC.seq ?_
 refine JC.region ?_
 refine JL.box (vs:=(a0s ax ay aj c1a az ak aA aB aC n1b aG aF au aH)) HS rfl rfl rfl rfl (fun g1 w1 HS => ?_)
 refine JL.box (vs:=(a0s aP aQ aK aS aU aN aY aV aW aO aX aZ aT bf)) HS rfl rfl rfl rfl (fun g2 w2 HS => ?_)
 refine JL.alloc (vs:=cO) HS rfl aYt rfl rfl (fun g3 w3 HS => ?_)
 refine Lv (.int .i64 0) (fun a ha=>run_assign (ha.ev rfl)) ?_
 refine jn ?_
 refine JC.cut (ι:=FX) (fun ⟨eP,dR,eG,dW,dU,eu,dY,eU,dS,eH,dX,dV,eF,dZ,dP,di,dM,dB,dw,dJ,dG,dQ,dm,dO,dD,dA,dK,dI⟩=>[(0,(a0r ax ay aj c1a az ak aA aB aC n1b aG aF au aH)),(1,(a0r aP aQ aK aS aU aN aY aV aW aO aX aZ aT bf)),(2,.pointer (some ⟨g1,0,none⟩)),(3,.pointer (some ⟨g2,0,none⟩)),(4,.pointer (some ⟨g3,0,none⟩)),(5,.int .i64 0)]) (fun ⟨eP,dR,eG,dW,dU,eu,dY,eU,dS,eH,dX,dV,eF,dZ,dP,di,dM,dB,dw,dJ,dG,dQ,dm,dO,dD,dA,dK,dI⟩ w=>St W0 (⟨g3,48,cO⟩ :: ⟨g2,48,(a0s dP di dM dB dw dJ dG dQ dm dO dD dA dK dI)⟩ :: ⟨g1,48,(a0s eP dR eG dW dU eu dY eU dS eH dX dV eF dZ)⟩ :: U) (FV (a0p dP di dM dB dw dJ dG) (bV bT bQ aI aJ) (bM+bP) true :: FV (a0p dQ dm dO dD dA dK dI) (bW bT bQ aI aJ) (bM+bP) true :: FV (a0p eP dR eG dW dU eu dY) (bV bu bn af ah) (bC+bD) true :: FV (a0p eU dS eH dX dV eF dZ) (bW bu bn af ah) (bC+bD) true :: FV (a0p aV aW aO aX aZ aT bf) aJ bP bQ :: FV (a0p aP aQ aK aS aU aN aY) aI bM bT :: FV (a0p aB aC n1b aG aF au aH) ah bD bn :: FV (a0p ax ay aj c1a az ak aA) af bC bu :: Ps) w) ?_ ?_
 ·skip
  refine JC.draw HS [4,5] (by kernel_rfl) (fun w5 HS => ?_)
  refine Da (a0r ax ay aj c1a az ak aA aB aC n1b aG aF au aH) 0 2 rfl HS.b0 rfl rfl aYq aYo ?_
  refine JR.any [1,2] (by kernel_rfl) rfl ?_
  refine ai.call rfl rfl rfl aYE (vT HT HB HS (HS.at_ 3 rfl) (HS.at_ 2 rfl) (by omega)) rfl (fun yL yN pq => ?_) ?_
  ·skip
   obtain ⟨eP,dR,eG,dW,dU,eu,dY,eU,dS,eH,dX,dV,eF,dZ,rfl,HS⟩:=pq
   refine ⟨HS.b0,?_⟩
   refine J1 2 (by kernel_rfl) ?_
   refine ai.load (a0r aP aQ aK aS aU aN aY aV aW aO aX aZ aT bf) HS 1 rfl rfl rfl rfl aYq aYo rfl rfl rfl ?_ ai.nil
   refine ⟨HS.b0,?_⟩
   refine bJ 3 rfl rfl rfl aYE (vT HT HB HS (HS.at_ 3 rfl) (HS.at_ 2 rfl) (by omega)) (fun yM yO pz => ?_)
   obtain ⟨dP,di,dM,dB,dw,dJ,dG,dQ,dm,dO,dD,dA,dK,dI,rfl,HS⟩:=pz
   refine ⟨HS.b0,?_⟩
   refine bF 4 (a0s eP dR eG dW dU eu dY eU dS eH dX dV eF dZ) HS 2 rfl rfl rfl rfl aYo (fun _ HS=>⟨(eX (s:=4) rfl rfl),?_⟩)
   refine bF 5 (a0s dP di dM dB dw dJ dG dQ dm dO dD dA dK dI) HS 1 rfl rfl rfl rfl aYo (fun _ HS=>⟨(eX (s:=4) rfl rfl),?_⟩)
   exact JR.mt (eP,dR,eG,dW,dU,eu,dY,eU,dS,eH,dX,dV,eF,dZ,dP,di,dM,dB,dw,dJ,dG,dQ,dm,dO,dD,dA,dK,dI) HS
  refine ai.load (a0r aP aQ aK aS aU aN aY aV aW aO aX aZ aT bf) HS 1 rfl rfl rfl rfl aYq aYo rfl rfl rfl ?_ ai.nil
  refine ⟨HS.b0,?_⟩
  refine bJ 1 rfl rfl rfl aYE (vT HT HB HS (HS.at_ 3 rfl) (HS.at_ 2 rfl) (by omega)) (fun yL yN pq => ?_)
  obtain ⟨eP,dR,eG,dW,dU,eu,dY,eU,dS,eH,dX,dV,eF,dZ,rfl,HS⟩:=pq
  refine ⟨HS.b0,?_⟩
  refine bJ 3 rfl rfl rfl aYE (vT HT HB HS (HS.at_ 3 rfl) (HS.at_ 2 rfl) (by omega)) (fun yM yO pz => ?_)
  obtain ⟨dP,di,dM,dB,dw,dJ,dG,dQ,dm,dO,dD,dA,dK,dI,rfl,HS⟩:=pz
  refine ⟨HS.b0,?_⟩
  refine bF 4 (a0s eP dR eG dW dU eu dY eU dS eH dX dV eF dZ) HS 2 rfl rfl rfl rfl aYo (fun _ HS=>⟨(eX (s:=4) rfl rfl),?_⟩)
  refine bF 5 (a0s dP di dM dB dw dJ dG dQ dm dO dD dA dK dI) HS 1 rfl rfl rfl rfl aYo (fun _ HS=>⟨(eX (s:=4) rfl rfl),?_⟩)
  exact JR.mt (eP,dR,eG,dW,dU,eu,dY,eU,dS,eH,dX,dV,eF,dZ,dP,di,dM,dB,dw,dJ,dG,dQ,dm,dO,dD,dA,dK,dI) HS
 ·skip
  rintro ⟨eP,dR,eG,dW,dU,eu,dY,eU,dS,eH,dX,dV,eF,dZ,dP,di,dM,dB,dw,dJ,dG,dQ,dm,dO,dD,dA,dK,dI⟩ H8 HS
  try dsimp only at HS ⊢
  refine JC.cut (ι:=PT) (fun ⟨jr,iU,jm,jb,iY,ji,je,iF,ig,iE,iw,iq,iD,iC,o8,o9⟩=>[(0,(a0r ax ay aj c1a az ak aA aB aC n1b aG aF au aH)),(1,(a0r aP aQ aK aS aU aN aY aV aW aO aX aZ aT bf)),(2,.pointer (some ⟨g1,0,none⟩)),(3,.pointer (some ⟨g2,0,none⟩)),(4,.pointer (some ⟨g3,0,none⟩)),(5,.int .i64 0),(6,.pointer (some ⟨o8,0,none⟩)),(7,.pointer (some ⟨o9,0,none⟩))]) (fun ⟨jr,iU,jm,jb,iY,ji,je,iF,ig,iE,iw,iq,iD,iC,o8,o9⟩ w=>St W0 (⟨o9,24,(a0q iF ig iE iw iq iD iC)⟩ :: ⟨o8,24,(a0q jr iU jm jb iY ji je)⟩ :: ⟨g3,48,cO⟩ :: ⟨g2,48,(a0s dP di dM dB dw dJ dG dQ dm dO dD dA dK dI)⟩ :: ⟨g1,48,(a0s eP dR eG dW dU eu dY eU dS eH dX dV eF dZ)⟩ :: U) (FV (a0p iF ig iE iw iq iD iC) (gY (bW bu bn af ah) (bW bT bQ aI aJ)) ((bC+bD)+(bM+bP)+2) true :: FV (a0p jr iU jm jb iY ji je) (gX (bV bu bn af ah) (bV bT bQ aI aJ)) ((bC+bD)+(bM+bP)+2) true :: FV (a0p dP di dM dB dw dJ dG) (bV bT bQ aI aJ) (bM+bP) true :: FV (a0p dQ dm dO dD dA dK dI) (bW bT bQ aI aJ) (bM+bP) true :: FV (a0p eP dR eG dW dU eu dY) (bV bu bn af ah) (bC+bD) true :: FV (a0p eU dS eH dX dV eF dZ) (bW bu bn af ah) (bC+bD) true :: FV (a0p aV aW aO aX aZ aT bf) aJ bP bQ :: FV (a0p aP aQ aK aS aU aN aY) aI bM bT :: FV (a0p aB aC n1b aG aF au aH) ah bD bn :: FV (a0p ax ay aj c1a az ak aA) af bC bu :: Ps) w) ?_ ?_
  ·skip
   refine JC.draw HS [] (by kernel_rfl) (fun w7 HS => ?_)
   refine Dv (.pointer (some ⟨g1,0,none⟩)) 0 rfl HS.b0 (fun a ha w=>bH (ha.ev rfl) aYr rfl aYn rfl rfl) ?_
   refine Da (a0p eP dR eG dW dU eu dY) 1 2 rfl HS.b0 rfl rfl aYp aYn ?_
   refine Dv (.pointer (some ⟨g2,0,none⟩)) 2 rfl HS.b0 (fun a ha w=>bH (ha.ev rfl) aYr rfl aYn rfl rfl) ?_
   refine Da (a0p dP di dM dB dw dJ dG) 3 1 rfl HS.b0 rfl rfl aYp aYn ?_
   refine Dv (.pointer (some ⟨g1,3,none⟩)) 5 rfl HS.b0 (fun a ha w=>bH (ha.ev rfl) aYr rfl aYn rfl rfl) ?_
   refine Da (a0p eU dS eH dX dV eF dZ) 6 2 rfl HS.b0 rfl rfl aYp aYn ?_
   refine Dv (.pointer (some ⟨g2,3,none⟩)) 7 rfl HS.b0 (fun a ha w=>bH (ha.ev rfl) aYr rfl aYn rfl rfl) ?_
   refine Da (a0p dQ dm dO dD dA dK dI) 8 1 rfl HS.b0 rfl rfl aYp aYn ?_
   refine JR.any [4,10,11] (by kernel_rfl) rfl ?_
   refine ai.call rfl rfl rfl aYI (yK HT HB HS (HS.at_ 2 rfl) (HS.at_ 0 rfl) (by omega)) rfl (fun O0 O8 AV => ?_) ?_
   ·skip
    obtain ⟨jr,iU,jm,jb,iY,ji,je,rfl,HS⟩:=AV
    refine ⟨HS.b0,?_⟩
    refine JR.any [9,10,11] (by kernel_rfl) rfl ?_
    refine ai.call rfl rfl rfl aYB (vg HT HB HS (HS.at_ 4 rfl) (HS.at_ 2 rfl) (by omega)) rfl (fun zV zW rQ => ?_) ?_
    ·skip
     obtain ⟨iF,ig,iE,iw,iq,iD,iC,rfl,HS⟩:=rQ
     refine ⟨HS.b0,?_⟩
     refine JR.any [10,11] (by kernel_rfl) rfl ?_
     refine ai.alloc (vs:=bU) HS rfl rfl aYs rfl rfl rfl (fun o8 J5 HS => ?_) ?_
     ·skip
      refine ⟨HS.b1,?_⟩
      refine jy (vs:=bU) 11 HS rfl aYs rfl (fun o9 _ HS=>⟨HS.b2,?_⟩)
      refine bF 12 (a0q jr iU jm jb iY ji je) HS 1 rfl rfl rfl rfl aYn (fun _ HS=>⟨HS.b2,?_⟩)
      refine bF 13 (a0q iF ig iE iw iq iD iC) HS 0 rfl rfl rfl rfl aYn (fun _ HS=>⟨HS.b2,?_⟩)
      exact JR.mt (jr,iU,jm,jb,iY,ji,je,iF,ig,iE,iw,iq,iD,iC,o8,o9) HS
     refine ai.alloc (vs:=bU) HS rfl rfl aYs rfl rfl rfl (fun o9 J6 HS => ?_) ai.nil
     refine ⟨HS.b1,?_⟩
     refine jy (vs:=bU) 10 HS rfl aYs rfl (fun o8 _ HS=>⟨HS.b2,?_⟩)
     refine bF 12 (a0q jr iU jm jb iY ji je) HS 0 rfl rfl rfl rfl aYn (fun _ HS=>⟨HS.b2,?_⟩)
     refine bF 13 (a0q iF ig iE iw iq iD iC) HS 1 rfl rfl rfl rfl aYn (fun _ HS=>⟨HS.b2,?_⟩)
     exact JR.mt (jr,iU,jm,jb,iY,ji,je,iF,ig,iE,iw,iq,iD,iC,o8,o9) (HS.perm (.swap _ _ _))
    refine ai.alloc (vs:=bU) HS rfl rfl aYs rfl rfl rfl (fun o8 J5 HS => ?_) ?_
    ·skip
     refine ⟨HS.b1,?_⟩
     refine JR.any [9,11] (by kernel_rfl) rfl ?_
     refine ai.call rfl rfl rfl aYB (vg HT HB HS (HS.at_ 4 rfl) (HS.at_ 2 rfl) (by omega)) rfl (fun zV zW rQ => ?_) ?_
     ·skip
      obtain ⟨iF,ig,iE,iw,iq,iD,iC,rfl,HS⟩:=rQ
      refine ⟨HS.b1,?_⟩
      refine jy (vs:=bU) 11 HS rfl aYs rfl (fun o9 _ HS=>⟨HS.b2,?_⟩)
      refine bF 12 (a0q jr iU jm jb iY ji je) HS 1 rfl rfl rfl rfl aYn (fun _ HS=>⟨HS.b2,?_⟩)
      refine bF 13 (a0q iF ig iE iw iq iD iC) HS 0 rfl rfl rfl rfl aYn (fun _ HS=>⟨HS.b2,?_⟩)
      exact JR.mt (jr,iU,jm,jb,iY,ji,je,iF,ig,iE,iw,iq,iD,iC,o8,o9) HS
     refine ai.alloc (vs:=bU) HS rfl rfl aYs rfl rfl rfl (fun o9 J6 HS => ?_) ai.nil
     refine ⟨HS.b2,?_⟩
     refine bJ 9 rfl rfl rfl aYB (vg HT HB HS (HS.at_ 4 rfl) (HS.at_ 2 rfl) (by omega)) (fun zV zW rQ => ?_)
     obtain ⟨iF,ig,iE,iw,iq,iD,iC,rfl,HS⟩:=rQ
     refine ⟨HS.b2,?_⟩
     refine bF 12 (a0q jr iU jm jb iY ji je) HS 1 rfl rfl rfl rfl aYn (fun _ HS=>⟨HS.b2,?_⟩)
     refine bF 13 (a0q iF ig iE iw iq iD iC) HS 0 rfl rfl rfl rfl aYn (fun _ HS=>⟨HS.b2,?_⟩)
     exact JR.mt (jr,iU,jm,jb,iY,ji,je,iF,ig,iE,iw,iq,iD,iC,o8,o9) HS
    refine ai.alloc (vs:=bU) HS rfl rfl aYs rfl rfl rfl (fun o9 J6 HS => ?_) ai.nil
    refine ⟨HS.b1,?_⟩
    refine JR.any [9,10] (by kernel_rfl) rfl ?_
    refine ai.call rfl rfl rfl aYB (vg HT HB HS (HS.at_ 4 rfl) (HS.at_ 2 rfl) (by omega)) rfl (fun zV zW rQ => ?_) ?_
    ·skip
     obtain ⟨iF,ig,iE,iw,iq,iD,iC,rfl,HS⟩:=rQ
     refine ⟨HS.b1,?_⟩
     refine jy (vs:=bU) 10 HS rfl aYs rfl (fun o8 _ HS=>⟨HS.b2,?_⟩)
     refine bF 12 (a0q jr iU jm jb iY ji je) HS 0 rfl rfl rfl rfl aYn (fun _ HS=>⟨HS.b2,?_⟩)
     refine bF 13 (a0q iF ig iE iw iq iD iC) HS 1 rfl rfl rfl rfl aYn (fun _ HS=>⟨HS.b2,?_⟩)
     exact JR.mt (jr,iU,jm,jb,iY,ji,je,iF,ig,iE,iw,iq,iD,iC,o8,o9) (HS.perm (.swap _ _ _))
    refine ai.alloc (vs:=bU) HS rfl rfl aYs rfl rfl rfl (fun o8 J5 HS => ?_) ai.nil
    refine ⟨HS.b2,?_⟩
    refine bJ 9 rfl rfl rfl aYB (vg HT HB HS (HS.at_ 4 rfl) (HS.at_ 2 rfl) (by omega)) (fun zV zW rQ => ?_)
    obtain ⟨iF,ig,iE,iw,iq,iD,iC,rfl,HS⟩:=rQ
    refine ⟨HS.b2,?_⟩
    refine bF 12 (a0q jr iU jm jb iY ji je) HS 0 rfl rfl rfl rfl aYn (fun _ HS=>⟨HS.b2,?_⟩)
    refine bF 13 (a0q iF ig iE iw iq iD iC) HS 1 rfl rfl rfl rfl aYn (fun _ HS=>⟨HS.b2,?_⟩)
    exact JR.mt (jr,iU,jm,jb,iY,ji,je,iF,ig,iE,iw,iq,iD,iC,o8,o9) (HS.perm (.swap _ _ _))
   refine ai.alloc (vs:=bU) HS rfl rfl aYs rfl rfl rfl (fun o8 J5 HS => ?_) ?_
   ·skip
    refine ⟨HS.b1,?_⟩
    refine JR.any [4,11] (by kernel_rfl) rfl ?_
    refine ai.call rfl rfl rfl aYI (yK HT HB HS (HS.at_ 2 rfl) (HS.at_ 0 rfl) (by omega)) rfl (fun O0 O8 AV => ?_) ?_
    ·skip
     obtain ⟨jr,iU,jm,jb,iY,ji,je,rfl,HS⟩:=AV
     refine ⟨HS.b1,?_⟩
     refine JR.any [9,11] (by kernel_rfl) rfl ?_
     refine ai.call rfl rfl rfl aYB (vg HT HB HS (HS.at_ 4 rfl) (HS.at_ 2 rfl) (by omega)) rfl (fun zV zW rQ => ?_) ?_
     ·skip
      obtain ⟨iF,ig,iE,iw,iq,iD,iC,rfl,HS⟩:=rQ
      refine ⟨HS.b1,?_⟩
      refine jy (vs:=bU) 11 HS rfl aYs rfl (fun o9 _ HS=>⟨HS.b2,?_⟩)
      refine bF 12 (a0q jr iU jm jb iY ji je) HS 1 rfl rfl rfl rfl aYn (fun _ HS=>⟨HS.b2,?_⟩)
      refine bF 13 (a0q iF ig iE iw iq iD iC) HS 0 rfl rfl rfl rfl aYn (fun _ HS=>⟨HS.b2,?_⟩)
      exact JR.mt (jr,iU,jm,jb,iY,ji,je,iF,ig,iE,iw,iq,iD,iC,o8,o9) HS
     refine ai.alloc (vs:=bU) HS rfl rfl aYs rfl rfl rfl (fun o9 J6 HS => ?_) ai.nil
     refine ⟨HS.b2,?_⟩
     refine bJ 9 rfl rfl rfl aYB (vg HT HB HS (HS.at_ 4 rfl) (HS.at_ 2 rfl) (by omega)) (fun zV zW rQ => ?_)
     obtain ⟨iF,ig,iE,iw,iq,iD,iC,rfl,HS⟩:=rQ
     refine ⟨HS.b2,?_⟩
     refine bF 12 (a0q jr iU jm jb iY ji je) HS 1 rfl rfl rfl rfl aYn (fun _ HS=>⟨HS.b2,?_⟩)
     refine bF 13 (a0q iF ig iE iw iq iD iC) HS 0 rfl rfl rfl rfl aYn (fun _ HS=>⟨HS.b2,?_⟩)
     exact JR.mt (jr,iU,jm,jb,iY,ji,je,iF,ig,iE,iw,iq,iD,iC,o8,o9) HS
    refine ai.alloc (vs:=bU) HS rfl rfl aYs rfl rfl rfl (fun o9 J6 HS => ?_) ai.nil
    refine ⟨HS.b2,?_⟩
    refine bJ 4 rfl rfl rfl aYI (yK HT HB HS (HS.at_ 2 rfl) (HS.at_ 0 rfl) (by omega)) (fun O0 O8 AV => ?_)
    obtain ⟨jr,iU,jm,jb,iY,ji,je,rfl,HS⟩:=AV
    refine ⟨HS.b2,?_⟩
    refine bJ 9 rfl rfl rfl aYB (vg HT HB HS (HS.at_ 4 rfl) (HS.at_ 2 rfl) (by omega)) (fun zV zW rQ => ?_)
    obtain ⟨iF,ig,iE,iw,iq,iD,iC,rfl,HS⟩:=rQ
    refine ⟨HS.b2,?_⟩
    refine bF 12 (a0q jr iU jm jb iY ji je) HS 1 rfl rfl rfl rfl aYn (fun _ HS=>⟨HS.b2,?_⟩)
    refine bF 13 (a0q iF ig iE iw iq iD iC) HS 0 rfl rfl rfl rfl aYn (fun _ HS=>⟨HS.b2,?_⟩)
    exact JR.mt (jr,iU,jm,jb,iY,ji,je,iF,ig,iE,iw,iq,iD,iC,o8,o9) HS
   refine ai.alloc (vs:=bU) HS rfl rfl aYs rfl rfl rfl (fun o9 J6 HS => ?_) ai.nil
   refine ⟨HS.b1,?_⟩
   refine JR.any [4,10] (by kernel_rfl) rfl ?_
   refine ai.call rfl rfl rfl aYI (yK HT HB HS (HS.at_ 2 rfl) (HS.at_ 0 rfl) (by omega)) rfl (fun O0 O8 AV => ?_) ?_
   ·skip
    obtain ⟨jr,iU,jm,jb,iY,ji,je,rfl,HS⟩:=AV
    refine ⟨HS.b1,?_⟩
    refine JR.any [9,10] (by kernel_rfl) rfl ?_
    refine ai.call rfl rfl rfl aYB (vg HT HB HS (HS.at_ 4 rfl) (HS.at_ 2 rfl) (by omega)) rfl (fun zV zW rQ => ?_) ?_
    ·skip
     obtain ⟨iF,ig,iE,iw,iq,iD,iC,rfl,HS⟩:=rQ
     refine ⟨HS.b1,?_⟩
     refine jy (vs:=bU) 10 HS rfl aYs rfl (fun o8 _ HS=>⟨HS.b2,?_⟩)
     refine bF 12 (a0q jr iU jm jb iY ji je) HS 0 rfl rfl rfl rfl aYn (fun _ HS=>⟨HS.b2,?_⟩)
     refine bF 13 (a0q iF ig iE iw iq iD iC) HS 1 rfl rfl rfl rfl aYn (fun _ HS=>⟨HS.b2,?_⟩)
     exact JR.mt (jr,iU,jm,jb,iY,ji,je,iF,ig,iE,iw,iq,iD,iC,o8,o9) (HS.perm (.swap _ _ _))
    refine ai.alloc (vs:=bU) HS rfl rfl aYs rfl rfl rfl (fun o8 J5 HS => ?_) ai.nil
    refine ⟨HS.b2,?_⟩
    refine bJ 9 rfl rfl rfl aYB (vg HT HB HS (HS.at_ 4 rfl) (HS.at_ 2 rfl) (by omega)) (fun zV zW rQ => ?_)
    obtain ⟨iF,ig,iE,iw,iq,iD,iC,rfl,HS⟩:=rQ
    refine ⟨HS.b2,?_⟩
    refine bF 12 (a0q jr iU jm jb iY ji je) HS 0 rfl rfl rfl rfl aYn (fun _ HS=>⟨HS.b2,?_⟩)
    refine bF 13 (a0q iF ig iE iw iq iD iC) HS 1 rfl rfl rfl rfl aYn (fun _ HS=>⟨HS.b2,?_⟩)
    exact JR.mt (jr,iU,jm,jb,iY,ji,je,iF,ig,iE,iw,iq,iD,iC,o8,o9) (HS.perm (.swap _ _ _))
   refine ai.alloc (vs:=bU) HS rfl rfl aYs rfl rfl rfl (fun o8 J5 HS => ?_) ai.nil
   refine ⟨HS.b2,?_⟩
   refine bJ 4 rfl rfl rfl aYI (yK HT HB HS (HS.at_ 2 rfl) (HS.at_ 0 rfl) (by omega)) (fun O0 O8 AV => ?_)
   obtain ⟨jr,iU,jm,jb,iY,ji,je,rfl,HS⟩:=AV
   refine ⟨HS.b2,?_⟩
   refine bJ 9 rfl rfl rfl aYB (vg HT HB HS (HS.at_ 4 rfl) (HS.at_ 2 rfl) (by omega)) (fun zV zW rQ => ?_)
   obtain ⟨iF,ig,iE,iw,iq,iD,iC,rfl,HS⟩:=rQ
   refine ⟨HS.b2,?_⟩
   refine bF 12 (a0q jr iU jm jb iY ji je) HS 0 rfl rfl rfl rfl aYn (fun _ HS=>⟨HS.b2,?_⟩)
   refine bF 13 (a0q iF ig iE iw iq iD iC) HS 1 rfl rfl rfl rfl aYn (fun _ HS=>⟨HS.b2,?_⟩)
   exact JR.mt (jr,iU,jm,jb,iY,ji,je,iF,ig,iE,iw,iq,iD,iC,o8,o9) (HS.perm (.swap _ _ _))
  ·skip
   rintro ⟨jr,iU,jm,jb,iY,ji,je,iF,ig,iE,iw,iq,iD,iC,o8,o9⟩ aHA HS
   try dsimp only at HS ⊢
   refine JC.seq ?_
   refine JC.seq ?_
   refine JC.region ?_
   refine JL.load (a0p jr iU jm jb iY ji je) HS 1 rfl rfl rfl aYp aYn rfl rfl ?_
   refine JL.load (a0p iF ig iE iw iq iD iC) HS 0 rfl rfl rfl aYp aYn rfl rfl ?_
   refine JL.call rfl rfl aZd (Qb HT HB HS (HS.at_ 1 rfl) (HS.at_ 0 rfl) (by omega)) (fun v8 w8 CJ => ?_)
   obtain ⟨rfl,HS⟩:=CJ
   refine Lv (.bool true) (fun a ha=>wH (ha.ev rfl) (ha.ev rfl) ((Kr _ _).trans (decide_eq_true (aA4 hc)))) ?_
   refine jn ?_
   refine JC.iy rfl ?_
   refine JC.seq ?_
   refine JC.region ?_
   refine Lv fO (fun a ha=>bZ.run_build (vs:=[]) (by simp only [List.map_cons,List.map_nil]) aYr aYt pV rfl) ?_
   refine JL.store HS rfl rfl (i:=2) rfl aYo rfl rfl rfl (vs':=cO) rfl rfl (fun w9 HS => ?_)
   refine Lv (.int .i64 16) (fun a ha=>run_assign (ha.ev rfl)) ?_
   refine jn ?_
   refine JC.ret (fun a ha => ?_)
   repeat (first | refine dh ?_ | refine df ?_)
   refine vI (v:=fO) (v' := .int .i64 16) ha Tryz.results55 (.agg rfl aYq aYo (HS.box _ (.tail _ (.tail _ (.head _)))) rfl rfl) (.tmp rfl) ⟨_,rfl,?_⟩
   exact ⟨rfl,HS.gy 5 10 rfl rfl⟩
end
end Go.Proofs.YtbihljnjaondcaaGreatDoor
