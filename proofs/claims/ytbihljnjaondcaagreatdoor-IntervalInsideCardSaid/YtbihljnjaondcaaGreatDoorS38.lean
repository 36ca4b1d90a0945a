/- Part of a proof, said shortly. -/
import Derived.OpenShut
import Derived.Deep.Strs
import Derived.Test.YtbihljnjaondcaaGreatDoorAlz
import Derived.Test.YtbihljnjaondcaaGreatDoorC21
import Derived.Test.YtbihljnjaondcaaGreatDoorS27
import Derived.Test.YtbihljnjaondcaaGreatDoorC20
import Derived.Test.YtbihljnjaondcaaGreatDoorS5
import Derived.Test.YtbihljnjaondcaaGreatDoorS20
import Derived.Test.YtbihljnjaondcaaGreatDoorC16
import Derived.Test.YtbihljnjaondcaaGreatDoorS4
import Derived.Test.YtbihljnjaondcaaGreatDoorS6
import Derived.Test.YtbihljnjaondcaaGreatDoorC14
import Derived.Test.YtbihljnjaondcaaGreatDoorC13
import Derived.Test.YtbihljnjaondcaaGreatDoorC12
import Derived.Test.YtbihljnjaondcaaGreatDoorC11
import Derived.Test.YtbihljnjaondcaaGreatDoorC10
import Derived.Test.YtbihljnjaondcaaGreatDoorC6
import Derived.Test.YtbihljnjaondcaaGreatDoorC2
import Derived.Test.YtbihljnjaondcaaGreatDoorC1
import Derived.Test.YtbihljnjaondcaaGreatDoorC5
import Derived.Test.YtbihljnjaondcaaGreatDoorC4
import Derived.Test.YtbihljnjaondcaaGreatDoorC3
import Derived.Test.YtbihljnjaondcaaGreatDoorC9
import Derived.Test.YtbihljnjaondcaaGreatDoorC8
import Derived.Test.YtbihljnjaondcaaGreatDoorC7
import Derived.Test.YtbihljnjaondcaaGreatDoorC19
import Derived.Test.YtbihljnjaondcaaGreatDoorC18
import Derived.Test.YtbihljnjaondcaaGreatDoorC17
import Derived.Test.YtbihljnjaondcaaGreatDoorS19
import Derived.Test.YtbihljnjaondcaaGreatDoorS31
import Derived.Test.YtbihljnjaondcaaGreatDoorC15
import Derived.Test.YtbihljnjaondcaaGreatDoorS1
import Derived.Test.YtbihljnjaondcaaGreatDoorC25
import Derived.Test.YtbihljnjaondcaaGreatDoorS10
import Derived.Test.YtbihljnjaondcaaGreatDoorS30
import Derived.Test.YtbihljnjaondcaaGreatDoorS2
import Derived.Test.YtbihljnjaondcaaGreatDoorS13
import Derived.Test.YtbihljnjaondcaaGreatDoorS22
import Derived.Test.YtbihljnjaondcaaGreatDoorS11
import Derived.Test.YtbihljnjaondcaaGreatDoorS15
import Derived.Test.YtbihljnjaondcaaGreatDoorS3
import Derived.Test.YtbihljnjaondcaaGreatDoorC22
import Derived.Test.YtbihljnjaondcaaGreatDoorS8
import Derived.Test.YtbihljnjaondcaaGreatDoorS17
import Derived.Test.YtbihljnjaondcaaGreatDoorC23
import Derived.Test.YtbihljnjaondcaaGreatDoorC24
set_option maxRecDepth 100000
open Go.Proofs.YtbihljnjaondcaaGreatDoor (a0p a0q a0r a0s yw bU fO cO PS iy1 PT FX iy4 iy5 iy6 Yo iy8 iy9 aAJ)
set_option linter.unusedVariables false
set_option linter.unusedSimpArgs false
namespace Lw
theorem ao0 {a b c d a' b' c' d':Rat} (h1:a≤a') (h2:a'≤b') (h3:b'≤b) (h4:c≤c') (h5:c'≤d') (h6:d'≤d):lC a b c d≤lC a' b' c' d'∧jV a' b' c' d'≤jV a b c d:=by
 have e1:=ac5 (a'*c') (a'*d') (b'*c') (b'*d')
 have e2:=acN (a'*c') (a'*d') (b'*c') (b'*d')
 have f1:=SI (a:=a) (b:=b) (c:=c) (d:=d) (u:=a') (v:=c') (by grind) (by grind) (by grind) (by grind)
 have f2:=SI (a:=a) (b:=b) (c:=c) (d:=d) (u:=a') (v:=d') (by grind) (by grind) (by grind) (by grind)
 have f3:=SI (a:=a) (b:=b) (c:=c) (d:=d) (u:=b') (v:=c') (by grind) (by grind) (by grind) (by grind)
 have f4:=SI (a:=a) (b:=b) (c:=c) (d:=d) (u:=b') (v:=d') (by grind) (by grind) (by grind) (by grind)
 unfold lC jV at *
 constructor
 ·rcases e1 with e | e | e | e <;> rw [e]
  ·exact f1.1
  ·exact f2.1
  ·exact f3.1
  ·exact f4.1
 ·rcases e2 with e | e | e | e <;> rw [e]
  ·exact f1.2
  ·exact f2.2
  ·exact f3.2
  ·exact f4.2
end Lw
namespace bZ
open Go Go.RowKit
section
variable {P:Program} {ρ:Operand→Value} {w:World} {dst:Option Tmp} {ty:TypeId} {pos:String} {fB:Array Edge} {gd:Option (Nat×Bool)}
theorem arh {x y:Operand} {Ej:Array TypeId} {k:IntKind} {a b c:Int} (hx:ρ x = .int k a) (hy:ρ y = .int k b) (h:min a b=c):(execOp ρ ⟨dst,.call ⟨.builtin .min,#[x,y],Ej⟩,ty,pos,fB,gd⟩).run P w = .ok (.value (.int k c)) w:=by
 subst h
 simp [execOp,resolve,invoke,builtin,Builtin.min_,Builtin.min2,hx,hy]
 first | done | (by_cases h:a≤b <;> simp [Int.min_def,h] <;> omega) | (by_cases h:b < a <;> simp [Int.min_def,h] <;> omega)
theorem arf {x y:Operand} {Ej:Array TypeId} {k:IntKind} {a b c:Int} (hx:ρ x = .int k a) (hy:ρ y = .int k b) (h:max a b=c):(execOp ρ ⟨dst,.call ⟨.builtin .max,#[x,y],Ej⟩,ty,pos,fB,gd⟩).run P w = .ok (.value (.int k c)) w:=by
 subst h
 simp [execOp,resolve,invoke,builtin,Builtin.max_,Builtin.max2,hx,hy]
 first | done | (by_cases h:a≤b <;> simp [Int.max_def,h] <;> omega) | (by_cases h:b < a <;> simp [Int.max_def,h] <;> omega)
end
section
variable {P:Program} {Q:Exit→Act→World→Prop} {N:Nat} {T:List (Nat×Value)} {w:World}
theorem JC.tail3 {x1 x2 x3 z:Code} {ι:Type} (T':ι→List (Nat×Value)) (G:ι→World→Prop) (hy : ∀ i w,G i w→JC P z Q N (T' i) w) (hx:(∀ i w,G i w→JC P z Q N (T' i) w)→JC P (.seq x1 (.seq x2 (.seq x3 z))) Q N T w):JC P (.seq x1 (.seq x2 (.seq x3 z))) Q N T w:=hx hy
theorem JC.Vz {c:Code} {T':List (Nat×Value)} (h:JC P c Q N T' w) (hT:Kq T T':=by (repeat refine ⟨rfl,?_⟩); trivial):JC P c Q N T w:=JC.sub hT.out h
end
end bZ
namespace Go.Proofs.YtbihljnjaondcaaGreatDoor
open Go Go.ChangeShapes Go.WideShapes Go.ChangeAt Go.RowKit Go.Joins Lw
theorem axD:Tryz.prog.cellsOf 79=4:=by kernel_rfl
theorem aGa {α:Type} {l:List α} (h:l.length=4) : ∃ a b c d,l=[a,b,c,d]:=by
 match l,h with
 | [a,b,c,d],_=>exact ⟨a,b,c,d,rfl⟩
theorem aF9 {α:Type} {cs:Array α} (h:cs.size=4) : ∃ a b c d,cs = #[a,b,c,d]:=by
 obtain ⟨l⟩:=cs
 match l,h with
 | [a,b,c,d],_=>exact ⟨a,b,c,d,rfl⟩
theorem aF7 {H:Type} {enc:TypeId×Value→H} {W:World} {base:Nat} {v:Value} {d:DataW H} {p:List MemPlace}
  (hv:Value.okWide Tryz.prog W .any base 79 v) (h:DataW.Trod enc Tryz.prog W 0 (fun _=>true) true 79 v d p) :
  ∃ z1 z2 z3 z4,v = .agg #[.int .u8 z1,.int .u8 z2,.int .u8 z3,.int .u8 z4]∧(Lit.int .u8 z1).wf=true∧(Lit.int .u8 z2).wf=true∧(Lit.int .u8 z3).wf=true∧(Lit.int .u8 z4).wf=true:=by
 simp only [Value.okWide,Tryz.underlying79] at hv
 obtain ⟨cs,rfl,hsz,_⟩:=hv
 obtain ⟨c0,c1,c2,c3,rfl⟩:=aF9 (hsz.trans axD)
 obtain ⟨fuel,hf⟩:=h
 obtain ⟨xs,m,_,_,_,hn,hi⟩:=DataW.trod_array Tryz.underlying79 hf
 obtain ⟨a,b,c,d',rfl⟩:=aGa hn
 have h0:=hi 0 (by omega)
 have h1:=hi 1 (by omega)
 have h2:=hi 2 (by omega)
 have h3:=hi 3 (by omega)
 rw [al5] at h0 h1 h2 h3
 obtain ⟨z1,e1,_,w1⟩:=DataW.trod_int aYZ (show DataW.trod enc Tryz.prog W 0 (fun _=>true) true m 5 [c0]=some a from h0)
 obtain ⟨z2,e2,_,w2⟩:=DataW.trod_int aYZ (show DataW.trod enc Tryz.prog W 0 (fun _=>true) true m 5 [c1]=some b from h1)
 obtain ⟨z3,e3,_,w3⟩:=DataW.trod_int aYZ (show DataW.trod enc Tryz.prog W 0 (fun _=>true) true m 5 [c2]=some c from h2)
 obtain ⟨z4,e4,_,w4⟩:=DataW.trod_int aYZ (show DataW.trod enc Tryz.prog W 0 (fun _=>true) true m 5 [c3]=some d' from h3)
 injection e1 with e1
 injection e2 with e2
 injection e3 with e3
 injection e4 with e4
 subst e1 e2 e3 e4
 exact ⟨z1,z2,z3,z4,rfl,w1,w2,w3,w4⟩
end Go.Proofs.YtbihljnjaondcaaGreatDoor
namespace Lw
open Go
theorem LU {a b:Rat} {z y:Int} (h:a≤b) (hzy:z≤y):a+Rat.divInt z 255*(b - a)≤a+Rat.divInt y 255*(b - a):=by
 have h2:(0:Rat)≤b - a:=by grind
 have h1:Rat.divInt z 255≤Rat.divInt y 255:=by
  have:=PD (a:=y) (b:=255) (c:=z) (d:=255) (by decide) (by decide)
  have h3:¬ Rat.divInt y 255 < Rat.divInt z 255:=fun e=>by have:=this.1 e; omega
  grind
 have:=yE h2 h1
 rw [Rat.mul_comm (b - a),Rat.mul_comm (b - a)] at this
 grind
theorem aEG {l l':Rat} (hl:0≤l) (h:l≤l') (m:Nat):xe l m≤xe l' m:=by
 have hl':0≤l':=by grind
 have a:=Vo hl m
 have b:=ajf hl' m
 by_cases e:xe l m≤xe l' m
 ·exact e
 ·exfalso
  have e1:xe l' m+Rat.divInt 1 ((2 ^ m:Nat):Int)≤xe l m:=by
   unfold xe at e ⊢
   rw [RI (Fj m)] at e
   rw [anb,RI (Fj m)]
   omega
  have c:=(Qd hl' m).1
  have d:=(Qd hl m).1
  have p:0≤Rat.divInt 1 ((2 ^ m:Nat):Int):=by
   rw [← Rat.zero_divInt ((2 ^ m:Nat):Int),RI (Fj m)]; omega
  have f:=yE (show 0≤xe l' m+Rat.divInt 1 ((2 ^ m:Nat):Int) by grind) e1
  have g:=yE d e1
  grind
theorem aEF {h h':Rat} (hh:0≤h) (hl:h≤h') (m:Nat):vY h m≤vY h' m:=by
 have hh':0≤h':=by grind
 by_cases e:vY h m≤vY h' m
 ·exact e
 ·exfalso
  have c:=(Qd hh' m).2
  have hz:vY h m≠0:=by grind
  have a:=aee hh m hz
  have b:=Zi hh' m
  have e1:vY h' m≤vY h m - Rat.divInt 1 ((2 ^ m:Nat):Int):=by
   rw [Zk,Zk] at e ⊢
   rw [RI (Fj m)] at e
   rw [anc,RI (Fj m)]
   omega
  have f:=yE c e1
  have g:=yE (show 0≤vY h m - Rat.divInt 1 ((2 ^ m:Nat):Int) by grind) e1
  grind
end Lw
namespace Go.Proofs.YtbihljnjaondcaaGreatDoor
open Go Go.RowKit Lw bZ
section
variable {W0 w:World} {U:List Box} {Ps:List (World→Prop)}
variable {ax:Bool} {ay:Option Addr} {aj c1a:Nat} {az:Option Addr} {ak aA:Nat} {aB:Bool} {aC:Option Addr} {n1b aG:Nat} {aF:Option Addr} {au aH:Nat} {aP:Bool} {aQ:Option Addr} {aK aS:Nat} {aU:Option Addr} {aN aY:Nat} {aV:Bool} {aW:Option Addr} {aO aX:Nat} {aZ:Option Addr} {aT bf:Nat}
theorem aGJ (HT:Tz W0) (HB:Tab W0) (HS:St W0 U Ps w) {af:Rat} {bC:Nat} {ah:Rat} {bD:Nat} {aI:Rat} {bM:Nat} {aJ:Rat} {bP:Nat} (f1a:FV (a0p ax ay aj c1a az ak aA) af bC true w) (bI:FV (a0p aB aC n1b aG aF au aH) ah bD true w) (fC:FV (a0p aP aQ aK aS aU aN aY) aI bM true w) (fD:FV (a0p aV aW aO aX aZ aT bf) aJ bP true w) (hk:bC+bD+(bM+bP)≤20000) (fE:af≤ah) (gV:aI≤aJ):bY Tryz.prog 44 [(a0r ax ay aj c1a az ak aA aB aC n1b aG aF au aH),(a0r aP aQ aK aS aU aN aY aV aW aO aX aZ aT bf)] w (iP W0 U Ps (.bool (decide (aI≤af)&&decide (ah≤aJ)))):=by
 have h:=asH HT HB HS f1a bI fC fD hk
 simp only [vG fE,vF fE,vG gV,vF gV] at h
 exact h
theorem asU (HT:Tz W0) (HB:Tab W0) (HS:St W0 U Ps w) {af:Rat} {bC:Nat} {ah:Rat} {bD:Nat} {m2:Nat} (f1a:FV (a0p ax ay aj c1a az ak aA) af bC true w) (bI:FV (a0p aB aC n1b aG aF au aH) ah bD true w) (hk:bC+bD≤900) (hm:m2≤256) (hc:af < 0) (fE:af≤ah):bY Tryz.prog 67 [(a0r ax ay aj c1a az ak aA aB aC n1b aG aF au aH),.int .i64 (m2:Int)] w (iP W0 U Ps (.tuple #[fO,.iface 74 (.int .i64 3)])):=by
 have h:=ajX HT HB HS f1a bI hk hm (by simp only [vG fE,vF fE]; exact hc)
 exact h
theorem ajW (HT:Tz W0) (HB:Tab W0) (HS:St W0 U Ps w) {af:Rat} {bC:Nat} {ah:Rat} {bD:Nat} {m2:Nat} (f1a:FV (a0p ax ay aj c1a az ak aA) af bC true w) (bI:FV (a0p aB aC n1b aG aF au aH) ah bD true w) (hk:bC+bD≤900) (hm:m2≤256) (hc:0≤af) (fE:af≤ah):bY Tryz.prog 67 [(a0r ax ay aj c1a az ak aA aB aC n1b aG aF au aH),.int .i64 (m2:Int)] w (yY W0 U Ps (xe af m2) (vY ah m2) (2*(bC+bD+(bC+bD))+200) (.nilIface)):=by
 have h:=ae3 HT HB HS f1a bI hk hm (by simp only [vG fE,vF fE]; exact hc)
 simp only [vG fE,vF fE] at h
 exact h
theorem Qx (HT:Tz W0) (HB:Tab W0) (HS:St W0 U Ps w) {af:Rat} {bC:Nat} {ah:Rat} {bD:Nat} {aI:Rat} {bM:Nat} {aJ:Rat} {bP:Nat} (f1a:FV (a0p ax ay aj c1a az ak aA) af bC true w) (bI:FV (a0p aB aC n1b aG aF au aH) ah bD true w) (fC:FV (a0p aP aQ aK aS aU aN aY) aI bM true w) (fD:FV (a0p aV aW aO aX aZ aT bf) aJ bP true w) (hk:bC+bD+(bM+bP)≤20000) (fE:af≤ah) (gV:aI≤aJ) (hz:aI≤af∧ah≤aJ) :
 bY Tryz.prog 44 [(a0r ax ay aj c1a az ak aA aB aC n1b aG aF au aH),(a0r aP aQ aK aS aU aN aY aV aW aO aX aZ aT bf)] w (iP W0 U Ps (.bool true)):=by
 have h:=aGJ HT HB HS f1a bI fC fD hk fE gV
 rw [decide_eq_true hz.1,decide_eq_true hz.2] at h
 exact h
end
end Go.Proofs.YtbihljnjaondcaaGreatDoor
namespace Go.Proofs.YtbihljnjaondcaaGreatDoor
open Go Go.RowKit Lw bZ
section
variable {W0 w:World} {U:List Box} {Ps:List (World→Prop)}
variable {ax:Bool} {ay:Option Addr} {aj c1a:Nat} {az:Option Addr} {ak aA:Nat} {aB:Bool} {aC:Option Addr} {n1b aG:Nat} {aF:Option Addr} {au aH:Nat} {aP:Bool} {aQ:Option Addr} {aK aS:Nat} {aU:Option Addr} {aN aY:Nat} {aV:Bool} {aW:Option Addr} {aO aX:Nat} {aZ:Option Addr} {aT bf:Nat}
theorem azZ {a b c d a' b' c' d':Rat} (h1:a≤a') (h2:b≤b') (h3:c'≤c) (h4:d'≤d):gY a b≤gY a' b'∧gX c' d'≤gX c d:=by
 have:=Ol a b
 have:=PU c d
 rw [SH a' b',PW c' d']
 constructor <;> split <;> grind
set_option maxHeartbeats 4000000 in
theorem aAj (HT:Tz W0) (HB:Tab W0) {o6 o7 vK vO:Int} {af:Rat} {bC:Nat} {bu:Bool} {ah:Rat} {bD:Nat} {bn:Bool} {aI:Rat} {bM:Nat} {bT:Bool} {aJ:Rat} {bP:Nat} {bQ:Bool} (HS:St W0 U Ps w) (f1a:FV (a0p ax ay aj c1a az ak aA) af bC bu w) (bI:FV (a0p aB aC n1b aG aF au aH) ah bD bn w) (fC:FV (a0p aP aQ aK aS aU aN aY) aI bM bT w) (fD:FV (a0p aV aW aO aX aZ aT bf) aJ bP bQ w) (hza:0≤o6∧o6≤255) (hzb:0≤o7∧o7≤255) (hzc:0≤vK∧vK≤255) (hzd:0≤vO∧vO≤255):bY Tryz.prog 10 [(a0r ax ay aj c1a az ak aA aB aC n1b aG aF au aH),(a0r aP aQ aK aS aU aN aY aV aW aO aX aZ aT bf),.agg #[.int .u8 o6,.int .u8 o7,.int .u8 vK,.int .u8 vO]] w (iP W0 U Ps (.bool true)):=by
 have HS:=HS.add (FV.stable _ _ _ _) f1a
 have HS:=HS.add (FV.stable _ _ _ _) bI
 have HS:=HS.add (FV.stable _ _ _ _) fC
 have HS:=HS.add (FV.stable _ _ _ _) fD
 clear f1a bI fC fD
 refine iL a0g rfl Tryz.ntmps10 rfl ?_
 refine JC.seq ?_
 refine JC.region ?_
 refine JL.box (vs:=(a0s ax ay aj c1a az ak aA aB aC n1b aG aF au aH)) HS rfl rfl rfl rfl (fun g1 w1 HS => ?_)
 refine JL.box (vs:=(a0s aP aQ aK aS aU aN aY aV aW aO aX aZ aT bf)) HS rfl rfl rfl rfl (fun g2 w2 HS => ?_)
 refine JL.box (vs:=[.int .u8 o6,.int .u8 o7,.int .u8 vK,.int .u8 vO]) HS rfl rfl rfl rfl (fun g3 w3 HS => ?_)
 refine Lv (.bool false) (fun a ha=>run_assign (ha.ev rfl)) ?_
 refine jn ?_
 refine JC.seq ?_
 refine JC.seq ?_
 refine JC.region ?_
 refine JL.load (a0r ax ay aj c1a az ak aA aB aC n1b aG aF au aH) HS 2 rfl rfl rfl aYq aYo rfl rfl ?_
 refine JL.load (a0r aP aQ aK aS aU aN aY aV aW aO aX aZ aT bf) HS 1 rfl rfl rfl aYq aYo rfl rfl ?_
 refine JL.buildSlice (ps:=[(0,(a0r ax ay aj c1a az ak aA aB aC n1b aG aF au aH)),(1,(a0r aP aQ aK aS aU aN aY aV aW aO aX aZ aT bf))]) (vs:=[.bool ax,.slice ay aj c1a,.slice az ak aA,.bool aB,.slice aC n1b aG,.slice aF au aH,.bool aP,.slice aQ aK aS,.slice aU aN aY,.bool aV,.slice aW aO aX,.slice aZ aT bf]) HS rfl (fun a ha=>by simp only [List.map_cons,List.map_nil,ha.ev (x := .tmp 19) (v:=(a0r ax ay aj c1a az ak aA aB aC n1b aG aF au aH)) rfl,ha.ev (x := .tmp 20) (v:=(a0r aP aQ aK aS aU aN aY aV aW aO aX aZ aT bf)) rfl]) aY0 aYo aYt rfl rfl (by kernel_rfl) rfl (fun g4 w4 HS => ?_)
 refine JL.call rfl rfl aZh (Ym HT HB HS) (fun v5 w5 vk => ?_)
 obtain ⟨rfl,HS⟩:=vk
 refine Lv (.bool (!(decide (aj≤8∧ak≤8∧n1b≤8∧au≤8∧aK≤8∧aN≤8∧aO≤8∧aT≤8)))) (fun a ha=>sU (ha.ev rfl)) ?_
 cases EN:((decide (aj≤8∧ak≤8∧n1b≤8∧au≤8∧aK≤8∧aN≤8∧aO≤8∧aT≤8)))
 ·skip
  refine Lv (.bool true) (fun a ha=>run_move (ha.ev rfl)) ?_
  refine Lp ?_
  refine Lp ?_
  refine Lp ?_
  refine Lv (.bool true) (fun a ha=>eY (ha.ev rfl) (ha.ev rfl)) ?_
  refine Lv (.bool true) (fun a ha=>run_move (ha.ev rfl)) ?_
  refine Lp ?_
  refine Lp ?_
  refine Lp ?_
  refine Lv (.bool true) (fun a ha=>eY (ha.ev rfl) (ha.ev rfl)) ?_
  refine Lv (.bool true) (fun a ha=>run_move (ha.ev rfl)) ?_
  refine Lp ?_
  refine Lp ?_
  refine Lv (.bool true) (fun a ha=>eY (ha.ev rfl) (ha.ev rfl)) ?_
  refine jn ?_
  refine JC.iy rfl ?_
  refine JC.seq ?_
  refine JC.region ?_
  refine JL.call rfl rfl aYO (zh HT HB HS  ) (fun v7 w7 wM => ?_)
  obtain ⟨rfl,HS⟩:=wM
  refine Lv (.bool true) (fun a ha=>run_assign (ha.ev rfl)) ?_
  refine jn ?_
  refine JC.ret (fun a ha => ?_)
  repeat (first | refine dh ?_ | refine df ?_)
  refine fG (v := .bool true) ha Tryz.results10 (.tmp rfl) ⟨_,rfl,?_⟩
  exact ⟨rfl,HS.gy 4 4 rfl rfl⟩
 ·skip
  have hfew:=of_decide_eq_true EN
  have HS:=HS.pO 3 rfl (fun _ h=>(fJ.cut (K:=8) h (by omega) (by omega):FV _ _ 8 _ _))
  have HS:=HS.pO 3 rfl (fun _ h=>(fJ.cut (K:=8) h (by omega) (by omega):FV _ _ 8 _ _))
  have HS:=HS.pO 3 rfl (fun _ h=>(fJ.cut (K:=8) h (by omega) (by omega):FV _ _ 8 _ _))
  have HS:=HS.pO 3 rfl (fun _ h=>(fJ.cut (K:=8) h (by omega) (by omega):FV _ _ 8 _ _))
  refine Lv (.bool false) (fun a ha=>run_move (ha.ev rfl)) ?_
  refine Lg (a0r ax ay aj c1a az ak aA aB aC n1b aG aF au aH) (fun a ha=>gU (ha.ev rfl) aYq aYo (HS.box _ (.tail _ (.tail _ (.tail _ (.head _))))) rfl rfl) ?_
  refine JL.cZ rfl rfl rfl rfl rfl rfl aY5 (KZ HT HB HS (HS.at_ 3 rfl) (HS.at_ 2 rfl) (by omega)) (fun v8 w8 CJ => ?_)
  obtain ⟨rfl,HS⟩:=CJ
  refine Lg (.bool (!(okR bu bn af ah))) (fun a ha=>sU (ha.ev rfl)) ?_
  refine Lv (.bool (!(okR bu bn af ah))) (fun a ha=>gB (ha.ev rfl) (ha.ev rfl)) ?_
  cases KJ:((okR bu bn af ah))
  ·skip
   refine Lv (.bool true) (fun a ha=>run_move (ha.ev rfl)) ?_
   refine Lp ?_
   refine Lp ?_
   refine Lp ?_
   refine Lv (.bool true) (fun a ha=>eY (ha.ev rfl) (ha.ev rfl)) ?_
   refine Lv (.bool true) (fun a ha=>run_move (ha.ev rfl)) ?_
   refine Lp ?_
   refine Lp ?_
   refine Lv (.bool true) (fun a ha=>eY (ha.ev rfl) (ha.ev rfl)) ?_
   refine jn ?_
   refine JC.iy rfl ?_
   refine JC.seq ?_
   refine JC.region ?_
   refine JL.call rfl rfl aYO (zh HT HB HS  ) (fun v10 w10 FN => ?_)
   obtain ⟨rfl,HS⟩:=FN
   refine Lv (.bool true) (fun a ha=>run_assign (ha.ev rfl)) ?_
   refine jn ?_
   refine JC.ret (fun a ha => ?_)
   repeat (first | refine dh ?_ | refine df ?_)
   refine fG (v := .bool true) ha Tryz.results10 (.tmp rfl) ⟨_,rfl,?_⟩
   exact ⟨rfl,HS.gy 4 8 rfl rfl⟩
  ·skip
   obtain ⟨rfl,rfl,fE⟩:=KN KJ
   refine Lv (.bool false) (fun a ha=>run_move (ha.ev rfl)) ?_
   refine Lg (a0r aP aQ aK aS aU aN aY aV aW aO aX aZ aT bf) (fun a ha=>gU (ha.ev rfl) aYq aYo (HS.box _ (.tail _ (.tail _ (.head _)))) rfl rfl) ?_
   refine JL.cZ rfl rfl rfl rfl rfl rfl aY5 (KZ HT HB HS (HS.at_ 1 rfl) (HS.at_ 0 rfl) (by omega)) (fun v11 Dp DV => ?_)
   obtain ⟨rfl,HS⟩:=DV
   refine Lg (.bool (!(okR bT bQ aI aJ))) (fun a ha=>sU (ha.ev rfl)) ?_
   refine Lv (.bool (!(okR bT bQ aI aJ))) (fun a ha=>gB (ha.ev rfl) (ha.ev rfl)) ?_
   cases Sj:((okR bT bQ aI aJ))
   ·skip
    refine Lv (.bool true) (fun a ha=>run_move (ha.ev rfl)) ?_
    refine Lp ?_
    refine Lp ?_
    refine Lv (.bool true) (fun a ha=>eY (ha.ev rfl) (ha.ev rfl)) ?_
    refine jn ?_
    refine JC.iy rfl ?_
    refine JC.seq ?_
    refine JC.region ?_
    refine JL.call rfl rfl aYO (zh HT HB HS  ) (fun v13 Gl QX => ?_)
    obtain ⟨rfl,HS⟩:=QX
    refine Lv (.bool true) (fun a ha=>run_assign (ha.ev rfl)) ?_
    refine jn ?_
    refine JC.ret (fun a ha => ?_)
    repeat (first | refine dh ?_ | refine df ?_)
    refine fG (v := .bool true) ha Tryz.results10 (.tmp rfl) ⟨_,rfl,?_⟩
    exact ⟨rfl,HS.gy 4 8 rfl rfl⟩
   ·skip
    obtain ⟨rfl,rfl,gV⟩:=KN Sj
    refine Lv (.bool false) (fun a ha=>run_move (ha.ev rfl)) ?_
    refine JL.cZ rfl rfl rfl rfl rfl rfl aYO (zh HT HB HS  ) (fun v14 JX Io => ?_)
    obtain ⟨rfl,HS⟩:=Io
    refine Lg (.bool false) (fun a ha=>sU (b:=true) (ha.ev rfl)) ?_
    refine Lv (.bool false) (fun a ha=>gB (ha.ev rfl) (ha.ev rfl)) ?_
    refine jn ?_
    refine JC.jA rfl ?_
    refine JC.jF (fun _ _ h=>h) ?_
    refine JC.cut (ι:=iy9) (fun ⟨Ho,Gm,G7,Gz,Gq,GZ,GH,Gf,Fz,F5,FP,FD,FY,FT,sJ,rH,sD,rU,rM,rY,rW,sK,rJ,sG,rV,rO,rZ,rX,BJ⟩=>[(0,(a0r ax ay aj c1a az ak aA aB aC n1b aG aF au aH)),(1,(a0r aP aQ aK aS aU aN aY aV aW aO aX aZ aT bf)),(2,.agg #[.int .u8 o6,.int .u8 o7,.int .u8 vK,.int .u8 vO]),(3,.pointer (some ⟨g1,0,none⟩)),(4,.pointer (some ⟨g2,0,none⟩)),(5,.pointer (some ⟨g3,0,none⟩)),(6,.bool false),(7,.pointer (some ⟨BJ,0,none⟩)),(8,.nilIface),(19,(a0r ax ay aj c1a az ak aA aB aC n1b aG aF au aH)),(20,(a0r aP aQ aK aS aU aN aY aV aW aO aX aZ aT bf)),(21,.slice (some ⟨g4,0,none⟩) 2 2),(22,.bool true),(23,.bool false),(24,.bool false),(25,(a0r ax ay aj c1a az ak aA aB aC n1b aG aF au aH)),(26,.bool true),(27,.bool false),(28,.bool false),(29,.bool false),(30,(a0r aP aQ aK aS aU aN aY aV aW aO aX aZ aT bf)),(31,.bool true),(32,.bool false),(33,.bool false),(34,.bool false),(35,.bool true),(36,.bool false),(37,.bool false)]) (fun ⟨Ho,Gm,G7,Gz,Gq,GZ,GH,Gf,Fz,F5,FP,FD,FY,FT,sJ,rH,sD,rU,rM,rY,rW,sK,rJ,sG,rV,rO,rZ,rX,BJ⟩ w=>St W0 (⟨BJ,48,(a0s sJ rH sD rU rM rY rW sK rJ sG rV rO rZ rX)⟩ :: ⟨g4,48,[.bool ax,.slice ay aj c1a,.slice az ak aA,.bool aB,.slice aC n1b aG,.slice aF au aH,.bool aP,.slice aQ aK aS,.slice aU aN aY,.bool aV,.slice aW aO aX,.slice aZ aT bf]⟩ :: ⟨g3,79,[.int .u8 o6,.int .u8 o7,.int .u8 vK,.int .u8 vO]⟩ :: ⟨g2,48,(a0s aP aQ aK aS aU aN aY aV aW aO aX aZ aT bf)⟩ :: ⟨g1,48,(a0s ax ay aj c1a az ak aA aB aC n1b aG aF au aH)⟩ :: U) (FV (a0p sJ rH sD rU rM rY rW) (af+Rat.divInt (min o6 o7) 255*(ah - af)) ((8+(6+(8+(8+1)+2)+2)+2)+(8+(6+(8+(8+1)+2)+2)+2)) true :: FV (a0p sK rJ sG rV rO rZ rX) (af+Rat.divInt (max o6 o7) 255*(ah - af)) ((8+(6+(8+(8+1)+2)+2)+2)+(8+(6+(8+(8+1)+2)+2)+2)) true :: FV (a0p Gf Fz F5 FP FD FY FT) (af+Rat.divInt (max o6 o7) 255*(ah - af)) (8+(6+(8+(8+1)+2)+2)+2) true :: FV (a0p Ho Gm G7 Gz Gq GZ GH) (af+Rat.divInt (min o6 o7) 255*(ah - af)) (8+(6+(8+(8+1)+2)+2)+2) true :: FV (a0p aV aW aO aX aZ aT bf) aJ 8 true :: FV (a0p aP aQ aK aS aU aN aY) aI 8 true :: FV (a0p aB aC n1b aG aF au aH) ah 8 true :: FV (a0p ax ay aj c1a az ak aA) af 8 true :: FV (a0p aV aW aO aX aZ aT bf) aJ bP true :: FV (a0p aP aQ aK aS aU aN aY) aI bM true :: FV (a0p aB aC n1b aG aF au aH) ah bD true :: FV (a0p ax ay aj c1a az ak aA) af bC true :: Ps) w) ?_ ?_
    ·skip
     refine JC.draw HS [] (by kernel_rfl) (fun w16 HS => ?_)
     refine Da (a0r ax ay aj c1a az ak aA aB aC n1b aG aF au aH) 0 3 rfl HS.b0 rfl rfl aYq aYo ?_
     refine Dv (.pointer (some ⟨g3,0,none⟩)) 1 rfl HS.b0 (fun a ha w=>KY (ha.ev rfl) (ha.ev rfl) aZf aYW (j:=0) rfl (by decide) rfl) ?_
     refine Do (.int .u8 o6) 2 1 rfl HS.b0 rfl rfl aYV ?_
     refine Dv (.pointer (some ⟨g3,1,none⟩)) 3 rfl HS.b0 (fun a ha w=>KY (ha.ev rfl) (ha.ev rfl) aZf aYW (j:=1) rfl (by decide) rfl) ?_
     refine Do (.int .u8 o7) 4 1 rfl HS.b0 rfl rfl aYV ?_
     refine Dv (.int .u8 (min o6 o7)) 5 rfl HS.b0 (fun a ha w=>arh (ha.ev rfl) (ha.ev rfl) rfl) ?_
     refine Da (a0r ax ay aj c1a az ak aA aB aC n1b aG aF au aH) 7 3 rfl HS.b0 rfl rfl aYq aYo ?_
     refine Dv (.pointer (some ⟨g3,0,none⟩)) 8 rfl HS.b0 (fun a ha w=>KY (ha.ev rfl) (ha.ev rfl) aZf aYW (j:=0) rfl (by decide) rfl) ?_
     refine Do (.int .u8 o6) 9 1 rfl HS.b0 rfl rfl aYV ?_
     refine Dv (.pointer (some ⟨g3,1,none⟩)) 10 rfl HS.b0 (fun a ha w=>KY (ha.ev rfl) (ha.ev rfl) aZf aYW (j:=1) rfl (by decide) rfl) ?_
     refine Do (.int .u8 o7) 11 1 rfl HS.b0 rfl rfl aYV ?_
     refine Dv (.int .u8 (max o6 o7)) 12 rfl HS.b0 (fun a ha w=>arf (ha.ev rfl) (ha.ev rfl) rfl) ?_
     refine JR.any [6,18] (by kernel_rfl) rfl ?_
     refine ai.call rfl rfl rfl aYH (xR HT HB HS (HS.at_ 3 rfl) (HS.at_ 2 rfl) (by omega) (by omega) (by omega)) rfl (fun aGn aG1 afZ => ?_) ?_
     ·skip
      obtain ⟨Ho,Gm,G7,Gz,Gq,GZ,GH,rfl,HS⟩:=afZ
      refine ⟨HS.b0,?_⟩
      refine JR.any [13,18] (by kernel_rfl) rfl ?_
      refine ai.call rfl rfl rfl aYH (xR HT HB HS (HS.at_ 4 rfl) (HS.at_ 3 rfl) (by omega) (by omega) (by omega)) rfl (fun asx asZ WY => ?_) ?_
      ·skip
       obtain ⟨Gf,Fz,F5,FP,FD,FY,FT,rfl,HS⟩:=WY
       refine ⟨HS.b0,?_⟩
       refine JR.any [14,18] (by kernel_rfl) rfl ?_
       refine ai.call rfl rfl rfl aY9 (O5 HT HB HS (HS.at_ 1 rfl) (HS.at_ 0 rfl) (by omega) (LU fE (by omega))) rfl (fun ajM aj1 QY => ?_) ?_
       ·skip
        obtain ⟨sJ,rH,sD,rU,rM,rY,rW,sK,rJ,sG,rV,rO,rZ,rX,rfl,HS⟩:=QY
        refine ⟨HS.b0,?_⟩
        refine Dv (.tuple #[(a0r sJ rH sD rU rM rY rW sK rJ sG rV rO rZ rX),.nilIface]) 15 rfl HS.b0 (fun a ha w=>run_move (ha.ev rfl)) ?_
        refine Dv (a0r sJ rH sD rU rM rY rW sK rJ sG rV rO rZ rX) 16 rfl HS.b0 (fun a ha w=>bK (ha.ev rfl) rfl) ?_
        refine Dv (.nilIface) 17 rfl HS.b0 (fun a ha w=>bK (ha.ev rfl) rfl) ?_
        refine jy (vs:=cO) 18 HS rfl aYt rfl (fun BJ _ HS=>⟨HS.b1,?_⟩)
        refine bF 19 (a0s sJ rH sD rU rM rY rW sK rJ sG rV rO rZ rX) HS 0 rfl rfl rfl rfl aYo (fun _ HS=>⟨HS.b1,?_⟩)
        refine Dv (.nilIface) 20 rfl HS.b1 (fun a ha w=>run_assign (ha.ev rfl)) ?_
        exact JR.mt (Ho,Gm,G7,Gz,Gq,GZ,GH,Gf,Fz,F5,FP,FD,FY,FT,sJ,rH,sD,rU,rM,rY,rW,sK,rJ,sG,rV,rO,rZ,rX,BJ) HS
       refine ai.alloc (vs:=cO) HS rfl rfl aYt rfl rfl rfl (fun BJ as1 HS => ?_) ai.nil
       refine ⟨HS.b1,?_⟩
       refine bJ 14 rfl rfl rfl aY9 (O5 HT HB HS (HS.at_ 1 rfl) (HS.at_ 0 rfl) (by omega) (LU fE (by omega))) (fun ajM aj1 QY => ?_)
       obtain ⟨sJ,rH,sD,rU,rM,rY,rW,sK,rJ,sG,rV,rO,rZ,rX,rfl,HS⟩:=QY
       refine ⟨HS.b1,?_⟩
       refine Dv (.tuple #[(a0r sJ rH sD rU rM rY rW sK rJ sG rV rO rZ rX),.nilIface]) 15 rfl HS.b1 (fun a ha w=>run_move (ha.ev rfl)) ?_
       refine Dv (a0r sJ rH sD rU rM rY rW sK rJ sG rV rO rZ rX) 16 rfl HS.b1 (fun a ha w=>bK (ha.ev rfl) rfl) ?_
       refine Dv (.nilIface) 17 rfl HS.b1 (fun a ha w=>bK (ha.ev rfl) rfl) ?_
       refine bF 19 (a0s sJ rH sD rU rM rY rW sK rJ sG rV rO rZ rX) HS 0 rfl rfl rfl rfl aYo (fun _ HS=>⟨HS.b1,?_⟩)
       refine Dv (.nilIface) 20 rfl HS.b1 (fun a ha w=>run_assign (ha.ev rfl)) ?_
       exact JR.mt (Ho,Gm,G7,Gz,Gq,GZ,GH,Gf,Fz,F5,FP,FD,FY,FT,sJ,rH,sD,rU,rM,rY,rW,sK,rJ,sG,rV,rO,rZ,rX,BJ) HS
      refine ai.alloc (vs:=cO) HS rfl rfl aYt rfl rfl rfl (fun BJ as1 HS => ?_) ai.nil
      refine ⟨HS.b1,?_⟩
      refine bJ 13 rfl rfl rfl aYH (xR HT HB HS (HS.at_ 4 rfl) (HS.at_ 3 rfl) (by omega) (by omega) (by omega)) (fun asx asZ WY => ?_)
      obtain ⟨Gf,Fz,F5,FP,FD,FY,FT,rfl,HS⟩:=WY
      refine ⟨HS.b1,?_⟩
      refine bJ 14 rfl rfl rfl aY9 (O5 HT HB HS (HS.at_ 1 rfl) (HS.at_ 0 rfl) (by omega) (LU fE (by omega))) (fun ajM aj1 QY => ?_)
      obtain ⟨sJ,rH,sD,rU,rM,rY,rW,sK,rJ,sG,rV,rO,rZ,rX,rfl,HS⟩:=QY
      refine ⟨HS.b1,?_⟩
      refine Dv (.tuple #[(a0r sJ rH sD rU rM rY rW sK rJ sG rV rO rZ rX),.nilIface]) 15 rfl HS.b1 (fun a ha w=>run_move (ha.ev rfl)) ?_
      refine Dv (a0r sJ rH sD rU rM rY rW sK rJ sG rV rO rZ rX) 16 rfl HS.b1 (fun a ha w=>bK (ha.ev rfl) rfl) ?_
      refine Dv (.nilIface) 17 rfl HS.b1 (fun a ha w=>bK (ha.ev rfl) rfl) ?_
      refine bF 19 (a0s sJ rH sD rU rM rY rW sK rJ sG rV rO rZ rX) HS 0 rfl rfl rfl rfl aYo (fun _ HS=>⟨HS.b1,?_⟩)
      refine Dv (.nilIface) 20 rfl HS.b1 (fun a ha w=>run_assign (ha.ev rfl)) ?_
      exact JR.mt (Ho,Gm,G7,Gz,Gq,GZ,GH,Gf,Fz,F5,FP,FD,FY,FT,sJ,rH,sD,rU,rM,rY,rW,sK,rJ,sG,rV,rO,rZ,rX,BJ) HS
     refine ai.alloc (vs:=cO) HS rfl rfl aYt rfl rfl rfl (fun BJ as1 HS => ?_) ai.nil
     refine ⟨HS.b1,?_⟩
     refine bJ 6 rfl rfl rfl aYH (xR HT HB HS (HS.at_ 3 rfl) (HS.at_ 2 rfl) (by omega) (by omega) (by omega)) (fun aGn aG1 afZ => ?_)
     obtain ⟨Ho,Gm,G7,Gz,Gq,GZ,GH,rfl,HS⟩:=afZ
     refine ⟨HS.b1,?_⟩
     refine bJ 13 rfl rfl rfl aYH (xR HT HB HS (HS.at_ 4 rfl) (HS.at_ 3 rfl) (by omega) (by omega) (by omega)) (fun asx asZ WY => ?_)
     obtain ⟨Gf,Fz,F5,FP,FD,FY,FT,rfl,HS⟩:=WY
     refine ⟨HS.b1,?_⟩
     refine bJ 14 rfl rfl rfl aY9 (O5 HT HB HS (HS.at_ 1 rfl) (HS.at_ 0 rfl) (by omega) (LU fE (by omega))) (fun ajM aj1 QY => ?_)
     obtain ⟨sJ,rH,sD,rU,rM,rY,rW,sK,rJ,sG,rV,rO,rZ,rX,rfl,HS⟩:=QY
     refine ⟨HS.b1,?_⟩
     refine Dv (.tuple #[(a0r sJ rH sD rU rM rY rW sK rJ sG rV rO rZ rX),.nilIface]) 15 rfl HS.b1 (fun a ha w=>run_move (ha.ev rfl)) ?_
     refine Dv (a0r sJ rH sD rU rM rY rW sK rJ sG rV rO rZ rX) 16 rfl HS.b1 (fun a ha w=>bK (ha.ev rfl) rfl) ?_
     refine Dv (.nilIface) 17 rfl HS.b1 (fun a ha w=>bK (ha.ev rfl) rfl) ?_
     refine bF 19 (a0s sJ rH sD rU rM rY rW sK rJ sG rV rO rZ rX) HS 0 rfl rfl rfl rfl aYo (fun _ HS=>⟨HS.b1,?_⟩)
     refine Dv (.nilIface) 20 rfl HS.b1 (fun a ha w=>run_assign (ha.ev rfl)) ?_
     exact JR.mt (Ho,Gm,G7,Gz,Gq,GZ,GH,Gf,Fz,F5,FP,FD,FY,FT,sJ,rH,sD,rU,rM,rY,rW,sK,rJ,sG,rV,rO,rZ,rX,BJ) HS
    ·skip
     rintro ⟨Ho,Gm,G7,Gz,Gq,GZ,GH,Gf,Fz,F5,FP,FD,FY,FT,sJ,rH,sD,rU,rM,rY,rW,sK,rJ,sG,rV,rO,rZ,rX,BJ⟩ aHx HS
     try dsimp only at HS ⊢
     refine JC.cut (ι:=iy9) (fun ⟨JO,Ia,Jg,IC,Ih,Ja,IM,Hq,Gn,G8,GG,Gu,G5,GI,uK,uf,uH,uq,uh,uF,uy,uM,ug,uI,uw,uj,uG,uz,Dy⟩=>[(0,(a0r ax ay aj c1a az ak aA aB aC n1b aG aF au aH)),(1,(a0r aP aQ aK aS aU aN aY aV aW aO aX aZ aT bf)),(2,.agg #[.int .u8 o6,.int .u8 o7,.int .u8 vK,.int .u8 vO]),(3,.pointer (some ⟨g1,0,none⟩)),(4,.pointer (some ⟨g2,0,none⟩)),(5,.pointer (some ⟨g3,0,none⟩)),(6,.bool false),(7,.pointer (some ⟨BJ,0,none⟩)),(8,.nilIface),(9,.pointer (some ⟨Dy,0,none⟩)),(10,.nilIface),(19,(a0r ax ay aj c1a az ak aA aB aC n1b aG aF au aH)),(20,(a0r aP aQ aK aS aU aN aY aV aW aO aX aZ aT bf)),(21,.slice (some ⟨g4,0,none⟩) 2 2),(22,.bool true),(23,.bool false),(24,.bool false),(25,(a0r ax ay aj c1a az ak aA aB aC n1b aG aF au aH)),(26,.bool true),(27,.bool false),(28,.bool false),(29,.bool false),(30,(a0r aP aQ aK aS aU aN aY aV aW aO aX aZ aT bf)),(31,.bool true),(32,.bool false),(33,.bool false),(34,.bool false),(35,.bool true),(36,.bool false),(37,.bool false)]) (fun ⟨JO,Ia,Jg,IC,Ih,Ja,IM,Hq,Gn,G8,GG,Gu,G5,GI,uK,uf,uH,uq,uh,uF,uy,uM,ug,uI,uw,uj,uG,uz,Dy⟩ w=>St W0 (⟨Dy,48,(a0s uK uf uH uq uh uF uy uM ug uI uw uj uG uz)⟩ :: ⟨BJ,48,(a0s sJ rH sD rU rM rY rW sK rJ sG rV rO rZ rX)⟩ :: ⟨g4,48,[.bool ax,.slice ay aj c1a,.slice az ak aA,.bool aB,.slice aC n1b aG,.slice aF au aH,.bool aP,.slice aQ aK aS,.slice aU aN aY,.bool aV,.slice aW aO aX,.slice aZ aT bf]⟩ :: ⟨g3,79,[.int .u8 o6,.int .u8 o7,.int .u8 vK,.int .u8 vO]⟩ :: ⟨g2,48,(a0s aP aQ aK aS aU aN aY aV aW aO aX aZ aT bf)⟩ :: ⟨g1,48,(a0s ax ay aj c1a az ak aA aB aC n1b aG aF au aH)⟩ :: U) (FV (a0p uK uf uH uq uh uF uy) (aI+Rat.divInt (min vK vO) 255*(aJ - aI)) ((8+(6+(8+(8+1)+2)+2)+2)+(8+(6+(8+(8+1)+2)+2)+2)) true :: FV (a0p uM ug uI uw uj uG uz) (aI+Rat.divInt (max vK vO) 255*(aJ - aI)) ((8+(6+(8+(8+1)+2)+2)+2)+(8+(6+(8+(8+1)+2)+2)+2)) true :: FV (a0p Hq Gn G8 GG Gu G5 GI) (aI+Rat.divInt (max vK vO) 255*(aJ - aI)) (8+(6+(8+(8+1)+2)+2)+2) true :: FV (a0p JO Ia Jg IC Ih Ja IM) (aI+Rat.divInt (min vK vO) 255*(aJ - aI)) (8+(6+(8+(8+1)+2)+2)+2) true :: FV (a0p sJ rH sD rU rM rY rW) (af+Rat.divInt (min o6 o7) 255*(ah - af)) ((8+(6+(8+(8+1)+2)+2)+2)+(8+(6+(8+(8+1)+2)+2)+2)) true :: FV (a0p sK rJ sG rV rO rZ rX) (af+Rat.divInt (max o6 o7) 255*(ah - af)) ((8+(6+(8+(8+1)+2)+2)+2)+(8+(6+(8+(8+1)+2)+2)+2)) true :: FV (a0p Gf Fz F5 FP FD FY FT) (af+Rat.divInt (max o6 o7) 255*(ah - af)) (8+(6+(8+(8+1)+2)+2)+2) true :: FV (a0p Ho Gm G7 Gz Gq GZ GH) (af+Rat.divInt (min o6 o7) 255*(ah - af)) (8+(6+(8+(8+1)+2)+2)+2) true :: FV (a0p aV aW aO aX aZ aT bf) aJ 8 true :: FV (a0p aP aQ aK aS aU aN aY) aI 8 true :: FV (a0p aB aC n1b aG aF au aH) ah 8 true :: FV (a0p ax ay aj c1a az ak aA) af 8 true :: FV (a0p aV aW aO aX aZ aT bf) aJ bP true :: FV (a0p aP aQ aK aS aU aN aY) aI bM true :: FV (a0p aB aC n1b aG aF au aH) ah bD true :: FV (a0p ax ay aj c1a az ak aA) af bC true :: Ps) w) ?_ ?_
     ·skip
      refine JC.draw HS [] (by kernel_rfl) (fun QA HS => ?_)
      refine Da (a0r aP aQ aK aS aU aN aY aV aW aO aX aZ aT bf) 0 3 rfl HS.b0 rfl rfl aYq aYo ?_
      refine Dv (.pointer (some ⟨g3,2,none⟩)) 1 rfl HS.b0 (fun a ha w=>KY (ha.ev rfl) (ha.ev rfl) aZf aYW (j:=2) rfl (by decide) rfl) ?_
      refine Do (.int .u8 vK) 2 2 rfl HS.b0 rfl rfl aYV ?_
      refine Dv (.pointer (some ⟨g3,3,none⟩)) 3 rfl HS.b0 (fun a ha w=>KY (ha.ev rfl) (ha.ev rfl) aZf aYW (j:=3) rfl (by decide) rfl) ?_
      refine Do (.int .u8 vO) 4 2 rfl HS.b0 rfl rfl aYV ?_
      refine Dv (.int .u8 (min vK vO)) 5 rfl HS.b0 (fun a ha w=>arh (ha.ev rfl) (ha.ev rfl) rfl) ?_
      refine Da (a0r aP aQ aK aS aU aN aY aV aW aO aX aZ aT bf) 7 3 rfl HS.b0 rfl rfl aYq aYo ?_
      refine Dv (.pointer (some ⟨g3,2,none⟩)) 8 rfl HS.b0 (fun a ha w=>KY (ha.ev rfl) (ha.ev rfl) aZf aYW (j:=2) rfl (by decide) rfl) ?_
      refine Do (.int .u8 vK) 9 2 rfl HS.b0 rfl rfl aYV ?_
      refine Dv (.pointer (some ⟨g3,3,none⟩)) 10 rfl HS.b0 (fun a ha w=>KY (ha.ev rfl) (ha.ev rfl) aZf aYW (j:=3) rfl (by decide) rfl) ?_
      refine Do (.int .u8 vO) 11 2 rfl HS.b0 rfl rfl aYV ?_
      refine Dv (.int .u8 (max vK vO)) 12 rfl HS.b0 (fun a ha w=>arf (ha.ev rfl) (ha.ev rfl) rfl) ?_
      refine JR.any [6,18] (by kernel_rfl) rfl ?_
      refine ai.call rfl rfl rfl aYH (xR HT HB HS (HS.at_ 5 rfl) (HS.at_ 4 rfl) (by omega) (by omega) (by omega)) rfl (fun aGq aG3 af1 => ?_) ?_
      ·skip
       obtain ⟨JO,Ia,Jg,IC,Ih,Ja,IM,rfl,HS⟩:=af1
       refine ⟨HS.b0,?_⟩
       refine JR.any [13,18] (by kernel_rfl) rfl ?_
       refine ai.call rfl rfl rfl aYH (xR HT HB HS (HS.at_ 6 rfl) (HS.at_ 5 rfl) (by omega) (by omega) (by omega)) rfl (fun ajN aj2 QZ => ?_) ?_
       ·skip
        obtain ⟨Hq,Gn,G8,GG,Gu,G5,GI,rfl,HS⟩:=QZ
        refine ⟨HS.b0,?_⟩
        refine JR.any [14,18] (by kernel_rfl) rfl ?_
        refine ai.call rfl rfl rfl aY9 (O5 HT HB HS (HS.at_ 1 rfl) (HS.at_ 0 rfl) (by omega) (LU gV (by omega))) rfl (fun ajO aj3 Q5 => ?_) ?_
        ·skip
         obtain ⟨uK,uf,uH,uq,uh,uF,uy,uM,ug,uI,uw,uj,uG,uz,rfl,HS⟩:=Q5
         refine ⟨HS.b0,?_⟩
         refine Dv (.tuple #[(a0r uK uf uH uq uh uF uy uM ug uI uw uj uG uz),.nilIface]) 15 rfl HS.b0 (fun a ha w=>run_move (ha.ev rfl)) ?_
         refine Dv (a0r uK uf uH uq uh uF uy uM ug uI uw uj uG uz) 16 rfl HS.b0 (fun a ha w=>bK (ha.ev rfl) rfl) ?_
         refine Dv (.nilIface) 17 rfl HS.b0 (fun a ha w=>bK (ha.ev rfl) rfl) ?_
         refine jy (vs:=cO) 18 HS rfl aYt rfl (fun Dy _ HS=>⟨HS.b1,?_⟩)
         refine bF 19 (a0s uK uf uH uq uh uF uy uM ug uI uw uj uG uz) HS 0 rfl rfl rfl rfl aYo (fun _ HS=>⟨HS.b1,?_⟩)
         refine Dv (.nilIface) 20 rfl HS.b1 (fun a ha w=>run_assign (ha.ev rfl)) ?_
         exact JR.mt (JO,Ia,Jg,IC,Ih,Ja,IM,Hq,Gn,G8,GG,Gu,G5,GI,uK,uf,uH,uq,uh,uF,uy,uM,ug,uI,uw,uj,uG,uz,Dy) HS
        refine ai.alloc (vs:=cO) HS rfl rfl aYt rfl rfl rfl (fun Dy as3 HS => ?_) ai.nil
        refine ⟨HS.b1,?_⟩
        refine bJ 14 rfl rfl rfl aY9 (O5 HT HB HS (HS.at_ 1 rfl) (HS.at_ 0 rfl) (by omega) (LU gV (by omega))) (fun ajO aj3 Q5 => ?_)
        obtain ⟨uK,uf,uH,uq,uh,uF,uy,uM,ug,uI,uw,uj,uG,uz,rfl,HS⟩:=Q5
        refine ⟨HS.b1,?_⟩
        refine Dv (.tuple #[(a0r uK uf uH uq uh uF uy uM ug uI uw uj uG uz),.nilIface]) 15 rfl HS.b1 (fun a ha w=>run_move (ha.ev rfl)) ?_
        refine Dv (a0r uK uf uH uq uh uF uy uM ug uI uw uj uG uz) 16 rfl HS.b1 (fun a ha w=>bK (ha.ev rfl) rfl) ?_
        refine Dv (.nilIface) 17 rfl HS.b1 (fun a ha w=>bK (ha.ev rfl) rfl) ?_
        refine bF 19 (a0s uK uf uH uq uh uF uy uM ug uI uw uj uG uz) HS 0 rfl rfl rfl rfl aYo (fun _ HS=>⟨HS.b1,?_⟩)
        refine Dv (.nilIface) 20 rfl HS.b1 (fun a ha w=>run_assign (ha.ev rfl)) ?_
        exact JR.mt (JO,Ia,Jg,IC,Ih,Ja,IM,Hq,Gn,G8,GG,Gu,G5,GI,uK,uf,uH,uq,uh,uF,uy,uM,ug,uI,uw,uj,uG,uz,Dy) HS
       refine ai.alloc (vs:=cO) HS rfl rfl aYt rfl rfl rfl (fun Dy as3 HS => ?_) ai.nil
       refine ⟨HS.b1,?_⟩
       refine bJ 13 rfl rfl rfl aYH (xR HT HB HS (HS.at_ 6 rfl) (HS.at_ 5 rfl) (by omega) (by omega) (by omega)) (fun ajN aj2 QZ => ?_)
       obtain ⟨Hq,Gn,G8,GG,Gu,G5,GI,rfl,HS⟩:=QZ
       refine ⟨HS.b1,?_⟩
       refine bJ 14 rfl rfl rfl aY9 (O5 HT HB HS (HS.at_ 1 rfl) (HS.at_ 0 rfl) (by omega) (LU gV (by omega))) (fun ajO aj3 Q5 => ?_)
       obtain ⟨uK,uf,uH,uq,uh,uF,uy,uM,ug,uI,uw,uj,uG,uz,rfl,HS⟩:=Q5
       refine ⟨HS.b1,?_⟩
       refine Dv (.tuple #[(a0r uK uf uH uq uh uF uy uM ug uI uw uj uG uz),.nilIface]) 15 rfl HS.b1 (fun a ha w=>run_move (ha.ev rfl)) ?_
       refine Dv (a0r uK uf uH uq uh uF uy uM ug uI uw uj uG uz) 16 rfl HS.b1 (fun a ha w=>bK (ha.ev rfl) rfl) ?_
       refine Dv (.nilIface) 17 rfl HS.b1 (fun a ha w=>bK (ha.ev rfl) rfl) ?_
       refine bF 19 (a0s uK uf uH uq uh uF uy uM ug uI uw uj uG uz) HS 0 rfl rfl rfl rfl aYo (fun _ HS=>⟨HS.b1,?_⟩)
       refine Dv (.nilIface) 20 rfl HS.b1 (fun a ha w=>run_assign (ha.ev rfl)) ?_
       exact JR.mt (JO,Ia,Jg,IC,Ih,Ja,IM,Hq,Gn,G8,GG,Gu,G5,GI,uK,uf,uH,uq,uh,uF,uy,uM,ug,uI,uw,uj,uG,uz,Dy) HS
      refine ai.alloc (vs:=cO) HS rfl rfl aYt rfl rfl rfl (fun Dy as3 HS => ?_) ai.nil
      refine ⟨HS.b1,?_⟩
      refine bJ 6 rfl rfl rfl aYH (xR HT HB HS (HS.at_ 5 rfl) (HS.at_ 4 rfl) (by omega) (by omega) (by omega)) (fun aGq aG3 af1 => ?_)
      obtain ⟨JO,Ia,Jg,IC,Ih,Ja,IM,rfl,HS⟩:=af1
      refine ⟨HS.b1,?_⟩
      refine bJ 13 rfl rfl rfl aYH (xR HT HB HS (HS.at_ 6 rfl) (HS.at_ 5 rfl) (by omega) (by omega) (by omega)) (fun ajN aj2 QZ => ?_)
      obtain ⟨Hq,Gn,G8,GG,Gu,G5,GI,rfl,HS⟩:=QZ
      refine ⟨HS.b1,?_⟩
      refine bJ 14 rfl rfl rfl aY9 (O5 HT HB HS (HS.at_ 1 rfl) (HS.at_ 0 rfl) (by omega) (LU gV (by omega))) (fun ajO aj3 Q5 => ?_)
      obtain ⟨uK,uf,uH,uq,uh,uF,uy,uM,ug,uI,uw,uj,uG,uz,rfl,HS⟩:=Q5
      refine ⟨HS.b1,?_⟩
      refine Dv (.tuple #[(a0r uK uf uH uq uh uF uy uM ug uI uw uj uG uz),.nilIface]) 15 rfl HS.b1 (fun a ha w=>run_move (ha.ev rfl)) ?_
      refine Dv (a0r uK uf uH uq uh uF uy uM ug uI uw uj uG uz) 16 rfl HS.b1 (fun a ha w=>bK (ha.ev rfl) rfl) ?_
      refine Dv (.nilIface) 17 rfl HS.b1 (fun a ha w=>bK (ha.ev rfl) rfl) ?_
      refine bF 19 (a0s uK uf uH uq uh uF uy uM ug uI uw uj uG uz) HS 0 rfl rfl rfl rfl aYo (fun _ HS=>⟨HS.b1,?_⟩)
      refine Dv (.nilIface) 20 rfl HS.b1 (fun a ha w=>run_assign (ha.ev rfl)) ?_
      exact JR.mt (JO,Ia,Jg,IC,Ih,Ja,IM,Hq,Gn,G8,GG,Gu,G5,GI,uK,uf,uH,uq,uh,uF,uy,uM,ug,uI,uw,uj,uG,uz,Dy) HS
     ·skip
      rintro ⟨JO,Ia,Jg,IC,Ih,Ja,IM,Hq,Gn,G8,GG,Gu,G5,GI,uK,uf,uH,uq,uh,uF,uy,uM,ug,uI,uw,uj,uG,uz,Dy⟩ aHy HS
      try dsimp only at HS ⊢
      refine JC.seq ?_
      refine JC.seq ?_
      obtain ⟨xa,hxa⟩ : ∃ r,r=(af+Rat.divInt (min o6 o7) 255*(ah - af)):=⟨_,rfl⟩
      have HS:=HS.pO 4 rfl (fun _ h=>h.as hxa.symm (Nat.le_refl _))
      obtain ⟨xb,hxb⟩ : ∃ r,r=(af+Rat.divInt (max o6 o7) 255*(ah - af)):=⟨_,rfl⟩
      have HS:=HS.pO 6 rfl (fun _ h=>h.as hxb.symm (Nat.le_refl _))
      have Xl:af≤xa∧xa≤ah:=by rw [hxa]; exact VK fE (by omega) (by omega)
      have Xm:af≤xb∧xb≤ah:=by rw [hxb]; exact VK fE (by omega) (by omega)
      have CO:xa≤xb:=by rw [hxa,hxb]; exact LU fE (by omega)
      clear hxa hxb
      obtain ⟨ya,hya⟩ : ∃ r,r=(aI+Rat.divInt (min vK vO) 255*(aJ - aI)):=⟨_,rfl⟩
      have HS:=HS.pO 2 rfl (fun _ h=>h.as hya.symm (Nat.le_refl _))
      obtain ⟨yb,hyb⟩ : ∃ r,r=(aI+Rat.divInt (max vK vO) 255*(aJ - aI)):=⟨_,rfl⟩
      have HS:=HS.pO 4 rfl (fun _ h=>h.as hyb.symm (Nat.le_refl _))
      have bya:aI≤ya∧ya≤aJ:=by rw [hya]; exact VK gV (by omega) (by omega)
      have byb:aI≤yb∧yb≤aJ:=by rw [hyb]; exact VK gV (by omega) (by omega)
      have Gy:ya≤yb:=by rw [hya,hyb]; exact LU gV (by omega)
      clear hya hyb
      refine JC.region ?_
      refine Lv (.nilIface) (fun a ha=>run_move (ha.ev rfl)) ?_
      refine Lv (.bool false) (fun a ha=>JK (ha.ev rfl) rfl aYA) ?_
      refine Lv (.bool false) (fun a ha=>run_move (ha.ev rfl)) ?_
      refine Lg (.nilIface) (fun a ha=>run_move (ha.ev rfl)) ?_
      refine Lg (.bool false) (fun a ha=>JK (ha.ev rfl) rfl aYA) ?_
      refine Lv (.bool false) (fun a ha=>gB (ha.ev rfl) (ha.ev rfl)) ?_
      refine Lv (.bool false) (fun a ha=>run_move (ha.ev rfl)) ?_
      refine Lg (a0r sJ rH sD rU rM rY rW sK rJ sG rV rO rZ rX) (fun a ha=>gU (ha.ev rfl) aYq aYo (HS.box _ (.tail _ (.head _))) rfl rfl) ?_
      refine Lg (a0r ax ay aj c1a az ak aA aB aC n1b aG aF au aH) (fun a ha=>gU (ha.ev rfl) aYq aYo (HS.box _ (.tail _ (.tail _ (.tail _ (.tail _ (.tail _ (.head _))))))) rfl rfl) ?_
      refine JL.cZ rfl rfl rfl rfl rfl rfl aY' (Qx HT HB HS (HS.at_ 3 rfl) (HS.at_ 2 rfl) (HS.at_ 15 rfl) (HS.at_ 14 rfl) (by omega) CO fE ⟨Xl.1,Xm.2⟩) (fun v19 O6 Q7 => ?_)
      obtain ⟨rfl,HS⟩:=Q7
      refine Lg (.bool false) (fun a ha=>sU (b:=true) (ha.ev rfl)) ?_
      refine Lv (.bool false) (fun a ha=>gB (ha.ev rfl) (ha.ev rfl)) ?_
      refine Lv (.bool false) (fun a ha=>run_move (ha.ev rfl)) ?_
      refine Lg (a0r uK uf uH uq uh uF uy uM ug uI uw uj uG uz) (fun a ha=>gU (ha.ev rfl) aYq aYo (HS.box _ (.head _)) rfl rfl) ?_
      refine Lg (a0r aP aQ aK aS aU aN aY aV aW aO aX aZ aT bf) (fun a ha=>gU (ha.ev rfl) aYq aYo (HS.box _ (.tail _ (.tail _ (.tail _ (.tail _ (.head _)))))) rfl rfl) ?_
      refine JL.cZ rfl rfl rfl rfl rfl rfl aY' (Qx HT HB HS (HS.at_ 1 rfl) (HS.at_ 0 rfl) (HS.at_ 13 rfl) (HS.at_ 12 rfl) (by omega) Gy gV ⟨bya.1,byb.2⟩) (fun v20 O7 MX => ?_)
      obtain ⟨rfl,HS⟩:=MX
      refine Lg (.bool false) (fun a ha=>sU (b:=true) (ha.ev rfl)) ?_
      refine Lv (.bool false) (fun a ha=>gB (ha.ev rfl) (ha.ev rfl)) ?_
      refine jn ?_
      refine JC.jA rfl ?_
      refine JC.jF (fun _ _ h=>h) ?_
      refine JC.tail3 (ι:=Unit) (fun _u=>[(0,(a0r ax ay aj c1a az ak aA aB aC n1b aG aF au aH)),(1,(a0r aP aQ aK aS aU aN aY aV aW aO aX aZ aT bf)),(2,.agg #[.int .u8 o6,.int .u8 o7,.int .u8 vK,.int .u8 vO]),(3,.pointer (some ⟨g1,0,none⟩)),(4,.pointer (some ⟨g2,0,none⟩)),(5,.pointer (some ⟨g3,0,none⟩)),(7,.pointer (some ⟨BJ,0,none⟩)),(8,.nilIface),(9,.pointer (some ⟨Dy,0,none⟩)),(10,.nilIface),(19,(a0r ax ay aj c1a az ak aA aB aC n1b aG aF au aH)),(20,(a0r aP aQ aK aS aU aN aY aV aW aO aX aZ aT bf)),(21,.slice (some ⟨g4,0,none⟩) 2 2),(22,.bool true),(23,.bool false),(24,.bool false),(25,(a0r ax ay aj c1a az ak aA aB aC n1b aG aF au aH)),(26,.bool true),(27,.bool false),(28,.bool false),(29,.bool false),(30,(a0r aP aQ aK aS aU aN aY aV aW aO aX aZ aT bf)),(31,.bool true),(32,.bool false),(33,.bool false),(34,.bool false),(35,.bool true),(36,.bool false),(37,.bool false),(75,.nilIface),(76,.bool false),(77,.bool false),(78,.nilIface),(79,.bool false),(80,.bool false),(81,.bool false),(82,(a0r sJ rH sD rU rM rY rW sK rJ sG rV rO rZ rX)),(83,(a0r ax ay aj c1a az ak aA aB aC n1b aG aF au aH)),(84,.bool true),(85,.bool false),(86,.bool false),(87,.bool false),(88,(a0r uK uf uH uq uh uF uy uM ug uI uw uj uG uz)),(89,(a0r aP aQ aK aS aU aN aY aV aW aO aX aZ aT bf)),(90,.bool true),(91,.bool false),(92,.bool false)]) (fun _u w=>St W0 (⟨Dy,48,(a0s uK uf uH uq uh uF uy uM ug uI uw uj uG uz)⟩ :: ⟨BJ,48,(a0s sJ rH sD rU rM rY rW sK rJ sG rV rO rZ rX)⟩ :: ⟨g4,48,[.bool ax,.slice ay aj c1a,.slice az ak aA,.bool aB,.slice aC n1b aG,.slice aF au aH,.bool aP,.slice aQ aK aS,.slice aU aN aY,.bool aV,.slice aW aO aX,.slice aZ aT bf]⟩ :: ⟨g3,79,[.int .u8 o6,.int .u8 o7,.int .u8 vK,.int .u8 vO]⟩ :: ⟨g2,48,(a0s aP aQ aK aS aU aN aY aV aW aO aX aZ aT bf)⟩ :: ⟨g1,48,(a0s ax ay aj c1a az ak aA aB aC n1b aG aF au aH)⟩ :: U) (FV (a0p uM ug uI uw uj uG uz) yb ((8+(6+(8+(8+1)+2)+2)+2)+(8+(6+(8+(8+1)+2)+2)+2)) true :: FV (a0p uK uf uH uq uh uF uy) ya ((8+(6+(8+(8+1)+2)+2)+2)+(8+(6+(8+(8+1)+2)+2)+2)) true :: FV (a0p sK rJ sG rV rO rZ rX) xb ((8+(6+(8+(8+1)+2)+2)+2)+(8+(6+(8+(8+1)+2)+2)+2)) true :: FV (a0p sJ rH sD rU rM rY rW) xa ((8+(6+(8+(8+1)+2)+2)+2)+(8+(6+(8+(8+1)+2)+2)+2)) true :: FV (a0p uK uf uH uq uh uF uy) (aI+Rat.divInt (min vK vO) 255*(aJ - aI)) ((8+(6+(8+(8+1)+2)+2)+2)+(8+(6+(8+(8+1)+2)+2)+2)) true :: FV (a0p uM ug uI uw uj uG uz) (aI+Rat.divInt (max vK vO) 255*(aJ - aI)) ((8+(6+(8+(8+1)+2)+2)+2)+(8+(6+(8+(8+1)+2)+2)+2)) true :: FV (a0p Hq Gn G8 GG Gu G5 GI) (aI+Rat.divInt (max vK vO) 255*(aJ - aI)) (8+(6+(8+(8+1)+2)+2)+2) true :: FV (a0p JO Ia Jg IC Ih Ja IM) (aI+Rat.divInt (min vK vO) 255*(aJ - aI)) (8+(6+(8+(8+1)+2)+2)+2) true :: FV (a0p sJ rH sD rU rM rY rW) (af+Rat.divInt (min o6 o7) 255*(ah - af)) ((8+(6+(8+(8+1)+2)+2)+2)+(8+(6+(8+(8+1)+2)+2)+2)) true :: FV (a0p sK rJ sG rV rO rZ rX) (af+Rat.divInt (max o6 o7) 255*(ah - af)) ((8+(6+(8+(8+1)+2)+2)+2)+(8+(6+(8+(8+1)+2)+2)+2)) true :: FV (a0p Gf Fz F5 FP FD FY FT) (af+Rat.divInt (max o6 o7) 255*(ah - af)) (8+(6+(8+(8+1)+2)+2)+2) true :: FV (a0p Ho Gm G7 Gz Gq GZ GH) (af+Rat.divInt (min o6 o7) 255*(ah - af)) (8+(6+(8+(8+1)+2)+2)+2) true :: FV (a0p aV aW aO aX aZ aT bf) aJ 8 true :: FV (a0p aP aQ aK aS aU aN aY) aI 8 true :: FV (a0p aB aC n1b aG aF au aH) ah 8 true :: FV (a0p ax ay aj c1a az ak aA) af 8 true :: FV (a0p aV aW aO aX aZ aT bf) aJ bP true :: FV (a0p aP aQ aK aS aU aN aY) aI bM true :: FV (a0p aB aC n1b aG aF au aH) ah bD true :: FV (a0p ax ay aj c1a az ak aA) af bC true :: Ps) w) ?_ ?_
      ·skip
       rintro _u aX7 HS
       try dsimp only at HS ⊢
       refine JC.tail3 (ι:=Unit) (fun _u=>[(0,(a0r ax ay aj c1a az ak aA aB aC n1b aG aF au aH)),(1,(a0r aP aQ aK aS aU aN aY aV aW aO aX aZ aT bf)),(2,.agg #[.int .u8 o6,.int .u8 o7,.int .u8 vK,.int .u8 vO]),(3,.pointer (some ⟨g1,0,none⟩)),(4,.pointer (some ⟨g2,0,none⟩)),(5,.pointer (some ⟨g3,0,none⟩)),(7,.pointer (some ⟨BJ,0,none⟩)),(8,.nilIface),(9,.pointer (some ⟨Dy,0,none⟩)),(10,.nilIface),(19,(a0r ax ay aj c1a az ak aA aB aC n1b aG aF au aH)),(20,(a0r aP aQ aK aS aU aN aY aV aW aO aX aZ aT bf)),(21,.slice (some ⟨g4,0,none⟩) 2 2),(22,.bool true),(23,.bool false),(24,.bool false),(25,(a0r ax ay aj c1a az ak aA aB aC n1b aG aF au aH)),(26,.bool true),(27,.bool false),(28,.bool false),(29,.bool false),(30,(a0r aP aQ aK aS aU aN aY aV aW aO aX aZ aT bf)),(31,.bool true),(32,.bool false),(33,.bool false),(34,.bool false),(35,.bool true),(36,.bool false),(37,.bool false),(75,.nilIface),(76,.bool false),(77,.bool false),(78,.nilIface),(79,.bool false),(80,.bool false),(81,.bool false),(82,(a0r sJ rH sD rU rM rY rW sK rJ sG rV rO rZ rX)),(83,(a0r ax ay aj c1a az ak aA aB aC n1b aG aF au aH)),(84,.bool true),(85,.bool false),(86,.bool false),(87,.bool false),(88,(a0r uK uf uH uq uh uF uy uM ug uI uw uj uG uz)),(89,(a0r aP aQ aK aS aU aN aY aV aW aO aX aZ aT bf)),(90,.bool true),(91,.bool false),(92,.bool false)]) (fun _u w=>St W0 (⟨Dy,48,(a0s uK uf uH uq uh uF uy uM ug uI uw uj uG uz)⟩ :: ⟨BJ,48,(a0s sJ rH sD rU rM rY rW sK rJ sG rV rO rZ rX)⟩ :: ⟨g4,48,[.bool ax,.slice ay aj c1a,.slice az ak aA,.bool aB,.slice aC n1b aG,.slice aF au aH,.bool aP,.slice aQ aK aS,.slice aU aN aY,.bool aV,.slice aW aO aX,.slice aZ aT bf]⟩ :: ⟨g3,79,[.int .u8 o6,.int .u8 o7,.int .u8 vK,.int .u8 vO]⟩ :: ⟨g2,48,(a0s aP aQ aK aS aU aN aY aV aW aO aX aZ aT bf)⟩ :: ⟨g1,48,(a0s ax ay aj c1a az ak aA aB aC n1b aG aF au aH)⟩ :: U) (FV (a0p uM ug uI uw uj uG uz) yb ((8+(6+(8+(8+1)+2)+2)+2)+(8+(6+(8+(8+1)+2)+2)+2)) true :: FV (a0p uK uf uH uq uh uF uy) ya ((8+(6+(8+(8+1)+2)+2)+2)+(8+(6+(8+(8+1)+2)+2)+2)) true :: FV (a0p sK rJ sG rV rO rZ rX) xb ((8+(6+(8+(8+1)+2)+2)+2)+(8+(6+(8+(8+1)+2)+2)+2)) true :: FV (a0p sJ rH sD rU rM rY rW) xa ((8+(6+(8+(8+1)+2)+2)+2)+(8+(6+(8+(8+1)+2)+2)+2)) true :: FV (a0p uK uf uH uq uh uF uy) (aI+Rat.divInt (min vK vO) 255*(aJ - aI)) ((8+(6+(8+(8+1)+2)+2)+2)+(8+(6+(8+(8+1)+2)+2)+2)) true :: FV (a0p uM ug uI uw uj uG uz) (aI+Rat.divInt (max vK vO) 255*(aJ - aI)) ((8+(6+(8+(8+1)+2)+2)+2)+(8+(6+(8+(8+1)+2)+2)+2)) true :: FV (a0p Hq Gn G8 GG Gu G5 GI) (aI+Rat.divInt (max vK vO) 255*(aJ - aI)) (8+(6+(8+(8+1)+2)+2)+2) true :: FV (a0p JO Ia Jg IC Ih Ja IM) (aI+Rat.divInt (min vK vO) 255*(aJ - aI)) (8+(6+(8+(8+1)+2)+2)+2) true :: FV (a0p sJ rH sD rU rM rY rW) (af+Rat.divInt (min o6 o7) 255*(ah - af)) ((8+(6+(8+(8+1)+2)+2)+2)+(8+(6+(8+(8+1)+2)+2)+2)) true :: FV (a0p sK rJ sG rV rO rZ rX) (af+Rat.divInt (max o6 o7) 255*(ah - af)) ((8+(6+(8+(8+1)+2)+2)+2)+(8+(6+(8+(8+1)+2)+2)+2)) true :: FV (a0p Gf Fz F5 FP FD FY FT) (af+Rat.divInt (max o6 o7) 255*(ah - af)) (8+(6+(8+(8+1)+2)+2)+2) true :: FV (a0p Ho Gm G7 Gz Gq GZ GH) (af+Rat.divInt (min o6 o7) 255*(ah - af)) (8+(6+(8+(8+1)+2)+2)+2) true :: FV (a0p aV aW aO aX aZ aT bf) aJ 8 true :: FV (a0p aP aQ aK aS aU aN aY) aI 8 true :: FV (a0p aB aC n1b aG aF au aH) ah 8 true :: FV (a0p ax ay aj c1a az ak aA) af 8 true :: FV (a0p aV aW aO aX aZ aT bf) aJ bP true :: FV (a0p aP aQ aK aS aU aN aY) aI bM true :: FV (a0p aB aC n1b aG aF au aH) ah bD true :: FV (a0p ax ay aj c1a az ak aA) af bC true :: Ps) w) ?_ ?_
       ·skip
        rintro _u aX8 HS
        try dsimp only at HS ⊢
        refine JC.seq ?_
        refine JC.draw HS [] (by kernel_rfl) (fun Z5 HS => ?_)
        refine Da (a0r sJ rH sD rU rM rY rW sK rJ sG rV rO rZ rX) 0 1 rfl HS.b0 rfl rfl aYq aYo ?_
        refine Da (a0r uK uf uH uq uh uF uy uM ug uI uw uj uG uz) 1 0 rfl HS.b0 rfl rfl aYq aYo ?_
        refine Da (a0r ax ay aj c1a az ak aA aB aC n1b aG aF au aH) 3 5 rfl HS.b0 rfl rfl aYq aYo ?_
        refine Da (a0r aP aQ aK aS aU aN aY aV aW aO aX aZ aT bf) 4 4 rfl HS.b0 rfl rfl aYq aYo ?_
        refine bJ 2 rfl rfl rfl aY8 (Qv HT HB HS (HS.at_ 3 rfl) (HS.at_ 2 rfl) (HS.at_ 1 rfl) (HS.at_ 0 rfl) (by omega) CO Gy) (fun aUt aWG au3 => ?_)
        obtain ⟨aSz,aIr,aQK,aLh,aJP,aPm,aMN,aSA,aIs,aQL,aLi,aJQ,aPn,aMO,rfl,HS⟩:=au3
        refine ⟨HS.b0,?_⟩
        refine bJ 5 rfl rfl rfl aY8 (Qv HT HB HS (HS.at_ 17 rfl) (HS.at_ 16 rfl) (HS.at_ 15 rfl) (HS.at_ 14 rfl) (by omega) fE gV) (fun aUu aWH au4 => ?_)
        obtain ⟨aSB,aIt,aQM,aLj,aJR,aPo,aMQ,aSC,aIu,aQN,aLk,aJS,aPq,aMR,rfl,HS⟩:=au4
        refine ⟨HS.b0,?_⟩
        refine bJ 6 rfl rfl rfl aY' (Qx HT HB HS (HS.at_ 2 rfl) (HS.at_ 3 rfl) (HS.at_ 0 rfl) (HS.at_ 1 rfl) (by omega) (by grind) (by grind) (by constructor <;> grind)) (fun aUv aWI au5 => ?_)
        obtain ⟨rfl,HS⟩:=au5
        refine ⟨HS.b0,?_⟩
        refine Dv (.bool true) 7 rfl HS.b0 (fun a ha w=>run_move (ha.ev rfl)) ?_
        refine fM (a0r sJ rH sD rU rM rY rW sK rJ sG rV rO rZ rX) 8 1 (by kernel_rfl) rfl (fun _ _ _ h=>h) rfl rfl rfl rfl rfl HS.b0 rfl rfl aYq aYo rfl rfl ?_
        refine fM (a0r uK uf uH uq uh uF uy uM ug uI uw uj uG uz) 9 0 (by kernel_rfl) rfl (fun _ _ _ h=>h) rfl rfl rfl rfl rfl HS.b0 rfl rfl aYq aYo rfl rfl ?_
        refine fM (a0r ax ay aj c1a az ak aA aB aC n1b aG aF au aH) 11 5 (by kernel_rfl) rfl (fun _ _ _ h=>h) rfl rfl rfl rfl rfl HS.b0 rfl rfl aYq aYo rfl rfl ?_
        refine fM (a0r aP aQ aK aS aU aN aY aV aW aO aX aZ aT bf) 12 4 (by kernel_rfl) rfl (fun _ _ _ h=>h) rfl rfl rfl rfl rfl HS.b0 rfl rfl aYq aYo rfl rfl ?_
        refine J1 10 (by kernel_rfl) ?_
        refine ai.cZ rfl rfl rfl rfl rfl rfl rfl a0c (ajZ HT HB HS (HS.at_ 7 rfl) (HS.at_ 6 rfl) (HS.at_ 5 rfl) (HS.at_ 4 rfl) (by omega) CO Gy) rfl (fun aUw aWJ au6 => ?_) ai.nil
        obtain ⟨aSE,aIv,aQO,aLm,aJT,aPr,aMS,aSF,aIw,aQP,aLn,aJU,aPs,aMU,rfl,HS⟩:=au6
        refine ⟨HS.b0,?_⟩
        refine J1 13 (by kernel_rfl) ?_
        refine ai.cZ rfl rfl rfl rfl rfl rfl rfl a0c (ajZ HT HB HS (HS.at_ 21 rfl) (HS.at_ 20 rfl) (HS.at_ 19 rfl) (HS.at_ 18 rfl) (by omega) fE gV) rfl (fun aUy aWK au7 => ?_) ai.nil
        obtain ⟨aSG,aIx,aQR,aLo,aJV,aPt,aMV,aSH,aIy,aQS,aLp,aJW,aPu,aMW,rfl,HS⟩:=au7
        refine ⟨HS.b0,?_⟩
        refine J1 14 (by kernel_rfl) ?_
        refine ai.cZ rfl rfl rfl rfl rfl rfl rfl aY' (Qx HT HB HS (HS.at_ 2 rfl) (HS.at_ 3 rfl) (HS.at_ 0 rfl) (HS.at_ 1 rfl) (by omega) (by grind) (by grind) (by constructor <;> grind)) rfl (fun aUz aWL au8 => ?_) ai.nil
        obtain ⟨rfl,HS⟩:=au8
        refine ⟨HS.b0,?_⟩
        refine Dv (.bool true) 15 rfl HS.b0 (fun a ha w=>eY (ha.ev rfl) (ha.ev rfl)) ?_
        refine Dv (.bool true) 16 rfl HS.b0 (fun a ha w=>run_move (ha.ev rfl)) ?_
        refine fM (a0r sJ rH sD rU rM rY rW sK rJ sG rV rO rZ rX) 17 1 (by kernel_rfl) rfl (fun _ _ _ h=>h) rfl rfl rfl rfl rfl HS.b0 rfl rfl aYq aYo rfl rfl ?_
        refine fM (a0r uK uf uH uq uh uF uy uM ug uI uw uj uG uz) 18 0 (by kernel_rfl) rfl (fun _ _ _ h=>h) rfl rfl rfl rfl rfl HS.b0 rfl rfl aYq aYo rfl rfl ?_
        refine fM (a0r ax ay aj c1a az ak aA aB aC n1b aG aF au aH) 20 5 (by kernel_rfl) rfl (fun _ _ _ h=>h) rfl rfl rfl rfl rfl HS.b0 rfl rfl aYq aYo rfl rfl ?_
        refine fM (a0r aP aQ aK aS aU aN aY aV aW aO aX aZ aT bf) 21 4 (by kernel_rfl) rfl (fun _ _ _ h=>h) rfl rfl rfl rfl rfl HS.b0 rfl rfl aYq aYo rfl rfl ?_
        refine J1 19 (by kernel_rfl) ?_
        refine ai.cZ rfl rfl rfl rfl rfl rfl rfl aYT (Fq HT HB HS (HS.at_ 11 rfl) (HS.at_ 10 rfl) (HS.at_ 9 rfl) (HS.at_ 8 rfl) (by omega) CO Gy) rfl (fun aUA aWM au9 => ?_) ai.nil
        obtain ⟨aSI,aIz,aQT,aLq,aJX,aPv,aMX,aSJ,aIA,aQU,aLr,aJY,aPw,aMY,rfl,HS⟩:=au9
        refine ⟨HS.b0,?_⟩
        refine J1 22 (by kernel_rfl) ?_
        refine ai.cZ rfl rfl rfl rfl rfl rfl rfl aYT (Fq HT HB HS (HS.at_ 25 rfl) (HS.at_ 24 rfl) (HS.at_ 23 rfl) (HS.at_ 22 rfl) (by omega) fE gV) rfl (fun aUB aWN au' => ?_) ai.nil
        obtain ⟨aSL,aIB,aQV,aLs,aJZ,aPx,aMZ,aSN,aIC,aQW,aLu,aJ0,aPy,aM0,rfl,HS⟩:=au'
        refine ⟨HS.b0,?_⟩
        refine J1 23 (by kernel_rfl) ?_
        refine ai.cZ rfl rfl rfl rfl rfl rfl rfl aY' (Qx HT HB HS (HS.at_ 2 rfl) (HS.at_ 3 rfl) (HS.at_ 0 rfl) (HS.at_ 1 rfl) (by omega) (Om CO Gy) (Om fE gV) (ao0 Xl.1 CO Xm.2 bya.1 Gy byb.2)) rfl (fun aUC aWO ava => ?_) ai.nil
        obtain ⟨rfl,HS⟩:=ava
        refine ⟨HS.b0,?_⟩
        refine Dv (.bool true) 24 rfl HS.b0 (fun a ha w=>eY (ha.ev rfl) (ha.ev rfl)) ?_
        refine Dv (.bool true) 25 rfl HS.b0 (fun a ha w=>run_move (ha.ev rfl)) ?_
        refine fM (a0r sJ rH sD rU rM rY rW sK rJ sG rV rO rZ rX) 26 1 (by kernel_rfl) rfl (fun _ _ _ h=>h) rfl rfl rfl rfl rfl HS.b0 rfl rfl aYq aYo rfl rfl ?_
        refine fM (a0r uK uf uH uq uh uF uy uM ug uI uw uj uG uz) 27 0 (by kernel_rfl) rfl (fun _ _ _ h=>h) rfl rfl rfl rfl rfl HS.b0 rfl rfl aYq aYo rfl rfl ?_
        refine fM (a0r ax ay aj c1a az ak aA aB aC n1b aG aF au aH) 29 5 (by kernel_rfl) rfl (fun _ _ _ h=>h) rfl rfl rfl rfl rfl HS.b0 rfl rfl aYq aYo rfl rfl ?_
        refine fM (a0r aP aQ aK aS aU aN aY aV aW aO aX aZ aT bf) 30 4 (by kernel_rfl) rfl (fun _ _ _ h=>h) rfl rfl rfl rfl rfl HS.b0 rfl rfl aYq aYo rfl rfl ?_
        refine J1 28 (by kernel_rfl) ?_
        refine ai.cZ rfl rfl rfl rfl rfl rfl rfl a0d (ajU HT HB HS (HS.at_ 15 rfl) (HS.at_ 14 rfl) (HS.at_ 13 rfl) (HS.at_ 12 rfl) (by omega) CO Gy) rfl (fun aUD aWP avb => ?_) ai.nil
        obtain ⟨aSO,aID,aQX,aLv,aJ1,aPz,aM1,aSQ,aIE,aQY,aLx,aJ2,aPA,aM2,rfl,HS⟩:=avb
        refine ⟨HS.b0,?_⟩
        refine J1 31 (by kernel_rfl) ?_
        refine ai.cZ rfl rfl rfl rfl rfl rfl rfl a0d (ajU HT HB HS (HS.at_ 29 rfl) (HS.at_ 28 rfl) (HS.at_ 27 rfl) (HS.at_ 26 rfl) (by omega) fE gV) rfl (fun aUE aWQ avc => ?_) ai.nil
        obtain ⟨aSR,aIF,aQZ,aLy,aJ3,aPB,aM3,aST,aIH,aQ0,aLz,aJ6,aPC,aM4,rfl,HS⟩:=avc
        refine ⟨HS.b0,?_⟩
        refine J1 32 (by kernel_rfl) ?_
        refine ai.cZ rfl rfl rfl rfl rfl rfl rfl aY' (Qx HT HB HS (HS.at_ 2 rfl) (HS.at_ 3 rfl) (HS.at_ 0 rfl) (HS.at_ 1 rfl) (by omega) (ah2 CO) (ah2 fE) (azZ Xl.1 bya.1 Xm.2 byb.2)) rfl (fun aUF aWR avd => ?_) ai.nil
        obtain ⟨rfl,HS⟩:=avd
        refine ⟨HS.b0,?_⟩
        refine Dv (.bool true) 33 rfl HS.b0 (fun a ha w=>eY (ha.ev rfl) (ha.ev rfl)) ?_
        refine Dv (.bool true) 34 rfl HS.b0 (fun a ha w=>run_assign (ha.ev rfl)) ?_
        refine JR.next (by kernel_rfl) (fun _ _ h=>h) ?_
        refine JC.ret (fun a ha => ?_)
        repeat (first | refine dh ?_ | refine df ?_)
        refine fG (v := .bool true) ha Tryz.results10 (.tmp rfl) ⟨_,rfl,?_⟩
        exact ⟨rfl,HS.gy 6 36 rfl rfl⟩
       ·skip
        intro agK
        refine JC.seq ?_
        refine JC.region ?_
        refine JL.load (a0r ax ay aj c1a az ak aA aB aC n1b aG aF au aH) HS 5 rfl rfl rfl aYq aYo rfl rfl ?_
        by_cases hc25:af < 0
        ·skip
         refine JL.call rfl rfl aY7 (asU (m2:=8) HT HB HS (HS.at_ 15 rfl) (HS.at_ 14 rfl) (by omega) (by decide) hc25 fE) (fun v26 w26 Xa => ?_)
         obtain ⟨rfl,HS⟩:=Xa
         refine Lv (.tuple #[fO,.iface 74 (.int .i64 3)]) (fun a ha=>run_move (ha.ev rfl)) ?_
         refine Lv fO (fun a ha=>bK (ha.ev rfl) rfl) ?_
         refine Lv (.iface 74 (.int .i64 3)) (fun a ha=>bK (ha.ev rfl) rfl) ?_
         refine JL.alloc (vs:=cO) HS rfl aYt rfl rfl (fun g27 w27 HS => ?_)
         refine JL.store HS rfl rfl (i:=0) rfl aYo rfl rfl rfl (vs':=cO) rfl rfl (fun Z8 HS => ?_)
         refine Lv (.iface 74 (.int .i64 3)) (fun a ha=>run_assign (ha.ev rfl)) ?_
         refine jn ?_
         refine JC.seq ?_
         refine JC.region ?_
         refine JL.load (a0r sJ rH sD rU rM rY rW sK rJ sG rV rO rZ rX) HS 2 rfl rfl rfl aYq aYo rfl rfl ?_
         by_cases hc29:xa < 0
         ·skip
          refine JL.call rfl rfl aY7 (asU (m2:=8) HT HB HS (HS.at_ 3 rfl) (HS.at_ 2 rfl) (by omega) (by decide) hc29 CO) (fun v30 w30 aga => ?_)
          obtain ⟨rfl,HS⟩:=aga
          refine Lv (.tuple #[fO,.iface 74 (.int .i64 3)]) (fun a ha=>run_move (ha.ev rfl)) ?_
          refine Lv fO (fun a ha=>bK (ha.ev rfl) rfl) ?_
          refine Lv (.iface 74 (.int .i64 3)) (fun a ha=>bK (ha.ev rfl) rfl) ?_
          refine JL.alloc (vs:=cO) HS rfl aYt rfl rfl (fun g31 w31 HS => ?_)
          refine JL.store HS rfl rfl (i:=0) rfl aYo rfl rfl rfl (vs':=cO) rfl rfl (fun w32 HS => ?_)
          refine Lv (.iface 74 (.int .i64 3)) (fun a ha=>run_assign (ha.ev rfl)) ?_
          refine jn ?_
          refine JC.seq ?_
          refine JC.seq ?_
          refine JC.region ?_
          refine Lv (.iface 74 (.int .i64 3)) (fun a ha=>run_move (ha.ev rfl)) ?_
          refine Lv (.bool false) (fun a ha=>Qg (ha.ev rfl) rfl aYA) ?_
          refine Lv (.bool false) (fun a ha=>run_move (ha.ev rfl)) ?_
          refine Lp ?_
          refine Lp ?_
          refine Lp ?_
          refine AX ?_
          refine AX ?_
          refine AX ?_
          refine AX ?_
          refine Lp ?_
          refine Lv (.bool false) (fun a ha=>gB (ha.ev rfl) (ha.ev rfl)) ?_
          refine jn ?_
          refine JC.jA rfl ?_
          refine JC.jF (fun _ _ h=>h) ?_
          exact JC.Vz (agK () _ (HS.gy 2 0 rfl rfl))
         ·skip
          refine JL.call rfl rfl aY7 (ajW (m2:=8) HT HB HS (HS.at_ 3 rfl) (HS.at_ 2 rfl) (by omega) (by decide) (by grind) CO) (fun v33 w33 agd => ?_)
          obtain ⟨s33a,afo,n33a,ag0,afE,aih,aha,s33b,afp,n33b,ag1,afF,aii,ahb,rfl,HS⟩:=agd
          refine Lv (.tuple #[(a0r s33a afo n33a ag0 afE aih aha s33b afp n33b ag1 afF aii ahb),.nilIface]) (fun a ha=>run_move (ha.ev rfl)) ?_
          refine Lv (a0r s33a afo n33a ag0 afE aih aha s33b afp n33b ag1 afF aii ahb) (fun a ha=>bK (ha.ev rfl) rfl) ?_
          refine Lv (.nilIface) (fun a ha=>bK (ha.ev rfl) rfl) ?_
          refine JL.alloc (vs:=cO) HS rfl aYt rfl rfl (fun g34 w34 HS => ?_)
          refine JL.store HS rfl rfl (i:=0) rfl aYo rfl rfl rfl (vs':=(a0s s33a afo n33a ag0 afE aih aha s33b afp n33b ag1 afF aii ahb)) rfl rfl (fun w35 HS => ?_)
          refine Lv (.nilIface) (fun a ha=>run_assign (ha.ev rfl)) ?_
          refine jn ?_
          refine JC.seq ?_
          refine JC.seq ?_
          refine JC.region ?_
          refine Lv (.iface 74 (.int .i64 3)) (fun a ha=>run_move (ha.ev rfl)) ?_
          refine Lv (.bool false) (fun a ha=>Qg (ha.ev rfl) rfl aYA) ?_
          refine Lv (.bool false) (fun a ha=>run_move (ha.ev rfl)) ?_
          refine Lp ?_
          refine Lp ?_
          refine Lp ?_
          refine AX ?_
          refine AX ?_
          refine AX ?_
          refine AX ?_
          refine Lp ?_
          refine Lv (.bool false) (fun a ha=>gB (ha.ev rfl) (ha.ev rfl)) ?_
          refine jn ?_
          refine JC.jA rfl ?_
          refine JC.jF (fun _ _ h=>h) ?_
          exact JC.Vz (agK () _ (HS.gy 2 2 rfl rfl))
        ·skip
         refine JL.call rfl rfl aY7 (ajW (m2:=8) HT HB HS (HS.at_ 15 rfl) (HS.at_ 14 rfl) (by omega) (by decide) (by grind) fE) (fun v36 w36 age => ?_)
         obtain ⟨aew,aas,adG,abv,aaT,adf,abW,aex,aat,adH,abw,aaU,adg,abX,rfl,HS⟩:=age
         refine Lv (.tuple #[(a0r aew aas adG abv aaT adf abW aex aat adH abw aaU adg abX),.nilIface]) (fun a ha=>run_move (ha.ev rfl)) ?_
         refine Lv (a0r aew aas adG abv aaT adf abW aex aat adH abw aaU adg abX) (fun a ha=>bK (ha.ev rfl) rfl) ?_
         refine Lv (.nilIface) (fun a ha=>bK (ha.ev rfl) rfl) ?_
         refine JL.alloc (vs:=cO) HS rfl aYt rfl rfl (fun g37 w37 HS => ?_)
         refine JL.store HS rfl rfl (i:=0) rfl aYo rfl rfl rfl (vs':=(a0s aew aas adG abv aaT adf abW aex aat adH abw aaU adg abX)) rfl rfl (fun w38 HS => ?_)
         refine Lv (.nilIface) (fun a ha=>run_assign (ha.ev rfl)) ?_
         refine jn ?_
         refine JC.seq ?_
         refine JC.region ?_
         refine JL.load (a0r sJ rH sD rU rM rY rW sK rJ sG rV rO rZ rX) HS 2 rfl rfl rfl aYq aYo rfl rfl ?_
         refine JL.call rfl rfl aY7 (ajW (m2:=8) HT HB HS (HS.at_ 5 rfl) (HS.at_ 4 rfl) (by omega) (by decide) (by grind) CO) (fun v39 w39 avp => ?_)
         obtain ⟨aey,aau,adI,abx,aaV,adh,abY,aez,aav,adK,aby,aaW,adi,abZ,rfl,HS⟩:=avp
         refine Lv (.tuple #[(a0r aey aau adI abx aaV adh abY aez aav adK aby aaW adi abZ),.nilIface]) (fun a ha=>run_move (ha.ev rfl)) ?_
         refine Lv (a0r aey aau adI abx aaV adh abY aez aav adK aby aaW adi abZ) (fun a ha=>bK (ha.ev rfl) rfl) ?_
         refine Lv (.nilIface) (fun a ha=>bK (ha.ev rfl) rfl) ?_
         refine JL.alloc (vs:=cO) HS rfl aYt rfl rfl (fun g40 w40 HS => ?_)
         refine JL.store HS rfl rfl (i:=0) rfl aYo rfl rfl rfl (vs':=(a0s aey aau adI abx aaV adh abY aez aav adK aby aaW adi abZ)) rfl rfl (fun w41 HS => ?_)
         refine Lv (.nilIface) (fun a ha=>run_assign (ha.ev rfl)) ?_
         refine jn ?_
         refine JC.seq ?_
         refine JC.seq ?_
         refine JC.region ?_
         refine Lv (.nilIface) (fun a ha=>run_move (ha.ev rfl)) ?_
         refine Lv (.bool true) (fun a ha=>Fa (ha.ev rfl) rfl aYA) ?_
         refine Lv (.bool true) (fun a ha=>run_move (ha.ev rfl)) ?_
         refine Lg (.nilIface) (fun a ha=>run_move (ha.ev rfl)) ?_
         refine Lg (.bool false) (fun a ha=>JK (ha.ev rfl) rfl aYA) ?_
         refine Lg (.bool false) (fun a ha=>run_move (ha.ev rfl)) ?_
         refine Lg (a0r aey aau adI abx aaV adh abY aez aav adK aby aaW adi abZ) (fun a ha=>gU (ha.ev rfl) aYq aYo (HS.box _ (.head _)) rfl rfl) ?_
         refine Lg (a0r aew aas adG abv aaT adf abW aex aat adH abw aaU adg abX) (fun a ha=>gU (ha.ev rfl) aYq aYo (HS.box _ (.tail _ (.head _))) rfl rfl) ?_
         refine JL.cZ rfl rfl rfl rfl rfl rfl aY' (Qx HT HB HS (HS.at_ 0 rfl) (HS.at_ 1 rfl) (HS.at_ 2 rfl) (HS.at_ 3 rfl) (by omega) (ajh (show 0≤xa by grind) CO _) (ajh (show 0≤af by grind) fE _) ⟨aEG (show 0≤af by grind) Xl.1 _,aEF (show 0≤xb by grind) Xm.2 _⟩) (fun v42 w42 agi => ?_)
         obtain ⟨rfl,HS⟩:=agi
         refine Lg (.bool false) (fun a ha=>sU (b:=true) (ha.ev rfl)) ?_
         refine Lg (.bool false) (fun a ha=>gB (ha.ev rfl) (ha.ev rfl)) ?_
         refine Lv (.bool false) (fun a ha=>eY (ha.ev rfl) (ha.ev rfl)) ?_
         refine jn ?_
         refine JC.jA rfl ?_
         refine JC.jF (fun _ _ h=>h) ?_
         exact JC.Vz (agK () _ (HS.gy 2 4 rfl rfl))
      ·skip
       intro agJ
       refine JC.seq ?_
       refine JC.region ?_
       refine JL.load (a0r ax ay aj c1a az ak aA aB aC n1b aG aF au aH) HS 5 rfl rfl rfl aYq aYo rfl rfl ?_
       refine JL.load (a0r aP aQ aK aS aU aN aY aV aW aO aX aZ aT bf) HS 4 rfl rfl rfl aYq aYo rfl rfl ?_
       by_cases anz:0 < aI∨aJ < 0
       ·skip
        refine JL.call rfl rfl aYX (TP HT HB HS (HS.at_ 15 rfl) (HS.at_ 14 rfl) (HS.at_ 13 rfl) (HS.at_ 12 rfl) (by omega) anz fE gV) (fun v44 w44 avE => ?_)
        obtain ⟨s44a,aay,n44a,abB,aaZ,adm,ab3,s44b,aaz,n44b,abD,aa0,adn,ab4,rfl,HS⟩:=avE
        refine Lv (.tuple #[(a0r s44a aay n44a abB aaZ adm ab3 s44b aaz n44b abD aa0 adn ab4),.nilIface]) (fun a ha=>run_move (ha.ev rfl)) ?_
        refine Lv (a0r s44a aay n44a abB aaZ adm ab3 s44b aaz n44b abD aa0 adn ab4) (fun a ha=>bK (ha.ev rfl) rfl) ?_
        refine Lv (.nilIface) (fun a ha=>bK (ha.ev rfl) rfl) ?_
        refine JL.alloc (vs:=cO) HS rfl aYt rfl rfl (fun g45 w45 HS => ?_)
        refine JL.store HS rfl rfl (i:=0) rfl aYo rfl rfl rfl (vs':=(a0s s44a aay n44a abB aaZ adm ab3 s44b aaz n44b abD aa0 adn ab4)) rfl rfl (fun w46 HS => ?_)
        refine Lv (.nilIface) (fun a ha=>run_assign (ha.ev rfl)) ?_
        refine jn ?_
        refine JC.seq ?_
        refine JC.region ?_
        refine JL.load (a0r sJ rH sD rU rM rY rW sK rJ sG rV rO rZ rX) HS 2 rfl rfl rfl aYq aYo rfl rfl ?_
        refine JL.load (a0r uK uf uH uq uh uF uy uM ug uI uw uj uG uz) HS 1 rfl rfl rfl aYq aYo rfl rfl ?_
        refine JL.call rfl rfl aYX (TP HT HB HS (HS.at_ 5 rfl) (HS.at_ 4 rfl) (HS.at_ 3 rfl) (HS.at_ 2 rfl) (by omega) (show 0 < ya∨yb < 0 by grind) CO Gy) (fun v47 w47 agm => ?_)
        obtain ⟨aeB,aaC,adL,abG,aa2,ado,ab5,aeC,aaD,adM,abH,aa3,adp,ab6,rfl,HS⟩:=agm
        refine Lv (.tuple #[(a0r aeB aaC adL abG aa2 ado ab5 aeC aaD adM abH aa3 adp ab6),.nilIface]) (fun a ha=>run_move (ha.ev rfl)) ?_
        refine Lv (a0r aeB aaC adL abG aa2 ado ab5 aeC aaD adM abH aa3 adp ab6) (fun a ha=>bK (ha.ev rfl) rfl) ?_
        refine Lv (.nilIface) (fun a ha=>bK (ha.ev rfl) rfl) ?_
        refine JL.alloc (vs:=cO) HS rfl aYt rfl rfl (fun g48 w48 HS => ?_)
        refine JL.store HS rfl rfl (i:=0) rfl aYo rfl rfl rfl (vs':=(a0s aeB aaC adL abG aa2 ado ab5 aeC aaD adM abH aa3 adp ab6)) rfl rfl (fun w49 HS => ?_)
        refine Lv (.nilIface) (fun a ha=>run_assign (ha.ev rfl)) ?_
        refine jn ?_
        refine JC.seq ?_
        refine JC.seq ?_
        refine JC.region ?_
        refine Lv (.nilIface) (fun a ha=>run_move (ha.ev rfl)) ?_
        refine Lv (.bool true) (fun a ha=>Fa (ha.ev rfl) rfl aYA) ?_
        refine Lv (.bool true) (fun a ha=>run_move (ha.ev rfl)) ?_
        refine Lg (.nilIface) (fun a ha=>run_move (ha.ev rfl)) ?_
        refine Lg (.bool false) (fun a ha=>JK (ha.ev rfl) rfl aYA) ?_
        refine Lg (.bool false) (fun a ha=>run_move (ha.ev rfl)) ?_
        refine Lg (a0r aeB aaC adL abG aa2 ado ab5 aeC aaD adM abH aa3 adp ab6) (fun a ha=>gU (ha.ev rfl) aYq aYo (HS.box _ (.head _)) rfl rfl) ?_
        refine Lg (a0r s44a aay n44a abB aaZ adm ab3 s44b aaz n44b abD aa0 adn ab4) (fun a ha=>gU (ha.ev rfl) aYq aYo (HS.box _ (.tail _ (.head _))) rfl rfl) ?_
        refine JL.cZ rfl rfl rfl rfl rfl rfl aY' (Qx HT HB HS (HS.at_ 0 rfl) (HS.at_ 1 rfl) (HS.at_ 2 rfl) (HS.at_ 3 rfl) (by omega) (Om CO (EO Gy (show 0 < ya∨yb < 0 by grind))) (Om fE (EO gV anz)) (ao0 Xl.1 CO Xm.2 (EO byb.2 (show 0 < yb∨aJ < 0 by grind)) (EO Gy (show 0 < ya∨yb < 0 by grind)) (EO bya.1 (show 0 < aI∨ya < 0 by grind)))) (fun v50 w50 Xe => ?_)
        obtain ⟨rfl,HS⟩:=Xe
        refine Lg (.bool false) (fun a ha=>sU (b:=true) (ha.ev rfl)) ?_
        refine Lg (.bool false) (fun a ha=>gB (ha.ev rfl) (ha.ev rfl)) ?_
        refine Lv (.bool false) (fun a ha=>eY (ha.ev rfl) (ha.ev rfl)) ?_
        refine jn ?_
        refine JC.jA rfl ?_
        refine JC.jF (fun _ _ h=>h) ?_
        exact JC.Vz (agJ () _ (HS.gy 2 4 rfl rfl))
       ·skip
        refine JL.call rfl rfl aYX (VG HT HB HS (HS.at_ 15 rfl) (HS.at_ 14 rfl) (HS.at_ 13 rfl) (HS.at_ 12 rfl) (by omega) (by grind) fE gV) (fun v51 w51 avK => ?_)
        obtain ⟨rfl,HS⟩:=avK
        refine Lv (.tuple #[fO,.iface 74 (.int .i64 8)]) (fun a ha=>run_move (ha.ev rfl)) ?_
        refine Lv fO (fun a ha=>bK (ha.ev rfl) rfl) ?_
        refine Lv (.iface 74 (.int .i64 8)) (fun a ha=>bK (ha.ev rfl) rfl) ?_
        refine JL.alloc (vs:=cO) HS rfl aYt rfl rfl (fun g52 w52 HS => ?_)
        refine JL.store HS rfl rfl (i:=0) rfl aYo rfl rfl rfl (vs':=cO) rfl rfl (fun w53 HS => ?_)
        refine Lv (.iface 74 (.int .i64 8)) (fun a ha=>run_assign (ha.ev rfl)) ?_
        refine jn ?_
        refine JC.seq ?_
        refine JC.region ?_
        refine JL.load (a0r sJ rH sD rU rM rY rW sK rJ sG rV rO rZ rX) HS 2 rfl rfl rfl aYq aYo rfl rfl ?_
        refine JL.load (a0r uK uf uH uq uh uF uy uM ug uI uw uj uG uz) HS 1 rfl rfl rfl aYq aYo rfl rfl ?_
        by_cases azA:0 < ya∨yb < 0
        ·skip
         refine JL.call rfl rfl aYX (TP HT HB HS (HS.at_ 3 rfl) (HS.at_ 2 rfl) (HS.at_ 1 rfl) (HS.at_ 0 rfl) (by omega) azA CO Gy) (fun v55 w55 avN => ?_)
         obtain ⟨ajm,afu,aiv,ag4,afJ,ail,ahe,ajn,afv,aiw,ag5,afK,aim,ahf,rfl,HS⟩:=avN
         refine Lv (.tuple #[(a0r ajm afu aiv ag4 afJ ail ahe ajn afv aiw ag5 afK aim ahf),.nilIface]) (fun a ha=>run_move (ha.ev rfl)) ?_
         refine Lv (a0r ajm afu aiv ag4 afJ ail ahe ajn afv aiw ag5 afK aim ahf) (fun a ha=>bK (ha.ev rfl) rfl) ?_
         refine Lv (.nilIface) (fun a ha=>bK (ha.ev rfl) rfl) ?_
         refine JL.alloc (vs:=cO) HS rfl aYt rfl rfl (fun g56 w56 HS => ?_)
         refine JL.store HS rfl rfl (i:=0) rfl aYo rfl rfl rfl (vs':=(a0s ajm afu aiv ag4 afJ ail ahe ajn afv aiw ag5 afK aim ahf)) rfl rfl (fun w57 HS => ?_)
         refine Lv (.nilIface) (fun a ha=>run_assign (ha.ev rfl)) ?_
         refine jn ?_
         refine JC.seq ?_
         refine JC.seq ?_
         refine JC.region ?_
         refine Lv (.iface 74 (.int .i64 8)) (fun a ha=>run_move (ha.ev rfl)) ?_
         refine Lv (.bool false) (fun a ha=>Qg (ha.ev rfl) rfl aYA) ?_
         refine Lv (.bool false) (fun a ha=>run_move (ha.ev rfl)) ?_
         refine Lp ?_
         refine Lp ?_
         refine Lp ?_
         refine AX ?_
         refine AX ?_
         refine AX ?_
         refine AX ?_
         refine Lp ?_
         refine Lv (.bool false) (fun a ha=>gB (ha.ev rfl) (ha.ev rfl)) ?_
         refine jn ?_
         refine JC.jA rfl ?_
         refine JC.jF (fun _ _ h=>h) ?_
         exact JC.Vz (agJ () _ (HS.gy 2 2 rfl rfl))
        ·skip
         refine JL.call rfl rfl aYX (VG HT HB HS (HS.at_ 3 rfl) (HS.at_ 2 rfl) (HS.at_ 1 rfl) (HS.at_ 0 rfl) (by omega) (by grind) CO Gy) (fun v58 w58 avQ => ?_)
         obtain ⟨rfl,HS⟩:=avQ
         refine Lv (.tuple #[fO,.iface 74 (.int .i64 8)]) (fun a ha=>run_move (ha.ev rfl)) ?_
         refine Lv fO (fun a ha=>bK (ha.ev rfl) rfl) ?_
         refine Lv (.iface 74 (.int .i64 8)) (fun a ha=>bK (ha.ev rfl) rfl) ?_
         refine JL.alloc (vs:=cO) HS rfl aYt rfl rfl (fun g59 w59 HS => ?_)
         refine JL.store HS rfl rfl (i:=0) rfl aYo rfl rfl rfl (vs':=cO) rfl rfl (fun w60 HS => ?_)
         refine Lv (.iface 74 (.int .i64 8)) (fun a ha=>run_assign (ha.ev rfl)) ?_
         refine jn ?_
         refine JC.seq ?_
         refine JC.seq ?_
         refine JC.region ?_
         refine Lv (.iface 74 (.int .i64 8)) (fun a ha=>run_move (ha.ev rfl)) ?_
         refine Lv (.bool false) (fun a ha=>Qg (ha.ev rfl) rfl aYA) ?_
         refine Lv (.bool false) (fun a ha=>run_move (ha.ev rfl)) ?_
         refine Lp ?_
         refine Lp ?_
         refine Lp ?_
         refine AX ?_
         refine AX ?_
         refine AX ?_
         refine AX ?_
         refine Lp ?_
         refine Lv (.bool false) (fun a ha=>gB (ha.ev rfl) (ha.ev rfl)) ?_
         refine jn ?_
         refine JC.jA rfl ?_
         refine JC.jF (fun _ _ h=>h) ?_
         exact JC.Vz (agJ () _ (HS.gy 2 0 rfl rfl))
theorem aAi {o6 o7 vK vO:Int} {ax:Bool} {ay:Option Addr} {aj c1a:Nat} {az:Option Addr} {ak aA:Nat} {af:Rat} {bC:Nat} {bu:Bool} {aB:Bool} {aC:Option Addr} {n1b aG:Nat} {aF:Option Addr} {au aH:Nat} {ah:Rat} {bD:Nat} {bn:Bool} {aP:Bool} {aQ:Option Addr} {aK aS:Nat} {aU:Option Addr} {aN aY:Nat} {aI:Rat} {bM:Nat} {bT:Bool} {aV:Bool} {aW:Option Addr} {aO aX:Nat} {aZ:Option Addr} {aT bf:Nat} {aJ:Rat} {bP:Nat} {bQ:Bool} (W:World) (ht:Tz W) (hb:Tab W) (_hx:Mx W) (f1a:fJ W ⟨(a0p ax ay aj c1a az ak aA),af,bC,bu⟩) (bI:fJ W ⟨(a0p aB aC n1b aG aF au aH),ah,bD,bn⟩) (fC:fJ W ⟨(a0p aP aQ aK aS aU aN aY),aI,bM,bT⟩) (fD:fJ W ⟨(a0p aV aW aO aX aZ aT bf),aJ,bP,bQ⟩) (TU:(Lit.int .u8 o6).wf=true) (TV:(Lit.int .u8 o7).wf=true) (w3c:(Lit.int .u8 vK).wf=true) (w3d:(Lit.int .u8 vO).wf=true) :
  Calls Tryz.prog 10 #[(a0r ax ay aj c1a az ak aA aB aC n1b aG aF au aH),(a0r aP aQ aK aS aU aN aY aV aW aO aX aZ aT bf),.agg #[.int .u8 o6,.int .u8 o7,.int .u8 vK,.int .u8 vO]] W fun e w'=>e = .returned (.bool true)∧Below W.heap.size W w':=law_true (aAj ht hb (St.init W) f1a bI fC fD (TK TU) (TK TV) (TK w3c) (TK w3d))
end
end Go.Proofs.YtbihljnjaondcaaGreatDoor
