/- Part of a proof, said shortly. -/
import Derived.Test.YtbihljnjaondcaaGreatDoorAlz
import Derived.Test.YtbihljnjaondcaaGreatDoorC16
import Derived.Test.YtbihljnjaondcaaGreatDoorC14
import Derived.Test.YtbihljnjaondcaaGreatDoorC13
import Derived.Test.YtbihljnjaondcaaGreatDoorC12
import Derived.Test.YtbihljnjaondcaaGreatDoorC11
import Derived.Test.YtbihljnjaondcaaGreatDoorC10
import Derived.Test.YtbihljnjaondcaaGreatDoorC6
import Derived.Test.YtbihljnjaondcaaGreatDoorC2
import Derived.Test.YtbihljnjaondcaaGreatDoorC1
import Derived.Test.YtbihljnjaondcaaGreatDoorC5
import Derived.Test.YtbihljnjaondcaaGreatDoorC4
import Derived.Test.YtbihljnjaondcaaGreatDoorC3
import Derived.Test.YtbihljnjaondcaaGreatDoorC9
import Derived.Test.YtbihljnjaondcaaGreatDoorC8
import Derived.Test.YtbihljnjaondcaaGreatDoorC7
import Derived.Test.YtbihljnjaondcaaGreatDoorS7
import Derived.Test.YtbihljnjaondcaaGreatDoorC20
import Derived.Test.YtbihljnjaondcaaGreatDoorS5
import Derived.Test.YtbihljnjaondcaaGreatDoorC15
import Derived.Test.YtbihljnjaondcaaGreatDoorS1
import Derived.Test.YtbihljnjaondcaaGreatDoorS9
import Derived.Test.YtbihljnjaondcaaGreatDoorC19
import Derived.Test.YtbihljnjaondcaaGreatDoorC18
import Derived.Test.YtbihljnjaondcaaGreatDoorC17
import Derived.Test.YtbihljnjaondcaaGreatDoorC25
import Derived.Test.YtbihljnjaondcaaGreatDoorC21
import Derived.Test.YtbihljnjaondcaaGreatDoorS12
import Derived.Test.YtbihljnjaondcaaGreatDoorC22
import Derived.Test.YtbihljnjaondcaaGreatDoorC23
import Derived.Test.YtbihljnjaondcaaGreatDoorC24
set_option maxRecDepth 100000
open Go.Proofs.YtbihljnjaondcaaGreatDoor (a0p a0q a0r a0s yw bU fO cO PS iy1 PT FX iy4 iy5 iy6 Yo iy8 iy9 aAJ)
set_option linter.unusedVariables false
set_option linter.unusedSimpArgs false
namespace Lw
theorem aAS {a b:List Nat} (hl:a.length=b.length) (h : ∀ j,j < a.length→dg a j=dg b j):a=b:=by
 refine List.ext_getElem hl fun j h1 h2 => ?_
 rw [← Kt h1,← Kt h2]
 exact h j h1
theorem fields_eq {q r:Rat} : q=r↔rs q=rs r∧rn q=rn r∧rd q=rd r:=by
 constructor
 ·rintro rfl; exact ⟨rfl,rfl,rfl⟩
 ·rintro ⟨h1,h2,h3⟩
  rw [← P9 q,← P9 r,h1,h2,h3]
end Lw
namespace Go.Proofs.YtbihljnjaondcaaGreatDoor
open Go Go.RowKit Lw
set_option maxRecDepth 100000 in
set_option maxHeartbeats 1600000 in
theorem atj (A A':Option Addr) (ns ms:List Nat) (n m c c' B B':Nat) (w:World) (h:Rd w B A ns) (h':Rd w B' A' ms) (hn:ns.length=n) (hm:ms.length=m) (hl:n≤4294967296) (hl':m≤4294967296) :
  Calls Tryz.prog 169 #[.slice A n c,.slice A' m c'] w fun e w'=>e = .returned (.bool (decide (ns=ms))) ∧ ∃ q,w'=w.drewN q:=by
 have Hn:=Lib.hid hn
 have Hm:=Lib.hid hm
 clear hn hm
 by_cases hnm:n=m
 ·subst hnm
  have hb0:((n:Int) != (n:Int))=false:=by simp
  go_enter Tryz.func169,Tryz.ntmps169
  go_wp2_with fail
  go_loopw [5] (fun i wr => ∃ (k q:Nat),k≤n∧i = .int .i64 k∧wr=w.drewN q∧Hid (∀ j,j < k→dg ns j=dg ms j)) (fun i _=>n - (intOf i).toNat)
  case atStart=>exact ⟨0,0,Nat.zero_le _,rfl,rfl,Lib.hid (fun j hj=>absurd hj (by omega))⟩
  case round =>
   obtain ⟨k,q,hk,rfl,rfl,hall⟩:=hrel
   by_cases hkn:k < n
   ·obtain ⟨b,off,rfl,hbb,hcell,hlt⟩:=h.at_ (k:=k) (by rw [Hn.out]; omega)
    obtain ⟨b',off',rfl,aN3,hcell',hlt'⟩:=h'.at_ (k:=k) (by rw [Hm.out]; omega)
    by_cases he:dg ns k=dg ms k
    ·have hbq:((dg ns k:Int) != (dg ms k:Int))=false:=by simp [he]
     have HA2:=Lib.hid (fun j (hj:j < k+1)=>show dg ns j=dg ms j by
      rcases Nat.lt_or_ge j k with h1 | h1
      ·exact hall.out j h1
      ·obtain rfl:j=k:=by omega
       exact he)
     clear he
     go_wp2
     go_quiet (fail)
     go_wp2
     go_roundw
     case rel=>exact ⟨k+1,q+nq,by omega,by go_num,rfl,HA2⟩
     case measure=>simp [intOf]; omega
    ·have hbq:((dg ns k:Int) != (dg ms k:Int))=true:=by rw [bne_iff_ne]; omega
     have HF:=Lib.hid (show decide (ns=ms)=false from decide_eq_false (fun e=>he (by rw [e])))
     clear he
     go_wp2
     go_quiet (fail)
     go_wp2
     go_ret
     exact ⟨DI HF.out.symm,q+nq,by first | rfl | (rw [World.drewN_drewN])⟩
   ·obtain rfl:k=n:=by omega
    have HF:=Lib.hid (show decide (ns=ms)=true from decide_eq_true (aAS (Hn.out.trans Hm.out.symm) (fun j hj=>hall.out j (by rw [← Hn.out]; exact hj))))
    go_wp2
    go_ret
    exact ⟨DI HF.out.symm,_,rfl⟩
 ·have hb0:((n:Int) != (m:Int))=true:=by rw [bne_iff_ne]; omega
  have HF:=Lib.hid (show decide (ns=ms)=false from decide_eq_false (fun e=>hnm (by rw [← Hn.out,← Hm.out,e])))
  clear hnm
  go_enter Tryz.func169,Tryz.ntmps169
  go_wp2_with fail
  go_ret
  exact ⟨DI HF.out.symm,0,rfl⟩
section
variable {W0 w:World} {bs:List Bx} {L:List En} {ts:List Bt} {M:List Qn} {s s':Bool} {A A' B B':Option Addr} {n c n' c' m d m' d' k k':Nat} {q r:Rat}
set_option maxRecDepth 100000 in
set_option maxHeartbeats 1600000 in
theorem axy (HE:bG W0 w bs L ts M) (h:⟨.agg #[.bool s,.slice A n c,.slice A' n' c'],q,k,true⟩∈M) (h':⟨.agg #[.bool s',.slice B m d,.slice B' m' d'],r,k',true⟩∈M) (hk:k+k'≤100000) :
  Calls Tryz.prog 104 #[.agg #[.bool s,.slice A n c,.slice A' n' c'],.agg #[.bool s',.slice B m d,.slice B' m' d']] w fun e w'=>e = .returned (.bool (decide (q=r)))∧bG W0 w' bs L ts M:=by
 refine Calls.mono (R:=fun e w'=>e = .returned (.bool (decide (q=r)))∧bG w w' [] L [] M) ?_ fun _ _ hh=>⟨hh.1,HE.back hh.2⟩
 replace HE:=(HE.here.gQ (.bool s) (.slice A n c) (.slice A' n' c')).gQ (.bool s') (.slice B m d) (.slice B' m' d')
 simp only [World.size_alloc] at HE
 obtain ⟨g1,g2,g3,r1,r2,l1,l2,-⟩:=(HE.fr _ h).own
 obtain ⟨f1,f2,f3,r3,r4,l3,l4,-⟩:=(HE.fr _ h').own
 have C1:=Lib.hid (atj A B (rn q) (rn r) n m c d _ _ _ r1 r3 g2.symm f2.symm (by omega) (by omega))
 have C2:=Lib.hid (fun W (hb:Below _ _ W)=>atj A' B' (rd q) (rd r) n' m' c' d' _ _ W (r2.next hb (Nat.le_refl _)) (r4.next hb (Nat.le_refl _)) g3.symm f3.symm (by omega) (by omega))
 obtain ⟨q0,q1,q2,q3,q4,q5⟩:=HE.c3 (.tail _ (.head _))
 obtain ⟨q6,q7,q8,q9,q10,q11⟩:=HE.c3 (.head _)
 by_cases hs:s=s'
 ·have hb0:(s==s')=true:=by rw [hs]; simp
  by_cases hn:rn q=rn r
  ·have H1:=Lib.hid (decide_eq_true hn)
   have H2:=Lib.hid (show decide (rd q=rd r)=decide (q=r) by
    rw [decide_eq_decide,fields_eq]
    exact ⟨fun e=>⟨by rw [← g1,← f1,hs],hn,e⟩,fun e=>e.2.2⟩)
   clear hs hn g1 g2 g3 f1 f2 f3 r1 r2 r3 r4 l1 l2 l3 l4
   go_enter Tryz.func104,Tryz.ntmps104
   go_wp2_with fail
   refine C1.out.mono ?_
   rw [H1.out]
   rintro e w1 ⟨rfl,p,rfl⟩
   go_wp2_with fail
   refine (C2.out _ (below_drewN' _ _ p)).mono ?_
   rw [H2.out]
   rintro e w2 ⟨rfl,p2,rfl⟩
   go_wp2_with fail
   go_ret
   first | exact ⟨rfl,(HE.next (below_drewN' _ _ (p+p2))).bare⟩ | exact ⟨rfl,((HE.next (below_drewN' _ _ p)).next (below_drewN' _ _ p2)).bare⟩
  ·have H1:=Lib.hid (decide_eq_false hn)
   have HF:=Lib.hid (show decide (q=r)=false from decide_eq_false (fun e=>hn (by rw [e])))
   clear hs hn g1 g2 g3 f1 f2 f3 r1 r2 r3 r4 l1 l2 l3 l4
   go_enter Tryz.func104,Tryz.ntmps104
   go_wp2_with fail
   refine C1.out.mono ?_
   rw [H1.out]
   rintro e w1 ⟨rfl,p,rfl⟩
   go_wp2_with fail
   go_ret
   exact ⟨DI HF.out.symm,(HE.next (below_drewN' _ _ p)).bare⟩
 ·have hb0:(s==s')=false:=by simpa using hs
  have HF:=Lib.hid (show decide (q=r)=false from decide_eq_false (fun e=>hs (by rw [g1,f1,e])))
  clear hs g1 g2 g3 f1 f2 f3 r1 r2 r3 r4 l1 l2 l3 l4
  go_enter Tryz.func104,Tryz.ntmps104
  go_wp2_with fail
  go_ret
  exact ⟨DI HF.out.symm,HE.bare⟩
set_option maxRecDepth 100000 in
set_option maxHeartbeats 1600000 in
theorem ayY (HE:bG W0 w bs L ts M) (h:⟨.agg #[.bool s,.slice A n c,.slice A' n' c'],q,k,true⟩∈M) (h':⟨.agg #[.bool s',.slice B m d,.slice B' m' d'],r,k',true⟩∈M) (hk:k+k'≤100000) :
  Calls Tryz.prog 21 #[.agg #[.bool s,.slice A n c,.slice A' n' c'],.agg #[.bool s',.slice B m d,.slice B' m' d']] w fun e w'=>e = .returned (.bool (decide (q=r)))∧bG W0 w' bs L ts M:=by
 refine Calls.mono (R:=fun e w'=>e = .returned (.bool (decide (q=r)))∧bG w w' [] L [] M) ?_ fun _ _ hh=>⟨hh.1,HE.back hh.2⟩
 replace HE:=(HE.here.gQ (.bool s) (.slice A n c) (.slice A' n' c')).gQ (.bool s') (.slice B m d) (.slice B' m' d')
 simp only [World.size_alloc] at HE
 obtain ⟨q0,q1,q2,q3,q4,q5⟩:=HE.c3 (.tail _ (.head _))
 obtain ⟨q6,q7,q8,q9,q10,q11⟩:=HE.c3 (.head _)
 obtain ⟨e,he⟩ : ∃ e,e=decide (q=r):=⟨_,rfl⟩
 have HD:=Lib.hid he
 rw [← he]
 clear he
 go_enter Tryz.func21,Tryz.ntmps21
 go_wp2_with fail
 refine (axy HE h h' hk).mono ?_
 rw [← HD.out]
 rintro e w1 ⟨rfl,HE⟩
 go_wp2_with fail
 go_ret
 exact ⟨rfl,HE.bare⟩
end
end Go.Proofs.YtbihljnjaondcaaGreatDoor
namespace Go.Proofs.YtbihljnjaondcaaGreatDoor
open Go Go.RowKit Lw
section
variable {W0 w:World} {bs:List Bx} {L:List En} {ts:List Bt} {M:List Qn} {v v':Value} {q r:Rat} {k k':Nat} {b b':Bool}
theorem ay0 (HE:bG W0 w bs L ts M) (h:⟨v,q,k,true⟩∈M) (h':⟨v',r,k',true⟩∈M) (hk:k+k'≤100000) :
  Calls Tryz.prog 21 #[v,v'] w fun e w'=>e = .returned (.bool (decide (q=r)))∧bG W0 w' bs L ts M:=by
 obtain ⟨s,A,n,c,A',n',c',e1⟩:=(HE.fr _ h).shape
 obtain ⟨t,B,m,d,B',m',d',e2⟩:=(HE.fr _ h').shape
 dsimp only at e1 e2
 subst e1 e2
 exact ayY HE h h' hk
theorem ayZ (HE:bG W0 w bs L ts M) (h:⟨v,q,k,true⟩∈M) (h':⟨v',r,k',true⟩∈M) (hk:k+k'≤100000) (e:q=r) :
  Calls Tryz.prog 21 #[v,v'] w fun e w'=>e = .returned (.bool true)∧bG W0 w' bs L ts M:=by
 have:=ay0 HE h h' hk
 rwa [decide_eq_true e] at this
end
end Go.Proofs.YtbihljnjaondcaaGreatDoor
namespace Go.Proofs.YtbihljnjaondcaaGreatDoor
open Go Go.RowKit Lw bZ
section
variable {W0 w w':World} {U:List Box} {Ps:List (World→Prop)} {v v':Value} {q r:Rat} {x y:Int} {k k':Nat} {b b':Bool} {f:FuncId} {vs:List Value} {L:List En} {M:List Qn}
theorem aeb (HT:Tz W0) (HB:Tab W0) (HS:St W0 U Ps w) {s1:Bool} {A1:Option Addr} {n1 c1:Nat} {B1:Option Addr} {m1 d1:Nat} {q1:Rat} {k1:Nat} {s2:Bool} {A2:Option Addr} {n2 c2:Nat} {B2:Option Addr} {m2 d2:Nat} {q2:Rat} {k2:Nat} (f1:FV (a0p s1 A1 n1 c1 B1 m1 d1) q1 k1 true w) (f2:FV (a0p s2 A2 n2 c2 B2 m2 d2) q2 k2 true w) (hk:k1+k2≤100000) (he:q1=q2):bY Tryz.prog 21 [(a0p s1 A1 n1 c1 B1 m1 d1),(a0p s2 A2 n2 c2 B2 m2 d2)] w (iP W0 U Ps (.bool true)) :=
 GN HS (ayZ (((St.start HS HT HB).cons f2).cons f1) (.head _) (.tail _ (.head _)) hk he)
end
end Go.Proofs.YtbihljnjaondcaaGreatDoor
namespace Go.Proofs.YtbihljnjaondcaaGreatDoor
open Go Go.RowKit Lw bZ
theorem y9.err (z:Int):y9 (.iface 74 (.int .i64 z)) z:=fun _ _ _ _ HS=>apy HS z
end Go.Proofs.YtbihljnjaondcaaGreatDoor
namespace Go.Proofs.YtbihljnjaondcaaGreatDoor
open Go Go.RowKit Lw bZ
section
variable {W0 w:World} {U:List Box} {Ps:List (World→Prop)}
variable {ax:Bool} {ay:Option Addr} {aj c1a:Nat} {az:Option Addr} {ak aA:Nat} {aB:Bool} {aC:Option Addr} {n1b aG:Nat} {aF:Option Addr} {au aH:Nat}
set_option maxHeartbeats 400000 in
theorem vT (HT:Tz W0) (HB:Tab W0) {af:Rat} {bC:Nat} {bu:Bool} {ah:Rat} {bD:Nat} {bn:Bool} (HS:St W0 U Ps w) (f1a:FV (a0p ax ay aj c1a az ak aA) af bC bu w) (bI:FV (a0p aB aC n1b aG aF au aH) ah bD bn w) (hk:bC+bD≤600):bY Tryz.prog 127 [(a0r ax ay aj c1a az ak aA aB aC n1b aG aF au aH)] w (xG W0 U Ps ((bV bu bn af ah)) ((bW bu bn af ah)) (bC+bD)):=by
 have HS:=HS.add (FV.stable _ _ _ _) f1a
 have HS:=HS.add (FV.stable _ _ _ _) bI
 clear f1a bI
 refine iL Tryz.func127 rfl Tryz.ntmps127 rfl ?_
 refine JC.seq ?_
 refine JC.region ?_
 refine JL.box (vs:=(a0s ax ay aj c1a az ak aA aB aC n1b aG aF au aH)) HS rfl rfl rfl rfl (fun g1 w1 HS => ?_)
 refine JL.alloc (vs:=cO) HS rfl aYt rfl rfl (fun g2 w2 HS => ?_)
 refine jn ?_
 refine JC.seq ?_
 refine JC.seq ?_
 refine JC.region ?_
 refine JL.load (a0r ax ay aj c1a az ak aA aB aC n1b aG aF au aH) HS 1 rfl rfl rfl aYq aYo rfl rfl ?_
 refine JL.call rfl rfl aY5 (KZ HT HB HS (HS.at_ 1 rfl) (HS.at_ 0 rfl) (by omega)) (fun v3 w3 HR3 => ?_)
 obtain ⟨rfl,HS⟩:=HR3
 refine Lv (.bool (!(okR bu bn af ah))) (fun a ha=>sU (ha.ev rfl)) ?_
 refine jn ?_
 cases GR:((okR bu bn af ah))
 ·skip
  refine JC.iy rfl ?_
  refine JC.seq ?_
  refine JC.region ?_
  refine Lv fO (fun a ha=>bZ.run_build (vs:=[]) (by simp only [List.map_cons,List.map_nil]) aYr aYt pV rfl) ?_
  refine JL.store HS rfl rfl (i:=0) rfl aYo rfl rfl rfl (vs':=cO) rfl rfl (fun w5 HS => ?_)
  refine jn ?_
  refine JC.ret (fun a ha => ?_)
  repeat (first | refine dh ?_ | refine df ?_)
  refine fG (v:=fO) ha Tryz.results127 (.agg rfl aYq aYo (HS.box _ (.head _)) rfl rfl) ⟨_,rfl,?_⟩
  exact ⟨_,_,_,_,_,_,_,_,_,_,_,_,_,_,rfl,(HS.add (FV.stable _ _ _ _) (FV.zero 0 _)).tY 2 3 0 0 rfl rfl rfl (fun _ h=>h.as ((aib (by assumption)).symm) (by omega)) rfl (fun _ h=>h.as ((aic (by assumption)).symm) (by omega))⟩
 ·skip
  have hok:=KN GR
  obtain ⟨rfl,rfl,hle⟩:=hok
  refine JC.jA rfl ?_
  refine JC.jF (fun _ _ h=>h) ?_
  refine JC.seq ?_
  refine JC.region ?_
  refine JL.load (a0r ax ay aj c1a az ak aA aB aC n1b aG aF au aH) HS 1 rfl rfl rfl aYq aYo rfl rfl ?_
  refine JL.store HS rfl rfl (i:=0) rfl aYo rfl rfl rfl (vs':=(a0s ax ay aj c1a az ak aA aB aC n1b aG aF au aH)) rfl rfl (fun w6 HS => ?_)
  refine jn ?_
  refine JC.ret (fun a ha => ?_)
  repeat (first | refine dh ?_ | refine df ?_)
  refine fG (v:=(a0r ax ay aj c1a az ak aA aB aC n1b aG aF au aH)) ha Tryz.results127 (.agg rfl aYq aYo (HS.box _ (.head _)) rfl rfl) ⟨_,rfl,?_⟩
  exact ⟨_,_,_,_,_,_,_,_,_,_,_,_,_,_,rfl,HS.tY 2 2 1 0 rfl rfl rfl (fun _ h=>h.as ((aid (by assumption)).symm) (by omega)) rfl (fun _ h=>h.as ((aie (by assumption)).symm) (by omega))⟩
end
end Go.Proofs.YtbihljnjaondcaaGreatDoor
namespace Go.Proofs.YtbihljnjaondcaaGreatDoor
open Go Go.RowKit Lw bZ
section
variable {W0 w:World} {U:List Box} {Ps:List (World→Prop)}
variable {ax:Bool} {ay:Option Addr} {aj c1a:Nat} {az:Option Addr} {ak aA:Nat} {aB:Bool} {aC:Option Addr} {n1b aG:Nat} {aF:Option Addr} {au aH:Nat} {aP:Bool} {aQ:Option Addr} {aK aS:Nat} {aU:Option Addr} {aN aY:Nat} {aV:Bool} {aW:Option Addr} {aO aX:Nat} {aZ:Option Addr} {aT bf:Nat}
set_option maxHeartbeats 400000 in
theorem JM (HT:Tz W0) (HB:Tab W0) {af:Rat} {bC:Nat} {ah:Rat} {bD:Nat} {aI:Rat} {bM:Nat} {aJ:Rat} {bP:Nat} (HS:St W0 U Ps w) (f1a:FV (a0p ax ay aj c1a az ak aA) af bC true w) (bI:FV (a0p aB aC n1b aG aF au aH) ah bD true w) (fC:FV (a0p aP aQ aK aS aU aN aY) aI bM true w) (fD:FV (a0p aV aW aO aX aZ aT bf) aJ bP true w) (hk:bC+bD+(bM+bP)≤20000) (h1:af=aI) (h2:ah=aJ):bY Tryz.prog 37 [(a0r ax ay aj c1a az ak aA aB aC n1b aG aF au aH),(a0r aP aQ aK aS aU aN aY aV aW aO aX aZ aT bf)] w (iP W0 U Ps (.bool true)):=by
 have HS:=HS.add (FV.stable _ _ _ _) f1a
 have HS:=HS.add (FV.stable _ _ _ _) bI
 have HS:=HS.add (FV.stable _ _ _ _) fC
 have HS:=HS.add (FV.stable _ _ _ _) fD
 clear f1a bI fC fD
 refine iL Tryz.func37 rfl Tryz.ntmps37 rfl ?_
 refine JC.seq ?_
 refine JC.region ?_
 refine JL.box (vs:=(a0s ax ay aj c1a az ak aA aB aC n1b aG aF au aH)) HS rfl rfl rfl rfl (fun g1 w1 HS => ?_)
 refine JL.box (vs:=(a0s aP aQ aK aS aU aN aY aV aW aO aX aZ aT bf)) HS rfl rfl rfl rfl (fun g2 w2 HS => ?_)
 refine Lv (.bool false) (fun a ha=>run_assign (ha.ev rfl)) ?_
 refine jn ?_
 refine JC.seq ?_
 refine JC.region ?_
 refine Lv (.pointer (some ⟨g1,0,none⟩)) (fun a ha=>bH (ha.ev rfl) aYr rfl aYn rfl rfl) ?_
 refine JL.load (a0p ax ay aj c1a az ak aA) HS 1 rfl rfl rfl aYp aYn rfl rfl ?_
 refine Lv (.pointer (some ⟨g2,0,none⟩)) (fun a ha=>bH (ha.ev rfl) aYr rfl aYn rfl rfl) ?_
 refine JL.load (a0p aP aQ aK aS aU aN aY) HS 0 rfl rfl rfl aYp aYn rfl rfl ?_
 refine JL.call rfl rfl aZ7 (aeb HT HB HS (HS.at_ 3 rfl) (HS.at_ 1 rfl) (by omega) h1) (fun v3 w3 HR3 => ?_)
 obtain ⟨rfl,HS⟩:=HR3
 refine Lv (.bool true) (fun a ha=>run_move (ha.ev rfl)) ?_
 refine Lg (.pointer (some ⟨g1,3,none⟩)) (fun a ha=>bH (ha.ev rfl) aYr rfl aYn rfl rfl) ?_
 refine Lg (a0p aB aC n1b aG aF au aH) (fun a ha=>gU (ha.ev rfl) aYp aYn (HS.box _ (.tail _ (.head _))) rfl rfl) ?_
 refine Lg (.pointer (some ⟨g2,3,none⟩)) (fun a ha=>bH (ha.ev rfl) aYr rfl aYn rfl rfl) ?_
 refine Lg (a0p aV aW aO aX aZ aT bf) (fun a ha=>gU (ha.ev rfl) aYp aYn (HS.box _ (.head _)) rfl rfl) ?_
 refine JL.cZ rfl rfl rfl rfl rfl rfl aZ7 (aeb HT HB HS (HS.at_ 2 rfl) (HS.at_ 0 rfl) (by omega) h2) (fun v4 w4 HR4 => ?_)
 obtain ⟨rfl,HS⟩:=HR4
 refine Lv (.bool true) (fun a ha=>eY (ha.ev rfl) (ha.ev rfl)) ?_
 refine Lv (.bool true) (fun a ha=>run_assign (ha.ev rfl)) ?_
 refine jn ?_
 refine JC.ret (fun a ha => ?_)
 repeat (first | refine dh ?_ | refine df ?_)
 refine fG (v := .bool true) ha Tryz.results37 (.tmp rfl) ⟨_,rfl,?_⟩
 exact ⟨rfl,HS.gy 2 4 rfl rfl⟩
end
end Go.Proofs.YtbihljnjaondcaaGreatDoor
namespace Go.Proofs.YtbihljnjaondcaaGreatDoor
open Go Go.RowKit Lw bZ
section
variable {W0 w:World} {U:List Box} {Ps:List (World→Prop)}
theorem DL {f:FuncId} {vs:List Value} {er:Value} {k:Nat} (h:bY Tryz.prog f vs w (iP W0 U Ps (.tuple #[fO,er]))):bY Tryz.prog f vs w (yY W0 U Ps 0 0 k er) :=
 Calls.mono h fun e w' hh=>by
  obtain ⟨u,rfl,rfl,hs⟩:=hh
  exact ⟨_,rfl,_,_,_,_,_,_,_,_,_,_,_,_,_,_,rfl,(hs.add (FV.stable _ _ _ _) (FV.zero k w')).add (FV.stable _ _ _ _) (FV.zero k w')⟩
end
end Go.Proofs.YtbihljnjaondcaaGreatDoor
