/- Part of a proof, said shortly. -/
import Derived.LoopN
import Derived.Test.YtbihljnjaondcaaGreatDoorAlz
import Derived.Test.YtbihljnjaondcaaGreatDoorC21
import Derived.Test.YtbihljnjaondcaaGreatDoorS20
import Derived.Test.YtbihljnjaondcaaGreatDoorC15
import Derived.Test.YtbihljnjaondcaaGreatDoorS1
import Derived.Test.YtbihljnjaondcaaGreatDoorC20
import Derived.Test.YtbihljnjaondcaaGreatDoorS4
import Derived.Test.YtbihljnjaondcaaGreatDoorS5
import Derived.Test.YtbihljnjaondcaaGreatDoorS6
import Derived.Test.YtbihljnjaondcaaGreatDoorS11
import Derived.Test.YtbihljnjaondcaaGreatDoorC16
import Derived.Test.YtbihljnjaondcaaGreatDoorC14
import Derived.Test.YtbihljnjaondcaaGreatDoorC13
import Derived.Test.YtbihljnjaondcaaGreatDoorC12
import Derived.Test.YtbihljnjaondcaaGreatDoorC11
import Derived.Test.YtbihljnjaondcaaGreatDoorC10
import Derived.Test.YtbihljnjaondcaaGreatDoorC6
import Derived.Test.YtbihljnjaondcaaGreatDoorC2
import Derived.Test.YtbihljnjaondcaaGreatDoorC1
import Derived.Test.YtbihljnjaondcaaGreatDoorC5
import Derived.Test.YtbihljnjaondcaaGreatDoorC4
import Derived.Test.YtbihljnjaondcaaGreatDoorC3
import Derived.Test.YtbihljnjaondcaaGreatDoorC9
import Derived.Test.YtbihljnjaondcaaGreatDoorC8
import Derived.Test.YtbihljnjaondcaaGreatDoorC7
import Derived.Test.YtbihljnjaondcaaGreatDoorC19
import Derived.Test.YtbihljnjaondcaaGreatDoorC18
import Derived.Test.YtbihljnjaondcaaGreatDoorC17
import Derived.Test.YtbihljnjaondcaaGreatDoorC22
set_option maxRecDepth 100000
open Go.Proofs.YtbihljnjaondcaaGreatDoor (a0p a0q a0r a0s yw bU fO cO PS iy1 PT FX iy4 iy5 iy6 Yo iy8 iy9 aAJ)
set_option linter.unusedVariables false
set_option linter.unusedSimpArgs false
namespace bZ
open Go Go.RowKit
section
variable {P:Program} {ops:Array Oper} {Q:Exit→Act→World→Prop} {N:Nat} {T T':List (Nat×Value)} {w:World} {late:List Nat} {S:World→Prop} {fuel:Nat} {listed:Array Bool}
theorem atm {a:Act} {j t:Nat} {oj:Oper} (ha:Kn a N T) (hj:ops[j]? = some oj) (hdj:oj.dst=some t) (uD:Nat.ble (t+1) N=true) (hv:iR T t=some undef):yielded ops a.tmps j=none:=by
 have h1:=ha.2.2 t _ hv
 have h2:t < a.tmps.size:=by rw [ha.2.1]; exact Nat.le_of_ble_eq_true uD
 unfold yielded
 rw [hj,Option.bind_some,hdj,Option.bind_some]
 rw [Array.getD_eq_getD_getElem?,Array.getElem?_eq_getElem h2,Option.getD_some] at h1
 rw [Array.getElem?_eq_getElem h2,h1]
 rfl
theorem JL.apH {o oj:Oper} {rest:List Oper} {d j t:Nat} {want:Bool} (hg:o.guard=some (j,want)) (hd:o.dst=some d) (hN:Nat.ble (d+1) N=true) (hj:ops[j]? = some oj) (hdj:oj.dst=some t) (uD:Nat.ble (t+1) N=true) (hv:iR T t=some undef)
  (h:JL P ops Q rest N ((d,undef) :: T) w):JL P ops Q (o :: rest) N T w:=by
 intro a ha
 have hy:=atm ha hj hdj uD hv
 unfold wpList
 rw [if_neg (by simp [Region.wanted,hg,hy])]
 rw [hd]
 exact h _ (ha.put hN undef)
theorem JR.apH {o oj:Oper} {d j t:Nat} {want:Bool} {listed':Array Bool} (i:Nat) (hi:ops[i]? = some o) (hs:Region.noSelect ops=true) (hf:Region.free .any ops listed i=true) (hr:(Region.ready .any ops listed).contains i=true) (hil:U6 late i=true) (hq : ∀ c a w,Q (.panic c) (a.put o.dst undef) w→Q (.panic c) a w)
  (hd:o.dst=some d) (hN:Nat.ble (d+1) N=true) (hg:o.guard=some (j,want)) (hj:ops[j]? = some oj) (hdj:oj.dst=some t) (uD:Nat.ble (t+1) N=true) (hv:iR T t=some undef) (hS:pX late listed→S w) (hl:listed.setIfInBounds i true=listed')
  (h:JR P ops Q late S fuel listed' N ((d,undef) :: T) w):JR P ops Q late S (fuel+1) listed N T w:=by
 subst hl
 intro a ha
 have RZ : ∀ s∈late,s≠i:=fun s hs e=>by
  have:=List.all_eq_true.1 hil s hs
  rw [e] at this; simp at this
 have hy:=atm ha hj hdj uD hv
 refine TY (S':=fun _=>True) hi (Region.noSelect_spec hs) hq RZ (.inl fun _=>trivial) fuel listed a w (Region.free_spec hi hf) (by simpa using hr) (.inr ⟨by simp [Region.wanted,hg,hy],rfl⟩) trivial hS (.inl fun _=>trivial) ?_
 have:=h _ (ha.put hN undef)
 rw [hd]
 exact this
end
section
variable {P:Program} {ops:Array Oper} {Q:Exit→Act→World→Prop} {late:List Nat} {S:World→Prop} {N d fuel:Nat} {T:List (Nat×Value)} {W0 w w':World} {U:List Box} {Ps:List (World→Prop)} {listed:Array Bool} {o:Oper} {rest:List Oper}
theorem AX {j:Nat} {want:Bool} {oj:Oper} {t:Nat} (h:JL P ops Q rest N ((d,undef) :: T) w) (hg:o.guard=some (j,want):=by rfl) (hd:o.dst=some d:=by rfl) (hN:Nat.ble (d+1) N=true:=by rfl) (hj:ops[j]? = some oj:=by rfl) (hdj:oj.dst=some t:=by rfl) (uD:Nat.ble (t+1) N=true:=by rfl) (hv:iR T t=some undef:=by rfl):JL P ops Q (o :: rest) N T w:=JL.apH hg hd hN hj hdj uD hv h
end
end bZ
namespace bZ
open Go Go.RowKit
theorem St.apD {W0 w:World} {U U':List Box} {Ps Ps':List (World→Prop)} {P:World→Prop} (HS:St W0 U' (P :: Ps') w) (n m:Nat) (hU:U'.drop n=U) (hP:Ps'.drop m=Ps):St W0 U (P :: Ps) w:=HS.out n (m+1) 0 hU (by simpa using hP) rfl (fun _ h=>h)
end bZ
namespace Lw
open Go Go.RowKit bZ
section
variable {s:Bool} {A B:Option Addr} {n c m d k:Nat} {q:Rat} {w:World}
theorem FV.copy {A' B':Option Addr} {n' c' m' d':Nat} (h:FV (a0p s A n c B m d) q k true w) (h1:FW (.slice A' n' c') (rn q) w) (h2:FW (.slice B' m' d') (rd q) w):FV (a0p s A' n' c' B' m' d') q k true w:=by
 obtain ⟨e1,e2,e3,_,_,e6,e7,_⟩:=fJ.own h
 obtain ⟨a1,a2,a3⟩:=h1.rd
 obtain ⟨b1,b2,b3⟩:=h2.rd
 exact FV.mk e1 h1 h2 (by omega) (by omega)
theorem FV.bad {b:Bool} (h:FV (a0p s A n c B m d) q k b w) (hb:b=false):q=0:=by
 obtain ⟨s',A1,n1,c1,A2,n2,c2,ns,ms,h1,h2,h3,h4,h5,h6,h7,h8,h9,h10,h11⟩:=h
 dsimp only at h10 h11
 subst hb
 unfold qv at h10
 rw [h11] at h10
 simpa using h10.symm
theorem FV.aAR {b:Bool} (h:FV (a0p s A n c B m d) q k b w):n≤k∧m≤k:=by
 obtain ⟨s',A1,n1,c1,A2,n2,c2,ns,ms,h1,h2,h3,h4,h5,h6,h7,_⟩:=h
 dsimp only at h1 h6 h7
 injection h1 with h1
 injection h1 with h1
 simp only [List.cons.injEq,Value.bool.injEq,Value.slice.injEq,and_true] at h1
 obtain ⟨rfl,⟨rfl,rfl,rfl⟩,rfl,rfl,rfl⟩:=h1
 exact ⟨h6,h7⟩
end
section
variable (W0:World) (U:List Box) (Ps:List (World→Prop))
def AnW (ns:List Nat) (u:Value) (w:World):Prop := ∃ (A:Option Addr) (n c:Nat),u = .slice A n c∧St W0 U (FW (.slice A n c) ns :: Ps) w
end
end Lw
namespace Go.Proofs.YtbihljnjaondcaaGreatDoor
open Go Go.RowKit Lw bZ
section
variable {W0 w:World} {U:List Box} {Ps:List (World→Prop)}
variable {s1:Bool} {A1:Option Addr} {n1 c1:Nat} {B1:Option Addr} {m1 d1:Nat} {s2:Bool} {A2:Option Addr} {n2 c2:Nat} {B2:Option Addr} {m2 d2:Nat}
theorem al6 (HS:St W0 U Ps w) {A1:Option Addr} {n1 c1:Nat} {l1:List Nat} (f1:FW (.slice A1 n1 c1) l1 w) (hk:n1≤100000):bY Tryz.prog 185 [.slice A1 n1 c1] w (AnW W0 U Ps l1):=by
 obtain ⟨h1,h2,_⟩:=f1.rd
 refine Calls.mono (clone_any A1 l1 n1 c1 _ w h1 (Nat.le_refl _) h2 (by omega)) fun e w' hh => ?_
 obtain ⟨A,c,rfl,hc,-,hr,hb⟩:=hh
 exact ⟨_,rfl,A,n1,c,rfl,(HS.next hb).add (FW.stable _ _) ⟨A,n1,c,rfl,hr,h2,hc⟩⟩
theorem FV.zn {s b:Bool} {A B:Option Addr} {n c m d k:Nat} {q:Rat} {w:World} (h:FV (a0p s A n c B m d) q k b w) (hn:n=0):q=0:=by
 cases b
 ·exact h.bad rfl
 ·exact h.nz.1 hn
set_option maxHeartbeats 400000 in
theorem ae2 (HT:Tz W0) (HB:Tab W0) {q1:Rat} {k1:Nat} {b1:Bool} (HS:St W0 U Ps w) (f1:FV (a0p s1 A1 n1 c1 B1 m1 d1) q1 k1 b1 w) (hk:k1≤40000):bY Tryz.prog 121 [(a0p s1 A1 n1 c1 B1 m1 d1)] w (xY W0 U Ps (q1) (k1)):=by
 have HS:=HS.add (FV.stable _ _ _ _) f1
 clear f1
 have hl1:=FV.aAR (HS.at_ 0 rfl)
 refine iL Tryz.func121 rfl Tryz.ntmps121 rfl ?_
 refine JC.seq ?_
 refine JC.region ?_
 refine JL.box (vs:=(a0q s1 A1 n1 c1 B1 m1 d1)) HS rfl rfl rfl rfl (fun g1 w1 HS => ?_)
 refine JL.alloc (vs:=bU) HS rfl aYs rfl rfl (fun g2 w2 HS => ?_)
 refine jn ?_
 refine JC.seq ?_
 refine JC.seq ?_
 refine JC.region ?_
 refine JL.load (a0p s1 A1 n1 c1 B1 m1 d1) HS 1 rfl rfl rfl aYp aYn rfl rfl ?_
 refine JL.call rfl rfl aZc (Qy HT HB HS (HS.at_ 0 rfl) ) (fun v3 w3 HR3 => ?_)
 obtain ⟨rfl,HS⟩:=HR3
 cases GR:((decide (n1=0)))
 ·skip
  refine Lv (.bool false) (fun a ha=>run_move (ha.ev rfl)) ?_
  refine Lg (a0p s1 A1 n1 c1 B1 m1 d1) (fun a ha=>gU (ha.ev rfl) aYp aYn (HS.box _ (.tail _ (.head _))) rfl rfl) ?_
  refine JL.cZ rfl rfl rfl rfl rfl rfl Tryz.call113 (ahs HT HB HS (HS.at_ 0 rfl) (by omega)) (fun v5 w5 vk => ?_)
  obtain ⟨rfl,HS⟩:=vk
  refine Lg (.bool (!b1)) (fun a ha=>sU (ha.ev rfl)) ?_
  refine Lv (.bool (!b1)) (fun a ha=>gB (ha.ev rfl) (ha.ev rfl)) ?_
  refine jn ?_
  cases b1
  ·skip
   refine JC.iy rfl ?_
   refine JC.seq ?_
   refine JC.region ?_
   refine Lv yw (fun a ha=>bZ.run_build (vs:=[]) (by simp only [List.map_cons,List.map_nil]) aYx aYs Dh rfl) ?_
   refine JL.store HS rfl rfl (i:=0) rfl aYn rfl rfl rfl (vs':=bU) rfl rfl (fun w7 HS => ?_)
   refine jn ?_
   refine JC.ret (fun a ha => ?_)
   repeat (first | refine dh ?_ | refine df ?_)
   refine fG (v:=yw) ha Tryz.results121 (.agg rfl aYp aYn (HS.box _ (.head _)) rfl rfl) ⟨_,rfl,?_⟩
   exact ⟨_,_,_,_,_,_,_,rfl,(HS.add (FV.stable _ _ _ _) ((FV.zero 0 _).as ((FV.bad (HS.at_ 0 rfl) rfl).symm) (by omega))).apD 2 1 rfl rfl⟩
  ·skip
   refine JC.jA rfl ?_
   refine JC.jF (fun _ _ h=>h) ?_
   refine JC.seq ?_
   refine JC.draw HS [9] (by kernel_rfl) (fun w8 HS => ?_)
   refine Dv (.pointer (some ⟨g1,0,none⟩)) 0 rfl HS.b0 (fun a ha w=>bH (ha.ev rfl) aYx rfl aYK rfl rfl) ?_
   refine Do (.bool s1) 1 1 rfl HS.b0 rfl rfl aYJ ?_
   refine Dv (.pointer (some ⟨g1,1,none⟩)) 2 rfl HS.b0 (fun a ha w=>bH (ha.ev rfl) aYx rfl aYL rfl rfl) ?_
   refine Do (.slice A1 n1 c1) 3 1 rfl HS.b0 rfl rfl aYM ?_
   refine Dv (.pointer (some ⟨g1,2,none⟩)) 5 rfl HS.b0 (fun a ha w=>bH (ha.ev rfl) aYx rfl aYL rfl rfl) ?_
   refine Do (.slice B1 m1 d1) 6 1 rfl HS.b0 rfl rfl aYM ?_
   have HS:=HS.pO 0 rfl (fun _ h=>h.num)
   refine bJ 4 rfl rfl rfl Tryz.call185 (al6 HS (HS.at_ 0 rfl) (by omega)) (fun Fp Em wO => ?_)
   obtain ⟨nP,nU,nS,rfl,HS⟩:=wO
   refine ⟨HS.b0,?_⟩
   have HS:=HS.pO 2 rfl (fun _ h=>h.den)
   refine bJ 7 rfl rfl rfl Tryz.call185 (al6 HS (HS.at_ 0 rfl) (by omega)) (fun aVv atg awr => ?_)
   obtain ⟨Wi,Y1,XB,rfl,HS⟩:=awr
   refine ⟨HS.b0,?_⟩
   refine Dv (a0p s1 nP nU nS Wi Y1 XB) 8 rfl HS.b0 (fun a ha w=>bZ.run_build (vs:=[(0,.bool s1),(1,.slice nP nU nS),(2,.slice Wi Y1 XB)]) (by simp only [List.map_cons,List.map_nil,ha.ev (x := .tmp 12) (v := .bool s1) rfl,ha.ev (x := .tmp 15) (v := .slice nP nU nS) rfl,ha.ev (x := .tmp 18) (v := .slice Wi Y1 XB) rfl]) aYx aYs Dh rfl) ?_
   refine bF 9 (a0q s1 nP nU nS Wi Y1 XB) HS 0 rfl rfl rfl rfl aYn (fun _ HS=>⟨(eX (s:=9) rfl rfl),?_⟩)
   refine JR.next (by kernel_rfl) (fun _ _ h=>h) ?_
   refine JC.ret (fun a ha => ?_)
   repeat (first | refine dh ?_ | refine df ?_)
   refine fG (v:=(a0p s1 nP nU nS Wi Y1 XB)) ha Tryz.results121 (.agg rfl aYp aYn (HS.box _ (.head _)) rfl rfl) ⟨_,rfl,?_⟩
   have HS:=HS.add (FV.stable _ _ _ _) (FV.copy (HS.at_ 4 rfl) (HS.at_ 2 rfl) (HS.at_ 0 rfl))
   exact ⟨_,_,_,_,_,_,_,rfl,HS.out 2 6 0 rfl rfl rfl (fun _ h=>h.as rfl (by omega))⟩
 ·skip
  refine Lv (.bool true) (fun a ha=>run_move (ha.ev rfl)) ?_
  refine Lp ?_
  refine Lp ?_
  refine Lp ?_
  refine Lv (.bool true) (fun a ha=>eY (ha.ev rfl) (ha.ev rfl)) ?_
  refine jn ?_
  refine JC.iy rfl ?_
  refine JC.seq ?_
  refine JC.region ?_
  refine Lv yw (fun a ha=>bZ.run_build (vs:=[]) (by simp only [List.map_cons,List.map_nil]) aYx aYs Dh rfl) ?_
  refine JL.store HS rfl rfl (i:=0) rfl aYn rfl rfl rfl (vs':=bU) rfl rfl (fun w10 HS => ?_)
  refine jn ?_
  refine JC.ret (fun a ha => ?_)
  repeat (first | refine dh ?_ | refine df ?_)
  refine fG (v:=yw) ha Tryz.results121 (.agg rfl aYp aYn (HS.box _ (.head _)) rfl rfl) ⟨_,rfl,?_⟩
  exact ⟨_,_,_,_,_,_,_,rfl,(HS.add (FV.stable _ _ _ _) ((FV.zero 0 _).as ((FV.zn (HS.at_ 0 rfl) (of_decide_eq_true (by assumption))).symm) (by omega))).apD 2 1 rfl rfl⟩
set_option maxHeartbeats 400000 in
theorem O5 (HT:Tz W0) (HB:Tab W0) {q1:Rat} {k1:Nat} {b1:Bool} {q2:Rat} {k2:Nat} {b2:Bool} (HS:St W0 U Ps w) (f1:FV (a0p s1 A1 n1 c1 B1 m1 d1) q1 k1 b1 w) (f2:FV (a0p s2 A2 n2 c2 B2 m2 d2) q2 k2 b2 w) (hk:k1+k2≤4000) (hc:q1≤q2):bY Tryz.prog 33 [(a0p s1 A1 n1 c1 B1 m1 d1),(a0p s2 A2 n2 c2 B2 m2 d2)] w (yY W0 U Ps (q1) (q2) (k1+k2) (.nilIface)):=by
 have HS:=HS.add (FV.stable _ _ _ _) f1
 have HS:=HS.add (FV.stable _ _ _ _) f2
 clear f1 f2
 refine iL Tryz.func33 rfl Tryz.ntmps33 rfl ?_
 refine JC.seq ?_
 refine JC.region ?_
 refine JL.box (vs:=(a0q s1 A1 n1 c1 B1 m1 d1)) HS rfl rfl rfl rfl (fun g1 w1 HS => ?_)
 refine JL.box (vs:=(a0q s2 A2 n2 c2 B2 m2 d2)) HS rfl rfl rfl rfl (fun g2 w2 HS => ?_)
 refine JL.alloc (vs:=cO) HS rfl aYt rfl rfl (fun g3 w3 HS => ?_)
 refine Lv (.nilIface) (fun a ha=>run_assign (ha.ev rfl)) ?_
 refine jn ?_
 refine JC.seq ?_
 refine JC.seq ?_
 refine JC.region ?_
 refine JL.load (a0p s1 A1 n1 c1 B1 m1 d1) HS 2 rfl rfl rfl aYp aYn rfl rfl ?_
 refine JL.load (a0p s2 A2 n2 c2 B2 m2 d2) HS 1 rfl rfl rfl aYp aYn rfl rfl ?_
 refine JL.call rfl rfl aYD (vJ HT HB HS (HS.at_ 1 rfl) (HS.at_ 0 rfl) (by omega)) (fun v4 w4 HR4 => ?_)
 obtain ⟨rfl,HS⟩:=HR4
 refine Lv (.bool false) (fun a ha=>wH (ha.ev rfl) (ha.ev rfl) ((Kr _ _).trans (decide_eq_false (show ¬ q2 < q1 by grind)))) ?_
 refine jn ?_
 refine JC.jA rfl ?_
 refine JC.jF (fun _ _ h=>h) ?_
 refine JC.seq ?_
 refine JC.draw HS [5] (by kernel_rfl) (fun w5 HS => ?_)
 refine Da (a0p s1 A1 n1 c1 B1 m1 d1) 0 2 rfl HS.b0 rfl rfl aYp aYn ?_
 refine Da (a0p s2 A2 n2 c2 B2 m2 d2) 2 1 rfl HS.b0 rfl rfl aYp aYn ?_
 refine bJ 1 rfl rfl rfl aZ8 (ae2 HT HB HS (HS.at_ 1 rfl) (by omega)) (fun aU' aXm avV => ?_)
 obtain ⟨ZB,V6,YY,Xx,WH,YF,XR,rfl,HS⟩:=avV
 refine ⟨HS.b0,?_⟩
 refine bJ 3 rfl rfl rfl aZ8 (ae2 HT HB HS (HS.at_ 1 rfl) (by omega)) (fun aVe aXr av1 => ?_)
 obtain ⟨ZC,V7,YZ,Xy,WI,YG,XT,rfl,HS⟩:=av1
 refine ⟨HS.b0,?_⟩
 refine Dv (a0r ZB V6 YY Xx WH YF XR ZC V7 YZ Xy WI YG XT) 4 rfl HS.b0 (fun a ha w=>bZ.run_build (vs:=[(0,(a0p ZB V6 YY Xx WH YF XR)),(1,(a0p ZC V7 YZ Xy WI YG XT))]) (by simp only [List.map_cons,List.map_nil,ha.ev (x := .tmp 13) (v:=(a0p ZB V6 YY Xx WH YF XR)) rfl,ha.ev (x := .tmp 15) (v:=(a0p ZC V7 YZ Xy WI YG XT)) rfl]) aYr aYt pV rfl) ?_
 refine bF 5 (a0s ZB V6 YY Xx WH YF XR ZC V7 YZ Xy WI YG XT) HS 0 rfl rfl rfl rfl aYo (fun _ HS=>⟨(eX (s:=5) rfl rfl),?_⟩)
 refine Dv (.nilIface) 6 rfl (eX (s:=5) rfl rfl) (fun a ha w=>run_assign (ha.ev rfl)) ?_
 refine JR.next (by kernel_rfl) (fun _ _ h=>h) ?_
 refine JC.ret (fun a ha => ?_)
 repeat (first | refine dh ?_ | refine df ?_)
 refine vI (v:=(a0r ZB V6 YY Xx WH YF XR ZC V7 YZ Xy WI YG XT)) (v' := .nilIface) ha Tryz.results33 (.agg rfl aYq aYo (HS.box _ (.head _)) rfl rfl) (.tmp rfl) ⟨_,rfl,?_⟩
 exact ⟨_,_,_,_,_,_,_,_,_,_,_,_,_,_,rfl,HS.tY 3 4 1 0 rfl rfl rfl (fun _ h=>h.as rfl (by omega)) rfl (fun _ h=>h.as rfl (by omega))⟩
end
end Go.Proofs.YtbihljnjaondcaaGreatDoor
namespace Go.Proofs.YtbihljnjaondcaaGreatDoor
open Go Go.RowKit Lw bZ
section
variable {W0 w:World} {U:List Box} {Ps:List (World→Prop)}
variable {ax:Bool} {ay:Option Addr} {aj c1a:Nat} {az:Option Addr} {ak aA:Nat} {aB:Bool} {aC:Option Addr} {n1b aG:Nat} {aF:Option Addr} {au aH:Nat} {aP:Bool} {aQ:Option Addr} {aK aS:Nat} {aU:Option Addr} {aN aY:Nat} {aV:Bool} {aW:Option Addr} {aO aX:Nat} {aZ:Option Addr} {aT bf:Nat}
set_option maxHeartbeats 400000 in
theorem asH (HT:Tz W0) (HB:Tab W0) {af:Rat} {bC:Nat} {bu:Bool} {ah:Rat} {bD:Nat} {bn:Bool} {aI:Rat} {bM:Nat} {bT:Bool} {aJ:Rat} {bP:Nat} {bQ:Bool} (HS:St W0 U Ps w) (f1a:FV (a0p ax ay aj c1a az ak aA) af bC bu w) (bI:FV (a0p aB aC n1b aG aF au aH) ah bD bn w) (fC:FV (a0p aP aQ aK aS aU aN aY) aI bM bT w) (fD:FV (a0p aV aW aO aX aZ aT bf) aJ bP bQ w) (hk:bC+bD+(bM+bP)≤20000):bY Tryz.prog 44 [(a0r ax ay aj c1a az ak aA aB aC n1b aG aF au aH),(a0r aP aQ aK aS aU aN aY aV aW aO aX aZ aT bf)] w (iP W0 U Ps (.bool (decide ((bV bT bQ aI aJ)≤(bV bu bn af ah))&&decide ((bW bu bn af ah)≤(bW bT bQ aI aJ))))):=by
 have HS:=HS.add (FV.stable _ _ _ _) f1a
 have HS:=HS.add (FV.stable _ _ _ _) bI
 have HS:=HS.add (FV.stable _ _ _ _) fC
 have HS:=HS.add (FV.stable _ _ _ _) fD
 clear f1a bI fC fD
 refine iL Tryz.func44 rfl Tryz.ntmps44 rfl ?_
 refine JC.seq ?_
 refine JC.region ?_
 refine JL.box (vs:=(a0s ax ay aj c1a az ak aA aB aC n1b aG aF au aH)) HS rfl rfl rfl rfl (fun g1 w1 HS => ?_)
 refine JL.box (vs:=(a0s aP aQ aK aS aU aN aY aV aW aO aX aZ aT bf)) HS rfl rfl rfl rfl (fun g2 w2 HS => ?_)
 refine Lv (.bool false) (fun a ha=>run_assign (ha.ev rfl)) ?_
 refine jn ?_
 refine JC.cut (ι:=FX) (fun ⟨JP,Ib,Jh,IE,Ii,Jb,IP,JQ,Ic,Ji,IG,Ij,Jc,IQ,JS,Ie,Jj,II,Ik,Jd,IU,JU,Ig,Jk,IJ,Il,Je,IV⟩=>[(0,(a0r ax ay aj c1a az ak aA aB aC n1b aG aF au aH)),(1,(a0r aP aQ aK aS aU aN aY aV aW aO aX aZ aT bf)),(2,.pointer (some ⟨g1,0,none⟩)),(3,.pointer (some ⟨g2,0,none⟩)),(4,.bool false)]) (fun ⟨JP,Ib,Jh,IE,Ii,Jb,IP,JQ,Ic,Ji,IG,Ij,Jc,IQ,JS,Ie,Jj,II,Ik,Jd,IU,JU,Ig,Jk,IJ,Il,Je,IV⟩ w=>St W0 (⟨g2,48,(a0s JS Ie Jj II Ik Jd IU JU Ig Jk IJ Il Je IV)⟩ :: ⟨g1,48,(a0s JP Ib Jh IE Ii Jb IP JQ Ic Ji IG Ij Jc IQ)⟩ :: U) (FV (a0p JS Ie Jj II Ik Jd IU) (bV bT bQ aI aJ) (bM+bP) true :: FV (a0p JU Ig Jk IJ Il Je IV) (bW bT bQ aI aJ) (bM+bP) true :: FV (a0p JP Ib Jh IE Ii Jb IP) (bV bu bn af ah) (bC+bD) true :: FV (a0p JQ Ic Ji IG Ij Jc IQ) (bW bu bn af ah) (bC+bD) true :: FV (a0p aV aW aO aX aZ aT bf) aJ bP bQ :: FV (a0p aP aQ aK aS aU aN aY) aI bM bT :: FV (a0p aB aC n1b aG aF au aH) ah bD bn :: FV (a0p ax ay aj c1a az ak aA) af bC bu :: Ps) w) ?_ ?_
 ·skip
  refine JC.draw HS [4,5] (by kernel_rfl) (fun w4 HS => ?_)
  refine Da (a0r ax ay aj c1a az ak aA aB aC n1b aG aF au aH) 0 1 rfl HS.b0 rfl rfl aYq aYo ?_
  refine JR.any [1,2] (by kernel_rfl) rfl ?_
  refine ai.call rfl rfl rfl aYz (sO HT HB HS (HS.at_ 3 rfl) (HS.at_ 2 rfl) (by omega)) rfl (fun aGu aG5 agb => ?_) ?_
  ·skip
   obtain ⟨JP,Ib,Jh,IE,Ii,Jb,IP,JQ,Ic,Ji,IG,Ij,Jc,IQ,rfl,HS⟩:=agb
   refine ⟨HS.b0,?_⟩
   refine J1 2 (by kernel_rfl) ?_
   refine ai.load (a0r aP aQ aK aS aU aN aY aV aW aO aX aZ aT bf) HS 0 rfl rfl rfl rfl aYq aYo rfl rfl rfl ?_ ai.nil
   refine ⟨HS.b0,?_⟩
   refine bJ 3 rfl rfl rfl aYz (sO HT HB HS (HS.at_ 3 rfl) (HS.at_ 2 rfl) (by omega)) (fun aGv aG6 agc => ?_)
   obtain ⟨JS,Ie,Jj,II,Ik,Jd,IU,JU,Ig,Jk,IJ,Il,Je,IV,rfl,HS⟩:=agc
   refine ⟨HS.b0,?_⟩
   refine bF 4 (a0s JP Ib Jh IE Ii Jb IP JQ Ic Ji IG Ij Jc IQ) HS 1 rfl rfl rfl rfl aYo (fun _ HS=>⟨(eX (s:=4) rfl rfl),?_⟩)
   refine bF 5 (a0s JS Ie Jj II Ik Jd IU JU Ig Jk IJ Il Je IV) HS 0 rfl rfl rfl rfl aYo (fun _ HS=>⟨(eX (s:=4) rfl rfl),?_⟩)
   exact JR.mt (JP,Ib,Jh,IE,Ii,Jb,IP,JQ,Ic,Ji,IG,Ij,Jc,IQ,JS,Ie,Jj,II,Ik,Jd,IU,JU,Ig,Jk,IJ,Il,Je,IV) HS
  refine ai.load (a0r aP aQ aK aS aU aN aY aV aW aO aX aZ aT bf) HS 0 rfl rfl rfl rfl aYq aYo rfl rfl rfl ?_ ai.nil
  refine ⟨HS.b0,?_⟩
  refine bJ 1 rfl rfl rfl aYz (sO HT HB HS (HS.at_ 3 rfl) (HS.at_ 2 rfl) (by omega)) (fun aGu aG5 agb => ?_)
  obtain ⟨JP,Ib,Jh,IE,Ii,Jb,IP,JQ,Ic,Ji,IG,Ij,Jc,IQ,rfl,HS⟩:=agb
  refine ⟨HS.b0,?_⟩
  refine bJ 3 rfl rfl rfl aYz (sO HT HB HS (HS.at_ 3 rfl) (HS.at_ 2 rfl) (by omega)) (fun aGv aG6 agc => ?_)
  obtain ⟨JS,Ie,Jj,II,Ik,Jd,IU,JU,Ig,Jk,IJ,Il,Je,IV,rfl,HS⟩:=agc
  refine ⟨HS.b0,?_⟩
  refine bF 4 (a0s JP Ib Jh IE Ii Jb IP JQ Ic Ji IG Ij Jc IQ) HS 1 rfl rfl rfl rfl aYo (fun _ HS=>⟨(eX (s:=4) rfl rfl),?_⟩)
  refine bF 5 (a0s JS Ie Jj II Ik Jd IU JU Ig Jk IJ Il Je IV) HS 0 rfl rfl rfl rfl aYo (fun _ HS=>⟨(eX (s:=4) rfl rfl),?_⟩)
  exact JR.mt (JP,Ib,Jh,IE,Ii,Jb,IP,JQ,Ic,Ji,IG,Ij,Jc,IQ,JS,Ie,Jj,II,Ik,Jd,IU,JU,Ig,Jk,IJ,Il,Je,IV) HS
 ·skip
  rintro ⟨JP,Ib,Jh,IE,Ii,Jb,IP,JQ,Ic,Ji,IG,Ij,Jc,IQ,JS,Ie,Jj,II,Ik,Jd,IU,JU,Ig,Jk,IJ,Il,Je,IV⟩ aYa HS
  try dsimp only at HS ⊢
  refine JC.seq ?_
  refine JC.region ?_
  refine Lv (.pointer (some ⟨g2,0,none⟩)) (fun a ha=>bH (ha.ev rfl) aYr rfl aYn rfl rfl) ?_
  refine JL.load (a0p JS Ie Jj II Ik Jd IU) HS 0 rfl rfl rfl aYp aYn rfl rfl ?_
  refine Lv (.pointer (some ⟨g1,0,none⟩)) (fun a ha=>bH (ha.ev rfl) aYr rfl aYn rfl rfl) ?_
  refine JL.load (a0p JP Ib Jh IE Ii Jb IP) HS 1 rfl rfl rfl aYp aYn rfl rfl ?_
  refine JL.call rfl rfl aZg (TQ HT HB HS (HS.at_ 0 rfl) (HS.at_ 2 rfl) (by omega)) (fun v5 w5 vk => ?_)
  obtain ⟨rfl,HS⟩:=vk
  cases EN:((decide ((bV bT bQ aI aJ)≤(bV bu bn af ah))))
  ·skip
   refine Lv (.bool false) (fun a ha=>run_move (ha.ev rfl)) ?_
   refine Lp ?_
   refine Lp ?_
   refine Lp ?_
   refine Lp ?_
   refine Lp ?_
   refine Lv (.bool false) (fun a ha=>gB (ha.ev rfl) (ha.ev rfl)) ?_
   refine Lv (.bool false) (fun a ha=>run_assign (ha.ev rfl)) ?_
   refine jn ?_
   refine JC.ret (fun a ha => ?_)
   repeat (first | refine dh ?_ | refine df ?_)
   refine fG (v := .bool false) ha Tryz.results44 (.tmp rfl) ⟨_,rfl,?_⟩
   exact ⟨rfl,HS.gy 2 8 rfl rfl⟩
  ·skip
   refine Lv (.bool true) (fun a ha=>run_move (ha.ev rfl)) ?_
   refine Lg (.pointer (some ⟨g1,3,none⟩)) (fun a ha=>bH (ha.ev rfl) aYr rfl aYn rfl rfl) ?_
   refine Lg (a0p JQ Ic Ji IG Ij Jc IQ) (fun a ha=>gU (ha.ev rfl) aYp aYn (HS.box _ (.tail _ (.head _))) rfl rfl) ?_
   refine Lg (.pointer (some ⟨g2,3,none⟩)) (fun a ha=>bH (ha.ev rfl) aYr rfl aYn rfl rfl) ?_
   refine Lg (a0p JU Ig Jk IJ Il Je IV) (fun a ha=>gU (ha.ev rfl) aYp aYn (HS.box _ (.head _)) rfl rfl) ?_
   refine JL.cZ rfl rfl rfl rfl rfl rfl aZg (TQ HT HB HS (HS.at_ 3 rfl) (HS.at_ 1 rfl) (by omega)) (fun v7 w7 wM => ?_)
   obtain ⟨rfl,HS⟩:=wM
   refine Lv (.bool (decide ((bW bu bn af ah)≤(bW bT bQ aI aJ)))) (fun a ha=>eY (ha.ev rfl) (ha.ev rfl)) ?_
   refine Lv (.bool (decide ((bW bu bn af ah)≤(bW bT bQ aI aJ)))) (fun a ha=>run_assign (ha.ev rfl)) ?_
   refine jn ?_
   refine JC.ret (fun a ha => ?_)
   repeat (first | refine dh ?_ | refine df ?_)
   refine fG (v := .bool (decide ((bW bu bn af ah)≤(bW bT bQ aI aJ)))) ha Tryz.results44 (.tmp rfl) ⟨_,rfl,?_⟩
   exact ⟨rfl,HS.gy 2 8 rfl rfl⟩
end
end Go.Proofs.YtbihljnjaondcaaGreatDoor
