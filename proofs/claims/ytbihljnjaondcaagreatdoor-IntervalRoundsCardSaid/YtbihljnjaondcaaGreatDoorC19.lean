/- Part of a proof, said shortly. -/
import Derived.Deep.RegionHeld3
import Derived.Deep.RegionWith
import Derived.Test.YtbihljnjaondcaaGreatDoorAlz
import Derived.Test.YtbihljnjaondcaaGreatDoorC16
import Derived.Test.YtbihljnjaondcaaGreatDoorC14
import Derived.Test.YtbihljnjaondcaaGreatDoorC13
import Derived.Test.YtbihljnjaondcaaGreatDoorC12
import Derived.Test.YtbihljnjaondcaaGreatDoorC11
import Derived.Test.YtbihljnjaondcaaGreatDoorC10
import Derived.Test.YtbihljnjaondcaaGreatDoorC6
import Derived.Test.YtbihljnjaondcaaGreatDoorC2
import Derived.Test.YtbihljnjaondcaaGreatDoorC1
import Derived.Test.YtbihljnjaondcaaGreatDoorC5
import Derived.Test.YtbihljnjaondcaaGreatDoorC4
import Derived.Test.YtbihljnjaondcaaGreatDoorC3
import Derived.Test.YtbihljnjaondcaaGreatDoorC9
import Derived.Test.YtbihljnjaondcaaGreatDoorC8
import Derived.Test.YtbihljnjaondcaaGreatDoorC7
import Derived.Test.YtbihljnjaondcaaGreatDoorC18
import Derived.Test.YtbihljnjaondcaaGreatDoorC17
namespace Go.Proofs.YtbihljnjaondcaaGreatDoor
open Go Go.RowKit Lw
section
variable {W0 w:World} {bs:List Bx} {L:List En} {ts:List Bt} {M:List Qn} {v v':Value} {x y:Int} {k k':Nat} {b b':Bool}
theorem Zj {z:Int} (HE:bG W0 w bs L ts M) (h1 : -9223372036854775808≤z) (h2:z≤9223372036854775807) :
  Calls Tryz.prog 143 #[.int .i64 z] w (uS W0 bs L ts M z 2):=(aEd HE.env.here h1 h2).mono fun _ _ hh=>HE.RH hh
theorem Tv (HE:bG W0 w bs L ts M) (h:⟨v,x,k,b⟩∈L) (hk:k≤100000) :
  Calls Tryz.prog 115 #[v] w fun e w'=>e = .returned (.int .i64 (sV x))∧bG W0 w' bs L ts M:=(aqI HE.env.here h hk).mono fun _ _ hh=>⟨hh.1,HE.step hh.2⟩
theorem ajg (HE:bG W0 w bs L ts M) (h:⟨v,x,k,b⟩∈L) (hk:k≤10000) :
  Calls Tryz.prog 167 #[v] w (uS W0 bs L ts M (-x) k):=(aqF HE.env.here h hk).mono fun _ _ hh=>HE.RH hh
theorem aqy (HE:bG W0 w bs L ts M) (h:⟨v,x,k,b⟩∈L) (h':⟨v',y,k',b'⟩∈L) (hk:k≤10000∧k'≤10000) :
  Calls Tryz.prog 97 #[v,v'] w (uS W0 bs L ts M (x+y) (k+k'+1)) :=
 (aqD HE.env.here h h' hk).mono fun _ _ ⟨A,c,e1,_,_,he⟩=>⟨_,A,_,c,e1,HE.step he⟩
theorem aef (HE:bG W0 w bs L ts M) (h:⟨v,x,k,b⟩∈L) (h':⟨v',y,k',b'⟩∈L) (hk:k≤10000∧k'≤10000) :
  Calls Tryz.prog 100 #[v,v'] w (uS W0 bs L ts M (x*y) (k+k'+1)) :=
 (aEb HE.env.here h h' hk).mono fun _ _ ⟨A,c,e1,_,_,he⟩=>⟨_,A,_,c,e1,HE.step he⟩
theorem aqC (HE:bG W0 w bs L ts M) (h:⟨v,x,k,b⟩∈L) (h':⟨v',y,k',b'⟩∈L) (hk:k≤10000∧k'≤10000) :
  Calls Tryz.prog 118 #[v,v'] w fun e w'=>e = .returned (.int .i64 (vP x y))∧bG W0 w' bs L ts M:=(aD6 HE.env.here h h' hk).mono fun _ _ hh=>⟨hh.1,HE.step hh.2⟩
theorem aje (HE:bG W0 w bs L ts M) (h:⟨v,x,k,b⟩∈L) (h':⟨v',y,k',b'⟩∈L) (hk:k+k'≤10000) :
  Calls Tryz.prog 168 #[v,v'] w (uS W0 bs L ts M ((Nat.gcd x.natAbs y.natAbs:Nat):Int) (k+k'+1)):=(aD9 HE.env.here h h' hk).mono fun _ _ hh=>HE.RH hh
theorem Vj (HE:bG W0 w bs L ts M) (h:⟨v,x,k,b⟩∈L) (h':⟨v',y,k',b'⟩∈L) (hk:k+k'≤10000) (hy:y≠0) :
  Calls Tryz.prog 99 #[v,v'] w fun e w' => ∃ (s s':Bool) (D D':Option Addr) (m d m' d':Nat),e = .returned (.tuple #[.agg #[.bool s,.slice D m d],.agg #[.bool s',.slice D' m' d'],.int .i64 0]) ∧
   bG W0 w' bs (⟨.agg #[.bool s,.slice D m d],x / y,k+1,true⟩ :: ⟨.agg #[.bool s',.slice D' m' d'],x % y,k',true⟩ :: L) ts M:=by
 have H1:=HE.env.ops _ h
 have H2:=HE.env.ops _ h'
 have hz:=aox hy H1.lt
 have hz':=aoz (x:=x) hy H2.lt
 obtain ⟨s,A,n,c,ns,B,e1,h2,h3,h4,h5,h6,e7,h8⟩:=H1
 obtain ⟨s',A',n',c',ns',B',e1',h2',h3',h4',h5',h6',vw,h8'⟩:=H2
 dsimp only at e1 e7 e1' vw h5 h5' hz hz'
 subst e1 e1' e7 vw
 refine (aDZ s s' A A' ns ns' n n' c c' B B' w h2 h2' h3 h3' h4 h4' (by omega) (by omega) h6 h6' hy).mono ?_
 rintro e w' ⟨A9,A8,c9,c8,rfl,tN,hc8,rE,EM,hb⟩
 exact ⟨_,_,A9,A8,_,c9,_,c8,rfl,((HE.next hb).push (SX EM hc8 hz')).push (SX rE tN hz)⟩
end
end Go.Proofs.YtbihljnjaondcaaGreatDoor
namespace Lw
theorem ayv {s:Bool} {ns ms:List Nat} {n m:Nat} (hn:ns.length=n) (hm:ms.length=m) (h:¬ (n=0∧m=0)) :
  fV s ns ms=((decide (0 < n)&&vB false ns)&&((decide (0 < m)&&vB false ms)&&cp ns ms)):=by
 unfold fV
 rw [hn,hm]
 by_cases h1:n=0
 ·rw [if_pos (.inl h1),decide_eq_false (by omega:¬ n=m),decide_eq_false (by omega:¬ 0 < n)]; rfl
 ·by_cases h2:m=0
  ·rw [if_pos (.inr h2),decide_eq_false (by omega:¬ n=m),decide_eq_false (by omega:¬ 0 < m)]; simp
  ·rw [if_neg (by omega),decide_eq_true (by omega:0 < n),decide_eq_true (by omega:0 < m)]; simp
theorem axE (ns ms:List Nat):(vP ((Nat.gcd (val ns) (val ms):Nat):Int) 1==0)=cp ns ms:=by
 unfold vP cp
 rcases Nat.lt_trichotomy (Nat.gcd (val ns) (val ms)) 1 with h | h | h
 ·rw [if_pos (by omega)]
  have:(Nat.gcd (val ns) (val ms)==1)=false:=by rw [beq_eq_false_iff_ne]; omega
  rw [this]; rfl
 ·rw [h]; rfl
 ·rw [if_neg (by omega),if_neg (by omega)]
  have:(Nat.gcd (val ns) (val ms)==1)=false:=by rw [beq_eq_false_iff_ne]; omega
  rw [this]; rfl
theorem atn {ns:List Nat} (h:vB false ns=true):zv false ns=(val ns:Int):=by unfold zv; rw [if_pos h]; rfl
end Lw
namespace Go.Proofs.YtbihljnjaondcaaGreatDoor
open Go Go.RowKit Lw
set_option maxRecDepth 100000 in
set_option maxHeartbeats 800000 in
theorem aq1 (A:Option Addr) (ns:List Nat) (n c B:Nat) (w:World) (h:Rd w B A ns) (hB:B≤w.heap.size) (hn:ns.length=n) (hl:n≤16777216) :
  Calls Tryz.prog 186 #[.slice A n c] w fun e w'=>e = .returned (.bool (decide (0 < n)&&vB false ns))∧w=w':=by
 have Hn:=Lib.hid hn
 clear hn
 by_cases h0:n=0
 ·subst h0
  go_enter Tryz.func186,Tryz.ntmps186
  go_wp2_with fail
  go_ret
  exact ⟨rfl,rfl⟩
 ·obtain ⟨b,off,rfl,hb,hcell,hlt⟩:=h.at_ (k:=n - 1) (by rw [Hn.out]; omega)
  have hb1:decide ((0:Int) < (n:Int))=true:=decide_eq_true (by omega)
  have hbs:b < w.heap.size:=by omega
  go_enter Tryz.func186,Tryz.ntmps186
  go_wp2_with fail
  go_ret
  refine ⟨DI ?_,rfl⟩
  rw [decide_eq_true (by omega:0 < n),Bool.true_and]
  unfold vB
  rw [if_neg (by rw [Hn.out]; exact h0),Hn.out,Bool.eq_iff_iff,bne_iff_ne,bne_iff_ne]
  exact not_congr Int.ofNat_inj
section
variable {W0 w:World} {bs:List Bx} {L:List En} {ts:List Bt} {M:List Qn} {s:Bool} {A A':Option Addr} {n c n' c' k:Nat} {q:Rat} {b:Bool}
set_option maxRecDepth 100000 in
set_option maxHeartbeats 1600000 in
theorem Y7 (HE:bG W0 w bs L ts M):Calls Tryz.prog 96 #[] w (uS W0 bs L ts M 1 2):=by
 refine Calls.mono (R:=uS w [] L [] M 1 2) ?_ fun _ _ hh=>uS.of HE hh
 replace HE:=HE.here.fF (.bool false) (.slice none 0 0)
 obtain ⟨q0,q1,q2,q3⟩:=HE.c2 (.head _)
 go_enter Tryz.func96,Tryz.ntmps96
 go_wp2_with fail
 refine (Zj HE (by omega) (by omega)).mono ?_
 clear HE
 rintro e w1 ⟨s1,A1,n1,c1,rfl,HE⟩
 clear q0 q1 q2 q3
 obtain ⟨q0,q1,q2,q3⟩:=HE.c2 (.head _)
 go_wp2_with fail
 refine bodyPost_ret (v := .agg #[.bool s1,.slice A1 n1 c1]) (by simp [results,Tryz.results96,go_sem,q0,q1]) rfl ?_
 exact ⟨_,_,_,_,rfl,HE.done2 (.head _) s1 (.slice A1 n1 c1)⟩
set_option maxRecDepth 100000 in
set_option maxHeartbeats 3200000 in
theorem aed (HE:bG W0 w bs L ts M) (h:⟨.agg #[.bool s,.slice A n c,.slice A' n' c'],q,k,b⟩∈M) (hk:k≤3000) :
  Calls Tryz.prog 130 #[.agg #[.bool s,.slice A n c,.slice A' n' c']] w fun e w'=>e = .returned (.bool b)∧bG W0 w' bs L ts M:=by
 refine Calls.mono (R:=fun e w'=>e = .returned (.bool b)∧bG w w' [] L [] M) ?_ fun _ _ hh=>⟨hh.1,HE.back hh.2⟩
 obtain ⟨s',A1,n1,c1,A2,n2,c2,ns,ms,h1,r1,r2,e2,e3,e4,e5,e6,e7,e8,e9⟩:=HE.fr _ h
 dsimp only at h1 e4 e5 e9
 injection h1 with h1
 injection h1 with h1
 simp only [List.cons.injEq,Value.bool.injEq,Value.slice.injEq,and_true] at h1
 obtain ⟨rfl,⟨rfl,rfl,rfl⟩,rfl,rfl,rfl⟩:=h1
 replace HE:=HE.here.gQ (.bool s) (.slice A n c) (.slice A' n' c')
 obtain ⟨q0,q1,q2,q3,q4,q5⟩:=HE.c3 (.head _)
 by_cases h0:n=0∧n'=0
 ·obtain ⟨h1,h2⟩:=h0
  have HV:=Lib.hid (show (!s)=b by rw [← e9]; unfold fV; rw [if_pos (.inl (by omega)),e2,e3,decide_eq_true (by omega:n=n')]; rfl)
  subst h1 h2
  clear e2 e3 e4 e5 e6 e7 e8 e9 r1 r2 h
  go_enter aZF,aZG
  go_wp2_with fail
  go_ret
  exact ⟨DI HV.out,HE.bare⟩
 ·have hp:=fun W hb=>aq1 A ns n c w.heap.size W (r1.next hb (Nat.le_refl _)) (Below.size hb) e2 (by omega)
  have hp':=fun W hb=>aq1 A' ms n' c' w.heap.size W (r2.next hb (Nat.le_refl _)) (Below.size hb) e3 (by omega)
  have hV:=ayv (s:=s) e2 e3 h0
  rw [e9] at hV
  have o1:=fun (hv:vB false ns=true) (W:World) (hb:Below w.heap.size w W)=>(show pF W ⟨.agg #[.bool false,.slice A n c],(val ns:Int),k,true⟩ from ⟨false,A,n,c,ns,w.heap.size,rfl,r1.next hb (Nat.le_refl _),hb.size,e2,e4,e6,atn hv,hv⟩)
  have o2:=fun (hv:vB false ms=true) (W:World) (hb:Below w.heap.size w W)=>(show pF W ⟨.agg #[.bool false,.slice A' n' c'],(val ms:Int),k,true⟩ from ⟨false,A',n',c',ms,w.heap.size,rfl,r2.next hb (Nat.le_refl _),hb.size,e3,e5,e7,atn hv,hv⟩)
  have HC:=Lib.hid (axE ns ms)
  have HP:=Lib.hid hp
  have WV:=Lib.hid hp'
  have HV:=Lib.hid hV
  have O1:=Lib.hid o1
  have O2:=Lib.hid o2
  have HH:Hid (n≠0∨n'≠0):=Lib.hid (by omega)
  clear hp hp' hV o1 o2 e2 e3 e4 e5 e6 e7 e8 e9 r1 r2 h h0
  cases g1:(decide (0 < n)&&vB false ns)
  ·have WW:=Lib.hid (show ∀ W,Below w.heap.size w W→Calls Tryz.prog 186 #[.slice A n c] W fun e w'=>e = .returned (.bool false)∧W=w' by have:=HP.out; rwa [g1] at this)
   have HB:=Lib.hid (show b=false by rw [HV.out,g1]; rfl)
   clear HP WV HV O1 O2 g1 HC
   by_cases h0:n=0
   ·have hm:=HH.out
    have hqm:((n':Int)==0)=false:=by rw [beq_eq_false_iff_ne]; omega
    subst h0
    clear hm
    go_enter aZF,aZG
    go_wp2_with fail
    refine (WW.out _ HE.below).mono ?_
    rintro e w1 ⟨rfl,rfl⟩
    go_wp2_with fail
    go_ret
    exact ⟨DI HB.out.symm,HE.bare⟩
   ·have PM:((n:Int)==0)=false:=by rw [beq_eq_false_iff_ne]; omega
    clear h0
    go_enter aZF,aZG
    go_wp2_with fail
    refine (WW.out _ HE.below).mono ?_
    rintro e w1 ⟨rfl,rfl⟩
    go_wp2_with fail
    go_ret
    exact ⟨DI HB.out.symm,HE.bare⟩
  ·have WW:=Lib.hid (show ∀ W,Below w.heap.size w W→Calls Tryz.prog 186 #[.slice A n c] W fun e w'=>e = .returned (.bool true)∧W=w' by have:=HP.out; rwa [g1] at this)
   have hg:=g1
   rw [Bool.and_eq_true,decide_eq_true_iff] at hg
   have PM:((n:Int)==0)=false:=by rw [beq_eq_false_iff_ne]; omega
   have O3:=Lib.hid (O1.out hg.2)
   clear O1 HP hg
   cases g2:(decide (0 < n')&&vB false ms)
   ·have HP2:=Lib.hid (show ∀ W,Below w.heap.size w W→Calls Tryz.prog 186 #[.slice A' n' c'] W fun e w'=>e = .returned (.bool false)∧W=w' by have:=WV.out; rwa [g2] at this)
    have HB:=Lib.hid (show b=false by rw [HV.out,g1,g2]; rfl)
    clear WV HV O2 O3 g1 g2 HC
    go_enter aZF,aZG
    go_wp2_with fail
    refine (WW.out _ HE.below).mono ?_
    rintro e w1 ⟨rfl,rfl⟩
    go_wp2_with fail
    refine (HP2.out _ HE.below).mono ?_
    rintro e w1 ⟨rfl,rfl⟩
    go_wp2_with fail
    go_ret
    exact ⟨DI HB.out.symm,HE.bare⟩
   ·have HP2:=Lib.hid (show ∀ W,Below w.heap.size w W→Calls Tryz.prog 186 #[.slice A' n' c'] W fun e w'=>e = .returned (.bool true)∧W=w' by have:=WV.out; rwa [g2] at this)
    have hg:=g2
    rw [Bool.and_eq_true] at hg
    have O4:=Lib.hid (O2.out hg.2)
    have HB:=Lib.hid (show b=(vP ((Nat.gcd (val ns) (val ms):Nat):Int) 1==0) by rw [HV.out,g1,g2,HC.out]; rfl)
    clear WV HV O2 g1 g2 HC hg
    go_enter aZF,aZG
    go_wp2_with fail
    refine (WW.out _ HE.below).mono ?_
    rintro e w1 ⟨rfl,rfl⟩
    go_wp2_with fail
    refine (HP2.out _ HE.below).mono ?_
    rintro e w1 ⟨rfl,rfl⟩
    replace HE:=(HE.push (O4.out _ HE.below)).push (O3.out _ HE.below)
    go_wp2_with fail
    refine (aje HE (.head _) (.tail _ (.head _)) (by omega)).mono ?_
    clear HE
    rintro e w1 ⟨sa,Aa,na,ca,rfl,HE⟩
    go_wp2_with fail
    refine (Y7 HE).mono ?_
    clear HE
    rintro e w2 ⟨sb,Ab,nb,cb,rfl,HE⟩
    go_wp2_with fail
    refine (aqC HE (.tail _ (.head _)) (.head _) (by omega)).mono ?_
    clear HE
    rintro e w3 ⟨rfl,HE⟩
    go_wp2_with fail
    go_ret
    exact ⟨DI HB.out.symm,HE.bare.pick (fun _ he => .tail _ (.tail _ (.tail _ (.tail _ he)))) (fun _ he=>he)⟩
end
end Go.Proofs.YtbihljnjaondcaaGreatDoor
namespace Go.Proofs.YtbihljnjaondcaaGreatDoor
open Go Go.RowKit Lw
section
variable {W0 w:World} {bs:List Bx} {L:List En} {ts:List Bt} {M:List Qn} {s s':Bool} {A A' B B':Option Addr} {n c n' c' m d m' d' k k':Nat} {q r:Rat} {x y:Int} {b b':Bool}
set_option maxRecDepth 100000 in
set_option maxHeartbeats 2400000 in
theorem KX (HE:bG W0 w bs L ts M) (h:⟨.agg #[.bool s,.slice A n c,.slice A' n' c'],q,k,b⟩∈M) (hk:k≤3000) :
  Calls Tryz.prog 98 #[.agg #[.bool s,.slice A n c,.slice A' n' c']] w (FM W0 bs L ts M q.num (q.den:Int) (k+2)):=by
 refine Calls.mono (R:=FM w [] L [] M q.num (q.den:Int) (k+2)) ?_ fun _ _ hh=>FM.of HE hh
 have HO:=Lib.hid (HE.here)
 have hF:=HE.fr _ h
 have hz:b=false∨n=0→q=0:=by
  intro hb
  rcases hb with rfl | hb
  ·obtain ⟨s',A1,n1,c1,A2,n2,c2,ns,ms,h1,h2,h3,h4,h5,h6,h7,h8,h9,h10,h11⟩:=hF
   dsimp only at h10 h11
   rw [← h10]; unfold qv; rw [h11]; rfl
  ·cases b
   ·obtain ⟨s',A1,n1,c1,A2,n2,c2,ns,ms,h1,h2,h3,h4,h5,h6,h7,h8,h9,h10,h11⟩:=hF
    dsimp only at h10 h11
    rw [← h10]; unfold qv; rw [h11]; rfl
   ·exact (Jm hF.own.2.1).1 hb
 have hnz:b=true→n≠0→q≠0:=by
  rintro rfl h1 h2
  exact h1 ((Jm hF.own.2.1).2 h2)
 replace HE:=((HE.here.gQ (.bool s) (.slice A n c) (.slice A' n' c')).fF (.bool false) (.slice none 0 0)).fF (.bool false) (.slice none 0 0)
 simp only [World.size_alloc] at HE
 cases b
 ·have HQ:=Lib.hid (hz (.inl rfl))
  clear hz hnz hF HO
  skip
  obtain ⟨q0,q1,q2,q3,q4,q5⟩:=HE.c3 (.head _)
  go_enter Tryz.func98,Tryz.ntmps98
  go_wp2_with fail
  refine (aed HE h hk).mono ?_
  clear HE
  rintro e w1 ⟨rfl,HE⟩
  clear q0 q1 q2 q3 q4 q5
  obtain ⟨q6,q7,q8,q9,q10,q11⟩:=HE.c3 (.head _)
  go_wp2_with fail
  refine (Y7 HE).mono ?_
  clear HE
  rintro e w2 ⟨s1,A1,n1,c1,rfl,HE⟩
  clear q6 q7 q8 q9 q10 q11
  obtain ⟨a0,a1,a2,a3⟩:=HE.c2 (.head _)
  obtain ⟨b0,b1,b2,b3⟩:=HE.c2 (.tail _ (.head _))
  go_wp2_with fail
  refine bodyPost_ret (v := .tuple #[.agg #[.bool false,.slice none 0 0],.agg #[.bool s1,.slice A1 n1 c1]]) (by simp [results,Tryz.results98,go_sem,a0,a1,b0,b1]) rfl ?_
  have H3:=(HE.zo (.tail _ (.head _)) [⟨w.heap.size+1+1,.bool false,.slice none 0 0⟩] (fun b hb=>by simp only [List.mem_cons,List.not_mem_nil,or_false] at hb; subst hb; exact ⟨(by repeat (first | exact .head _ | refine .tail _ ?_)),by dsimp only; omega⟩) false (.slice none 0 0)).done2 (.tail _ (.head _)) s1 (.slice A1 n1 c1)
  have hq:=HQ.out
  subst hq
  have h1:=H3.env.ops _ (.head _)
  exact ⟨_,_,_,_,_,_,_,_,rfl,((H3.tl.push (h1.weak (by omega))).push ⟨false,none,0,0,[],0,rfl,Rd.nil_ _ _ _,Nat.zero_le _,rfl,Nat.zero_le _,Nat.le_refl _,rfl,rfl⟩).bare⟩
 ·by_cases hn:n=0
  ·have HQ:=Lib.hid (hz (.inr hn))
   subst hn
   clear hz hnz hF HO
   skip
   obtain ⟨q0,q1,q2,q3,q4,q5⟩:=HE.c3 (.head _)
   go_enter Tryz.func98,Tryz.ntmps98
   go_wp2_with fail
   refine (aed HE h hk).mono ?_
   clear HE
   rintro e w1 ⟨rfl,HE⟩
   clear q0 q1 q2 q3 q4 q5
   obtain ⟨q6,q7,q8,q9,q10,q11⟩:=HE.c3 (.head _)
   go_wp2_with fail
   refine (Y7 HE).mono ?_
   clear HE
   rintro e w2 ⟨s1,A1,n1,c1,rfl,HE⟩
   clear q6 q7 q8 q9 q10 q11
   obtain ⟨a0,a1,a2,a3⟩:=HE.c2 (.head _)
   obtain ⟨b0,b1,b2,b3⟩:=HE.c2 (.tail _ (.head _))
   go_wp2_with fail
   refine bodyPost_ret (v := .tuple #[.agg #[.bool false,.slice none 0 0],.agg #[.bool s1,.slice A1 n1 c1]]) (by simp [results,Tryz.results98,go_sem,a0,a1,b0,b1]) rfl ?_
   have H3:=(HE.zo (.tail _ (.head _)) [⟨w.heap.size+1+1,.bool false,.slice none 0 0⟩] (fun b hb=>by simp only [List.mem_cons,List.not_mem_nil,or_false] at hb; subst hb; exact ⟨(by repeat (first | exact .head _ | refine .tail _ ?_)),by dsimp only; omega⟩) false (.slice none 0 0)).done2 (.tail _ (.head _)) s1 (.slice A1 n1 c1)
   have hq:=HQ.out
   subst hq
   have h1:=H3.env.ops _ (.head _)
   exact ⟨_,_,_,_,_,_,_,_,rfl,((H3.tl.push (h1.weak (by omega))).push ⟨false,none,0,0,[],0,rfl,Rd.nil_ _ _ _,Nat.zero_le _,rfl,Nat.zero_le _,Nat.le_refl _,rfl,rfl⟩).bare⟩
  ·have HQ:=Lib.hid (hnz rfl hn)
   have hn0:((n:Int)==0)=false:=by rw [beq_eq_false_iff_ne]; omega
   clear hz hnz hF HO hn
   obtain ⟨q0,q1,q2,q3,q4,q5⟩:=HE.c3 (.head _)
   go_enter Tryz.func98,Tryz.ntmps98
   go_wp2_with fail
   refine (aed HE h hk).mono ?_
   clear HE
   rintro e w1 ⟨rfl,HE⟩
   clear q0 q1 q2 q3 q4 q5
   obtain ⟨q6,q7,q8,q9⟩:=HE.c2 (.head _)
   obtain ⟨q10,q11,q12,q13⟩:=HE.c2 (.tail _ (.head _))
   obtain ⟨jC,jD,q16,jE,kL,kM⟩:=HE.c3 (.head _)
   go_wp2_with fail
   go_region
   go_wp2_with fail
   refine bodyPost_ret (v := .tuple #[.agg #[.bool s,.slice A n c],.agg #[.bool false,.slice A' n' c']]) (by simp [results,Tryz.results98,go_sem,q6,q7,q10,q11]) rfl ?_
   have H3:=(HE.drew.zo (.tail _ (.head _)) [⟨w.heap.size+1+1,.bool false,.slice none 0 0⟩] (fun b hb=>by simp only [List.mem_cons,List.not_mem_nil,or_false] at hb; subst hb; exact ⟨(by repeat (first | exact .head _ | refine .tail _ ?_)),by dsimp only; omega⟩) s (.slice A n c)).done2 (.tail _ (.head _)) false (.slice A' n' c')
   have H4:=H3.bare.parts h HQ.out
   exact ⟨_,_,_,_,_,_,_,_,rfl,(H4.tl.tl.push ((H4.env.ops _ (.tail _ (.head _))).weak (by omega))).push ((H4.env.ops _ (.head _)).weak (by omega))⟩
end
end Go.Proofs.YtbihljnjaondcaaGreatDoor
namespace Go.Proofs.YtbihljnjaondcaaGreatDoor
open Go Go.RowKit Lw
section
variable {W0 w:World} {bs:List Bx} {L:List En} {ts:List Bt} {M:List Qn} {s s':Bool} {A A' B B':Option Addr} {n c n' c' m d m' d' k k':Nat} {q r:Rat} {x y:Int} {b b':Bool}
theorem bG.amW {v:Value} (HE:bG W0 w bs L ts M) (h:⟨.agg #[.bool s,.slice A n c],x,k,true⟩∈L) (h':⟨.agg #[.bool s',.slice A' n' c'],y,k',true⟩∈L) (hq:q≠0) (hx:q.num=x) (hy:(q.den:Int)=y)
  (hv:v = .agg #[.bool s,.slice A n c,.slice A' n' c']):bG W0 w bs L ts (⟨v,q,k+k',true⟩ :: M):=by
 subst hv
 have h0:x≠0:=by rw [← hx]; exact fun e=>hq (Rat.num_eq_zero.1 e)
 have h1:0 < y:=by rw [← hy]; exact den_pos q
 have hg:Nat.gcd x.natAbs y.natAbs=1:=by rw [← hx,← hy,Int.natAbs_natCast]; exact q.reduced
 have h2:Rat.divInt x y=q:=by rw [← hx,← hy]; exact Rat.num_divInt_den q
 have h3:=HE.amX h h' h0 h1 hg
 rwa [h2] at h3
theorem amC {x y:Int} (hx:x≠0) (hy:y≠0):Rat.divInt x y≠0:=by
 rw [Ne,← Rat.zero_divInt y,Rat.divInt_eq_divInt_iff hy hy,Int.zero_mul]
 exact fun e=>(Int.mul_eq_zero.1 e).elim hx hy
theorem amD (x y:Int):Rat.divInt (-x) (-y)=Rat.divInt x y:=by
 by_cases hy:y=0
 ·subst hy; simp
 ·rw [Rat.divInt_eq_divInt_iff (by omega) hy,Int.neg_mul,Int.mul_neg]
set_option maxRecDepth 100000 in
set_option maxHeartbeats 4000000 in
theorem X6 (HE:bG W0 w bs L ts M) (h:⟨.agg #[.bool s,.slice A n c],x,k,b⟩∈L) (h':⟨.agg #[.bool s',.slice A' n' c'],y,k',b'⟩∈L) (hk:k+k'≤4000) (hy:y≠0) :
  Calls Tryz.prog 103 #[.agg #[.bool s,.slice A n c],.agg #[.bool s',.slice A' n' c']] w (jB W0 bs L ts M (Rat.divInt x y) (k+1+(k'+1))):=by
 refine Calls.mono (R:=(jB w [] L [] M (Rat.divInt x y) (k+1+(k'+1)))) ?_ fun _ _ hh=>jB.of HE hh
 replace HE:=((HE.here.fF (.bool s) (.slice A n c)).fF (.bool s') (.slice A' n' c')).gQ (.bool false) (.slice none 0 0) (.slice none 0 0)
 simp only [World.size_alloc] at HE
 by_cases hx:x=0
 ·have HS:=Lib.hid (show sV x=0 by unfold sV; rw [if_neg (by omega),if_pos hx])
  have HX:=Lib.hid (show Rat.divInt x y=0 by rw [hx]; exact Rat.zero_divInt _)
  clear hx hy
  obtain ⟨q0,q1,q2,q3⟩:=HE.c2 (.head _)
  obtain ⟨q4,q5,q6,q7⟩:=HE.c2 (.tail _ (.head _))
  obtain ⟨q8,q9,q10,q11,q12,q13⟩:=HE.c3 (.head _)
  go_enter Tryz.func103,Tryz.ntmps103
  go_wp2_with fail
  refine (Tv HE h (by omega)).mono ?_
  rw [HS.out]
  clear HE
  rintro e w1 ⟨rfl,HE⟩
  clear q0 q1 q2 q3 q4 q5 q6 q7 q8 q9 q10 q11 q12 q13
  obtain ⟨jC,jD,q16,jE,kL,kM⟩:=HE.c3 (.head _)
  have TF:=(HE.rD (.head _)).put (.bool false) (.slice none 0 0) (.slice none 0 0)
  go_wp2_with fail
  obtain ⟨z0,z1,z2,-,-,-⟩:=TF.cells
  refine bodyPost_ret (v := .agg #[.bool false,.slice none 0 0,.slice none 0 0]) (by simp [results,Tryz.results103,go_sem,z0,z1,z2]) rfl ?_
  rw [HX.out]
  exact ⟨_,_,_,_,_,_,_,rfl,((HE.tK (D:=none) (m:=0) (d:=0) (.head _) false (.slice none 0 0)).bare).zero _⟩
 ·by_cases h0:0 < y
  ·have hs:(sV x==0)=false:=by rw [beq_eq_false_iff_ne]; unfold sV; split; decide; first | decide | (rw [if_neg hx]; decide)
   have HS:=Lib.hid (show sV y=1 by unfold sV; rw [if_neg (by omega),if_neg (by omega)])
   obtain ⟨g,hg⟩ : ∃ g:Int,g=(Nat.gcd x.natAbs y.natAbs:Nat):=⟨_,rfl⟩
   have HR:=Lib.hid (aja h0 hg)
   have HG:=Lib.hid hg
   have HX0:=Lib.hid (amC hx hy)
   clear hg h0 hx hy
   generalize Rat.divInt x y=q at *
   obtain ⟨q0,q1,q2,q3⟩:=HE.c2 (.head _)
   obtain ⟨q4,q5,q6,q7⟩:=HE.c2 (.tail _ (.head _))
   obtain ⟨q8,q9,q10,q11,q12,q13⟩:=HE.c3 (.head _)
   go_enter Tryz.func103,Tryz.ntmps103
   go_wp2_with fail
   refine (Tv HE h (by omega)).mono ?_
   clear HE
   rintro e w1 ⟨rfl,HE⟩
   clear q0 q1 q2 q3 q4 q5 q6 q7 q8 q9 q10 q11 q12 q13
   obtain ⟨jC,jD,q16,jE⟩:=HE.c2 (.head _)
   obtain ⟨kL,kM,lH,lI⟩:=HE.c2 (.tail _ (.head _))
   obtain ⟨q22,q23,q24,mG,mX,mY⟩:=HE.c3 (.head _)
   go_wp2_with fail
   refine (Tv HE h' (by omega)).mono ?_
   rw [HS.out]
   clear HE
   rintro e w2 ⟨rfl,HE⟩
   clear hs
   clear jC jD q16 jE kL kM lH lI q22 q23 q24 mG mX mY
   obtain ⟨nV,nX,q30,nY⟩:=HE.c2 (.head _)
   obtain ⟨q32,og,pg,q35⟩:=HE.c2 (.tail _ (.head _))
   obtain ⟨vS,q37,wG,wX,wY,wZ⟩:=HE.c3 (.head _)
   go_wp2_with fail
   refine (aje HE (by repeat (first | exact .head _ | assumption | refine .tail _ ?_)) (by repeat (first | exact .head _ | assumption | refine .tail _ ?_)) (by omega)).mono ?_
   clear HE
   rintro e wg ⟨sg,Ag,ng,cg,rfl,HE⟩
   rw [← HG.out] at HE
   replace HE:=HE.fF (.bool sg) (.slice Ag ng cg)
   clear nV nX q30 nY q32 og pg q35 vS q37 wG wX wY wZ
   obtain ⟨xA,xB,yG,yH⟩:=HE.c2 (.head _)
   obtain ⟨yI,yJ,zq,zu⟩:=HE.c2 (.tail _ (.head _))
   obtain ⟨zx,zy,zA,zB⟩:=HE.c2 (.tail _ (.tail _ (.head _)))
   obtain ⟨He,Hg,Jq,Jr,Js,Jt⟩:=HE.c3 (.head _)
   go_wp2_with fail
   refine (Vj HE (by repeat (first | exact .head _ | assumption | refine .tail _ ?_)) (by repeat (first | exact .head _ | assumption | refine .tail _ ?_)) (by omega) HR.out.2.2).mono ?_
   clear HE
   rintro e wx ⟨sx,sy,Ax,Ay,lx,cx,ly,cy,rfl,HE⟩
   replace HE:=(HE.fF (.bool sx) (.slice Ax lx cx)).fF (.bool sy) (.slice Ay ly cy)
   simp only [World.size_alloc] at HE
   clear xA xB yG yH yI yJ zq zu zx zy zA zB He Hg Jq Jr Js Jt
   obtain ⟨Ju,Jw,Jy,Jz⟩:=HE.c2 (.head _)
   obtain ⟨JA,JB,JD,JE⟩:=HE.c2 (.tail _ (.head _))
   obtain ⟨JF,JG,JH,JI⟩:=HE.c2 (.tail _ (.tail _ (.head _)))
   obtain ⟨KP,KQ,KR,KT⟩:=HE.c2 (.tail _ (.tail _ (.tail _ (.head _))))
   obtain ⟨KU,KW,S9,Tc⟩:=HE.c2 (.tail _ (.tail _ (.tail _ (.tail _ (.head _)))))
   obtain ⟨Td,Tf,Ti,Tj,Tm,Tn⟩:=HE.c3 (.head _)
   go_wp2_with fail
   refine (Vj HE (by repeat (first | exact .head _ | assumption | refine .tail _ ?_)) (by repeat (first | exact .head _ | assumption | refine .tail _ ?_)) (by omega) HR.out.2.2).mono ?_
   clear HE
   rintro e wy ⟨su,sv,Au,Av,lu,cu,lv,cv,rfl,HE⟩
   replace HE:=(HE.fF (.bool su) (.slice Au lu cu)).fF (.bool sv) (.slice Av lv cv)
   simp only [World.size_alloc] at HE
   clear Ju Jw Jy Jz JA JB JD JE JF JG JH JI KP KQ KR KT KU KW S9 Tc Td Tf Ti Tj Tm Tn
   obtain ⟨U9,Va,Vb,Vd⟩:=HE.c2 (.tail _ (.head _))
   obtain ⟨Ve,Vf,Vg,Vh⟩:=HE.c2 (.tail _ (.tail _ (.tail _ (.head _))))
   obtain ⟨Y9,Za,Zb,Zc,Zd,Ze⟩:=HE.c3 (.head _)
   have TF:=(HE.rD (.head _)).put (.bool sx) (.slice Ax lx cx) (.slice Au lu cu)
   go_wp2_with fail
   obtain ⟨z0,z1,z2,-,-,-⟩:=TF.cells
   refine bodyPost_ret (v := .agg #[.bool sx,.slice Ax lx cx,.slice Au lu cu]) (by simp [results,Tryz.results103,go_sem,z0,z1,z2]) rfl ?_
   have HF:=HE.amW (v := .agg #[.bool sx,.slice Ax lx cx,.slice Au lu cu]) (s:=sx) (A:=Ax) (n:=lx) (c:=cx) (s':=su) (A':=Au) (n':=lu) (c':=cu) (by repeat (first | exact .head _ | assumption | refine .tail _ ?_)) (by repeat (first | exact .head _ | assumption | refine .tail _ ?_)) HX0.out HR.out.1 HR.out.2.1 rfl
   have HK:=(HF.tK (D:=Ax) (m:=lx) (d:=cx) (.head _) sx (.slice Au lu cu)).bare
   exact ⟨_,_,_,_,_,_,_,rfl,(HK.pick (fun e he => .tail _ (.tail _ (.tail _ (.tail _ (.tail _ (he)))))) (fun _ he=>he)).hd (·.weak (by omega))⟩
  ·have hs:(sV x==0)=false:=by rw [beq_eq_false_iff_ne]; unfold sV; split; decide; first | decide | (rw [if_neg hx]; decide)
   have HS:=Lib.hid (show sV y = -1 by unfold sV; rw [if_pos (by omega)])
   obtain ⟨g,hg⟩ : ∃ g:Int,g=(Nat.gcd (-x).natAbs (-y).natAbs:Nat):=⟨_,rfl⟩
   have HR:=Lib.hid (aja (n := -x) (d := -y) (by omega) hg)
   have HG:=Lib.hid hg
   have HX0:=Lib.hid (amC (x := -x) (y := -y) (by omega) (by omega))
   have HN:=Lib.hid (amD x y)
   clear hg h0 hx hy
   rw [← HN.out]
   clear HN
   generalize Rat.divInt (-x) (-y)=q at *
   obtain ⟨q0,q1,q2,q3⟩:=HE.c2 (.head _)
   obtain ⟨q4,q5,q6,q7⟩:=HE.c2 (.tail _ (.head _))
   obtain ⟨q8,q9,q10,q11,q12,q13⟩:=HE.c3 (.head _)
   go_enter Tryz.func103,Tryz.ntmps103
   go_wp2_with fail
   refine (Tv HE h (by omega)).mono ?_
   clear HE
   rintro e w1 ⟨rfl,HE⟩
   clear q0 q1 q2 q3 q4 q5 q6 q7 q8 q9 q10 q11 q12 q13
   obtain ⟨jC,jD,q16,jE⟩:=HE.c2 (.head _)
   obtain ⟨kL,kM,lH,lI⟩:=HE.c2 (.tail _ (.head _))
   obtain ⟨q22,q23,q24,mG,mX,mY⟩:=HE.c3 (.head _)
   go_wp2_with fail
   refine (Tv HE h' (by omega)).mono ?_
   rw [HS.out]
   clear HE
   rintro e w2 ⟨rfl,HE⟩
   clear hs
   clear jC jD q16 jE kL kM lH lI q22 q23 q24 mG mX mY
   obtain ⟨nV,nX,q30,nY⟩:=HE.c2 (.head _)
   obtain ⟨q32,og,pg,q35⟩:=HE.c2 (.tail _ (.head _))
   go_wp2_with fail
   go_region_with
    (first
     | (go_at_call 167; have _:=y8; refine (ajg (by with_reducible first | exact HE | exact HE.drew) (.tail _ h') (by omega)).mono ?_; rintro e wb ⟨sb,Ab,nb,cb,rfl,HE⟩; obtain ⟨v0,v1,v2,v3⟩:=HE.c2 (.tail _ (.head _)); obtain ⟨v4,v5,v6,v7⟩:=HE.c2 (.head _))
     | (go_at_call 167; refine (ajg (by with_reducible first | exact HE | exact HE.drew) h (by omega)).mono ?_; rintro e wa ⟨sa,Aa,na,ca,rfl,HE⟩; have y8:=HE; obtain ⟨u0,u1,u2,u3⟩:=HE.c2 (.tail _ (.head _)); obtain ⟨u4,u5,u6,u7⟩:=HE.c2 (.head _)))
   all_goals
    first | clear nV nX q30 nY q32 og pg q35 u0 u1 u2 u3 u4 u5 u6 u7 v0 v1 v2 v3 v4 v5 v6 v7 y8 | skip
    replace HE:=(HE.zo (.tail _ (.head _)) [⟨w.heap.size+1,.bool s',.slice A' n' c'⟩] (fun b hb=>by simp only [List.mem_cons,List.not_mem_nil,or_false] at hb; subst hb; exact ⟨(by repeat (first | exact .head _ | refine .tail _ ?_)),by dsimp only; omega⟩) sa (.slice Aa na ca)).zo (.tail _ (.head _)) [⟨w.heap.size,.bool sa,.slice Aa na ca⟩] (fun b hb=>by simp only [List.mem_cons,List.not_mem_nil,or_false] at hb; subst hb; exact ⟨(by repeat (first | exact .head _ | refine .tail _ ?_)),by dsimp only; omega⟩) sb (.slice Ab nb cb)
    generalize ((((wb.setCell ⟨w.heap.size,0,none⟩ (.bool sa)).setCell ⟨w.heap.size,1,none⟩ (.slice Aa na ca)).setCell ⟨w.heap.size+1,0,none⟩ (.bool sb)).setCell ⟨w.heap.size+1,1,none⟩ (.slice Ab nb cb))=W5 at *
    obtain ⟨vS,q37,wG,wX⟩:=HE.c2 (.head _)
    obtain ⟨wY,wZ,xA,xB⟩:=HE.c2 (.tail _ (.head _))
    obtain ⟨yG,yH,yI,yJ,zq,zu⟩:=HE.c3 (.head _)
    go_wp2_with fail
    refine (aje HE (by repeat (first | exact .head _ | assumption | refine .tail _ ?_)) (by repeat (first | exact .head _ | assumption | refine .tail _ ?_)) (by omega)).mono ?_
    clear HE
    rintro e wg ⟨sg,Ag,ng,cg,rfl,HE⟩
    rw [← HG.out] at HE
    replace HE:=HE.fF (.bool sg) (.slice Ag ng cg)
    clear vS q37 wG wX wY wZ xA xB yG yH yI yJ zq zu
    obtain ⟨zx,zy,zA,zB⟩:=HE.c2 (.head _)
    obtain ⟨He,Hg,Jq,Jr⟩:=HE.c2 (.tail _ (.head _))
    obtain ⟨Js,Jt,Ju,Jw⟩:=HE.c2 (.tail _ (.tail _ (.head _)))
    obtain ⟨Jy,Jz,JA,JB,JD,JE⟩:=HE.c3 (.head _)
    go_wp2_with fail
    refine (Vj HE (by repeat (first | exact .head _ | assumption | refine .tail _ ?_)) (by repeat (first | exact .head _ | assumption | refine .tail _ ?_)) (by omega) HR.out.2.2).mono ?_
    clear HE
    rintro e wx ⟨sx,sy,Ax,Ay,lx,cx,ly,cy,rfl,HE⟩
    replace HE:=(HE.fF (.bool sx) (.slice Ax lx cx)).fF (.bool sy) (.slice Ay ly cy)
    simp only [World.size_alloc] at HE
    clear zx zy zA zB He Hg Jq Jr Js Jt Ju Jw Jy Jz JA JB JD JE
    obtain ⟨JF,JG,JH,JI⟩:=HE.c2 (.head _)
    obtain ⟨KP,KQ,KR,KT⟩:=HE.c2 (.tail _ (.head _))
    obtain ⟨KU,KW,S9,Tc⟩:=HE.c2 (.tail _ (.tail _ (.head _)))
    obtain ⟨Td,Tf,Ti,Tj⟩:=HE.c2 (.tail _ (.tail _ (.tail _ (.head _))))
    obtain ⟨Tm,Tn,U9,Va⟩:=HE.c2 (.tail _ (.tail _ (.tail _ (.tail _ (.head _)))))
    obtain ⟨Vb,Vd,Ve,Vf,Vg,Vh⟩:=HE.c3 (.head _)
    go_wp2_with fail
    refine (Vj HE (by repeat (first | exact .head _ | assumption | refine .tail _ ?_)) (by repeat (first | exact .head _ | assumption | refine .tail _ ?_)) (by omega) HR.out.2.2).mono ?_
    clear HE
    rintro e wy ⟨su,sv,Au,Av,lu,cu,lv,cv,rfl,HE⟩
    replace HE:=(HE.fF (.bool su) (.slice Au lu cu)).fF (.bool sv) (.slice Av lv cv)
    simp only [World.size_alloc] at HE
    clear JF JG JH JI KP KQ KR KT KU KW S9 Tc Td Tf Ti Tj Tm Tn U9 Va Vb Vd Ve Vf Vg Vh
    obtain ⟨Y9,Za,Zb,Zc⟩:=HE.c2 (.tail _ (.head _))
    obtain ⟨Zd,Ze,adY,adZ⟩:=HE.c2 (.tail _ (.tail _ (.tail _ (.head _))))
    obtain ⟨ad1,ad2,ad3,ad4,ad5,ad6⟩:=HE.c3 (.head _)
    have TF:=(HE.rD (.head _)).put (.bool sx) (.slice Ax lx cx) (.slice Au lu cu)
    go_wp2_with fail
    obtain ⟨z0,z1,z2,-,-,-⟩:=TF.cells
    refine bodyPost_ret (v := .agg #[.bool sx,.slice Ax lx cx,.slice Au lu cu]) (by simp [results,Tryz.results103,go_sem,z0,z1,z2]) rfl ?_
    have HF:=HE.amW (v := .agg #[.bool sx,.slice Ax lx cx,.slice Au lu cu]) (s:=sx) (A:=Ax) (n:=lx) (c:=cx) (s':=su) (A':=Au) (n':=lu) (c':=cu) (by repeat (first | exact .head _ | assumption | refine .tail _ ?_)) (by repeat (first | exact .head _ | assumption | refine .tail _ ?_)) HX0.out HR.out.1 HR.out.2.1 rfl
    have HK:=(HF.tK (D:=Ax) (m:=lx) (d:=cx) (.head _) sx (.slice Au lu cu)).bare
    exact ⟨_,_,_,_,_,_,_,rfl,(HK.pick (fun e he => .tail _ (.tail _ (.tail _ (.tail _ (.tail _ (.tail _ (.tail _ (he)))))))) (fun _ he=>he)).hd (·.weak (by omega))⟩
end
end Go.Proofs.YtbihljnjaondcaaGreatDoor
namespace Go.Proofs.YtbihljnjaondcaaGreatDoor
open Go Go.RowKit Lw
section
variable {W0 w:World} {bs:List Bx} {L:List En} {ts:List Bt} {M:List Qn} {s s':Bool} {A A' B B':Option Addr} {n c n' c' m d m' d' k k':Nat} {q r:Rat} {x y:Int} {b b':Bool}
theorem aBr {q:Rat} {k:Nat} (h:q.num.natAbs < pw k∧q.den < pw (k+1)):(-q).num.natAbs < pw (k+1)∧(-q).den < pw (k+1):=by
 rw [(Zf q).1,(Zf q).2,Int.natAbs_neg]
 exact ⟨Nat.lt_of_lt_of_le h.1 (uX (by omega)),h.2⟩
theorem aBt (q:Rat) : -q=Rat.divInt (-q.num) (q.den:Int):=by
 rw [← (Zf q).1,← (Zf q).2]
 exact (Rat.num_divInt_den (-q)).symm
theorem aFq (q r:Rat):nM (q - r)=qF q r:=by
 rcases tri q r with h | h | h
 ·rw [Ut h]; exact arV (by grind)
 ·rw [al9.2 h,h,Rat.sub_eq_add_neg,aFK]
 ·rw [Us h]; exact arX (by grind)
set_option maxRecDepth 100000 in
set_option maxHeartbeats 3200000 in
theorem Qa (HE:bG W0 w bs L ts M) (h:⟨.agg #[.bool s,.slice A n c,.slice A' n' c'],q,k,b⟩∈M) (h':⟨.agg #[.bool s',.slice B m d,.slice B' m' d'],r,k',b'⟩∈M) (hk:k+k'≤1000) :
  Calls Tryz.prog 133 #[.agg #[.bool s,.slice A n c,.slice A' n' c'],.agg #[.bool s',.slice B m d,.slice B' m' d']] w (jB W0 bs L ts M (q+r) (k+k'+2)):=by
 refine Calls.mono (R:=(jB w [] L [] M (q+r) (k+k'+2))) ?_ fun _ _ hh=>jB.of HE hh
 have HP:=Lib.hid (alB (UQ HE h) (UQ HE h'))
 have HD:=Lib.hid (Int.mul_ne_zero (tJ q) (tJ r))
 replace HE:=((HE.here.gQ (.bool s) (.slice A n c) (.slice A' n' c')).gQ (.bool s') (.slice B m d) (.slice B' m' d')).gQ (.bool false) (.slice none 0 0) (.slice none 0 0)
 simp only [World.size_alloc] at HE
 obtain ⟨q0,q1,q2,q3,q4,q5⟩:=HE.c3 (.head _)
 obtain ⟨q6,q7,q8,q9,q10,q11⟩:=HE.c3 (.tail _ (.head _))
 obtain ⟨q12,q13,jC,jD,q16,jE⟩:=HE.c3 (.tail _ (.tail _ (.head _)))
 go_enter Tryz.func133,Tryz.ntmps133
 go_wp2_with fail
 refine (KX HE h (by omega)).mono ?_
 clear HE
 rintro e w1 ⟨s1,D1,m1,d1,s2,D2,m2,d2,rfl,HE⟩
 replace HE:=(HE.fF (.bool s1) (.slice D1 m1 d1)).fF (.bool s2) (.slice D2 m2 d2)
 simp only [World.size_alloc] at HE
 clear q0 q1 q2 q3 q4 q5 q6 q7 q8 q9 q10 q11 q12 q13 jC jD q16 jE
 obtain ⟨kL,kM,lH,lI⟩:=HE.c2 (.head _)
 obtain ⟨q22,q23,q24,mG⟩:=HE.c2 (.tail _ (.head _))
 obtain ⟨mX,mY,nV,nX,q30,nY⟩:=HE.c3 (.head _)
 obtain ⟨q32,og,pg,q35,vS,q37⟩:=HE.c3 (.tail _ (.head _))
 obtain ⟨wG,wX,wY,wZ,xA,xB⟩:=HE.c3 (.tail _ (.tail _ (.head _)))
 go_wp2_with fail
 refine (KX HE h' (by omega)).mono ?_
 clear HE
 rintro e w2 ⟨s3,D3,m3,d3,s4,D4,m4,d4,rfl,HE⟩
 replace HE:=(HE.fF (.bool s3) (.slice D3 m3 d3)).fF (.bool s4) (.slice D4 m4 d4)
 simp only [World.size_alloc] at HE
 clear kL kM lH lI q22 q23 q24 mG mX mY nV nX q30 nY q32 og pg q35 vS q37 wG wX wY wZ xA xB
 obtain ⟨yG,yH,yI,yJ⟩:=HE.c2 (.head _)
 obtain ⟨zq,zu,zx,zy⟩:=HE.c2 (.tail _ (.head _))
 obtain ⟨zA,zB,He,Hg⟩:=HE.c2 (.tail _ (.tail _ (.head _)))
 obtain ⟨Jq,Jr,Js,Jt⟩:=HE.c2 (.tail _ (.tail _ (.tail _ (.head _))))
 obtain ⟨Ju,Jw,Jy,Jz,JA,JB⟩:=HE.c3 (.head _)
 obtain ⟨JD,JE,JF,JG,JH,JI⟩:=HE.c3 (.tail _ (.head _))
 obtain ⟨KP,KQ,KR,KT,KU,KW⟩:=HE.c3 (.tail _ (.tail _ (.head _)))
 go_wp2_with fail
 go_region_held3 (fun w'=>w'.cell? ⟨w1.heap.size,0,none⟩=some (.bool s1)∧w'.cell? ⟨w1.heap.size,1,none⟩=some (.slice D1 m1 d1)∧w'.cell? ⟨w1.heap.size+1,0,none⟩=some (.bool s2)∧w'.cell? ⟨w1.heap.size+1,1,none⟩=some (.slice D2 m2 d2)∧w'.cell? ⟨w2.heap.size,0,none⟩=some (.bool s3)∧w'.cell? ⟨w2.heap.size,1,none⟩=some (.slice D3 m3 d3)∧w'.cell? ⟨w2.heap.size+1,0,none⟩=some (.bool s4)∧w'.cell? ⟨w2.heap.size+1,1,none⟩=some (.slice D4 m4 d4)) (first | exact ⟨(HE.c2 (.tail _ (.tail _ (.tail _ (.head _))))).1,(HE.c2 (.tail _ (.tail _ (.tail _ (.head _))))).2.1,(HE.c2 (.tail _ (.tail _ (.head _)))).1,(HE.c2 (.tail _ (.tail _ (.head _)))).2.1,(HE.c2 (.tail _ (.head _))).1,(HE.c2 (.tail _ (.head _))).2.1,(HE.c2 (.head _)).1,(HE.c2 (.head _)).2.1⟩ | exact ⟨(HE.drew.c2 (.tail _ (.tail _ (.tail _ (.head _))))).1,(HE.drew.c2 (.tail _ (.tail _ (.tail _ (.head _))))).2.1,(HE.drew.c2 (.tail _ (.tail _ (.head _)))).1,(HE.drew.c2 (.tail _ (.tail _ (.head _)))).2.1,(HE.drew.c2 (.tail _ (.head _))).1,(HE.drew.c2 (.tail _ (.head _))).2.1,(HE.drew.c2 (.head _)).1,(HE.drew.c2 (.head _)).2.1⟩ | exact ⟨(HK.c2 (.tail _ (.tail _ (.tail _ (.head _))))).1,(HK.c2 (.tail _ (.tail _ (.tail _ (.head _))))).2.1,(HK.c2 (.tail _ (.tail _ (.head _)))).1,(HK.c2 (.tail _ (.tail _ (.head _)))).2.1,(HK.c2 (.tail _ (.head _))).1,(HK.c2 (.tail _ (.head _))).2.1,(HK.c2 (.head _)).1,(HK.c2 (.head _)).2.1⟩)
  (first
   | (go_at_call 100; refine (aef (by with_reducible first | exact HE | exact HE.drew) (by repeat (first | exact .head _ | assumption | refine .tail _ ?_)) (by repeat (first | exact .head _ | assumption | refine .tail _ ?_)) (by omega)).mono ?_; rintro e wn ⟨sx,Ax,nx,cx,rfl,HE⟩)
   | (go_at_call 97; refine (aqy (by with_reducible first | exact HE | exact HE.drew) (by repeat (first | exact .head _ | assumption | refine .tail _ ?_)) (by repeat (first | exact .head _ | assumption | refine .tail _ ?_)) (by omega)).mono ?_; rintro e wn ⟨sx,Ax,nx,cx,rfl,HE⟩)
   | (go_at_call 103; refine (X6 (by with_reducible first | exact HE | exact HE.drew) (by repeat (first | exact .head _ | assumption | refine .tail _ ?_)) (by repeat (first | exact .head _ | assumption | refine .tail _ ?_)) (by omega) HD.out).mono ?_; rintro e wn ⟨sx,Ax,nx,cx,Ay,ny,cy,rfl,HE⟩; have HK:=HE.tK (D:=Ax) (m:=nx) (d:=cx) (.head _) sx (.slice Ay ny cy); obtain ⟨z0,z1,z2,z3,z4,z5⟩:=HE.c3 (.head _)))
 go_wp2_with fail
 refine bodyPost_ret (v := .agg #[.bool sx,.slice Ax nx cx,.slice Ay ny cy]) (by simp [results,Tryz.results133,go_sem,z0,z1,z2]) rfl ?_
 have HF:=HK.bare
 rw [← agU] at HF
 replace HF:=HF.hd (fun hh=>fJ.tight hh HP.out.1 HP.out.2)
 exact ⟨_,_,_,_,_,_,_,rfl,HF.pick (fun e he => .tail _ (.tail _ (.tail _ (.tail _ (.tail _ (.tail _ (.tail _ (.tail _ (he))))))))) (fun _ he=>he)⟩
set_option maxRecDepth 100000 in
set_option maxHeartbeats 2400000 in
theorem aqN (HE:bG W0 w bs L ts M) (h:⟨.agg #[.bool s,.slice A n c,.slice A' n' c'],q,k,b⟩∈M) (hk:k≤1500) :
  Calls Tryz.prog 140 #[.agg #[.bool s,.slice A n c,.slice A' n' c']] w (jB W0 bs L ts M (-q) (k+1)):=by
 refine Calls.mono (R:=(jB w [] L [] M (-q) (k+1))) ?_ fun _ _ hh=>jB.of HE hh
 have HP:=Lib.hid (aBr (UQ HE h))
 have HD:=Lib.hid (tJ q)
 have HB:=Lib.hid (HE.fr _ h)
 replace HE:=(HE.here.gQ (.bool s) (.slice A n c) (.slice A' n' c')).gQ (.bool false) (.slice none 0 0) (.slice none 0 0)
 simp only [World.size_alloc] at HE
 obtain ⟨q0,q1,q2,q3,q4,q5⟩:=HE.c3 (.head _)
 obtain ⟨q6,q7,q8,q9,q10,q11⟩:=HE.c3 (.tail _ (.head _))
 go_enter Tryz.func140,Tryz.ntmps140
 go_wp2_with fail
 refine (KX HE h (by omega)).mono ?_
 clear HE
 rintro e w1 ⟨s1,D1,m1,d1,s2,D2,m2,d2,rfl,HE⟩
 replace HE:=(HE.fF (.bool s1) (.slice D1 m1 d1)).fF (.bool s2) (.slice D2 m2 d2)
 simp only [World.size_alloc] at HE
 clear q0 q1 q2 q3 q4 q5 q6 q7 q8 q9 q10 q11
 obtain ⟨q12,q13,jC,jD⟩:=HE.c2 (.head _)
 obtain ⟨q16,jE,kL,kM⟩:=HE.c2 (.tail _ (.head _))
 obtain ⟨lH,lI,q22,q23,q24,mG⟩:=HE.c3 (.head _)
 obtain ⟨mX,mY,nV,nX,q30,nY⟩:=HE.c3 (.tail _ (.head _))
 go_wp2_with fail
 go_region_held3 (fun w'=>w'.cell? ⟨w1.heap.size,0,none⟩=some (.bool s1)∧w'.cell? ⟨w1.heap.size,1,none⟩=some (.slice D1 m1 d1)∧w'.cell? ⟨w1.heap.size+1,0,none⟩=some (.bool s2)∧w'.cell? ⟨w1.heap.size+1,1,none⟩=some (.slice D2 m2 d2)) (first | exact ⟨(HE.c2 (.tail _ (.head _))).1,(HE.c2 (.tail _ (.head _))).2.1,(HE.c2 (.head _)).1,(HE.c2 (.head _)).2.1⟩ | exact ⟨(HE.drew.c2 (.tail _ (.head _))).1,(HE.drew.c2 (.tail _ (.head _))).2.1,(HE.drew.c2 (.head _)).1,(HE.drew.c2 (.head _)).2.1⟩ | exact ⟨(HK.c2 (.tail _ (.head _))).1,(HK.c2 (.tail _ (.head _))).2.1,(HK.c2 (.head _)).1,(HK.c2 (.head _)).2.1⟩)
  (first
   | (go_at_call 167; refine (ajg (by with_reducible first | exact HE | exact HE.drew) (by repeat (first | exact .head _ | assumption | refine .tail _ ?_)) (by omega)).mono ?_; rintro e wn ⟨sx,Ax,nx,cx,rfl,HE⟩)
   | (go_at_call 103; refine (X6 (by with_reducible first | exact HE | exact HE.drew) (by repeat (first | exact .head _ | assumption | refine .tail _ ?_)) (by repeat (first | exact .head _ | assumption | refine .tail _ ?_)) (by omega) HD.out).mono ?_; rintro e wn ⟨sx,Ax,nx,cx,Ay,ny,cy,rfl,HE⟩; have HK:=HE.tK (D:=Ax) (m:=nx) (d:=cx) (.head _) sx (.slice Ay ny cy); obtain ⟨z0,z1,z2,z3,z4,z5⟩:=HE.c3 (.head _)))
 go_wp2_with fail
 refine bodyPost_ret (v := .agg #[.bool sx,.slice Ax nx cx,.slice Ay ny cy]) (by simp [results,Tryz.results140,go_sem,z0,z1,z2]) rfl ?_
 have HF:=HK.bare
 rw [← aBt] at HF
 replace HF:=HF.hd (fun hh=>fJ.tight hh HP.out.1 HP.out.2)
 exact ⟨_,_,_,_,_,_,_,rfl,HF.pick (fun e he => .tail _ (.tail _ (.tail _ (he)))) (fun _ he=>he)⟩
set_option maxRecDepth 100000 in
set_option maxHeartbeats 2400000 in
theorem aqR (HE:bG W0 w bs L ts M) (h:⟨.agg #[.bool s,.slice A n c,.slice A' n' c'],q,k,b⟩∈M) (hk:k≤1500) :
  Calls Tryz.prog 128 #[.agg #[.bool s,.slice A n c,.slice A' n' c']] w fun e w'=>e = .returned (.int .i64 (nM q))∧bG W0 w' bs L ts M:=by
 refine Calls.mono (R:=fun e w'=>e = .returned (.int .i64 (nM q))∧bG w w' [] L [] M) ?_ fun _ _ hh=>⟨hh.1,HE.back hh.2⟩
 replace HE:=HE.here.gQ (.bool s) (.slice A n c) (.slice A' n' c')
 have HS:=Lib.hid (show sV q.num=nM q from (arW q).symm)
 obtain ⟨q0,q1,q2,q3,q4,q5⟩:=HE.c3 (.head _)
 go_enter Tryz.func128,Tryz.ntmps128
 go_wp2_with fail
 refine (KX HE h (by omega)).mono ?_
 clear HE
 rintro e w1 ⟨s1,D1,m1,d1,s2,D2,m2,d2,rfl,HE⟩
 replace HE:=(HE.fF (.bool s1) (.slice D1 m1 d1)).fF (.bool s2) (.slice D2 m2 d2)
 simp only [World.size_alloc] at HE
 clear q0 q1 q2 q3 q4 q5
 obtain ⟨q6,q7,q8,q9⟩:=HE.c2 (.head _)
 obtain ⟨q10,q11,q12,q13⟩:=HE.c2 (.tail _ (.head _))
 obtain ⟨jC,jD,q16,jE,kL,kM⟩:=HE.c3 (.head _)
 go_wp2_with fail
 refine (Tv HE (.head _) (by omega)).mono ?_
 rw [HS.out]
 clear HE
 rintro e w2 ⟨rfl,HE⟩
 clear q6 q7 q8 q9 q10 q11 q12 q13 jC jD q16 jE kL kM
 go_wp2_with fail
 go_ret
 exact ⟨rfl,HE.bare.pick (fun e he => .tail _ (.tail _ (he))) (fun _ he=>he)⟩
set_option maxRecDepth 100000 in
set_option maxHeartbeats 3200000 in
theorem aqT (HE:bG W0 w bs L ts M) (h:⟨.agg #[.bool s,.slice A n c,.slice A' n' c'],q,k,b⟩∈M) (h':⟨.agg #[.bool s',.slice B m d,.slice B' m' d'],r,k',b'⟩∈M) (hk:k+k'≤900) :
  Calls Tryz.prog 131 #[.agg #[.bool s,.slice A n c,.slice A' n' c'],.agg #[.bool s',.slice B m d,.slice B' m' d']] w (jB W0 bs L ts M (q - r) (k+(k'+1)+2)):=by
 refine Calls.mono (R:=(jB w [] L [] M (q - r) (k+(k'+1)+2))) ?_ fun _ _ hh=>jB.of HE hh
 replace HE:=((HE.here.gQ (.bool s) (.slice A n c) (.slice A' n' c')).gQ (.bool s') (.slice B m d) (.slice B' m' d')).gQ (.bool false) (.slice none 0 0) (.slice none 0 0)
 simp only [World.size_alloc] at HE
 obtain ⟨q0,q1,q2,q3,q4,q5⟩:=HE.c3 (.head _)
 obtain ⟨q6,q7,q8,q9,q10,q11⟩:=HE.c3 (.tail _ (.head _))
 obtain ⟨q12,q13,jC,jD,q16,jE⟩:=HE.c3 (.tail _ (.tail _ (.head _)))
 go_enter Tryz.func131,Tryz.ntmps131
 go_wp2_with fail
 go_region_held3 (fun w'=>w'.cell? ⟨w.heap.size,0,none⟩=some (.bool s)∧w'.cell? ⟨w.heap.size,1,none⟩=some (.slice A n c)∧w'.cell? ⟨w.heap.size,2,none⟩=some (.slice A' n' c')∧w'.cell? ⟨w.heap.size+1,0,none⟩=some (.bool s')∧w'.cell? ⟨w.heap.size+1,1,none⟩=some (.slice B m d)∧w'.cell? ⟨w.heap.size+1,2,none⟩=some (.slice B' m' d')) (first | exact ⟨(HE.c3 (.tail _ (.tail _ (.head _)))).1,(HE.c3 (.tail _ (.tail _ (.head _)))).2.1,(HE.c3 (.tail _ (.tail _ (.head _)))).2.2.1,(HE.c3 (.tail _ (.head _))).1,(HE.c3 (.tail _ (.head _))).2.1,(HE.c3 (.tail _ (.head _))).2.2.1⟩ | exact ⟨(HE.drew.c3 (.tail _ (.tail _ (.head _)))).1,(HE.drew.c3 (.tail _ (.tail _ (.head _)))).2.1,(HE.drew.c3 (.tail _ (.tail _ (.head _)))).2.2.1,(HE.drew.c3 (.tail _ (.head _))).1,(HE.drew.c3 (.tail _ (.head _))).2.1,(HE.drew.c3 (.tail _ (.head _))).2.2.1⟩ | exact ⟨(HK.c3 (.tail _ (.tail _ (.head _)))).1,(HK.c3 (.tail _ (.tail _ (.head _)))).2.1,(HK.c3 (.tail _ (.tail _ (.head _)))).2.2.1,(HK.c3 (.tail _ (.head _))).1,(HK.c3 (.tail _ (.head _))).2.1,(HK.c3 (.tail _ (.head _))).2.2.1⟩)
  (first
   | (go_at_call 140; refine (aqN (by with_reducible first | exact HE | exact HE.drew) (by repeat (first | exact .head _ | assumption | refine .tail _ ?_)) (by omega)).mono ?_; rintro e wn ⟨sx,Ax,nx,cx,Ay,ny,cy,rfl,HE⟩)
   | (go_at_call 133; refine (Qa (by with_reducible first | exact HE | exact HE.drew) (by repeat (first | exact .head _ | assumption | refine .tail _ ?_)) (by repeat (first | exact .head _ | assumption | refine .tail _ ?_)) (by omega)).mono ?_; rintro e wn ⟨sx,Ax,nx,cx,Ay,ny,cy,rfl,HE⟩; have HK:=HE.G9 (s':=sx) (D:=Ax) (m:=nx) (d:=cx) (v := .slice Ay ny cy) (.head _) [⟨w.heap.size+1,.bool s',.slice B m d,.slice B' m' d'⟩,⟨w.heap.size,.bool s,.slice A n c,.slice A' n' c'⟩] (fun b hb=>by simp only [List.mem_cons,List.not_mem_nil,or_false] at hb; rcases hb with rfl | rfl <;> exact ⟨(by repeat (first | exact .head _ | assumption | refine .tail _ ?_)),by dsimp only; omega⟩); obtain ⟨z0,z1,z2,z3,z4,z5⟩:=HE.c3 (.head _)))
 go_wp2_with fail
 refine bodyPost_ret (v := .agg #[.bool sx,.slice Ax nx cx,.slice Ay ny cy]) (by simp [results,Tryz.results131,go_sem,z0,z1,z2]) rfl ?_
 have HF:=HK.bare
 rw [← Rat.sub_eq_add_neg] at HF
 exact ⟨_,_,_,_,_,_,_,rfl,HF.pick (fun e he=>he) (fun _ he=>by rcases List.mem_cons.1 he with rfl | he; exact .head _; exact .tail _ (.tail _ (he)))⟩
set_option maxRecDepth 100000 in
set_option maxHeartbeats 2400000 in
theorem Tq (HE:bG W0 w bs L ts M) (h:⟨.agg #[.bool s,.slice A n c,.slice A' n' c'],q,k,b⟩∈M) (h':⟨.agg #[.bool s',.slice B m d,.slice B' m' d'],r,k',b'⟩∈M) (hk:k+k'≤900) :
  Calls Tryz.prog 122 #[.agg #[.bool s,.slice A n c,.slice A' n' c'],.agg #[.bool s',.slice B m d,.slice B' m' d']] w fun e w'=>e = .returned (.int .i64 (qF q r))∧bG W0 w' bs L ts M:=by
 refine Calls.mono (R:=fun e w'=>e = .returned (.int .i64 (qF q r))∧bG w w' [] L [] M) ?_ fun _ _ hh=>⟨hh.1,HE.back hh.2⟩
 replace HE:=(HE.here.gQ (.bool s) (.slice A n c) (.slice A' n' c')).gQ (.bool s') (.slice B m d) (.slice B' m' d')
 simp only [World.size_alloc] at HE
 have HS:=Lib.hid (show nM (q - r)=qF q r from aFq q r)
 obtain ⟨q0,q1,q2,q3,q4,q5⟩:=HE.c3 (.head _)
 obtain ⟨q6,q7,q8,q9,q10,q11⟩:=HE.c3 (.tail _ (.head _))
 go_enter Tryz.func122,Tryz.ntmps122
 go_wp2_with fail
 refine (aqT HE h h' (by omega)).mono ?_
 clear HE
 rintro e w1 ⟨sx,Ax,nx,cx,Ay,ny,cy,rfl,HE⟩
 clear q0 q1 q2 q3 q4 q5 q6 q7 q8 q9 q10 q11
 go_wp2_with fail
 refine (aqR HE (.head _) (by omega)).mono ?_
 rw [HS.out]
 clear HE
 rintro e w2 ⟨rfl,HE⟩
 go_wp2_with fail
 go_ret
 exact ⟨rfl,HE.bare.pick (fun _ he=>he) (fun e he => .tail _ he)⟩
end
end Go.Proofs.YtbihljnjaondcaaGreatDoor
