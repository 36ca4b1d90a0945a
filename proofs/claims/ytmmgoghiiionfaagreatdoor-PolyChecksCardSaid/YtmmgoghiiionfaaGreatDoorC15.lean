/- Part of a proof, said shortly. -/
import Derived.Deep.RegionHeld3
import Derived.Deep.RegionWith
import Derived.Deep.LoopGhost
import Derived.Test.YtmmgoghiiionfaaGreatDoorAlz
import Derived.Test.YtmmgoghiiionfaaGreatDoorC11
import Derived.Test.YtmmgoghiiionfaaGreatDoorC8
import Derived.Test.YtmmgoghiiionfaaGreatDoorC7
import Derived.Test.YtmmgoghiiionfaaGreatDoorC4
import Derived.Test.YtmmgoghiiionfaaGreatDoorC2
import Derived.Test.YtmmgoghiiionfaaGreatDoorC1
import Derived.Test.YtmmgoghiiionfaaGreatDoorC3
import Derived.Test.YtmmgoghiiionfaaGreatDoorC6
import Derived.Test.YtmmgoghiiionfaaGreatDoorC5
import Derived.Test.YtmmgoghiiionfaaGreatDoorC14
import Derived.Test.YtmmgoghiiionfaaGreatDoorC12
import Derived.Test.YtmmgoghiiionfaaGreatDoorC13
import Derived.Test.YtmmgoghiiionfaaGreatDoorC9
set_option linter.unusedVariables false
set_option linter.unusedSimpArgs false
namespace Go.Proofs.AZQ
open Go Go.RowKit Lw
section
variable {W0 w:World} {bs:List Bx} {L:List En} {ts:List Bt} {M:List Qn} {v v':Value} {x y:Int} {k k':Nat} {b b':Bool}
theorem acr{z:Int}(HE:bu W0 w bs L ts M)(h1 : -9223372036854775808<=z)(h2:z<=9223372036854775807) :
  Calls Tryz.prog 120 #[.int .i64 z] w (jo W0 bs L ts M z 2):=(ab3 HE.env.here h1 h2).mono fun _ _ hh=>HE.zH hh
theorem uN(HE:bu W0 w bs L ts M)(h:⟨v,x,k,b⟩∈L)(hk:k<=100000) :
  Calls Tryz.prog 134 #[v] w fun e w'=>e = .returned (.int .i64 (fG x))/\bu W0 w' bs L ts M:=(Q5 HE.env.here h hk).mono fun _ _ hh=>⟨hh.1,HE.step hh.2⟩
theorem Rh(HE:bu W0 w bs L ts M)(h:⟨v,x,k,b⟩∈L)(hk:k<=10000) :
  Calls Tryz.prog 178 #[v] w (jo W0 bs L ts M (-x) k):=(QY HE.env.here h hk).mono fun _ _ hh=>HE.zH hh
theorem abz(HE:bu W0 w bs L ts M)(h:⟨v,x,k,b⟩∈L)(h':⟨v',y,k',b'⟩∈L)(hk:k<=10000/\k'<=10000) :
  Calls Tryz.prog 141 #[v,v'] w (jo W0 bs L ts M (x+y) (k+k'+1)) :=
 (QX HE.env.here h h' hk).mono fun _ _ ⟨A,c,e1,_,_,he⟩=>⟨_,A,_,c,e1,HE.step he⟩
theorem acp(HE:bu W0 w bs L ts M)(h:⟨v,x,k,b⟩∈L)(h':⟨v',y,k',b'⟩∈L)(hk:k<=10000/\k'<=10000) :
  Calls Tryz.prog 142 #[v,v'] w (jo W0 bs L ts M (x*y) (k+k'+1)) :=
 (ab1 HE.env.here h h' hk).mono fun _ _ ⟨A,c,e1,_,_,he⟩=>⟨_,A,_,c,e1,HE.step he⟩
theorem QS(HE:bu W0 w bs L ts M)(h:⟨v,x,k,b⟩∈L)(h':⟨v',y,k',b'⟩∈L)(hk:k<=10000/\k'<=10000) :
  Calls Tryz.prog 135 #[v,v'] w fun e w'=>e = .returned (.int .i64 (kT x y))/\bu W0 w' bs L ts M:=(abV HE.env.here h h' hk).mono fun _ _ hh=>⟨hh.1,HE.step hh.2⟩
theorem Ir(HE:bu W0 w bs L ts M)(h:⟨v,x,k,b⟩∈L)(h':⟨v',y,k',b'⟩∈L)(hk:k+k'<=10000) :
  Calls Tryz.prog 139 #[v,v'] w (jo W0 bs L ts M ((Nat.gcd x.natAbs y.natAbs:Nat):Int) (k+k'+1)):=(abY HE.env.here h h' hk).mono fun _ _ hh=>HE.zH hh
theorem Ce(HE:bu W0 w bs L ts M)(h:⟨v,x,k,b⟩∈L)(h':⟨v',y,k',b'⟩∈L)(hk:k+k'<=10000)(hy:y≠0) :
  Calls Tryz.prog 185 #[v,v'] w fun e w' => ∃ (s s':Bool) (D D':Option Addr) (m d m' d':Nat),e = .returned (.tuple #[.agg #[.bool s,.slice D m d],.agg #[.bool s',.slice D' m' d'],.int .i64 0]) /\
   bu W0 w' bs (⟨.agg #[.bool s,.slice D m d],x/y,k+1,true⟩::⟨.agg #[.bool s',.slice D' m' d'],x%y,k',true⟩::L) ts M:=by
 have H1:=HE.env.ops _ h;have H2:=HE.env.ops _ h';have hz:=Z7 hy H1.lt;have hz':=Z8 (x:=x) hy H2.lt;obtain ⟨s,A,n,c,ns,B,e1,h2,h3,h4,h5,h6,e7,h8⟩:=H1;obtain ⟨s',A',n',c',ns',B',e1',h2',h3',h4',h5',h6',gV,h8'⟩:=H2;dsimp only at e1 e7 e1' gV h5 h5' hz hz';subst e1 e1' e7 gV;refine (abN s s' A A' ns ns' n n' c c' B B' w h2 h2' h3 h3' h4 h4' af af h6 h6' hy).mono ?_;rintro e w' ⟨A9,A8,c9,c8,rfl,dM,hc8,dG,mD,hb⟩;exact ⟨_,_,A9,A8,_,c9,_,c8,rfl,((HE.next hb).push (Qc mD hc8 hz')).push (Qc dG dM hz)⟩
end
end Go.Proofs.AZQ
namespace Lw
theorem XN{s:Bool}{ns ms:List Nat}{n m:Nat}(hn:ns.length=n)(hm:ms.length=m)(h:¬ (n=0/\m=0)) :
  fV s ns ms=((decide (0<n)&&vB false ns)&&((decide (0<m)&&vB false ms)&&cp ns ms)):=by
 unfold fV;rw [hn,hm]
 by_cases h1:n=0
 ·rw [if_pos (.inl h1),decide_eq_false (by omega:¬ n=m),decide_eq_false (by omega:¬ 0<n)];rfl
 ·by_cases h2:m=0
  ·rw [if_pos (.inr h2),decide_eq_false (by omega:¬ n=m),decide_eq_false (by omega:¬ 0<m)];simp
  ·rw [if_neg af,decide_eq_true (by omega:0<n),decide_eq_true (by omega:0<m)];simp
theorem WE(ns ms:List Nat):(kT ((Nat.gcd (val ns) (val ms):Nat):Int) 1==0)=cp ns ms:=by
 unfold kT cp;grind
theorem TW{ns:List Nat}(h:vB false ns=true):zv false ns=(val ns:Int):=by unfold zv;rw [if_pos h];rfl
end Lw
namespace Go.Proofs.AZQ
open Go Go.RowKit Lw
set_option maxRecDepth 100000 in
set_option maxHeartbeats 800000 in
theorem Rk(A:Option Addr)(ns:List Nat)(n c B:Nat)(w:World)(h:Rd w B A ns)(_hB:B<=w.heap.size)(hn:ns.length=n)(hl:n<=16777216) :
  Calls Tryz.prog 138 #[.slice A n c] w fun e w'=>e = .returned (.bool (decide (0<n)&&vB false ns))/\w=w':=by
 have Hn:=Lib.hid hn;clear hn
 by_cases h0:n=0
 ·subst h0
  go_enter Tryz.func138,Tryz.ntmps138
  go_wp2_with fail
  go_ret
  exact ⟨rfl,rfl⟩
 ·obtain ⟨b,off,rfl,hb,hcell,hlt⟩:=h.at_ (k:=n-1) (by rw [Hn.out];omega)
  go_enter Tryz.func138,Tryz.ntmps138
  go_wp2_with fail
  go_ret
  refine ⟨iW ?_,rfl⟩;rw [decide_eq_true (by omega:0<n),Bool.true_and];unfold vB;rw [if_neg (by rw [Hn.out];exact h0),Hn.out,Bool.eq_iff_iff,bne_iff_ne,bne_iff_ne];exact not_congr aiX
section
variable {W0 w:World} {bs:List Bx} {L:List En} {ts:List Bt} {M:List Qn} {s:Bool} {A A':Option Addr} {n c n' c' k:Nat} {q:Rat} {b:Bool}
set_option maxRecDepth 100000 in
set_option maxHeartbeats 1600000 in
theorem AQ(HE:bu W0 w bs L ts M):Calls Tryz.prog 121 #[] w (jo W0 bs L ts M 1 2):=by
 refine Calls.mono (R:=jo w [] L [] M 1 2) ?_ fun _ _ hh=>jo.of HE hh;replace HE:=HE.here.dR (.bool false) (.slice none 0 0)
 go_enter Tryz.func121,Tryz.ntmps121
 go_wp2_with fail
 refine (acr HE af af).mono ?_;rintro e w1 ⟨s1,A1,n1,c1,rfl,HE⟩;obtain ⟨q0,q1,q2,q3⟩:=HE.c2 ak
 go_wp2_with fail
 refine bodyPost_ret (v := .agg #[.bool s1,.slice A1 n1 c1]) (by simp [results,Tryz.results121,go_sem,q0,q1]) rfl ?_;exact ⟨_,_,_,_,rfl,HE.done2 ak s1 (.slice A1 n1 c1)⟩
set_option maxRecDepth 100000 in
set_option maxHeartbeats 3200000 in
theorem CB(HE:bu W0 w bs L ts M)(h:⟨.agg #[.bool s,.slice A n c,.slice A' n' c'],q,k,b⟩∈M)(hk:k<=3000) :
  Calls Tryz.prog 69 #[.agg #[.bool s,.slice A n c,.slice A' n' c']] w fun e w'=>e = .returned (.bool b)/\bu W0 w' bs L ts M:=by
 refine Calls.mono (R:=fun e w'=>e = .returned (.bool b)/\bu w w' [] L [] M) ?_ fun _ _ hh=>⟨hh.1,HE.back hh.2⟩;obtain ⟨s',A1,n1,c1,A2,n2,c2,ns,ms,h1,r1,r2,e2,e3,e4,e5,e6,e7,e8,e9⟩:=HE.fr _ h;dsimp only at h1 e4 e5 e9
 injection h1 with h1
 injection h1 with h1;simp only [List.cons.injEq,Value.bool.injEq,Value.slice.injEq,and_true] at h1;obtain ⟨rfl,⟨rfl,rfl,rfl⟩,rfl,rfl,rfl⟩:=h1;replace HE:=HE.here.jc (.bool s) (.slice A n c) (.slice A' n' c');obtain ⟨q0,q1,q2,q3,q4,q5⟩:=HE.c3 ak
 by_cases h0:n=0/\n'=0
 ·obtain ⟨h1,h2⟩:=h0
  have HV:=Lib.hid (show (!s)=b by rw [<- e9];unfold fV;rw [if_pos (.inl af),e2,e3,decide_eq_true (by omega:n=n')];rfl);subst h1 h2;clear e2 e3 e4 e5 e6 e7 e8 e9 r1 r2 h
  go_enter agW,agX
  go_wp2_with fail
  go_ret
  exact ⟨iW HV.out,HE.bare⟩
 ·have hp:=fun W hb=>Rk A ns n c w.heap.size W (r1.next hb (ahj _)) (Below.size hb) e2 af
  have hp':=fun W hb=>Rk A' ms n' c' w.heap.size W (r2.next hb (ahj _)) (Below.size hb) e3 af;have hV:=XN (s:=s) e2 e3 h0;rw [e9] at hV;have o1:=fun (hv:vB false ns=true) (W:World) (hb:Below w.heap.size w W)=>(show cZ W ⟨.agg #[.bool false,.slice A n c],(val ns:Int),k,true⟩ from ⟨false,A,n,c,ns,w.heap.size,rfl,r1.next hb (ahj _),hb.size,e2,e4,e6,TW hv,hv⟩);have o2:=fun (hv:vB false ms=true) (W:World) (hb:Below w.heap.size w W)=>(show cZ W ⟨.agg #[.bool false,.slice A' n' c'],(val ms:Int),k,true⟩ from ⟨false,A',n',c',ms,w.heap.size,rfl,r2.next hb (ahj _),hb.size,e3,e5,e7,TW hv,hv⟩);have HC:=Lib.hid (WE ns ms);have HP:=Lib.hid hp;have vV:=Lib.hid hp';have HV:=Lib.hid hV;have O1:=Lib.hid o1;have O2:=Lib.hid o2;have HH:Hid (n≠0\/n'≠0):=Lib.hid af;clear hp hp' hV o1 o2 e2 e3 e4 e5 e6 e7 e8 e9 r1 r2 h h0
  cases g1:(decide (0<n)&&vB false ns)
  ·have vW:=Lib.hid (show ∀ W,Below w.heap.size w W->Calls Tryz.prog 138 #[.slice A n c] W fun e w'=>e = .returned (.bool false)/\W=w' by have:=HP.out;rwa [g1] at this)
   have HB:=Lib.hid (show b=false by rw [HV.out,g1];rfl);clear HP vV HV O1 O2 g1 HC
   by_cases h0:n=0
   ·have hm:=HH.out
    have hqm:((n':Int)==0)=false:=by rw [beq_eq_false_iff_ne];omega
    subst h0;clear hm
    go_enter agW,agX
    go_wp2_with fail
    refine (vW.out _ HE.below).mono ?_;rintro e w1 ⟨rfl,rfl⟩
    go_wp2_with fail
    go_ret
    exact ⟨iW HB.out.symm,HE.bare⟩
   ·have pF:((n:Int)==0)=false:=by rw [beq_eq_false_iff_ne];omega
    clear h0
    go_enter agW,agX
    go_wp2_with fail
    refine (vW.out _ HE.below).mono ?_;rintro e w1 ⟨rfl,rfl⟩
    go_wp2_with fail
    go_ret
    exact ⟨iW HB.out.symm,HE.bare⟩
  ·have vW:=Lib.hid (show ∀ W,Below w.heap.size w W->Calls Tryz.prog 138 #[.slice A n c] W fun e w'=>e = .returned (.bool true)/\W=w' by have:=HP.out;rwa [g1] at this)
   have hg:=g1;rw [Bool.and_eq_true,decide_eq_true_iff] at hg;have pF:((n:Int)==0)=false:=by rw [beq_eq_false_iff_ne];omega
   have O3:=Lib.hid (O1.out hg.2);clear O1 HP hg
   cases g2:(decide (0<n')&&vB false ms)
   ·have HP2:=Lib.hid (show ∀ W,Below w.heap.size w W->Calls Tryz.prog 138 #[.slice A' n' c'] W fun e w'=>e = .returned (.bool false)/\W=w' by have:=vV.out;rwa [g2] at this)
    have HB:=Lib.hid (show b=false by rw [HV.out,g1,g2];rfl);clear vV HV O2 O3 g1 g2 HC
    go_enter agW,agX
    go_wp2_with fail
    refine (vW.out _ HE.below).mono ?_;rintro e w1 ⟨rfl,rfl⟩
    go_wp2_with fail
    refine (HP2.out _ HE.below).mono ?_;rintro e w1 ⟨rfl,rfl⟩
    go_wp2_with fail
    go_ret
    exact ⟨iW HB.out.symm,HE.bare⟩
   ·have HP2:=Lib.hid (show ∀ W,Below w.heap.size w W->Calls Tryz.prog 138 #[.slice A' n' c'] W fun e w'=>e = .returned (.bool true)/\W=w' by have:=vV.out;rwa [g2] at this)
    have hg:=g2;rw [Bool.and_eq_true] at hg;have O4:=Lib.hid (O2.out hg.2);have HB:=Lib.hid (show b=(kT ((Nat.gcd (val ns) (val ms):Nat):Int) 1==0) by rw [HV.out,g1,g2,HC.out];rfl);clear vV HV O2 g1 g2 HC hg
    go_enter agW,agX
    go_wp2_with fail
    refine (vW.out _ HE.below).mono ?_;rintro e w1 ⟨rfl,rfl⟩
    go_wp2_with fail
    refine (HP2.out _ HE.below).mono ?_;rintro e w1 ⟨rfl,rfl⟩;replace HE:=(HE.push (O4.out _ HE.below)).push (O3.out _ HE.below)
    go_wp2_with fail
    refine (Ir HE ak au af).mono ?_;clear HE;rintro e w1 ⟨sa,Aa,na,ca,rfl,HE⟩
    go_wp2_with fail
    refine (AQ HE).mono ?_;clear HE;rintro e w2 ⟨sb,Ab,nb,cb,rfl,HE⟩
    go_wp2_with fail
    refine (QS HE au ak af).mono ?_;clear HE;rintro e w3 ⟨rfl,HE⟩
    go_wp2_with fail
    go_ret
    exact ⟨iW HB.out.symm,HE.bare.pick (fun _ he => .tail _ (.tail _ (.tail _ (.tail _ he)))) (fun _ he=>he)⟩
end
section
variable {W0 w:World} {bs:List Bx} {L:List En} {ts:List Bt} {M:List Qn} {s s':Bool} {A A' B B':Option Addr} {n c n' c' m d m' d' k k':Nat} {q r:Rat} {x y:Int} {b b':Bool}
set_option maxRecDepth 100000 in
set_option maxHeartbeats 2400000 in
theorem CG(HE:bu W0 w bs L ts M)(h:⟨.agg #[.bool s,.slice A n c,.slice A' n' c'],q,k,b⟩∈M)(hk:k<=3000) :
  Calls Tryz.prog 133 #[.agg #[.bool s,.slice A n c,.slice A' n' c']] w (lN W0 bs L ts M q.num (q.den:Int) (k+2)):=by
 refine Calls.mono (R:=lN w [] L [] M q.num (q.den:Int) (k+2)) ?_ fun _ _ hh=>lN.of HE hh;have HO:=Lib.hid (HE.here);have hF:=HE.fr _ h
 have hz:b=false\/n=0->q=0:=by
  intro hb;rcases hb with rfl | hb
  ·obtain ⟨s',A1,n1,c1,A2,n2,c2,ns,ms,h1,h2,h3,h4,h5,h6,h7,h8,h9,h10,h11⟩:=hF
   dsimp only at h10 h11;rw [<- h10];unfold qv;rw [h11];rfl
  ·cases b
   ·obtain ⟨s',A1,n1,c1,A2,n2,c2,ns,ms,h1,h2,h3,h4,h5,h6,h7,h8,h9,h10,h11⟩:=hF
    dsimp only at h10 h11;rw [<- h10];unfold qv;rw [h11];rfl
   ·exact (AA hF.own.2.1).1 hb
 have hnz:b=true->n≠0->q≠0:=by
  rintro rfl h1 h2;exact h1 ((AA hF.own.2.1).2 h2)
 replace HE:=((HE.here.jc (.bool s) (.slice A n c) (.slice A' n' c')).dR (.bool false) (.slice none 0 0)).dR (.bool false) (.slice none 0 0);simp only [World.size_alloc] at HE
 cases b
 ·have HQ:=Lib.hid (hz (.inl rfl))
  clear hz hnz hF HO;skip;obtain ⟨q0,q1,q2,q3,q4,q5⟩:=HE.c3 ak
  go_enter Tryz.func133,Tryz.ntmps133
  go_wp2_with fail
  refine (CB HE h hk).mono ?_;clear HE;rintro e w1 ⟨rfl,HE⟩;clear q0 q1 q2 q3 q4 q5;obtain ⟨q6,q7,q8,q9,q10,q11⟩:=HE.c3 ak
  go_wp2_with fail
  refine (AQ HE).mono ?_;clear HE;rintro e w2 ⟨s1,A1,n1,c1,rfl,HE⟩;clear q6 q7 q8 q9 q10 q11;obtain ⟨a0,a1,a2,a3⟩:=HE.c2 ak;obtain ⟨b0,b1,b2,b3⟩:=HE.c2 au
  go_wp2_with fail
  refine bodyPost_ret (v := .tuple #[.agg #[.bool false,.slice none 0 0],.agg #[.bool s1,.slice A1 n1 c1]]) (by simp [results,Tryz.results133,go_sem,a0,a1,b0,b1]) rfl ?_;have H3:=(HE.ji au [⟨w.heap.size+1+1,.bool false,.slice none 0 0⟩] (fun b hb=>by simp only [List.mem_cons,List.not_mem_nil,or_false] at hb;subst hb;exact ⟨(by repeat (first | exact aY | refine .tail _ ?_)),by dsimp only;omega⟩) false (.slice none 0 0)).done2 au s1 (.slice A1 n1 c1);have hq:=HQ.out;subst hq;have h1:=H3.env.ops _ ak;exact ⟨_,_,_,_,_,_,_,_,rfl,((H3.tl.push (h1.weak af)).push ⟨false,none,0,0,[],0,rfl,Rd.nil_ _ _ _,ahl _,rfl,ahl _,ahj _,rfl,rfl⟩).bare⟩
 ·by_cases hn:n=0
  ·have HQ:=Lib.hid (hz (.inr hn))
   subst hn;clear hz hnz hF HO;skip;obtain ⟨q0,q1,q2,q3,q4,q5⟩:=HE.c3 ak
   go_enter Tryz.func133,Tryz.ntmps133
   go_wp2_with fail
   refine (CB HE h hk).mono ?_;clear HE;rintro e w1 ⟨rfl,HE⟩;clear q0 q1 q2 q3 q4 q5;obtain ⟨q6,q7,q8,q9,q10,q11⟩:=HE.c3 ak
   go_wp2_with fail
   refine (AQ HE).mono ?_;clear HE;rintro e w2 ⟨s1,A1,n1,c1,rfl,HE⟩;clear q6 q7 q8 q9 q10 q11;obtain ⟨a0,a1,a2,a3⟩:=HE.c2 ak;obtain ⟨b0,b1,b2,b3⟩:=HE.c2 au
   go_wp2_with fail
   refine bodyPost_ret (v := .tuple #[.agg #[.bool false,.slice none 0 0],.agg #[.bool s1,.slice A1 n1 c1]]) (by simp [results,Tryz.results133,go_sem,a0,a1,b0,b1]) rfl ?_;have H3:=(HE.ji au [⟨w.heap.size+1+1,.bool false,.slice none 0 0⟩] (fun b hb=>by simp only [List.mem_cons,List.not_mem_nil,or_false] at hb;subst hb;exact ⟨(by repeat (first | exact aY | refine .tail _ ?_)),by dsimp only;omega⟩) false (.slice none 0 0)).done2 au s1 (.slice A1 n1 c1);have hq:=HQ.out;subst hq;have h1:=H3.env.ops _ ak;exact ⟨_,_,_,_,_,_,_,_,rfl,((H3.tl.push (h1.weak af)).push ⟨false,none,0,0,[],0,rfl,Rd.nil_ _ _ _,ahl _,rfl,ahl _,ahj _,rfl,rfl⟩).bare⟩
  ·have HQ:=Lib.hid (hnz rfl hn)
   have hn0:((n:Int)==0)=false:=by rw [beq_eq_false_iff_ne];omega
   clear hz hnz hF HO hn;obtain ⟨q0,q1,q2,q3,q4,q5⟩:=HE.c3 ak
   go_enter Tryz.func133,Tryz.ntmps133
   go_wp2_with fail
   refine (CB HE h hk).mono ?_;clear HE;rintro e w1 ⟨rfl,HE⟩;clear q0 q1 q2 q3 q4 q5;obtain ⟨q6,q7,q8,q9⟩:=HE.c2 ak;obtain ⟨q10,q11,q12,q13⟩:=HE.c2 au;obtain ⟨jK,jL,q16,jM,jO,jP⟩:=HE.c3 ak
   go_wp2_with fail
   go_region
   go_wp2_with fail
   refine bodyPost_ret (v := .tuple #[.agg #[.bool s,.slice A n c],.agg #[.bool false,.slice A' n' c']]) (by simp [results,Tryz.results133,go_sem,q6,q7,q10,q11]) rfl ?_;have H3:=(HE.drew.ji au [⟨w.heap.size+1+1,.bool false,.slice none 0 0⟩] (fun b hb=>by simp only [List.mem_cons,List.not_mem_nil,or_false] at hb;subst hb;exact ⟨(by repeat (first | exact aY | refine .tail _ ?_)),by dsimp only;omega⟩) s (.slice A n c)).done2 au false (.slice A' n' c');have H4:=H3.bare.parts h HQ.out;exact ⟨_,_,_,_,_,_,_,_,rfl,(H4.tl.tl.push ((H4.env.ops _ au).weak af)).push ((H4.env.ops _ ak).weak af)⟩
end
section
variable {W0 w:World} {bs:List Bx} {L:List En} {ts:List Bt} {M:List Qn} {s s':Bool} {A A' B B':Option Addr} {n c n' c' m d m' d' k k':Nat} {q r:Rat} {x y:Int} {b b':Bool}
theorem bu.Nb{v:Value}(HE:bu W0 w bs L ts M)(h:⟨.agg #[.bool s,.slice A n c],x,k,true⟩∈L)(h':⟨.agg #[.bool s',.slice A' n' c'],y,k',true⟩∈L)(hq:q≠0)(hx:q.num=x)(hy:(q.den:Int)=y)(hv:v = .agg #[.bool s,.slice A n c,.slice A' n' c']):bu W0 w bs L ts (⟨v,q,k+k',true⟩::M):=by
 subst hv;have h0:x≠0:=by rw [<- hx];exact fun e=>hq (ai0.1 e)
 have h1:0<y:=by rw [<- hy];exact den_pos q
 have hg:Nat.gcd x.natAbs y.natAbs=1:=by rw [<- hx,<- hy,ahx];exact q.reduced
 have h2:Rat.divInt x y=q:=by rw [<- hx,<- hy];exact Rat.num_divInt_den q
 have h3:=HE.XY h h' h0 h1 hg
 rwa [h2] at h3
theorem Mc{x y:Int}(_hx:x≠0)(hy:y≠0):Rat.divInt x y≠0:=by
 rw [Ne,<- Rat.zero_divInt y,Rat.divInt_eq_divInt_iff hy hy,aiS]
 simp_all
theorem Xf(x y:Int):Rat.divInt (-x) (-y)=Rat.divInt x y:=by
 by_cases hy:y=0
 ·simp_all
 ·rw [Rat.divInt_eq_divInt_iff af hy,ait,Int.mul_neg]
set_option maxRecDepth 100000 in
set_option maxHeartbeats 4000000 in
theorem XX(HE:bu W0 w bs L ts M)(h:⟨.agg #[.bool s,.slice A n c],x,k,b⟩∈L)(h':⟨.agg #[.bool s',.slice A' n' c'],y,k',b'⟩∈L)(hk:k+k'<=4000)(hy:y≠0) :
  Calls Tryz.prog 119 #[.agg #[.bool s,.slice A n c],.agg #[.bool s',.slice A' n' c']] w (kJ W0 bs L ts M (Rat.divInt x y) (k+1+(k'+1))):=by
 refine Calls.mono (R:=(kJ w [] L [] M (Rat.divInt x y) (k+1+(k'+1)))) ?_ fun _ _ hh=>kJ.of HE hh;replace HE:=((HE.here.dR (.bool s) (.slice A n c)).dR (.bool s') (.slice A' n' c')).jc (.bool false) (.slice none 0 0) (.slice none 0 0);simp only [World.size_alloc] at HE
 by_cases hx:x=0
 ·have HS:=Lib.hid (show fG x=0 by unfold fG;rw [if_neg af,if_pos hx])
  have HX:=Lib.hid (show Rat.divInt x y=0 by rw [hx];exact Rat.zero_divInt _);clear hx hy;obtain ⟨q0,q1,q2,q3⟩:=HE.c2 ak;obtain ⟨q4,q5,q6,q7⟩:=HE.c2 au;obtain ⟨q8,q9,q10,q11,q12,q13⟩:=HE.c3 ak
  go_enter Tryz.func119,Tryz.ntmps119
  go_wp2_with fail
  refine (uN HE h af).mono ?_;rw [HS.out];clear HE;rintro e w1 ⟨rfl,HE⟩;clear q0 q1 q2 q3 q4 q5 q6 q7 q8 q9 q10 q11 q12 q13;obtain ⟨jK,jL,q16,jM,jO,jP⟩:=HE.c3 ak;have TF:=(HE.I8 ak).put (.bool false) (.slice none 0 0) (.slice none 0 0)
  go_wp2_with fail
  obtain ⟨z0,z1,z2,-,-,-⟩:=TF.cells;refine bodyPost_ret (v := .agg #[.bool false,.slice none 0 0,.slice none 0 0]) (by simp [results,Tryz.results119,go_sem,z0,z1,z2]) rfl ?_;rw [HX.out];exact ⟨_,_,_,_,_,_,_,rfl,((HE.zg (D:=none) (m:=0) (d:=0) ak false (.slice none 0 0)).bare).zero _⟩
 ·by_cases h0:0<y
  ·have hs:(fG x==0)=false:=by rw [beq_eq_false_iff_ne];unfold fG;split;decide;first | decide | (rw [if_neg hx];decide)
   have HS:=Lib.hid (show fG y=1 by unfold fG;rw [if_neg af,if_neg af]);obtain ⟨g,hg⟩ : ∃ g:Int,g=(Nat.gcd x.natAbs y.natAbs:Nat):=⟨_,rfl⟩;have HR:=Lib.hid (QW h0 hg);have HG:=Lib.hid hg;have HX0:=Lib.hid (Mc hx hy);clear hg h0 hx hy;generalize Rat.divInt x y=q at *;obtain ⟨q0,q1,q2,q3⟩:=HE.c2 ak;obtain ⟨q4,q5,q6,q7⟩:=HE.c2 au;obtain ⟨q8,q9,q10,q11,q12,q13⟩:=HE.c3 ak
   go_enter Tryz.func119,Tryz.ntmps119
   go_wp2_with fail
   refine (uN HE h af).mono ?_;clear HE;rintro e w1 ⟨rfl,HE⟩;clear q0 q1 q2 q3 q4 q5 q6 q7 q8 q9 q10 q11 q12 q13;obtain ⟨jK,jL,q16,jM⟩:=HE.c2 ak;obtain ⟨jO,jP,pV,pW⟩:=HE.c2 au;obtain ⟨q22,q23,q24,pX,pY,qf⟩:=HE.c3 ak
   go_wp2_with fail
   refine (uN HE h' af).mono ?_;rw [HS.out];clear HE;rintro e w2 ⟨rfl,HE⟩;clear hs;clear jK jL q16 jM jO jP pV pW q22 q23 q24 pX pY qf;obtain ⟨qg,qh,q30,qi⟩:=HE.c2 ak;obtain ⟨q32,qj,xQ,q35⟩:=HE.c2 au;obtain ⟨xR,q37,xU,xW,xX,xY⟩:=HE.c3 ak
   go_wp2_with fail
   refine (Ir HE (by repeat (first | exact aY | assumption | refine .tail _ ?_)) (by repeat (first | exact aY | assumption | refine .tail _ ?_)) af).mono ?_;clear HE;rintro e wg ⟨sg,Ag,ng,cg,rfl,HE⟩;rw [<- HG.out] at HE;replace HE:=HE.dR (.bool sg) (.slice Ag ng cg);clear qg qh q30 qi q32 qj xQ q35 xR q37 xU xW xX xY;obtain ⟨xZ,x8,A7,Ba⟩:=HE.c2 ak;obtain ⟨Bc,Be,Bf,Bg⟩:=HE.c2 au;obtain ⟨Bh,Bj,Bl,Bo⟩:=HE.c2 ax;obtain ⟨Bq,Bv,Bz,BA,BB,BC⟩:=HE.c3 ak
   go_wp2_with fail
   refine (Ce HE (by repeat (first | exact aY | assumption | refine .tail _ ?_)) (by repeat (first | exact aY | assumption | refine .tail _ ?_)) af HR.out.2.2).mono ?_;clear HE;rintro e wx ⟨sx,sy,Ax,Ay,lx,cx,ly,cy,rfl,HE⟩;replace HE:=(HE.dR (.bool sx) (.slice Ax lx cx)).dR (.bool sy) (.slice Ay ly cy);simp only [World.size_alloc] at HE;clear xZ x8 A7 Ba Bc Be Bf Bg Bh Bj Bl Bo Bq Bv Bz BA BB BC;obtain ⟨BD,BF,BG,BH⟩:=HE.c2 ak;obtain ⟨BI,BJ,BK,BL⟩:=HE.c2 au;obtain ⟨BM,BN,BO,BP⟩:=HE.c2 ax;obtain ⟨BQ,BR,BU,BV⟩:=HE.c2 ay;obtain ⟨BX,BZ,Ia,Ib⟩:=HE.c2 az;obtain ⟨Ic,Ie,Ig,Ih,Ii,Ij⟩:=HE.c3 ak
   go_wp2_with fail
   refine (Ce HE (by repeat (first | exact aY | assumption | refine .tail _ ?_)) (by repeat (first | exact aY | assumption | refine .tail _ ?_)) af HR.out.2.2).mono ?_;clear HE;rintro e wy ⟨su,sv,Au,Av,lu,cu,lv,cv,rfl,HE⟩;replace HE:=(HE.dR (.bool su) (.slice Au lu cu)).dR (.bool sv) (.slice Av lv cv);simp only [World.size_alloc] at HE;clear BD BF BG BH BI BJ BK BL BM BN BO BP BQ BR BU BV BX BZ Ia Ib Ic Ie Ig Ih Ii Ij;obtain ⟨QF,QG,QH,QI⟩:=HE.c2 au;obtain ⟨QJ,QK,QL,QM⟩:=HE.c2 ay;obtain ⟨q94,q95,q96,q97,q98,q99⟩:=HE.c3 ak;have TF:=(HE.I8 ak).put (.bool sx) (.slice Ax lx cx) (.slice Au lu cu)
   go_wp2_with fail
   obtain ⟨z0,z1,z2,-,-,-⟩:=TF.cells;refine bodyPost_ret (v := .agg #[.bool sx,.slice Ax lx cx,.slice Au lu cu]) (by simp [results,Tryz.results119,go_sem,z0,z1,z2]) rfl ?_;have HF:=HE.Nb (v := .agg #[.bool sx,.slice Ax lx cx,.slice Au lu cu]) (s:=sx) (A:=Ax) (n:=lx) (c:=cx) (s':=su) (A':=Au) (n':=lu) (c':=cu) (by repeat (first | exact aY | assumption | refine .tail _ ?_)) (by repeat (first | exact aY | assumption | refine .tail _ ?_)) HX0.out HR.out.1 HR.out.2.1 rfl;have HK:=(HF.zg (D:=Ax) (m:=lx) (d:=cx) ak sx (.slice Au lu cu)).bare;exact ⟨_,_,_,_,_,_,_,rfl,(HK.pick (fun e he => .tail _ (.tail _ (.tail _ (.tail _ (.tail _ (he)))))) (fun _ he=>he)).hd (·.weak af)⟩
  ·have hs:(fG x==0)=false:=by rw [beq_eq_false_iff_ne];unfold fG;split;decide;first | decide | (rw [if_neg hx];decide)
   have HS:=Lib.hid (show fG y = -1 by unfold fG;rw [if_pos af]);obtain ⟨g,hg⟩ : ∃ g:Int,g=(Nat.gcd (-x).natAbs (-y).natAbs:Nat):=⟨_,rfl⟩;have HR:=Lib.hid (QW (n := -x) (d := -y) af hg);have HG:=Lib.hid hg;have HX0:=Lib.hid (Mc (x := -x) (y := -y) af af);have HN:=Lib.hid (Xf x y);clear hg h0 hx hy;rw [<- HN.out];clear HN;generalize Rat.divInt (-x) (-y)=q at *;obtain ⟨q0,q1,q2,q3⟩:=HE.c2 ak;obtain ⟨q4,q5,q6,q7⟩:=HE.c2 au;obtain ⟨q8,q9,q10,q11,q12,q13⟩:=HE.c3 ak
   go_enter Tryz.func119,Tryz.ntmps119
   go_wp2_with fail
   refine (uN HE h af).mono ?_;clear HE;rintro e w1 ⟨rfl,HE⟩;clear q0 q1 q2 q3 q4 q5 q6 q7 q8 q9 q10 q11 q12 q13;obtain ⟨jK,jL,q16,jM⟩:=HE.c2 ak;obtain ⟨jO,jP,pV,pW⟩:=HE.c2 au;obtain ⟨q22,q23,q24,pX,pY,qf⟩:=HE.c3 ak
   go_wp2_with fail
   refine (uN HE h' af).mono ?_;rw [HS.out];clear HE;rintro e w2 ⟨rfl,HE⟩;clear hs;clear jK jL q16 jM jO jP pV pW q22 q23 q24 pX pY qf;obtain ⟨qg,qh,q30,qi⟩:=HE.c2 ak;obtain ⟨q32,qj,xQ,q35⟩:=HE.c2 au
   go_wp2_with fail
   go_region_with
    (first
     | (go_at_call 178;have _:=JV;refine (Rh (by with_reducible first | exact HE | exact HE.drew) (.tail _ h') af).mono ?_;rintro e wb ⟨sb,Ab,nb,cb,rfl,HE⟩;obtain ⟨v0,v1,v2,v3⟩:=HE.c2 au;obtain ⟨v4,v5,v6,v7⟩:=HE.c2 ak)
     | (go_at_call 178;refine (Rh (by with_reducible first | exact HE | exact HE.drew) h af).mono ?_;rintro e wa ⟨sa,Aa,na,ca,rfl,HE⟩;have JV:=HE;obtain ⟨u0,u1,u2,u3⟩:=HE.c2 au;obtain ⟨u4,u5,u6,u7⟩:=HE.c2 ak))
   all_goals
    first | clear qg qh q30 qi q32 qj xQ q35 u0 u1 u2 u3 u4 u5 u6 u7 v0 v1 v2 v3 v4 v5 v6 v7 JV | skip
    replace HE:=(HE.ji au [⟨w.heap.size+1,.bool s',.slice A' n' c'⟩] (fun b hb=>by simp only [List.mem_cons,List.not_mem_nil,or_false] at hb;subst hb;exact ⟨(by repeat (first | exact aY | refine .tail _ ?_)),by dsimp only;omega⟩) sa (.slice Aa na ca)).ji au [⟨w.heap.size,.bool sa,.slice Aa na ca⟩] (fun b hb=>by simp only [List.mem_cons,List.not_mem_nil,or_false] at hb;subst hb;exact ⟨(by repeat (first | exact aY | refine .tail _ ?_)),by dsimp only;omega⟩) sb (.slice Ab nb cb);generalize ((((wb.setCell ⟨w.heap.size,0,none⟩ (.bool sa)).setCell ⟨w.heap.size,1,none⟩ (.slice Aa na ca)).setCell ⟨w.heap.size+1,0,none⟩ (.bool sb)).setCell ⟨w.heap.size+1,1,none⟩ (.slice Ab nb cb))=W5 at *;obtain ⟨xR,q37,xU,xW⟩:=HE.c2 ak;obtain ⟨xX,xY,xZ,x8⟩:=HE.c2 au;obtain ⟨A7,Ba,Bc,Be,Bf,Bg⟩:=HE.c3 ak
    go_wp2_with fail
    refine (Ir HE (by repeat (first | exact aY | assumption | refine .tail _ ?_)) (by repeat (first | exact aY | assumption | refine .tail _ ?_)) af).mono ?_;clear HE;rintro e wg ⟨sg,Ag,ng,cg,rfl,HE⟩;rw [<- HG.out] at HE;replace HE:=HE.dR (.bool sg) (.slice Ag ng cg);clear xR q37 xU xW xX xY xZ x8 A7 Ba Bc Be Bf Bg;obtain ⟨Bh,Bj,Bl,Bo⟩:=HE.c2 ak;obtain ⟨Bq,Bv,Bz,BA⟩:=HE.c2 au;obtain ⟨BB,BC,BD,BF⟩:=HE.c2 ax;obtain ⟨BG,BH,BI,BJ,BK,BL⟩:=HE.c3 ak
    go_wp2_with fail
    refine (Ce HE (by repeat (first | exact aY | assumption | refine .tail _ ?_)) (by repeat (first | exact aY | assumption | refine .tail _ ?_)) af HR.out.2.2).mono ?_;clear HE;rintro e wx ⟨sx,sy,Ax,Ay,lx,cx,ly,cy,rfl,HE⟩;replace HE:=(HE.dR (.bool sx) (.slice Ax lx cx)).dR (.bool sy) (.slice Ay ly cy);simp only [World.size_alloc] at HE;clear Bh Bj Bl Bo Bq Bv Bz BA BB BC BD BF BG BH BI BJ BK BL;obtain ⟨BM,BN,BO,BP⟩:=HE.c2 ak;obtain ⟨BQ,BR,BU,BV⟩:=HE.c2 au;obtain ⟨BX,BZ,Ia,Ib⟩:=HE.c2 ax;obtain ⟨Ic,Ie,Ig,Ih⟩:=HE.c2 ay;obtain ⟨Ii,Ij,QF,QG⟩:=HE.c2 az;obtain ⟨QH,QI,QJ,QK,QL,QM⟩:=HE.c3 ak
    go_wp2_with fail
    refine (Ce HE (by repeat (first | exact aY | assumption | refine .tail _ ?_)) (by repeat (first | exact aY | assumption | refine .tail _ ?_)) af HR.out.2.2).mono ?_;clear HE;rintro e wy ⟨su,sv,Au,Av,lu,cu,lv,cv,rfl,HE⟩;replace HE:=(HE.dR (.bool su) (.slice Au lu cu)).dR (.bool sv) (.slice Av lv cv);simp only [World.size_alloc] at HE;clear BM BN BO BP BQ BR BU BV BX BZ Ia Ib Ic Ie Ig Ih Ii Ij QF QG QH QI QJ QK QL QM;obtain ⟨q94,q95,q96,q97⟩:=HE.c2 au;obtain ⟨q98,q99,afB,afC⟩:=HE.c2 ay;obtain ⟨afD,afE,afF,afG,afH,afI⟩:=HE.c3 ak;have TF:=(HE.I8 ak).put (.bool sx) (.slice Ax lx cx) (.slice Au lu cu)
    go_wp2_with fail
    obtain ⟨z0,z1,z2,-,-,-⟩:=TF.cells;refine bodyPost_ret (v := .agg #[.bool sx,.slice Ax lx cx,.slice Au lu cu]) (by simp [results,Tryz.results119,go_sem,z0,z1,z2]) rfl ?_;have HF:=HE.Nb (v := .agg #[.bool sx,.slice Ax lx cx,.slice Au lu cu]) (s:=sx) (A:=Ax) (n:=lx) (c:=cx) (s':=su) (A':=Au) (n':=lu) (c':=cu) (by repeat (first | exact aY | assumption | refine .tail _ ?_)) (by repeat (first | exact aY | assumption | refine .tail _ ?_)) HX0.out HR.out.1 HR.out.2.1 rfl;have HK:=(HF.zg (D:=Ax) (m:=lx) (d:=cx) ak sx (.slice Au lu cu)).bare;exact ⟨_,_,_,_,_,_,_,rfl,(HK.pick (fun e he => .tail _ (.tail _ (.tail _ (.tail _ (.tail _ (.tail _ (.tail _ (he)))))))) (fun _ he=>he)).hd (·.weak af)⟩
end
section
variable {W0 w:World} {bs:List Bx} {L:List En} {ts:List Bt} {M:List Qn} {s s':Bool} {A A' B B':Option Addr} {n c n' c' m d m' d' k k':Nat} {q r:Rat} {x y:Int} {b b':Bool}
set_option maxRecDepth 100000 in
set_option maxHeartbeats 3200000 in
theorem acf(HE:bu W0 w bs L ts M)(h:⟨.agg #[.bool s,.slice A n c,.slice A' n' c'],q,k,b⟩∈M)(h':⟨.agg #[.bool s',.slice B m d,.slice B' m' d'],r,k',b'⟩∈M)(hk:k+k'<=1000) :
  Calls Tryz.prog 73 #[.agg #[.bool s,.slice A n c,.slice A' n' c'],.agg #[.bool s',.slice B m d,.slice B' m' d']] w (kJ W0 bs L ts M (q+r) (k+k'+2)):=by
 refine Calls.mono (R:=(kJ w [] L [] M (q+r) (k+k'+2))) ?_ fun _ _ hh=>kJ.of HE hh;have HP:=Lib.hid (Vj (GN HE h) (GN HE h'));have HD:=Lib.hid (Int.mul_ne_zero (y8 q) (y8 r));replace HE:=((HE.here.jc (.bool s) (.slice A n c) (.slice A' n' c')).jc (.bool s') (.slice B m d) (.slice B' m' d')).jc (.bool false) (.slice none 0 0) (.slice none 0 0);simp only [World.size_alloc] at HE;obtain ⟨q0,q1,q2,q3,q4,q5⟩:=HE.c3 ak;obtain ⟨q6,q7,q8,q9,q10,q11⟩:=HE.c3 au;obtain ⟨q12,q13,jK,jL,q16,jM⟩:=HE.c3 ax
 go_enter Tryz.func73,Tryz.ntmps73
 go_wp2_with fail
 refine (CG HE h af).mono ?_;clear HE;rintro e w1 ⟨s1,D1,m1,d1,s2,D2,m2,d2,rfl,HE⟩;replace HE:=(HE.dR (.bool s1) (.slice D1 m1 d1)).dR (.bool s2) (.slice D2 m2 d2);simp only [World.size_alloc] at HE;clear q0 q1 q2 q3 q4 q5 q6 q7 q8 q9 q10 q11 q12 q13 jK jL q16 jM;obtain ⟨jO,jP,pV,pW⟩:=HE.c2 ak;obtain ⟨q22,q23,q24,pX⟩:=HE.c2 au;obtain ⟨pY,qf,qg,qh,q30,qi⟩:=HE.c3 ak;obtain ⟨q32,qj,xQ,q35,xR,q37⟩:=HE.c3 au;obtain ⟨xU,xW,xX,xY,xZ,x8⟩:=HE.c3 ax
 go_wp2_with fail
 refine (CG HE h' af).mono ?_;clear HE;rintro e w2 ⟨s3,D3,m3,d3,s4,D4,m4,d4,rfl,HE⟩;replace HE:=(HE.dR (.bool s3) (.slice D3 m3 d3)).dR (.bool s4) (.slice D4 m4 d4);simp only [World.size_alloc] at HE;clear jO jP pV pW q22 q23 q24 pX pY qf qg qh q30 qi q32 qj xQ q35 xR q37 xU xW xX xY xZ x8;obtain ⟨A7,Ba,Bc,Be⟩:=HE.c2 ak;obtain ⟨Bf,Bg,Bh,Bj⟩:=HE.c2 au;obtain ⟨Bl,Bo,Bq,Bv⟩:=HE.c2 ax;obtain ⟨Bz,BA,BB,BC⟩:=HE.c2 ay;obtain ⟨BD,BF,BG,BH,BI,BJ⟩:=HE.c3 ak;obtain ⟨BK,BL,BM,BN,BO,BP⟩:=HE.c3 au;obtain ⟨BQ,BR,BU,BV,BX,BZ⟩:=HE.c3 ax
 go_wp2_with fail
 go_region_held3 (fun w'=>w'.cell? ⟨w1.heap.size,0,none⟩=some (.bool s1)/\w'.cell? ⟨w1.heap.size,1,none⟩=some (.slice D1 m1 d1)/\w'.cell? ⟨w1.heap.size+1,0,none⟩=some (.bool s2)/\w'.cell? ⟨w1.heap.size+1,1,none⟩=some (.slice D2 m2 d2)/\w'.cell? ⟨w2.heap.size,0,none⟩=some (.bool s3)/\w'.cell? ⟨w2.heap.size,1,none⟩=some (.slice D3 m3 d3)/\w'.cell? ⟨w2.heap.size+1,0,none⟩=some (.bool s4)/\w'.cell? ⟨w2.heap.size+1,1,none⟩=some (.slice D4 m4 d4)) (first | exact ⟨(HE.c2 ay).1,(HE.c2 ay).2.1,(HE.c2 ax).1,(HE.c2 ax).2.1,(HE.c2 au).1,(HE.c2 au).2.1,(HE.c2 ak).1,(HE.c2 ak).2.1⟩ | exact ⟨(HE.drew.c2 ay).1,(HE.drew.c2 ay).2.1,(HE.drew.c2 ax).1,(HE.drew.c2 ax).2.1,(HE.drew.c2 au).1,(HE.drew.c2 au).2.1,(HE.drew.c2 ak).1,(HE.drew.c2 ak).2.1⟩ | exact ⟨(HK.c2 ay).1,(HK.c2 ay).2.1,(HK.c2 ax).1,(HK.c2 ax).2.1,(HK.c2 au).1,(HK.c2 au).2.1,(HK.c2 ak).1,(HK.c2 ak).2.1⟩)
  (first
   | (go_at_call 142;refine (acp (by with_reducible first | exact HE | exact HE.drew) (by repeat (first | exact aY | assumption | refine .tail _ ?_)) (by repeat (first | exact aY | assumption | refine .tail _ ?_)) af).mono ?_;rintro e wn ⟨sx,Ax,nx,cx,rfl,HE⟩)
   | (go_at_call 141;refine (abz (by with_reducible first | exact HE | exact HE.drew) (by repeat (first | exact aY | assumption | refine .tail _ ?_)) (by repeat (first | exact aY | assumption | refine .tail _ ?_)) af).mono ?_;rintro e wn ⟨sx,Ax,nx,cx,rfl,HE⟩)
   | (go_at_call 119;refine (XX (by with_reducible first | exact HE | exact HE.drew) (by repeat (first | exact aY | assumption | refine .tail _ ?_)) (by repeat (first | exact aY | assumption | refine .tail _ ?_)) af HD.out).mono ?_;rintro e wn ⟨sx,Ax,nx,cx,Ay,ny,cy,rfl,HE⟩;have HK:=HE.zg (D:=Ax) (m:=nx) (d:=cx) ak sx (.slice Ay ny cy);obtain ⟨z0,z1,z2,z3,z4,z5⟩:=HE.c3 ak))
 go_wp2_with fail
 refine bodyPost_ret (v := .agg #[.bool sx,.slice Ax nx cx,.slice Ay ny cy]) (by simp [results,Tryz.results73,go_sem,z0,z1,z2]) rfl ?_;have HF:=HK.bare;rw [<- KL] at HF;replace HF:=HF.hd (fun hh=>dn.tight hh HP.out.1 HP.out.2);exact ⟨_,_,_,_,_,_,_,rfl,HF.pick (fun e he => .tail _ (.tail _ (.tail _ (.tail _ (.tail _ (.tail _ (.tail _ (.tail _ (he))))))))) (fun _ he=>he)⟩
set_option maxRecDepth 100000 in
set_option maxHeartbeats 2400000 in
theorem acj(HE:bu W0 w bs L ts M)(h:⟨.agg #[.bool s,.slice A n c,.slice A' n' c'],q,k,b⟩∈M)(hk:k<=1500) :
  Calls Tryz.prog 65 #[.agg #[.bool s,.slice A n c,.slice A' n' c']] w fun e w'=>e = .returned (.int .i64 (jl q))/\bu W0 w' bs L ts M:=by
 refine Calls.mono (R:=fun e w'=>e = .returned (.int .i64 (jl q))/\bu w w' [] L [] M) ?_ fun _ _ hh=>⟨hh.1,HE.back hh.2⟩;replace HE:=HE.here.jc (.bool s) (.slice A n c) (.slice A' n' c');have HS:=Lib.hid (show fG q.num=jl q from (ado q).symm);obtain ⟨q0,q1,q2,q3,q4,q5⟩:=HE.c3 ak
 go_enter Tryz.func65,Tryz.ntmps65
 go_wp2_with fail
 refine (CG HE h af).mono ?_;clear HE;rintro e w1 ⟨s1,D1,m1,d1,s2,D2,m2,d2,rfl,HE⟩;replace HE:=(HE.dR (.bool s1) (.slice D1 m1 d1)).dR (.bool s2) (.slice D2 m2 d2);simp only [World.size_alloc] at HE;clear q0 q1 q2 q3 q4 q5;obtain ⟨q6,q7,q8,q9⟩:=HE.c2 ak;obtain ⟨q10,q11,q12,q13⟩:=HE.c2 au;obtain ⟨jK,jL,q16,jM,jO,jP⟩:=HE.c3 ak
 go_wp2_with fail
 refine (uN HE ak af).mono ?_;rw [HS.out];clear HE;rintro e w2 ⟨rfl,HE⟩;clear q6 q7 q8 q9 q10 q11 q12 q13 jK jL q16 jM jO jP
 go_wp2_with fail
 go_ret
 exact ⟨rfl,HE.bare.pick (fun e he => .tail _ (.tail _ (he))) (fun _ he=>he)⟩
end
section
variable {W0 w:World} {bs:List Bx} {L:List En} {ts:List Bt} {M:List Qn} {v v':Value} {q r:Rat} {k k':Nat} {b b':Bool}
theorem ack(HE:bu W0 w bs L ts M)(h:⟨v,q,k,b⟩∈M)(hk:k<=900) :
  Calls Tryz.prog 65 #[v] w fun e w'=>e = .returned (.int .i64 (jl q))/\bu W0 w' bs L ts M:=by
 obtain ⟨s,A,n,c,A',n',c',e1⟩:=(HE.fr _ h).shape;dsimp only at e1;subst e1;exact acj HE h af
theorem acg(HE:bu W0 w bs L ts M)(h:⟨v,q,k,b⟩∈M)(h':⟨v',r,k',b'⟩∈M)(hk:k+k'<=800) :
  Calls Tryz.prog 73 #[v,v'] w (vU W0 bs L ts M (q+r) (k+k'+2)):=by
 obtain ⟨s,A,n,c,A',n',c',e1⟩:=(HE.fr _ h).shape;obtain ⟨t,B,m,d,B',m',d',e2⟩:=(HE.fr _ h').shape;dsimp only at e1 e2;subst e1 e2;exact (acf HE h h' af).mono fun _ _ hh=>vU.of hh
end
end Go.Proofs.AZQ
namespace Lw
open Go Go.RowKit
def kN(w:World)(g:Nat)(t:TypeId)(a b c d:Value):Prop:=w.heap[g]? = some (.cells #[a,b,c,d] t (0,0))
section
variable {w w':World} {g:Nat} {t:TypeId} {a b c d:Value}
theorem kN.lt(h:kN w g t a b c d):g<w.heap.size:=by
 rcases ahs g w.heap.size with hlt | hge
 ·exact hlt
 ·unfold kN at h;rw [aiL hge] at h;cases h
theorem kN.new(w:World)(t:TypeId)(a b c d:Value):kN (w.alloc (.cells #[a,b,c,d] t)) w.heap.size t a b c d:=heap_alloc_new w _
theorem kN.next(h:kN w g t a b c d)(hb:Below w.heap.size w w'):kN w' g t a b c d:=(hb.block g h.lt).trans h
theorem kN.cells(h:kN w g t a b c d):w.cell? ⟨g,0,none⟩=some a/\w.cell? ⟨g,1,none⟩=some b/\w.cell? ⟨g,2,none⟩=some c/\w.cell? ⟨g,3,none⟩=some d:=by
 unfold kN at h;exact ⟨by rw [cell_of_row w g 0 _ t (0,0) h];rfl,by rw [cell_of_row w g 1 _ t (0,0) h];rfl,by rw [cell_of_row w g 2 _ t (0,0) h];rfl,by rw [cell_of_row w g 3 _ t (0,0) h];rfl⟩
end
end Lw
namespace Go.Proofs.AZQ
open Go Go.RowKit Lw
def D6(W0:World)(bs:List Bx)(L:List En)(ts:List Bt)(M:List Qn)(q:Rat)(k:Nat)(er:Value)(e:Ending)(w':World):Prop :=
 ∃ (s:Bool) (A:Option Addr) (n c:Nat) (A':Option Addr) (n' c':Nat),e = .returned (.tuple #[.agg #[.bool s,.slice A n c,.slice A' n' c'],er])/\bu W0 w' bs L ts (⟨.agg #[.bool s,.slice A n c,.slice A' n' c'],q,k,true⟩::M)
section
variable {W0 w:World} {bs:List Bx} {L:List En} {ts:List Bt} {M:List Qn} {v v':Value} {q r:Rat} {x y:Int} {k k':Nat} {b b':Bool}
theorem D6.weak{k K:Nat}{er:Value}{e:Ending}(h:D6 W0 bs L ts M q k er e w)(hk:k<=K):D6 W0 bs L ts M q K er e w:=by
 obtain ⟨s,A,n,c,A',n',c',e1,he⟩:=h;exact ⟨s,A,n,c,A',n',c',e1,he.hd (·.weak hk)⟩
theorem acn(HE:bu W0 w bs L ts M)(h:⟨v,q,k,b⟩∈M)(hk:k<=3000) :
  Calls Tryz.prog 69 #[v] w fun e w'=>e = .returned (.bool b)/\bu W0 w' bs L ts M:=by
 obtain ⟨s,A,n,c,A',n',c',e1⟩:=(HE.fr _ h).shape;dsimp only at e1;subst e1;exact CB HE h hk
end
section
variable {W0 w:World} {bs:List Bx} {L:List En} {ts:List Bt} {M:List Qn} {s s':Bool} {A A' B B':Option Addr} {n c n' c' m d m' d' k k':Nat} {q r:Rat} {x y:Int} {b b':Bool}
instance (x:Int):Decidable (Sq x):=inferInstanceAs (Decidable (_/\_))
end
end Go.Proofs.AZQ
namespace Lw
open Go Go.RowKit bJ
theorem Rd.keeps{w w':World}{gs:List Nat}{A:Option Addr}{ns:List Nat}(h:Rd w w.heap.size A ns)(ha:dK gs w w'):Rd w' w'.heap.size A ns:=by
 refine ⟨h.1,fun hn => ?_⟩;obtain ⟨b,off,rfl,hb,hc⟩:=h.2 hn
 have hsame:w'.heap[b]? = w.heap[b]? := by
  refine ha.same b hb (fun hm => ?_);obtain ⟨c,t,f,h1,h2⟩:=(ha.soft b hm hb).1;have h0:=hc 0 hn;unfold World.cell? at h0;simp only [h1] at h0;have h3:=h2 (off+0) _ (by simpa using h0)
  cases h3
 refine ⟨b,off,rfl,ahr hb ha.size,fun j hj => ?_⟩;rw [<- hc j hj];exact World.cell?_of_block (w:=w) hsame
theorem dn.stable(e:Qn):Stable (fun w=>dn w e):=fun gs w w' ha h=>by
 obtain ⟨s,A,n,c,A',n',c',ns,ms,h1,h2,h3,h4⟩:=h;exact ⟨s,A,n,c,A',n',c',ns,ms,h1,h2.keeps ha,h3.keeps ha,h4⟩
theorem cZ.stable(e:En):Stable (fun w=>cZ w e):=fun gs w w' ha h=>by
 obtain ⟨s,A,n,c,ns,B,h1,h2,h3,h4⟩:=h;exact ⟨s,A,n,c,ns,w'.heap.size,h1,(h2.more h3).keeps ha,ahj _,h4⟩
def FV(v:Value)(q:Rat)(k:Nat)(b:Bool)(w:World):Prop:=dn w ⟨v,q,k,b⟩
def FI(v:Value)(z:Int)(k:Nat)(w:World):Prop:=cZ w ⟨v,z,k,true⟩
theorem FV.stable(v:Value)(q:Rat)(k:Nat)(b:Bool):Stable (FV v q k b):=dn.stable _
theorem FI.stable(v:Value)(z:Int)(k:Nat):Stable (FI v z k):=cZ.stable _
theorem FV.shape{v:Value}{q:Rat}{k:Nat}{b:Bool}{w:World}(h:FV v q k b w) : ∃ (s:Bool) (A:Option Addr) (n c:Nat) (A':Option Addr) (n' c':Nat),v=(ahf s A n c A' n' c'):=by
 obtain ⟨s,A,n,c,A',n',c',_,_,h1,_⟩:=h;grind
theorem FV.weak{v:Value}{q:Rat}{k K:Nat}{w:World}(h:FV v q k true w)(hk:k<=K):FV v q K true w:=dn.weak h hk
theorem FI.weak{v:Value}{z:Int}{k K:Nat}{w:World}(h:FI v z k w)(hk:k<=K):FI v z K w:=cZ.weak h hk
theorem FV.as{v:Value}{q r:Rat}{k K:Nat}{w:World}(h:FV v q k true w)(hq:q=r)(hk:k<=K):FV v r K true w:=hq ▸ h.weak hk
theorem FI.as{v:Value}{z y:Int}{k K:Nat}{w:World}(h:FI v z k w)(hq:z=y)(hk:k<=K):FI v y K w:=hq ▸ h.weak hk
theorem FV.zero(k:Nat)(w:World):FV aby 0 k true w :=
 ⟨false,none,0,0,none,0,0,[],[],rfl,Rd.nil_ _ _ _,Rd.nil_ _ _ _,rfl,rfl,ahl _,ahl _,ahj _,ahj _,rfl,rfl⟩
theorem FI.zero(w:World):FI (.agg #[.bool false,.slice none 0 0]) 0 0 w:=⟨false,none,0,0,[],0,rfl,Rd.nil_ _ _ _,ahl _,rfl,ahj _,ahj _,rfl,rfl⟩
section
variable (W0:World) (U:List Box) (Ps:List (World->Prop))
def dB(v:Value)(u:Value)(w:World):Prop:=u=v/\St W0 U Ps w
def DV(q:Rat)(k:Nat)(u:Value)(w:World):Prop := ∃ (s:Bool) (A:Option Addr) (n c:Nat) (B:Option Addr) (m d:Nat),u=(ahf s A n c B m d)/\St W0 U (FV (ahf s A n c B m d) q k true::Ps) w
def JK(z:Int)(k:Nat)(u:Value)(w:World):Prop := ∃ (s:Bool) (A:Option Addr) (n c:Nat),u = .agg #[.bool s,.slice A n c]/\St W0 U (FI (.agg #[.bool s,.slice A n c]) z k::Ps) w
def sH(q:Rat)(k:Nat)(er:Value)(u:Value)(w:World):Prop := ∃ (s:Bool) (A:Option Addr) (n c:Nat) (B:Option Addr) (m d:Nat),u = .tuple #[(ahf s A n c B m d),er]/\St W0 U (FV (ahf s A n c B m d) q k true::Ps) w
def JM(x y:Int)(k:Nat)(u:Value)(w:World):Prop := ∃ (s:Bool) (A:Option Addr) (n c:Nat) (s':Bool) (A':Option Addr) (n' c':Nat),u = .tuple #[.agg #[.bool s,.slice A n c],.agg #[.bool s',.slice A' n' c']]/\St W0 U (FI (.agg #[.bool s,.slice A n c]) x k::FI (.agg #[.bool s',.slice A' n' c']) y k::Ps) w
end
theorem St.init(W:World):St W [] [] W:=⟨Below.refl _ _,(fun _ h=>by cases h),(fun _ h=>by cases h),.nil,(fun _ h=>by cases h),(fun _ h=>by cases h)⟩
theorem law_true{P:Program}{f:FuncId}{vs:List Value}{W:World}(h:bP P f vs W (dB W [] [] (.bool true))):Calls P f vs.toArray W fun e w'=>e = .returned (.bool true)/\Below W.heap.size W w' :=
 Calls.mono h fun e w' hh=>by
  obtain ⟨v,rfl,rfl,hs⟩:=hh;exact ⟨rfl,hs.below⟩
end Lw
namespace Go.Proofs.AZQ
open Go Go.RowKit Lw bJ
section
variable {W0 w w':World} {U:List Box} {Ps:List (World->Prop)} {v v':Value} {q r:Rat} {x y:Int} {k k':Nat} {b b':Bool} {f:FuncId} {vs:List Value} {L:List En} {M:List Qn}
section
variable {b1 s1 s2:Bool} {c1 c2 d1 k1 k2 m1 n1 n2:Nat} {A1 A2 B1:Option Addr} {q1:Rat}
theorem St.start(HS:St W0 U Ps w)(ht:Tz W0)(hb:Tab W0):bu w w [] [] [] []:=bu.start (ht.next HS.below) (hb.next HS.below)
theorem Ye(HS:St W0 U Ps w)(h:Calls Tryz.prog f vs.toArray w (vU w [] L [] M q k)):bP Tryz.prog f vs w (DV W0 U Ps q k) :=
 h.mono fun e w' hh=>by
  obtain ⟨u,rfl,he⟩:=hh;obtain ⟨s,A,n,c,A',n',c',e1⟩:=(he.fr _ ak).shape;dsimp only at e1;subst e1;exact ⟨_,rfl,s,A,n,c,A',n',c',rfl,(HS.next he.below).add (FV.stable _ q k true) (he.fr _ ak)⟩
theorem Yb(HS:St W0 U Ps w)(h:Calls Tryz.prog f vs.toArray w (jo w [] L [] M x k)):bP Tryz.prog f vs w (JK W0 U Ps x k) :=
 h.mono fun e w' hh=>by
  obtain ⟨s,A,n,c,rfl,he⟩:=hh;exact ⟨_,rfl,s,A,n,c,rfl,(HS.next he.below).add (FI.stable _ x k) (he.env.ops _ ak)⟩
theorem tY(HS:St W0 U Ps w){u:Value}(h:Calls Tryz.prog f vs.toArray w (fun e w'=>e = .returned u/\bu w w' [] L [] M)):bP Tryz.prog f vs w (dB W0 U Ps u) :=
 h.mono fun e w' hh=>by
  obtain ⟨rfl,he⟩:=hh;exact ⟨_,rfl,rfl,HS.next he.below⟩
theorem Yd(HS:St W0 U Ps w){er:Value}(h:Calls Tryz.prog f vs.toArray w (fun e w' => ∃ (s:Bool) (A:Option Addr) (n c:Nat) (A':Option Addr) (n' c':Nat),e = .returned (.tuple #[(ahf s A n c A' n' c'),er])/\bu w w' [] L [] (⟨(ahf s A n c A' n' c'),q,k,true⟩::M))):bP Tryz.prog f vs w (sH W0 U Ps q k er) :=
 h.mono fun e w' hh=>by
  obtain ⟨s,A,n,c,A',n',c',rfl,he⟩:=hh;exact ⟨_,rfl,s,A,n,c,A',n',c',rfl,(HS.next he.below).add (FV.stable _ q k true) (he.fr _ ak)⟩
theorem Yc(HS:St W0 U Ps w)(h:Calls Tryz.prog f vs.toArray w (lN w [] L [] M x y k)):bP Tryz.prog f vs w (JM W0 U Ps x y k) :=
 h.mono fun e w' hh=>by
  obtain ⟨s,A,n,c,s',A',n',c',rfl,he⟩:=hh;exact ⟨_,rfl,s,A,n,c,s',A',n',c',rfl,((HS.next he.below).add (FI.stable _ y k) (he.env.ops _ au)).add (FI.stable _ x k) (he.env.ops _ ak)⟩
theorem Nj(HT:Tz W0)(HB:Tab W0)(HS:St W0 U Ps w)(f1:FV (ahf s1 A1 n1 c1 B1 m1 d1) q1 k1 b1 w)(hk:k1<=100000):bP Tryz.prog 137 [(ahf s1 A1 n1 c1 B1 m1 d1)] w (dB W0 U Ps (.bool b1)) :=
 tY HS (X3 ((St.start HS HT HB).cons f1) ak hk)
theorem XZ(HT:Tz W0)(HB:Tab W0)(HS:St W0 U Ps w)(f1:FV (ahf s1 A1 n1 c1 B1 m1 d1) q1 k1 b1 w)(hk:k1<=40000):bP Tryz.prog 62 [(ahf s1 A1 n1 c1 B1 m1 d1)] w (dB W0 U Ps (.string ⟨(bW q1).toArray⟩)) :=
 tY HS (X0 ((St.start HS HT HB).cons f1) ak hk)
theorem ace(HT:Tz W0)(HB:Tab W0)(HS:St W0 U Ps w){B2:Option Addr}{m2 d2:Nat}{q2:Rat}{b2:Bool}(f1:FV (ahf s1 A1 n1 c1 B1 m1 d1) q1 k1 b1 w)(f2:FV (ahf s2 A2 n2 c2 B2 m2 d2) q2 k2 b2 w)(hk:k1+k2<=800):bP Tryz.prog 73 [(ahf s1 A1 n1 c1 B1 m1 d1),(ahf s2 A2 n2 c2 B2 m2 d2)] w (DV W0 U Ps (q1+q2) (k1+k2+2)) :=
 Ye HS (acg (((St.start HS HT HB).cons f2).cons f1) ak au hk)
theorem Iq(HT:Tz W0)(HB:Tab W0)(HS:St W0 U Ps w)(f1:FV (ahf s1 A1 n1 c1 B1 m1 d1) q1 k1 b1 w)(hk:k1<=900):bP Tryz.prog 65 [(ahf s1 A1 n1 c1 B1 m1 d1)] w (dB W0 U Ps (.int .i64 (jl q1))) :=
 tY HS (ack ((St.start HS HT HB).cons f1) ak hk)
theorem acm(HT:Tz W0)(HB:Tab W0)(HS:St W0 U Ps w)(f1:FV (ahf s1 A1 n1 c1 B1 m1 d1) q1 k1 b1 w)(hk:k1<=3000):bP Tryz.prog 69 [(ahf s1 A1 n1 c1 B1 m1 d1)] w (dB W0 U Ps (.bool b1)) :=
 tY HS (acn ((St.start HS HT HB).cons f1) ak hk)
theorem aci(HT:Tz W0)(HB:Tab W0)(HS:St W0 U Ps w)(f1:FV (ahf s1 A1 n1 c1 B1 m1 d1) q1 k1 b1 w)(hk:k1<=3000):bP Tryz.prog 133 [(ahf s1 A1 n1 c1 B1 m1 d1)] w (JM W0 U Ps (q1.num) ((q1.den:Int)) (k1+2)) :=
 Yc HS (CG ((St.start HS HT HB).cons f1) ak hk)
theorem ach(HT:Tz W0)(HB:Tab W0)(HS:St W0 U Ps w)    : bP Tryz.prog 121 [] w (JK W0 U Ps (1) (2)) :=
 Yb HS (AQ (St.start HS HT HB)  )
theorem abE(HT:Tz W0)(HB:Tab W0)(HS:St W0 U Ps w){x1:Int}{x2:Int}(f1:FI (.agg #[.bool s1,.slice A1 n1 c1]) x1 k1 w)(f2:FI (.agg #[.bool s2,.slice A2 n2 c2]) x2 k2 w)(hk:k1<=10000/\k2<=10000):bP Tryz.prog 135 [.agg #[.bool s1,.slice A1 n1 c1],.agg #[.bool s2,.slice A2 n2 c2]] w (dB W0 U Ps (.int .i64 (kT x1 x2))) :=
 tY HS (QS (((St.start HS HT HB).push f2).push f1) ak au hk)
end
end
section
variable {W0 w:World} {U:List Box} {Ps:List (World->Prop)}
variable {vs:List Value} {k:Nat} {q:Rat} {er:Value}
theorem St.same(HS:St W0 U Ps w){f:FuncId}{u:Value}(h:Calls Tryz.prog f vs.toArray w (fun e w'=>e = .returned u/\w=w')):bP Tryz.prog f vs w (dB W0 U Ps u) :=
 h.mono fun e w' hh=>by
  obtain ⟨rfl,rfl⟩:=hh;exact ⟨_,rfl,rfl,HS⟩
theorem G7(HS:St W0 U Ps w):bP Tryz.prog 16 [.nilIface] w (dB W0 U Ps (.int .i64 0)):=St.same HS (aat w)
theorem PZ(HS:St W0 U Ps w)(z:Int):bP Tryz.prog 16 [.iface 92 (.int .i64 z)] w (dB W0 U Ps (.int .i64 z)):=St.same HS (aas z w)
theorem sH.more{f:FuncId}{r:Rat}{K:Nat}(h:bP Tryz.prog f vs w (sH W0 U Ps q k er))(hq:q=r)(hk:k<=K):bP Tryz.prog f vs w (sH W0 U Ps r K er) :=
 Calls.mono h fun e w' hh=>by
  subst hq;obtain ⟨u,rfl,s,A,n,c,B,m,d,rfl,hs⟩:=hh;exact ⟨_,rfl,_,_,_,_,_,_,_,rfl,hs.out 0 1 0 rfl rfl rfl (fun _ h=>h.weak hk)⟩
theorem sH.of{f:FuncId}(HS:St W0 U Ps w){L:List En}{M:List Qn}(h:Calls Tryz.prog f vs.toArray w (fun e w' => ∃ (s:Bool) (A:Option Addr) (n c:Nat) (A':Option Addr) (n' c':Nat),e = .returned (.tuple #[(ahf s A n c A' n' c'),er])/\bu w w' [] L [] (⟨(ahf s A n c A' n' c'),q,k,true⟩::M))):bP Tryz.prog f vs w (sH W0 U Ps q k er):=Yd HS h
end
def KA(er:Value)(code:Int):Prop := ∀ (W0 w:World) (U:List Box) (Ps:List (World->Prop)),St W0 U Ps w->bP Tryz.prog 16 [er] w (dB W0 U Ps (.int .i64 code))
theorem KA.nil_:KA .nilIface 0:=fun _ _ _ _ HS=>G7 HS
end Go.Proofs.AZQ
