/- Part of a proof, said shortly. -/
import Derived.Deep.RegionHeld3
import Derived.Deep.RegionWith
import Derived.Deep.LoopGhost
import Derived.Test.YtkcpphebkmnonaaGreatDoorAlz
import Derived.Test.YtkcpphebkmnonaaGreatDoorC12
import Derived.Test.YtkcpphebkmnonaaGreatDoorC10
import Derived.Test.YtkcpphebkmnonaaGreatDoorC9
import Derived.Test.YtkcpphebkmnonaaGreatDoorC8
import Derived.Test.YtkcpphebkmnonaaGreatDoorC5
import Derived.Test.YtkcpphebkmnonaaGreatDoorC2
import Derived.Test.YtkcpphebkmnonaaGreatDoorC1
import Derived.Test.YtkcpphebkmnonaaGreatDoorC4
import Derived.Test.YtkcpphebkmnonaaGreatDoorC3
import Derived.Test.YtkcpphebkmnonaaGreatDoorC7
import Derived.Test.YtkcpphebkmnonaaGreatDoorC6
import Derived.Test.YtkcpphebkmnonaaGreatDoorC14
import Derived.Test.YtkcpphebkmnonaaGreatDoorC13
import Derived.Test.YtkcpphebkmnonaaGreatDoorC11
namespace Go.Proofs.BGQ
open Go Go.RowKit Lw
section
variable {W0 w:World} {bs:List Bx} {L:List En} {ts:List Bt} {M:List Qn} {v v':Value} {x y:Int} {k k':Nat} {b b':Bool}
theorem Jw{z:Int}(HE:bu W0 w bs L ts M)(h1 : -9223372036854775808<=z)(h2:z<=9223372036854775807) :
  Calls Tryz.prog 104 #[.int .i64 z] w (gV W0 bs L ts M z 2):=(ajU HE.env.here h1 h2).mono fun _ _ hh=>HE.wO hh
theorem zA(HE:bu W0 w bs L ts M)(h:⟨v,x,k,b⟩∈L)(hk:k<=100000) :
  Calls Tryz.prog 100 #[v] w fun e w'=>e = .returned (.int .i64 (dW x))/\bu W0 w' bs L ts M:=(YA HE.env.here h hk).mono fun _ _ hh=>⟨hh.1,HE.step hh.2⟩
theorem OB(HE:bu W0 w bs L ts M)(h:⟨v,x,k,b⟩∈L)(hk:k<=10000) :
  Calls Tryz.prog 108 #[v] w (gV W0 bs L ts M (-x) k):=(Yx HE.env.here h hk).mono fun _ _ hh=>HE.wO hh
theorem ajB(HE:bu W0 w bs L ts M)(h:⟨v,x,k,b⟩∈L)(h':⟨v',y,k',b'⟩∈L)(hk:k<=10000/\k'<=10000) :
  Calls Tryz.prog 96 #[v,v'] w fun e w'=>e = .returned (.int .i64 (dS x y))/\bu W0 w' bs L ts M:=(ajN HE.env.here h h' hk).mono fun _ _ hh=>⟨hh.1,HE.step hh.2⟩
theorem Oz(HE:bu W0 w bs L ts M)(h:⟨v,x,k,b⟩∈L)(h':⟨v',y,k',b'⟩∈L)(hk:k+k'<=10000) :
  Calls Tryz.prog 97 #[v,v'] w (gV W0 bs L ts M ((Nat.gcd x.natAbs y.natAbs:Nat):Int) (k+k'+1)):=(ajQ HE.env.here h h' hk).mono fun _ _ hh=>HE.wO hh
theorem Jq(HE:bu W0 w bs L ts M)(h:⟨v,x,k,b⟩∈L)(h':⟨v',y,k',b'⟩∈L)(hk:k+k'<=10000)(hy:y≠0) :
  Calls Tryz.prog 148 #[v,v'] w fun e w' => ∃ (s s':Bool) (D D':Option Addr) (m d m' d':Nat),e = .returned (.tuple #[.agg #[.bool s,.slice D m d],.agg #[.bool s',.slice D' m' d'],.int .i64 0]) /\
   bu W0 w' bs (⟨.agg #[.bool s,.slice D m d],x/y,k+1,true⟩::⟨.agg #[.bool s',.slice D' m' d'],x%y,k',true⟩::L) ts M:=by
 have H1:=HE.env.ops _ h;have H2:=HE.env.ops _ h';have hz:=Wp hy H1.lt;have hz':=Ws (x:=x) hy H2.lt;obtain ⟨s,A,n,c,ns,B,e1,h2,h3,h4,h5,h6,e7,h8⟩:=H1;obtain ⟨s',A',n',c',ns',B',e1',h2',h3',h4',h5',h6',eX,h8'⟩:=H2;dsimp only at e1 e7 e1' eX h5 h5' hz hz';subst e1 e1' e7 eX;refine (ajH s s' A A' ns ns' n n' c c' B B' w h2 h2' h3 h3' h4 h4' af af h6 h6' hy).mono ?_;rintro e w' ⟨A9,A8,c9,c8,rfl,fE,hc8,ed,nV,hb⟩;exact ⟨_,_,A9,A8,_,c9,_,c8,rfl,((HE.next hb).push (E5 nV hc8 hz')).push (E5 ed fE hz)⟩
end
end Go.Proofs.BGQ
namespace Lw
theorem ae0{s:Bool}{ns ms:List Nat}{n m:Nat}(hn:ns.length=n)(hm:ms.length=m)(h:¬ (n=0/\m=0)) :
  fV s ns ms=((decide (0<n)&&vB false ns)&&((decide (0<m)&&vB false ms)&&cp ns ms)):=by
 unfold fV;rw [hn,hm]
 by_cases h1:n=0
 ·rw [if_pos (.inl h1),decide_eq_false (by omega:¬ n=m),decide_eq_false (by omega:¬ 0<n)];rfl
 ·by_cases h2:m=0
  ·rw [if_pos (.inr h2),decide_eq_false (by omega:¬ n=m),decide_eq_false (by omega:¬ 0<m)];simp
  ·rw [if_neg af,decide_eq_true (by omega:0<n),decide_eq_true (by omega:0<m)];simp
theorem ad2(ns ms:List Nat):(dS ((Nat.gcd (val ns) (val ms):Nat):Int) 1==0)=cp ns ms:=by
 unfold dS cp;grind
theorem aaN{ns:List Nat}(h:vB false ns=true):zv false ns=(val ns:Int):=by unfold zv;rw [if_pos h];rfl
end Lw
namespace Go.Proofs.BGQ
open Go Go.RowKit Lw
set_option maxRecDepth 100000 in
set_option maxHeartbeats 800000 in
theorem YJ(A:Option Addr)(ns:List Nat)(n c B:Nat)(w:World)(h:Rd w B A ns)(_hB:B<=w.heap.size)(hn:ns.length=n)(hl:n<=16777216) :
  Calls Tryz.prog 95 #[.slice A n c] w fun e w'=>e = .returned (.bool (decide (0<n)&&vB false ns))/\w=w':=by
 have Hn:=Lib.hid hn;clear hn
 by_cases h0:n=0
 ·subst h0
  go_enter Tryz.func95,Tryz.ntmps95
  go_wp2_with fail
  go_ret
  exact ⟨rfl,rfl⟩
 ·obtain ⟨b,off,rfl,hb,hcell,hlt⟩:=h.at_ (k:=n-1) (by rw [Hn.out];omega)
  go_enter Tryz.func95,Tryz.ntmps95
  go_wp2_with fail
  go_ret
  refine ⟨lS ?_,rfl⟩;rw [decide_eq_true (by omega:0<n),Bool.true_and];unfold vB;rw [if_neg (by rw [Hn.out];exact h0),Hn.out,Bool.eq_iff_iff,bne_iff_ne,bne_iff_ne];exact not_congr Int.ofNat_inj
section
variable {W0 w:World} {bs:List Bx} {L:List En} {ts:List Bt} {M:List Qn} {s:Bool} {A A':Option Addr} {n c n' c' k:Nat} {q:Rat} {b:Bool}
set_option maxRecDepth 100000 in
set_option maxHeartbeats 1600000 in
theorem I5(HE:bu W0 w bs L ts M):Calls Tryz.prog 98 #[] w (gV W0 bs L ts M 1 2):=by
 refine Calls.mono (R:=gV w [] L [] M 1 2) ?_ fun _ _ hh=>gV.of HE hh;replace HE:=HE.here.bI (.bool false) (.slice none 0 0)
 go_enter Tryz.func98,Tryz.ntmps98
 go_wp2_with fail
 refine (Jw HE af af).mono ?_;rintro e w1 ⟨s1,A1,n1,c1,rfl,HE⟩;obtain ⟨q0,q1,q2,q3⟩:=HE.c2 ak
 go_wp2_with fail
 refine bodyPost_ret (v := .agg #[.bool s1,.slice A1 n1 c1]) (by simp [results,Tryz.results98,go_sem,q0,q1]) rfl ?_;exact ⟨_,_,_,_,rfl,HE.done2 ak s1 (.slice A1 n1 c1)⟩
set_option maxRecDepth 100000 in
set_option maxHeartbeats 3200000 in
theorem Ju(HE:bu W0 w bs L ts M)(h:⟨.agg #[.bool s,.slice A n c,.slice A' n' c'],q,k,b⟩∈M)(hk:k<=3000) :
  Calls Tryz.prog 54 #[.agg #[.bool s,.slice A n c,.slice A' n' c']] w fun e w'=>e = .returned (.bool b)/\bu W0 w' bs L ts M:=by
 refine Calls.mono (R:=fun e w'=>e = .returned (.bool b)/\bu w w' [] L [] M) ?_ fun _ _ hh=>⟨hh.1,HE.back hh.2⟩;obtain ⟨s',A1,n1,c1,A2,n2,c2,ns,ms,h1,r1,r2,e2,e3,e4,e5,e6,e7,e8,e9⟩:=HE.fr _ h;dsimp only at h1 e4 e5 e9
 injection h1 with h1
 injection h1 with h1;simp only [List.cons.injEq,Value.bool.injEq,Value.slice.injEq,and_true] at h1;obtain ⟨rfl,⟨rfl,rfl,rfl⟩,rfl,rfl,rfl⟩:=h1;replace HE:=HE.here.bY (.bool s) (.slice A n c) (.slice A' n' c');obtain ⟨q0,q1,q2,q3,q4,q5⟩:=HE.c3 ak
 by_cases h0:n=0/\n'=0
 ·obtain ⟨h1,h2⟩:=h0
  have HV:=Lib.hid (show (!s)=b by rw [<- e9];unfold fV;rw [if_pos (.inl af),e2,e3,decide_eq_true (by omega:n=n')];rfl);subst h1 h2;clear e2 e3 e4 e5 e6 e7 e8 e9 r1 r2 h
  go_enter atT,atU
  go_wp2_with fail
  go_ret
  exact ⟨lS HV.out,HE.bare⟩
 ·have hp:=fun W hb=>YJ A ns n c w.heap.size W (r1.next hb (aut _)) (Below.size hb) e2 af
  have hp':=fun W hb=>YJ A' ms n' c' w.heap.size W (r2.next hb (aut _)) (Below.size hb) e3 af;have hV:=ae0 (s:=s) e2 e3 h0;rw [e9] at hV;have o1:=fun (hv:vB false ns=true) (W:World) (hb:Below w.heap.size w W)=>(show dJ W ⟨.agg #[.bool false,.slice A n c],(val ns:Int),k,true⟩ from ⟨false,A,n,c,ns,w.heap.size,rfl,r1.next hb (aut _),hb.size,e2,e4,e6,aaN hv,hv⟩);have o2:=fun (hv:vB false ms=true) (W:World) (hb:Below w.heap.size w W)=>(show dJ W ⟨.agg #[.bool false,.slice A' n' c'],(val ms:Int),k,true⟩ from ⟨false,A',n',c',ms,w.heap.size,rfl,r2.next hb (aut _),hb.size,e3,e5,e7,aaN hv,hv⟩);have HC:=Lib.hid (ad2 ns ms);have HP:=Lib.hid hp;have CX:=Lib.hid hp';have HV:=Lib.hid hV;have O1:=Lib.hid o1;have O2:=Lib.hid o2;have HH:Hid (n≠0\/n'≠0):=Lib.hid af;clear hp hp' hV o1 o2 e2 e3 e4 e5 e6 e7 e8 e9 r1 r2 h h0
  cases g1:(decide (0<n)&&vB false ns)
  ·have CY:=Lib.hid (show ∀ W,Below w.heap.size w W->Calls Tryz.prog 95 #[.slice A n c] W fun e w'=>e = .returned (.bool false)/\W=w' by have:=HP.out;rwa [g1] at this)
   have HB:=Lib.hid (show b=false by rw [HV.out,g1];rfl);clear HP CX HV O1 O2 g1 HC
   by_cases h0:n=0
   ·have hm:=HH.out
    have hqm:((n':Int)==0)=false:=by rw [beq_eq_false_iff_ne];omega
    subst h0;clear hm
    go_enter atT,atU
    go_wp2_with fail
    refine (CY.out _ HE.below).mono ?_;rintro e w1 ⟨rfl,rfl⟩
    go_wp2_with fail
    go_ret
    exact ⟨lS HB.out.symm,HE.bare⟩
   ·have wR:((n:Int)==0)=false:=by rw [beq_eq_false_iff_ne];omega
    clear h0
    go_enter atT,atU
    go_wp2_with fail
    refine (CY.out _ HE.below).mono ?_;rintro e w1 ⟨rfl,rfl⟩
    go_wp2_with fail
    go_ret
    exact ⟨lS HB.out.symm,HE.bare⟩
  ·have CY:=Lib.hid (show ∀ W,Below w.heap.size w W->Calls Tryz.prog 95 #[.slice A n c] W fun e w'=>e = .returned (.bool true)/\W=w' by have:=HP.out;rwa [g1] at this)
   have hg:=g1;rw [Bool.and_eq_true,decide_eq_true_iff] at hg;have wR:((n:Int)==0)=false:=by rw [beq_eq_false_iff_ne];omega
   have O3:=Lib.hid (O1.out hg.2);clear O1 HP hg
   cases g2:(decide (0<n')&&vB false ms)
   ·have HP2:=Lib.hid (show ∀ W,Below w.heap.size w W->Calls Tryz.prog 95 #[.slice A' n' c'] W fun e w'=>e = .returned (.bool false)/\W=w' by have:=CX.out;rwa [g2] at this)
    have HB:=Lib.hid (show b=false by rw [HV.out,g1,g2];rfl);clear CX HV O2 O3 g1 g2 HC
    go_enter atT,atU
    go_wp2_with fail
    refine (CY.out _ HE.below).mono ?_;rintro e w1 ⟨rfl,rfl⟩
    go_wp2_with fail
    refine (HP2.out _ HE.below).mono ?_;rintro e w1 ⟨rfl,rfl⟩
    go_wp2_with fail
    go_ret
    exact ⟨lS HB.out.symm,HE.bare⟩
   ·have HP2:=Lib.hid (show ∀ W,Below w.heap.size w W->Calls Tryz.prog 95 #[.slice A' n' c'] W fun e w'=>e = .returned (.bool true)/\W=w' by have:=CX.out;rwa [g2] at this)
    have hg:=g2;rw [Bool.and_eq_true] at hg;have O4:=Lib.hid (O2.out hg.2);have HB:=Lib.hid (show b=(dS ((Nat.gcd (val ns) (val ms):Nat):Int) 1==0) by rw [HV.out,g1,g2,HC.out];rfl);clear CX HV O2 g1 g2 HC hg
    go_enter atT,atU
    go_wp2_with fail
    refine (CY.out _ HE.below).mono ?_;rintro e w1 ⟨rfl,rfl⟩
    go_wp2_with fail
    refine (HP2.out _ HE.below).mono ?_;rintro e w1 ⟨rfl,rfl⟩;replace HE:=(HE.push (O4.out _ HE.below)).push (O3.out _ HE.below)
    go_wp2_with fail
    refine (Oz HE ak au af).mono ?_;clear HE;rintro e w1 ⟨sa,Aa,na,ca,rfl,HE⟩
    go_wp2_with fail
    refine (I5 HE).mono ?_;clear HE;rintro e w2 ⟨sb,Ab,nb,cb,rfl,HE⟩
    go_wp2_with fail
    refine (ajB HE au ak af).mono ?_;clear HE;rintro e w3 ⟨rfl,HE⟩
    go_wp2_with fail
    go_ret
    exact ⟨lS HB.out.symm,HE.bare.pick (fun _ he => .tail _ (.tail _ (.tail _ (.tail _ he)))) (fun _ he=>he)⟩
end
section
variable {W0 w:World} {bs:List Bx} {L:List En} {ts:List Bt} {M:List Qn} {s s':Bool} {A A' B B':Option Addr} {n c n' c' m d m' d' k k':Nat} {q r:Rat} {x y:Int} {b b':Bool}
set_option maxRecDepth 100000 in
set_option maxHeartbeats 2400000 in
theorem xx(HE:bu W0 w bs L ts M)(h:⟨.agg #[.bool s,.slice A n c,.slice A' n' c'],q,k,b⟩∈M)(hk:k<=3000) :
  Calls Tryz.prog 99 #[.agg #[.bool s,.slice A n c,.slice A' n' c']] w (nN W0 bs L ts M q.num (q.den:Int) (k+2)):=by
 refine Calls.mono (R:=nN w [] L [] M q.num (q.den:Int) (k+2)) ?_ fun _ _ hh=>nN.of HE hh;have HO:=Lib.hid (HE.here);have hF:=HE.fr _ h
 have hz:b=false\/n=0->q=0:=by
  intro hb;rcases hb with rfl | hb
  ·obtain ⟨s',A1,n1,c1,A2,n2,c2,ns,ms,h1,h2,h3,h4,h5,h6,h7,h8,h9,h10,h11⟩:=hF
   dsimp only at h10 h11;rw [<- h10];unfold qv;rw [h11];rfl
  ·cases b
   ·obtain ⟨s',A1,n1,c1,A2,n2,c2,ns,ms,h1,h2,h3,h4,h5,h6,h7,h8,h9,h10,h11⟩:=hF
    dsimp only at h10 h11;rw [<- h10];unfold qv;rw [h11];rfl
   ·exact (qC hF.own.2.1).1 hb
 have hnz:b=true->n≠0->q≠0:=by
  rintro rfl h1 h2;exact h1 ((qC hF.own.2.1).2 h2)
 replace HE:=((HE.here.bY (.bool s) (.slice A n c) (.slice A' n' c')).bI (.bool false) (.slice none 0 0)).bI (.bool false) (.slice none 0 0);simp only [World.size_alloc] at HE
 cases b
 ·have HQ:=Lib.hid (hz (.inl rfl))
  clear hz hnz hF HO;skip;obtain ⟨q0,q1,q2,q3,q4,q5⟩:=HE.c3 ak
  go_enter Tryz.func99,Tryz.ntmps99
  go_wp2_with fail
  refine (Ju HE h hk).mono ?_;clear HE;rintro e w1 ⟨rfl,HE⟩;clear q0 q1 q2 q3 q4 q5;obtain ⟨q6,q7,q8,q9,q10,q11⟩:=HE.c3 ak
  go_wp2_with fail
  refine (I5 HE).mono ?_;clear HE;rintro e w2 ⟨s1,A1,n1,c1,rfl,HE⟩;clear q6 q7 q8 q9 q10 q11;obtain ⟨a0,a1,a2,a3⟩:=HE.c2 ak;obtain ⟨b0,b1,b2,b3⟩:=HE.c2 au
  go_wp2_with fail
  refine bodyPost_ret (v := .tuple #[.agg #[.bool false,.slice none 0 0],.agg #[.bool s1,.slice A1 n1 c1]]) (by simp [results,Tryz.results99,go_sem,a0,a1,b0,b1]) rfl ?_;have H3:=(HE.jr au [⟨w.heap.size+1+1,.bool false,.slice none 0 0⟩] (fun b hb=>by simp only [List.mem_cons,List.not_mem_nil,or_false] at hb;subst hb;exact ⟨(by repeat (first | exact aZ | refine .tail _ ?_)),by dsimp only;omega⟩) false (.slice none 0 0)).done2 au s1 (.slice A1 n1 c1);have hq:=HQ.out;subst hq;have h1:=H3.env.ops _ ak;exact ⟨_,_,_,_,_,_,_,_,rfl,((H3.tl.push (h1.weak af)).push ⟨false,none,0,0,[],0,rfl,Rd.nil_ _ _ _,auw _,rfl,auw _,aut _,rfl,rfl⟩).bare⟩
 ·by_cases hn:n=0
  ·have HQ:=Lib.hid (hz (.inr hn))
   subst hn;clear hz hnz hF HO;skip;obtain ⟨q0,q1,q2,q3,q4,q5⟩:=HE.c3 ak
   go_enter Tryz.func99,Tryz.ntmps99
   go_wp2_with fail
   refine (Ju HE h hk).mono ?_;clear HE;rintro e w1 ⟨rfl,HE⟩;clear q0 q1 q2 q3 q4 q5;obtain ⟨q6,q7,q8,q9,q10,q11⟩:=HE.c3 ak
   go_wp2_with fail
   refine (I5 HE).mono ?_;clear HE;rintro e w2 ⟨s1,A1,n1,c1,rfl,HE⟩;clear q6 q7 q8 q9 q10 q11;obtain ⟨a0,a1,a2,a3⟩:=HE.c2 ak;obtain ⟨b0,b1,b2,b3⟩:=HE.c2 au
   go_wp2_with fail
   refine bodyPost_ret (v := .tuple #[.agg #[.bool false,.slice none 0 0],.agg #[.bool s1,.slice A1 n1 c1]]) (by simp [results,Tryz.results99,go_sem,a0,a1,b0,b1]) rfl ?_;have H3:=(HE.jr au [⟨w.heap.size+1+1,.bool false,.slice none 0 0⟩] (fun b hb=>by simp only [List.mem_cons,List.not_mem_nil,or_false] at hb;subst hb;exact ⟨(by repeat (first | exact aZ | refine .tail _ ?_)),by dsimp only;omega⟩) false (.slice none 0 0)).done2 au s1 (.slice A1 n1 c1);have hq:=HQ.out;subst hq;have h1:=H3.env.ops _ ak;exact ⟨_,_,_,_,_,_,_,_,rfl,((H3.tl.push (h1.weak af)).push ⟨false,none,0,0,[],0,rfl,Rd.nil_ _ _ _,auw _,rfl,auw _,aut _,rfl,rfl⟩).bare⟩
  ·have HQ:=Lib.hid (hnz rfl hn)
   have hn0:((n:Int)==0)=false:=by rw [beq_eq_false_iff_ne];omega
   clear hz hnz hF HO hn;obtain ⟨q0,q1,q2,q3,q4,q5⟩:=HE.c3 ak
   go_enter Tryz.func99,Tryz.ntmps99
   go_wp2_with fail
   refine (Ju HE h hk).mono ?_;clear HE;rintro e w1 ⟨rfl,HE⟩;clear q0 q1 q2 q3 q4 q5;obtain ⟨q6,q7,q8,q9⟩:=HE.c2 ak;obtain ⟨q10,q11,q12,q13⟩:=HE.c2 au;obtain ⟨dO,dP,q16,dQ,eu,eF⟩:=HE.c3 ak
   go_wp2_with fail
   go_region
   go_wp2_with fail
   refine bodyPost_ret (v := .tuple #[.agg #[.bool s,.slice A n c],.agg #[.bool false,.slice A' n' c']]) (by simp [results,Tryz.results99,go_sem,q6,q7,q10,q11]) rfl ?_;have H3:=(HE.drew.jr au [⟨w.heap.size+1+1,.bool false,.slice none 0 0⟩] (fun b hb=>by simp only [List.mem_cons,List.not_mem_nil,or_false] at hb;subst hb;exact ⟨(by repeat (first | exact aZ | refine .tail _ ?_)),by dsimp only;omega⟩) s (.slice A n c)).done2 au false (.slice A' n' c');have H4:=H3.bare.parts h HQ.out;exact ⟨_,_,_,_,_,_,_,_,rfl,(H4.tl.tl.push ((H4.env.ops _ au).weak af)).push ((H4.env.ops _ ak).weak af)⟩
end
section
variable {W0 w:World} {bs:List Bx} {L:List En} {ts:List Bt} {M:List Qn} {s s':Bool} {A A' B B':Option Addr} {n c n' c' m d m' d' k k':Nat} {q r:Rat} {x y:Int} {b b':Bool}
theorem bu.UK{v:Value}(HE:bu W0 w bs L ts M)(h:⟨.agg #[.bool s,.slice A n c],x,k,true⟩∈L)(h':⟨.agg #[.bool s',.slice A' n' c'],y,k',true⟩∈L)(hq:q≠0)(hx:q.num=x)(hy:(q.den:Int)=y)(hv:v = .agg #[.bool s,.slice A n c,.slice A' n' c']):bu W0 w bs L ts (⟨v,q,k+k',true⟩::M):=by
 subst hv;have h0:x≠0:=by rw [<- hx];exact fun e=>hq (auP.1 e)
 have h1:0<y:=by rw [<- hy];exact den_pos q
 have hg:Nat.gcd x.natAbs y.natAbs=1:=by rw [<- hx,<- hy,auy];exact q.reduced
 have h2:Rat.divInt x y=q:=by rw [<- hx,<- hy];exact ava q
 have h3:=HE.UL h h' h0 h1 hg
 rwa [h2] at h3
theorem Uw{x y:Int}(hx:x≠0)(hy:y≠0):Rat.divInt x y≠0:=by
 rw [Ne,<- avM y,Rat.divInt_eq_divInt_iff hy hy,Int.zero_mul]
 simp_all
theorem Ux(x y:Int):Rat.divInt (-x) (-y)=Rat.divInt x y:=by
 by_cases hy:y=0
 ·simp_all
 ·rw [Rat.divInt_eq_divInt_iff af hy,Int.neg_mul,Int.mul_neg]
set_option maxRecDepth 100000 in
set_option maxHeartbeats 4000000 in
theorem DY(HE:bu W0 w bs L ts M)(h:⟨.agg #[.bool s,.slice A n c],x,k,b⟩∈L)(h':⟨.agg #[.bool s',.slice A' n' c'],y,k',b'⟩∈L)(hk:k+k'<=4000)(hy:y≠0) :
  Calls Tryz.prog 103 #[.agg #[.bool s,.slice A n c],.agg #[.bool s',.slice A' n' c']] w (dA W0 bs L ts M (Rat.divInt x y) (k+1+(k'+1))):=by
 refine Calls.mono (R:=(dA w [] L [] M (Rat.divInt x y) (k+1+(k'+1)))) ?_ fun _ _ hh=>dA.of HE hh;replace HE:=((HE.here.bI (.bool s) (.slice A n c)).bI (.bool s') (.slice A' n' c')).bY (.bool false) (.slice none 0 0) (.slice none 0 0);simp only [World.size_alloc] at HE
 by_cases hx:x=0
 ·have HS:=Lib.hid (show dW x=0 by unfold dW;rw [if_neg af,if_pos hx])
  have HX:=Lib.hid (show Rat.divInt x y=0 by rw [hx];exact avM _);clear hx hy;obtain ⟨q0,q1,q2,q3⟩:=HE.c2 ak;obtain ⟨q4,q5,q6,q7⟩:=HE.c2 au;obtain ⟨q8,q9,q10,q11,q12,q13⟩:=HE.c3 ak
  go_enter Tryz.func103,Tryz.ntmps103
  go_wp2_with fail
  refine (zA HE h af).mono ?_;rw [HS.out];clear HE;rintro e w1 ⟨rfl,HE⟩;clear q0 q1 q2 q3 q4 q5 q6 q7 q8 q9 q10 q11 q12 q13;obtain ⟨dO,dP,q16,dQ,eu,eF⟩:=HE.c3 ak;have TF:=(HE.fH ak).put (.bool false) (.slice none 0 0) (.slice none 0 0)
  go_wp2_with fail
  obtain ⟨z0,z1,z2,-,-,-⟩:=TF.cells;refine bodyPost_ret (v := .agg #[.bool false,.slice none 0 0,.slice none 0 0]) (by simp [results,Tryz.results103,go_sem,z0,z1,z2]) rfl ?_;rw [HX.out];exact ⟨_,_,_,_,_,_,_,rfl,((HE.iG (D:=none) (m:=0) (d:=0) ak false (.slice none 0 0)).bare).zero _⟩
 ·by_cases h0:0<y
  ·have hs:(dW x==0)=false:=by rw [beq_eq_false_iff_ne];unfold dW;split;decide;first | decide | (rw [if_neg hx];decide)
   have HS:=Lib.hid (show dW y=1 by unfold dW;rw [if_neg af,if_neg af]);obtain ⟨g,hg⟩ : ∃ g:Int,g=(Nat.gcd x.natAbs y.natAbs:Nat):=⟨_,rfl⟩;have HR:=Lib.hid (Ou h0 hg);have HG:=Lib.hid hg;have HX0:=Lib.hid (Uw hx hy);clear hg h0 hx hy;generalize Rat.divInt x y=q at *;obtain ⟨q0,q1,q2,q3⟩:=HE.c2 ak;obtain ⟨q4,q5,q6,q7⟩:=HE.c2 au;obtain ⟨q8,q9,q10,q11,q12,q13⟩:=HE.c3 ak
   go_enter Tryz.func103,Tryz.ntmps103
   go_wp2_with fail
   refine (zA HE h af).mono ?_;clear HE;rintro e w1 ⟨rfl,HE⟩;clear q0 q1 q2 q3 q4 q5 q6 q7 q8 q9 q10 q11 q12 q13;obtain ⟨dO,dP,q16,dQ⟩:=HE.c2 ak;obtain ⟨eu,eF,fM,fO⟩:=HE.c2 au;obtain ⟨q22,q23,q24,fU,gJ,gK⟩:=HE.c3 ak
   go_wp2_with fail
   refine (zA HE h' af).mono ?_;rw [HS.out];clear HE;rintro e w2 ⟨rfl,HE⟩;clear hs;clear dO dP q16 dQ eu eF fM fO q22 q23 q24 fU gJ gK;obtain ⟨gX,gY,q30,gZ⟩:=HE.c2 ak;obtain ⟨q32,iI,iJ,q35⟩:=HE.c2 au;obtain ⟨jd,q37,jy,jX,jY,jZ⟩:=HE.c3 ak
   go_wp2_with fail
   refine (Oz HE (by repeat (first | exact aZ | assumption | refine .tail _ ?_)) (by repeat (first | exact aZ | assumption | refine .tail _ ?_)) af).mono ?_;clear HE;rintro e wg ⟨sg,Ag,ng,cg,rfl,HE⟩;rw [<- HG.out] at HE;replace HE:=HE.bI (.bool sg) (.slice Ag ng cg);clear gX gY q30 gZ q32 iI iJ q35 jd q37 jy jX jY jZ;obtain ⟨kP,kQ,mF,mG⟩:=HE.c2 ak;obtain ⟨mJ,mM,oz,oC⟩:=HE.c2 au;obtain ⟨oD,oG,oH,oI⟩:=HE.c2 ay;obtain ⟨qE,qF,qG,qH,qI,qJ⟩:=HE.c3 ak
   go_wp2_with fail
   refine (Jq HE (by repeat (first | exact aZ | assumption | refine .tail _ ?_)) (by repeat (first | exact aZ | assumption | refine .tail _ ?_)) af HR.out.2.2).mono ?_;clear HE;rintro e wx ⟨sx,sy,Ax,Ay,lx,cx,ly,cy,rfl,HE⟩;replace HE:=(HE.bI (.bool sx) (.slice Ax lx cx)).bI (.bool sy) (.slice Ay ly cy);simp only [World.size_alloc] at HE;clear kP kQ mF mG mJ mM oz oC oD oG oH oI qE qF qG qH qI qJ;obtain ⟨qK,qL,qM,qN⟩:=HE.c2 ak;obtain ⟨qO,qP,qQ,qR⟩:=HE.c2 au;obtain ⟨qU,qV,qW,qX⟩:=HE.c2 ay;obtain ⟨sJ,sK,sN,sO⟩:=HE.c2 az;obtain ⟨sQ,sS,zh,zi⟩:=HE.c2 aA;obtain ⟨zk,zl,zn,zo,zq,zu⟩:=HE.c3 ak
   go_wp2_with fail
   refine (Jq HE (by repeat (first | exact aZ | assumption | refine .tail _ ?_)) (by repeat (first | exact aZ | assumption | refine .tail _ ?_)) af HR.out.2.2).mono ?_;clear HE;rintro e wy ⟨su,sv,Au,Av,lu,cu,lv,cv,rfl,HE⟩;replace HE:=(HE.bI (.bool su) (.slice Au lu cu)).bI (.bool sv) (.slice Av lv cv);simp only [World.size_alloc] at HE;clear qK qL qM qN qO qP qQ qR qU qV qW qX sJ sK sN sO sQ sS zh zi zk zl zn zo zq zu;obtain ⟨Bg,Bh,Bi,Bj⟩:=HE.c2 au;obtain ⟨Bl,Bo,Bq,Bv⟩:=HE.c2 az;obtain ⟨E8,Fa,Fb,Fe,Ff,Fg⟩:=HE.c3 ak;have TF:=(HE.fH ak).put (.bool sx) (.slice Ax lx cx) (.slice Au lu cu)
   go_wp2_with fail
   obtain ⟨z0,z1,z2,-,-,-⟩:=TF.cells;refine bodyPost_ret (v := .agg #[.bool sx,.slice Ax lx cx,.slice Au lu cu]) (by simp [results,Tryz.results103,go_sem,z0,z1,z2]) rfl ?_;have HF:=HE.UK (v := .agg #[.bool sx,.slice Ax lx cx,.slice Au lu cu]) (s:=sx) (A:=Ax) (n:=lx) (c:=cx) (s':=su) (A':=Au) (n':=lu) (c':=cu) (by repeat (first | exact aZ | assumption | refine .tail _ ?_)) (by repeat (first | exact aZ | assumption | refine .tail _ ?_)) HX0.out HR.out.1 HR.out.2.1 rfl;have HK:=(HF.iG (D:=Ax) (m:=lx) (d:=cx) ak sx (.slice Au lu cu)).bare;exact ⟨_,_,_,_,_,_,_,rfl,(HK.pick (fun e he => .tail _ (.tail _ (.tail _ (.tail _ (.tail _ (he)))))) (fun _ he=>he)).hd (·.weak af)⟩
  ·have hs:(dW x==0)=false:=by rw [beq_eq_false_iff_ne];unfold dW;split;decide;first | decide | (rw [if_neg hx];decide)
   have HS:=Lib.hid (show dW y = -1 by unfold dW;rw [if_pos af]);obtain ⟨g,hg⟩ : ∃ g:Int,g=(Nat.gcd (-x).natAbs (-y).natAbs:Nat):=⟨_,rfl⟩;have HR:=Lib.hid (Ou (n := -x) (d := -y) af hg);have HG:=Lib.hid hg;have HX0:=Lib.hid (Uw (x := -x) (y := -y) af af);have HN:=Lib.hid (Ux x y);clear hg h0 hx hy;rw [<- HN.out];clear HN;generalize Rat.divInt (-x) (-y)=q at *;obtain ⟨q0,q1,q2,q3⟩:=HE.c2 ak;obtain ⟨q4,q5,q6,q7⟩:=HE.c2 au;obtain ⟨q8,q9,q10,q11,q12,q13⟩:=HE.c3 ak
   go_enter Tryz.func103,Tryz.ntmps103
   go_wp2_with fail
   refine (zA HE h af).mono ?_;clear HE;rintro e w1 ⟨rfl,HE⟩;clear q0 q1 q2 q3 q4 q5 q6 q7 q8 q9 q10 q11 q12 q13;obtain ⟨dO,dP,q16,dQ⟩:=HE.c2 ak;obtain ⟨eu,eF,fM,fO⟩:=HE.c2 au;obtain ⟨q22,q23,q24,fU,gJ,gK⟩:=HE.c3 ak
   go_wp2_with fail
   refine (zA HE h' af).mono ?_;rw [HS.out];clear HE;rintro e w2 ⟨rfl,HE⟩;clear hs;clear dO dP q16 dQ eu eF fM fO q22 q23 q24 fU gJ gK;obtain ⟨gX,gY,q30,gZ⟩:=HE.c2 ak;obtain ⟨q32,iI,iJ,q35⟩:=HE.c2 au
   go_wp2_with fail
   go_region_with
    (first
     | (go_at_call 108;have _:=rJ;refine (OB (by with_reducible first | exact HE | exact HE.drew) (.tail _ h') af).mono ?_;rintro e wb ⟨sb,Ab,nb,cb,rfl,HE⟩;obtain ⟨v0,v1,v2,v3⟩:=HE.c2 au;obtain ⟨v4,v5,v6,v7⟩:=HE.c2 ak)
     | (go_at_call 108;refine (OB (by with_reducible first | exact HE | exact HE.drew) h af).mono ?_;rintro e wa ⟨sa,Aa,na,ca,rfl,HE⟩;have rJ:=HE;obtain ⟨u0,u1,u2,u3⟩:=HE.c2 au;obtain ⟨u4,u5,u6,u7⟩:=HE.c2 ak))
   all_goals
    first | clear gX gY q30 gZ q32 iI iJ q35 u0 u1 u2 u3 u4 u5 u6 u7 v0 v1 v2 v3 v4 v5 v6 v7 rJ | skip
    replace HE:=(HE.jr au [⟨w.heap.size+1,.bool s',.slice A' n' c'⟩] (fun b hb=>by simp only [List.mem_cons,List.not_mem_nil,or_false] at hb;subst hb;exact ⟨(by repeat (first | exact aZ | refine .tail _ ?_)),by dsimp only;omega⟩) sa (.slice Aa na ca)).jr au [⟨w.heap.size,.bool sa,.slice Aa na ca⟩] (fun b hb=>by simp only [List.mem_cons,List.not_mem_nil,or_false] at hb;subst hb;exact ⟨(by repeat (first | exact aZ | refine .tail _ ?_)),by dsimp only;omega⟩) sb (.slice Ab nb cb);generalize ((((wb.setCell ⟨w.heap.size,0,none⟩ (.bool sa)).setCell ⟨w.heap.size,1,none⟩ (.slice Aa na ca)).setCell ⟨w.heap.size+1,0,none⟩ (.bool sb)).setCell ⟨w.heap.size+1,1,none⟩ (.slice Ab nb cb))=W5 at *;obtain ⟨jd,q37,jy,jX⟩:=HE.c2 ak;obtain ⟨jY,jZ,kP,kQ⟩:=HE.c2 au;obtain ⟨mF,mG,mJ,mM,oz,oC⟩:=HE.c3 ak
    go_wp2_with fail
    refine (Oz HE (by repeat (first | exact aZ | assumption | refine .tail _ ?_)) (by repeat (first | exact aZ | assumption | refine .tail _ ?_)) af).mono ?_;clear HE;rintro e wg ⟨sg,Ag,ng,cg,rfl,HE⟩;rw [<- HG.out] at HE;replace HE:=HE.bI (.bool sg) (.slice Ag ng cg);clear jd q37 jy jX jY jZ kP kQ mF mG mJ mM oz oC;obtain ⟨oD,oG,oH,oI⟩:=HE.c2 ak;obtain ⟨qE,qF,qG,qH⟩:=HE.c2 au;obtain ⟨qI,qJ,qK,qL⟩:=HE.c2 ay;obtain ⟨qM,qN,qO,qP,qQ,qR⟩:=HE.c3 ak
    go_wp2_with fail
    refine (Jq HE (by repeat (first | exact aZ | assumption | refine .tail _ ?_)) (by repeat (first | exact aZ | assumption | refine .tail _ ?_)) af HR.out.2.2).mono ?_;clear HE;rintro e wx ⟨sx,sy,Ax,Ay,lx,cx,ly,cy,rfl,HE⟩;replace HE:=(HE.bI (.bool sx) (.slice Ax lx cx)).bI (.bool sy) (.slice Ay ly cy);simp only [World.size_alloc] at HE;clear oD oG oH oI qE qF qG qH qI qJ qK qL qM qN qO qP qQ qR;obtain ⟨qU,qV,qW,qX⟩:=HE.c2 ak;obtain ⟨sJ,sK,sN,sO⟩:=HE.c2 au;obtain ⟨sQ,sS,zh,zi⟩:=HE.c2 ay;obtain ⟨zk,zl,zn,zo⟩:=HE.c2 az;obtain ⟨zq,zu,Bg,Bh⟩:=HE.c2 aA;obtain ⟨Bi,Bj,Bl,Bo,Bq,Bv⟩:=HE.c3 ak
    go_wp2_with fail
    refine (Jq HE (by repeat (first | exact aZ | assumption | refine .tail _ ?_)) (by repeat (first | exact aZ | assumption | refine .tail _ ?_)) af HR.out.2.2).mono ?_;clear HE;rintro e wy ⟨su,sv,Au,Av,lu,cu,lv,cv,rfl,HE⟩;replace HE:=(HE.bI (.bool su) (.slice Au lu cu)).bI (.bool sv) (.slice Av lv cv);simp only [World.size_alloc] at HE;clear qU qV qW qX sJ sK sN sO sQ sS zh zi zk zl zn zo zq zu Bg Bh Bi Bj Bl Bo Bq Bv;obtain ⟨E8,Fa,Fb,Fe⟩:=HE.c2 au;obtain ⟨Ff,Fg,Jf,Jg⟩:=HE.c2 az;obtain ⟨Jh,Ji,Jj,Jm,Jo,Jp⟩:=HE.c3 ak;have TF:=(HE.fH ak).put (.bool sx) (.slice Ax lx cx) (.slice Au lu cu)
    go_wp2_with fail
    obtain ⟨z0,z1,z2,-,-,-⟩:=TF.cells;refine bodyPost_ret (v := .agg #[.bool sx,.slice Ax lx cx,.slice Au lu cu]) (by simp [results,Tryz.results103,go_sem,z0,z1,z2]) rfl ?_;have HF:=HE.UK (v := .agg #[.bool sx,.slice Ax lx cx,.slice Au lu cu]) (s:=sx) (A:=Ax) (n:=lx) (c:=cx) (s':=su) (A':=Au) (n':=lu) (c':=cu) (by repeat (first | exact aZ | assumption | refine .tail _ ?_)) (by repeat (first | exact aZ | assumption | refine .tail _ ?_)) HX0.out HR.out.1 HR.out.2.1 rfl;have HK:=(HF.iG (D:=Ax) (m:=lx) (d:=cx) ak sx (.slice Au lu cu)).bare;exact ⟨_,_,_,_,_,_,_,rfl,(HK.pick (fun e he => .tail _ (.tail _ (.tail _ (.tail _ (.tail _ (.tail _ (.tail _ (he)))))))) (fun _ he=>he)).hd (·.weak af)⟩
end
section
variable {W0 w:World} {bs:List Bx} {L:List En} {ts:List Bt} {M:List Qn} {s s':Bool} {A A' B B':Option Addr} {n c n' c' m d m' d' k k':Nat} {q r:Rat} {x y:Int} {b b':Bool}
set_option maxRecDepth 100000 in
set_option maxHeartbeats 2400000 in
theorem YF(HE:bu W0 w bs L ts M)(h:⟨.agg #[.bool s,.slice A n c,.slice A' n' c'],q,k,b⟩∈M)(hk:k<=1500) :
  Calls Tryz.prog 55 #[.agg #[.bool s,.slice A n c,.slice A' n' c']] w fun e w'=>e = .returned (.int .i64 (iO q))/\bu W0 w' bs L ts M:=by
 refine Calls.mono (R:=fun e w'=>e = .returned (.int .i64 (iO q))/\bu w w' [] L [] M) ?_ fun _ _ hh=>⟨hh.1,HE.back hh.2⟩;replace HE:=HE.here.bY (.bool s) (.slice A n c) (.slice A' n' c');have HS:=Lib.hid (show dW q.num=iO q from (Zp q).symm);obtain ⟨q0,q1,q2,q3,q4,q5⟩:=HE.c3 ak
 go_enter Tryz.func55,Tryz.ntmps55
 go_wp2_with fail
 refine (xx HE h af).mono ?_;clear HE;rintro e w1 ⟨s1,D1,m1,d1,s2,D2,m2,d2,rfl,HE⟩;replace HE:=(HE.bI (.bool s1) (.slice D1 m1 d1)).bI (.bool s2) (.slice D2 m2 d2);simp only [World.size_alloc] at HE;clear q0 q1 q2 q3 q4 q5;obtain ⟨q6,q7,q8,q9⟩:=HE.c2 ak;obtain ⟨q10,q11,q12,q13⟩:=HE.c2 au;obtain ⟨dO,dP,q16,dQ,eu,eF⟩:=HE.c3 ak
 go_wp2_with fail
 refine (zA HE ak af).mono ?_;rw [HS.out];clear HE;rintro e w2 ⟨rfl,HE⟩;clear q6 q7 q8 q9 q10 q11 q12 q13 dO dP q16 dQ eu eF
 go_wp2_with fail
 go_ret
 exact ⟨rfl,HE.bare.pick (fun e he => .tail _ (.tail _ (he))) (fun _ he=>he)⟩
end
section
variable {W0 w:World} {bs:List Bx} {L:List En} {ts:List Bt} {M:List Qn} {s s':Bool} {A A' B B':Option Addr} {n c n' c' m d m' d' k k':Nat} {q r:Rat} {x y:Int} {b b':Bool}
set_option maxRecDepth 100000 in
set_option maxHeartbeats 1600000 in
theorem YC(HE:bu W0 w bs L ts M)(h:⟨.agg #[.bool s,.slice A n c],x,k,b⟩∈L)(h':⟨.agg #[.bool s',.slice A' n' c'],y,k',b'⟩∈L)(hk:k+k'<=4000)(hy:y≠0) :
  Calls Tryz.prog 135 #[.agg #[.bool s,.slice A n c],.agg #[.bool s',.slice A' n' c']] w (fun e w' => ∃ (s:Bool) (A:Option Addr) (n c:Nat) (A':Option Addr) (n' c':Nat),e = .returned (.tuple #[.agg #[.bool s,.slice A n c,.slice A' n' c'],.int .i64 0])/\bu W0 w' bs L ts (⟨.agg #[.bool s,.slice A n c,.slice A' n' c'],Rat.divInt x y,k+1+(k'+1),true⟩::M)):=by
 refine Calls.mono (R:=(fun e w' => ∃ (s:Bool) (A:Option Addr) (n c:Nat) (A':Option Addr) (n' c':Nat),e = .returned (.tuple #[.agg #[.bool s,.slice A n c,.slice A' n' c'],.int .i64 0])/\bu w w' [] L [] (⟨.agg #[.bool s,.slice A n c,.slice A' n' c'],Rat.divInt x y,k+1+(k'+1),true⟩::M))) ?_ fun _ _ hh=>by obtain ⟨s,A,n,c,A',n',c',e1,he⟩:=hh;exact ⟨s,A,n,c,A',n',c',e1,HE.back he⟩
 replace HE:=((HE.here.bI (.bool s) (.slice A n c)).bI (.bool s') (.slice A' n' c')).bY (.bool false) (.slice none 0 0) (.slice none 0 0);simp only [World.size_alloc] at HE;have hs:(dW y==0)=false:=by rw [beq_eq_false_iff_ne];unfold dW;split;decide;first | decide | (rw [if_neg hy];decide)
 have HY:=Lib.hid hy;clear hy;obtain ⟨q0,q1,q2,q3⟩:=HE.c2 ak;obtain ⟨q4,q5,q6,q7⟩:=HE.c2 au;obtain ⟨q8,q9,q10,q11,q12,q13⟩:=HE.c3 ak
 go_enter Tryz.func135,Tryz.ntmps135
 go_wp2_with fail
 refine (zA HE h' af).mono ?_;clear HE;rintro e w1 ⟨rfl,HE⟩;clear q0 q1 q2 q3 q4 q5 q6 q7 q8 q9 q10 q11 q12 q13;obtain ⟨dO,dP,q16,dQ⟩:=HE.c2 ak;obtain ⟨eu,eF,fM,fO⟩:=HE.c2 au;obtain ⟨q22,q23,q24,fU,gJ,gK⟩:=HE.c3 ak
 go_wp2_with fail
 refine (DY HE h h' hk HY.out).mono ?_;clear HE;rintro e w2 ⟨sx,Ax,nx,cx,Ay,ny,cy,rfl,HE⟩;clear dO dP q16 dQ eu eF fM fO q22 q23 q24 fU gJ gK;obtain ⟨z0,z1,z2,z3,z4,z5⟩:=HE.c3 ak
 go_wp2_with fail
 refine bodyPost_ret (v := .tuple #[.agg #[.bool sx,.slice Ax nx cx,.slice Ay ny cy],.int .i64 0]) (by simp [results,Tryz.results135,go_sem,z0,z1,z2]) rfl ?_;exact ⟨_,_,_,_,_,_,_,rfl,(HE.iG (D:=Ax) (m:=nx) (d:=cx) ak sx (.slice Ay ny cy)).bare⟩
end
section
variable {W0 w:World} {bs:List Bx} {L:List En} {ts:List Bt} {M:List Qn} {s s':Bool} {A A':Option Addr} {n c n' c' k k':Nat} {x y:Int} {b b':Bool}
set_option maxRecDepth 100000 in
set_option maxHeartbeats 1600000 in
theorem afk(HE:bu W0 w bs L ts M)(h:⟨.agg #[.bool s,.slice A n c],x,k,b⟩∈L)(h':⟨.agg #[.bool s',.slice A' n' c'],y,k',b'⟩∈L)(hk:k+k'<=40000)(hy:0<y) :
  Calls Tryz.prog 51 #[.agg #[.bool s,.slice A n c],.agg #[.bool s',.slice A' n' c']] w (oQ W0 bs L ts M (Rat.divInt x y) (k+1+(k'+1))):=by
 refine Calls.mono (R:=oQ w [] L [] M (Rat.divInt x y) (k+1+(k'+1))) ?_ fun _ _ hh=>oQ.of HE hh;replace HE:=((HE.here.bI (.bool s) (.slice A n c)).bI (.bool s') (.slice A' n' c')).bY (.bool false) (.slice none 0 0) (.slice none 0 0);simp only [World.size_alloc] at HE;have HS:=Lib.hid (show dW y=1 by unfold dW;rw [if_neg af,if_neg af]);have HY:=Lib.hid hy;clear hy;obtain ⟨q0,q1,q2,q3⟩:=HE.c2 ak;obtain ⟨q4,q5,q6,q7⟩:=HE.c2 au
 go_enter Tryz.func51,Tryz.ntmps51
 go_wp2_with fail
 refine (Np HE h' af).mono ?_;rw [HS.out];clear HE;rintro e w1 ⟨rfl,HE⟩;clear q0 q1 q2 q3 q4 q5 q6 q7;obtain ⟨q0,q1,q2,q3⟩:=HE.c2 ak;obtain ⟨q4,q5,q6,q7⟩:=HE.c2 au
 go_wp2_with fail
 refine (Yu HE h h' hk HY.out).mono ?_;clear HE;rintro e w2 ⟨sx,Ax,nx,cx,Ay,ny,cy,rfl,HE⟩;clear q0 q1 q2 q3 q4 q5 q6 q7;obtain ⟨q0,q1,q2,q3,q4,q5⟩:=HE.c3 ak;have TF:=(HE.fH ak).put (.bool sx) (.slice Ax nx cx) (.slice Ay ny cy)
 go_wp2_with fail
 obtain ⟨x0,x1,x2,-,-,-⟩:=TF.cells;refine bodyPost_ret (v := .tuple #[.agg #[.bool sx,.slice Ax nx cx,.slice Ay ny cy],.nilIface]) (by simp [results,Tryz.results51,go_sem,x0,x1,x2]) rfl ?_;exact ⟨_,_,_,_,_,_,_,rfl,(HE.iG (D:=Ax) (m:=nx) (d:=cx) ak sx (.slice Ay ny cy)).bare⟩
set_option maxRecDepth 100000 in
set_option maxHeartbeats 1600000 in
theorem afm(HE:bu W0 w bs L ts M)(h':⟨.agg #[.bool s',.slice A' n' c'],y,k',b'⟩∈L)(hk:k'<=40000)(hy:y=0) :
  Calls Tryz.prog 51 #[.agg #[.bool s,.slice A n c],.agg #[.bool s',.slice A' n' c']] w (fun e w'=>e = .returned (DW 8)/\bu W0 w' bs L ts M):=by
 refine Calls.mono (R:=fun e w'=>e = .returned (DW 8)/\bu w w' [] L [] M) ?_ fun _ _ hh=>⟨hh.1,HE.back hh.2⟩;replace HE:=((HE.here.bI (.bool s) (.slice A n c)).bI (.bool s') (.slice A' n' c')).bY (.bool false) (.slice none 0 0) (.slice none 0 0);simp only [World.size_alloc] at HE;have HS:=Lib.hid (show dW y=0 by unfold dW;rw [if_neg af,if_pos hy]);clear hy;obtain ⟨q0,q1,q2,q3⟩:=HE.c2 ak
 go_enter Tryz.func51,Tryz.ntmps51
 go_wp2_with fail
 refine (Np HE h' af).mono ?_;rw [HS.out];clear HE;rintro e w1 ⟨rfl,HE⟩;clear q0 q1 q2 q3;obtain ⟨q0,q1,q2,q3,q4,q5⟩:=HE.c3 ak;have TF:=(HE.fH ak).put (.bool false) (.slice none 0 0) (.slice none 0 0)
 go_wp2_with fail
 obtain ⟨x0,x1,x2,-,-,-⟩:=TF.cells;refine bodyPost_ret (v:=DW 8) (by simp [DW,results,Tryz.results51,go_sem,x0,x1,x2]) rfl ?_;exact ⟨rfl,(HE.iG (D:=none) (m:=0) (d:=0) ak false (.slice none 0 0)).bare⟩
end
section
variable {W0 w:World} {bs:List Bx} {L:List En} {ts:List Bt} {M:List Qn} {s s':Bool} {A A' B B':Option Addr} {n c n' c' m d m' d' k k':Nat} {q r:Rat} {x y:Int} {b b':Bool}
set_option maxRecDepth 100000 in
set_option maxHeartbeats 3200000 in
theorem afj(HE:bu W0 w bs L ts M)(h:⟨.agg #[.bool s,.slice A n c],x,k,b⟩∈L)(h':⟨.agg #[.bool s',.slice A' n' c'],y,k',b'⟩∈L)(hk:k+k'<=40000)(hy:y<0) :
  Calls Tryz.prog 51 #[.agg #[.bool s,.slice A n c],.agg #[.bool s',.slice A' n' c']] w (oQ W0 bs L ts M (Rat.divInt x y) (k+1+(k'+1))):=by
 refine Calls.mono (R:=(oQ w [] L [] M (Rat.divInt x y) (k+1+(k'+1)))) ?_ fun _ _ hh=>oQ.of HE hh;replace HE:=((HE.here.bI (.bool s) (.slice A n c)).bI (.bool s') (.slice A' n' c')).bY (.bool false) (.slice none 0 0) (.slice none 0 0);simp only [World.size_alloc] at HE;have HS:=Lib.hid (show dW y = -1 by unfold dW;rw [if_pos af]);have HN:=Lib.hid (Ux x y);have HY:=Lib.hid (show 0 < -y from af);clear hy;rw [<- HN.out];obtain ⟨q0,q1,q2,q3⟩:=HE.c2 ak;obtain ⟨q4,q5,q6,q7⟩:=HE.c2 au;obtain ⟨q8,q9,q10,q11,q12,q13⟩:=HE.c3 ak
 go_enter Tryz.func51,Tryz.ntmps51
 go_wp2_with fail
 refine (Np HE h' af).mono ?_;rw [HS.out];clear HE;rintro e w2 ⟨rfl,HE⟩;clear q0 q1 q2 q3 q4 q5 q6 q7 q8 q9 q10 q11 q12 q13;obtain ⟨dO,dP,q16,dQ⟩:=HE.c2 ak;obtain ⟨eu,eF,fM,fO⟩:=HE.c2 au
 go_wp2_with fail
 go_region_with
  (first
   | (go_at_call 89;have _:=rJ;refine (VR (by with_reducible first | exact HE | exact HE.drew) (.tail _ h') af).mono ?_;rintro e wb ⟨sb,Ab,nb,cb,rfl,HE⟩;obtain ⟨v0,v1,v2,v3⟩:=HE.c2 au;obtain ⟨v4,v5,v6,v7⟩:=HE.c2 ak)
   | (go_at_call 89;refine (VR (by with_reducible first | exact HE | exact HE.drew) h af).mono ?_;rintro e wa ⟨sa,Aa,na,ca,rfl,HE⟩;have rJ:=HE;obtain ⟨u0,u1,u2,u3⟩:=HE.c2 au;obtain ⟨u4,u5,u6,u7⟩:=HE.c2 ak))
 all_goals
  first | clear dO dP q16 dQ eu eF fM fO u0 u1 u2 u3 u4 u5 u6 u7 v0 v1 v2 v3 v4 v5 v6 v7 rJ | skip
  replace HE:=(HE.jr au [⟨w.heap.size+1,.bool s',.slice A' n' c'⟩] (fun b hb=>by simp only [List.mem_cons,List.not_mem_nil,or_false] at hb;subst hb;exact ⟨(by repeat (first | exact aZ | refine .tail _ ?_)),by dsimp only;omega⟩) sa (.slice Aa na ca)).jr au [⟨w.heap.size,.bool sa,.slice Aa na ca⟩] (fun b hb=>by simp only [List.mem_cons,List.not_mem_nil,or_false] at hb;subst hb;exact ⟨(by repeat (first | exact aZ | refine .tail _ ?_)),by dsimp only;omega⟩) sb (.slice Ab nb cb);generalize ((((wb.setCell ⟨w.heap.size,0,none⟩ (.bool sa)).setCell ⟨w.heap.size,1,none⟩ (.slice Aa na ca)).setCell ⟨w.heap.size+1,0,none⟩ (.bool sb)).setCell ⟨w.heap.size+1,1,none⟩ (.slice Ab nb cb))=W5 at *;obtain ⟨q22,q23,q24,fU⟩:=HE.c2 ak;obtain ⟨gJ,gK,gX,gY⟩:=HE.c2 au;obtain ⟨q30,gZ,q32,iI,iJ,q35⟩:=HE.c3 ak
  go_wp2_with fail
  refine (Yu HE (by repeat (first | exact aZ | assumption | refine .tail _ ?_)) (by repeat (first | exact aZ | assumption | refine .tail _ ?_)) af HY.out).mono ?_;clear HE;rintro e w6 ⟨sx,Ax,nx,cx,Ay,ny,cy,rfl,HE⟩;clear q22 q23 q24 fU gJ gK gX gY q30 gZ q32 iI iJ q35;obtain ⟨jd,q37,jy,jX,jY,jZ⟩:=HE.c3 ak;have TF:=(HE.fH ak).put (.bool sx) (.slice Ax nx cx) (.slice Ay ny cy)
  go_wp2_with fail
  obtain ⟨z0,z1,z2,-,-,-⟩:=TF.cells;refine bodyPost_ret (v := .tuple #[.agg #[.bool sx,.slice Ax nx cx,.slice Ay ny cy],.nilIface]) (by simp [results,Tryz.results51,go_sem,z0,z1,z2]) rfl ?_;have HK:=(HE.iG (D:=Ax) (m:=nx) (d:=cx) ak sx (.slice Ay ny cy)).bare;exact ⟨_,_,_,_,_,_,_,rfl,HK.pick (fun e he => .tail _ (.tail _ he)) (fun _ he=>he)⟩
end
section
variable {W0 w:World} {bs:List Bx} {L:List En} {ts:List Bt} {M:List Qn} {s s':Bool} {A A' B B':Option Addr} {n c n' c' m d m' d' k k':Nat} {q r:Rat} {x y:Int} {b b':Bool}
set_option maxRecDepth 100000 in
set_option maxHeartbeats 1600000 in
theorem aj'(HE:bu W0 w bs L ts M)(n1 : -9223372036854775808<=x)(n2:x<=9223372036854775807)(n3 : -9223372036854775808<=y)(n4:y<=9223372036854775807)(hy:y≠0) :
  Calls Tryz.prog 87 #[.int .i64 x,.int .i64 y] w (fun e w' => ∃ (s:Bool) (A:Option Addr) (n c:Nat) (A':Option Addr) (n' c':Nat),e = .returned (.tuple #[.agg #[.bool s,.slice A n c,.slice A' n' c'],.int .i64 0])/\bu W0 w' bs L ts (⟨.agg #[.bool s,.slice A n c,.slice A' n' c'],Rat.divInt x y,6,true⟩::M)):=by
 refine Calls.mono (R:=(fun e w' => ∃ (s:Bool) (A:Option Addr) (n c:Nat) (A':Option Addr) (n' c':Nat),e = .returned (.tuple #[.agg #[.bool s,.slice A n c,.slice A' n' c'],.int .i64 0])/\bu w w' [] L [] (⟨.agg #[.bool s,.slice A n c,.slice A' n' c'],Rat.divInt x y,6,true⟩::M))) ?_ fun _ _ hh=>by obtain ⟨s,A,n,c,A',n',c',e1,he⟩:=hh;exact ⟨s,A,n,c,A',n',c',e1,HE.back he⟩
 replace HE:=HE.here.bY (.bool false) (.slice none 0 0) (.slice none 0 0);have HN:=Lib.hid (show (-9223372036854775808<=x/\x<=9223372036854775807) /\ -9223372036854775808<=y/\y<=9223372036854775807 from ⟨⟨n1,n2⟩,n3,n4⟩);have HY:=Lib.hid hy;clear n1 n2 n3 n4 hy;obtain ⟨q0,q1,q2,q3,q4,q5⟩:=HE.c3 ak
 go_enter Tryz.func87,Tryz.ntmps87
 go_wp2_with fail
 refine (Jw HE HN.out.1.1 HN.out.1.2).mono ?_;clear HE;rintro e w1 ⟨s1,A1,n1,c1,rfl,HE⟩;clear q0 q1 q2 q3 q4 q5
 go_wp2_with fail
 refine (Jw HE HN.out.2.1 HN.out.2.2).mono ?_;clear HE;rintro e w2 ⟨s2,A2,n2,c2,rfl,HE⟩
 go_wp2_with fail
 refine (YC HE au ak af HY.out).mono ?_;clear HE;rintro e w3 ⟨sx,Ax,nx,cx,Ay,ny,cy,rfl,HE⟩;obtain ⟨q6,q7,q8,q9,q10,q11⟩:=HE.c3 ak
 go_wp2_with fail
 refine bodyPost_ret (v := .tuple #[.agg #[.bool sx,.slice Ax nx cx,.slice Ay ny cy],.int .i64 0]) (by simp [results,Tryz.results87,go_sem,q6,q7,q8]) rfl ?_;have HK:=(HE.iG (D:=Ax) (m:=nx) (d:=cx) ak sx (.slice Ay ny cy)).bare;exact ⟨_,_,_,_,_,_,_,rfl,HK.pick (fun e he => .tail _ (.tail _ he)) (fun _ he=>he)⟩
end
section
variable {W0 w:World} {bs:List Bx} {L:List En} {ts:List Bt} {M:List Qn} {v v':Value} {q r:Rat} {k k':Nat} {b b':Bool}
theorem akf(HE:bu W0 w bs L ts M)(h:⟨v,q,k,b⟩∈M)(hk:k<=900) :
  Calls Tryz.prog 55 #[v] w fun e w'=>e = .returned (.int .i64 (iO q))/\bu W0 w' bs L ts M:=by
 obtain ⟨s,A,n,c,A',n',c',e1⟩:=(HE.fr _ h).shape;dsimp only at e1;subst e1;exact YF HE h af
end
end Go.Proofs.BGQ
namespace Lw
open Go Go.RowKit
def pJ(w:World)(g:Nat)(t:TypeId)(a b c d:Value):Prop:=w.heap[g]? = some (.cells #[a,b,c,d] t (0,0))
section
variable {w w':World} {g:Nat} {t:TypeId} {a b c d:Value}
theorem pJ.lt(h:pJ w g t a b c d):g<w.heap.size:=by
 rcases auA g w.heap.size with hlt | hge
 ·exact hlt
 ·unfold pJ at h;rw [avG hge] at h;cases h
theorem pJ.new(w:World)(t:TypeId)(a b c d:Value):pJ (w.alloc (.cells #[a,b,c,d] t)) w.heap.size t a b c d:=heap_alloc_new w _
theorem pJ.next(h:pJ w g t a b c d)(hb:Below w.heap.size w w'):pJ w' g t a b c d:=(hb.block g h.lt).trans h
theorem pJ.cells(h:pJ w g t a b c d):w.cell? ⟨g,0,none⟩=some a/\w.cell? ⟨g,1,none⟩=some b/\w.cell? ⟨g,2,none⟩=some c/\w.cell? ⟨g,3,none⟩=some d:=by
 unfold pJ at h;exact ⟨by rw [cell_of_row w g 0 _ t (0,0) h];rfl,by rw [cell_of_row w g 1 _ t (0,0) h];rfl,by rw [cell_of_row w g 2 _ t (0,0) h];rfl,by rw [cell_of_row w g 3 _ t (0,0) h];rfl⟩
end
end Lw
namespace Go.Proofs.BGQ
open Go Go.RowKit Lw
def Kv(W0:World)(bs:List Bx)(L:List En)(ts:List Bt)(M:List Qn)(q:Rat)(k:Nat)(er:Value)(e:Ending)(w':World):Prop :=
 ∃ (s:Bool) (A:Option Addr) (n c:Nat) (A':Option Addr) (n' c':Nat),e = .returned (.tuple #[.agg #[.bool s,.slice A n c,.slice A' n' c'],er])/\bu W0 w' bs L ts (⟨.agg #[.bool s,.slice A n c,.slice A' n' c'],q,k,true⟩::M)
section
variable {W0 w:World} {bs:List Bx} {L:List En} {ts:List Bt} {M:List Qn} {v v':Value} {q r:Rat} {x y:Int} {k k':Nat} {b b':Bool}
theorem Kv.weak{k K:Nat}{er:Value}{e:Ending}(h:Kv W0 bs L ts M q k er e w)(hk:k<=K):Kv W0 bs L ts M q K er e w:=by
 obtain ⟨s,A,n,c,A',n',c',e1,he⟩:=h;exact ⟨s,A,n,c,A',n',c',e1,he.hd (·.weak hk)⟩
theorem akh(HE:bu W0 w bs L ts M)(h:⟨v,q,k,b⟩∈M)(hk:k<=3000) :
  Calls Tryz.prog 54 #[v] w fun e w'=>e = .returned (.bool b)/\bu W0 w' bs L ts M:=by
 obtain ⟨s,A,n,c,A',n',c',e1⟩:=(HE.fr _ h).shape;dsimp only at e1;subst e1;exact Ju HE h hk
end
section
variable {W0 w:World} {bs:List Bx} {L:List En} {ts:List Bt} {M:List Qn} {s s':Bool} {A A' B B':Option Addr} {n c n' c' m d m' d' k k':Nat} {q r:Rat} {x y:Int} {b b':Bool}
instance (x:Int):Decidable (Sq x):=inferInstanceAs (Decidable (_/\_))
end
end Go.Proofs.BGQ
namespace Lw
open Go Go.RowKit bG
theorem Rd.keeps{w w':World}{gs:List Nat}{A:Option Addr}{ns:List Nat}(h:Rd w w.heap.size A ns)(ha:oU gs w w'):Rd w' w'.heap.size A ns:=by
 refine ⟨h.1,fun hn => ?_⟩;obtain ⟨b,off,rfl,hb,hc⟩:=h.2 hn
 have hsame:w'.heap[b]? = w.heap[b]? := by
  refine ha.same b hb (fun hm => ?_);obtain ⟨c,t,f,h1,h2⟩:=(ha.soft b hm hb).1;have h0:=hc 0 hn;unfold World.cell? at h0;simp only [h1] at h0;have h3:=h2 (off+0) _ (by simpa using h0)
  cases h3
 refine ⟨b,off,rfl,auD hb ha.size,fun j hj => ?_⟩;rw [<- hc j hj];exact World.cell?_of_block (w:=w) hsame
theorem bV.stable(e:Qn):Stable (fun w=>bV w e):=fun gs w w' ha h=>by
 obtain ⟨s,A,n,c,A',n',c',ns,ms,h1,h2,h3,h4⟩:=h;exact ⟨s,A,n,c,A',n',c',ns,ms,h1,h2.keeps ha,h3.keeps ha,h4⟩
theorem dJ.stable(e:En):Stable (fun w=>dJ w e):=fun gs w w' ha h=>by
 obtain ⟨s,A,n,c,ns,B,h1,h2,h3,h4⟩:=h;exact ⟨s,A,n,c,ns,w'.heap.size,h1,(h2.more h3).keeps ha,aut _,h4⟩
def FV(v:Value)(q:Rat)(k:Nat)(b:Bool)(w:World):Prop:=bV w ⟨v,q,k,b⟩
def FI(v:Value)(z:Int)(k:Nat)(w:World):Prop:=dJ w ⟨v,z,k,true⟩
theorem FV.stable(v:Value)(q:Rat)(k:Nat)(b:Bool):Stable (FV v q k b):=bV.stable _
theorem FI.stable(v:Value)(z:Int)(k:Nat):Stable (FI v z k):=dJ.stable _
theorem FV.shape{v:Value}{q:Rat}{k:Nat}{b:Bool}{w:World}(h:FV v q k b w) : ∃ (s:Bool) (A:Option Addr) (n c:Nat) (A':Option Addr) (n' c':Nat),v=(aup s A n c A' n' c'):=by
 obtain ⟨s,A,n,c,A',n',c',_,_,h1,_⟩:=h;grind
theorem FV.weak{v:Value}{q:Rat}{k K:Nat}{w:World}(h:FV v q k true w)(hk:k<=K):FV v q K true w:=bV.weak h hk
theorem FI.weak{v:Value}{z:Int}{k K:Nat}{w:World}(h:FI v z k w)(hk:k<=K):FI v z K w:=dJ.weak h hk
theorem FV.as{v:Value}{q r:Rat}{k K:Nat}{w:World}(h:FV v q k true w)(hq:q=r)(hk:k<=K):FV v r K true w:=hq ▸ h.weak hk
theorem FI.as{v:Value}{z y:Int}{k K:Nat}{w:World}(h:FI v z k w)(hq:z=y)(hk:k<=K):FI v y K w:=hq ▸ h.weak hk
theorem FV.zero(k:Nat)(w:World):FV ajq 0 k true w :=
 ⟨false,none,0,0,none,0,0,[],[],rfl,Rd.nil_ _ _ _,Rd.nil_ _ _ _,rfl,rfl,auw _,auw _,aut _,aut _,rfl,rfl⟩
theorem FI.zero(w:World):FI (.agg #[.bool false,.slice none 0 0]) 0 0 w:=⟨false,none,0,0,[],0,rfl,Rd.nil_ _ _ _,auw _,rfl,aut _,aut _,rfl,rfl⟩
section
variable (W0:World) (U:List Box) (Ps:List (World->Prop))
def dI(v:Value)(u:Value)(w:World):Prop:=u=v/\St W0 U Ps w
def lJ(q:Rat)(k:Nat)(u:Value)(w:World):Prop := ∃ (s:Bool) (A:Option Addr) (n c:Nat) (B:Option Addr) (m d:Nat),u=(aup s A n c B m d)/\St W0 U (FV (aup s A n c B m d) q k true::Ps) w
def nK(z:Int)(k:Nat)(u:Value)(w:World):Prop := ∃ (s:Bool) (A:Option Addr) (n c:Nat),u = .agg #[.bool s,.slice A n c]/\St W0 U (FI (.agg #[.bool s,.slice A n c]) z k::Ps) w
def mP(q:Rat)(k:Nat)(er:Value)(u:Value)(w:World):Prop := ∃ (s:Bool) (A:Option Addr) (n c:Nat) (B:Option Addr) (m d:Nat),u = .tuple #[(aup s A n c B m d),er]/\St W0 U (FV (aup s A n c B m d) q k true::Ps) w
def QK(x y:Int)(k:Nat)(u:Value)(w:World):Prop := ∃ (s:Bool) (A:Option Addr) (n c:Nat) (s':Bool) (A':Option Addr) (n' c':Nat),u = .tuple #[.agg #[.bool s,.slice A n c],.agg #[.bool s',.slice A' n' c']]/\St W0 U (FI (.agg #[.bool s,.slice A n c]) x k::FI (.agg #[.bool s',.slice A' n' c']) y k::Ps) w
end
theorem St.init(W:World):St W [] [] W:=⟨Below.refl _ _,(fun _ h=>by cases h),(fun _ h=>by cases h),.nil,(fun _ h=>by cases h),(fun _ h=>by cases h)⟩
theorem law_true{P:Program}{f:FuncId}{vs:List Value}{W:World}(h:bF P f vs W (dI W [] [] (.bool true))):Calls P f vs.toArray W fun e w'=>e = .returned (.bool true)/\Below W.heap.size W w' :=
 Calls.mono h fun e w' hh=>by
  obtain ⟨v,rfl,rfl,hs⟩:=hh;exact ⟨rfl,hs.below⟩
end Lw
namespace Go.Proofs.BGQ
open Go Go.RowKit Lw bG
section
variable {W0 w w':World} {U:List Box} {Ps:List (World->Prop)} {v v':Value} {q r:Rat} {x y:Int} {k k':Nat} {b b':Bool} {f:FuncId} {vs:List Value} {L:List En} {M:List Qn}
section
variable {b1 s1 s2:Bool} {x1 x2 z1:Int} {c1 c2 d1 k1 k2 m1 n1 n2:Nat} {A1 A2 B1:Option Addr} {q1:Rat}
theorem St.start(HS:St W0 U Ps w)(ht:Tz W0)(hb:Tab W0):bu w w [] [] [] []:=bu.start (ht.next HS.below) (hb.next HS.below)
theorem wM(HS:St W0 U Ps w)(h:Calls Tryz.prog f vs.toArray w (kH w [] L [] M q k)):bF Tryz.prog f vs w (lJ W0 U Ps q k) :=
 h.mono fun e w' hh=>by
  obtain ⟨u,rfl,he⟩:=hh;obtain ⟨s,A,n,c,A',n',c',e1⟩:=(he.fr _ ak).shape;dsimp only at e1;subst e1;exact ⟨_,rfl,s,A,n,c,A',n',c',rfl,(HS.next he.below).add (FV.stable _ q k true) (he.fr _ ak)⟩
theorem Ik(HS:St W0 U Ps w)(h:Calls Tryz.prog f vs.toArray w (gV w [] L [] M x k)):bF Tryz.prog f vs w (nK W0 U Ps x k) :=
 h.mono fun e w' hh=>by
  obtain ⟨s,A,n,c,rfl,he⟩:=hh;exact ⟨_,rfl,s,A,n,c,rfl,(HS.next he.below).add (FI.stable _ x k) (he.env.ops _ ak)⟩
theorem uo(HS:St W0 U Ps w){u:Value}(h:Calls Tryz.prog f vs.toArray w (fun e w'=>e = .returned u/\bu w w' [] L [] M)):bF Tryz.prog f vs w (dI W0 U Ps u) :=
 h.mono fun e w' hh=>by
  obtain ⟨rfl,he⟩:=hh;exact ⟨_,rfl,rfl,HS.next he.below⟩
theorem Aw(HS:St W0 U Ps w){er:Value}(h:Calls Tryz.prog f vs.toArray w (fun e w' => ∃ (s:Bool) (A:Option Addr) (n c:Nat) (A':Option Addr) (n' c':Nat),e = .returned (.tuple #[(aup s A n c A' n' c'),er])/\bu w w' [] L [] (⟨(aup s A n c A' n' c'),q,k,true⟩::M))):bF Tryz.prog f vs w (mP W0 U Ps q k er) :=
 h.mono fun e w' hh=>by
  obtain ⟨s,A,n,c,A',n',c',rfl,he⟩:=hh;exact ⟨_,rfl,s,A,n,c,A',n',c',rfl,(HS.next he.below).add (FV.stable _ q k true) (he.fr _ ak)⟩
theorem afI(HS:St W0 U Ps w)(h:Calls Tryz.prog f vs.toArray w (nN w [] L [] M x y k)):bF Tryz.prog f vs w (QK W0 U Ps x y k) :=
 h.mono fun e w' hh=>by
  obtain ⟨s,A,n,c,s',A',n',c',rfl,he⟩:=hh;exact ⟨_,rfl,s,A,n,c,s',A',n',c',rfl,((HS.next he.below).add (FI.stable _ y k) (he.env.ops _ au)).add (FI.stable _ x k) (he.env.ops _ ak)⟩
theorem DX(HT:Tz W0)(HB:Tab W0)(HS:St W0 U Ps w){B2:Option Addr}{m2 d2:Nat}{q2:Rat}{b2:Bool}(f1:FV (aup s1 A1 n1 c1 B1 m1 d1) q1 k1 b1 w)(f2:FV (aup s2 A2 n2 c2 B2 m2 d2) q2 k2 b2 w)(hk:k1+k2<=8000):bF Tryz.prog 46 [(aup s1 A1 n1 c1 B1 m1 d1),(aup s2 A2 n2 c2 B2 m2 d2)] w (dI W0 U Ps (.int .i64 (eU q1 q2))) :=
 uo HS (ae6 (((St.start HS HT HB).cons f2).cons f1) ak au hk)
theorem UO(HT:Tz W0)(HB:Tab W0)(HS:St W0 U Ps w)(f1:FV (aup s1 A1 n1 c1 B1 m1 d1) q1 k1 b1 w)(hk:k1<=100000):bF Tryz.prog 56 [(aup s1 A1 n1 c1 B1 m1 d1)] w (dI W0 U Ps (.bool b1)) :=
 uo HS (afq ((St.start HS HT HB).cons f1) ak hk)
theorem L6(HT:Tz W0)(HB:Tab W0)(HS:St W0 U Ps w)(f1:FV (aup s1 A1 n1 c1 B1 m1 d1) q1 k1 b1 w)(hk:k1<=100000):bF Tryz.prog 110 [(aup s1 A1 n1 c1 B1 m1 d1)] w (QK W0 U Ps (q1.num) ((q1.den:Int)) (k1+2)) :=
 afI HS (afi ((St.start HS HT HB).cons f1) ak hk)
theorem aj9(HT:Tz W0)(HB:Tab W0)(HS:St W0 U Ps w){z2:Int}(h1 : -9223372036854775808<=z1)(h2:z1<=9223372036854775807)(h3 : -9223372036854775808<=z2)(h4:z2<=9223372036854775807)(hy:z2≠0):bF Tryz.prog 87 [.int .i64 z1,.int .i64 z2] w (mP W0 U Ps (Rat.divInt z1 z2) (6) (.int .i64 0)) :=
 Aw HS (aj' (St.start HS HT HB)  h1 h2 h3 h4 hy)
theorem BB(HT:Tz W0)(HB:Tab W0)(HS:St W0 U Ps w)(f1:FV (aup s1 A1 n1 c1 B1 m1 d1) q1 k1 b1 w)(hk:k1<=900):bF Tryz.prog 55 [(aup s1 A1 n1 c1 B1 m1 d1)] w (dI W0 U Ps (.int .i64 (iO q1))) :=
 uo HS (akf ((St.start HS HT HB).cons f1) ak hk)
theorem YH(HT:Tz W0)(HB:Tab W0)(HS:St W0 U Ps w)(f1:FV (aup s1 A1 n1 c1 B1 m1 d1) q1 k1 b1 w)(hk:k1<=3000):bF Tryz.prog 54 [(aup s1 A1 n1 c1 B1 m1 d1)] w (dI W0 U Ps (.bool b1)) :=
 uo HS (akh ((St.start HS HT HB).cons f1) ak hk)
theorem agL(HT:Tz W0)(HB:Tab W0)(HS:St W0 U Ps w)(f1:FI (.agg #[.bool s1,.slice A1 n1 c1]) x1 k1 w)(f2:FI (.agg #[.bool s2,.slice A2 n2 c2]) x2 k2 w)(hk:k1+k2<=100000):bF Tryz.prog 70 [.agg #[.bool s1,.slice A1 n1 c1],.agg #[.bool s2,.slice A2 n2 c2]] w (nK W0 U Ps (x1+x2) (k1+k2+1)) :=
 Ik HS (VO (((St.start HS HT HB).push f2).push f1) ak au hk)
theorem agP(HT:Tz W0)(HB:Tab W0)(HS:St W0 U Ps w)(f1:FI (.agg #[.bool s1,.slice A1 n1 c1]) x1 k1 w)(f2:FI (.agg #[.bool s2,.slice A2 n2 c2]) x2 k2 w)(hk:k1+k2<=100000):bF Tryz.prog 69 [.agg #[.bool s1,.slice A1 n1 c1],.agg #[.bool s2,.slice A2 n2 c2]] w (nK W0 U Ps (x1*x2) (k1+k2+1)) :=
 Ik HS (AB (((St.start HS HT HB).push f2).push f1) ak au hk)
theorem agS(HT:Tz W0)(HB:Tab W0)(HS:St W0 U Ps w)(h1 : -9223372036854775808<=z1)(h2:z1<=9223372036854775807):bF Tryz.prog 121 [.int .i64 z1] w (nK W0 U Ps (z1) (2)) :=
 Ik HS (II (St.start HS HT HB)  h1 h2)
theorem afl(HT:Tz W0)(HB:Tab W0)(HS:St W0 U Ps w)(f2:FI (.agg #[.bool s2,.slice A2 n2 c2]) x2 k2 w)(hk:k2<=40000)(hy:x2=0):bF Tryz.prog 51 [.agg #[.bool s1,.slice A1 n1 c1],.agg #[.bool s2,.slice A2 n2 c2]] w (dI W0 U Ps (DW 8)) :=
 uo HS (afm ((St.start HS HT HB).push f2) ak hk hy)
end
end
end Go.Proofs.BGQ
