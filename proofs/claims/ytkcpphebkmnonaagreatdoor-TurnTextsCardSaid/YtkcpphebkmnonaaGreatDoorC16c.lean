/- Part of a proof, said shortly. -/
import Derived.Deep.RegionHeld3
import Derived.Deep.RegionWith
import Derived.Test.YtkcpphebkmnonaaGreatDoorAlzc
import Derived.Test.YtkcpphebkmnonaaGreatDoorC12c
import Derived.Test.YtkcpphebkmnonaaGreatDoorC10c
import Derived.Test.YtkcpphebkmnonaaGreatDoorC9c
import Derived.Test.YtkcpphebkmnonaaGreatDoorC8c
import Derived.Test.YtkcpphebkmnonaaGreatDoorC5c
import Derived.Test.YtkcpphebkmnonaaGreatDoorC2c
import Derived.Test.YtkcpphebkmnonaaGreatDoorC1c
import Derived.Test.YtkcpphebkmnonaaGreatDoorC4c
import Derived.Test.YtkcpphebkmnonaaGreatDoorC3c
import Derived.Test.YtkcpphebkmnonaaGreatDoorC7c
import Derived.Test.YtkcpphebkmnonaaGreatDoorC6c
import Derived.Test.YtkcpphebkmnonaaGreatDoorC15c
import Derived.Test.YtkcpphebkmnonaaGreatDoorC13c
import Derived.Test.YtkcpphebkmnonaaGreatDoorC14c
namespace Go.Proofs.BGQ
open Go Go.RowKit Lw
section
variable {W0 w:World} {bs:List Bx} {L:List En} {ts:List Bt} {M:List Qn} {v v':Value} {x y:Int} {k k':Nat} {b b':Bool}
theorem Am{z:Int}(HE:bu W0 w bs L ts M)(h1 : -9223372036854775808<=z)(h2:z<=9223372036854775807) :
  Calls Tryz.prog 104 #[.int .i64 z] w (fC W0 bs L ts M z 2):=(adw HE.env.here h1 h2).mono fun _ _ hh=>HE.qH hh
theorem qW(HE:bu W0 w bs L ts M)(h:⟨v,x,k,b⟩∈L)(hk:k<=100000) :
  Calls Tryz.prog 100 #[v] w fun e w'=>e = .returned (.int .i64 (dD x))/\bu W0 w' bs L ts M:=(QX HE.env.here h hk).mono fun _ _ hh=>⟨hh.1,HE.step hh.2⟩
theorem DV(HE:bu W0 w bs L ts M)(h:⟨v,x,k,b⟩∈L)(hk:k<=10000) :
  Calls Tryz.prog 108 #[v] w (fC W0 bs L ts M (-x) k):=(QS HE.env.here h hk).mono fun _ _ hh=>HE.qH hh
theorem QJ(HE:bu W0 w bs L ts M)(h:⟨v,x,k,b⟩∈L)(h':⟨v',y,k',b'⟩∈L)(hk:k<=10000/\k'<=10000) :
  Calls Tryz.prog 107 #[v,v'] w (fC W0 bs L ts M (x+y) (k+k'+1)) :=
 (QO HE.env.here h h' hk).mono fun _ _ ⟨A,c,e1,_,_,he⟩=>⟨_,A,_,c,e1,HE.step he⟩
theorem DU(HE:bu W0 w bs L ts M)(h:⟨v,x,k,b⟩∈L)(h':⟨v',y,k',b'⟩∈L)(hk:k<=10000/\k'<=10000) :
  Calls Tryz.prog 105 #[v,v'] w (fC W0 bs L ts M (x*y) (k+k'+1)) :=
 (adu HE.env.here h h' hk).mono fun _ _ ⟨A,c,e1,_,_,he⟩=>⟨_,A,_,c,e1,HE.step he⟩
theorem QL(HE:bu W0 w bs L ts M)(h:⟨v,x,k,b⟩∈L)(h':⟨v',y,k',b'⟩∈L)(hk:k<=10000/\k'<=10000) :
  Calls Tryz.prog 96 #[v,v'] w fun e w'=>e = .returned (.int .i64 (eY x y))/\bu W0 w' bs L ts M:=(adp HE.env.here h h' hk).mono fun _ _ hh=>⟨hh.1,HE.step hh.2⟩
theorem Jf(HE:bu W0 w bs L ts M)(h:⟨v,x,k,b⟩∈L)(h':⟨v',y,k',b'⟩∈L)(hk:k+k'<=10000) :
  Calls Tryz.prog 97 #[v,v'] w (fC W0 bs L ts M ((Nat.gcd x.natAbs y.natAbs:Nat):Int) (k+k'+1)):=(ads HE.env.here h h' hk).mono fun _ _ hh=>HE.qH hh
theorem DJ(HE:bu W0 w bs L ts M)(h:⟨v,x,k,b⟩∈L)(h':⟨v',y,k',b'⟩∈L)(hk:k+k'<=10000)(hy:y≠0) :
  Calls Tryz.prog 148 #[v,v'] w fun e w' => ∃ (s s':Bool) (D D':Option Addr) (m d m' d':Nat),e = .returned (.tuple #[.agg #[.bool s,.slice D m d],.agg #[.bool s',.slice D' m' d'],.int .i64 0]) /\
   bu W0 w' bs (⟨.agg #[.bool s,.slice D m d],x/y,k+1,true⟩::⟨.agg #[.bool s',.slice D' m' d'],x%y,k',true⟩::L) ts M:=by
 have H1:=HE.env.ops _ h;have H2:=HE.env.ops _ h';have hz:=PM hy H1.lt;have hz':=PO (x:=x) hy H2.lt;obtain ⟨s,A,n,c,ns,B,e1,h2,h3,h4,h5,h6,e7,h8⟩:=H1;obtain ⟨s',A',n',c',ns',B',e1',h2',h3',h4',h5',h6',dZ,h8'⟩:=H2;dsimp only at e1 e7 e1' dZ h5 h5' hz hz';subst e1 e1' e7 dZ;refine (adh s s' A A' ns ns' n n' c c' B B' w h2 h2' h3 h3' h4 h4' af af h6 h6' hy).mono ?_;rintro e w' ⟨A9,A8,c9,c8,rfl,dM,hc8,dS,kK,hb⟩;exact ⟨_,_,A9,A8,_,c9,_,c8,rfl,((HE.next hb).push (Ai kK hc8 hz')).push (Ai dS dM hz)⟩
end
end Go.Proofs.BGQ
namespace Lw
theorem Yr{s:Bool}{ns ms:List Nat}{n m:Nat}(hn:ns.length=n)(hm:ms.length=m)(h:¬ (n=0/\m=0)) :
  fV s ns ms=((decide (0<n)&&vB false ns)&&((decide (0<m)&&vB false ms)&&cp ns ms)):=by
 unfold fV;rw [hn,hm]
 by_cases h1:n=0
 ·rw [if_pos (.inl h1),decide_eq_false (by omega:¬ n=m),decide_eq_false (by omega:¬ 0<n)];rfl
 ·by_cases h2:m=0
  ·rw [if_pos (.inr h2),decide_eq_false (by omega:¬ n=m),decide_eq_false (by omega:¬ 0<m)];simp
  ·rw [if_neg af,decide_eq_true (by omega:0<n),decide_eq_true (by omega:0<m)];simp
theorem Xl(ns ms:List Nat):(eY ((Nat.gcd (val ns) (val ms):Nat):Int) 1==0)=cp ns ms:=by
 unfold eY cp;grind
theorem Uj{ns:List Nat}(h:vB false ns=true):zv false ns=(val ns:Int):=by unfold zv;rw [if_pos h];rfl
end Lw
namespace Go.Proofs.BGQ
open Go Go.RowKit Lw
set_option maxRecDepth 100000 in
set_option maxHeartbeats 800000 in
theorem Rl(A:Option Addr)(ns:List Nat)(n c B:Nat)(w:World)(h:Rd w B A ns)(_hB:B<=w.heap.size)(hn:ns.length=n)(hl:n<=16777216) :
  Calls Tryz.prog 95 #[.slice A n c] w fun e w'=>e = .returned (.bool (decide (0<n)&&vB false ns))/\w=w':=by
 have Hn:=Lib.hid hn;clear hn
 by_cases h0:n=0
 ·subst h0
  go_enter Tryz.func95,Tryz.ntmps95
  go_wp2_with fail
  go_ret
  exact ⟨rfl,rfl⟩
 ·obtain ⟨b,off,rfl,hb,hcell,hlt⟩:=h.at_ (k:=n-1) (by rw [Hn.out];omega)
  go_enter Tryz.func95,Tryz.ntmps95
  go_wp2_with fail
  go_ret
  refine ⟨iP ?_,rfl⟩;rw [decide_eq_true (by omega:0<n),Bool.true_and];unfold vB;rw [if_neg (by rw [Hn.out];exact h0),Hn.out,Bool.eq_iff_iff,bne_iff_ne,bne_iff_ne];exact not_congr Int.ofNat_inj
section
variable {W0 w:World} {bs:List Bx} {L:List En} {ts:List Bt} {M:List Qn} {s:Bool} {A A':Option Addr} {n c n' c' k:Nat} {q:Rat} {b:Bool}
set_option maxRecDepth 100000 in
set_option maxHeartbeats 1600000 in
theorem Ah(HE:bu W0 w bs L ts M):Calls Tryz.prog 98 #[] w (fC W0 bs L ts M 1 2):=by
 refine Calls.mono (R:=fC w [] L [] M 1 2) ?_ fun _ _ hh=>fC.of HE hh;replace HE:=HE.here.bV (.bool false) (.slice none 0 0)
 go_enter Tryz.func98,Tryz.ntmps98
 go_wp2_with fail
 refine (Am HE af af).mono ?_;rintro e w1 ⟨s1,A1,n1,c1,rfl,HE⟩;obtain ⟨q0,q1,q2,q3⟩:=HE.c2 ak
 go_wp2_with fail
 refine bodyPost_ret (v := .agg #[.bool s1,.slice A1 n1 c1]) (by simp [results,Tryz.results98,go_sem,q0,q1]) rfl ?_;exact ⟨_,_,_,_,rfl,HE.done2 ak s1 (.slice A1 n1 c1)⟩
set_option maxRecDepth 100000 in
set_option maxHeartbeats 3200000 in
theorem DR(HE:bu W0 w bs L ts M)(h:⟨.agg #[.bool s,.slice A n c,.slice A' n' c'],q,k,b⟩∈M)(hk:k<=3000) :
  Calls Tryz.prog 54 #[.agg #[.bool s,.slice A n c,.slice A' n' c']] w fun e w'=>e = .returned (.bool b)/\bu W0 w' bs L ts M:=by
 refine Calls.mono (R:=fun e w'=>e = .returned (.bool b)/\bu w w' [] L [] M) ?_ fun _ _ hh=>⟨hh.1,HE.back hh.2⟩;obtain ⟨s',A1,n1,c1,A2,n2,c2,ns,ms,h1,r1,r2,e2,e3,e4,e5,e6,e7,e8,e9⟩:=HE.fr _ h;dsimp only at h1 e4 e5 e9
 injection h1 with h1
 injection h1 with h1;simp only [List.cons.injEq,Value.bool.injEq,Value.slice.injEq,and_true] at h1;obtain ⟨rfl,⟨rfl,rfl,rfl⟩,rfl,rfl,rfl⟩:=h1;replace HE:=HE.here.dF (.bool s) (.slice A n c) (.slice A' n' c');obtain ⟨q0,q1,q2,q3,q4,q5⟩:=HE.c3 ak
 by_cases h0:n=0/\n'=0
 ·obtain ⟨h1,h2⟩:=h0
  have HV:=Lib.hid (show (!s)=b by rw [<- e9];unfold fV;rw [if_pos (.inl af),e2,e3,decide_eq_true (by omega:n=n')];rfl);subst h1 h2;clear e2 e3 e4 e5 e6 e7 e8 e9 r1 r2 h
  go_enter aog,aoh
  go_wp2_with fail
  go_ret
  exact ⟨iP HV.out,HE.bare⟩
 ·have hp:=fun W hb=>Rl A ns n c w.heap.size W (r1.next hb (aoG _)) (Below.size hb) e2 af
  have hp':=fun W hb=>Rl A' ms n' c' w.heap.size W (r2.next hb (aoG _)) (Below.size hb) e3 af;have hV:=Yr (s:=s) e2 e3 h0;rw [e9] at hV;have o1:=fun (hv:vB false ns=true) (W:World) (hb:Below w.heap.size w W)=>(show dB W ⟨.agg #[.bool false,.slice A n c],(val ns:Int),k,true⟩ from ⟨false,A,n,c,ns,w.heap.size,rfl,r1.next hb (aoG _),hb.size,e2,e4,e6,Uj hv,hv⟩);have o2:=fun (hv:vB false ms=true) (W:World) (hb:Below w.heap.size w W)=>(show dB W ⟨.agg #[.bool false,.slice A' n' c'],(val ms:Int),k,true⟩ from ⟨false,A',n',c',ms,w.heap.size,rfl,r2.next hb (aoG _),hb.size,e3,e5,e7,Uj hv,hv⟩);have HC:=Lib.hid (Xl ns ms);have HP:=Lib.hid hp;have yB:=Lib.hid hp';have HV:=Lib.hid hV;have O1:=Lib.hid o1;have O2:=Lib.hid o2;have HH:Hid (n≠0\/n'≠0):=Lib.hid af;clear hp hp' hV o1 o2 e2 e3 e4 e5 e6 e7 e8 e9 r1 r2 h h0
  cases g1:(decide (0<n)&&vB false ns)
  ·have yC:=Lib.hid (show ∀ W,Below w.heap.size w W->Calls Tryz.prog 95 #[.slice A n c] W fun e w'=>e = .returned (.bool false)/\W=w' by have:=HP.out;rwa [g1] at this)
   have HB:=Lib.hid (show b=false by rw [HV.out,g1];rfl);clear HP yB HV O1 O2 g1 HC
   by_cases h0:n=0
   ·have hm:=HH.out
    have hqm:((n':Int)==0)=false:=by rw [beq_eq_false_iff_ne];omega
    subst h0;clear hm
    go_enter aog,aoh
    go_wp2_with fail
    refine (yC.out _ HE.below).mono ?_;rintro e w1 ⟨rfl,rfl⟩
    go_wp2_with fail
    go_ret
    exact ⟨iP HB.out.symm,HE.bare⟩
   ·have qL:((n:Int)==0)=false:=by rw [beq_eq_false_iff_ne];omega
    clear h0
    go_enter aog,aoh
    go_wp2_with fail
    refine (yC.out _ HE.below).mono ?_;rintro e w1 ⟨rfl,rfl⟩
    go_wp2_with fail
    go_ret
    exact ⟨iP HB.out.symm,HE.bare⟩
  ·have yC:=Lib.hid (show ∀ W,Below w.heap.size w W->Calls Tryz.prog 95 #[.slice A n c] W fun e w'=>e = .returned (.bool true)/\W=w' by have:=HP.out;rwa [g1] at this)
   have hg:=g1;rw [Bool.and_eq_true,decide_eq_true_iff] at hg;have qL:((n:Int)==0)=false:=by rw [beq_eq_false_iff_ne];omega
   have O3:=Lib.hid (O1.out hg.2);clear O1 HP hg
   cases g2:(decide (0<n')&&vB false ms)
   ·have HP2:=Lib.hid (show ∀ W,Below w.heap.size w W->Calls Tryz.prog 95 #[.slice A' n' c'] W fun e w'=>e = .returned (.bool false)/\W=w' by have:=yB.out;rwa [g2] at this)
    have HB:=Lib.hid (show b=false by rw [HV.out,g1,g2];rfl);clear yB HV O2 O3 g1 g2 HC
    go_enter aog,aoh
    go_wp2_with fail
    refine (yC.out _ HE.below).mono ?_;rintro e w1 ⟨rfl,rfl⟩
    go_wp2_with fail
    refine (HP2.out _ HE.below).mono ?_;rintro e w1 ⟨rfl,rfl⟩
    go_wp2_with fail
    go_ret
    exact ⟨iP HB.out.symm,HE.bare⟩
   ·have HP2:=Lib.hid (show ∀ W,Below w.heap.size w W->Calls Tryz.prog 95 #[.slice A' n' c'] W fun e w'=>e = .returned (.bool true)/\W=w' by have:=yB.out;rwa [g2] at this)
    have hg:=g2;rw [Bool.and_eq_true] at hg;have O4:=Lib.hid (O2.out hg.2);have HB:=Lib.hid (show b=(eY ((Nat.gcd (val ns) (val ms):Nat):Int) 1==0) by rw [HV.out,g1,g2,HC.out];rfl);clear yB HV O2 g1 g2 HC hg
    go_enter aog,aoh
    go_wp2_with fail
    refine (yC.out _ HE.below).mono ?_;rintro e w1 ⟨rfl,rfl⟩
    go_wp2_with fail
    refine (HP2.out _ HE.below).mono ?_;rintro e w1 ⟨rfl,rfl⟩;replace HE:=(HE.push (O4.out _ HE.below)).push (O3.out _ HE.below)
    go_wp2_with fail
    refine (Jf HE ak au af).mono ?_;clear HE;rintro e w1 ⟨sa,Aa,na,ca,rfl,HE⟩
    go_wp2_with fail
    refine (Ah HE).mono ?_;clear HE;rintro e w2 ⟨sb,Ab,nb,cb,rfl,HE⟩
    go_wp2_with fail
    refine (QL HE au ak af).mono ?_;clear HE;rintro e w3 ⟨rfl,HE⟩
    go_wp2_with fail
    go_ret
    exact ⟨iP HB.out.symm,HE.bare.pick (fun _ he => .tail _ (.tail _ (.tail _ (.tail _ he)))) (fun _ he=>he)⟩
end
section
variable {W0 w:World} {bs:List Bx} {L:List En} {ts:List Bt} {M:List Qn} {s s':Bool} {A A' B B':Option Addr} {n c n' c' m d m' d' k k':Nat} {q r:Rat} {x y:Int} {b b':Bool}
set_option maxRecDepth 100000 in
set_option maxHeartbeats 2400000 in
theorem pW(HE:bu W0 w bs L ts M)(h:⟨.agg #[.bool s,.slice A n c,.slice A' n' c'],q,k,b⟩∈M)(hk:k<=3000) :
  Calls Tryz.prog 99 #[.agg #[.bool s,.slice A n c,.slice A' n' c']] w (kG W0 bs L ts M q.num (q.den:Int) (k+2)):=by
 refine Calls.mono (R:=kG w [] L [] M q.num (q.den:Int) (k+2)) ?_ fun _ _ hh=>kG.of HE hh;have HO:=Lib.hid (HE.here);have hF:=HE.fr _ h
 have hz:b=false\/n=0->q=0:=by
  intro hb;rcases hb with rfl | hb
  ·obtain ⟨s',A1,n1,c1,A2,n2,c2,ns,ms,h1,h2,h3,h4,h5,h6,h7,h8,h9,h10,h11⟩:=hF
   dsimp only at h10 h11;rw [<- h10];unfold qv;rw [h11];rfl
  ·cases b
   ·obtain ⟨s',A1,n1,c1,A2,n2,c2,ns,ms,h1,h2,h3,h4,h5,h6,h7,h8,h9,h10,h11⟩:=hF
    dsimp only at h10 h11;rw [<- h10];unfold qv;rw [h11];rfl
   ·exact (vS hF.own.2.1).1 hb
 have hnz:b=true->n≠0->q≠0:=by
  rintro rfl h1 h2;exact h1 ((vS hF.own.2.1).2 h2)
 replace HE:=((HE.here.dF (.bool s) (.slice A n c) (.slice A' n' c')).bV (.bool false) (.slice none 0 0)).bV (.bool false) (.slice none 0 0);simp only [World.size_alloc] at HE
 cases b
 ·have HQ:=Lib.hid (hz (.inl rfl))
  clear hz hnz hF HO;skip;obtain ⟨q0,q1,q2,q3,q4,q5⟩:=HE.c3 ak
  go_enter Tryz.func99,Tryz.ntmps99
  go_wp2_with fail
  refine (DR HE h hk).mono ?_;clear HE;rintro e w1 ⟨rfl,HE⟩;clear q0 q1 q2 q3 q4 q5;obtain ⟨q6,q7,q8,q9,q10,q11⟩:=HE.c3 ak
  go_wp2_with fail
  refine (Ah HE).mono ?_;clear HE;rintro e w2 ⟨s1,A1,n1,c1,rfl,HE⟩;clear q6 q7 q8 q9 q10 q11;obtain ⟨a0,a1,a2,a3⟩:=HE.c2 ak;obtain ⟨b0,b1,b2,b3⟩:=HE.c2 au
  go_wp2_with fail
  refine bodyPost_ret (v := .tuple #[.agg #[.bool false,.slice none 0 0],.agg #[.bool s1,.slice A1 n1 c1]]) (by simp [results,Tryz.results99,go_sem,a0,a1,b0,b1]) rfl ?_;have H3:=(HE.iF au [⟨w.heap.size+1+1,.bool false,.slice none 0 0⟩] (fun b hb=>by simp only [List.mem_cons,List.not_mem_nil,or_false] at hb;subst hb;exact ⟨(by repeat (first | exact aZ | refine .tail _ ?_)),by dsimp only;omega⟩) false (.slice none 0 0)).done2 au s1 (.slice A1 n1 c1);have hq:=HQ.out;subst hq;have h1:=H3.env.ops _ ak;exact ⟨_,_,_,_,_,_,_,_,rfl,((H3.tl.push (h1.weak af)).push ⟨false,none,0,0,[],0,rfl,Rd.nil_ _ _ _,aoI _,rfl,aoI _,aoG _,rfl,rfl⟩).bare⟩
 ·by_cases hn:n=0
  ·have HQ:=Lib.hid (hz (.inr hn))
   subst hn;clear hz hnz hF HO;skip;obtain ⟨q0,q1,q2,q3,q4,q5⟩:=HE.c3 ak
   go_enter Tryz.func99,Tryz.ntmps99
   go_wp2_with fail
   refine (DR HE h hk).mono ?_;clear HE;rintro e w1 ⟨rfl,HE⟩;clear q0 q1 q2 q3 q4 q5;obtain ⟨q6,q7,q8,q9,q10,q11⟩:=HE.c3 ak
   go_wp2_with fail
   refine (Ah HE).mono ?_;clear HE;rintro e w2 ⟨s1,A1,n1,c1,rfl,HE⟩;clear q6 q7 q8 q9 q10 q11;obtain ⟨a0,a1,a2,a3⟩:=HE.c2 ak;obtain ⟨b0,b1,b2,b3⟩:=HE.c2 au
   go_wp2_with fail
   refine bodyPost_ret (v := .tuple #[.agg #[.bool false,.slice none 0 0],.agg #[.bool s1,.slice A1 n1 c1]]) (by simp [results,Tryz.results99,go_sem,a0,a1,b0,b1]) rfl ?_;have H3:=(HE.iF au [⟨w.heap.size+1+1,.bool false,.slice none 0 0⟩] (fun b hb=>by simp only [List.mem_cons,List.not_mem_nil,or_false] at hb;subst hb;exact ⟨(by repeat (first | exact aZ | refine .tail _ ?_)),by dsimp only;omega⟩) false (.slice none 0 0)).done2 au s1 (.slice A1 n1 c1);have hq:=HQ.out;subst hq;have h1:=H3.env.ops _ ak;exact ⟨_,_,_,_,_,_,_,_,rfl,((H3.tl.push (h1.weak af)).push ⟨false,none,0,0,[],0,rfl,Rd.nil_ _ _ _,aoI _,rfl,aoI _,aoG _,rfl,rfl⟩).bare⟩
  ·have HQ:=Lib.hid (hnz rfl hn)
   have hn0:((n:Int)==0)=false:=by rw [beq_eq_false_iff_ne];omega
   clear hz hnz hF HO hn;obtain ⟨q0,q1,q2,q3,q4,q5⟩:=HE.c3 ak
   go_enter Tryz.func99,Tryz.ntmps99
   go_wp2_with fail
   refine (DR HE h hk).mono ?_;clear HE;rintro e w1 ⟨rfl,HE⟩;clear q0 q1 q2 q3 q4 q5;obtain ⟨q6,q7,q8,q9⟩:=HE.c2 ak;obtain ⟨q10,q11,q12,q13⟩:=HE.c2 au;obtain ⟨gI,gJ,q16,gK,iy,iC⟩:=HE.c3 ak
   go_wp2_with fail
   go_region
   go_wp2_with fail
   refine bodyPost_ret (v := .tuple #[.agg #[.bool s,.slice A n c],.agg #[.bool false,.slice A' n' c']]) (by simp [results,Tryz.results99,go_sem,q6,q7,q10,q11]) rfl ?_;have H3:=(HE.drew.iF au [⟨w.heap.size+1+1,.bool false,.slice none 0 0⟩] (fun b hb=>by simp only [List.mem_cons,List.not_mem_nil,or_false] at hb;subst hb;exact ⟨(by repeat (first | exact aZ | refine .tail _ ?_)),by dsimp only;omega⟩) s (.slice A n c)).done2 au false (.slice A' n' c');have H4:=H3.bare.parts h HQ.out;exact ⟨_,_,_,_,_,_,_,_,rfl,(H4.tl.tl.push ((H4.env.ops _ au).weak af)).push ((H4.env.ops _ ak).weak af)⟩
end
section
variable {W0 w:World} {bs:List Bx} {L:List En} {ts:List Bt} {M:List Qn} {s s':Bool} {A A' B B':Option Addr} {n c n' c' m d m' d' k k':Nat} {q r:Rat} {x y:Int} {b b':Bool}
theorem bu.NC{v:Value}(HE:bu W0 w bs L ts M)(h:⟨.agg #[.bool s,.slice A n c],x,k,true⟩∈L)(h':⟨.agg #[.bool s',.slice A' n' c'],y,k',true⟩∈L)(hq:q≠0)(hx:q.num=x)(hy:(q.den:Int)=y)(hv:v = .agg #[.bool s,.slice A n c,.slice A' n' c']):bu W0 w bs L ts (⟨v,q,k+k',true⟩::M):=by
 subst hv;have h0:x≠0:=by rw [<- hx];exact fun e=>hq (apK.1 e)
 have h1:0<y:=by rw [<- hy];exact den_pos q
 have hg:Nat.gcd x.natAbs y.natAbs=1:=by rw [<- hx,<- hy,aoL];exact q.reduced
 have h2:Rat.divInt x y=q:=by rw [<- hx,<- hy];exact aps q
 have h3:=HE.Gu h h' h0 h1 hg
 rwa [h2] at h3
theorem Nc{x y:Int}(_hx:x≠0)(hy:y≠0):Rat.divInt x y≠0:=by
 rw [Ne,<- Rat.zero_divInt y,Rat.divInt_eq_divInt_iff hy hy,Int.zero_mul]
 simp_all
theorem Nh(x y:Int):Rat.divInt (-x) (-y)=Rat.divInt x y:=by
 by_cases hy:y=0
 ·simp_all
 ·rw [Rat.divInt_eq_divInt_iff af hy,Int.neg_mul,Int.mul_neg]
set_option maxRecDepth 100000 in
set_option maxHeartbeats 4000000 in
theorem uY(HE:bu W0 w bs L ts M)(h:⟨.agg #[.bool s,.slice A n c],x,k,b⟩∈L)(h':⟨.agg #[.bool s',.slice A' n' c'],y,k',b'⟩∈L)(hk:k+k'<=4000)(hy:y≠0) :
  Calls Tryz.prog 103 #[.agg #[.bool s,.slice A n c],.agg #[.bool s',.slice A' n' c']] w (eF W0 bs L ts M (Rat.divInt x y) (k+1+(k'+1))):=by
 refine Calls.mono (R:=(eF w [] L [] M (Rat.divInt x y) (k+1+(k'+1)))) ?_ fun _ _ hh=>eF.of HE hh;replace HE:=((HE.here.bV (.bool s) (.slice A n c)).bV (.bool s') (.slice A' n' c')).dF (.bool false) (.slice none 0 0) (.slice none 0 0);simp only [World.size_alloc] at HE
 by_cases hx:x=0
 ·have HS:=Lib.hid (show dD x=0 by unfold dD;rw [if_neg af,if_pos hx])
  have HX:=Lib.hid (show Rat.divInt x y=0 by rw [hx];exact Rat.zero_divInt _);clear hx hy;obtain ⟨q0,q1,q2,q3⟩:=HE.c2 ak;obtain ⟨q4,q5,q6,q7⟩:=HE.c2 au;obtain ⟨q8,q9,q10,q11,q12,q13⟩:=HE.c3 ak
  go_enter Tryz.func103,Tryz.ntmps103
  go_wp2_with fail
  refine (qW HE h af).mono ?_;rw [HS.out];clear HE;rintro e w1 ⟨rfl,HE⟩;clear q0 q1 q2 q3 q4 q5 q6 q7 q8 q9 q10 q11 q12 q13;obtain ⟨gI,gJ,q16,gK,iy,iC⟩:=HE.c3 ak;have TF:=(HE.nV ak).put (.bool false) (.slice none 0 0) (.slice none 0 0)
  go_wp2_with fail
  obtain ⟨z0,z1,z2,-,-,-⟩:=TF.cells;refine bodyPost_ret (v := .agg #[.bool false,.slice none 0 0,.slice none 0 0]) (by simp [results,Tryz.results103,go_sem,z0,z1,z2]) rfl ?_;rw [HX.out];exact ⟨_,_,_,_,_,_,_,rfl,((HE.iT (D:=none) (m:=0) (d:=0) ak false (.slice none 0 0)).bare).zero _⟩
 ·by_cases h0:0<y
  ·have hs:(dD x==0)=false:=by rw [beq_eq_false_iff_ne];unfold dD;split;decide;first | decide | (rw [if_neg hx];decide)
   have HS:=Lib.hid (show dD y=1 by unfold dD;rw [if_neg af,if_neg af]);obtain ⟨g,hg⟩ : ∃ g:Int,g=(Nat.gcd x.natAbs y.natAbs:Nat):=⟨_,rfl⟩;have HR:=Lib.hid (I7 h0 hg);have HG:=Lib.hid hg;have HX0:=Lib.hid (Nc hx hy);clear hg h0 hx hy;generalize Rat.divInt x y=q at *;obtain ⟨q0,q1,q2,q3⟩:=HE.c2 ak;obtain ⟨q4,q5,q6,q7⟩:=HE.c2 au;obtain ⟨q8,q9,q10,q11,q12,q13⟩:=HE.c3 ak
   go_enter Tryz.func103,Tryz.ntmps103
   go_wp2_with fail
   refine (qW HE h af).mono ?_;clear HE;rintro e w1 ⟨rfl,HE⟩;clear q0 q1 q2 q3 q4 q5 q6 q7 q8 q9 q10 q11 q12 q13;obtain ⟨gI,gJ,q16,gK⟩:=HE.c2 ak;obtain ⟨iy,iC,jm,jo⟩:=HE.c2 au;obtain ⟨q22,q23,q24,jq,jr,jw⟩:=HE.c3 ak
   go_wp2_with fail
   refine (qW HE h' af).mono ?_;rw [HS.out];clear HE;rintro e w2 ⟨rfl,HE⟩;clear hs;clear gI gJ q16 gK iy iC jm jo q22 q23 q24 jq jr jw;obtain ⟨jU,jV,q30,jW⟩:=HE.c2 ak;obtain ⟨q32,ku,l7,q35⟩:=HE.c2 au;obtain ⟨nM,q37,nN,nO,nP,nR⟩:=HE.c3 ak
   go_wp2_with fail
   refine (Jf HE (by repeat (first | exact aZ | assumption | refine .tail _ ?_)) (by repeat (first | exact aZ | assumption | refine .tail _ ?_)) af).mono ?_;clear HE;rintro e wg ⟨sg,Ag,ng,cg,rfl,HE⟩;rw [<- HG.out] at HE;replace HE:=HE.bV (.bool sg) (.slice Ag ng cg);clear jU jV q30 jW q32 ku l7 q35 nM q37 nN nO nP nR;obtain ⟨pO,pR,vZ,wu⟩:=HE.c2 ak;obtain ⟨wz,wB,wC,wE⟩:=HE.c2 au;obtain ⟨wF,wG,wH,wI⟩:=HE.c2 ay;obtain ⟨wJ,wK,wL,wM,wO,wP⟩:=HE.c3 ak
   go_wp2_with fail
   refine (DJ HE (by repeat (first | exact aZ | assumption | refine .tail _ ?_)) (by repeat (first | exact aZ | assumption | refine .tail _ ?_)) af HR.out.2.2).mono ?_;clear HE;rintro e wx ⟨sx,sy,Ax,Ay,lx,cx,ly,cy,rfl,HE⟩;replace HE:=(HE.bV (.bool sx) (.slice Ax lx cx)).bV (.bool sy) (.slice Ay ly cy);simp only [World.size_alloc] at HE;clear pO pR vZ wu wz wB wC wE wF wG wH wI wJ wK wL wM wO wP;obtain ⟨wQ,wR,wS,wU⟩:=HE.c2 ak;obtain ⟨wV,wW,wX,wY⟩:=HE.c2 au;obtain ⟨wZ,xe,xg,xh⟩:=HE.c2 ay;obtain ⟨xk,xm,xn,xq⟩:=HE.c2 az;obtain ⟨xu,xw,IU,IV⟩:=HE.c2 aA;obtain ⟨IW,IX,IY,IZ,I4,I5⟩:=HE.c3 ak
   go_wp2_with fail
   refine (DJ HE (by repeat (first | exact aZ | assumption | refine .tail _ ?_)) (by repeat (first | exact aZ | assumption | refine .tail _ ?_)) af HR.out.2.2).mono ?_;clear HE;rintro e wy ⟨su,sv,Au,Av,lu,cu,lv,cv,rfl,HE⟩;replace HE:=(HE.bV (.bool su) (.slice Au lu cu)).bV (.bool sv) (.slice Av lv cv);simp only [World.size_alloc] at HE;clear wQ wR wS wU wV wW wX wY wZ xe xg xh xk xm xn xq xu xw IU IV IW IX IY IZ I4 I5;obtain ⟨QB,QC,QD,QE⟩:=HE.c2 au;obtain ⟨QF,QG,QH,QI⟩:=HE.c2 az;obtain ⟨q94,q95,q96,q97,q98,q99⟩:=HE.c3 ak;have TF:=(HE.nV ak).put (.bool sx) (.slice Ax lx cx) (.slice Au lu cu)
   go_wp2_with fail
   obtain ⟨z0,z1,z2,-,-,-⟩:=TF.cells;refine bodyPost_ret (v := .agg #[.bool sx,.slice Ax lx cx,.slice Au lu cu]) (by simp [results,Tryz.results103,go_sem,z0,z1,z2]) rfl ?_;have HF:=HE.NC (v := .agg #[.bool sx,.slice Ax lx cx,.slice Au lu cu]) (s:=sx) (A:=Ax) (n:=lx) (c:=cx) (s':=su) (A':=Au) (n':=lu) (c':=cu) (by repeat (first | exact aZ | assumption | refine .tail _ ?_)) (by repeat (first | exact aZ | assumption | refine .tail _ ?_)) HX0.out HR.out.1 HR.out.2.1 rfl;have HK:=(HF.iT (D:=Ax) (m:=lx) (d:=cx) ak sx (.slice Au lu cu)).bare;exact ⟨_,_,_,_,_,_,_,rfl,(HK.pick (fun e he => .tail _ (.tail _ (.tail _ (.tail _ (.tail _ (he)))))) (fun _ he=>he)).hd (·.weak af)⟩
  ·have hs:(dD x==0)=false:=by rw [beq_eq_false_iff_ne];unfold dD;split;decide;first | decide | (rw [if_neg hx];decide)
   have HS:=Lib.hid (show dD y = -1 by unfold dD;rw [if_pos af]);obtain ⟨g,hg⟩ : ∃ g:Int,g=(Nat.gcd (-x).natAbs (-y).natAbs:Nat):=⟨_,rfl⟩;have HR:=Lib.hid (I7 (n := -x) (d := -y) af hg);have HG:=Lib.hid hg;have HX0:=Lib.hid (Nc (x := -x) (y := -y) af af);have HN:=Lib.hid (Nh x y);clear hg h0 hx hy;rw [<- HN.out];clear HN;generalize Rat.divInt (-x) (-y)=q at *;obtain ⟨q0,q1,q2,q3⟩:=HE.c2 ak;obtain ⟨q4,q5,q6,q7⟩:=HE.c2 au;obtain ⟨q8,q9,q10,q11,q12,q13⟩:=HE.c3 ak
   go_enter Tryz.func103,Tryz.ntmps103
   go_wp2_with fail
   refine (qW HE h af).mono ?_;clear HE;rintro e w1 ⟨rfl,HE⟩;clear q0 q1 q2 q3 q4 q5 q6 q7 q8 q9 q10 q11 q12 q13;obtain ⟨gI,gJ,q16,gK⟩:=HE.c2 ak;obtain ⟨iy,iC,jm,jo⟩:=HE.c2 au;obtain ⟨q22,q23,q24,jq,jr,jw⟩:=HE.c3 ak
   go_wp2_with fail
   refine (qW HE h' af).mono ?_;rw [HS.out];clear HE;rintro e w2 ⟨rfl,HE⟩;clear hs;clear gI gJ q16 gK iy iC jm jo q22 q23 q24 jq jr jw;obtain ⟨jU,jV,q30,jW⟩:=HE.c2 ak;obtain ⟨q32,ku,l7,q35⟩:=HE.c2 au
   go_wp2_with fail
   go_region_with
    (first
     | (go_at_call 108;have _:=yz;refine (DV (by with_reducible first | exact HE | exact HE.drew) (.tail _ h') af).mono ?_;rintro e wb ⟨sb,Ab,nb,cb,rfl,HE⟩;obtain ⟨v0,v1,v2,v3⟩:=HE.c2 au;obtain ⟨v4,v5,v6,v7⟩:=HE.c2 ak)
     | (go_at_call 108;refine (DV (by with_reducible first | exact HE | exact HE.drew) h af).mono ?_;rintro e wa ⟨sa,Aa,na,ca,rfl,HE⟩;have yz:=HE;obtain ⟨u0,u1,u2,u3⟩:=HE.c2 au;obtain ⟨u4,u5,u6,u7⟩:=HE.c2 ak))
   all_goals
    first | clear jU jV q30 jW q32 ku l7 q35 u0 u1 u2 u3 u4 u5 u6 u7 v0 v1 v2 v3 v4 v5 v6 v7 yz | skip
    replace HE:=(HE.iF au [⟨w.heap.size+1,.bool s',.slice A' n' c'⟩] (fun b hb=>by simp only [List.mem_cons,List.not_mem_nil,or_false] at hb;subst hb;exact ⟨(by repeat (first | exact aZ | refine .tail _ ?_)),by dsimp only;omega⟩) sa (.slice Aa na ca)).iF au [⟨w.heap.size,.bool sa,.slice Aa na ca⟩] (fun b hb=>by simp only [List.mem_cons,List.not_mem_nil,or_false] at hb;subst hb;exact ⟨(by repeat (first | exact aZ | refine .tail _ ?_)),by dsimp only;omega⟩) sb (.slice Ab nb cb);generalize ((((wb.setCell ⟨w.heap.size,0,none⟩ (.bool sa)).setCell ⟨w.heap.size,1,none⟩ (.slice Aa na ca)).setCell ⟨w.heap.size+1,0,none⟩ (.bool sb)).setCell ⟨w.heap.size+1,1,none⟩ (.slice Ab nb cb))=W5 at *;obtain ⟨nM,q37,nN,nO⟩:=HE.c2 ak;obtain ⟨nP,nR,pO,pR⟩:=HE.c2 au;obtain ⟨vZ,wu,wz,wB,wC,wE⟩:=HE.c3 ak
    go_wp2_with fail
    refine (Jf HE (by repeat (first | exact aZ | assumption | refine .tail _ ?_)) (by repeat (first | exact aZ | assumption | refine .tail _ ?_)) af).mono ?_;clear HE;rintro e wg ⟨sg,Ag,ng,cg,rfl,HE⟩;rw [<- HG.out] at HE;replace HE:=HE.bV (.bool sg) (.slice Ag ng cg);clear nM q37 nN nO nP nR pO pR vZ wu wz wB wC wE;obtain ⟨wF,wG,wH,wI⟩:=HE.c2 ak;obtain ⟨wJ,wK,wL,wM⟩:=HE.c2 au;obtain ⟨wO,wP,wQ,wR⟩:=HE.c2 ay;obtain ⟨wS,wU,wV,wW,wX,wY⟩:=HE.c3 ak
    go_wp2_with fail
    refine (DJ HE (by repeat (first | exact aZ | assumption | refine .tail _ ?_)) (by repeat (first | exact aZ | assumption | refine .tail _ ?_)) af HR.out.2.2).mono ?_;clear HE;rintro e wx ⟨sx,sy,Ax,Ay,lx,cx,ly,cy,rfl,HE⟩;replace HE:=(HE.bV (.bool sx) (.slice Ax lx cx)).bV (.bool sy) (.slice Ay ly cy);simp only [World.size_alloc] at HE;clear wF wG wH wI wJ wK wL wM wO wP wQ wR wS wU wV wW wX wY;obtain ⟨wZ,xe,xg,xh⟩:=HE.c2 ak;obtain ⟨xk,xm,xn,xq⟩:=HE.c2 au;obtain ⟨xu,xw,IU,IV⟩:=HE.c2 ay;obtain ⟨IW,IX,IY,IZ⟩:=HE.c2 az;obtain ⟨I4,I5,QB,QC⟩:=HE.c2 aA;obtain ⟨QD,QE,QF,QG,QH,QI⟩:=HE.c3 ak
    go_wp2_with fail
    refine (DJ HE (by repeat (first | exact aZ | assumption | refine .tail _ ?_)) (by repeat (first | exact aZ | assumption | refine .tail _ ?_)) af HR.out.2.2).mono ?_;clear HE;rintro e wy ⟨su,sv,Au,Av,lu,cu,lv,cv,rfl,HE⟩;replace HE:=(HE.bV (.bool su) (.slice Au lu cu)).bV (.bool sv) (.slice Av lv cv);simp only [World.size_alloc] at HE;clear wZ xe xg xh xk xm xn xq xu xw IU IV IW IX IY IZ I4 I5 QB QC QD QE QF QG QH QI;obtain ⟨q94,q95,q96,q97⟩:=HE.c2 au;obtain ⟨q98,q99,aj0,aj1⟩:=HE.c2 az;obtain ⟨aj2,aj3,aj6,aj7,aj8,aj9⟩:=HE.c3 ak;have TF:=(HE.nV ak).put (.bool sx) (.slice Ax lx cx) (.slice Au lu cu)
    go_wp2_with fail
    obtain ⟨z0,z1,z2,-,-,-⟩:=TF.cells;refine bodyPost_ret (v := .agg #[.bool sx,.slice Ax lx cx,.slice Au lu cu]) (by simp [results,Tryz.results103,go_sem,z0,z1,z2]) rfl ?_;have HF:=HE.NC (v := .agg #[.bool sx,.slice Ax lx cx,.slice Au lu cu]) (s:=sx) (A:=Ax) (n:=lx) (c:=cx) (s':=su) (A':=Au) (n':=lu) (c':=cu) (by repeat (first | exact aZ | assumption | refine .tail _ ?_)) (by repeat (first | exact aZ | assumption | refine .tail _ ?_)) HX0.out HR.out.1 HR.out.2.1 rfl;have HK:=(HF.iT (D:=Ax) (m:=lx) (d:=cx) ak sx (.slice Au lu cu)).bare;exact ⟨_,_,_,_,_,_,_,rfl,(HK.pick (fun e he => .tail _ (.tail _ (.tail _ (.tail _ (.tail _ (.tail _ (.tail _ (he)))))))) (fun _ he=>he)).hd (·.weak af)⟩
end
section
variable {W0 w:World} {bs:List Bx} {L:List En} {ts:List Bt} {M:List Qn} {s s':Bool} {A A' B B':Option Addr} {n c n' c' m d m' d' k k':Nat} {q r:Rat} {x y:Int} {b b':Bool}
theorem abM{q:Rat}{k:Nat}(h:q.num.natAbs<pw k/\q.den<pw (k+1)):(-q).num.natAbs<pw (k+1)/\(-q).den<pw (k+1):=by
 rw [(ug q).1,(ug q).2,aqg];exact ⟨aoK h.1 (dU af),h.2⟩
theorem abN(q:Rat) : -q=Rat.divInt (-q.num) (q.den:Int):=by
 rw [<- (ug q).1,<- (ug q).2];exact (aps (-q)).symm
theorem aeL(q r:Rat):iZ (q-r)=iK q r:=by
 rcases tri q r with h | h | h
 ·rw [MH h];exact SA (by grind)
 ·rw [Xu.2 h,h,Rat.sub_eq_add_neg,ae3]
 ·rw [MG h];exact SB (by grind)
set_option maxRecDepth 100000 in
set_option maxHeartbeats 3200000 in
theorem QY(HE:bu W0 w bs L ts M)(h:⟨.agg #[.bool s,.slice A n c,.slice A' n' c'],q,k,b⟩∈M)(h':⟨.agg #[.bool s',.slice B m d,.slice B' m' d'],r,k',b'⟩∈M)(hk:k+k'<=1000) :
  Calls Tryz.prog 63 #[.agg #[.bool s,.slice A n c,.slice A' n' c'],.agg #[.bool s',.slice B m d,.slice B' m' d']] w (eF W0 bs L ts M (q+r) (k+k'+2)):=by
 refine Calls.mono (R:=(eF w [] L [] M (q+r) (k+k'+2))) ?_ fun _ _ hh=>eF.of HE hh;have HP:=Lib.hid (VZ (vH HE h) (vH HE h'));have HD:=Lib.hid (Int.mul_ne_zero (qF q) (qF r));replace HE:=((HE.here.dF (.bool s) (.slice A n c) (.slice A' n' c')).dF (.bool s') (.slice B m d) (.slice B' m' d')).dF (.bool false) (.slice none 0 0) (.slice none 0 0);simp only [World.size_alloc] at HE;obtain ⟨q0,q1,q2,q3,q4,q5⟩:=HE.c3 ak;obtain ⟨q6,q7,q8,q9,q10,q11⟩:=HE.c3 au;obtain ⟨q12,q13,gI,gJ,q16,gK⟩:=HE.c3 ay
 go_enter Tryz.func63,Tryz.ntmps63
 go_wp2_with fail
 refine (pW HE h af).mono ?_;clear HE;rintro e w1 ⟨s1,D1,m1,d1,s2,D2,m2,d2,rfl,HE⟩;replace HE:=(HE.bV (.bool s1) (.slice D1 m1 d1)).bV (.bool s2) (.slice D2 m2 d2);simp only [World.size_alloc] at HE;clear q0 q1 q2 q3 q4 q5 q6 q7 q8 q9 q10 q11 q12 q13 gI gJ q16 gK;obtain ⟨iy,iC,jm,jo⟩:=HE.c2 ak;obtain ⟨q22,q23,q24,jq⟩:=HE.c2 au;obtain ⟨jr,jw,jU,jV,q30,jW⟩:=HE.c3 ak;obtain ⟨q32,ku,l7,q35,nM,q37⟩:=HE.c3 au;obtain ⟨nN,nO,nP,nR,pO,pR⟩:=HE.c3 ay
 go_wp2_with fail
 refine (pW HE h' af).mono ?_;clear HE;rintro e w2 ⟨s3,D3,m3,d3,s4,D4,m4,d4,rfl,HE⟩;replace HE:=(HE.bV (.bool s3) (.slice D3 m3 d3)).bV (.bool s4) (.slice D4 m4 d4);simp only [World.size_alloc] at HE;clear iy iC jm jo q22 q23 q24 jq jr jw jU jV q30 jW q32 ku l7 q35 nM q37 nN nO nP nR pO pR;obtain ⟨vZ,wu,wz,wB⟩:=HE.c2 ak;obtain ⟨wC,wE,wF,wG⟩:=HE.c2 au;obtain ⟨wH,wI,wJ,wK⟩:=HE.c2 ay;obtain ⟨wL,wM,wO,wP⟩:=HE.c2 az;obtain ⟨wQ,wR,wS,wU,wV,wW⟩:=HE.c3 ak;obtain ⟨wX,wY,wZ,xe,xg,xh⟩:=HE.c3 au;obtain ⟨xk,xm,xn,xq,xu,xw⟩:=HE.c3 ay
 go_wp2_with fail
 go_region_held3 (fun w'=>w'.cell? ⟨w1.heap.size,0,none⟩=some (.bool s1)/\w'.cell? ⟨w1.heap.size,1,none⟩=some (.slice D1 m1 d1)/\w'.cell? ⟨w1.heap.size+1,0,none⟩=some (.bool s2)/\w'.cell? ⟨w1.heap.size+1,1,none⟩=some (.slice D2 m2 d2)/\w'.cell? ⟨w2.heap.size,0,none⟩=some (.bool s3)/\w'.cell? ⟨w2.heap.size,1,none⟩=some (.slice D3 m3 d3)/\w'.cell? ⟨w2.heap.size+1,0,none⟩=some (.bool s4)/\w'.cell? ⟨w2.heap.size+1,1,none⟩=some (.slice D4 m4 d4)) (first | exact ⟨(HE.c2 az).1,(HE.c2 az).2.1,(HE.c2 ay).1,(HE.c2 ay).2.1,(HE.c2 au).1,(HE.c2 au).2.1,(HE.c2 ak).1,(HE.c2 ak).2.1⟩ | exact ⟨(HE.drew.c2 az).1,(HE.drew.c2 az).2.1,(HE.drew.c2 ay).1,(HE.drew.c2 ay).2.1,(HE.drew.c2 au).1,(HE.drew.c2 au).2.1,(HE.drew.c2 ak).1,(HE.drew.c2 ak).2.1⟩ | exact ⟨(HK.c2 az).1,(HK.c2 az).2.1,(HK.c2 ay).1,(HK.c2 ay).2.1,(HK.c2 au).1,(HK.c2 au).2.1,(HK.c2 ak).1,(HK.c2 ak).2.1⟩)
  (first
   | (go_at_call 105;refine (DU (by with_reducible first | exact HE | exact HE.drew) (by repeat (first | exact aZ | assumption | refine .tail _ ?_)) (by repeat (first | exact aZ | assumption | refine .tail _ ?_)) af).mono ?_;rintro e wn ⟨sx,Ax,nx,cx,rfl,HE⟩)
   | (go_at_call 107;refine (QJ (by with_reducible first | exact HE | exact HE.drew) (by repeat (first | exact aZ | assumption | refine .tail _ ?_)) (by repeat (first | exact aZ | assumption | refine .tail _ ?_)) af).mono ?_;rintro e wn ⟨sx,Ax,nx,cx,rfl,HE⟩)
   | (go_at_call 103;refine (uY (by with_reducible first | exact HE | exact HE.drew) (by repeat (first | exact aZ | assumption | refine .tail _ ?_)) (by repeat (first | exact aZ | assumption | refine .tail _ ?_)) af HD.out).mono ?_;rintro e wn ⟨sx,Ax,nx,cx,Ay,ny,cy,rfl,HE⟩;have HK:=HE.iT (D:=Ax) (m:=nx) (d:=cx) ak sx (.slice Ay ny cy);obtain ⟨z0,z1,z2,z3,z4,z5⟩:=HE.c3 ak))
 go_wp2_with fail
 refine bodyPost_ret (v := .agg #[.bool sx,.slice Ax nx cx,.slice Ay ny cy]) (by simp [results,Tryz.results63,go_sem,z0,z1,z2]) rfl ?_;have HF:=HK.bare;rw [<- LC] at HF;replace HF:=HF.hd (fun hh=>dA.tight hh HP.out.1 HP.out.2);exact ⟨_,_,_,_,_,_,_,rfl,HF.pick (fun e he => .tail _ (.tail _ (.tail _ (.tail _ (.tail _ (.tail _ (.tail _ (.tail _ (he))))))))) (fun _ he=>he)⟩
set_option maxRecDepth 100000 in
set_option maxHeartbeats 2400000 in
theorem Q7(HE:bu W0 w bs L ts M)(h:⟨.agg #[.bool s,.slice A n c,.slice A' n' c'],q,k,b⟩∈M)(hk:k<=1500) :
  Calls Tryz.prog 64 #[.agg #[.bool s,.slice A n c,.slice A' n' c']] w (eF W0 bs L ts M (-q) (k+1)):=by
 refine Calls.mono (R:=(eF w [] L [] M (-q) (k+1))) ?_ fun _ _ hh=>eF.of HE hh;have HP:=Lib.hid (abM (vH HE h));have HD:=Lib.hid (qF q);replace HE:=(HE.here.dF (.bool s) (.slice A n c) (.slice A' n' c')).dF (.bool false) (.slice none 0 0) (.slice none 0 0);simp only [World.size_alloc] at HE;obtain ⟨q0,q1,q2,q3,q4,q5⟩:=HE.c3 ak;obtain ⟨q6,q7,q8,q9,q10,q11⟩:=HE.c3 au
 go_enter Tryz.func64,Tryz.ntmps64
 go_wp2_with fail
 refine (pW HE h af).mono ?_;clear HE;rintro e w1 ⟨s1,D1,m1,d1,s2,D2,m2,d2,rfl,HE⟩;replace HE:=(HE.bV (.bool s1) (.slice D1 m1 d1)).bV (.bool s2) (.slice D2 m2 d2);simp only [World.size_alloc] at HE;clear q0 q1 q2 q3 q4 q5 q6 q7 q8 q9 q10 q11;obtain ⟨q12,q13,gI,gJ⟩:=HE.c2 ak;obtain ⟨q16,gK,iy,iC⟩:=HE.c2 au;obtain ⟨jm,jo,q22,q23,q24,jq⟩:=HE.c3 ak;obtain ⟨jr,jw,jU,jV,q30,jW⟩:=HE.c3 au
 go_wp2_with fail
 go_region_held3 (fun w'=>w'.cell? ⟨w1.heap.size,0,none⟩=some (.bool s1)/\w'.cell? ⟨w1.heap.size,1,none⟩=some (.slice D1 m1 d1)/\w'.cell? ⟨w1.heap.size+1,0,none⟩=some (.bool s2)/\w'.cell? ⟨w1.heap.size+1,1,none⟩=some (.slice D2 m2 d2)) (first | exact ⟨(HE.c2 au).1,(HE.c2 au).2.1,(HE.c2 ak).1,(HE.c2 ak).2.1⟩ | exact ⟨(HE.drew.c2 au).1,(HE.drew.c2 au).2.1,(HE.drew.c2 ak).1,(HE.drew.c2 ak).2.1⟩ | exact ⟨(HK.c2 au).1,(HK.c2 au).2.1,(HK.c2 ak).1,(HK.c2 ak).2.1⟩)
  (first
   | (go_at_call 108;refine (DV (by with_reducible first | exact HE | exact HE.drew) (by repeat (first | exact aZ | assumption | refine .tail _ ?_)) af).mono ?_;rintro e wn ⟨sx,Ax,nx,cx,rfl,HE⟩)
   | (go_at_call 103;refine (uY (by with_reducible first | exact HE | exact HE.drew) (by repeat (first | exact aZ | assumption | refine .tail _ ?_)) (by repeat (first | exact aZ | assumption | refine .tail _ ?_)) af HD.out).mono ?_;rintro e wn ⟨sx,Ax,nx,cx,Ay,ny,cy,rfl,HE⟩;have HK:=HE.iT (D:=Ax) (m:=nx) (d:=cx) ak sx (.slice Ay ny cy);obtain ⟨z0,z1,z2,z3,z4,z5⟩:=HE.c3 ak))
 go_wp2_with fail
 refine bodyPost_ret (v := .agg #[.bool sx,.slice Ax nx cx,.slice Ay ny cy]) (by simp [results,Tryz.results64,go_sem,z0,z1,z2]) rfl ?_;have HF:=HK.bare;rw [<- abN] at HF;replace HF:=HF.hd (fun hh=>dA.tight hh HP.out.1 HP.out.2);exact ⟨_,_,_,_,_,_,_,rfl,HF.pick (fun e he => .tail _ (.tail _ (.tail _ (he)))) (fun _ he=>he)⟩
set_option maxRecDepth 100000 in
set_option maxHeartbeats 2400000 in
theorem Rf(HE:bu W0 w bs L ts M)(h:⟨.agg #[.bool s,.slice A n c,.slice A' n' c'],q,k,b⟩∈M)(hk:k<=1500) :
  Calls Tryz.prog 55 #[.agg #[.bool s,.slice A n c,.slice A' n' c']] w fun e w'=>e = .returned (.int .i64 (iZ q))/\bu W0 w' bs L ts M:=by
 refine Calls.mono (R:=fun e w'=>e = .returned (.int .i64 (iZ q))/\bu w w' [] L [] M) ?_ fun _ _ hh=>⟨hh.1,HE.back hh.2⟩;replace HE:=HE.here.dF (.bool s) (.slice A n c) (.slice A' n' c');have HS:=Lib.hid (show dD q.num=iZ q from (aeK q).symm);obtain ⟨q0,q1,q2,q3,q4,q5⟩:=HE.c3 ak
 go_enter Tryz.func55,Tryz.ntmps55
 go_wp2_with fail
 refine (pW HE h af).mono ?_;clear HE;rintro e w1 ⟨s1,D1,m1,d1,s2,D2,m2,d2,rfl,HE⟩;replace HE:=(HE.bV (.bool s1) (.slice D1 m1 d1)).bV (.bool s2) (.slice D2 m2 d2);simp only [World.size_alloc] at HE;clear q0 q1 q2 q3 q4 q5;obtain ⟨q6,q7,q8,q9⟩:=HE.c2 ak;obtain ⟨q10,q11,q12,q13⟩:=HE.c2 au;obtain ⟨gI,gJ,q16,gK,iy,iC⟩:=HE.c3 ak
 go_wp2_with fail
 refine (qW HE ak af).mono ?_;rw [HS.out];clear HE;rintro e w2 ⟨rfl,HE⟩;clear q6 q7 q8 q9 q10 q11 q12 q13 gI gJ q16 gK iy iC
 go_wp2_with fail
 go_ret
 exact ⟨rfl,HE.bare.pick (fun e he => .tail _ (.tail _ (he))) (fun _ he=>he)⟩
set_option maxRecDepth 100000 in
set_option maxHeartbeats 3200000 in
theorem Rh(HE:bu W0 w bs L ts M)(h:⟨.agg #[.bool s,.slice A n c,.slice A' n' c'],q,k,b⟩∈M)(h':⟨.agg #[.bool s',.slice B m d,.slice B' m' d'],r,k',b'⟩∈M)(hk:k+k'<=900) :
  Calls Tryz.prog 61 #[.agg #[.bool s,.slice A n c,.slice A' n' c'],.agg #[.bool s',.slice B m d,.slice B' m' d']] w (eF W0 bs L ts M (q-r) (k+(k'+1)+2)):=by
 refine Calls.mono (R:=(eF w [] L [] M (q-r) (k+(k'+1)+2))) ?_ fun _ _ hh=>eF.of HE hh;replace HE:=((HE.here.dF (.bool s) (.slice A n c) (.slice A' n' c')).dF (.bool s') (.slice B m d) (.slice B' m' d')).dF (.bool false) (.slice none 0 0) (.slice none 0 0);simp only [World.size_alloc] at HE;obtain ⟨q0,q1,q2,q3,q4,q5⟩:=HE.c3 ak;obtain ⟨q6,q7,q8,q9,q10,q11⟩:=HE.c3 au;obtain ⟨q12,q13,gI,gJ,q16,gK⟩:=HE.c3 ay
 go_enter Tryz.func61,Tryz.ntmps61
 go_wp2_with fail
 go_region_held3 (fun w'=>w'.cell? ⟨w.heap.size,0,none⟩=some (.bool s)/\w'.cell? ⟨w.heap.size,1,none⟩=some (.slice A n c)/\w'.cell? ⟨w.heap.size,2,none⟩=some (.slice A' n' c')/\w'.cell? ⟨w.heap.size+1,0,none⟩=some (.bool s')/\w'.cell? ⟨w.heap.size+1,1,none⟩=some (.slice B m d)/\w'.cell? ⟨w.heap.size+1,2,none⟩=some (.slice B' m' d')) (first | exact ⟨(HE.c3 ay).1,(HE.c3 ay).2.1,(HE.c3 ay).2.2.1,(HE.c3 au).1,(HE.c3 au).2.1,(HE.c3 au).2.2.1⟩ | exact ⟨(HE.drew.c3 ay).1,(HE.drew.c3 ay).2.1,(HE.drew.c3 ay).2.2.1,(HE.drew.c3 au).1,(HE.drew.c3 au).2.1,(HE.drew.c3 au).2.2.1⟩ | exact ⟨(HK.c3 ay).1,(HK.c3 ay).2.1,(HK.c3 ay).2.2.1,(HK.c3 au).1,(HK.c3 au).2.1,(HK.c3 au).2.2.1⟩)
  (first
   | (go_at_call 64;refine (Q7 (by with_reducible first | exact HE | exact HE.drew) (by repeat (first | exact aZ | assumption | refine .tail _ ?_)) af).mono ?_;rintro e wn ⟨sx,Ax,nx,cx,Ay,ny,cy,rfl,HE⟩)
   | (go_at_call 63;refine (QY (by with_reducible first | exact HE | exact HE.drew) (by repeat (first | exact aZ | assumption | refine .tail _ ?_)) (by repeat (first | exact aZ | assumption | refine .tail _ ?_)) af).mono ?_;rintro e wn ⟨sx,Ax,nx,cx,Ay,ny,cy,rfl,HE⟩;have HK:=HE.acE (s':=sx) (D:=Ax) (m:=nx) (d:=cx) (v := .slice Ay ny cy) ak [⟨w.heap.size+1,.bool s',.slice B m d,.slice B' m' d'⟩,⟨w.heap.size,.bool s,.slice A n c,.slice A' n' c'⟩] (fun b hb=>by simp only [List.mem_cons,List.not_mem_nil,or_false] at hb;rcases hb with rfl | rfl <;> exact ⟨(by repeat (first | exact aZ | assumption | refine .tail _ ?_)),by dsimp only;omega⟩);obtain ⟨z0,z1,z2,z3,z4,z5⟩:=HE.c3 ak))
 go_wp2_with fail
 refine bodyPost_ret (v := .agg #[.bool sx,.slice Ax nx cx,.slice Ay ny cy]) (by simp [results,Tryz.results61,go_sem,z0,z1,z2]) rfl ?_;have HF:=HK.bare;rw [<- Rat.sub_eq_add_neg] at HF;exact ⟨_,_,_,_,_,_,_,rfl,HF.pick (fun e he=>he) (fun _ he=>by rcases List.mem_cons.1 he with rfl | he;exact ak;exact .tail _ (.tail _ (he)))⟩
set_option maxRecDepth 100000 in
set_option maxHeartbeats 2400000 in
theorem adK(HE:bu W0 w bs L ts M)(h:⟨.agg #[.bool s,.slice A n c,.slice A' n' c'],q,k,b⟩∈M)(h':⟨.agg #[.bool s',.slice B m d,.slice B' m' d'],r,k',b'⟩∈M)(hk:k+k'<=900) :
  Calls Tryz.prog 37 #[.agg #[.bool s,.slice A n c,.slice A' n' c'],.agg #[.bool s',.slice B m d,.slice B' m' d']] w fun e w'=>e = .returned (.int .i64 (iK q r))/\bu W0 w' bs L ts M:=by
 refine Calls.mono (R:=fun e w'=>e = .returned (.int .i64 (iK q r))/\bu w w' [] L [] M) ?_ fun _ _ hh=>⟨hh.1,HE.back hh.2⟩;replace HE:=(HE.here.dF (.bool s) (.slice A n c) (.slice A' n' c')).dF (.bool s') (.slice B m d) (.slice B' m' d');simp only [World.size_alloc] at HE;have HS:=Lib.hid (show iZ (q-r)=iK q r from aeL q r);obtain ⟨q0,q1,q2,q3,q4,q5⟩:=HE.c3 ak;obtain ⟨q6,q7,q8,q9,q10,q11⟩:=HE.c3 au
 go_enter Tryz.func37,Tryz.ntmps37
 go_wp2_with fail
 refine (Rh HE h h' af).mono ?_;clear HE;rintro e w1 ⟨sx,Ax,nx,cx,Ay,ny,cy,rfl,HE⟩;clear q0 q1 q2 q3 q4 q5 q6 q7 q8 q9 q10 q11
 go_wp2_with fail
 refine (Rf HE ak af).mono ?_;rw [HS.out];clear HE;rintro e w2 ⟨rfl,HE⟩
 go_wp2_with fail
 go_ret
 exact ⟨rfl,HE.bare.pick (fun _ he=>he) (fun e he => .tail _ he)⟩
end
end Go.Proofs.BGQ
