/- Part of a proof, said shortly. -/
import Derived.Deep.RegionHeld3
import Derived.Deep.RegionWith
import Derived.Test.YtkcpphebkmnonaaGreatDoorAlzb
import Derived.Test.YtkcpphebkmnonaaGreatDoorC12b
import Derived.Test.YtkcpphebkmnonaaGreatDoorC9b
import Derived.Test.YtkcpphebkmnonaaGreatDoorC8b
import Derived.Test.YtkcpphebkmnonaaGreatDoorC5b
import Derived.Test.YtkcpphebkmnonaaGreatDoorC2b
import Derived.Test.YtkcpphebkmnonaaGreatDoorC1b
import Derived.Test.YtkcpphebkmnonaaGreatDoorC4b
import Derived.Test.YtkcpphebkmnonaaGreatDoorC3b
import Derived.Test.YtkcpphebkmnonaaGreatDoorC7b
import Derived.Test.YtkcpphebkmnonaaGreatDoorC6b
import Derived.Test.YtkcpphebkmnonaaGreatDoorC15b
import Derived.Test.YtkcpphebkmnonaaGreatDoorC13b
import Derived.Test.YtkcpphebkmnonaaGreatDoorC14b
namespace Go.Proofs.BGQ
open Go Go.RowKit Lw
section
variable {W0 w:World} {bs:List Bx} {L:List En} {ts:List Bt} {M:List Qn} {v v':Value} {x y:Int} {k k':Nat} {b b':Bool}
theorem D9{z:Int}(HE:bu W0 w bs L ts M)(h1 : -9223372036854775808<=z)(h2:z<=9223372036854775807) :
  Calls Tryz.prog 104 #[.int .i64 z] w (gI W0 bs L ts M z 2):=(ahX HE.env.here h1 h2).mono fun _ _ hh=>HE.uY hh
theorem wu(HE:bu W0 w bs L ts M)(h:⟨v,x,k,b⟩∈L)(hk:k<=100000) :
  Calls Tryz.prog 100 #[v] w fun e w'=>e = .returned (.int .i64 (dL x))/\bu W0 w' bs L ts M:=(WW HE.env.here h hk).mono fun _ _ hh=>⟨hh.1,HE.step hh.2⟩
theorem Hw(HE:bu W0 w bs L ts M)(h:⟨v,x,k,b⟩∈L)(hk:k<=10000) :
  Calls Tryz.prog 108 #[v] w (gI W0 bs L ts M (-x) k):=(WT HE.env.here h hk).mono fun _ _ hh=>HE.uY hh
theorem WJ(HE:bu W0 w bs L ts M)(h:⟨v,x,k,b⟩∈L)(h':⟨v',y,k',b'⟩∈L)(hk:k<=10000/\k'<=10000) :
  Calls Tryz.prog 107 #[v,v'] w (gI W0 bs L ts M (x+y) (k+k'+1)) :=
 (WS HE.env.here h h' hk).mono fun _ _ ⟨A,c,e1,_,_,he⟩=>⟨_,A,_,c,e1,HE.step he⟩
theorem Hq(HE:bu W0 w bs L ts M)(h:⟨v,x,k,b⟩∈L)(h':⟨v',y,k',b'⟩∈L)(hk:k<=10000/\k'<=10000) :
  Calls Tryz.prog 105 #[v,v'] w (gI W0 bs L ts M (x*y) (k+k'+1)) :=
 (ahV HE.env.here h h' hk).mono fun _ _ ⟨A,c,e1,_,_,he⟩=>⟨_,A,_,c,e1,HE.step he⟩
theorem WO(HE:bu W0 w bs L ts M)(h:⟨v,x,k,b⟩∈L)(h':⟨v',y,k',b'⟩∈L)(hk:k<=10000/\k'<=10000) :
  Calls Tryz.prog 96 #[v,v'] w fun e w'=>e = .returned (.int .i64 (dX x y))/\bu W0 w' bs L ts M:=(ahQ HE.env.here h h' hk).mono fun _ _ hh=>⟨hh.1,HE.step hh.2⟩
theorem ND(HE:bu W0 w bs L ts M)(h:⟨v,x,k,b⟩∈L)(h':⟨v',y,k',b'⟩∈L)(hk:k+k'<=10000) :
  Calls Tryz.prog 97 #[v,v'] w (gI W0 bs L ts M ((Nat.gcd x.natAbs y.natAbs:Nat):Int) (k+k'+1)):=(ahT HE.env.here h h' hk).mono fun _ _ hh=>HE.uY hh
theorem G9(HE:bu W0 w bs L ts M)(h:⟨v,x,k,b⟩∈L)(h':⟨v',y,k',b'⟩∈L)(hk:k+k'<=10000)(hy:y≠0) :
  Calls Tryz.prog 148 #[v,v'] w fun e w' => ∃ (s s':Bool) (D D':Option Addr) (m d m' d':Nat),e = .returned (.tuple #[.agg #[.bool s,.slice D m d],.agg #[.bool s',.slice D' m' d'],.int .i64 0]) /\
   bu W0 w' bs (⟨.agg #[.bool s,.slice D m d],x/y,k+1,true⟩::⟨.agg #[.bool s',.slice D' m' d'],x%y,k',true⟩::L) ts M:=by
 have H1:=HE.env.ops _ h;have H2:=HE.env.ops _ h';have hz:=Vh hy H1.lt;have hz':=Vk (x:=x) hy H2.lt;obtain ⟨s,A,n,c,ns,B,e1,h2,h3,h4,h5,h6,e7,h8⟩:=H1;obtain ⟨s',A',n',c',ns',B',e1',h2',h3',h4',h5',h6',fK,h8'⟩:=H2;dsimp only at e1 e7 e1' fK h5 h5' hz hz';subst e1 e1' e7 fK;refine (ahJ s s' A A' ns ns' n n' c c' B B' w h2 h2' h3 h3' h4 h4' af af h6 h6' hy).mono ?_;rintro e w' ⟨A9,A8,c9,c8,rfl,dZ,hc8,fF,mO,hb⟩;exact ⟨_,_,A9,A8,_,c9,_,c8,rfl,((HE.next hb).push (DI mO hc8 hz')).push (DI fF dZ hz)⟩
end
end Go.Proofs.BGQ
namespace Lw
theorem acO{s:Bool}{ns ms:List Nat}{n m:Nat}(hn:ns.length=n)(hm:ms.length=m)(h:¬ (n=0/\m=0)) :
  fV s ns ms=((decide (0<n)&&vB false ns)&&((decide (0<m)&&vB false ms)&&cp ns ms)):=by
 unfold fV;rw [hn,hm]
 by_cases h1:n=0
 ·rw [if_pos (.inl h1),decide_eq_false (by omega:¬ n=m),decide_eq_false (by omega:¬ 0<n)];rfl
 ·by_cases h2:m=0
  ·rw [if_pos (.inr h2),decide_eq_false (by omega:¬ n=m),decide_eq_false (by omega:¬ 0<m)];simp
  ·rw [if_neg af,decide_eq_true (by omega:0<n),decide_eq_true (by omega:0<m)];simp
theorem abx(ns ms:List Nat):(dX ((Nat.gcd (val ns) (val ms):Nat):Int) 1==0)=cp ns ms:=by
 unfold dX cp;grind
theorem Y8{ns:List Nat}(h:vB false ns=true):zv false ns=(val ns:Int):=by unfold zv;rw [if_pos h];rfl
end Lw
namespace Go.Proofs.BGQ
open Go Go.RowKit Lw
set_option maxRecDepth 100000 in
set_option maxHeartbeats 800000 in
theorem Xg(A:Option Addr)(ns:List Nat)(n c B:Nat)(w:World)(h:Rd w B A ns)(_hB:B<=w.heap.size)(hn:ns.length=n)(hl:n<=16777216) :
  Calls Tryz.prog 95 #[.slice A n c] w fun e w'=>e = .returned (.bool (decide (0<n)&&vB false ns))/\w=w':=by
 have Hn:=Lib.hid hn;clear hn
 by_cases h0:n=0
 ·subst h0
  go_enter Tryz.func95,Tryz.ntmps95
  go_wp2_with fail
  go_ret
  exact ⟨rfl,rfl⟩
 ·obtain ⟨b,off,rfl,hb,hcell,hlt⟩:=h.at_ (k:=n-1) (by rw [Hn.out];omega)
  go_enter Tryz.func95,Tryz.ntmps95
  go_wp2_with fail
  go_ret
  refine ⟨jY ?_,rfl⟩;rw [decide_eq_true (by omega:0<n),Bool.true_and];unfold vB;rw [if_neg (by rw [Hn.out];exact h0),Hn.out,Bool.eq_iff_iff,bne_iff_ne,bne_iff_ne];exact not_congr Int.ofNat_inj
section
variable {W0 w:World} {bs:List Bx} {L:List En} {ts:List Bt} {M:List Qn} {s:Bool} {A A':Option Addr} {n c n' c' k:Nat} {q:Rat} {b:Bool}
set_option maxRecDepth 100000 in
set_option maxHeartbeats 1600000 in
theorem DF(HE:bu W0 w bs L ts M):Calls Tryz.prog 98 #[] w (gI W0 bs L ts M 1 2):=by
 refine Calls.mono (R:=gI w [] L [] M 1 2) ?_ fun _ _ hh=>gI.of HE hh;replace HE:=HE.here.bT (.bool false) (.slice none 0 0)
 go_enter Tryz.func98,Tryz.ntmps98
 go_wp2_with fail
 refine (D9 HE af af).mono ?_;rintro e w1 ⟨s1,A1,n1,c1,rfl,HE⟩;obtain ⟨q0,q1,q2,q3⟩:=HE.c2 ak
 go_wp2_with fail
 refine bodyPost_ret (v := .agg #[.bool s1,.slice A1 n1 c1]) (by simp [results,Tryz.results98,go_sem,q0,q1]) rfl ?_;exact ⟨_,_,_,_,rfl,HE.done2 ak s1 (.slice A1 n1 c1)⟩
set_option maxRecDepth 100000 in
set_option maxHeartbeats 3200000 in
theorem Ho(HE:bu W0 w bs L ts M)(h:⟨.agg #[.bool s,.slice A n c,.slice A' n' c'],q,k,b⟩∈M)(hk:k<=3000) :
  Calls Tryz.prog 54 #[.agg #[.bool s,.slice A n c,.slice A' n' c']] w fun e w'=>e = .returned (.bool b)/\bu W0 w' bs L ts M:=by
 refine Calls.mono (R:=fun e w'=>e = .returned (.bool b)/\bu w w' [] L [] M) ?_ fun _ _ hh=>⟨hh.1,HE.back hh.2⟩;obtain ⟨s',A1,n1,c1,A2,n2,c2,ns,ms,h1,r1,r2,e2,e3,e4,e5,e6,e7,e8,e9⟩:=HE.fr _ h;dsimp only at h1 e4 e5 e9
 injection h1 with h1
 injection h1 with h1;simp only [List.cons.injEq,Value.bool.injEq,Value.slice.injEq,and_true] at h1;obtain ⟨rfl,⟨rfl,rfl,rfl⟩,rfl,rfl,rfl⟩:=h1;replace HE:=HE.here.dm (.bool s) (.slice A n c) (.slice A' n' c');obtain ⟨q0,q1,q2,q3,q4,q5⟩:=HE.c3 ak
 by_cases h0:n=0/\n'=0
 ·obtain ⟨h1,h2⟩:=h0
  have HV:=Lib.hid (show (!s)=b by rw [<- e9];unfold fV;rw [if_pos (.inl af),e2,e3,decide_eq_true (by omega:n=n')];rfl);subst h1 h2;clear e2 e3 e4 e5 e6 e7 e8 e9 r1 r2 h
  go_enter avh,avi
  go_wp2_with fail
  go_ret
  exact ⟨jY HV.out,HE.bare⟩
 ·have hp:=fun W hb=>Xg A ns n c w.heap.size W (r1.next hb (avW _)) (Below.size hb) e2 af
  have hp':=fun W hb=>Xg A' ms n' c' w.heap.size W (r2.next hb (avW _)) (Below.size hb) e3 af;have hV:=acO (s:=s) e2 e3 h0;rw [e9] at hV;have o1:=fun (hv:vB false ns=true) (W:World) (hb:Below w.heap.size w W)=>(show dK W ⟨.agg #[.bool false,.slice A n c],(val ns:Int),k,true⟩ from ⟨false,A,n,c,ns,w.heap.size,rfl,r1.next hb (avW _),hb.size,e2,e4,e6,Y8 hv,hv⟩);have o2:=fun (hv:vB false ms=true) (W:World) (hb:Below w.heap.size w W)=>(show dK W ⟨.agg #[.bool false,.slice A' n' c'],(val ms:Int),k,true⟩ from ⟨false,A',n',c',ms,w.heap.size,rfl,r2.next hb (avW _),hb.size,e3,e5,e7,Y8 hv,hv⟩);have HC:=Lib.hid (abx ns ms);have HP:=Lib.hid hp;have Bi:=Lib.hid hp';have HV:=Lib.hid hV;have O1:=Lib.hid o1;have O2:=Lib.hid o2;have HH:Hid (n≠0\/n'≠0):=Lib.hid af;clear hp hp' hV o1 o2 e2 e3 e4 e5 e6 e7 e8 e9 r1 r2 h h0
  cases g1:(decide (0<n)&&vB false ns)
  ·have Bj:=Lib.hid (show ∀ W,Below w.heap.size w W->Calls Tryz.prog 95 #[.slice A n c] W fun e w'=>e = .returned (.bool false)/\W=w' by have:=HP.out;rwa [g1] at this)
   have HB:=Lib.hid (show b=false by rw [HV.out,g1];rfl);clear HP Bi HV O1 O2 g1 HC
   by_cases h0:n=0
   ·have hm:=HH.out
    have hqm:((n':Int)==0)=false:=by rw [beq_eq_false_iff_ne];omega
    subst h0;clear hm
    go_enter avh,avi
    go_wp2_with fail
    refine (Bj.out _ HE.below).mono ?_;rintro e w1 ⟨rfl,rfl⟩
    go_wp2_with fail
    go_ret
    exact ⟨jY HB.out.symm,HE.bare⟩
   ·have vk:((n:Int)==0)=false:=by rw [beq_eq_false_iff_ne];omega
    clear h0
    go_enter avh,avi
    go_wp2_with fail
    refine (Bj.out _ HE.below).mono ?_;rintro e w1 ⟨rfl,rfl⟩
    go_wp2_with fail
    go_ret
    exact ⟨jY HB.out.symm,HE.bare⟩
  ·have Bj:=Lib.hid (show ∀ W,Below w.heap.size w W->Calls Tryz.prog 95 #[.slice A n c] W fun e w'=>e = .returned (.bool true)/\W=w' by have:=HP.out;rwa [g1] at this)
   have hg:=g1;rw [Bool.and_eq_true,decide_eq_true_iff] at hg;have vk:((n:Int)==0)=false:=by rw [beq_eq_false_iff_ne];omega
   have O3:=Lib.hid (O1.out hg.2);clear O1 HP hg
   cases g2:(decide (0<n')&&vB false ms)
   ·have HP2:=Lib.hid (show ∀ W,Below w.heap.size w W->Calls Tryz.prog 95 #[.slice A' n' c'] W fun e w'=>e = .returned (.bool false)/\W=w' by have:=Bi.out;rwa [g2] at this)
    have HB:=Lib.hid (show b=false by rw [HV.out,g1,g2];rfl);clear Bi HV O2 O3 g1 g2 HC
    go_enter avh,avi
    go_wp2_with fail
    refine (Bj.out _ HE.below).mono ?_;rintro e w1 ⟨rfl,rfl⟩
    go_wp2_with fail
    refine (HP2.out _ HE.below).mono ?_;rintro e w1 ⟨rfl,rfl⟩
    go_wp2_with fail
    go_ret
    exact ⟨jY HB.out.symm,HE.bare⟩
   ·have HP2:=Lib.hid (show ∀ W,Below w.heap.size w W->Calls Tryz.prog 95 #[.slice A' n' c'] W fun e w'=>e = .returned (.bool true)/\W=w' by have:=Bi.out;rwa [g2] at this)
    have hg:=g2;rw [Bool.and_eq_true] at hg;have O4:=Lib.hid (O2.out hg.2);have HB:=Lib.hid (show b=(dX ((Nat.gcd (val ns) (val ms):Nat):Int) 1==0) by rw [HV.out,g1,g2,HC.out];rfl);clear Bi HV O2 g1 g2 HC hg
    go_enter avh,avi
    go_wp2_with fail
    refine (Bj.out _ HE.below).mono ?_;rintro e w1 ⟨rfl,rfl⟩
    go_wp2_with fail
    refine (HP2.out _ HE.below).mono ?_;rintro e w1 ⟨rfl,rfl⟩;replace HE:=(HE.push (O4.out _ HE.below)).push (O3.out _ HE.below)
    go_wp2_with fail
    refine (ND HE ak au af).mono ?_;clear HE;rintro e w1 ⟨sa,Aa,na,ca,rfl,HE⟩
    go_wp2_with fail
    refine (DF HE).mono ?_;clear HE;rintro e w2 ⟨sb,Ab,nb,cb,rfl,HE⟩
    go_wp2_with fail
    refine (WO HE au ak af).mono ?_;clear HE;rintro e w3 ⟨rfl,HE⟩
    go_wp2_with fail
    go_ret
    exact ⟨jY HB.out.symm,HE.bare.pick (fun _ he => .tail _ (.tail _ (.tail _ (.tail _ he)))) (fun _ he=>he)⟩
end
section
variable {W0 w:World} {bs:List Bx} {L:List En} {ts:List Bt} {M:List Qn} {s s':Bool} {A A' B B':Option Addr} {n c n' c' m d m' d' k k':Nat} {q r:Rat} {x y:Int} {b b':Bool}
set_option maxRecDepth 100000 in
set_option maxHeartbeats 2400000 in
theorem uq(HE:bu W0 w bs L ts M)(h:⟨.agg #[.bool s,.slice A n c,.slice A' n' c'],q,k,b⟩∈M)(hk:k<=3000) :
  Calls Tryz.prog 99 #[.agg #[.bool s,.slice A n c,.slice A' n' c']] w (mF W0 bs L ts M q.num (q.den:Int) (k+2)):=by
 refine Calls.mono (R:=mF w [] L [] M q.num (q.den:Int) (k+2)) ?_ fun _ _ hh=>mF.of HE hh;have HO:=Lib.hid (HE.here);have hF:=HE.fr _ h
 have hz:b=false\/n=0->q=0:=by
  intro hb;rcases hb with rfl | hb
  ·obtain ⟨s',A1,n1,c1,A2,n2,c2,ns,ms,h1,h2,h3,h4,h5,h6,h7,h8,h9,h10,h11⟩:=hF
   dsimp only at h10 h11;rw [<- h10];unfold qv;rw [h11];rfl
  ·cases b
   ·obtain ⟨s',A1,n1,c1,A2,n2,c2,ns,ms,h1,h2,h3,h4,h5,h6,h7,h8,h9,h10,h11⟩:=hF
    dsimp only at h10 h11;rw [<- h10];unfold qv;rw [h11];rfl
   ·exact (o7 hF.own.2.1).1 hb
 have hnz:b=true->n≠0->q≠0:=by
  rintro rfl h1 h2;exact h1 ((o7 hF.own.2.1).2 h2)
 replace HE:=((HE.here.dm (.bool s) (.slice A n c) (.slice A' n' c')).bT (.bool false) (.slice none 0 0)).bT (.bool false) (.slice none 0 0);simp only [World.size_alloc] at HE
 cases b
 ·have HQ:=Lib.hid (hz (.inl rfl))
  clear hz hnz hF HO;skip;obtain ⟨q0,q1,q2,q3,q4,q5⟩:=HE.c3 ak
  go_enter Tryz.func99,Tryz.ntmps99
  go_wp2_with fail
  refine (Ho HE h hk).mono ?_;clear HE;rintro e w1 ⟨rfl,HE⟩;clear q0 q1 q2 q3 q4 q5;obtain ⟨q6,q7,q8,q9,q10,q11⟩:=HE.c3 ak
  go_wp2_with fail
  refine (DF HE).mono ?_;clear HE;rintro e w2 ⟨s1,A1,n1,c1,rfl,HE⟩;clear q6 q7 q8 q9 q10 q11;obtain ⟨a0,a1,a2,a3⟩:=HE.c2 ak;obtain ⟨b0,b1,b2,b3⟩:=HE.c2 au
  go_wp2_with fail
  refine bodyPost_ret (v := .tuple #[.agg #[.bool false,.slice none 0 0],.agg #[.bool s1,.slice A1 n1 c1]]) (by simp [results,Tryz.results99,go_sem,a0,a1,b0,b1]) rfl ?_;have H3:=(HE.jH au [⟨w.heap.size+1+1,.bool false,.slice none 0 0⟩] (fun b hb=>by simp only [List.mem_cons,List.not_mem_nil,or_false] at hb;subst hb;exact ⟨(by repeat (first | exact aZ | refine .tail _ ?_)),by dsimp only;omega⟩) false (.slice none 0 0)).done2 au s1 (.slice A1 n1 c1);have hq:=HQ.out;subst hq;have h1:=H3.env.ops _ ak;exact ⟨_,_,_,_,_,_,_,_,rfl,((H3.tl.push (h1.weak af)).push ⟨false,none,0,0,[],0,rfl,Rd.nil_ _ _ _,avY _,rfl,avY _,avW _,rfl,rfl⟩).bare⟩
 ·by_cases hn:n=0
  ·have HQ:=Lib.hid (hz (.inr hn))
   subst hn;clear hz hnz hF HO;skip;obtain ⟨q0,q1,q2,q3,q4,q5⟩:=HE.c3 ak
   go_enter Tryz.func99,Tryz.ntmps99
   go_wp2_with fail
   refine (Ho HE h hk).mono ?_;clear HE;rintro e w1 ⟨rfl,HE⟩;clear q0 q1 q2 q3 q4 q5;obtain ⟨q6,q7,q8,q9,q10,q11⟩:=HE.c3 ak
   go_wp2_with fail
   refine (DF HE).mono ?_;clear HE;rintro e w2 ⟨s1,A1,n1,c1,rfl,HE⟩;clear q6 q7 q8 q9 q10 q11;obtain ⟨a0,a1,a2,a3⟩:=HE.c2 ak;obtain ⟨b0,b1,b2,b3⟩:=HE.c2 au
   go_wp2_with fail
   refine bodyPost_ret (v := .tuple #[.agg #[.bool false,.slice none 0 0],.agg #[.bool s1,.slice A1 n1 c1]]) (by simp [results,Tryz.results99,go_sem,a0,a1,b0,b1]) rfl ?_;have H3:=(HE.jH au [⟨w.heap.size+1+1,.bool false,.slice none 0 0⟩] (fun b hb=>by simp only [List.mem_cons,List.not_mem_nil,or_false] at hb;subst hb;exact ⟨(by repeat (first | exact aZ | refine .tail _ ?_)),by dsimp only;omega⟩) false (.slice none 0 0)).done2 au s1 (.slice A1 n1 c1);have hq:=HQ.out;subst hq;have h1:=H3.env.ops _ ak;exact ⟨_,_,_,_,_,_,_,_,rfl,((H3.tl.push (h1.weak af)).push ⟨false,none,0,0,[],0,rfl,Rd.nil_ _ _ _,avY _,rfl,avY _,avW _,rfl,rfl⟩).bare⟩
  ·have HQ:=Lib.hid (hnz rfl hn)
   have hn0:((n:Int)==0)=false:=by rw [beq_eq_false_iff_ne];omega
   clear hz hnz hF HO hn;obtain ⟨q0,q1,q2,q3,q4,q5⟩:=HE.c3 ak
   go_enter Tryz.func99,Tryz.ntmps99
   go_wp2_with fail
   refine (Ho HE h hk).mono ?_;clear HE;rintro e w1 ⟨rfl,HE⟩;clear q0 q1 q2 q3 q4 q5;obtain ⟨q6,q7,q8,q9⟩:=HE.c2 ak;obtain ⟨q10,q11,q12,q13⟩:=HE.c2 au;obtain ⟨fP,fQ,q16,fU,gJ,gK⟩:=HE.c3 ak
   go_wp2_with fail
   go_region
   go_wp2_with fail
   refine bodyPost_ret (v := .tuple #[.agg #[.bool s,.slice A n c],.agg #[.bool false,.slice A' n' c']]) (by simp [results,Tryz.results99,go_sem,q6,q7,q10,q11]) rfl ?_;have H3:=(HE.drew.jH au [⟨w.heap.size+1+1,.bool false,.slice none 0 0⟩] (fun b hb=>by simp only [List.mem_cons,List.not_mem_nil,or_false] at hb;subst hb;exact ⟨(by repeat (first | exact aZ | refine .tail _ ?_)),by dsimp only;omega⟩) s (.slice A n c)).done2 au false (.slice A' n' c');have H4:=H3.bare.parts h HQ.out;exact ⟨_,_,_,_,_,_,_,_,rfl,(H4.tl.tl.push ((H4.env.ops _ au).weak af)).push ((H4.env.ops _ ak).weak af)⟩
end
section
variable {W0 w:World} {bs:List Bx} {L:List En} {ts:List Bt} {M:List Qn} {s s':Bool} {A A' B B':Option Addr} {n c n' c' m d m' d' k k':Nat} {q r:Rat} {x y:Int} {b b':Bool}
theorem bu.SQ{v:Value}(HE:bu W0 w bs L ts M)(h:⟨.agg #[.bool s,.slice A n c],x,k,true⟩∈L)(h':⟨.agg #[.bool s',.slice A' n' c'],y,k',true⟩∈L)(hq:q≠0)(hx:q.num=x)(hy:(q.den:Int)=y)(hv:v = .agg #[.bool s,.slice A n c,.slice A' n' c']):bu W0 w bs L ts (⟨v,q,k+k',true⟩::M):=by
 subst hv;have h0:x≠0:=by rw [<- hx];exact fun e=>hq (awo.1 e)
 have h1:0<y:=by rw [<- hy];exact den_pos q
 have hg:Nat.gcd x.natAbs y.natAbs=1:=by rw [<- hx,<- hy,av2];exact q.reduced
 have h2:Rat.divInt x y=q:=by rw [<- hx,<- hy];exact awW q
 have h3:=HE.SV h h' h0 h1 hg
 rwa [h2] at h3
theorem Sl{x y:Int}(_hx:x≠0)(hy:y≠0):Rat.divInt x y≠0:=by
 rw [Ne,<- axw y,Rat.divInt_eq_divInt_iff hy hy,Int.zero_mul]
 simp_all
theorem Sr(x y:Int):Rat.divInt (-x) (-y)=Rat.divInt x y:=by
 by_cases hy:y=0
 ·simp_all
 ·rw [Rat.divInt_eq_divInt_iff af hy,Int.neg_mul,Int.mul_neg]
set_option maxRecDepth 100000 in
set_option maxHeartbeats 4000000 in
theorem zi(HE:bu W0 w bs L ts M)(h:⟨.agg #[.bool s,.slice A n c],x,k,b⟩∈L)(h':⟨.agg #[.bool s',.slice A' n' c'],y,k',b'⟩∈L)(hk:k+k'<=4000)(hy:y≠0) :
  Calls Tryz.prog 103 #[.agg #[.bool s,.slice A n c],.agg #[.bool s',.slice A' n' c']] w (dR W0 bs L ts M (Rat.divInt x y) (k+1+(k'+1))):=by
 refine Calls.mono (R:=(dR w [] L [] M (Rat.divInt x y) (k+1+(k'+1)))) ?_ fun _ _ hh=>dR.of HE hh;replace HE:=((HE.here.bT (.bool s) (.slice A n c)).bT (.bool s') (.slice A' n' c')).dm (.bool false) (.slice none 0 0) (.slice none 0 0);simp only [World.size_alloc] at HE
 by_cases hx:x=0
 ·have HS:=Lib.hid (show dL x=0 by unfold dL;rw [if_neg af,if_pos hx])
  have HX:=Lib.hid (show Rat.divInt x y=0 by rw [hx];exact axw _);clear hx hy;obtain ⟨q0,q1,q2,q3⟩:=HE.c2 ak;obtain ⟨q4,q5,q6,q7⟩:=HE.c2 au;obtain ⟨q8,q9,q10,q11,q12,q13⟩:=HE.c3 ak
  go_enter Tryz.func103,Tryz.ntmps103
  go_wp2_with fail
  refine (wu HE h af).mono ?_;rw [HS.out];clear HE;rintro e w1 ⟨rfl,HE⟩;clear q0 q1 q2 q3 q4 q5 q6 q7 q8 q9 q10 q11 q12 q13;obtain ⟨fP,fQ,q16,fU,gJ,gK⟩:=HE.c3 ak;have TF:=(HE.ji ak).put (.bool false) (.slice none 0 0) (.slice none 0 0)
  go_wp2_with fail
  obtain ⟨z0,z1,z2,-,-,-⟩:=TF.cells;refine bodyPost_ret (v := .agg #[.bool false,.slice none 0 0,.slice none 0 0]) (by simp [results,Tryz.results103,go_sem,z0,z1,z2]) rfl ?_;rw [HX.out];exact ⟨_,_,_,_,_,_,_,rfl,((HE.ja (D:=none) (m:=0) (d:=0) ak false (.slice none 0 0)).bare).zero _⟩
 ·by_cases h0:0<y
  ·have hs:(dL x==0)=false:=by rw [beq_eq_false_iff_ne];unfold dL;split;decide;first | decide | (rw [if_neg hx];decide)
   have HS:=Lib.hid (show dL y=1 by unfold dL;rw [if_neg af,if_neg af]);obtain ⟨g,hg⟩ : ∃ g:Int,g=(Nat.gcd x.natAbs y.natAbs:Nat):=⟨_,rfl⟩;have HR:=Lib.hid (Nw h0 hg);have HG:=Lib.hid hg;have HX0:=Lib.hid (Sl hx hy);clear hg h0 hx hy;generalize Rat.divInt x y=q at *;obtain ⟨q0,q1,q2,q3⟩:=HE.c2 ak;obtain ⟨q4,q5,q6,q7⟩:=HE.c2 au;obtain ⟨q8,q9,q10,q11,q12,q13⟩:=HE.c3 ak
   go_enter Tryz.func103,Tryz.ntmps103
   go_wp2_with fail
   refine (wu HE h af).mono ?_;clear HE;rintro e w1 ⟨rfl,HE⟩;clear q0 q1 q2 q3 q4 q5 q6 q7 q8 q9 q10 q11 q12 q13;obtain ⟨fP,fQ,q16,fU⟩:=HE.c2 ak;obtain ⟨gJ,gK,ig,iq⟩:=HE.c2 au;obtain ⟨q22,q23,q24,iC,iH,iI⟩:=HE.c3 ak
   go_wp2_with fail
   refine (wu HE h' af).mono ?_;rw [HS.out];clear HE;rintro e w2 ⟨rfl,HE⟩;clear hs;clear fP fQ q16 fU gJ gK ig iq q22 q23 q24 iC iH iI;obtain ⟨iU,iV,q30,iW⟩:=HE.c2 ak;obtain ⟨q32,jc,jd,q35⟩:=HE.c2 au;obtain ⟨jX,q37,kL,kQ,kR,kS⟩:=HE.c3 ak
   go_wp2_with fail
   refine (ND HE (by repeat (first | exact aZ | assumption | refine .tail _ ?_)) (by repeat (first | exact aZ | assumption | refine .tail _ ?_)) af).mono ?_;clear HE;rintro e wg ⟨sg,Ag,ng,cg,rfl,HE⟩;rw [<- HG.out] at HE;replace HE:=HE.bT (.bool sg) (.slice Ag ng cg);clear iU iV q30 iW q32 jc jd q35 jX q37 kL kQ kR kS;obtain ⟨lq,lC,nJ,nK⟩:=HE.c2 ak;obtain ⟨nM,nN,qC,qE⟩:=HE.c2 au;obtain ⟨qF,qG,qH,qI⟩:=HE.c2 ay;obtain ⟨sQ,sS,sU,sV,sW,sZ⟩:=HE.c3 ak
   go_wp2_with fail
   refine (G9 HE (by repeat (first | exact aZ | assumption | refine .tail _ ?_)) (by repeat (first | exact aZ | assumption | refine .tail _ ?_)) af HR.out.2.2).mono ?_;clear HE;rintro e wx ⟨sx,sy,Ax,Ay,lx,cx,ly,cy,rfl,HE⟩;replace HE:=(HE.bT (.bool sx) (.slice Ax lx cx)).bT (.bool sy) (.slice Ay ly cy);simp only [World.size_alloc] at HE;clear lq lC nJ nK nM nN qC qE qF qG qH qI sQ sS sU sV sW sZ;obtain ⟨tq,tH,tJ,tK⟩:=HE.c2 ak;obtain ⟨tV,tX,tY,tZ⟩:=HE.c2 au;obtain ⟨uf,ug,uh,uj⟩:=HE.c2 ay;obtain ⟨vT,vU,vV,vW⟩:=HE.c2 az;obtain ⟨vX,vY,DL,DN⟩:=HE.c2 aA;obtain ⟨DR,DU,DV,DW,DX,DY⟩:=HE.c3 ak
   go_wp2_with fail
   refine (G9 HE (by repeat (first | exact aZ | assumption | refine .tail _ ?_)) (by repeat (first | exact aZ | assumption | refine .tail _ ?_)) af HR.out.2.2).mono ?_;clear HE;rintro e wy ⟨su,sv,Au,Av,lu,cu,lv,cv,rfl,HE⟩;replace HE:=(HE.bT (.bool su) (.slice Au lu cu)).bT (.bool sv) (.slice Av lv cv);simp only [World.size_alloc] at HE;clear tq tH tJ tK tV tX tY tZ uf ug uh uj vT vU vV vW vX vY DL DN DR DU DV DW DX DY;obtain ⟨GV,GX,GY,GZ⟩:=HE.c2 au;obtain ⟨G5,G6,G7,G8⟩:=HE.c2 az;obtain ⟨Np,Nq,Nr,Ns,Nu,Nv⟩:=HE.c3 ak;have TF:=(HE.ji ak).put (.bool sx) (.slice Ax lx cx) (.slice Au lu cu)
   go_wp2_with fail
   obtain ⟨z0,z1,z2,-,-,-⟩:=TF.cells;refine bodyPost_ret (v := .agg #[.bool sx,.slice Ax lx cx,.slice Au lu cu]) (by simp [results,Tryz.results103,go_sem,z0,z1,z2]) rfl ?_;have HF:=HE.SQ (v := .agg #[.bool sx,.slice Ax lx cx,.slice Au lu cu]) (s:=sx) (A:=Ax) (n:=lx) (c:=cx) (s':=su) (A':=Au) (n':=lu) (c':=cu) (by repeat (first | exact aZ | assumption | refine .tail _ ?_)) (by repeat (first | exact aZ | assumption | refine .tail _ ?_)) HX0.out HR.out.1 HR.out.2.1 rfl;have HK:=(HF.ja (D:=Ax) (m:=lx) (d:=cx) ak sx (.slice Au lu cu)).bare;exact ⟨_,_,_,_,_,_,_,rfl,(HK.pick (fun e he => .tail _ (.tail _ (.tail _ (.tail _ (.tail _ (he)))))) (fun _ he=>he)).hd (·.weak af)⟩
  ·have hs:(dL x==0)=false:=by rw [beq_eq_false_iff_ne];unfold dL;split;decide;first | decide | (rw [if_neg hx];decide)
   have HS:=Lib.hid (show dL y = -1 by unfold dL;rw [if_pos af]);obtain ⟨g,hg⟩ : ∃ g:Int,g=(Nat.gcd (-x).natAbs (-y).natAbs:Nat):=⟨_,rfl⟩;have HR:=Lib.hid (Nw (n := -x) (d := -y) af hg);have HG:=Lib.hid hg;have HX0:=Lib.hid (Sl (x := -x) (y := -y) af af);have HN:=Lib.hid (Sr x y);clear hg h0 hx hy;rw [<- HN.out];clear HN;generalize Rat.divInt (-x) (-y)=q at *;obtain ⟨q0,q1,q2,q3⟩:=HE.c2 ak;obtain ⟨q4,q5,q6,q7⟩:=HE.c2 au;obtain ⟨q8,q9,q10,q11,q12,q13⟩:=HE.c3 ak
   go_enter Tryz.func103,Tryz.ntmps103
   go_wp2_with fail
   refine (wu HE h af).mono ?_;clear HE;rintro e w1 ⟨rfl,HE⟩;clear q0 q1 q2 q3 q4 q5 q6 q7 q8 q9 q10 q11 q12 q13;obtain ⟨fP,fQ,q16,fU⟩:=HE.c2 ak;obtain ⟨gJ,gK,ig,iq⟩:=HE.c2 au;obtain ⟨q22,q23,q24,iC,iH,iI⟩:=HE.c3 ak
   go_wp2_with fail
   refine (wu HE h' af).mono ?_;rw [HS.out];clear HE;rintro e w2 ⟨rfl,HE⟩;clear hs;clear fP fQ q16 fU gJ gK ig iq q22 q23 q24 iC iH iI;obtain ⟨iU,iV,q30,iW⟩:=HE.c2 ak;obtain ⟨q32,jc,jd,q35⟩:=HE.c2 au
   go_wp2_with fail
   go_region_with
    (first
     | (go_at_call 108;have _:=pX;refine (Hw (by with_reducible first | exact HE | exact HE.drew) (.tail _ h') af).mono ?_;rintro e wb ⟨sb,Ab,nb,cb,rfl,HE⟩;obtain ⟨v0,v1,v2,v3⟩:=HE.c2 au;obtain ⟨v4,v5,v6,v7⟩:=HE.c2 ak)
     | (go_at_call 108;refine (Hw (by with_reducible first | exact HE | exact HE.drew) h af).mono ?_;rintro e wa ⟨sa,Aa,na,ca,rfl,HE⟩;have pX:=HE;obtain ⟨u0,u1,u2,u3⟩:=HE.c2 au;obtain ⟨u4,u5,u6,u7⟩:=HE.c2 ak))
   all_goals
    first | clear iU iV q30 iW q32 jc jd q35 u0 u1 u2 u3 u4 u5 u6 u7 v0 v1 v2 v3 v4 v5 v6 v7 pX | skip
    replace HE:=(HE.jH au [⟨w.heap.size+1,.bool s',.slice A' n' c'⟩] (fun b hb=>by simp only [List.mem_cons,List.not_mem_nil,or_false] at hb;subst hb;exact ⟨(by repeat (first | exact aZ | refine .tail _ ?_)),by dsimp only;omega⟩) sa (.slice Aa na ca)).jH au [⟨w.heap.size,.bool sa,.slice Aa na ca⟩] (fun b hb=>by simp only [List.mem_cons,List.not_mem_nil,or_false] at hb;subst hb;exact ⟨(by repeat (first | exact aZ | refine .tail _ ?_)),by dsimp only;omega⟩) sb (.slice Ab nb cb);generalize ((((wb.setCell ⟨w.heap.size,0,none⟩ (.bool sa)).setCell ⟨w.heap.size,1,none⟩ (.slice Aa na ca)).setCell ⟨w.heap.size+1,0,none⟩ (.bool sb)).setCell ⟨w.heap.size+1,1,none⟩ (.slice Ab nb cb))=W5 at *;obtain ⟨jX,q37,kL,kQ⟩:=HE.c2 ak;obtain ⟨kR,kS,lq,lC⟩:=HE.c2 au;obtain ⟨nJ,nK,nM,nN,qC,qE⟩:=HE.c3 ak
    go_wp2_with fail
    refine (ND HE (by repeat (first | exact aZ | assumption | refine .tail _ ?_)) (by repeat (first | exact aZ | assumption | refine .tail _ ?_)) af).mono ?_;clear HE;rintro e wg ⟨sg,Ag,ng,cg,rfl,HE⟩;rw [<- HG.out] at HE;replace HE:=HE.bT (.bool sg) (.slice Ag ng cg);clear jX q37 kL kQ kR kS lq lC nJ nK nM nN qC qE;obtain ⟨qF,qG,qH,qI⟩:=HE.c2 ak;obtain ⟨sQ,sS,sU,sV⟩:=HE.c2 au;obtain ⟨sW,sZ,tq,tH⟩:=HE.c2 ay;obtain ⟨tJ,tK,tV,tX,tY,tZ⟩:=HE.c3 ak
    go_wp2_with fail
    refine (G9 HE (by repeat (first | exact aZ | assumption | refine .tail _ ?_)) (by repeat (first | exact aZ | assumption | refine .tail _ ?_)) af HR.out.2.2).mono ?_;clear HE;rintro e wx ⟨sx,sy,Ax,Ay,lx,cx,ly,cy,rfl,HE⟩;replace HE:=(HE.bT (.bool sx) (.slice Ax lx cx)).bT (.bool sy) (.slice Ay ly cy);simp only [World.size_alloc] at HE;clear qF qG qH qI sQ sS sU sV sW sZ tq tH tJ tK tV tX tY tZ;obtain ⟨uf,ug,uh,uj⟩:=HE.c2 ak;obtain ⟨vT,vU,vV,vW⟩:=HE.c2 au;obtain ⟨vX,vY,DL,DN⟩:=HE.c2 ay;obtain ⟨DR,DU,DV,DW⟩:=HE.c2 az;obtain ⟨DX,DY,GV,GX⟩:=HE.c2 aA;obtain ⟨GY,GZ,G5,G6,G7,G8⟩:=HE.c3 ak
    go_wp2_with fail
    refine (G9 HE (by repeat (first | exact aZ | assumption | refine .tail _ ?_)) (by repeat (first | exact aZ | assumption | refine .tail _ ?_)) af HR.out.2.2).mono ?_;clear HE;rintro e wy ⟨su,sv,Au,Av,lu,cu,lv,cv,rfl,HE⟩;replace HE:=(HE.bT (.bool su) (.slice Au lu cu)).bT (.bool sv) (.slice Av lv cv);simp only [World.size_alloc] at HE;clear uf ug uh uj vT vU vV vW vX vY DL DN DR DU DV DW DX DY GV GX GY GZ G5 G6 G7 G8;obtain ⟨Np,Nq,Nr,Ns⟩:=HE.c2 au;obtain ⟨Nu,Nv,Wx,Wy⟩:=HE.c2 az;obtain ⟨WA,WB,WE,WG,WH,WI⟩:=HE.c3 ak;have TF:=(HE.ji ak).put (.bool sx) (.slice Ax lx cx) (.slice Au lu cu)
    go_wp2_with fail
    obtain ⟨z0,z1,z2,-,-,-⟩:=TF.cells;refine bodyPost_ret (v := .agg #[.bool sx,.slice Ax lx cx,.slice Au lu cu]) (by simp [results,Tryz.results103,go_sem,z0,z1,z2]) rfl ?_;have HF:=HE.SQ (v := .agg #[.bool sx,.slice Ax lx cx,.slice Au lu cu]) (s:=sx) (A:=Ax) (n:=lx) (c:=cx) (s':=su) (A':=Au) (n':=lu) (c':=cu) (by repeat (first | exact aZ | assumption | refine .tail _ ?_)) (by repeat (first | exact aZ | assumption | refine .tail _ ?_)) HX0.out HR.out.1 HR.out.2.1 rfl;have HK:=(HF.ja (D:=Ax) (m:=lx) (d:=cx) ak sx (.slice Au lu cu)).bare;exact ⟨_,_,_,_,_,_,_,rfl,(HK.pick (fun e he => .tail _ (.tail _ (.tail _ (.tail _ (.tail _ (.tail _ (.tail _ (he)))))))) (fun _ he=>he)).hd (·.weak af)⟩
end
section
variable {W0 w:World} {bs:List Bx} {L:List En} {ts:List Bt} {M:List Qn} {s s':Bool} {A A' B B':Option Addr} {n c n' c' m d m' d' k k':Nat} {q r:Rat} {x y:Int} {b b':Bool}
theorem af8{q:Rat}{k:Nat}(h:q.num.natAbs<pw k/\q.den<pw (k+1)):(-q).num.natAbs<pw (k+1)/\(-q).den<pw (k+1):=by
 rw [(yj q).1,(yj q).2,axl];exact ⟨av1 h.1 (fM af),h.2⟩
theorem af9(q:Rat) : -q=Rat.divInt (-q.num) (q.den:Int):=by
 rw [<- (yj q).1,<- (yj q).2];exact (awW (-q)).symm
theorem ai4(q r:Rat):iO (q-r)=eX q r:=by
 rcases tri q r with h | h | h
 ·rw [Kv h];exact Ya (by grind)
 ·rw [abH.2 h,h,Rat.sub_eq_add_neg,ajk]
 ·rw [Ku h];exact Yc (by grind)
set_option maxRecDepth 100000 in
set_option maxHeartbeats 3200000 in
theorem WY(HE:bu W0 w bs L ts M)(h:⟨.agg #[.bool s,.slice A n c,.slice A' n' c'],q,k,b⟩∈M)(h':⟨.agg #[.bool s',.slice B m d,.slice B' m' d'],r,k',b'⟩∈M)(hk:k+k'<=1000) :
  Calls Tryz.prog 63 #[.agg #[.bool s,.slice A n c,.slice A' n' c'],.agg #[.bool s',.slice B m d,.slice B' m' d']] w (dR W0 bs L ts M (q+r) (k+k'+2)):=by
 refine Calls.mono (R:=(dR w [] L [] M (q+r) (k+k'+2))) ?_ fun _ _ hh=>dR.of HE hh;have HP:=Lib.hid (aaL (Dk HE h) (Dk HE h'));have HD:=Lib.hid (Int.mul_ne_zero (uX q) (uX r));replace HE:=((HE.here.dm (.bool s) (.slice A n c) (.slice A' n' c')).dm (.bool s') (.slice B m d) (.slice B' m' d')).dm (.bool false) (.slice none 0 0) (.slice none 0 0);simp only [World.size_alloc] at HE;obtain ⟨q0,q1,q2,q3,q4,q5⟩:=HE.c3 ak;obtain ⟨q6,q7,q8,q9,q10,q11⟩:=HE.c3 au;obtain ⟨q12,q13,fP,fQ,q16,fU⟩:=HE.c3 ay
 go_enter Tryz.func63,Tryz.ntmps63
 go_wp2_with fail
 refine (uq HE h af).mono ?_;clear HE;rintro e w1 ⟨s1,D1,m1,d1,s2,D2,m2,d2,rfl,HE⟩;replace HE:=(HE.bT (.bool s1) (.slice D1 m1 d1)).bT (.bool s2) (.slice D2 m2 d2);simp only [World.size_alloc] at HE;clear q0 q1 q2 q3 q4 q5 q6 q7 q8 q9 q10 q11 q12 q13 fP fQ q16 fU;obtain ⟨gJ,gK,ig,iq⟩:=HE.c2 ak;obtain ⟨q22,q23,q24,iC⟩:=HE.c2 au;obtain ⟨iH,iI,iU,iV,q30,iW⟩:=HE.c3 ak;obtain ⟨q32,jc,jd,q35,jX,q37⟩:=HE.c3 au;obtain ⟨kL,kQ,kR,kS,lq,lC⟩:=HE.c3 ay
 go_wp2_with fail
 refine (uq HE h' af).mono ?_;clear HE;rintro e w2 ⟨s3,D3,m3,d3,s4,D4,m4,d4,rfl,HE⟩;replace HE:=(HE.bT (.bool s3) (.slice D3 m3 d3)).bT (.bool s4) (.slice D4 m4 d4);simp only [World.size_alloc] at HE;clear gJ gK ig iq q22 q23 q24 iC iH iI iU iV q30 iW q32 jc jd q35 jX q37 kL kQ kR kS lq lC;obtain ⟨nJ,nK,nM,nN⟩:=HE.c2 ak;obtain ⟨qC,qE,qF,qG⟩:=HE.c2 au;obtain ⟨qH,qI,sQ,sS⟩:=HE.c2 ay;obtain ⟨sU,sV,sW,sZ⟩:=HE.c2 az;obtain ⟨tq,tH,tJ,tK,tV,tX⟩:=HE.c3 ak;obtain ⟨tY,tZ,uf,ug,uh,uj⟩:=HE.c3 au;obtain ⟨vT,vU,vV,vW,vX,vY⟩:=HE.c3 ay
 go_wp2_with fail
 go_region_held3 (fun w'=>w'.cell? ⟨w1.heap.size,0,none⟩=some (.bool s1)/\w'.cell? ⟨w1.heap.size,1,none⟩=some (.slice D1 m1 d1)/\w'.cell? ⟨w1.heap.size+1,0,none⟩=some (.bool s2)/\w'.cell? ⟨w1.heap.size+1,1,none⟩=some (.slice D2 m2 d2)/\w'.cell? ⟨w2.heap.size,0,none⟩=some (.bool s3)/\w'.cell? ⟨w2.heap.size,1,none⟩=some (.slice D3 m3 d3)/\w'.cell? ⟨w2.heap.size+1,0,none⟩=some (.bool s4)/\w'.cell? ⟨w2.heap.size+1,1,none⟩=some (.slice D4 m4 d4)) (first | exact ⟨(HE.c2 az).1,(HE.c2 az).2.1,(HE.c2 ay).1,(HE.c2 ay).2.1,(HE.c2 au).1,(HE.c2 au).2.1,(HE.c2 ak).1,(HE.c2 ak).2.1⟩ | exact ⟨(HE.drew.c2 az).1,(HE.drew.c2 az).2.1,(HE.drew.c2 ay).1,(HE.drew.c2 ay).2.1,(HE.drew.c2 au).1,(HE.drew.c2 au).2.1,(HE.drew.c2 ak).1,(HE.drew.c2 ak).2.1⟩ | exact ⟨(HK.c2 az).1,(HK.c2 az).2.1,(HK.c2 ay).1,(HK.c2 ay).2.1,(HK.c2 au).1,(HK.c2 au).2.1,(HK.c2 ak).1,(HK.c2 ak).2.1⟩)
  (first
   | (go_at_call 105;refine (Hq (by with_reducible first | exact HE | exact HE.drew) (by repeat (first | exact aZ | assumption | refine .tail _ ?_)) (by repeat (first | exact aZ | assumption | refine .tail _ ?_)) af).mono ?_;rintro e wn ⟨sx,Ax,nx,cx,rfl,HE⟩)
   | (go_at_call 107;refine (WJ (by with_reducible first | exact HE | exact HE.drew) (by repeat (first | exact aZ | assumption | refine .tail _ ?_)) (by repeat (first | exact aZ | assumption | refine .tail _ ?_)) af).mono ?_;rintro e wn ⟨sx,Ax,nx,cx,rfl,HE⟩)
   | (go_at_call 103;refine (zi (by with_reducible first | exact HE | exact HE.drew) (by repeat (first | exact aZ | assumption | refine .tail _ ?_)) (by repeat (first | exact aZ | assumption | refine .tail _ ?_)) af HD.out).mono ?_;rintro e wn ⟨sx,Ax,nx,cx,Ay,ny,cy,rfl,HE⟩;have HK:=HE.ja (D:=Ax) (m:=nx) (d:=cx) ak sx (.slice Ay ny cy);obtain ⟨z0,z1,z2,z3,z4,z5⟩:=HE.c3 ak))
 go_wp2_with fail
 refine bodyPost_ret (v := .agg #[.bool sx,.slice Ax nx cx,.slice Ay ny cy]) (by simp [results,Tryz.results63,go_sem,z0,z1,z2]) rfl ?_;have HF:=HK.bare;rw [<- Qr] at HF;replace HF:=HF.hd (fun hh=>dB.tight hh HP.out.1 HP.out.2);exact ⟨_,_,_,_,_,_,_,rfl,HF.pick (fun e he => .tail _ (.tail _ (.tail _ (.tail _ (.tail _ (.tail _ (.tail _ (.tail _ (he))))))))) (fun _ he=>he)⟩
set_option maxRecDepth 100000 in
set_option maxHeartbeats 2400000 in
theorem aie(HE:bu W0 w bs L ts M)(h:⟨.agg #[.bool s,.slice A n c,.slice A' n' c'],q,k,b⟩∈M)(hk:k<=1500) :
  Calls Tryz.prog 64 #[.agg #[.bool s,.slice A n c,.slice A' n' c']] w (dR W0 bs L ts M (-q) (k+1)):=by
 refine Calls.mono (R:=(dR w [] L [] M (-q) (k+1))) ?_ fun _ _ hh=>dR.of HE hh;have HP:=Lib.hid (af8 (Dk HE h));have HD:=Lib.hid (uX q);replace HE:=(HE.here.dm (.bool s) (.slice A n c) (.slice A' n' c')).dm (.bool false) (.slice none 0 0) (.slice none 0 0);simp only [World.size_alloc] at HE;obtain ⟨q0,q1,q2,q3,q4,q5⟩:=HE.c3 ak;obtain ⟨q6,q7,q8,q9,q10,q11⟩:=HE.c3 au
 go_enter Tryz.func64,Tryz.ntmps64
 go_wp2_with fail
 refine (uq HE h af).mono ?_;clear HE;rintro e w1 ⟨s1,D1,m1,d1,s2,D2,m2,d2,rfl,HE⟩;replace HE:=(HE.bT (.bool s1) (.slice D1 m1 d1)).bT (.bool s2) (.slice D2 m2 d2);simp only [World.size_alloc] at HE;clear q0 q1 q2 q3 q4 q5 q6 q7 q8 q9 q10 q11;obtain ⟨q12,q13,fP,fQ⟩:=HE.c2 ak;obtain ⟨q16,fU,gJ,gK⟩:=HE.c2 au;obtain ⟨ig,iq,q22,q23,q24,iC⟩:=HE.c3 ak;obtain ⟨iH,iI,iU,iV,q30,iW⟩:=HE.c3 au
 go_wp2_with fail
 go_region_held3 (fun w'=>w'.cell? ⟨w1.heap.size,0,none⟩=some (.bool s1)/\w'.cell? ⟨w1.heap.size,1,none⟩=some (.slice D1 m1 d1)/\w'.cell? ⟨w1.heap.size+1,0,none⟩=some (.bool s2)/\w'.cell? ⟨w1.heap.size+1,1,none⟩=some (.slice D2 m2 d2)) (first | exact ⟨(HE.c2 au).1,(HE.c2 au).2.1,(HE.c2 ak).1,(HE.c2 ak).2.1⟩ | exact ⟨(HE.drew.c2 au).1,(HE.drew.c2 au).2.1,(HE.drew.c2 ak).1,(HE.drew.c2 ak).2.1⟩ | exact ⟨(HK.c2 au).1,(HK.c2 au).2.1,(HK.c2 ak).1,(HK.c2 ak).2.1⟩)
  (first
   | (go_at_call 108;refine (Hw (by with_reducible first | exact HE | exact HE.drew) (by repeat (first | exact aZ | assumption | refine .tail _ ?_)) af).mono ?_;rintro e wn ⟨sx,Ax,nx,cx,rfl,HE⟩)
   | (go_at_call 103;refine (zi (by with_reducible first | exact HE | exact HE.drew) (by repeat (first | exact aZ | assumption | refine .tail _ ?_)) (by repeat (first | exact aZ | assumption | refine .tail _ ?_)) af HD.out).mono ?_;rintro e wn ⟨sx,Ax,nx,cx,Ay,ny,cy,rfl,HE⟩;have HK:=HE.ja (D:=Ax) (m:=nx) (d:=cx) ak sx (.slice Ay ny cy);obtain ⟨z0,z1,z2,z3,z4,z5⟩:=HE.c3 ak))
 go_wp2_with fail
 refine bodyPost_ret (v := .agg #[.bool sx,.slice Ax nx cx,.slice Ay ny cy]) (by simp [results,Tryz.results64,go_sem,z0,z1,z2]) rfl ?_;have HF:=HK.bare;rw [<- af9] at HF;replace HF:=HF.hd (fun hh=>dB.tight hh HP.out.1 HP.out.2);exact ⟨_,_,_,_,_,_,_,rfl,HF.pick (fun e he => .tail _ (.tail _ (.tail _ (he)))) (fun _ he=>he)⟩
set_option maxRecDepth 100000 in
set_option maxHeartbeats 2400000 in
theorem Xb(HE:bu W0 w bs L ts M)(h:⟨.agg #[.bool s,.slice A n c,.slice A' n' c'],q,k,b⟩∈M)(hk:k<=1500) :
  Calls Tryz.prog 55 #[.agg #[.bool s,.slice A n c,.slice A' n' c']] w fun e w'=>e = .returned (.int .i64 (iO q))/\bu W0 w' bs L ts M:=by
 refine Calls.mono (R:=fun e w'=>e = .returned (.int .i64 (iO q))/\bu w w' [] L [] M) ?_ fun _ _ hh=>⟨hh.1,HE.back hh.2⟩;replace HE:=HE.here.dm (.bool s) (.slice A n c) (.slice A' n' c');have HS:=Lib.hid (show dL q.num=iO q from (Yb q).symm);obtain ⟨q0,q1,q2,q3,q4,q5⟩:=HE.c3 ak
 go_enter Tryz.func55,Tryz.ntmps55
 go_wp2_with fail
 refine (uq HE h af).mono ?_;clear HE;rintro e w1 ⟨s1,D1,m1,d1,s2,D2,m2,d2,rfl,HE⟩;replace HE:=(HE.bT (.bool s1) (.slice D1 m1 d1)).bT (.bool s2) (.slice D2 m2 d2);simp only [World.size_alloc] at HE;clear q0 q1 q2 q3 q4 q5;obtain ⟨q6,q7,q8,q9⟩:=HE.c2 ak;obtain ⟨q10,q11,q12,q13⟩:=HE.c2 au;obtain ⟨fP,fQ,q16,fU,gJ,gK⟩:=HE.c3 ak
 go_wp2_with fail
 refine (wu HE ak af).mono ?_;rw [HS.out];clear HE;rintro e w2 ⟨rfl,HE⟩;clear q6 q7 q8 q9 q10 q11 q12 q13 fP fQ q16 fU gJ gK
 go_wp2_with fail
 go_ret
 exact ⟨rfl,HE.bare.pick (fun e he => .tail _ (.tail _ (he))) (fun _ he=>he)⟩
set_option maxRecDepth 100000 in
set_option maxHeartbeats 3200000 in
theorem aik(HE:bu W0 w bs L ts M)(h:⟨.agg #[.bool s,.slice A n c,.slice A' n' c'],q,k,b⟩∈M)(h':⟨.agg #[.bool s',.slice B m d,.slice B' m' d'],r,k',b'⟩∈M)(hk:k+k'<=900) :
  Calls Tryz.prog 61 #[.agg #[.bool s,.slice A n c,.slice A' n' c'],.agg #[.bool s',.slice B m d,.slice B' m' d']] w (dR W0 bs L ts M (q-r) (k+(k'+1)+2)):=by
 refine Calls.mono (R:=(dR w [] L [] M (q-r) (k+(k'+1)+2))) ?_ fun _ _ hh=>dR.of HE hh;replace HE:=((HE.here.dm (.bool s) (.slice A n c) (.slice A' n' c')).dm (.bool s') (.slice B m d) (.slice B' m' d')).dm (.bool false) (.slice none 0 0) (.slice none 0 0);simp only [World.size_alloc] at HE;obtain ⟨q0,q1,q2,q3,q4,q5⟩:=HE.c3 ak;obtain ⟨q6,q7,q8,q9,q10,q11⟩:=HE.c3 au;obtain ⟨q12,q13,fP,fQ,q16,fU⟩:=HE.c3 ay
 go_enter Tryz.func61,Tryz.ntmps61
 go_wp2_with fail
 go_region_held3 (fun w'=>w'.cell? ⟨w.heap.size,0,none⟩=some (.bool s)/\w'.cell? ⟨w.heap.size,1,none⟩=some (.slice A n c)/\w'.cell? ⟨w.heap.size,2,none⟩=some (.slice A' n' c')/\w'.cell? ⟨w.heap.size+1,0,none⟩=some (.bool s')/\w'.cell? ⟨w.heap.size+1,1,none⟩=some (.slice B m d)/\w'.cell? ⟨w.heap.size+1,2,none⟩=some (.slice B' m' d')) (first | exact ⟨(HE.c3 ay).1,(HE.c3 ay).2.1,(HE.c3 ay).2.2.1,(HE.c3 au).1,(HE.c3 au).2.1,(HE.c3 au).2.2.1⟩ | exact ⟨(HE.drew.c3 ay).1,(HE.drew.c3 ay).2.1,(HE.drew.c3 ay).2.2.1,(HE.drew.c3 au).1,(HE.drew.c3 au).2.1,(HE.drew.c3 au).2.2.1⟩ | exact ⟨(HK.c3 ay).1,(HK.c3 ay).2.1,(HK.c3 ay).2.2.1,(HK.c3 au).1,(HK.c3 au).2.1,(HK.c3 au).2.2.1⟩)
  (first
   | (go_at_call 64;refine (aie (by with_reducible first | exact HE | exact HE.drew) (by repeat (first | exact aZ | assumption | refine .tail _ ?_)) af).mono ?_;rintro e wn ⟨sx,Ax,nx,cx,Ay,ny,cy,rfl,HE⟩)
   | (go_at_call 63;refine (WY (by with_reducible first | exact HE | exact HE.drew) (by repeat (first | exact aZ | assumption | refine .tail _ ?_)) (by repeat (first | exact aZ | assumption | refine .tail _ ?_)) af).mono ?_;rintro e wn ⟨sx,Ax,nx,cx,Ay,ny,cy,rfl,HE⟩;have HK:=HE.Nk (s':=sx) (D:=Ax) (m:=nx) (d:=cx) (v := .slice Ay ny cy) ak [⟨w.heap.size+1,.bool s',.slice B m d,.slice B' m' d'⟩,⟨w.heap.size,.bool s,.slice A n c,.slice A' n' c'⟩] (fun b hb=>by simp only [List.mem_cons,List.not_mem_nil,or_false] at hb;rcases hb with rfl | rfl <;> exact ⟨(by repeat (first | exact aZ | assumption | refine .tail _ ?_)),by dsimp only;omega⟩);obtain ⟨z0,z1,z2,z3,z4,z5⟩:=HE.c3 ak))
 go_wp2_with fail
 refine bodyPost_ret (v := .agg #[.bool sx,.slice Ax nx cx,.slice Ay ny cy]) (by simp [results,Tryz.results61,go_sem,z0,z1,z2]) rfl ?_;have HF:=HK.bare;rw [<- Rat.sub_eq_add_neg] at HF;exact ⟨_,_,_,_,_,_,_,rfl,HF.pick (fun e he=>he) (fun _ he=>by rcases List.mem_cons.1 he with rfl | he;exact ak;exact .tail _ (.tail _ (he)))⟩
set_option maxRecDepth 100000 in
set_option maxHeartbeats 2400000 in
theorem ah7(HE:bu W0 w bs L ts M)(h:⟨.agg #[.bool s,.slice A n c,.slice A' n' c'],q,k,b⟩∈M)(h':⟨.agg #[.bool s',.slice B m d,.slice B' m' d'],r,k',b'⟩∈M)(hk:k+k'<=900) :
  Calls Tryz.prog 37 #[.agg #[.bool s,.slice A n c,.slice A' n' c'],.agg #[.bool s',.slice B m d,.slice B' m' d']] w fun e w'=>e = .returned (.int .i64 (eX q r))/\bu W0 w' bs L ts M:=by
 refine Calls.mono (R:=fun e w'=>e = .returned (.int .i64 (eX q r))/\bu w w' [] L [] M) ?_ fun _ _ hh=>⟨hh.1,HE.back hh.2⟩;replace HE:=(HE.here.dm (.bool s) (.slice A n c) (.slice A' n' c')).dm (.bool s') (.slice B m d) (.slice B' m' d');simp only [World.size_alloc] at HE;have HS:=Lib.hid (show iO (q-r)=eX q r from ai4 q r);obtain ⟨q0,q1,q2,q3,q4,q5⟩:=HE.c3 ak;obtain ⟨q6,q7,q8,q9,q10,q11⟩:=HE.c3 au
 go_enter Tryz.func37,Tryz.ntmps37
 go_wp2_with fail
 refine (aik HE h h' af).mono ?_;clear HE;rintro e w1 ⟨sx,Ax,nx,cx,Ay,ny,cy,rfl,HE⟩;clear q0 q1 q2 q3 q4 q5 q6 q7 q8 q9 q10 q11
 go_wp2_with fail
 refine (Xb HE ak af).mono ?_;rw [HS.out];clear HE;rintro e w2 ⟨rfl,HE⟩
 go_wp2_with fail
 go_ret
 exact ⟨rfl,HE.bare.pick (fun _ he=>he) (fun e he => .tail _ he)⟩
end
end Go.Proofs.BGQ
