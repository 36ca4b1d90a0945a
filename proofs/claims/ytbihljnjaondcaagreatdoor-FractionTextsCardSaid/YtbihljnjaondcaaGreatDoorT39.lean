/- Part of a proof, said shortly. -/
import Derived.Deep.RegionHeld3
import Derived.Deep.RegionWith
import Derived.Test.YtbihljnjaondcaaGreatDoorAlt
import Derived.Test.YtbihljnjaondcaaGreatDoorT34
import Derived.Test.YtbihljnjaondcaaGreatDoorT29
import Derived.Test.YtbihljnjaondcaaGreatDoorT28
import Derived.Test.YtbihljnjaondcaaGreatDoorT26
import Derived.Test.YtbihljnjaondcaaGreatDoorT25
import Derived.Test.YtbihljnjaondcaaGreatDoorT24
import Derived.Test.YtbihljnjaondcaaGreatDoorT23
import Derived.Test.YtbihljnjaondcaaGreatDoorT22
import Derived.Test.YtbihljnjaondcaaGreatDoorT21
import Derived.Test.YtbihljnjaondcaaGreatDoorT20
import Derived.Test.YtbihljnjaondcaaGreatDoorT14
import Derived.Test.YtbihljnjaondcaaGreatDoorT4
import Derived.Test.YtbihljnjaondcaaGreatDoorT3
import Derived.Test.YtbihljnjaondcaaGreatDoorT2
import Derived.Test.YtbihljnjaondcaaGreatDoorT1
import Derived.Test.YtbihljnjaondcaaGreatDoorT13
import Derived.Test.YtbihljnjaondcaaGreatDoorT9
import Derived.Test.YtbihljnjaondcaaGreatDoorT8
import Derived.Test.YtbihljnjaondcaaGreatDoorT6
import Derived.Test.YtbihljnjaondcaaGreatDoorT5
import Derived.Test.YtbihljnjaondcaaGreatDoorT7
import Derived.Test.YtbihljnjaondcaaGreatDoorT19
import Derived.Test.YtbihljnjaondcaaGreatDoorT18
import Derived.Test.YtbihljnjaondcaaGreatDoorT16
import Derived.Test.YtbihljnjaondcaaGreatDoorT15
import Derived.Test.YtbihljnjaondcaaGreatDoorT17
import Derived.Test.YtbihljnjaondcaaGreatDoorT10
import Derived.Test.YtbihljnjaondcaaGreatDoorT11
import Derived.Test.YtbihljnjaondcaaGreatDoorT12
import Derived.Test.YtbihljnjaondcaaGreatDoorT27
import Derived.Test.YtbihljnjaondcaaGreatDoorT38
import Derived.Test.YtbihljnjaondcaaGreatDoorT35
import Derived.Test.YtbihljnjaondcaaGreatDoorT37
import Derived.Test.YtbihljnjaondcaaGreatDoorT36
namespace Go.Proofs.YtbihljnjaondcaaGreatDoor
open Go Go.RowKit Lw
section
variable {W0 w:World} {bs:List Bx} {L:List En} {ts:List Bt} {M:List Qn} {v v':Value} {x y:Int} {k k':Nat} {b b':Bool}
theorem beN {z:Int} (HE:Uz W0 w bs L ts M) (h1 : -9223372036854775808≤z) (h2:z≤9223372036854775807) :
  Calls Tryz.prog 143 #[.int .i64 z] w (ag6 W0 bs L ts M z 2):=(bm6 HE.env.here h1 h2).mono fun _ _ hh=>HE.a4x hh
theorem a5a (HE:Uz W0 w bs L ts M) (h:⟨v,x,k,b⟩∈L) (hk:k≤100000) :
  Calls Tryz.prog 115 #[v] w fun e w'=>e = .returned (.int .i64 (afm x))∧Uz W0 w' bs L ts M:=(beJ HE.env.here h hk).mono fun _ _ hh=>⟨hh.1,HE.step hh.2⟩
theorem baW (HE:Uz W0 w bs L ts M) (h:⟨v,x,k,b⟩∈L) (hk:k≤10000) :
  Calls Tryz.prog 167 #[v] w (ag6 W0 bs L ts M (-x) k):=(beF HE.env.here h hk).mono fun _ _ hh=>HE.a4x hh
theorem bmw (HE:Uz W0 w bs L ts M) (h:⟨v,x,k,b⟩∈L) (h':⟨v',y,k',b'⟩∈L) (hk:k≤10000∧k'≤10000) :
  Calls Tryz.prog 97 #[v,v'] w (ag6 W0 bs L ts M (x+y) (k+k'+1)) :=
 (beE HE.env.here h h' hk).mono fun _ _ ⟨A,c,e1,_,_,he⟩=>⟨_,A,_,c,e1,HE.step he⟩
theorem bna (HE:Uz W0 w bs L ts M) (h:⟨v,x,k,b⟩∈L) (h':⟨v',y,k',b'⟩∈L) (hk:k≤10000∧k'≤10000) :
  Calls Tryz.prog 100 #[v,v'] w (ag6 W0 bs L ts M (x*y) (k+k'+1)) :=
 (bm4 HE.env.here h h' hk).mono fun _ _ ⟨A,c,e1,_,_,he⟩=>⟨_,A,_,c,e1,HE.step he⟩
theorem beA (HE:Uz W0 w bs L ts M) (h:⟨v,x,k,b⟩∈L) (h':⟨v',y,k',b'⟩∈L) (hk:k≤10000∧k'≤10000) :
  Calls Tryz.prog 118 #[v,v'] w fun e w'=>e = .returned (.int .i64 (ahw x y))∧Uz W0 w' bs L ts M:=(bmZ HE.env.here h h' hk).mono fun _ _ hh=>⟨hh.1,HE.step hh.2⟩
theorem baV (HE:Uz W0 w bs L ts M) (h:⟨v,x,k,b⟩∈L) (h':⟨v',y,k',b'⟩∈L) (hk:k+k'≤10000) :
  Calls Tryz.prog 168 #[v,v'] w (ag6 W0 bs L ts M ((Nat.gcd x.natAbs y.natAbs:Nat):Int) (k+k'+1)):=(bm2 HE.env.here h h' hk).mono fun _ _ hh=>HE.a4x hh
theorem a8f (HE:Uz W0 w bs L ts M) (h:⟨v,x,k,b⟩∈L) (h':⟨v',y,k',b'⟩∈L) (hk:k+k'≤10000) (hy:y≠0) :
  Calls Tryz.prog 99 #[v,v'] w fun e w' => ∃ (s s':Bool) (D D':Option Addr) (m d m' d':Nat),e = .returned (.tuple #[.agg #[.bool s,.slice D m d],.agg #[.bool s',.slice D' m' d'],.int .i64 0]) ∧
   Uz W0 w' bs (⟨.agg #[.bool s,.slice D m d],x / y,k+1,true⟩ :: ⟨.agg #[.bool s',.slice D' m' d'],x % y,k',true⟩ :: L) ts M:=by
 have H1:=HE.env.ops _ h
 have H2:=HE.env.ops _ h'
 have hz:=bdL hy H1.lt
 have hz':=bdN (x:=x) hy H2.lt
 obtain ⟨s,A,n,c,ns,B,e1,h2,h3,h4,h5,h6,e7,h8⟩:=H1
 obtain ⟨s',A',n',c',ns',B',e1',h2',h3',h4',h5',h6',e7',h8'⟩:=H2
 dsimp only at e1 e7 e1' e7' h5 h5' hz hz'
 subst e1 e1' e7 e7'
 refine (bmS s s' A A' ns ns' n n' c c' B B' w h2 h2' h3 h3' h4 h4' (by omega) (by omega) h6 h6' hy).mono ?_
 rintro e w' ⟨A9,A8,c9,c8,rfl,hc9,hc8,hr9,hr8,hb⟩
 exact ⟨_,_,A9,A8,_,c9,_,c8,rfl,((HE.next hb).push (a4U hr8 hc8 hz')).push (a4U hr9 hc9 hz)⟩
end
end Go.Proofs.YtbihljnjaondcaaGreatDoor
namespace Lw
theorem biD {s:Bool} {ns ms:List Nat} {n m:Nat} (hn:ns.length=n) (hm:ms.length=m) (h:¬ (n=0∧m=0)) :
  fV s ns ms=((decide (0 < n)&&vB false ns)&&((decide (0 < m)&&vB false ms)&&cp ns ms)):=by
 unfold fV
 rw [hn,hm]
 by_cases h1:n=0
 ·rw [if_pos (.inl h1),decide_eq_false (by omega:¬ n=m),decide_eq_false (by omega:¬ 0 < n)]; rfl
 ·by_cases h2:m=0
  ·rw [if_pos (.inr h2),decide_eq_false (by omega:¬ n=m),decide_eq_false (by omega:¬ 0 < m)]; simp
  ·rw [if_neg (by omega),decide_eq_true (by omega:0 < n),decide_eq_true (by omega:0 < m)]; simp
theorem bhB (ns ms:List Nat):(ahw ((Nat.gcd (val ns) (val ms):Nat):Int) 1==0)=cp ns ms:=by
 unfold ahw cp
 rcases Nat.lt_trichotomy (Nat.gcd (val ns) (val ms)) 1 with h | h | h
 ·rw [if_pos (by omega)]
  have:(Nat.gcd (val ns) (val ms)==1)=false:=by rw [beq_eq_false_iff_ne]; omega
  rw [this]; rfl
 ·rw [h]; rfl
 ·rw [if_neg (by omega),if_neg (by omega)]
  have:(Nat.gcd (val ns) (val ms)==1)=false:=by rw [beq_eq_false_iff_ne]; omega
  rw [this]; rfl
theorem bfW {ns:List Nat} (h:vB false ns=true):zv false ns=(val ns:Int):=by unfold zv; rw [if_pos h]; rfl
end Lw
namespace Go.Proofs.YtbihljnjaondcaaGreatDoor
open Go Go.RowKit Lw
set_option maxRecDepth 100000 in
set_option maxHeartbeats 800000 in
theorem beR (A:Option Addr) (ns:List Nat) (n c B:Nat) (w:World) (h:Rd w B A ns) (hB:B≤w.heap.size) (hn:ns.length=n) (hl:n≤16777216) :
  Calls Tryz.prog 186 #[.slice A n c] w fun e w'=>e = .returned (.bool (decide (0 < n)&&vB false ns))∧w=w':=by
 have Hn:=Lib.hid hn
 clear hn
 by_cases h0:n=0
 ·subst h0
  go_enter Tryz.func186,Tryz.ntmps186
  go_wp2_with fail
  go_ret
  exact ⟨rfl,rfl⟩
 ·obtain ⟨b,off,rfl,hb,hcell,hlt⟩:=h.at_ (k:=n - 1) (by rw [Hn.out]; omega)
  have hb1:decide ((0:Int) < (n:Int))=true:=decide_eq_true (by omega)
  have hbs:b < w.heap.size:=by omega
  go_enter Tryz.func186,Tryz.ntmps186
  go_wp2_with fail
  go_ret
  refine ⟨alj ?_,rfl⟩
  rw [decide_eq_true (by omega:0 < n),Bool.true_and]
  unfold vB
  rw [if_neg (by rw [Hn.out]; exact h0),Hn.out,Bool.eq_iff_iff,bne_iff_ne,bne_iff_ne]
  exact not_congr Int.ofNat_inj
section
variable {W0 w:World} {bs:List Bx} {L:List En} {ts:List Bt} {M:List Qn} {s:Bool} {A A':Option Addr} {n c n' c' k:Nat} {q:Rat} {b:Bool}
set_option maxRecDepth 100000 in
set_option maxHeartbeats 1600000 in
theorem a7U (HE:Uz W0 w bs L ts M):Calls Tryz.prog 96 #[] w (ag6 W0 bs L ts M 1 2):=by
 refine Calls.mono (R:=ag6 w [] L [] M 1 2) ?_ fun _ _ hh=>ag6.of HE hh
 replace HE:=HE.here.abb (.bool false) (.slice none 0 0)
 obtain ⟨q0,q1,q2,q3⟩:=HE.c2 (.head _)
 go_enter Tryz.func96,Tryz.ntmps96
 go_wp2_with fail
 refine (beN HE (by omega) (by omega)).mono ?_
 clear HE
 rintro e w1 ⟨s1,A1,n1,c1,rfl,HE⟩
 clear q0 q1 q2 q3
 obtain ⟨q0,q1,q2,q3⟩:=HE.c2 (.head _)
 go_wp2_with fail
 refine bodyPost_ret (v := .agg #[.bool s1,.slice A1 n1 c1]) (by simp [results,Tryz.results96,go_sem,q0,q1]) rfl ?_
 exact ⟨_,_,_,_,rfl,HE.done2 (.head _) s1 (.slice A1 n1 c1)⟩
set_option maxRecDepth 100000 in
set_option maxHeartbeats 3200000 in
theorem baU (HE:Uz W0 w bs L ts M) (h:⟨.agg #[.bool s,.slice A n c,.slice A' n' c'],q,k,b⟩∈M) (hk:k≤3000) :
  Calls Tryz.prog 130 #[.agg #[.bool s,.slice A n c,.slice A' n' c']] w fun e w'=>e = .returned (.bool b)∧Uz W0 w' bs L ts M:=by
 refine Calls.mono (R:=fun e w'=>e = .returned (.bool b)∧Uz w w' [] L [] M) ?_ fun _ _ hh=>⟨hh.1,HE.back hh.2⟩
 obtain ⟨s',A1,n1,c1,A2,n2,c2,ns,ms,h1,r1,r2,e2,e3,e4,e5,e6,e7,e8,e9⟩:=HE.fr _ h
 dsimp only at h1 e4 e5 e9
 injection h1 with h1
 injection h1 with h1
 simp only [List.cons.injEq,Value.bool.injEq,Value.slice.injEq,and_true] at h1
 obtain ⟨rfl,⟨rfl,rfl,rfl⟩,rfl,rfl,rfl⟩:=h1
 replace HE:=HE.here.ae' (.bool s) (.slice A n c) (.slice A' n' c')
 obtain ⟨q0,q1,q2,q3,q4,q5⟩:=HE.c3 (.head _)
 by_cases h0:n=0∧n'=0
 ·obtain ⟨h1,h2⟩:=h0
  have HV:=Lib.hid (show (!s)=b by rw [← e9]; unfold fV; rw [if_pos (.inl (by omega)),e2,e3,decide_eq_true (by omega:n=n')]; rfl)
  subst h1 h2
  clear e2 e3 e4 e5 e6 e7 e8 e9 r1 r2 h
  go_enter btE,btF
  go_wp2_with fail
  go_ret
  exact ⟨alj HV.out,HE.bare⟩
 ·have hp:=fun W hb=>beR A ns n c w.heap.size W (r1.next hb (Nat.le_refl _)) (Below.size hb) e2 (by omega)
  have hp':=fun W hb=>beR A' ms n' c' w.heap.size W (r2.next hb (Nat.le_refl _)) (Below.size hb) e3 (by omega)
  have hV:=biD (s:=s) e2 e3 h0
  rw [e9] at hV
  have o1:=fun (hv:vB false ns=true) (W:World) (hb:Below w.heap.size w W)=>(show Opd W ⟨.agg #[.bool false,.slice A n c],(val ns:Int),k,true⟩ from ⟨false,A,n,c,ns,w.heap.size,rfl,r1.next hb (Nat.le_refl _),hb.size,e2,e4,e6,bfW hv,hv⟩)
  have o2:=fun (hv:vB false ms=true) (W:World) (hb:Below w.heap.size w W)=>(show Opd W ⟨.agg #[.bool false,.slice A' n' c'],(val ms:Int),k,true⟩ from ⟨false,A',n',c',ms,w.heap.size,rfl,r2.next hb (Nat.le_refl _),hb.size,e3,e5,e7,bfW hv,hv⟩)
  have HC:=Lib.hid (bhB ns ms)
  have HP:=Lib.hid hp
  have HP':=Lib.hid hp'
  have HV:=Lib.hid hV
  have O1:=Lib.hid o1
  have O2:=Lib.hid o2
  have HH:Hid (n≠0∨n'≠0):=Lib.hid (by omega)
  clear hp hp' hV o1 o2 e2 e3 e4 e5 e6 e7 e8 e9 r1 r2 h h0
  cases g1:(decide (0 < n)&&vB false ns)
  ·have HP1:=Lib.hid (show ∀ W,Below w.heap.size w W→Calls Tryz.prog 186 #[.slice A n c] W fun e w'=>e = .returned (.bool false)∧W=w' by have:=HP.out; rwa [g1] at this)
   have HB:=Lib.hid (show b=false by rw [HV.out,g1]; rfl)
   clear HP HP' HV O1 O2 g1 HC
   by_cases h0:n=0
   ·have hm:=HH.out
    have hqm:((n':Int)==0)=false:=by rw [beq_eq_false_iff_ne]; omega
    subst h0
    clear hm
    go_enter btE,btF
    go_wp2_with fail
    refine (HP1.out _ HE.below).mono ?_
    rintro e w1 ⟨rfl,rfl⟩
    go_wp2_with fail
    go_ret
    exact ⟨alj HB.out.symm,HE.bare⟩
   ·have hqn:((n:Int)==0)=false:=by rw [beq_eq_false_iff_ne]; omega
    clear h0
    go_enter btE,btF
    go_wp2_with fail
    refine (HP1.out _ HE.below).mono ?_
    rintro e w1 ⟨rfl,rfl⟩
    go_wp2_with fail
    go_ret
    exact ⟨alj HB.out.symm,HE.bare⟩
  ·have HP1:=Lib.hid (show ∀ W,Below w.heap.size w W→Calls Tryz.prog 186 #[.slice A n c] W fun e w'=>e = .returned (.bool true)∧W=w' by have:=HP.out; rwa [g1] at this)
   have hg:=g1
   rw [Bool.and_eq_true,decide_eq_true_iff] at hg
   have hqn:((n:Int)==0)=false:=by rw [beq_eq_false_iff_ne]; omega
   have O3:=Lib.hid (O1.out hg.2)
   clear O1 HP hg
   cases g2:(decide (0 < n')&&vB false ms)
   ·have HP2:=Lib.hid (show ∀ W,Below w.heap.size w W→Calls Tryz.prog 186 #[.slice A' n' c'] W fun e w'=>e = .returned (.bool false)∧W=w' by have:=HP'.out; rwa [g2] at this)
    have HB:=Lib.hid (show b=false by rw [HV.out,g1,g2]; rfl)
    clear HP' HV O2 O3 g1 g2 HC
    go_enter btE,btF
    go_wp2_with fail
    refine (HP1.out _ HE.below).mono ?_
    rintro e w1 ⟨rfl,rfl⟩
    go_wp2_with fail
    refine (HP2.out _ HE.below).mono ?_
    rintro e w1 ⟨rfl,rfl⟩
    go_wp2_with fail
    go_ret
    exact ⟨alj HB.out.symm,HE.bare⟩
   ·have HP2:=Lib.hid (show ∀ W,Below w.heap.size w W→Calls Tryz.prog 186 #[.slice A' n' c'] W fun e w'=>e = .returned (.bool true)∧W=w' by have:=HP'.out; rwa [g2] at this)
    have hg:=g2
    rw [Bool.and_eq_true] at hg
    have O4:=Lib.hid (O2.out hg.2)
    have HB:=Lib.hid (show b=(ahw ((Nat.gcd (val ns) (val ms):Nat):Int) 1==0) by rw [HV.out,g1,g2,HC.out]; rfl)
    clear HP' HV O2 g1 g2 HC hg
    go_enter btE,btF
    go_wp2_with fail
    refine (HP1.out _ HE.below).mono ?_
    rintro e w1 ⟨rfl,rfl⟩
    go_wp2_with fail
    refine (HP2.out _ HE.below).mono ?_
    rintro e w1 ⟨rfl,rfl⟩
    replace HE:=(HE.push (O4.out _ HE.below)).push (O3.out _ HE.below)
    go_wp2_with fail
    refine (baV HE (.head _) (.tail _ (.head _)) (by omega)).mono ?_
    clear HE
    rintro e w1 ⟨sa,Aa,na,ca,rfl,HE⟩
    go_wp2_with fail
    refine (a7U HE).mono ?_
    clear HE
    rintro e w2 ⟨sb,Ab,nb,cb,rfl,HE⟩
    go_wp2_with fail
    refine (beA HE (.tail _ (.head _)) (.head _) (by omega)).mono ?_
    clear HE
    rintro e w3 ⟨rfl,HE⟩
    go_wp2_with fail
    go_ret
    exact ⟨alj HB.out.symm,HE.bare.pick (fun _ he => .tail _ (.tail _ (.tail _ (.tail _ he)))) (fun _ he=>he)⟩
end
end Go.Proofs.YtbihljnjaondcaaGreatDoor
namespace Go.Proofs.YtbihljnjaondcaaGreatDoor
open Go Go.RowKit Lw
section
variable {W0 w:World} {bs:List Bx} {L:List En} {ts:List Bt} {M:List Qn} {s s':Bool} {A A' B B':Option Addr} {n c n' c' m d m' d' k k':Nat} {q r:Rat} {x y:Int} {b b':Bool}
set_option maxRecDepth 100000 in
set_option maxHeartbeats 2400000 in
theorem bnq (HE:Uz W0 w bs L ts M) (h:⟨.agg #[.bool s,.slice A n c,.slice A' n' c'],q,k,b⟩∈M) (hk:k≤3000) :
  Calls Tryz.prog 98 #[.agg #[.bool s,.slice A n c,.slice A' n' c']] w (a1o W0 bs L ts M q.num (q.den:Int) (k+2)):=by
 refine Calls.mono (R:=a1o w [] L [] M q.num (q.den:Int) (k+2)) ?_ fun _ _ hh=>a1o.of HE hh
 have HO:=Lib.hid (HE.here)
 have hF:=HE.fr _ h
 have hz:b=false∨n=0→q=0:=by
  intro hb
  rcases hb with rfl | hb
  ·obtain ⟨s',A1,n1,c1,A2,n2,c2,ns,ms,h1,h2,h3,h4,h5,h6,h7,h8,h9,h10,h11⟩:=hF
   dsimp only at h10 h11
   rw [← h10]; unfold qv; rw [h11]; rfl
  ·cases b
   ·obtain ⟨s',A1,n1,c1,A2,n2,c2,ns,ms,h1,h2,h3,h4,h5,h6,h7,h8,h9,h10,h11⟩:=hF
    dsimp only at h10 h11
    rw [← h10]; unfold qv; rw [h11]; rfl
   ·exact (a3r hF.own.2.1).1 hb
 have hnz:b=true→n≠0→q≠0:=by
  rintro rfl h1 h2
  exact h1 ((a3r hF.own.2.1).2 h2)
 replace HE:=((HE.here.ae' (.bool s) (.slice A n c) (.slice A' n' c')).abb (.bool false) (.slice none 0 0)).abb (.bool false) (.slice none 0 0)
 simp only [World.size_alloc] at HE
 cases b
 ·have HQ:=Lib.hid (hz (.inl rfl))
  clear hz hnz hF HO
  skip
  obtain ⟨q0,q1,q2,q3,q4,q5⟩:=HE.c3 (.head _)
  go_enter Tryz.func98,Tryz.ntmps98
  go_wp2_with fail
  refine (baU HE h hk).mono ?_
  clear HE
  rintro e w1 ⟨rfl,HE⟩
  clear q0 q1 q2 q3 q4 q5
  obtain ⟨q6,q7,q8,q9,q10,q11⟩:=HE.c3 (.head _)
  go_wp2_with fail
  refine (a7U HE).mono ?_
  clear HE
  rintro e w2 ⟨s1,A1,n1,c1,rfl,HE⟩
  clear q6 q7 q8 q9 q10 q11
  obtain ⟨a0,a1,a2,a3⟩:=HE.c2 (.head _)
  obtain ⟨b0,b1,b2,b3⟩:=HE.c2 (.tail _ (.head _))
  go_wp2_with fail
  refine bodyPost_ret (v := .tuple #[.agg #[.bool false,.slice none 0 0],.agg #[.bool s1,.slice A1 n1 c1]]) (by simp [results,Tryz.results98,go_sem,a0,a1,b0,b1]) rfl ?_
  have H3:=(HE.anq (.tail _ (.head _)) [⟨w.heap.size+1+1,.bool false,.slice none 0 0⟩] (fun b hb=>by simp only [List.mem_cons,List.not_mem_nil,or_false] at hb; subst hb; exact ⟨(by repeat (first | exact .head _ | refine .tail _ ?_)),by dsimp only; omega⟩) false (.slice none 0 0)).done2 (.tail _ (.head _)) s1 (.slice A1 n1 c1)
  have hq:=HQ.out
  subst hq
  have h1:=H3.env.ops _ (.head _)
  exact ⟨_,_,_,_,_,_,_,_,rfl,((H3.tl.push (h1.weak (by omega))).push ⟨false,none,0,0,[],0,rfl,Rd.nil_ _ _ _,Nat.zero_le _,rfl,Nat.zero_le _,Nat.le_refl _,rfl,rfl⟩).bare⟩
 ·by_cases hn:n=0
  ·have HQ:=Lib.hid (hz (.inr hn))
   subst hn
   clear hz hnz hF HO
   skip
   obtain ⟨q0,q1,q2,q3,q4,q5⟩:=HE.c3 (.head _)
   go_enter Tryz.func98,Tryz.ntmps98
   go_wp2_with fail
   refine (baU HE h hk).mono ?_
   clear HE
   rintro e w1 ⟨rfl,HE⟩
   clear q0 q1 q2 q3 q4 q5
   obtain ⟨q6,q7,q8,q9,q10,q11⟩:=HE.c3 (.head _)
   go_wp2_with fail
   refine (a7U HE).mono ?_
   clear HE
   rintro e w2 ⟨s1,A1,n1,c1,rfl,HE⟩
   clear q6 q7 q8 q9 q10 q11
   obtain ⟨a0,a1,a2,a3⟩:=HE.c2 (.head _)
   obtain ⟨b0,b1,b2,b3⟩:=HE.c2 (.tail _ (.head _))
   go_wp2_with fail
   refine bodyPost_ret (v := .tuple #[.agg #[.bool false,.slice none 0 0],.agg #[.bool s1,.slice A1 n1 c1]]) (by simp [results,Tryz.results98,go_sem,a0,a1,b0,b1]) rfl ?_
   have H3:=(HE.anq (.tail _ (.head _)) [⟨w.heap.size+1+1,.bool false,.slice none 0 0⟩] (fun b hb=>by simp only [List.mem_cons,List.not_mem_nil,or_false] at hb; subst hb; exact ⟨(by repeat (first | exact .head _ | refine .tail _ ?_)),by dsimp only; omega⟩) false (.slice none 0 0)).done2 (.tail _ (.head _)) s1 (.slice A1 n1 c1)
   have hq:=HQ.out
   subst hq
   have h1:=H3.env.ops _ (.head _)
   exact ⟨_,_,_,_,_,_,_,_,rfl,((H3.tl.push (h1.weak (by omega))).push ⟨false,none,0,0,[],0,rfl,Rd.nil_ _ _ _,Nat.zero_le _,rfl,Nat.zero_le _,Nat.le_refl _,rfl,rfl⟩).bare⟩
  ·have HQ:=Lib.hid (hnz rfl hn)
   have hn0:((n:Int)==0)=false:=by rw [beq_eq_false_iff_ne]; omega
   clear hz hnz hF HO hn
   obtain ⟨q0,q1,q2,q3,q4,q5⟩:=HE.c3 (.head _)
   go_enter Tryz.func98,Tryz.ntmps98
   go_wp2_with fail
   refine (baU HE h hk).mono ?_
   clear HE
   rintro e w1 ⟨rfl,HE⟩
   clear q0 q1 q2 q3 q4 q5
   obtain ⟨q6,q7,q8,q9⟩:=HE.c2 (.head _)
   obtain ⟨q10,q11,q12,q13⟩:=HE.c2 (.tail _ (.head _))
   obtain ⟨q14,q15,q16,q17,q18,q19⟩:=HE.c3 (.head _)
   go_wp2_with fail
   go_region
   go_wp2_with fail
   refine bodyPost_ret (v := .tuple #[.agg #[.bool s,.slice A n c],.agg #[.bool false,.slice A' n' c']]) (by simp [results,Tryz.results98,go_sem,q6,q7,q10,q11]) rfl ?_
   have H3:=(HE.drew.anq (.tail _ (.head _)) [⟨w.heap.size+1+1,.bool false,.slice none 0 0⟩] (fun b hb=>by simp only [List.mem_cons,List.not_mem_nil,or_false] at hb; subst hb; exact ⟨(by repeat (first | exact .head _ | refine .tail _ ?_)),by dsimp only; omega⟩) s (.slice A n c)).done2 (.tail _ (.head _)) false (.slice A' n' c')
   have H4:=H3.bare.parts h HQ.out
   exact ⟨_,_,_,_,_,_,_,_,rfl,(H4.tl.tl.push ((H4.env.ops _ (.tail _ (.head _))).weak (by omega))).push ((H4.env.ops _ (.head _)).weak (by omega))⟩
end
end Go.Proofs.YtbihljnjaondcaaGreatDoor
namespace Go.Proofs.YtbihljnjaondcaaGreatDoor
open Go Go.RowKit Lw
section
variable {W0 w:World} {bs:List Bx} {L:List En} {ts:List Bt} {M:List Qn} {s s':Bool} {A A' B B':Option Addr} {n c n' c' m d m' d' k k':Nat} {q r:Rat} {x y:Int} {b b':Bool}
theorem Uz.bcD {v:Value} (HE:Uz W0 w bs L ts M) (h:⟨.agg #[.bool s,.slice A n c],x,k,true⟩∈L) (h':⟨.agg #[.bool s',.slice A' n' c'],y,k',true⟩∈L) (hq:q≠0) (hx:q.num=x) (hy:(q.den:Int)=y)
  (hv:v = .agg #[.bool s,.slice A n c,.slice A' n' c']):Uz W0 w bs L ts (⟨v,q,k+k',true⟩ :: M):=by
 subst hv
 have h0:x≠0:=by rw [← hx]; exact fun e=>hq (Rat.num_eq_zero.1 e)
 have h1:0 < y:=by rw [← hy]; exact den_pos q
 have hg:Nat.gcd x.natAbs y.natAbs=1:=by rw [← hx,← hy,Int.natAbs_natCast]; exact q.reduced
 have h2:Rat.divInt x y=q:=by rw [← hx,← hy]; exact Rat.num_divInt_den q
 have h3:=HE.bcG h h' h0 h1 hg
 rwa [h2] at h3
theorem bcr {x y:Int} (hx:x≠0) (hy:y≠0):Rat.divInt x y≠0:=by
 rw [Ne,← Rat.zero_divInt y,Rat.divInt_eq_divInt_iff hy hy,Int.zero_mul]
 exact fun e=>(Int.mul_eq_zero.1 e).elim hx hy
theorem bia (x y:Int):Rat.divInt (-x) (-y)=Rat.divInt x y:=by
 by_cases hy:y=0
 ·subst hy; simp
 ·rw [Rat.divInt_eq_divInt_iff (by omega) hy,Int.neg_mul,Int.mul_neg]
set_option maxRecDepth 100000 in
set_option maxHeartbeats 4000000 in
theorem bi0 (HE:Uz W0 w bs L ts M) (h:⟨.agg #[.bool s,.slice A n c],x,k,b⟩∈L) (h':⟨.agg #[.bool s',.slice A' n' c'],y,k',b'⟩∈L) (hk:k+k'≤4000) (hy:y≠0) :
  Calls Tryz.prog 103 #[.agg #[.bool s,.slice A n c],.agg #[.bool s',.slice A' n' c']] w (akn W0 bs L ts M (Rat.divInt x y) (k+1+(k'+1))):=by
 refine Calls.mono (R:=(akn w [] L [] M (Rat.divInt x y) (k+1+(k'+1)))) ?_ fun _ _ hh=>akn.of HE hh
 replace HE:=((HE.here.abb (.bool s) (.slice A n c)).abb (.bool s') (.slice A' n' c')).ae' (.bool false) (.slice none 0 0) (.slice none 0 0)
 simp only [World.size_alloc] at HE
 by_cases hx:x=0
 ·have HS:=Lib.hid (show afm x=0 by unfold afm; rw [if_neg (by omega),if_pos hx])
  have HX:=Lib.hid (show Rat.divInt x y=0 by rw [hx]; exact Rat.zero_divInt _)
  clear hx hy
  obtain ⟨q0,q1,q2,q3⟩:=HE.c2 (.head _)
  obtain ⟨q4,q5,q6,q7⟩:=HE.c2 (.tail _ (.head _))
  obtain ⟨q8,q9,q10,q11,q12,q13⟩:=HE.c3 (.head _)
  go_enter Tryz.func103,Tryz.ntmps103
  go_wp2_with fail
  refine (a5a HE h (by omega)).mono ?_
  rw [HS.out]
  clear HE
  rintro e w1 ⟨rfl,HE⟩
  clear q0 q1 q2 q3 q4 q5 q6 q7 q8 q9 q10 q11 q12 q13
  obtain ⟨q14,q15,q16,q17,q18,q19⟩:=HE.c3 (.head _)
  have TF:=(HE.aN9 (.head _)).put (.bool false) (.slice none 0 0) (.slice none 0 0)
  go_wp2_with fail
  obtain ⟨z0,z1,z2,-,-,-⟩:=TF.cells
  refine bodyPost_ret (v := .agg #[.bool false,.slice none 0 0,.slice none 0 0]) (by simp [results,Tryz.results103,go_sem,z0,z1,z2]) rfl ?_
  rw [HX.out]
  exact ⟨_,_,_,_,_,_,_,rfl,((HE.as9 (D:=none) (m:=0) (d:=0) (.head _) false (.slice none 0 0)).bare).zero _⟩
 ·by_cases h0:0 < y
  ·have hs:(afm x==0)=false:=by rw [beq_eq_false_iff_ne]; unfold afm; split; decide; first | decide | (rw [if_neg hx]; decide)
   have HS:=Lib.hid (show afm y=1 by unfold afm; rw [if_neg (by omega),if_neg (by omega)])
   obtain ⟨g,hg⟩ : ∃ g:Int,g=(Nat.gcd x.natAbs y.natAbs:Nat):=⟨_,rfl⟩
   have HR:=Lib.hid (baP h0 hg)
   have HG:=Lib.hid hg
   have HX0:=Lib.hid (bcr hx hy)
   clear hg h0 hx hy
   generalize Rat.divInt x y=q at *
   obtain ⟨q0,q1,q2,q3⟩:=HE.c2 (.head _)
   obtain ⟨q4,q5,q6,q7⟩:=HE.c2 (.tail _ (.head _))
   obtain ⟨q8,q9,q10,q11,q12,q13⟩:=HE.c3 (.head _)
   go_enter Tryz.func103,Tryz.ntmps103
   go_wp2_with fail
   refine (a5a HE h (by omega)).mono ?_
   clear HE
   rintro e w1 ⟨rfl,HE⟩
   clear q0 q1 q2 q3 q4 q5 q6 q7 q8 q9 q10 q11 q12 q13
   obtain ⟨q14,q15,q16,q17⟩:=HE.c2 (.head _)
   obtain ⟨q18,q19,q20,q21⟩:=HE.c2 (.tail _ (.head _))
   obtain ⟨q22,q23,q24,q25,q26,q27⟩:=HE.c3 (.head _)
   go_wp2_with fail
   refine (a5a HE h' (by omega)).mono ?_
   rw [HS.out]
   clear HE
   rintro e w2 ⟨rfl,HE⟩
   clear hs
   clear q14 q15 q16 q17 q18 q19 q20 q21 q22 q23 q24 q25 q26 q27
   obtain ⟨q28,q29,q30,q31⟩:=HE.c2 (.head _)
   obtain ⟨q32,q33,q34,q35⟩:=HE.c2 (.tail _ (.head _))
   obtain ⟨q36,q37,q38,q39,q40,q41⟩:=HE.c3 (.head _)
   go_wp2_with fail
   refine (baV HE (by repeat (first | exact .head _ | assumption | refine .tail _ ?_)) (by repeat (first | exact .head _ | assumption | refine .tail _ ?_)) (by omega)).mono ?_
   clear HE
   rintro e wg ⟨sg,Ag,ng,cg,rfl,HE⟩
   rw [← HG.out] at HE
   replace HE:=HE.abb (.bool sg) (.slice Ag ng cg)
   clear q28 q29 q30 q31 q32 q33 q34 q35 q36 q37 q38 q39 q40 q41
   obtain ⟨q42,q43,q44,q45⟩:=HE.c2 (.head _)
   obtain ⟨q46,q47,q48,q49⟩:=HE.c2 (.tail _ (.head _))
   obtain ⟨q50,q51,q52,q53⟩:=HE.c2 (.tail _ (.tail _ (.head _)))
   obtain ⟨q54,q55,q56,q57,q58,q59⟩:=HE.c3 (.head _)
   go_wp2_with fail
   refine (a8f HE (by repeat (first | exact .head _ | assumption | refine .tail _ ?_)) (by repeat (first | exact .head _ | assumption | refine .tail _ ?_)) (by omega) HR.out.2.2).mono ?_
   clear HE
   rintro e wx ⟨sx,sy,Ax,Ay,lx,cx,ly,cy,rfl,HE⟩
   replace HE:=(HE.abb (.bool sx) (.slice Ax lx cx)).abb (.bool sy) (.slice Ay ly cy)
   simp only [World.size_alloc] at HE
   clear q42 q43 q44 q45 q46 q47 q48 q49 q50 q51 q52 q53 q54 q55 q56 q57 q58 q59
   obtain ⟨q60,q61,q62,q63⟩:=HE.c2 (.head _)
   obtain ⟨q64,q65,q66,q67⟩:=HE.c2 (.tail _ (.head _))
   obtain ⟨q68,q69,q70,q71⟩:=HE.c2 (.tail _ (.tail _ (.head _)))
   obtain ⟨q72,q73,q74,q75⟩:=HE.c2 (.tail _ (.tail _ (.tail _ (.head _))))
   obtain ⟨q76,q77,q78,q79⟩:=HE.c2 (.tail _ (.tail _ (.tail _ (.tail _ (.head _)))))
   obtain ⟨q80,q81,q82,q83,q84,q85⟩:=HE.c3 (.head _)
   go_wp2_with fail
   refine (a8f HE (by repeat (first | exact .head _ | assumption | refine .tail _ ?_)) (by repeat (first | exact .head _ | assumption | refine .tail _ ?_)) (by omega) HR.out.2.2).mono ?_
   clear HE
   rintro e wy ⟨su,sv,Au,Av,lu,cu,lv,cv,rfl,HE⟩
   replace HE:=(HE.abb (.bool su) (.slice Au lu cu)).abb (.bool sv) (.slice Av lv cv)
   simp only [World.size_alloc] at HE
   clear q60 q61 q62 q63 q64 q65 q66 q67 q68 q69 q70 q71 q72 q73 q74 q75 q76 q77 q78 q79 q80 q81 q82 q83 q84 q85
   obtain ⟨q86,q87,q88,q89⟩:=HE.c2 (.tail _ (.head _))
   obtain ⟨q90,q91,q92,q93⟩:=HE.c2 (.tail _ (.tail _ (.tail _ (.head _))))
   obtain ⟨q94,q95,q96,q97,q98,q99⟩:=HE.c3 (.head _)
   have TF:=(HE.aN9 (.head _)).put (.bool sx) (.slice Ax lx cx) (.slice Au lu cu)
   go_wp2_with fail
   obtain ⟨z0,z1,z2,-,-,-⟩:=TF.cells
   refine bodyPost_ret (v := .agg #[.bool sx,.slice Ax lx cx,.slice Au lu cu]) (by simp [results,Tryz.results103,go_sem,z0,z1,z2]) rfl ?_
   have HF:=HE.bcD (v := .agg #[.bool sx,.slice Ax lx cx,.slice Au lu cu]) (s:=sx) (A:=Ax) (n:=lx) (c:=cx) (s':=su) (A':=Au) (n':=lu) (c':=cu) (by repeat (first | exact .head _ | assumption | refine .tail _ ?_)) (by repeat (first | exact .head _ | assumption | refine .tail _ ?_)) HX0.out HR.out.1 HR.out.2.1 rfl
   have HK:=(HF.as9 (D:=Ax) (m:=lx) (d:=cx) (.head _) sx (.slice Au lu cu)).bare
   exact ⟨_,_,_,_,_,_,_,rfl,(HK.pick (fun e he => .tail _ (.tail _ (.tail _ (.tail _ (.tail _ (he)))))) (fun _ he=>he)).hd (·.weak (by omega))⟩
  ·have hs:(afm x==0)=false:=by rw [beq_eq_false_iff_ne]; unfold afm; split; decide; first | decide | (rw [if_neg hx]; decide)
   have HS:=Lib.hid (show afm y = -1 by unfold afm; rw [if_pos (by omega)])
   obtain ⟨g,hg⟩ : ∃ g:Int,g=(Nat.gcd (-x).natAbs (-y).natAbs:Nat):=⟨_,rfl⟩
   have HR:=Lib.hid (baP (n := -x) (d := -y) (by omega) hg)
   have HG:=Lib.hid hg
   have HX0:=Lib.hid (bcr (x := -x) (y := -y) (by omega) (by omega))
   have HN:=Lib.hid (bia x y)
   clear hg h0 hx hy
   rw [← HN.out]
   clear HN
   generalize Rat.divInt (-x) (-y)=q at *
   obtain ⟨q0,q1,q2,q3⟩:=HE.c2 (.head _)
   obtain ⟨q4,q5,q6,q7⟩:=HE.c2 (.tail _ (.head _))
   obtain ⟨q8,q9,q10,q11,q12,q13⟩:=HE.c3 (.head _)
   go_enter Tryz.func103,Tryz.ntmps103
   go_wp2_with fail
   refine (a5a HE h (by omega)).mono ?_
   clear HE
   rintro e w1 ⟨rfl,HE⟩
   clear q0 q1 q2 q3 q4 q5 q6 q7 q8 q9 q10 q11 q12 q13
   obtain ⟨q14,q15,q16,q17⟩:=HE.c2 (.head _)
   obtain ⟨q18,q19,q20,q21⟩:=HE.c2 (.tail _ (.head _))
   obtain ⟨q22,q23,q24,q25,q26,q27⟩:=HE.c3 (.head _)
   go_wp2_with fail
   refine (a5a HE h' (by omega)).mono ?_
   rw [HS.out]
   clear HE
   rintro e w2 ⟨rfl,HE⟩
   clear hs
   clear q14 q15 q16 q17 q18 q19 q20 q21 q22 q23 q24 q25 q26 q27
   obtain ⟨q28,q29,q30,q31⟩:=HE.c2 (.head _)
   obtain ⟨q32,q33,q34,q35⟩:=HE.c2 (.tail _ (.head _))
   go_wp2_with fail
   go_region_with
    (first
     | (go_at_call 167; have _:=HC1; refine (baW (by with_reducible first | exact HE | exact HE.drew) (.tail _ h') (by omega)).mono ?_; rintro e wb ⟨sb,Ab,nb,cb,rfl,HE⟩; obtain ⟨v0,v1,v2,v3⟩:=HE.c2 (.tail _ (.head _)); obtain ⟨v4,v5,v6,v7⟩:=HE.c2 (.head _))
     | (go_at_call 167; refine (baW (by with_reducible first | exact HE | exact HE.drew) h (by omega)).mono ?_; rintro e wa ⟨sa,Aa,na,ca,rfl,HE⟩; have HC1:=HE; obtain ⟨u0,u1,u2,u3⟩:=HE.c2 (.tail _ (.head _)); obtain ⟨u4,u5,u6,u7⟩:=HE.c2 (.head _)))
   all_goals
    first | clear q28 q29 q30 q31 q32 q33 q34 q35 u0 u1 u2 u3 u4 u5 u6 u7 v0 v1 v2 v3 v4 v5 v6 v7 HC1 | skip
    replace HE:=(HE.anq (.tail _ (.head _)) [⟨w.heap.size+1,.bool s',.slice A' n' c'⟩] (fun b hb=>by simp only [List.mem_cons,List.not_mem_nil,or_false] at hb; subst hb; exact ⟨(by repeat (first | exact .head _ | refine .tail _ ?_)),by dsimp only; omega⟩) sa (.slice Aa na ca)).anq (.tail _ (.head _)) [⟨w.heap.size,.bool sa,.slice Aa na ca⟩] (fun b hb=>by simp only [List.mem_cons,List.not_mem_nil,or_false] at hb; subst hb; exact ⟨(by repeat (first | exact .head _ | refine .tail _ ?_)),by dsimp only; omega⟩) sb (.slice Ab nb cb)
    generalize ((((wb.setCell ⟨w.heap.size,0,none⟩ (.bool sa)).setCell ⟨w.heap.size,1,none⟩ (.slice Aa na ca)).setCell ⟨w.heap.size+1,0,none⟩ (.bool sb)).setCell ⟨w.heap.size+1,1,none⟩ (.slice Ab nb cb))=W5 at *
    obtain ⟨q36,q37,q38,q39⟩:=HE.c2 (.head _)
    obtain ⟨q40,q41,q42,q43⟩:=HE.c2 (.tail _ (.head _))
    obtain ⟨q44,q45,q46,q47,q48,q49⟩:=HE.c3 (.head _)
    go_wp2_with fail
    refine (baV HE (by repeat (first | exact .head _ | assumption | refine .tail _ ?_)) (by repeat (first | exact .head _ | assumption | refine .tail _ ?_)) (by omega)).mono ?_
    clear HE
    rintro e wg ⟨sg,Ag,ng,cg,rfl,HE⟩
    rw [← HG.out] at HE
    replace HE:=HE.abb (.bool sg) (.slice Ag ng cg)
    clear q36 q37 q38 q39 q40 q41 q42 q43 q44 q45 q46 q47 q48 q49
    obtain ⟨q50,q51,q52,q53⟩:=HE.c2 (.head _)
    obtain ⟨q54,q55,q56,q57⟩:=HE.c2 (.tail _ (.head _))
    obtain ⟨q58,q59,q60,q61⟩:=HE.c2 (.tail _ (.tail _ (.head _)))
    obtain ⟨q62,q63,q64,q65,q66,q67⟩:=HE.c3 (.head _)
    go_wp2_with fail
    refine (a8f HE (by repeat (first | exact .head _ | assumption | refine .tail _ ?_)) (by repeat (first | exact .head _ | assumption | refine .tail _ ?_)) (by omega) HR.out.2.2).mono ?_
    clear HE
    rintro e wx ⟨sx,sy,Ax,Ay,lx,cx,ly,cy,rfl,HE⟩
    replace HE:=(HE.abb (.bool sx) (.slice Ax lx cx)).abb (.bool sy) (.slice Ay ly cy)
    simp only [World.size_alloc] at HE
    clear q50 q51 q52 q53 q54 q55 q56 q57 q58 q59 q60 q61 q62 q63 q64 q65 q66 q67
    obtain ⟨q68,q69,q70,q71⟩:=HE.c2 (.head _)
    obtain ⟨q72,q73,q74,q75⟩:=HE.c2 (.tail _ (.head _))
    obtain ⟨q76,q77,q78,q79⟩:=HE.c2 (.tail _ (.tail _ (.head _)))
    obtain ⟨q80,q81,q82,q83⟩:=HE.c2 (.tail _ (.tail _ (.tail _ (.head _))))
    obtain ⟨q84,q85,q86,q87⟩:=HE.c2 (.tail _ (.tail _ (.tail _ (.tail _ (.head _)))))
    obtain ⟨q88,q89,q90,q91,q92,q93⟩:=HE.c3 (.head _)
    go_wp2_with fail
    refine (a8f HE (by repeat (first | exact .head _ | assumption | refine .tail _ ?_)) (by repeat (first | exact .head _ | assumption | refine .tail _ ?_)) (by omega) HR.out.2.2).mono ?_
    clear HE
    rintro e wy ⟨su,sv,Au,Av,lu,cu,lv,cv,rfl,HE⟩
    replace HE:=(HE.abb (.bool su) (.slice Au lu cu)).abb (.bool sv) (.slice Av lv cv)
    simp only [World.size_alloc] at HE
    clear q68 q69 q70 q71 q72 q73 q74 q75 q76 q77 q78 q79 q80 q81 q82 q83 q84 q85 q86 q87 q88 q89 q90 q91 q92 q93
    obtain ⟨q94,q95,q96,q97⟩:=HE.c2 (.tail _ (.head _))
    obtain ⟨q98,q99,ben,beo⟩:=HE.c2 (.tail _ (.tail _ (.tail _ (.head _))))
    obtain ⟨bep,ber,bes,bet,beu,bev⟩:=HE.c3 (.head _)
    have TF:=(HE.aN9 (.head _)).put (.bool sx) (.slice Ax lx cx) (.slice Au lu cu)
    go_wp2_with fail
    obtain ⟨z0,z1,z2,-,-,-⟩:=TF.cells
    refine bodyPost_ret (v := .agg #[.bool sx,.slice Ax lx cx,.slice Au lu cu]) (by simp [results,Tryz.results103,go_sem,z0,z1,z2]) rfl ?_
    have HF:=HE.bcD (v := .agg #[.bool sx,.slice Ax lx cx,.slice Au lu cu]) (s:=sx) (A:=Ax) (n:=lx) (c:=cx) (s':=su) (A':=Au) (n':=lu) (c':=cu) (by repeat (first | exact .head _ | assumption | refine .tail _ ?_)) (by repeat (first | exact .head _ | assumption | refine .tail _ ?_)) HX0.out HR.out.1 HR.out.2.1 rfl
    have HK:=(HF.as9 (D:=Ax) (m:=lx) (d:=cx) (.head _) sx (.slice Au lu cu)).bare
    exact ⟨_,_,_,_,_,_,_,rfl,(HK.pick (fun e he => .tail _ (.tail _ (.tail _ (.tail _ (.tail _ (.tail _ (.tail _ (he)))))))) (fun _ he=>he)).hd (·.weak (by omega))⟩
end
end Go.Proofs.YtbihljnjaondcaaGreatDoor
