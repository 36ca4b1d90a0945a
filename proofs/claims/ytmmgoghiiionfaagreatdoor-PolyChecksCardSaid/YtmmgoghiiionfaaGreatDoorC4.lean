/- Part of a proof, said shortly. -/
import Derived.Lib.TrailingZeros
import Derived.Shelf.Spec.TrailingZeros
import Derived.Deep.RegionHeld3
import Derived.Deep.RegionWith
import Derived.Test.YtmmgoghiiionfaaGreatDoorAlz
import Derived.Test.YtmmgoghiiionfaaGreatDoorC1
import Derived.Test.YtmmgoghiiionfaaGreatDoorC2
import Derived.Test.YtmmgoghiiionfaaGreatDoorC3
set_option linter.unusedVariables false
set_option linter.unusedSimpArgs false
namespace Lw
open Go
def tz(x:Nat):Nat:=Lib.ctz 64 x
theorem Dh{x:Nat}(h0:x≠0)(h:x<18446744073709551616) : ∃ m,x=2^tz x*(2*m+1)/\tz x<64:=by
 unfold tz Lib.ctz;rw [if_neg h0];exact Lib.ctzFrom_spec 64 x af h
theorem xJ(m k:Nat):Nat.Coprime (2^k) (2*m+1):=by
 apply Nat.Coprime.pow_left;unfold Nat.Coprime
 simp_all
theorem H7{j k m:Nat}(h:2^j ∣ 2^k*(2*m+1)):j<=k:=by
 have h1:2^j ∣ 2^k:=Nat.Coprime.dvd_of_dvd_mul_right (xJ m j) h;exact (Nat.pow_dvd_pow_iff_le_right af).1 h1
theorem P8{j x y:Nat} : 2^j ∣ (x ||| y)↔2^j ∣ x/\2^j ∣ y:=by
 rw [Nat.dvd_iff_mod_eq_zero,Nat.dvd_iff_mod_eq_zero,Nat.dvd_iff_mod_eq_zero,Nat.or_mod_two_pow,Nat.or_eq_zero_iff]
theorem Sr{x m:Nat}(h:x=2^tz x*(2*m+1)):x/2^tz x=2*m+1:=by
 have hp:0<2^tz x:=by grind
 generalize 2^tz x=P at *
 simp_all
theorem X9{x y:Nat}(hx:x≠0)(hy:y≠0)(hxl:x<18446744073709551616)(hyl:y<18446744073709551616) :
  Nat.gcd x y=Nat.gcd (x/2^tz x) y*2^tz (x ||| y)/\(x/2^tz x)%2=1/\tz x<64/\tz (x ||| y)<64/\x ||| y<18446744073709551616:=by
 have ho:x ||| y≠0:=fun e=>hx (Nat.or_eq_zero_iff.1 e).1
 have hol:x ||| y<18446744073709551616:=Nat.or_lt_two_pow (n:=64) hxl hyl
 obtain ⟨a,ha,hal⟩:=Dh hx hxl;obtain ⟨b,hb,hbl⟩:=Dh hy hyl;obtain ⟨c,hc,hcl⟩:=Dh ho hol;have e1:=Sr ha;have hd:2^tz (x ||| y) ∣ (x ||| y):=⟨_,hc⟩;obtain ⟨d1,d2⟩:=P8.1 hd;have l1:tz (x ||| y)<=tz x:=H7 (m:=a) (by rw [<- ha];exact d1);have l2:tz (x ||| y)<=tz y:=H7 (m:=b) (by rw [<- hb];exact d2)
 have l3:¬ (tz (x ||| y)+1<=tz x/\tz (x ||| y)+1<=tz y):=by
  rintro ⟨k1,k2⟩;have f1:2^(tz (x ||| y)+1) ∣ x:=Nat.dvd_trans (Nat.pow_dvd_pow 2 k1) ⟨_,ha⟩;have f2:2^(tz (x ||| y)+1) ∣ y:=Nat.dvd_trans (Nat.pow_dvd_pow 2 k2) ⟨_,hb⟩;have:=H7 (m:=c) (j:=tz (x ||| y)+1) (k:=tz (x ||| y)) (by rw [<- hc];exact P8.2 ⟨f1,f2⟩);omega
 refine ⟨?_,by rw [e1];omega,hal,hcl,hol⟩;rw [e1];generalize tz (x ||| y)=t at *;clear hd d1 d2 e1 hc ho hol;generalize tz x=i at *;generalize tz y=j at *;subst ha hb;rw [Nat.Coprime.gcd_mul_left_cancel_right _ (xJ a j)];rcases ahs t i with h1 | h1
 ·obtain rfl:j=t:=af
  obtain ⟨k,rfl⟩:=Nat.exists_eq_add_of_le l1;rw [ahV,ahA,Nat.gcd_mul_left,ahu]
  congr 1
  exact Nat.Coprime.gcd_mul_left_cancel _ (xJ b k)
 ·obtain rfl:i=t:=af
  obtain ⟨k,rfl⟩:=Nat.exists_eq_add_of_le l2;rw [ahV,ahA,Nat.gcd_mul_left,ahu]
  congr 1
  exact Nat.Coprime.gcd_mul_left_cancel_right _ (xJ a k)
theorem aau{x:Nat}(h:x%2=1):x=2*(x/2)+1:=af
theorem X8{x y:Nat}(hx:x%2=1)(hy:y≠0)(hyl:y<18446744073709551616) :
  Nat.gcd x (y/2^tz y)=Nat.gcd x y/\(y/2^tz y)%2=1/\y/2^tz y<=y/\tz y<64:=by
 obtain ⟨b,hb,hbl⟩:=Dh hy hyl;have e:=Sr hb;refine ⟨?_,by rw [e];omega,ah0 _ _,hbl⟩;rw [e]
 conv=>rhs;rw [hb]
 rw [aau hx,Nat.Coprime.gcd_mul_left_cancel_right _ (xJ _ _)]
theorem Nr{x y:Nat}(h:x<=y):Nat.gcd x (y-x)=Nat.gcd x y:=Nat.gcd_sub_self_right h
end Lw
namespace Lw
theorem Xe{n d:Int}(hd:0<d):(Rat.divInt n d).num.natAbs<=n.natAbs/\(Rat.divInt n d).den<=d.natAbs:=by
 constructor
 ·rw [Rat.num_divInt,Int.sign_eq_one_of_pos hd,aiO];exact Int.natAbs_ediv_le_natAbs _ _
 ·rw [Rat.den_divInt,if_neg af];exact ah0 _ _
theorem den_pos(a:Rat):(0:Int)<(a.den:Int):=by have:=a.den_pos;omega
theorem y8(a:Rat):(a.den:Int)≠0:=by have:=den_pos a;omega
theorem KL(a b:Rat):a+b=Rat.divInt (a.num*b.den+b.num*a.den) (a.den*b.den):=by
 conv=>lhs;rw [<- Rat.num_divInt_den a,<- Rat.num_divInt_den b]
 rw [Rat.divInt_add_divInt _ _ (y8 a) (y8 b)]
theorem Vf(a b:Rat):(a+b).num.natAbs<=a.num.natAbs*b.den+b.num.natAbs*a.den/\(a+b).den<=a.den*b.den:=by
 have h:=Xe (n:=a.num*b.den+b.num*a.den) (Int.mul_pos (den_pos a) (den_pos b));rw [<- KL,aiN,ahx,ahx] at h;refine ⟨ahk h.1 (ahk (Int.natAbs_add_le _ _) ?_),h.2⟩;rw [aiN,aiN,ahx,ahx];omega
theorem QW{n d g:Int}(hd:0<d)(hg:g=(Nat.gcd n.natAbs d.natAbs:Nat)):(Rat.divInt n d).num=n/g/\((Rat.divInt n d).den:Int)=d/g/\g≠0:=by
 have p1:0<Nat.gcd n.natAbs d.natAbs:=by grind
 have e:Int.gcd d n=Nat.gcd n.natAbs d.natAbs:=Int.gcd_comm d n;subst hg;refine ⟨?_,?_,af⟩
 ·rw [Rat.num_divInt,Int.sign_eq_one_of_pos hd,aiO,e]
 ·rw [Rat.den_divInt,if_neg af,e,aiZ,Int.natAbs_of_nonneg af]
def qO(a b:Rat):Int:=if a<b then -1 else if b<a then 1 else 0
def jl(a:Rat):Int:=if a<0 then -1 else if 0<a then 1 else 0
end Lw
namespace Lw
theorem tri(a b:Rat):a<b\/a=b\/b<a:=by
 grind
theorem adn{a:Rat}(h:a<0):jl a = -1:=by unfold jl;rw [if_pos h]
theorem adq:jl 0=0:=by unfold jl;rw [if_neg Rat.lt_irrefl,if_neg Rat.lt_irrefl]
theorem adp{a:Rat}(h:0<a):jl a=1:=by unfold jl;rw [if_neg (Rat.not_lt.2 (Rat.le_of_lt h)),if_pos h]
theorem PX{a:Rat} : a.num<0↔a<0:=by
 have:=Rat.lt_iff a 0
 simp_all
theorem ado(a:Rat):jl a=if a.num<0 then -1 else if a.num=0 then 0 else 1:=by
 rcases tri a 0 with h | h | h
 ·rw [adn h,if_pos (PX.2 h)]
 ·subst h;rw [adq];rfl
 ·have h1:¬ a.num<0:=fun e=>absurd h (Rat.not_lt.2 (Rat.le_of_lt (PX.1 e)))
  have h2:a.num≠0:=fun e=>by rw [ai0] at e;subst e;exact Rat.lt_irrefl h
  rw [adp h,if_neg h1,if_neg h2]
end Lw
namespace Lw
open Go Go.RowKit
theorem Xd{x:Nat}(h0:x≠0)(h:x<4294967296):bg x=[x]:=by
 have:=L8 (l:=[x]) (by rw [kF];exact ⟨h,jV⟩) (by simpa [dg] using h0)
 simpa [val] using this
end Lw
namespace Go.Proofs.AZQ
open Go Go.RowKit Lw
set_option maxRecDepth 100000 in
set_option maxHeartbeats 800000 in
theorem ZK(A:Option Addr)(ns:List Nat)(n c B:Nat)(w:World)(h:Rd w B A ns)(hn:ns.length=n)(hl:n<=16777216) :
  Calls Tryz.prog 127 #[.slice A n c] w fun e w'=>e = .returned (.bool (decide (ns=[1]))) /\ ∃ q,w'=w.drewN q:=by
 have Hn:=Lib.hid hn;clear hn
 by_cases h1:n=1
 ·subst h1
  obtain ⟨b,off,rfl,hb,hcell,hlt⟩:=h.at_ (k:=0) (by rw [Hn.out];omega);rw [ahF] at hcell
  have HE:Hid (decide (ns=[1])=decide (dg ns 0=1)):=Lib.hid (by
   obtain ⟨x,rfl⟩ : ∃ x,ns=[x]:=List.length_eq_one_iff.1 Hn.out;simp [dg])
  by_cases h2:dg ns 0=1
  ·have h3:((dg ns 0:Int)==1)=true:=by rw [beq_iff_eq];omega
   go_enter Tryz.func127,Tryz.ntmps127
   go_wp2_with fail
   go_ret
   exact ⟨by rw [HE.out,decide_eq_true h2];rfl,0,rfl⟩
  ·have h3:((dg ns 0:Int)==1)=false:=by rw [beq_eq_false_iff_ne];omega
   go_enter Tryz.func127,Tryz.ntmps127
   go_wp2_with fail
   go_ret
   exact ⟨by rw [HE.out,decide_eq_false h2];rfl,0,rfl⟩
 ·have h3:((n:Int)==1)=false:=by rw [beq_eq_false_iff_ne];omega
  have HE:Hid (decide (ns=[1])=false):=Lib.hid (decide_eq_false (by intro e;subst e;exact h1 Hn.out.symm))
  go_enter Tryz.func127,Tryz.ntmps127
  go_wp2_with fail
  go_ret
  exact ⟨by rw [HE.out];rfl,0,rfl⟩
set_option maxRecDepth 100000 in
set_option maxHeartbeats 800000 in
theorem ZL(A:Option Addr)(ns:List Nat)(n c B:Nat)(w:World)(h:Rd w B A ns)(hn:ns.length=n)(h1:1<=n)(h2:n<=2) :
  Calls Tryz.prog 246 #[.slice A n c] w fun e w'=>e = .returned (.int .u64 (val ns:Int)) /\ ∃ q,w'=w.drewN q:=by
 have Hn:=Lib.hid hn;clear hn
 by_cases h3:n=1
 ·subst h3
  obtain ⟨b,off,rfl,hb,hcell,hlt⟩:=h.at_ (k:=0) (by rw [Hn.out];omega);rw [ahF] at hcell
  have HE:Hid (dg ns 0=val ns):=Lib.hid (by
   obtain ⟨x,rfl⟩ : ∃ x,ns=[x]:=List.length_eq_one_iff.1 Hn.out;simp [dg,val])
  go_enter Tryz.func246,Tryz.ntmps246
  go_wp2_with fail
  go_ret
  exact ⟨eF (by rw [HE.out]),0,rfl⟩
 ·obtain rfl:n=2:=af
  obtain ⟨b,off,rfl,hb,hcell,hlt⟩:=h.at_ (k:=0) (by rw [Hn.out];omega);obtain ⟨b_,Hg,he,_,hcell2,hlt2⟩:=h.at_ (k:=1) (by rw [Hn.out];omega)
  injection he with he;injection he with e1 e2;subst e1 e2;rw [ahF] at hcell
  have HE:Hid (dg ns 0+4294967296*dg ns 1=val ns):=Lib.hid (by
   have e:=di (l:=ns) (k:=2) (by rw [Hn.out];exact ahj _);rw [bV,bV,fM,lG,show pw 1=4294967296 from rfl] at e;omega)
  have hor:=rF hlt2 hlt
  go_enter Tryz.func246,Tryz.ntmps246
  go_wp2_with fail
  go_quiet (fail)
  go_wp2_with fail
  go_ret
  exact ⟨eF (by rw [<- HE.out];omega),_,rfl⟩
open Go.Shelf
def aea:Ren:=⟨fun | 29=>236 | n=>n,fun | 0=>0 | 3=>3 | 4=>4 | 5=>5 | 22=>160 | 25=>186 | 54=>225 | n=>n,fun | 1=>0 | n=>n⟩
theorem ad9:Lays7.n29 Tryz.prog aea := {
 mixed:=ah
 f29:=Tryz.func236.trans (congrArg some ah)
 t0:=Tryz.underlying0
 a0:=Tryz.isAgg0
 z0:=Tryz.sizeOf0
 v0:=Tryz.zeroValue0
 i0:=ah
 t3:=agL
 a3:=agM
 z3:=agN
 v3:=agP
 i3:=ah
 t4:=agB
 a4:=agE
 z4:=agF
 v4:=agQ
 i4:=ah
 t5:=agT
 a5:=ag4
 z5:=ag5
 v5:=ag6
 i5:=ah
 t22:=Tryz.underlying160
 a22:=Tryz.isAgg160
 z22:=Tryz.sizeOf160
 v22:=Tryz.zeroValue160
 i22:=ah
 t25:=Tryz.underlying186
 a25:=Tryz.isAgg186
 z25:=Tryz.sizeOf186
 v25:=Tryz.zeroValue186
 i25:=ah
 t54:=Tryz.underlying225
 a54:=Tryz.isAgg225
 z54:=Tryz.sizeOf225
 g1:=by kernel_rfl }
def Tz(w:World):Prop:=TabAt 0 Lib.deBruijn64tab w
theorem aeb(x:Nat)(w:World)(_hx:x<=18446744073709551615)(ht:Tz w) :
  Calls Tryz.prog 236 #[.int .u64 x] w fun e w'=>e = .returned (.int .i64 (tz x:Nat))/\w=w' :=
 (Any7.bits_TrailingZeros64 ad9 x af w (fun _=>ht)).mono fun e w' h=>⟨h.1,h.2.symm⟩
theorem cell_lt{w:World}{a:Addr}{v:Value}(h:w.cell? a=some v):a.block<w.heap.size:=by
 rcases ahs a.block w.heap.size with h1 | h1
 ·exact h1
 ·exfalso
  unfold World.cell? at h;grind
theorem Tz.next{w w':World}(h:Tz w)(hb:Below w.heap.size w w'):Tz w':=fun j hj=>(hb.cell (cell_lt (h j hj))).trans (h j hj)
theorem Tz.drewN{w:World}(h:Tz w)(n:Nat):Tz (w.drewN n):=h
set_option maxRecDepth 100000 in
set_option maxHeartbeats 3200000 in
theorem XR(x y:Nat)(w:World)(hx:x<=18446744073709551615)(hy:y<=18446744073709551615)(hx0:x≠0)(hy0:y≠0)(ht:Tz w) :
  Calls Tryz.prog 188 #[.int .u64 x,.int .u64 y] w fun e w'=>e = .returned (.int .u64 (Nat.gcd x y:Nat)) /\ ∃ q,w'=w.drewN q:=by
 obtain ⟨g1,g2,g3,g4,g5⟩:=X9 hx0 hy0 (show x<18446744073709551616 from af) (show y<18446744073709551616 from af);have hor:bits .or .u64 (x:Int) (y:Int)=((x ||| y:Nat):Int):=u64_or_nat x y af af;have hK:=Lib.hid (fun (z:Nat) (W:World) (h:z<=18446744073709551615) (hW:Tz W)=>aeb z W h hW);have HT:=Lib.hid ht;obtain ⟨o,ho⟩ : ∃ o,o=x ||| y:=⟨_,rfl⟩
 rw [<- ho] at g1 g4 g5 hor;obtain ⟨t,hte⟩ : ∃ t,t=tz o:=⟨_,rfl⟩;rw [<- hte] at g1 g4;obtain ⟨X,hX⟩ : ∃ X,X=x/2^tz x:=⟨_,rfl⟩;rw [<- hX] at g1 g2;have YG:X<=18446744073709551615:=by rw [hX];exact ahk (ah0 _ _) hx
 have xn:(x:Int)/2^tz x=(X:Int):=by rw [hX];simp
 have HG:=Lib.hid g1;have Ko:=Lib.hid g2;have Hte:=Lib.hid hte;have hol:o<=18446744073709551615:=af;obtain ⟨s,hs⟩ : ∃ s,s=tz x:=⟨_,rfl⟩;rw [<- hs] at xn g3;have Hs:=Lib.hid hs;clear g1 g2 g5 ho hte hX hs ht
 go_enter Tryz.func188,Tryz.ntmps188
 go_wp2_with fail
 refine (hK.out o _ hol HT.out).mono ?_;rintro e w1 ⟨rfl,rfl⟩;rw [<- Hte.out]
 go_wp2_with fail
 refine (hK.out x _ hx HT.out).mono ?_;rintro e w1 ⟨rfl,rfl⟩;rw [<- Hs.out]
 go_wp2_with fail
 go_loopw [0,1] (fun a b wr => ∃ u v q:Nat,u<=18446744073709551615/\v<=18446744073709551615/\1<=u/\a = .int .u64 u/\b = .int .u64 v/\Hid (u%2=1)/\Hid (Nat.gcd u v=Nat.gcd X y)/\wr=w.drewN q) (fun a b _=>(intOf a).toNat+(intOf b).toNat)
 case atStart=>exact ⟨X,y,0,YG,hy,by have:=Ko.out;omega,rfl,rfl,Ko,Lib.hid rfl,rfl⟩
 case round =>
  obtain ⟨u,v,q,hu,hv,hu1,rfl,rfl,hodd,hg,rfl⟩:=hrel
  have fin:Nat.gcd u v=u->IntKind.u64.wrap ((u:Int)*2^t)=((Nat.gcd x y:Nat):Int):=by
   intro h;have e:(u:Int)*2^t=((u*2^t:Nat):Int):=by simp
   have h2:u*2^t=Nat.gcd x y:=by rw [HG.out,<- hg.out,h]
   have h3:=ai1 y (show 0<x from af);rw [e,h2];exact IntWalk.u64_in _ af
  by_cases h1:u=1
  ·subst h1
   have hf:=fin (Nat.gcd_one_left _);have HF:=Lib.hid hf;clear fin hf
   go_wp2_with fail
   go_ret
   exact ⟨eF (by have:=HF.out;simpa using this),q,rfl⟩
  ·have hb1:((u:Int) != 1)=true:=by rw [bne_iff_ne];omega
   by_cases h2:v=0
   ·subst h2
    have hf:=fin (aja _);have HF:=Lib.hid hf;clear fin hf h1
    go_wp2_with fail
    go_ret
    exact ⟨eF HF.out,q,rfl⟩
   ·have hb2:((v:Int) != 0)=true:=by rw [bne_iff_ne];omega
    obtain ⟨r1,r2,r3,r4⟩:=X8 hodd.out h2 (show v<18446744073709551616 from af);obtain ⟨V,hV⟩ : ∃ V,V=v/2^tz v:=⟨_,rfl⟩;obtain ⟨k,hk⟩ : ∃ k,k=tz v:=⟨_,rfl⟩;have afl:(v:Int)/2^k=(V:Int):=by rw [hV,hk];simp
    rw [<- hV] at r1 r2 r3;rw [<- hk] at r4;have Hr:=Lib.hid (And.intro r1 r2);have Hk:=Lib.hid hk;clear fin h1 h2 r1 r2 hV hk
    go_wp2_with fail
    refine (hK.out v _ hv (HT.out.drewN q)).mono ?_;rintro e w1 ⟨rfl,rfl⟩;rw [<- Hk.out]
    by_cases h3:V<u
    ·have hgs:Hid (Nat.gcd V (u-V)=Nat.gcd X y):=Lib.hid (by rw [Nr (ahN h3),ah6,Hr.out.1,hg.out])
     go_wp2_with fail
     go_roundw
     case rel=>exact ⟨V,u-V,q,af,af,by have:=Hr.out.2;omega,rfl,congrArg _ af,Lib.hid Hr.out.2,hgs,rfl⟩
     case measure=>simp [intOf];have:=Hr.out.2;omega
    ·have hgs:Hid (Nat.gcd u (V-u)=Nat.gcd X y):=Lib.hid (by rw [Nr af,Hr.out.1,hg.out])
     go_wp2_with fail
     go_roundw
     case rel=>exact ⟨u,V-u,q,af,af,af,rfl,congrArg _ af,hodd,hgs,rfl⟩
     case measure=>simp [intOf];omega
end Go.Proofs.AZQ
namespace Lw
open Go Go.RowKit
def rs(q:Rat):Bool:=decide (q.num<0)
def rn(q:Rat):List Nat:=bg q.num.natAbs
def rd(q:Rat):List Nat:=if q.num=0 then [] else bg q.den
def bT(w:World)(g:Nat)(t:TypeId)(a b c:Value):Prop:=w.heap[g]? = some (.cells #[a,b,c] t (0,0))
section
variable {w w':World} {g:Nat} {t:TypeId} {a b c:Value}
theorem bT.lt(h:bT w g t a b c):g<w.heap.size:=by
 rcases ahs g w.heap.size with hlt | hge
 ·exact hlt
 ·unfold bT at h;rw [aiL hge] at h;cases h
theorem bT.new(w:World)(t:TypeId)(a b c:Value):bT (w.alloc (.cells #[a,b,c] t)) w.heap.size t a b c:=heap_alloc_new w _
theorem bT.drew(h:bT w g t a b c):bT w.drew g t a b c:=h
theorem bT.drewN(h:bT w g t a b c)(n:Nat):bT (w.drewN n) g t a b c:=h
theorem bT.next(h:bT w g t a b c)(hb:Below w.heap.size w w'):bT w' g t a b c:=(hb.block g h.lt).trans h
theorem bT.cells(h:bT w g t a b c):w.cell? ⟨g,0,none⟩=some a/\w.cell? ⟨g,1,none⟩=some b/\w.cell? ⟨g,2,none⟩=some c/\w.frozen? ⟨g,0,none⟩=false/\w.frozen? ⟨g,1,none⟩=false/\w.frozen? ⟨g,2,none⟩=false:=by
 unfold bT at h;exact ⟨by rw [cell_of_row w g 0 _ t (0,0) h];rfl,by rw [cell_of_row w g 1 _ t (0,0) h];rfl,by rw [cell_of_row w g 2 _ t (0,0) h];rfl,by simp [World.frozen?,h],by simp [World.frozen?,h],by simp [World.frozen?,h]⟩
theorem bT.set0(h:bT w g t a b c)(x:Value):bT (w.setCell ⟨g,0,none⟩ x) g t x b c:=by unfold bT at h ⊢;simp [World.setCell,aip,h]
theorem bT.set1(h:bT w g t a b c)(x:Value):bT (w.setCell ⟨g,1,none⟩ x) g t a x c:=by unfold bT at h ⊢;simp [World.setCell,aip,h]
theorem Rd.aap{B n c n' c':Nat}{s:Bool}{A A' vP:Option Addr}{ns:List Nat}(h:Rd w B A ns)(h2:bT w g t (.bool s) (.slice A' n c) (.slice vP n' c')){b off:Nat}(hn:0<ns.length)(hA:A=some ⟨b,off,none⟩):b≠g:=by
 rintro rfl;obtain ⟨b',off',hA',hb,hc⟩:=h.2 hn;rw [hA] at hA'
 injection hA' with e
 injection e with e1 e2;subst e1 e2;have h0:=hc 0 hn;unfold bT at h2;rw [cell_of_row w b _ _ t (0,0) h2] at h0;grind
theorem Rd.mY{B n c n' c' i:Nat}{s:Bool}{A A' vP:Option Addr}{ns:List Nat}(h:Rd w B A ns)(h2:bT w g t (.bool s) (.slice A' n c) (.slice vP n' c'))(u:Value):Rd (w.setCell ⟨g,i,none⟩ u) B A ns :=
 ⟨h.1,fun hn=>by
  obtain ⟨b,off,hA,hb,hc⟩:=h.2 hn;have hne:=h.aap h2 hn hA;refine ⟨b,off,hA,hb,fun j hj => ?_⟩;rw [<- hc j hj];exact World.cell?_setCell_other w _ _ u (fun e=>hne (by injection e with e1;first | exact e1 | exact e1.symm))⟩
theorem Rd.rH{B n c n' c' m d:Nat}{s:Bool}{A A' vP D:Option Addr}{ns:List Nat}(h:Rd w B A ns)(h2:bT w g t (.bool s) (.slice A' n c) (.slice vP n' c'))(s':Bool)(v:Value) :
  Rd (((w.setCell ⟨g,0,none⟩ (.bool s')).setCell ⟨g,1,none⟩ (.slice D m d)).setCell ⟨g,2,none⟩ v) B A ns :=
 ((h.mY h2 _).mY (h2.set0 _) _).mY ((h2.set0 _).set1 _) _
end
theorem f_zero:rs 0=false/\rn 0=[]/\rd 0=[]:=⟨rfl,rfl,rfl⟩
theorem MW{n d:Int}(hn:n≠0)(hd:d≠0) :
  rs (Rat.divInt n d)=(decide (n<0) != decide (d<0))/\rn (Rat.divInt n d)=bg (n.natAbs/Nat.gcd n.natAbs d.natAbs)/\rd (Rat.divInt n d)=bg (d.natAbs/Nat.gcd n.natAbs d.natAbs):=by
 have hg:Nat.gcd n.natAbs d.natAbs≠0:=by
  intro e;exact hn (Int.natAbs_eq_zero.1 (Nat.eq_zero_of_gcd_eq_zero_left e))
 have hdn:Nat.gcd n.natAbs d.natAbs ∣ n.natAbs:=aiP _ _;have hdd:Nat.gcd n.natAbs d.natAbs ∣ d.natAbs:=aiQ _ _
 have e1:(Rat.divInt n d).num=d.sign*n/(Nat.gcd n.natAbs d.natAbs:Nat):=by
  rw [Rat.num_divInt];congr 2;exact Int.gcd_comm d n
 have e2:(Rat.divInt n d).den=d.natAbs/Nat.gcd n.natAbs d.natAbs:=by
  rw [Rat.den_divInt,if_neg hd];congr 1;exact Int.gcd_comm d n
 obtain ⟨g,hge⟩ : ∃ g,g=Nat.gcd n.natAbs d.natAbs:=⟨_,rfl⟩;rw [<- hge] at hg hdn hdd e1 e2 ⊢;clear hge;have hgi:(g:Int) ∣ n:=Int.ofNat_dvd_left.2 hdn;obtain ⟨m,hm⟩:=hgi;have F6:(0:Int)<g:=af;have hm0:m≠0:=by intro e;rw [e] at hm;simp at hm;exact hn hm
 have e3:(Rat.divInt n d).num=d.sign*m:=by
  rw [e1,hm,Int.mul_left_comm,Int.mul_ediv_cancel_left _ af]
 have hab:n.natAbs/g=m.natAbs:=by
  rw [hm,aiN,ahx,Nat.mul_div_cancel_left _ af]
 have hs:n<0↔m<0:=by
  rw [hm];constructor
  ·intro h
   refine Int.lt_of_not_ge fun h2 => ?_;have:=Int.mul_nonneg (Int.le_of_lt F6) h2;omega
  ·intro h
   exact Int.mul_neg_of_pos_of_neg F6 h
 have hd3:d.sign=1/\0<d\/d.sign = -1/\d<0:=by
  rcases Int.lt_or_gt_of_ne hd with h | h
  ·exact .inr ⟨Int.sign_eq_neg_one_of_neg h,h⟩
  ·exact .inl ⟨Int.sign_eq_one_of_pos h,h⟩
 unfold rs rn rd;rw [e3,e2,hab];rcases hd3 with ⟨hs1,hd1⟩ | ⟨hs1,hd1⟩
 ·rw [hs1,aiO,if_neg hm0]
  refine ⟨?_,rfl,rfl⟩;rw [decide_eq_false (show ¬ d<0 from af)];simp [hs]
 ·rw [hs1,ait,aiO,if_neg af,Int.natAbs_neg]
  refine ⟨?_,rfl,rfl⟩;rw [decide_eq_true hd1];rcases Int.lt_or_gt_of_ne hm0 with h | h
  ·rw [decide_eq_true (hs.2 h),decide_eq_false af];rfl
  ·rw [decide_eq_false (show ¬ n<0 by rw [hs];omega),decide_eq_true af];rfl
end Lw
namespace Lw
section
variable {l us vs:List Nat} {B U V V3 k rest top u0 u1 u3 ul v1 vl x:Nat}
theorem Yk(hU:U=u3*B+ul)(ku:ul<B)(hV:V=V3*B+vl)(hx:u3+1<=x*V3)(hp:0<V):U/V<x:=by
 rw [aim hp];have h1:(u3+1)*B<=x*V3*B:=ahp _ hx;have h2:x*V=x*V3*B+x*vl:=by grind
 grind
theorem Yj(hU:U=u3*B+ul)(hvl:vl<B)(hV:V=V3*B+vl)(hx:x*V3<=u3)(hxV:x<=V3+1)(hp:0<V):x<=U/V+1:=by
 rcases ahE x with h0 | h0
 ·grind
 ·obtain ⟨y,rfl⟩ : ∃ y,x=y+1:=⟨x-1,af⟩
  have h1:y<=U/V:=by
   rw [ajb hp];have h2:y*V=y*V3*B+y*vl:=by grind
   have h3:y*vl<=V3*B:=ahY af af;have h4:(y+1)*V3*B<=u3*B:=ahp _ hx;grind
  omega
theorem Dk(h:l.length=k+2):val l=(dg l (k+1)*4294967296+dg l k)*pw k+lo l k:=by
 have e:lo l (k+2)=val l:=di af;rw [show k+2=k+1+1 from rfl,bV,bV,dS] at e;grind
theorem Dl(h:l.length=k+3):val l=((dg l (k+2)*4294967296+dg l (k+1))*4294967296+dg l k)*pw k+lo l k:=by
 have e:lo l (k+3)=val l:=di af;have e1:=bV l (k+2);have e2:=bV l (k+1);have e3:=bV l k;have p2:pw (k+2)=4294967296*(4294967296*pw k):=by rw [dS,dS]
 rw [dS] at e2;grind
structure Gs(U V top v1 u1:Nat)(x rest:Nat):Prop where
 ge:U/V<=x
 sum:x*v1+rest=top
 le:x<=4294967297
 far:4294967295<x->rest<=4294967295
 small:rest<=8589934591
theorem Gs.start(hv:2147483648<=v1)(hvl:v1<=4294967295)(ht:top=u0*4294967296+u1)(hu1:u1<=4294967295)(hu0:u0<=v1)(hQ:U/V<=top/v1) :
  Gs U V top v1 u1 (top/v1) (top%v1):=by
 have h1:=ain top v1;have h2:=aht top (show 0<v1 from af);have h3:top%v1<=4294967294:=by generalize top%v1=r at *;omega
 refine ⟨hQ,by rw [ahu];exact h1,?_,fun _=>ahk h3 af,ahk h3 af⟩
 have:top/v1<4294967298:=by
  rw [aim af];omega
 exact Nat.le_of_lt_succ this
theorem Gs.next(h:Gs U V top v1 u1 x rest)(hv:2147483648<=v1)(hvl:v1<=4294967295)(ht:top=u0*4294967296+u1)(hu1:u1<=4294967295)(hu0:u0<=v1)(hr:rest<=4294967295)(hx:U/V<x):Gs U V top v1 u1 (x-1) (rest+v1):=by
 have hx0:0<x:=ahO (ahl _) hx;obtain ⟨y,rfl⟩ : ∃ y,x=y+1:=⟨x-1,af⟩;have h1:=h.sum;have h2:=h.le;rw [ahw,ah1] at h1;rw [Nat.add_sub_cancel];refine ⟨Nat.le_of_lt_succ hx,af,af,fun hy => ?_,af⟩;have h3:4294967296*v1<=y*v1:=ahp _ hy;have h4:u0*4294967296<=4294967296*v1:=by rw [ahu];exact ahz _ hu0
 omega
theorem Gs.over(h:Gs U V top v1 u1 x rest)(hU:U=val us)(hV:V=val vs)(ku:us.length=k+3)(hvl:vs.length=k+2)(zZ:bF us)(ht:top=dg us (k+2)*4294967296+dg us (k+1))(hv1:v1=dg vs (k+1))(hp:0<V)(_hx:rest*4294967296+dg us k<x*dg vs k):U/V<x:=by
 subst hU hV ht hv1;refine Yk (Dl ku) (iE zZ k) (Dk hvl) ?_ hp;have h1:=h.sum;rw [ahn,<- h1,ahw,<- ahA];omega
theorem Gs.out(h:Gs U V top v1 u1 x rest)(hU:U=val us)(hV:V=val vs)(ku:us.length=k+3)(hvl:vs.length=k+2)(hwv:bF vs)(ht:top=dg us (k+2)*4294967296+dg us (k+1))(hv1:v1=dg vs (k+1))(hv:2147483648<=v1)(hp:0<V)(hx:x<=4294967295)(he:4294967295<rest\/x*dg vs k<=rest*4294967296+dg us k) :
  U/V<=x/\x<=U/V+1:=by
 refine ⟨h.ge,?_⟩;subst hU hV ht hv1;refine Yj (Dl ku) (iE hwv k) (Dk hvl) ?_ af hp;have h1:=h.sum;rw [ahn,<- h1,ahw,<- ahA];rcases he with he | he
 ·have h2:x*dg vs k<=4294967295*4294967295:=ahY hx (by have:=dV hwv k;omega)
  omega
 ·omega
theorem top_le(ku:us.length=k+3)(hvl:vs.length=k+2)(hwv:bF vs)(hlt:val us<4294967296*val vs):dg us (k+2)<=dg vs (k+1):=by
 have h1:=Dl ku;have h3:lo vs (k+1)<pw (k+1):=iE hwv _;have e:lo vs (k+2)=val vs:=di af;rw [show k+2=k+1+1 from rfl,bV] at e;rcases ahs (dg vs (k+1)) (dg us (k+2)) with h | h
 ·exfalso
  have h4:(dg vs (k+1)+1)*(4294967296*4294967296*pw k)<=dg us (k+2)*(4294967296*4294967296*pw k):=ahp _ h;rw [dS] at h3 e;grind
 ·exact h
theorem abw(ku:us.length=k+3)(hvl:vs.length=k+2)(zZ:bF us)(hv:0<dg vs (k+1)) :
  val us/val vs<=(dg us (k+2)*4294967296+dg us (k+1))/dg vs (k+1):=by
 have h1:=Dl ku;have h2:=Dk hvl;have hu:dg us k<4294967296:=dV zZ _;have hl:=iE zZ k;obtain ⟨top,ht⟩ : ∃ t,t=dg us (k+2)*4294967296+dg us (k+1):=⟨_,rfl⟩;obtain ⟨v1,hv1⟩ : ∃ t,t=dg vs (k+1):=⟨_,rfl⟩;rw [<- ht] at h1 ⊢;rw [<- hv1] at h2 hv ⊢
 have h3:pw (k+1)*v1<=val vs:=by
  rw [h2,dS,ahw];have:v1*4294967296*pw k=4294967296*pw k*v1:=by ac_rfl
  omega
 have h4:val us<(top+1)*pw (k+1):=by
  rw [h1,dS,ahw,ahw,ah1];have:(dg us k+1)*pw k<=4294967296*pw k:=ahp _ hu;rw [ahw,ah1] at this;rw [ahA];omega
 have h5:val us/val vs<=val us/(pw (k+1)*v1):=Nat.div_le_div_left h3 (ah8 (iV _) hv);rw [<- aiM] at h5;refine ahk h5 (Nat.div_le_div_right ?_);have:=(aim (iV (k+1))).2 h4;omega
end
end Lw
namespace Lw
section
variable {o:Bool} {K a b r1 r2 u1 u2 v1 v2 x x0 y y0:Nat}
theorem comb(h1:u1*a=r1+v1*b)(h2:v2*b=r2+u2*a)(hd:u1*v2=u2*v1+1):a=v2*r1+v1*r2/\b=u2*r1+u1*r2:=by
 grind
theorem LQ(h1:u1*a=r1+v1*b)(h2:v2*b=r2+u2*a)(ha:a=v2*r1+v1*r2)(hb:b=u2*r1+u1*r2):Nat.gcd r1 r2=Nat.gcd a b:=by
 apply Nat.dvd_antisymm
 ·refine Nat.dvd_gcd ?_ ?_
  ·rw [ha];exact Nat.dvd_add (aiu (aiP _ _) _) (aiu (aiQ _ _) _)
  ·rw [hb];exact Nat.dvd_add (aiu (aiP _ _) _) (aiu (aiQ _ _) _)
 ·refine Nat.dvd_gcd ?_ ?_
  ·refine (Nat.dvd_add_iff_left (aiu (aiQ a b) v1)).2 ?_
   rw [<- h1];exact aiu (aiP _ _) _
  ·refine (Nat.dvd_add_iff_left (aiu (aiP a b) u2)).2 ?_
   rw [<- h2];exact aiu (aiQ _ _) _
structure Lm(x0 y0 x y u1 u2 v1 v2:Nat)(o:Bool):Prop where
 eq:if o then x+v1*y0=u1*x0/\y+u2*x0=v2*y0 else x+u1*x0=v1*y0/\y+v2*y0=u2*x0
 det:if o then u1*v2=u2*v1+1 else u2*v1=u1*v2+1
 sum:x*v2+y*v1=x0
 le:y<=x
 SY:u2<=v2
 uv:u1+u2<=v1+v2
 Je:1<=v2
 aem:v1<=v2
 aed:u1<=v1\/u1=1
def Sp(a b u0 u1 v0 v1:Nat)(o:Bool):Prop :=
 u0<4294967296/\u1<4294967296/\v0<4294967296/\v1<4294967296 /\ ∃ r1 r2,(if o then v0*b=r1+u0*a/\u1*a=r2+v1*b else u0*a=r1+v0*b/\v1*b=r2+u1*a)/\r2<=r1/\Nat.gcd r1 r2=Nat.gcd a b/\r1<=a/\(0<v0->r1+r2<=a)
theorem Lm.start(h:y0<=x0):Lm x0 y0 x0 y0 1 0 0 1 true:=⟨by simp,by simp,by simp,h,af,af,af,af,.inr rfl⟩
theorem Lm.next(h:Lm x0 y0 x y u1 u2 v1 v2 o)(h1:v2<=y):Lm x0 y0 y (x%y) u2 (u1+x/y*u2) v2 (v1+x/y*v2) (!o):=by
 have hy:0<y:=ahr h.Je h1;have hm:=aht x hy;have hd:=ain x y;have hq:1<=x/y:=by rw [ajb hy];have:=h.le;omega
 generalize x%y=r at *;generalize x/y=q at *;obtain ⟨e,d,s,l,b1,b2,b3,b4,b5⟩:=h;obtain ⟨p,rfl⟩ : ∃ p,q=p+1:=⟨q-1,af⟩;have hpu:p*u2<=p*v2:=ahz _ b1;simp only [ahw,ah1];refine ⟨?_,?_,?_,ahN hm,af,af,af,af,.inl b1⟩
 ·grind
 ·grind
 ·grind
theorem Lm.small(h:Lm x0 y0 x y u1 u2 v1 v2 o)(h0:x0<18446744073709551616)(h1:v2<=y) :
  v2<4294967296/\v1<4294967296/\u1<4294967296/\u2<4294967296:=by
 have s:=h.sum;have h2:v2*v2<=x*v2:=ahp _ (ahk h1 h.le)
 have h3:v2<4294967296:=by
  refine Nat.lt_of_not_le fun hle => ?_;have:=ahY hle hle;omega
 have b1:=h.SY;have b2:=h.aem;rcases h.aed with b3 | b3 <;> omega
theorem Lm.fits(h:Lm x0 y0 x y u1 u2 v1 v2 o)(h1:v2<=y):u1+x/y*u2<=v1+x/y*v2/\v1+x/y*v2<=x0:=by
 have hn:=h.next h1;refine ⟨hn.SY,?_⟩;have hs:=hn.sum;have hy:1<=y:=ahk h.Je h1;have:1*(v1+x/y*v2)<=y*(v1+x/y*v2):=ahp _ hy;omega
theorem uI{t:Nat}{c:Nat}(h:c<=x)(ht:t<K):c*t<=K*x:=by
 rw [ahu K];exact ahY h (ahN ht)
theorem Lm.step(h:Lm x0 y0 x y u1 u2 v1 v2 o)(h0:x0<18446744073709551616)(h1:v2<=y)(h2:v1+v2<=x-y)(hK:0<K)(hx:x0=a/K)(hy:y0=b/K) :
  Sp a b u1 u2 v1 v2 (!o):=by
 obtain ⟨c1,c2,c3,c4⟩:=h.small h0 h1;refine ⟨c3,c4,c2,c1,?_⟩;have ea:=ain a K;have eb:=ain b K;have la:=aht a hK;have lb:=aht b hK;rw [<- hx] at ea;rw [<- hy] at eb;generalize a%K=α at *;generalize b%K=β at *;obtain ⟨e,d,s,l,b1,b2,b3,b4,b5⟩:=h;obtain ⟨z,rfl⟩ : ∃ z,x=y+z:=⟨x-y,af⟩;rw [Nat.add_sub_cancel_left] at h2
 have fin : ∀ r1 r2,a=v2*r1+v1*r2->r1<=a/\(0<v1->r1+r2<=a):=by
  intro r1 r2 ha;have f1:1*r1<=v2*r1:=ahp _ b3;refine ⟨af,fun hv => ?_⟩;have f2:1*r2<=v1*r2:=ahp _ hv;omega
 cases o
 ·simp only [Bool.not_false,if_true,Bool.false_eq_true,if_false] at e d ⊢
  have p1:u1*α<=K*(y+z):=uI af la;have p2:v2*β<=K*y:=uI h1 lb;have p3:(u1+u2)*α<=K*z:=uI af la
  have q1:v1*b=(K*(y+z)+v1*β-u1*α)+u1*a:=by
   have t1:K*(v1*y0)=K*(y+z)+K*(u1*x0):=by rw [<- e.1,ahn]
   have t2:v1*(K*y0)=K*(v1*y0):=by ac_rfl
   have t3:u1*(K*x0)=K*(u1*x0):=by ac_rfl
   rw [<- ea,<- eb,ahn v1,ahn u1];omega
  have q2:u2*a=(K*y+u2*α-v2*β)+v2*b:=by
   have t1:K*(u2*x0)=K*y+K*(v2*y0):=by rw [<- e.2,ahn]
   have t2:v2*(K*y0)=K*(v2*y0):=by ac_rfl
   have t3:u2*(K*x0)=K*(u2*x0):=by ac_rfl
   rw [<- ea,<- eb,ahn v2,ahn u2];omega
  rw [ahn] at p1;rw [ahw] at p3;rw [ahn] at q1;obtain ⟨r1,hr1⟩ : ∃ r,r=K*y+K*z+v1*β-u1*α:=⟨_,rfl⟩;obtain ⟨r2,hr2⟩ : ∃ r,r=K*y+u2*α-v2*β:=⟨_,rfl⟩;rw [<- hr1] at q1;rw [<- hr2] at q2;obtain ⟨k1,k2⟩:=comb q1 q2 (by rw [ahu v1,d,ahu v2]);have k3:=LQ q1 q2 k1 k2;refine ⟨r1,r2,⟨q1,q2⟩,af,by rw [k3,ah6],fin _ _ k2⟩
 ·simp only [Bool.not_true,if_true,Bool.false_eq_true,if_false] at e d ⊢
  have p1:v1*β<=K*(y+z):=uI af lb;have p2:u2*α<=K*y:=uI af la;have p3:(v1+v2)*β<=K*z:=uI af lb
  have q1:u1*a=(K*(y+z)+u1*α-v1*β)+v1*b:=by
   have t1:K*(u1*x0)=K*(y+z)+K*(v1*y0):=by rw [<- e.1,ahn]
   have t2:v1*(K*y0)=K*(v1*y0):=by ac_rfl
   have t3:u1*(K*x0)=K*(u1*x0):=by ac_rfl
   rw [<- ea,<- eb,ahn v1,ahn u1];omega
  have q2:v2*b=(K*y+v2*β-u2*α)+u2*a:=by
   have t1:K*(v2*y0)=K*y+K*(u2*x0):=by rw [<- e.2,ahn]
   have t2:v2*(K*y0)=K*(v2*y0):=by ac_rfl
   have t3:u2*(K*x0)=K*(u2*x0):=by ac_rfl
   rw [<- ea,<- eb,ahn v2,ahn u2];omega
  rw [ahn] at p1;rw [ahw] at p3;rw [ahn] at q1;obtain ⟨r1,hr1⟩ : ∃ r,r=K*y+K*z+u1*α-v1*β:=⟨_,rfl⟩;obtain ⟨r2,hr2⟩ : ∃ r,r=K*y+v2*β-u2*α:=⟨_,rfl⟩;rw [<- hr1] at q1;rw [<- hr2] at q2;obtain ⟨k1,k2⟩:=comb q1 q2 d;have k3:=LQ q1 q2 k1 k2;refine ⟨r1,r2,⟨q1,q2⟩,af,k3,fin _ _ k1⟩
end
end Lw
namespace Lw
open Go
section
variable {cs ds l qs us:List Nat} {D F N S U V b c i k m o r u x:Nat}
theorem EI(S:Nat):S%4294967296<4294967296:=aht _ af
theorem adT(hu:u<4294967296)(hc:c<=1)(hD:nM u (S%4294967296) D)(hF:nM D c F)(hDl:D<=18446744073709551615) :
  F%4294967296+S+c=u+4294967296*(S/4294967296+F/9223372036854775808)/\F/9223372036854775808<=1:=by
 have h:=Sv hu (EI S) hc hD hF hDl;omega
theorem adR{ms:List Nat}{carry bo b':Nat}(h:o+k<ds.length)(hv:lo ds (o+k)+pw o*(lo ms k*x)=lo cs (o+k)+pw (o+k)*(carry+bo))(hS:S=carry+x*dg ms k)(hw:r+S+bo=dg cs (o+k)+4294967296*(S/4294967296+b')) :
  lo (ds.set (o+k) r) (o+k+1)+pw o*(lo ms (k+1)*x)=lo cs (o+k+1)+pw (o+k+1)*(S/4294967296+b'):=by
 have e:pw (o+k)*(r+S+bo)=pw (o+k)*(dg cs (o+k)+4294967296*(S/4294967296+b')):=by rw [hw]
 rw [kC _ h,bV ms,bV cs,dS];generalize S/4294967296+b'=t at *
 have e1:pw o*((lo ms k+pw k*dg ms k)*x)=pw o*(lo ms k*x)+pw (o+k)*(x*dg ms k):=by
  rw [ahw,ahn,pU];have:pw o*(pw k*dg ms k*x)=pw o*pw k*(x*dg ms k):=by ac_rfl
  rw [this]
 have e2:pw (o+k)*(4294967296*t)=4294967296*pw (o+k)*t:=by rw [<- ahA,ahu (pw (o+k))]
 rw [hS] at e;simp only [ahn] at e hv ⊢;omega
theorem XC(hu:u<4294967296)(hc:c<4294967296)(hb:b<=1)(hD:nM u c D)(hF:nM D b F)(hDl:D<=18446744073709551615) :
  (c+b<=u/\F=u-(c+b))\/(u<c+b/\F+(c+b)=18446744073709551616+u):=by
 have h1:=hD af af;have h2:=hF af af
 split at h1 <;> split at h2 <;> omega
theorem XB(h:o+m<ds.length)(hv:lo ds (o+m)+pw o*(V*x)=lo cs (o+m)+pw (o+m)*(c+b))(hu:u=dg cs (o+m))(hr:r=u-(c+b))(hcb:c+b<=u)(hs:lo ds o=lo cs o)(hU:lo cs (o+m+1)=lo cs o+pw o*U)(hp:0<V)(hx:U/V<=x) :
  x=U/V/\lo (ds.set (o+m) r) (o+m+1)+pw o*(V*(U/V))=lo cs (o+m+1):=by
 have e1:lo (ds.set (o+m) r) (o+m+1)+pw o*(V*x)=lo cs (o+m+1):=by
  rw [kC _ h,bV cs,<- hu];have:pw (o+m)*u=pw (o+m)*r+pw (o+m)*(c+b):=by rw [<- ahn];congr 1;omega
  omega
 have e2:lo cs o<=lo (ds.set (o+m) r) (o+m+1):=by
  rw [<- hs,kC _ h]
  have : ∀ k,lo ds o<=lo ds (o+k):=by
   intro k
   induction k with
   | zero=>exact ahj _
   | succ k ih=>rw [show o+(k+1)=o+k+1 from rfl,bV];omega
  have:=this m;omega
 have e3:pw o*(V*x)<=pw o*U:=af;have e4:V*x<=U:=Nat.le_of_mul_le_mul_left e3 (iV o);have e5:x<=U/V:=by rw [ajb hp,ahu];exact e4
 have e6:x=U/V:=Nat.le_antisymm e5 hx;exact ⟨e6,by rw [<- e6];exact e1⟩
theorem ZW(hw:bF l)(m:Nat) : ∃ t,lo l (o+m)=lo l o+pw o*t/\t<pw m:=by
 refine ⟨lo (l.drop o) m,?_,iE (Jw hw o) m⟩
 induction m with
 | zero=>simp [fM]
 | succ m ih=>rw [show o+(m+1)=o+m+1 from rfl,bV,bV,wH,ih,pU,ahn,ahA];omega
theorem XA{es:List Nat}(h:o+m<es.length)(hv:lo ds (o+m)+pw o*(V*x)=lo cs (o+m)+pw (o+m)*(c+b))(hu:u=dg cs (o+m))(ku:u<4294967296)(hc:c<4294967296)(hb:b<=1)(hF:F+(c+b)=18446744073709551616+u)(hcb:u<c+b)(hs:lo ds o=lo cs o)(hU:lo cs (o+m+1)=lo cs o+pw o*U)(hp:0<V)(hx:x<=U/V+1)(hwd:bF ds)(hwe:bF es)(hr:r<4294967296)(hg:lo es (o+m)+pw (o+m)*r=lo ds (o+m)+pw o*(V*1)) :
  x=U/V+1/\lo (es.set (o+m) ((F%4294967296+r)%4294967296)) (o+m+1)+pw o*(V*(U/V))=lo cs (o+m+1):=by
 have hlo:=bV cs (o+m);rw [<- hu,hU] at hlo
 have hx1:x=U/V+1:=by
  refine Nat.le_antisymm hx ?_;refine Nat.lt_of_not_le fun hle => ?_;rw [ajb hp,ahu] at hle;obtain ⟨t,ht,htl⟩:=ZW (o:=o) hwd m;have h1:pw (o+m)*(u+1)<=pw (o+m)*(c+b):=ahz _ hcb;have h2:pw o*(V*x)<=pw o*U:=ahz _ hle;have h3:pw o*(t+1)<=pw o*pw m:=ahz _ htl;rw [<- pU] at h3;rw [ahn,ahJ] at h1 h3;have:=iV o;omega
 have hQ:V*(U/V)<=U:=Nat.mul_div_le U V;refine ⟨hx1,?_⟩;rw [hx1,ahn V,ahn (pw o)] at hv;generalize U/V=Q at *;have h2:pw o*(V*Q)<=pw o*U:=ahz _ hQ;have hE:=iE hwe (o+m)
 have hr2:c+b<=u+r:=by
  refine Nat.le_of_not_lt fun hlt => ?_;have h1:pw (o+m)*(u+r+1)<=pw (o+m)*(c+b):=ahz _ hlt;rw [ahn,ahn,ahJ] at h1;omega
 have hm:(F%4294967296+r)%4294967296+(c+b)=u+r:=af;rw [kC _ h];generalize (F%4294967296+r)%4294967296=s at *;have h5:pw (o+m)*s+pw (o+m)*(c+b)=pw (o+m)*u+pw (o+m)*r:=by rw [<- ahn,hm,ahn]
 omega
theorem yA(h : ∀ j,k<=j->dg l j=0):val l=lo l k:=by
 rcases Nat.le_total l.length k with h1 | h1
 ·rw [di h1]
 ·obtain ⟨d,hd⟩:=Nat.exists_eq_add_of_le h1
  have : ∀ d,lo l (k+d)=lo l k:=by
   intro d
   induction d with
   | zero=>rfl
   | succ d ih=>rw [show k+(d+1)=k+d+1 from rfl,bV,ih,h (k+d) af];simp
  rw [<- this d,<- hd,di (ahj _)]
theorem yE(h:val l<pw k) : ∀ j,k<=j->dg l j=0:=by
 intro j hj
 have h1:lo l (j+1)<=val l:=by
  have:=vw l (j+1);omega
 rw [bV] at h1;have h2:pw k<=pw j:=dY hj;rcases ahE (dg l j) with h0 | h0
 ·exact h0
 ·have:=ahz (pw j) h0
  omega
theorem uy(h:i<=l.length):val l=lo l i+pw i*val (l.drop i):=by
 have:=vw l i;grind
structure Ks(N V m:Nat)(us qs:List Nat)(j:Nat):Prop where
 sum:val us+V*(pw j*val (qs.drop j))=N
 rest:val (us.drop j)<V
theorem Ks.start{n j:Nat}(hv:val us=N)(hj:j<=us.length)(hN:N<V*pw j):Ks N V m us (List.replicate n 0) j:=by
 refine ⟨?_,?_⟩
 ·rw [List.drop_replicate,Jh];simpa using hv
 ·have h1:=uy hj
  refine Nat.lt_of_not_le fun h => ?_;have:=ahz (pw j) h;grind
theorem Ks.part(h:Ks N V m us qs (i+1))(hw:bF us)(hi:i<us.length)(hV:V<pw m) :
  ∃ U,val ((us.drop i).take (m+1))=U/\val (us.drop i)=U/\U<4294967296*V/\lo us (i+m+1)=lo us i+pw i*U/\val us=lo us (i+m+1):=by
 have h1:=vk us hi;have h2:=dV hw i;have h3:=h.rest;have hU:val (us.drop i)<4294967296*V:=af;have hp:val (us.drop i)<pw (m+1):=by rw [dS];omega
 have hz:val us<pw (i+m+1):=by
  rw [uy (ahN hi),Nat.add_assoc,pU i];have h4:=iE hw i;have h5:=ahz (pw i) hp;rw [Nat.mul_succ] at h5;omega
 have hl:=yA (yE hz);refine ⟨_,yA (yE hp) ▸ rfl,rfl,hU,?_,hl⟩;rw [<- hl];exact uy (ahN hi)
theorem Ks.next(h:Ks N V m us qs (i+1))(hi:i<us.length)(hq:i<qs.length)(hdl:ds.length=us.length)(hU:val (us.drop i)=U)(hp:0<V)(hz:val us<pw (i+m+1))(hval:val us=lo us (i+m+1))(hsame : ∀ j,j<i\/i+m+1<=j->dg ds j=dg us j)(hd:lo ds (i+m+1)+pw i*(V*(U/V))=lo us (i+m+1)):Ks N V m ds (qs.set i (U/V)) i:=by
 have h1:val ds=lo ds (i+m+1):=yA fun j hj=>by rw [hsame j (.inr hj)];exact yE hz j hj
 rw [<- h1,<- hval] at hd;refine ⟨?_,?_⟩
 ·have h2:=h.sum
  rw [vk (qs.set i (U/V)) (k:=i) (by rw [ahv];exact hq),iJ _ hq,if_pos rfl,EY _ af];rw [<- hd,dS] at h2;generalize val (qs.drop (i+1))=R at *;generalize U/V=Q at *;rw [<- h2]
  have e1:V*(pw i*(Q+4294967296*R))=pw i*(V*Q)+V*(4294967296*pw i*R):=by
   rw [ahn,ahn];have a1:V*(pw i*Q)=pw i*(V*Q):=by ac_rfl
   have a2:V*(pw i*(4294967296*R))=V*(4294967296*pw i*R):=by
    rw [<- ahA (pw i),ahu (pw i)]
   omega
  omega
 ·have h2:=uy (l:=ds) (i:=i) af
  have h3:=uy (ahN hi);have h4:lo ds i=lo us i:=Aj i fun j hj=>hsame j (.inl hj);rw [hU] at h3;have h5:pw i*(val (ds.drop i)+V*(U/V))=pw i*U:=by rw [ahn];omega
  have h6:=Nat.eq_of_mul_eq_mul_left (iV i) h5;have h7:=ain U V;have h8:=aht U hp;generalize V*(U/V)=t at *;generalize U%V=s at *;omega
theorem Ks.out(h:Ks N V m us qs 0):val us=N%V/\val qs=N/V:=by
 have h1:=h.sum;have h2:=h.rest;rw [ah5,lG,ah1] at h1;rw [ah5] at h2;subst h1;exact ⟨by rw [ai',aih h2],by rw [aiB _ _ af,ah7 h2,ahC]⟩
end
end Lw
namespace Lw
section
variable {cs ds l xs ys:List Nat} {P R S T b cA cB d f k n r t x y z:Nat}
theorem ael(pg:R*P=4294967296)(hR:0<R)(ht:t<P):(d*P+t)%4294967296+4294967296*(d/R)=d*P+t:=by
 have h1:=ain d R;have h2:=aht d hR;generalize d/R=q at *;generalize d%R=s at *;subst h1;have h3:(s+1)*P<=R*P:=ahp _ h2;rw [ahw,ah1,pg] at h3
 have h4:(R*q+s)*P+t=(s*P+t)+4294967296*q:=by
  grind
 omega
theorem aek{W:Nat}(h:k+W<cs.length)(hv:lo cs (k+W)+pw (k+W)*t=pw W*(lo xs k*P))(hw:r+4294967296*(dg xs k/R)=dg xs k*P+t) :
  lo (cs.set (k+W) r) (k+W+1)+pw (k+W+1)*(dg xs k/R)=pw W*(lo xs (k+1)*P):=by
 rw [kC _ h,bV xs,dS];generalize dg xs k/R=t' at *;have e1:pw (k+W)*(r+4294967296*t')=pw (k+W)*(dg xs k*P+t):=by rw [hw]
 have e2:pw W*((lo xs k+pw k*dg xs k)*P)=pw W*(lo xs k*P)+pw (k+W)*(dg xs k*P):=by
  rw [ahw,ahn,pU];have:pw W*(pw k*dg xs k*P)=pw k*pw W*(dg xs k*P):=by ac_rfl
  omega
 have e3:pw (k+W)*(4294967296*t')=4294967296*pw (k+W)*t':=by rw [<- ahA,ahu (pw (k+W))]
 rw [ahn,ahn] at e1;omega
theorem Xp(pg:R*P=4294967296):P*(d/P+f%P*R)=d-d%P+4294967296*(f%P):=by
 have h1:=ain d P;rw [ahn];have:P*(f%P*R)=R*P*(f%P):=by ac_rfl
 rw [this,pg];omega
theorem Xl(pg:R*P=4294967296)(hP:0<P)(hd:d<4294967296):d/P<R/\d/P+f%P*R<4294967296:=by
 have h1:d/P<R:=by rw [aim hP];omega
 refine ⟨h1,?_⟩;have h2:=aht f hP;have h3:(f%P+1)*R<=P*R:=ahp _ h2;grind
theorem Xo(h:k<cs.length)(pg:R*P=4294967296)(hv:P*lo cs k+z=lo ds k+pw k*(dg ds k%P))(hr:r=dg ds k/P+dg ds (k+1)%P*R) :
  P*lo (cs.set k r) (k+1)+z=lo ds (k+1)+pw (k+1)*(dg ds (k+1)%P):=by
 have h1:=Xp (d:=dg ds k) (f:=dg ds (k+1)) pg;rw [<- hr] at h1;rw [kC _ h,bV,dS,ahn];have h2:P*(pw k*r)=pw k*(P*r):=by ac_rfl
 have h3:=Nat.mod_le (dg ds k) P
 have h4:pw k*(dg ds k-dg ds k%P+4294967296*(dg ds (k+1)%P))+pw k*(dg ds k%P)=pw k*dg ds k+4294967296*pw k*(dg ds (k+1)%P):=by
  rw [<- ahn];have:pw k*(dg ds k-dg ds k%P+4294967296*(dg ds (k+1)%P)+dg ds k%P)=pw k*(dg ds k+4294967296*(dg ds (k+1)%P)):=by congr 1;omega
  rw [this,ahn,<- ahA,ahu (pw k) 4294967296]
 rw [h2,h1];omega
theorem Xn(hP:0<P)(hl:cs.length=ds.length)(hz:z<P)(hv:P*lo cs ds.length+z=lo ds ds.length+pw ds.length*(dg ds ds.length%P)):val cs=val ds/P:=by
 rw [nP (ahj _),di (ahj _),di af,Nat.zero_mod,Nat.mul_zero,ahF] at hv;rw [<- hv,Nat.mul_add_div hP,ah7 hz,ahF]
theorem aeo(hw:bF l)(k:Nat):val (l.drop k)=val l/pw k:=by
 rcases Nat.le_total l.length k with h | h
 ·rw [aiA h,Dj]
  have h1:=dQ hw;have h2:=dY h;rw [ah7 af]
 ·rw [uy h,aiB _ _ (iV k),ah7 (iE hw k),ahC]
theorem ZR(hw:bF l)(hn:val l<pw (n+3))(pg:R*P=4294967296)(hR:0<R) :
  (dg l (n+1)+4294967296*dg l (n+2))*P+dg l n/R=val l/(pw n*R):=by
 have h1:=yA (yE hn);have e1:=bV l (n+2);have e2:=bV l (n+1);have e3:=bV l n;have p2:pw (n+2)=4294967296*(4294967296*pw n):=by rw [dS,dS]
 rw [dS] at e2;rw [p2] at e1
 have e:val l=lo l n+pw n*(dg l n+R*(P*(dg l (n+1)+4294967296*dg l (n+2)))):=by
  rw [h1,show n+3=n+2+1 from rfl,e1,show n+2=n+1+1 from rfl,e2,e3,<- ahA R,pg];generalize dg l (n+1+1)=a;generalize dg l (n+1)=b;simp only [ahn];have a1:pw n*(4294967296*(4294967296*a))=4294967296*(4294967296*pw n)*a:=by ac_rfl
  have a2:pw n*(4294967296*b)=4294967296*pw n*b:=by ac_rfl
  omega
 rw [<- aiM,e,aiB _ _ (iV n),ah7 (iE hw n),ahC,aiB _ _ hR,ahu P];omega
theorem ad5{a b:List Nat}(ha:bF a)(hab:val b<=val a)(hal:a.length=k+1)(hb:val b<pw (k+1)):dg b k<=dg a k:=by
 have h1:=yA (yE hb);have h2:lo a (k+1)=val a:=di af;rw [bV] at h1 h2;have h3:=iE ha k;refine Nat.le_of_not_lt fun h => ?_;have:=ahz (pw k) h;grind
theorem W9{F D:Nat}(hb:b<=1)(hD:nM (S%4294967296) (T%4294967296) D)(hF:nM D b F)(hDl:D<=18446744073709551615) :
  F%4294967296+T+b+4294967296*(S/4294967296)=S+4294967296*(T/4294967296+F/9223372036854775808)/\F/9223372036854775808<=1:=by
 have h:=Sv (EI S) (EI T) hb hD hF hDl;omega
theorem WZ{b':Nat}(h:k<cs.length)(hv:lo cs k+y*lo ys k+pw k*cA=x*lo xs k+pw k*(cB+b))(hS:S=cA+x*dg xs k)(hT:T=cB+y*dg ys k)(hw:r+T+b+4294967296*(S/4294967296)=S+4294967296*(T/4294967296+b')) :
  lo (cs.set k r) (k+1)+y*lo ys (k+1)+pw (k+1)*(S/4294967296)=x*lo xs (k+1)+pw (k+1)*(T/4294967296+b'):=by
 have e:pw k*(r+T+b+4294967296*(S/4294967296))=pw k*(S+4294967296*(T/4294967296+b')):=by rw [hw]
 rw [kC _ h,bV ys,bV xs,dS];generalize S/4294967296=s at *;generalize T/4294967296+b'=t at *;subst hS hT;have a1:pw k*(4294967296*s)=4294967296*pw k*s:=by rw [<- ahA,ahu (pw k)]
 have a2:pw k*(4294967296*t)=4294967296*pw k*t:=by rw [<- ahA,ahu (pw k)]
 have a3:y*(pw k*dg ys k)=pw k*(y*dg ys k):=by ac_rfl
 have a4:x*(pw k*dg xs k)=pw k*(x*dg xs k):=by ac_rfl
 simp only [ahn] at e hv ⊢;omega
theorem WY(hw:bF cs)(hl:cs.length=n)(ha:xs.length<=n)(hb:ys.length<=n)(hv:lo cs n+y*lo ys n+pw n*cA=x*lo xs n+pw n*(cB+b))(hr:x*val xs=r+y*val ys)(hrn:r<pw n):val cs=r:=by
 rw [di af,di ha,di hb,hr] at hv;have h1:val cs+pw n*cA=r+pw n*(cB+b):=af;have h2:=dQ hw;rw [hl] at h2;have h3:=congrArg (· % pw n) h1;simp only [ai'] at h3;rw [aih h2,aih hrn] at h3;exact h3
end
end Lw
