/- Part of a proof, said shortly. -/
import Derived.Lib.ItoaNum
import Derived.Deep.RegionWith
import Derived.Deep.DrawnRows
import Derived.Lib.TrailingZeros
import Derived.Deep.RegionHeld3
import Derived.Deep.LoopGhost
import Derived.Test.YtbihljnjaondcaaGreatDoorAlz
import Derived.Test.YtbihljnjaondcaaGreatDoorC3
import Derived.Test.YtbihljnjaondcaaGreatDoorC2
import Derived.Test.YtbihljnjaondcaaGreatDoorC1
import Derived.Test.YtbihljnjaondcaaGreatDoorC5
import Derived.Test.YtbihljnjaondcaaGreatDoorC18
import Derived.Test.YtbihljnjaondcaaGreatDoorC16
import Derived.Test.YtbihljnjaondcaaGreatDoorC4
import Derived.Test.YtbihljnjaondcaaGreatDoorC17
import Derived.Test.YtbihljnjaondcaaGreatDoorS7
import Derived.Test.YtbihljnjaondcaaGreatDoorC9
import Derived.Test.YtbihljnjaondcaaGreatDoorC8
import Derived.Test.YtbihljnjaondcaaGreatDoorC7
import Derived.Test.YtbihljnjaondcaaGreatDoorC20
import Derived.Test.YtbihljnjaondcaaGreatDoorS5
import Derived.Test.YtbihljnjaondcaaGreatDoorS25
import Derived.Test.YtbihljnjaondcaaGreatDoorS33
import Derived.Test.YtbihljnjaondcaaGreatDoorS18
import Derived.Test.YtbihljnjaondcaaGreatDoorC14
import Derived.Test.YtbihljnjaondcaaGreatDoorC13
import Derived.Test.YtbihljnjaondcaaGreatDoorC12
import Derived.Test.YtbihljnjaondcaaGreatDoorC11
import Derived.Test.YtbihljnjaondcaaGreatDoorC10
import Derived.Test.YtbihljnjaondcaaGreatDoorC6
import Derived.Test.YtbihljnjaondcaaGreatDoorC19
import Derived.Test.YtbihljnjaondcaaGreatDoorC15
import Derived.Test.YtbihljnjaondcaaGreatDoorS1
import Derived.Test.YtbihljnjaondcaaGreatDoorS9
import Derived.Test.YtbihljnjaondcaaGreatDoorC21
import Derived.Test.YtbihljnjaondcaaGreatDoorS13
import Derived.Test.YtbihljnjaondcaaGreatDoorS16
import Derived.Test.YtbihljnjaondcaaGreatDoorS22
import Derived.Test.YtbihljnjaondcaaGreatDoorS32
import Derived.Test.YtbihljnjaondcaaGreatDoorC22
import Derived.Test.YtbihljnjaondcaaGreatDoorC24
import Derived.Test.YtbihljnjaondcaaGreatDoorC25
import Derived.Test.YtbihljnjaondcaaGreatDoorS12
import Derived.Test.YtbihljnjaondcaaGreatDoorC23
set_option maxRecDepth 100000
open Go.Proofs.YtbihljnjaondcaaGreatDoor (a0p a0q a0r a0s yw bU fO cO PS iy1 PT FX iy4 iy5 iy6 Yo iy8 iy9 aAJ)
set_option linter.unusedVariables false
set_option linter.unusedSimpArgs false
namespace Lw
open Go Go.RowKit
theorem rt_eq {N r:Nat} (h1:r*r≤N) (h2:N < (r+1)*(r+1)):r=rt N:=by
 have h3:=OG N
 have h4:=Zm N
 rcases Nat.lt_trichotomy r (rt N) with h | h | h
 ·have:(r+1)*(r+1)≤rt N*rt N:=Nat.mul_le_mul h h
  omega
 ·exact h
 ·have:(rt N+1)*(rt N+1)≤r*r:=Nat.mul_le_mul h h
  omega
end Lw
namespace Lw
theorem aDH (a:Rat):a.floor=a.num / (a.den:Int):=by
 show Rat.floor a=_
 unfold Rat.floor
 split
 ·rename_i h; rw [h]; simp
 ·rfl
end Lw
namespace Lw
theorem ayK (a:Rat):a.num / (a.den:Int)=a.floor:=(aDH a).symm
end Lw
namespace Lw
open Go Go.RowKit
def Rb (M i R:Nat):Prop:=R*R≤M∧M < (R+2 ^ i)*(R+2 ^ i)
theorem aDR {M nb:Nat} (h:M < 2 ^ nb):Rb M (nb / 2+1) 0:=by
 refine ⟨by simp,?_⟩
 rw [Nat.zero_add,← Nat.pow_add]
 exact Nat.lt_of_lt_of_le h (Nat.pow_le_pow_right (by omega) (by omega))
theorem aDS {M i R X:Nat} (h:Rb M (i+1) R) (hX:X=R+2 ^ i) (hl:X*X≤M):Rb M i X:=by
 obtain ⟨h1,h2⟩:=h
 refine ⟨hl,?_⟩
 have e:X+2 ^ i=R+2 ^ (i+1):=by rw [hX,Nat.pow_succ]; omega
 rw [e]; exact h2
theorem aDQ {M i R X:Nat} (h:Rb M (i+1) R) (hX:X=R+2 ^ i) (hl:M < X*X):Rb M i R:=⟨h.1,by rw [← hX]; exact hl⟩
theorem aDO {M R:Nat} (h:Rb M 0 R):R=rt M:=rt_eq h.1 (by have:=h.2; simpa using this)
theorem aDP {M i R:Nat} (h:Rb M i R):R≤M:=by
 rcases Nat.eq_zero_or_pos R with h0 | h0
 ·omega
 ·have h1:=h.1
  have:=Nat.le_mul_of_pos_left R h0
  omega
theorem axU {i nb n:Nat} (h:i≤nb / 2) (hn:nb≤32*n):i / 32≤n:=by omega
end Lw
namespace Go.Proofs.YtbihljnjaondcaaGreatDoor
open Go Go.RowKit Lw
def RQ (z:Int) (er:Value) (w:World) (e:Ending) (w':World):Prop :=
 ∃ (A:Option Addr) (c:Nat),e = .returned (.tuple #[.agg #[.bool (sg z),.slice A (mg z).length c],er])∧(mg z).length≤c∧Rd w' w'.heap.size A (mg z)∧Below w.heap.size w w'
theorem aEe (A A':Option Addr) (ns ms:List Nat) (n m c c' B B' N:Nat) {w:World} (h:Rd w B A ns) (h':Rd w B' A' ms) (hB:B≤w.heap.size) (hB':B'≤w.heap.size) (hn:ns.length=n) (hm:ms.length=m) (hl:n≤16777216) (hl':m≤16777216) (hN:val ns+val ms=N) :
  Calls Tryz.prog 162 #[.slice A n c,.slice A' m c'] w (Xi w N):=by
 subst hN; exact (ajc A A' ns ms n m c c' B B' w h h' hB hB' hn hm hl hl').mono fun e w' hh=>ac3 hh
theorem aEh (A A':Option Addr) (ns ms:List Nat) (n m c c' B B' N:Nat) {w:World} (h:Rd w B A ns) (h':Rd w B' A' ms) (hB:B≤w.heap.size) (hB':B'≤w.heap.size) (hn:ns.length=n) (hm:ms.length=m) (hl:n≤16777216) (hl':m≤16777216) (hN:val ns*val ms=N) :
  Calls Tryz.prog 166 #[.slice A n c,.slice A' m c'] w (Xi w N):=by
 subst hN; exact (aqJ A A' ns ms n m c c' B B' w h h' hB hB' hn hm hl hl').mono fun e w' hh=>ac3 hh
set_option maxRecDepth 100000 in
set_option maxHeartbeats 6400000 in
theorem aEf (s:Bool) (A:Option Addr) (ns:List Nat) (n c B:Nat) (w:World) (h:Rd w B A ns) (hB:B≤w.heap.size) (hn:ns.length=n) (hl:n≤10000) (hc:n≤c) (hz:sg (zv s ns)=false) :
  Calls Tryz.prog 144 #[.agg #[.bool s,.slice A n c]] w (RQ ((rt (zv s ns).natAbs:Nat):Int) (.int .i64 0) w):=by
 have hlz:=Cc (s:=s) h.gW
 rw [hn] at hlz
 have hk:=fun W hR hB'=>adv s A ns n c B W hR hB' hn (by omega) hc
 have hk':=fun W hR hB'=>ad8 s A ns n c B W hR hB' hn (by omega)
 rw [hz] at hk'
 generalize zv s ns=z at *
 have Hk:=Lib.hid hk
 have Xg:=Lib.hid hk'
 obtain ⟨n1,hn1⟩ : ∃ n1,n1=(mg z).length:=⟨_,rfl⟩
 have Nl:=Lib.hid hn1.symm
 rw [← hn1] at hlz
 obtain ⟨NB,NS⟩ : ∃ NB,NB=zl (mg z):=⟨_,rfl⟩
 have anj:NB≤32*n1:=by rw [NS,hn1]; exact apr (adw z)
 have HX:Hid (z.natAbs < 2 ^ NB):=Lib.hid (by rw [NS,← vV]; exact aoA (adw z))
 have HNB:=Lib.hid NS.symm
 clear hk hk' hn hz hn1 NS
 go_enter Tryz.func144,Tryz.ntmps144
 go_wp2_with fail
 refine (Xg.out _ ((h.alloc hB _).alloc (by simp; omega) _) (by simp; omega)).mono ?_
 rintro e w1 ⟨rfl,hb1⟩
 obtain ⟨t1,t2,hs1,hb2⟩:=fF hb1
 obtain ⟨c10,c11,f10,f11⟩:=t1.facts
 go_wp2_with fail
 refine (Hk.out _ (h.below (hb2.mono hB)) (by omega)).mono ?_
 rintro e w2 ⟨A1,c1,rfl,hc1,hr1,hb3⟩
 rw [Nl.out] at hc1 ⊢
 have hT2:=t2.next hb3
 have hb4:=fK hb2 hb3 (by omega)
 have hr1':Rd w2 w2.heap.size A1 (mg z):=hr1.more (Nat.le_trans hB hb4.size)
 have hs2:w.heap.size+2≤w2.heap.size:=by have:=hb3.size; omega
 clear hr1 hb1 hb2 hb3 t1 c10 c11 f10 f11
 go_wp2_with fail
 refine (aqE A1 (mg z) n1 c1 _ _ hr1' Nl.out (by omega)).mono ?_
 rintro e w' ⟨rfl,rfl⟩
 rw [HNB.out]
 go_wp2_with fail
 go_loopw [5,6] (fun rv iv wq => ∃ (i:Int) (R nr cr:Nat) (Ar:Option Addr),-1≤i∧i≤(NB:Int) / 2∧iv = .int .i64 i∧rv = .slice Ar nr cr∧Hid ((bg R).length=nr)∧nr≤cr∧nr≤n1∧Rd wq wq.heap.size Ar (bg R)∧Hid (Rb z.natAbs (i+1).toNat R)∧Below w2.heap.size w2 wq) (fun _ v _=>(intOf v+1).toNat)
 case atStart=>exact ⟨(NB:Int) / 2,0,0,0,none,by omega,Int.le_refl _,rfl,rfl,Lib.hid rfl,Nat.le_refl _,Nat.zero_le _,Rd.nil_ _ _ _,Lib.hid (by rw [show ((NB:Int) / 2+1).toNat=NB / 2+1 by omega]; exact aDR HX.out),Below.refl _ _⟩
 case round =>
  obtain ⟨i,R,nr,cr,Ar,hi,hiN,rfl,rfl,hlr,hcr,hnr,hrr,hrb,hbq⟩:=hrel
  have T2:=hT2.next hbq
  obtain ⟨c20,c21,f20,f21⟩:=T2.facts
  have hbw:=fK hb4 hbq (by omega)
  by_cases hi0:i < 0
  ·have HV:Hid (R=rt z.natAbs):=Lib.hid (aDO (by have:=hrb.out; rwa [show (i+1).toNat=0 by omega] at this))
   clear hrb
   go_wp2_with fail
   refine (acs false Ar (bg R) nr cr _ ((rt z.natAbs:Nat):Int) _ hrr (Nat.le_refl _) hlr.out (by omega) (by rw [fA,HV.out]; rfl)).mono ?_
   rintro e w5 ⟨A5,c5,rfl,hc5,yj,hb5⟩
   have V2:=T2.next hb5
   clear c20 c21 f20 f21
   obtain ⟨d0,d1,g0,g1⟩:=V2.facts
   go_wp2_with fail
   refine bodyPost_ret (v := .tuple #[.agg #[.bool (sg ((rt z.natAbs:Nat):Int)),.slice A5 (mg ((rt z.natAbs:Nat):Int)).length c5],.int .i64 0]) (by simp [results,Tryz.results144,go_sem,d0,d1]) rfl ?_
   obtain ⟨A6,c6,he,h1,h2,h3⟩:=zX V2 yj (Nat.le_refl _) hc5 (fK hbw hb5 (Nat.le_refl _)) (by omega)
   injection he with he
   injection he with he
   simp at he
   obtain ⟨rfl,rfl⟩:=he
   exact ⟨A5,c5,rfl,h1,h2,h3⟩
  ·obtain ⟨j,rfl⟩:=Int.eq_ofNat_of_zero_le (show 0≤i by omega)
   have HRB:Hid (Rb z.natAbs (j+1) R):=Lib.hid (by have:=hrb.out; rwa [show ((j:Int)+1).toNat=j+1 by omega] at this)
   have hjn:j / 32≤n1:=axU (nb:=NB) (by omega) anj
   have Uk:=Lib.hid (fun (hh:j / 32 < (List.replicate (j / 32+1) 0).length)=>asB hh)
   obtain ⟨K,hK⟩ : ∃ K,K=j / 32:=⟨_,rfl⟩
   obtain ⟨t,ht⟩ : ∃ t,t=j % 32:=⟨_,rfl⟩
   have e1:(j:Int) / 32=(K:Int):=by omega
   have e2:(j:Int) % 32=(t:Int):=by omega
   have an1:t≤31:=by omega
   obtain ⟨P,hP⟩ : ∃ P,P=2 ^ t:=⟨_,rfl⟩
   have hP2:(2:Int) ^ t=(P:Int):=by rw [hP]; simp
   have hPl:P < 4294967296:=by
    have:2 ^ t≤2 ^ 31:=Nat.pow_le_pow_right (by omega) an1
    omega
   have hPw:IntKind.u32.wrap (P:Int)=(P:Int):=IntWalk.u32_in _ (by omega)
   have HBV:Hid (val ((List.replicate (K+1) 0).set K P)=2 ^ j):=Lib.hid (by
    have h9:=Uk.out (by simp)
    rw [Uw,Nat.zero_add,ZN,Nat.zero_add,← hK,← ht,← hP] at h9
    exact h9)
   rw [← hK] at hjn
   have HWD:Hid (fQ ((List.replicate (K+1) 0).set K P)):=Lib.hid (yP (Fv _) _ hPl)
   clear hrb hK ht hP Uk
   go_wp2_with (at_make; refine Eo _ rfl _ _ _ rfl 99 aYN Az _ _ _ _ (K+1) rfl rfl (by omega) (by omega) (by omega) ?_; intro w3 hblk hbel hsz; have hfr:=hblk.frozen K; have hcc:=hblk.cell (i:=K) (by simp))
   obtain ⟨X,hX⟩ : ∃ X,X=R+2 ^ j:=⟨_,rfl⟩
   have hXl:(bg X).length≤n1+(K+1)+1:=by
    have h1:R < pw n1:=Nat.lt_of_lt_of_le (Dz (Nat.le_of_eq hlr.out)) (uX hnr)
    have h2:2 ^ j < pw (K+1):=by rw [← HBV.out]; have h9:=sW HWD.out; rwa [List.length_set,List.length_replicate] at h9
    have h3:=SB (x:=(R:Int)) (y:=((2 ^ j:Nat):Int)) (k:=n1) (k':=K+1) (by rw [Int.natAbs_natCast]; exact h1) (by rw [Int.natAbs_natCast]; exact h2)
    rw [← Int.natCast_add,Int.natAbs_natCast,← hX] at h3
    exact xQ h3
   have HPX:Hid (val (bg R)+val ((List.replicate (K+1) 0).set K P)=X):=Lib.hid (by rw [fA,HBV.out,hX])
   have Pq:=Lib.hid hX
   have hlb:((List.replicate (K+1) 0).set K P).length=K+1:=by simp
   have HLB:=Lib.hid hlb
   have hB4:=(hblk.Gi (i:=K) P (by simp)).rd HWD.out
   have hR4:=(hrr.below hbel).setCell (p:=⟨wr.heap.size,K,none⟩) (Nat.le_refl _) (.int .u32 (P:Int))
   have I7:=hbel.setCell (p:=⟨wr.heap.size,K,none⟩) (Nat.le_refl _) (.int .u32 (P:Int))
   have hs4:=I7.size
   clear hX hlb hblk hbel hfr hcc hsz c20 c21 f20 f21
   refine (aEe Ar _ (bg R) ((List.replicate (K+1) 0).set K P) nr (K+1) cr (K+1) _ _ X hR4 hB4 hs4 (Nat.le_refl _) hlr.out HLB.out (by omega) (by omega) HPX.out).mono ?_
   rintro e w5 ⟨g5,n5,c5,rfl,UJ,hc5,hg5,hblk5,hb5⟩
   have azK:n5≤n1+(K+1)+1:=by rw [← UJ.out]; exact hXl
   have acE:=fK I7 hb5 (Nat.le_refl _)
   have yj:=hblk5.rd (mJ _)
   clear hR4 hB4 hblk5 hb5 hXl
   go_wp2_with fail
   refine (aEh _ _ (bg X) (bg X) n5 n5 c5 c5 _ _ (X*X) yj yj (Nat.le_refl _) (Nat.le_refl _) UJ.out UJ.out (by omega) (by omega) (by rw [fA])).mono ?_
   rintro e w6 ⟨g6,n6,c6,rfl,PK,hc6,wC,hblk6,hb6⟩
   have vk:=Lib.hid (yj.next hb6 (Nat.le_refl _))
   have azT:=hb6.size
   have BO:=fK acE hb6 (Nat.le_refl _)
   have HBW:=Lib.hid (fK hbq BO (Nat.le_refl _))
   have HRO:=Lib.hid ((hrr.next BO (Nat.le_refl _)).more BO.size)
   have hmz:=hr1'.next (fK hbq BO (Nat.le_refl _)) (Nat.le_refl _)
   have aOd:n6≤16777216:=by
    rw [← PK.out]
    have h1:X < pw (n1+(K+1)+1):=Nat.lt_of_lt_of_le (Dz (Nat.le_of_eq UJ.out)) (uX azK)
    have h3:=lt_mul (x:=(X:Int)) (y:=(X:Int)) (k:=n1+(K+1)+1) (k':=n1+(K+1)+1) (by rw [Int.natAbs_natCast]; exact h1) (by rw [Int.natAbs_natCast]; exact h1)
    rw [← Int.natCast_mul,Int.natAbs_natCast] at h3
    have:=xQ h3
    omega
   have I9:=hblk6.rd (mJ _)
   clear yj hblk6 hb6 acE I7
   by_cases hle:X*X≤z.natAbs
   ·obtain ⟨cv,HC,hcv⟩ : ∃ cv:Int,Hid (yB (X*X) z.natAbs=cv)∧cv≤0:=by
     rcases Nat.lt_or_ge (X*X) z.natAbs with h1 | h1
     ·exact ⟨-1,Lib.hid (Py h1),by omega⟩
     ·exact ⟨0,Lib.hid (Ur (by omega)),by omega⟩
    have HY:=Lib.hid (aDS HRB.out Pq.out hle)
    have azL:n5≤n1:=by rw [← UJ.out,← Nl.out]; exact XZ (aDP HY.out)
    clear hle
    go_wp2_with fail
    refine (OC _ A1 (bg (X*X)) (mg z) n6 n1 c6 c1 _ _ _ I9 hmz PK.out Nl.out (by omega) (by omega)).mono ?_
    rintro e w' ⟨rfl,rfl⟩
    rw [fA,vV,HC.out]
    go_wp2_with fail
    go_roundw
    case rel=>exact ⟨(j:Int) - 1,X,n5,c5,_,by omega,by omega,by go_num,rfl,UJ,hc5,azL,vk.out.more azT,Lib.hid (by rw [show ((j:Int) - 1+1).toNat=j by omega]; exact HY.out),HBW.out⟩
    case measure=>simp [intOf]
   ·have HC:=Lib.hid (Rt (a:=X*X) (b:=z.natAbs) (by omega))
    have HY:=Lib.hid (aDQ HRB.out Pq.out (by omega))
    clear hle
    go_wp2_with fail
    refine (OC _ A1 (bg (X*X)) (mg z) n6 n1 c6 c1 _ _ _ I9 hmz PK.out Nl.out (by omega) (by omega)).mono ?_
    rintro e w' ⟨rfl,rfl⟩
    rw [fA,vV,HC.out]
    go_wp2_with fail
    go_roundw
    case rel=>exact ⟨(j:Int) - 1,R,nr,cr,_,by omega,by omega,by go_num,rfl,hlr,hcr,hnr,HRO.out,Lib.hid (by rw [show ((j:Int) - 1+1).toNat=j by omega]; exact HY.out),HBW.out⟩
    case measure=>simp [intOf]
end Go.Proofs.YtbihljnjaondcaaGreatDoor
namespace Go.Proofs.YtbihljnjaondcaaGreatDoor
open Go Go.RowKit Lw
section
variable {W0 w:World} {bs:List Bx} {L:List En} {ts:List Bt} {M:List Qn} {s s':Bool} {A A' B B':Option Addr} {n c n' c' m d m' d' k k':Nat} {q r:Rat} {x y:Int} {b b':Bool}
set_option maxRecDepth 100000 in
set_option maxHeartbeats 2400000 in
theorem aEm (HE:bG W0 w bs L ts M) (h:⟨.agg #[.bool s,.slice A n c,.slice A' n' c'],q,k,b⟩∈M) (hk:k≤2000) :
  Calls Tryz.prog 24 #[.agg #[.bool s,.slice A n c,.slice A' n' c']] w (uS W0 bs L ts M q.floor (k+3)):=by
 refine Calls.mono (R:=(uS w [] L [] M q.floor (k+3))) ?_ fun _ _ hh=>uS.of HE hh
 replace HE:=(HE.here.gQ (.bool s) (.slice A n c) (.slice A' n' c')).fF (.bool false) (.slice none 0 0)
 simp only [World.size_alloc] at HE
 have HF:=Lib.hid (ayK q)
 have HD:=Lib.hid (tJ q)
 obtain ⟨q0,q1,q2,q3⟩:=HE.c2 (.head _)
 obtain ⟨q4,q5,q6,q7,q8,q9⟩:=HE.c3 (.head _)
 go_enter Tryz.func24,Tryz.ntmps24
 go_wp2_with fail
 refine (KX HE h (by omega)).mono ?_
 clear HE
 rintro e w1 ⟨s1,D1,m1,d1,s2,D2,m2,d2,rfl,HE⟩
 replace HE:=(HE.fF (.bool s1) (.slice D1 m1 d1)).fF (.bool s2) (.slice D2 m2 d2)
 simp only [World.size_alloc] at HE
 clear q0 q1 q2 q3 q4 q5 q6 q7 q8 q9
 obtain ⟨q10,q11,q12,q13⟩:=HE.c2 (.head _)
 obtain ⟨jC,jD,q16,jE⟩:=HE.c2 (.tail _ (.head _))
 obtain ⟨kL,kM,lH,lI⟩:=HE.c2 (.tail _ (.tail _ (.head _)))
 obtain ⟨q22,q23,q24,mG,mX,mY⟩:=HE.c3 (.head _)
 go_wp2_with fail
 refine (Vj HE (.head _) (.tail _ (.head _)) (by omega) HD.out).mono ?_
 rw [HF.out]
 clear HE
 rintro e wx ⟨sx,sy,Ax,Ay,lx,cx,ly,cy,rfl,HE⟩
 replace HE:=(HE.fF (.bool sx) (.slice Ax lx cx)).fF (.bool sy) (.slice Ay ly cy)
 simp only [World.size_alloc] at HE
 clear q10 q11 q12 q13 jC jD q16 jE kL kM lH lI q22 q23 q24 mG mX mY
 obtain ⟨nV,nX,q30,nY⟩:=HE.c2 (.tail _ (.head _))
 obtain ⟨q32,og,pg,q35⟩:=HE.c2 (.tail _ (.tail _ (.tail _ (.tail _ (.head _)))))
 go_wp2_with fail
 refine bodyPost_ret (v := .agg #[.bool sx,.slice Ax lx cx]) (by simp [results,Tryz.results24,go_sem,q32,og]) rfl ?_
 have HK:=HE.done2 (.tail _ (.tail _ (.tail _ (.tail _ (.head _))))) sx (.slice Ax lx cx)
 exact ⟨_,_,_,_,rfl,HK.pick (fun e he=>by rcases List.mem_cons.1 he with rfl | he; exact .head _; exact .tail _ (.tail _ (.tail _ (.tail _ (he))))) (fun _ he=>he)⟩
end
end Go.Proofs.YtbihljnjaondcaaGreatDoor
namespace Go.Proofs.YtbihljnjaondcaaGreatDoor
open Go Go.RowKit Lw
section
variable {W0 w:World} {bs:List Bx} {L:List En} {ts:List Bt} {M:List Qn} {s s':Bool} {A A' B B':Option Addr} {n c n' c' m d m' d' k k':Nat} {q r:Rat} {x y:Int} {b b':Bool}
theorem aEN {v:Value} (HE:bG W0 w bs L ts M) (h:⟨v,x,k,b⟩∈L) (hk:k≤10000) (hx:0≤x) :
  Calls Tryz.prog 144 #[v] w fun e w' => ∃ (s:Bool) (D:Option Addr) (m d:Nat),e = .returned (.tuple #[.agg #[.bool s,.slice D m d],.int .i64 0])∧bG W0 w' bs (⟨.agg #[.bool s,.slice D m d],((rt x.natAbs:Nat):Int),k,true⟩ :: L) ts M:=by
 have H1:=HE.env.ops _ h
 have hz:=aoB H1.lt
 obtain ⟨s,A,n,c,ns,B,e1,h2,h3,h4,h5,h6,e7,h8⟩:=H1
 dsimp only at e1 e7 h5 hz
 subst e1 e7
 refine (aEf s A ns n c B w h2 h3 h4 (by omega) h6 (by unfold sg; simpa using hx)).mono ?_
 rintro e w' ⟨A9,c9,rfl,tN,rE,hb⟩
 exact ⟨_,A9,_,c9,rfl,(HE.next hb).push (SX rE tN hz)⟩
end
end Go.Proofs.YtbihljnjaondcaaGreatDoor
namespace Go.Proofs.YtbihljnjaondcaaGreatDoor
open Go Go.RowKit Lw
section
variable {W0 w:World} {bs:List Bx} {L:List En} {ts:List Bt} {M:List Qn} {s s':Bool} {A A' B B':Option Addr} {n c n' c' m d m' d' k k':Nat} {q r:Rat} {x y:Int} {b b':Bool}
set_option maxRecDepth 100000 in
set_option maxHeartbeats 1600000 in
theorem aEo {z:Int} (HE:bG W0 w bs L ts M) (hz:z < 0∨256 < z) :
  Calls Tryz.prog 18 #[.agg #[.bool s,.slice A n c,.slice A' n' c'],.int .i64 z] w fun e w'=>e = .returned (.tuple #[.agg #[.bool false,.slice none 0 0,.slice none 0 0],.int .i64 3])∧bG W0 w' bs L ts M:=by
 refine Calls.mono (R:=fun e w'=>e = .returned (.tuple #[.agg #[.bool false,.slice none 0 0,.slice none 0 0],.int .i64 3])∧bG w w' [] L [] M) ?_ fun _ _ hh=>⟨hh.1,HE.back hh.2⟩
 replace HE:=(HE.here.gQ (.bool s) (.slice A n c) (.slice A' n' c')).gQ (.bool false) (.slice none 0 0) (.slice none 0 0)
 simp only [World.size_alloc] at HE
 rcases hz with hz | hz
 ·have h1:(z < 0)=True:=eq_true hz
  clear hz
  obtain ⟨q0,q1,q2,q3,q4,q5⟩:=HE.c3 (.head _)
  go_enter Tryz.func18,Tryz.ntmps18
  go_wp2_with fail
  refine bodyPost_ret (v := .tuple #[.agg #[.bool false,.slice none 0 0,.slice none 0 0],.int .i64 3]) (by simp [results,Tryz.results18,go_sem,q0,q1,q2]) rfl ?_
  exact ⟨rfl,HE.bare⟩
 ·have h1:(z < 0)=False:=eq_false (by omega)
  have h2:((256:Int) < z)=True:=eq_true hz
  clear hz
  obtain ⟨q0,q1,q2,q3,q4,q5⟩:=HE.c3 (.head _)
  go_enter Tryz.func18,Tryz.ntmps18
  go_wp2_with fail
  refine bodyPost_ret (v := .tuple #[.agg #[.bool false,.slice none 0 0,.slice none 0 0],.int .i64 3]) (by simp [results,Tryz.results18,go_sem,q0,q1,q2]) rfl ?_
  exact ⟨rfl,HE.bare⟩
end
end Go.Proofs.YtbihljnjaondcaaGreatDoor
namespace Go.Proofs.YtbihljnjaondcaaGreatDoor
open Go Go.RowKit Lw bZ
section
variable {W0 w w':World} {U:List Box} {Ps:List (World→Prop)} {v v':Value} {q r:Rat} {x y:Int} {k k':Nat} {b b':Bool} {f:FuncId} {vs:List Value} {L:List En} {M:List Qn}
theorem aqK (HT:Tz W0) (HB:Tab W0) (HS:St W0 U Ps w) {s1:Bool} {A1:Option Addr} {n1 c1:Nat} {B1:Option Addr} {m1 d1:Nat} {q1:Rat} {k1:Nat} {b1:Bool} (f1:FV (a0p s1 A1 n1 c1 B1 m1 d1) q1 k1 b1 w) (hk:k1≤2000):bY Tryz.prog 24 [(a0p s1 A1 n1 c1 B1 m1 d1)] w (Gp W0 U Ps (q1.floor) (k1+3)) :=
 NP HS (aEm ((St.start HS HT HB).cons f1) (.head _) hk)
theorem Tt (HT:Tz W0) (HB:Tab W0) (HS:St W0 U Ps w) {s1:Bool} {A1:Option Addr} {n1 c1:Nat} {x1:Int} {k1:Nat} {s2:Bool} {A2:Option Addr} {n2 c2:Nat} {x2:Int} {k2:Nat} (f1:FI (.agg #[.bool s1,.slice A1 n1 c1]) x1 k1 w) (f2:FI (.agg #[.bool s2,.slice A2 n2 c2]) x2 k2 w) (hk:k1+k2≤4000) (hy:x2≠0):bY Tryz.prog 101 [.agg #[.bool s1,.slice A1 n1 c1],.agg #[.bool s2,.slice A2 n2 c2]] w (Bo W0 U Ps (Rat.divInt x1 x2) (k1+1+(k2+1)) (.int .i64 0)) :=
 NQ HS (ajd (((St.start HS HT HB).push f2).push f1) (.head _) (.tail _ (.head _)) hk hy)
theorem aEp (HT:Tz W0) (HB:Tab W0) (HS:St W0 U Ps w) {s1:Bool} {A1:Option Addr} {n1 c1:Nat} {B1:Option Addr} {m1 d1:Nat} {z2:Int}  (hz:z2 < 0∨256 < z2):bY Tryz.prog 18 [(a0p s1 A1 n1 c1 B1 m1 d1),.int .i64 z2] w (iP W0 U Ps (.tuple #[yw,.int .i64 3])) :=
 GN HS (aEo (St.start HS HT HB)  hz)
theorem ai' (HT:Tz W0) (HB:Tab W0) (HS:St W0 U Ps w) {s1:Bool} {A1:Option Addr} {n1 c1:Nat} {x1:Int} {k1:Nat} {s2:Bool} {A2:Option Addr} {n2 c2:Nat} {x2:Int} {k2:Nat} (f1:FI (.agg #[.bool s1,.slice A1 n1 c1]) x1 k1 w) (f2:FI (.agg #[.bool s2,.slice A2 n2 c2]) x2 k2 w) (hk:k1≤10000∧k2≤10000):bY Tryz.prog 97 [.agg #[.bool s1,.slice A1 n1 c1],.agg #[.bool s2,.slice A2 n2 c2]] w (Gp W0 U Ps (x1+x2) (k1+k2+1)) :=
 NP HS (aqy (((St.start HS HT HB).push f2).push f1) (.head _) (.tail _ (.head _)) hk)
theorem Tu (HT:Tz W0) (HB:Tab W0) (HS:St W0 U Ps w) {s1:Bool} {A1:Option Addr} {n1 c1:Nat} {x1:Int} {k1:Nat} {s2:Bool} {A2:Option Addr} {n2 c2:Nat} {x2:Int} {k2:Nat} (f1:FI (.agg #[.bool s1,.slice A1 n1 c1]) x1 k1 w) (f2:FI (.agg #[.bool s2,.slice A2 n2 c2]) x2 k2 w) (hk:k1≤10000∧k2≤10000):bY Tryz.prog 100 [.agg #[.bool s1,.slice A1 n1 c1],.agg #[.bool s2,.slice A2 n2 c2]] w (Gp W0 U Ps (x1*x2) (k1+k2+1)) :=
 NP HS (aef (((St.start HS HT HB).push f2).push f1) (.head _) (.tail _ (.head _)) hk)
theorem aeg (HT:Tz W0) (HB:Tab W0) (HS:St W0 U Ps w) {z1:Int}  (h1 : -9223372036854775808≤z1) (h2:z1≤9223372036854775807):bY Tryz.prog 143 [.int .i64 z1] w (Gp W0 U Ps (z1) (2)) :=
 NP HS (Zj (St.start HS HT HB)  h1 h2)
theorem JJ (HT:Tz W0) (HB:Tab W0) (HS:St W0 U Ps w) {s1:Bool} {A1:Option Addr} {n1 c1:Nat} {x1:Int} {k1:Nat} {s2:Bool} {A2:Option Addr} {n2 c2:Nat} {x2:Int} {k2:Nat} (f1:FI (.agg #[.bool s1,.slice A1 n1 c1]) x1 k1 w) (f2:FI (.agg #[.bool s2,.slice A2 n2 c2]) x2 k2 w) (hk:k1+k2≤10000) (hy:x2≠0):bY Tryz.prog 99 [.agg #[.bool s1,.slice A1 n1 c1],.agg #[.bool s2,.slice A2 n2 c2]] w (afA W0 U Ps (x1 / x2) (x1 % x2) (k1+1) (k2) (.int .i64 0)) :=
 am9 HS (Vj (((St.start HS HT HB).push f2).push f1) (.head _) (.tail _ (.head _)) hk hy)
theorem aq2 (HT:Tz W0) (HB:Tab W0) (HS:St W0 U Ps w) {s1:Bool} {A1:Option Addr} {n1 c1:Nat} {x1:Int} {k1:Nat} (f1:FI (.agg #[.bool s1,.slice A1 n1 c1]) x1 k1 w) (hk:k1≤10000) (hx:0≤x1):bY Tryz.prog 144 [.agg #[.bool s1,.slice A1 n1 c1]] w (aaK W0 U Ps (((rt x1.natAbs:Nat):Int)) (k1) (.int .i64 0)) :=
 am7 HS (aEN ((St.start HS HT HB).push f1) (.head _) hk hx)
end
end Go.Proofs.YtbihljnjaondcaaGreatDoor
namespace Go.Proofs.YtbihljnjaondcaaGreatDoor
open Go Go.RowKit Lw bZ
section
variable {W0 w:World} {U:List Box} {Ps:List (World→Prop)}
theorem aFZ {j:Nat} (h:j≤256):(((2 ^ j:Nat):Int)).natAbs < pw 9:=by
 rw [Int.natAbs_natCast]
 exact Nat.lt_of_le_of_lt (Nat.pow_le_pow_right (by decide) h) (by decide +kernel)
theorem FI.asg {v:Value} {j k:Nat} {w:World} (h:FI v (((2 ^ j:Nat):Int)+((2 ^ j:Nat):Int)) k w) (hj:j+1≤256):FI v ((2 ^ (j+1):Nat):Int) 9 w:=by
 have e:(((2 ^ j:Nat):Int)+((2 ^ j:Nat):Int))=((2 ^ (j+1):Nat):Int):=by rw [Nat.pow_succ]; omega
 rw [e] at h
 exact pF.tight h (aFZ hj)
set_option maxRecDepth 100000 in
set_option maxHeartbeats 400000 in
theorem aEn (HT:Tz W0) (HB:Tab W0) (HS:St W0 U Ps w) {m2:Nat} {s1:Bool} {A1:Option Addr} {n1 c1:Nat} {B1:Option Addr} {m1 d1:Nat} {q1:Rat} {k1:Nat} {b1:Bool} (f1:FV (.agg #[.bool s1,.slice A1 n1 c1,.slice B1 m1 d1]) q1 k1 b1 w) (hk:k1≤1000) (hm:m2≤256):bY Tryz.prog 18 [.agg #[.bool s1,.slice A1 n1 c1,.slice B1 m1 d1],.int .i64 (m2:Int)] w (Bo W0 U Ps (Rat.divInt (q1.num*((2 ^ m2:Nat):Int) / (q1.den:Int)) ((2 ^ m2:Nat):Int)) (k1+60) (.int .i64 0)):=by
 have HS:=HS.add (FV.stable _ _ _ _) f1
 clear f1
 refine iL Tryz.func18 rfl Tryz.ntmps18 rfl ?_
 refine JC.seq ?_
 refine JC.region ?_
 refine JL.box (vs:=[.bool s1,.slice A1 n1 c1,.slice B1 m1 d1]) HS rfl rfl rfl rfl (fun g1 w1 HS => ?_)
 refine JL.alloc (vs:=[.bool false,.slice none 0 0,.slice none 0 0]) HS rfl aYs rfl rfl (fun g2 w2 HS => ?_)
 refine JL.val (v := .int .i64 0) rfl rfl rfl (fun a ha=>run_assign (ha.ev rfl)) ?_
 refine JL.next (fun _ _ h=>h) ?_
 refine JC.seq ?_
 refine JC.seq ?_
 refine JC.region ?_
 refine JL.val (v := .int .i64 (m2:Int)) rfl rfl rfl (fun a ha=>run_move (ha.ev rfl)) ?_
 refine JL.val (v := .bool false) rfl rfl rfl (fun a ha=>qX (ha.ev rfl) (ha.ev rfl) (decide_eq_false (by omega))) ?_
 refine JL.val (v := .bool false) rfl rfl rfl (fun a ha=>run_move (ha.ev rfl)) ?_
 refine JL.ZO (v := .int .i64 (m2:Int)) rfl rfl rfl rfl rfl rfl rfl (fun a ha=>run_move (ha.ev rfl)) ?_
 refine JL.ZO (v := .bool false) rfl rfl rfl rfl rfl rfl rfl (fun a ha=>wH (ha.ev rfl) (ha.ev rfl) (decide_eq_false (by omega))) ?_
 refine JL.val (v := .bool false) rfl rfl rfl (fun a ha=>gB (ha.ev rfl) (ha.ev rfl)) ?_
 refine JL.next (fun _ _ h=>h) ?_
 refine JC.jA rfl ?_
 refine JC.jF (fun _ _ h=>h) ?_
 refine JC.seq ?_
 refine JC.region ?_
 refine JL.call rfl rfl Tryz.call96 (aqO HT HB HS  ) (fun v3 w3 HR3 => ?_)
 obtain ⟨s3,A3,n3,c3,rfl,HS⟩:=HR3
 refine JL.alloc (vs:=[.bool false,.slice none 0 0]) HS rfl aYw rfl rfl (fun g4 w4 HS => ?_)
 refine JL.store HS rfl rfl (i:=0) rfl aYu rfl rfl rfl (vs':=[.bool s3,.slice A3 n3 c3]) rfl rfl (fun w5 HS => ?_)
 refine JL.next (fun _ _ h=>h) ?_
 refine JC.seq ?_
 refine JC.seq ?_
 refine JC.region ?_
 refine JL.val (v := .int .i64 (m2:Int)) rfl rfl rfl (fun a ha=>run_move (ha.ev rfl)) ?_
 refine JL.val (v := .int .i64 0) rfl rfl rfl (fun a ha=>run_move (ha.ev rfl)) ?_
 refine JL.next (fun _ _ h=>h) ?_
 refine JC.block ?_
 refine JC.sub (T':=[(0,.agg #[.bool s1,.slice A1 n1 c1,.slice B1 m1 d1]),(1,.int .i64 (m2:Int)),(2,.pointer (some ⟨g1,0,none⟩)),(4,.pointer (some ⟨g2,0,none⟩)),(5,.int .i64 0),(6,.pointer (some ⟨g4,0,none⟩)),(12,.int .i64 (m2:Int)),(13,.bool false),(14,.bool false),(15,.int .i64 (m2:Int)),(16,.bool false),(17,.bool false),(19,.agg #[.bool s3,.slice A3 n3 c3]),(20,.int .i64 (m2:Int)),(21,.int .i64 0)]) (bz rfl (bz rfl (bz rfl (bz rfl (bz rfl (bz rfl (bz rfl (bz rfl (bz rfl (bz rfl (bz rfl (bz rfl (bz rfl (bz rfl (bz rfl (Ei)))))))))))))))) ?_
 refine JC.loop (ι:=Nat×Bool×Option Addr×Nat×Nat) (fun ⟨j,s,A,n,c⟩=>m2 - j) (fun ⟨j,s,A,n,c⟩=>[(0,.agg #[.bool s1,.slice A1 n1 c1,.slice B1 m1 d1]),(1,.int .i64 (m2:Int)),(2,.pointer (some ⟨g1,0,none⟩)),(4,.pointer (some ⟨g2,0,none⟩)),(5,.int .i64 0),(6,.pointer (some ⟨g4,0,none⟩)),(12,.int .i64 (m2:Int)),(13,.bool false),(14,.bool false),(15,.int .i64 (m2:Int)),(16,.bool false),(17,.bool false),(19,.agg #[.bool s3,.slice A3 n3 c3]),(20,.int .i64 (m2:Int)),(21,.int .i64 (j:Int))]) (fun ⟨j,s,A,n,c⟩ w=>(j≤m2)∧St W0 (⟨g4,39,[.bool s,.slice A n c]⟩ :: ⟨g2,24,[.bool false,.slice none 0 0,.slice none 0 0]⟩ :: ⟨g1,24,[.bool s1,.slice A1 n1 c1,.slice B1 m1 d1]⟩ :: U) (FI (.agg #[.bool s,.slice A n c]) ((2 ^ j:Nat):Int) 9 :: FI (.agg #[.bool s3,.slice A3 n3 c3]) 1 2 :: FV (.agg #[.bool s1,.slice A1 n1 c1,.slice B1 m1 d1]) q1 k1 b1 :: Ps) w) ?_ (0,s3,A3,n3,c3) _ ⟨Nat.zero_le _,HS.map (List.mem_of_getElem? (i:=0) rfl) (fun _ h=>h.as rfl (by decide))⟩
 skip
 rintro ⟨j,s,A,n,c⟩ wl1 ⟨azF,HS⟩
 refine JC.sub (T':=[(0,.agg #[.bool s1,.slice A1 n1 c1,.slice B1 m1 d1]),(1,.int .i64 (m2:Int)),(2,.pointer (some ⟨g1,0,none⟩)),(4,.pointer (some ⟨g2,0,none⟩)),(5,.int .i64 0),(6,.pointer (some ⟨g4,0,none⟩)),(12,.int .i64 (m2:Int)),(13,.bool false),(14,.bool false),(15,.int .i64 (m2:Int)),(16,.bool false),(17,.bool false),(19,.agg #[.bool s3,.slice A3 n3 c3]),(20,.int .i64 (m2:Int)),(21,.int .i64 (j:Int))]) (fun _ _ h=>h) ?_
 have HS:St W0 (⟨g4,39,[.bool s,.slice A n c]⟩ :: ⟨g2,24,[.bool false,.slice none 0 0,.slice none 0 0]⟩ :: ⟨g1,24,[.bool s1,.slice A1 n1 c1,.slice B1 m1 d1]⟩ :: U) (FI (.agg #[.bool s,.slice A n c]) ((2 ^ j:Nat):Int) 9 :: FI (.agg #[.bool s3,.slice A3 n3 c3]) 1 2 :: FV (.agg #[.bool s1,.slice A1 n1 c1,.slice B1 m1 d1]) q1 k1 b1 :: Ps) wl1:=HS
 refine JC.seq ?_
 refine JC.region ?_
 refine JL.val (v := .bool (decide ((j:Int) < (m2:Int)))) rfl rfl rfl (fun a ha=>qX (ha.ev rfl) (ha.ev rfl) rfl) ?_
 refine JL.next (fun _ _ h=>h) ?_
 refine JC.seq ?_
 refine JC.cond rfl (fun hb6 => ?_) (fun hb6 => ?_)
 ·skip
  have hd6:=of_decide_eq_true hb6
  refine JC.jF (fun _ _ h=>h) ?_
  refine JC.seq ?_
  refine JC.block ?_
  refine JC.region ?_
  refine JL.load (.agg #[.bool s,.slice A n c]) HS 0 rfl rfl rfl aYy aYu rfl rfl ?_
  refine JL.load (.agg #[.bool s,.slice A n c]) HS 0 rfl rfl rfl aYy aYu rfl rfl ?_
  refine JL.call rfl rfl Tryz.call97 (ai' HT HB HS (HS.at_ 0 rfl) (HS.at_ 0 rfl) (by omega)) (fun v7 w7 wM => ?_)
  obtain ⟨s7,A7,n7,c7,rfl,HS⟩:=wM
  refine JL.store HS rfl rfl (i:=0) rfl aYu rfl rfl rfl (vs':=[.bool s7,.slice A7 n7 c7]) rfl rfl (fun w8 HS => ?_)
  refine JL.EH (fun _ _ h=>h) ?_
  refine JC.region ?_
  refine JL.val (v := .int .i64 ((j+1:Nat):Int)) rfl rfl rfl (fun a ha=>BX (ha.ev rfl) (ha.ev rfl) (by rw [IntKind.wrap_i64]; omega)) ?_
  refine JL.val (v := .int .i64 ((j+1:Nat):Int)) rfl rfl rfl (fun a ha=>run_move (ha.ev rfl)) ?_
  exact JL.round (j+1,s7,A7,n7,c7) (by dsimp only; omega) (bz rfl (bz rfl (bz rfl (bz rfl (bz rfl (bz rfl (bz rfl (bz rfl (bz rfl (bz rfl (bz rfl (bz rfl (bz rfl (bz rfl (bz rfl (Ei)))))))))))))))) ⟨by omega,(HS.out 0 2 0 rfl rfl rfl (fun _ h=>FI.asg h (by omega)))⟩
 ·skip
  have hd6:=of_decide_eq_false hb6
  obtain rfl:m2=j:=by omega
  refine JC.exit (fun _ _ h=>h) (fun _ _ h=>h) ?_
  refine JC.seq ?_
  refine JC.region ?_
  refine JL.load (.agg #[.bool s1,.slice A1 n1 c1,.slice B1 m1 d1]) HS 2 rfl rfl rfl aYp aYn rfl rfl ?_
  refine JL.call rfl rfl Tryz.call98 (aqP HT HB HS (HS.at_ 2 rfl) (by omega)) (fun v9 w9 Iy => ?_)
  obtain ⟨DJ,Dt,DC,Dx,DK,Du,DD,c9b,rfl,HS⟩:=Iy
  refine JL.val (v := .tuple #[.agg #[.bool DJ,.slice Dt DC Dx],.agg #[.bool DK,.slice Du DD c9b]]) rfl rfl rfl (fun a ha=>run_move (ha.ev rfl)) ?_
  refine JL.val (v := .agg #[.bool DJ,.slice Dt DC Dx]) rfl rfl rfl (fun a ha=>bK (ha.ev rfl) rfl) ?_
  refine JL.val (v := .agg #[.bool DK,.slice Du DD c9b]) rfl rfl rfl (fun a ha=>bK (ha.ev rfl) rfl) ?_
  refine JL.alloc (vs:=[.bool false,.slice none 0 0]) HS rfl aYw rfl rfl (fun g10 w10 HS => ?_)
  refine JL.alloc (vs:=[.bool false,.slice none 0 0]) HS rfl aYw rfl rfl (fun g11 Dp HS => ?_)
  refine JL.store HS rfl rfl (i:=1) rfl aYu rfl rfl rfl (vs':=[.bool DJ,.slice Dt DC Dx]) rfl rfl (fun w12 HS => ?_)
  refine JL.store HS rfl rfl (i:=0) rfl aYu rfl rfl rfl (vs':=[.bool DK,.slice Du DD c9b]) rfl rfl (fun Gl HS => ?_)
  refine JL.next (fun _ _ h=>h) ?_
  refine JC.cut (ι:=Bool×Option Addr×Nat×Nat×Bool×Option Addr×Nat×Nat×Bool×Option Addr×Nat×Nat×Nat×Nat) (fun ⟨xW,xN,xU,xO,jQ,jG,jO,jJ,jX,jT,jW,jU,xI,xJ⟩=>[(0,.agg #[.bool s1,.slice A1 n1 c1,.slice B1 m1 d1]),(1,.int .i64 (m2:Int)),(2,.pointer (some ⟨g1,0,none⟩)),(4,.pointer (some ⟨g2,0,none⟩)),(5,.int .i64 0),(6,.pointer (some ⟨g4,0,none⟩)),(7,.pointer (some ⟨g10,0,none⟩)),(8,.pointer (some ⟨g11,0,none⟩)),(9,.pointer (some ⟨xI,0,none⟩)),(10,.pointer (some ⟨xJ,0,none⟩)),(11,.int .i64 0),(12,.int .i64 (m2:Int)),(13,.bool false),(14,.bool false),(15,.int .i64 (m2:Int)),(16,.bool false),(17,.bool false),(19,.agg #[.bool s3,.slice A3 n3 c3]),(20,.int .i64 (m2:Int)),(21,.int .i64 (m2:Int)),(22,.bool (decide ((m2:Int) < (m2:Int)))),(27,.tuple #[.agg #[.bool DJ,.slice Dt DC Dx],.agg #[.bool DK,.slice Du DD c9b]]),(28,.agg #[.bool s1,.slice A1 n1 c1,.slice B1 m1 d1]),(29,.tuple #[.agg #[.bool DJ,.slice Dt DC Dx],.agg #[.bool DK,.slice Du DD c9b]]),(30,.agg #[.bool DJ,.slice Dt DC Dx]),(31,.agg #[.bool DK,.slice Du DD c9b]),(32,.tuple #[.agg #[.bool jQ,.slice jG jO jJ],.agg #[.bool jX,.slice jT jW jU],.int .i64 0]),(33,.agg #[.bool DJ,.slice Dt DC Dx]),(34,.agg #[.bool s,.slice A n c]),(35,.agg #[.bool xW,.slice xN xU xO]),(36,.agg #[.bool DK,.slice Du DD c9b]),(37,.tuple #[.agg #[.bool jQ,.slice jG jO jJ],.agg #[.bool jX,.slice jT jW jU],.int .i64 0]),(38,.agg #[.bool jQ,.slice jG jO jJ]),(39,.agg #[.bool jX,.slice jT jW jU]),(40,.int .i64 0)]) (fun ⟨xW,xN,xU,xO,jQ,jG,jO,jJ,jX,jT,jW,jU,xI,xJ⟩ w=>St W0 (⟨xJ,39,[.bool jX,.slice jT jW jU]⟩ :: ⟨xI,39,[.bool jQ,.slice jG jO jJ]⟩ :: ⟨g11,39,[.bool DK,.slice Du DD c9b]⟩ :: ⟨g10,39,[.bool DJ,.slice Dt DC Dx]⟩ :: ⟨g4,39,[.bool s,.slice A n c]⟩ :: ⟨g2,24,[.bool false,.slice none 0 0,.slice none 0 0]⟩ :: ⟨g1,24,[.bool s1,.slice A1 n1 c1,.slice B1 m1 d1]⟩ :: U) (FI (.agg #[.bool jQ,.slice jG jO jJ]) ((q1.num*((2 ^ m2:Nat):Int)) / (q1.den:Int)) (((k1+2)+9+1)+1) :: FI (.agg #[.bool jX,.slice jT jW jU]) ((q1.num*((2 ^ m2:Nat):Int)) % (q1.den:Int)) (k1+2) :: FI (.agg #[.bool xW,.slice xN xU xO]) (q1.num*((2 ^ m2:Nat):Int)) ((k1+2)+9+1) :: FI (.agg #[.bool DJ,.slice Dt DC Dx]) q1.num (k1+2) :: FI (.agg #[.bool DK,.slice Du DD c9b]) (q1.den:Int) (k1+2) :: FI (.agg #[.bool s,.slice A n c]) ((2 ^ m2:Nat):Int) 9 :: FI (.agg #[.bool s3,.slice A3 n3 c3]) 1 2 :: FV (.agg #[.bool s1,.slice A1 n1 c1,.slice B1 m1 d1]) q1 k1 b1 :: Ps) w) ?_ ?_
  ·skip
   refine JC.draw HS [11,12] (by kernel_rfl) (fun J4 HS => ?_)
   refine JR.load (.agg #[.bool DJ,.slice Dt DC Dx]) 0 1 rfl (by kernel_rfl) (by kernel_rfl) (by kernel_rfl) (by kernel_rfl) (fun _ _ _ h=>h) rfl (fun _ b hb=>HS.box b (hb)) (fun s hs=>by simp only [List.mem_cons,List.not_mem_nil,or_false] at hs; rcases hs with rfl | rfl <;> rfl) rfl rfl aYy aYu rfl rfl (listed' := #[true,false,false,false,false,false,false,false,false,false,false,false,false,false]) rfl ?_
   refine JR.load (.agg #[.bool s,.slice A n c]) 1 2 rfl (by kernel_rfl) (by kernel_rfl) (by kernel_rfl) (by kernel_rfl) (fun _ _ _ h=>h) rfl (fun _ b hb=>HS.box b (hb)) (fun s hs=>by simp only [List.mem_cons,List.not_mem_nil,or_false] at hs; rcases hs with rfl | rfl <;> rfl) rfl rfl aYy aYu rfl rfl (listed' := #[true,true,false,false,false,false,false,false,false,false,false,false,false,false]) rfl ?_
   refine JR.load (.agg #[.bool DK,.slice Du DD c9b]) 3 0 rfl (by kernel_rfl) (by kernel_rfl) (by kernel_rfl) (by kernel_rfl) (fun _ _ _ h=>h) rfl (fun _ b hb=>HS.box b (hb)) (fun s hs=>by simp only [List.mem_cons,List.not_mem_nil,or_false] at hs; rcases hs with rfl | rfl <;> rfl) rfl rfl aYy aYu rfl rfl (listed' := #[true,true,false,true,false,false,false,false,false,false,false,false,false,false]) rfl ?_
   refine JR.any [2,9,10] (by kernel_rfl) rfl ?_
   refine ai.call rfl rfl rfl aZj (Tu HT HB HS (HS.at_ 0 rfl) (HS.at_ 2 rfl) (by omega)) (listed' := #[true,true,true,true,false,false,false,false,false,false,false,false,false,false]) rfl (fun JW JY yQ => ?_) ?_
   ·skip
    obtain ⟨xW,xN,xU,xO,rfl,HS⟩:=yQ
    refine ⟨(fun _ b hb=>HS.box b (hb)),?_⟩
    refine JR.any [4,9,10] (by kernel_rfl) rfl ?_
    refine ai.call rfl rfl rfl aY4 (JJ HT HB HS (HS.at_ 0 rfl) (HS.at_ 2 rfl) (by omega) (tJ _)) (listed' := #[true,true,true,true,true,false,false,false,false,false,false,false,false,false]) rfl (fun Lc Lu zG => ?_) ?_
    ·skip
     obtain ⟨jQ,jG,jO,jJ,jX,jT,jW,jU,rfl,HS⟩:=zG
     refine ⟨(fun _ b hb=>HS.box b (hb)),?_⟩
     refine JR.val (v := .tuple #[.agg #[.bool jQ,.slice jG jO jJ],.agg #[.bool jX,.slice jT jW jU],.int .i64 0]) 5 rfl (by kernel_rfl) (by kernel_rfl) (by kernel_rfl) (by kernel_rfl) (fun _ _ _ h=>h) rfl rfl rfl (fun _ b hb=>HS.box b (hb)) (fun a ha w=>run_move (ha.ev rfl)) (listed' := #[true,true,true,true,true,true,false,false,false,false,false,false,false,false]) rfl ?_
     refine JR.val (v := .agg #[.bool jQ,.slice jG jO jJ]) 6 rfl (by kernel_rfl) (by kernel_rfl) (by kernel_rfl) (by kernel_rfl) (fun _ _ _ h=>h) rfl rfl rfl (fun _ b hb=>HS.box b (hb)) (fun a ha w=>bK (ha.ev rfl) rfl) (listed' := #[true,true,true,true,true,true,true,false,false,false,false,false,false,false]) rfl ?_
     refine JR.val (v := .agg #[.bool jX,.slice jT jW jU]) 7 rfl (by kernel_rfl) (by kernel_rfl) (by kernel_rfl) (by kernel_rfl) (fun _ _ _ h=>h) rfl rfl rfl (fun _ b hb=>HS.box b (hb)) (fun a ha w=>bK (ha.ev rfl) rfl) (listed' := #[true,true,true,true,true,true,true,true,false,false,false,false,false,false]) rfl ?_
     refine JR.val (v := .int .i64 0) 8 rfl (by kernel_rfl) (by kernel_rfl) (by kernel_rfl) (by kernel_rfl) (fun _ _ _ h=>h) rfl rfl rfl (fun _ b hb=>HS.box b (hb)) (fun a ha w=>bK (ha.ev rfl) rfl) (listed' := #[true,true,true,true,true,true,true,true,true,false,false,false,false,false]) rfl ?_
     refine JR.any [9,10] (by kernel_rfl) rfl ?_
     refine ai.alloc (vs:=[.bool false,.slice none 0 0]) HS rfl rfl aYw rfl rfl (listed' := #[true,true,true,true,true,true,true,true,true,true,false,false,false,false]) rfl (fun xI LD HS => ?_) ?_
     ·skip
      refine ⟨(fun _ b hb=>HS.box b (.tail _ (hb))),?_⟩
      refine JR.any [10] (by kernel_rfl) rfl ?_
      refine ai.alloc (vs:=[.bool false,.slice none 0 0]) HS rfl rfl aYw rfl rfl (listed' := #[true,true,true,true,true,true,true,true,true,true,true,false,false,false]) rfl (fun xJ Qz HS => ?_) ai.nil
      refine ⟨(fun _ b hb=>HS.box b (.tail _ (.tail _ (hb)))),?_⟩
      refine JR.any [11] (by kernel_rfl) rfl ?_
      refine ai.store HS rfl rfl rfl 1 rfl aYu rfl rfl rfl (vs':=[.bool jQ,.slice jG jO jJ]) rfl rfl (listed' := #[true,true,true,true,true,true,true,true,true,true,true,true,false,false]) rfl (fun JZ HS => ?_) ai.nil
      refine ⟨(fun h=>absurd (h 11 (.head _)) (by decide)),?_⟩
      refine JR.any [12] (by kernel_rfl) rfl ?_
      refine ai.store HS rfl rfl rfl 0 rfl aYu rfl rfl rfl (vs':=[.bool jX,.slice jT jW jU]) rfl rfl (listed' := #[true,true,true,true,true,true,true,true,true,true,true,true,true,false]) rfl (fun J3 HS => ?_) ai.nil
      refine ⟨(fun h=>absurd (h 11 (.head _)) (by decide)),?_⟩
      refine JR.val (v := .int .i64 0) 13 rfl (by kernel_rfl) (by kernel_rfl) (by kernel_rfl) (by kernel_rfl) (fun _ _ _ h=>h) rfl rfl rfl (fun h=>absurd (h 11 (.head _)) (by decide)) (fun a ha w=>run_assign (ha.ev rfl)) (listed' := #[true,true,true,true,true,true,true,true,true,true,true,true,true,true]) rfl ?_
      exact JR.meet (by kernel_rfl) (xW,xN,xU,xO,jQ,jG,jO,jJ,jX,jT,jW,jU,xI,xJ) (bz rfl (bz rfl (bz rfl (bz rfl (bz rfl (bz rfl (bz rfl (bz rfl (bz rfl (bz rfl (bz rfl (bz rfl (bz rfl (bz rfl (bz rfl (bz rfl (bz rfl (bz rfl (bz rfl (bz rfl (bz rfl (bz rfl (bz rfl (bz rfl (bz rfl (bz rfl (bz rfl (bz rfl (bz rfl (bz rfl (bz rfl (bz rfl (bz rfl (bz rfl (bz rfl (Ei)))))))))))))))))))))))))))))))))))) HS
     refine ai.alloc (vs:=[.bool false,.slice none 0 0]) HS rfl rfl aYw rfl rfl (listed' := #[true,true,true,true,true,true,true,true,true,false,true,false,false,false]) rfl (fun xJ Qz HS => ?_) ai.nil
     refine ⟨(fun _ b hb=>HS.box b (.tail _ (hb))),?_⟩
     refine JR.any [9] (by kernel_rfl) rfl ?_
     refine ai.alloc (vs:=[.bool false,.slice none 0 0]) HS rfl rfl aYw rfl rfl (listed' := #[true,true,true,true,true,true,true,true,true,true,true,false,false,false]) rfl (fun xI LD HS => ?_) ai.nil
     refine ⟨(fun _ b hb=>HS.box b (.tail _ (.tail _ (hb)))),?_⟩
     refine JR.any [11] (by kernel_rfl) rfl ?_
     refine ai.store HS rfl rfl rfl 0 rfl aYu rfl rfl rfl (vs':=[.bool jQ,.slice jG jO jJ]) rfl rfl (listed' := #[true,true,true,true,true,true,true,true,true,true,true,true,false,false]) rfl (fun JZ HS => ?_) ai.nil
     refine ⟨(fun h=>absurd (h 11 (.head _)) (by decide)),?_⟩
     refine JR.any [12] (by kernel_rfl) rfl ?_
     refine ai.store HS rfl rfl rfl 1 rfl aYu rfl rfl rfl (vs':=[.bool jX,.slice jT jW jU]) rfl rfl (listed' := #[true,true,true,true,true,true,true,true,true,true,true,true,true,false]) rfl (fun J3 HS => ?_) ai.nil
     refine ⟨(fun h=>absurd (h 11 (.head _)) (by decide)),?_⟩
     refine JR.val (v := .int .i64 0) 13 rfl (by kernel_rfl) (by kernel_rfl) (by kernel_rfl) (by kernel_rfl) (fun _ _ _ h=>h) rfl rfl rfl (fun h=>absurd (h 11 (.head _)) (by decide)) (fun a ha w=>run_assign (ha.ev rfl)) (listed' := #[true,true,true,true,true,true,true,true,true,true,true,true,true,true]) rfl ?_
     exact JR.meet (by kernel_rfl) (xW,xN,xU,xO,jQ,jG,jO,jJ,jX,jT,jW,jU,xI,xJ) (bz rfl (bz rfl (bz rfl (bz rfl (bz rfl (bz rfl (bz rfl (bz rfl (bz rfl (bz rfl (bz rfl (bz rfl (bz rfl (bz rfl (bz rfl (bz rfl (bz rfl (bz rfl (bz rfl (bz rfl (bz rfl (bz rfl (bz rfl (bz rfl (bz rfl (bz rfl (bz rfl (bz rfl (bz rfl (bz rfl (bz rfl (bz rfl (bz rfl (bz rfl (bz rfl (Ei)))))))))))))))))))))))))))))))))))) (HS.perm (.swap _ _ _))
    refine ai.alloc (vs:=[.bool false,.slice none 0 0]) HS rfl rfl aYw rfl rfl (listed' := #[true,true,true,true,false,false,false,false,false,true,false,false,false,false]) rfl (fun xI LD HS => ?_) ?_
    ·skip
     refine ⟨(fun _ b hb=>HS.box b (.tail _ (hb))),?_⟩
     refine JR.any [4,10] (by kernel_rfl) rfl ?_
     refine ai.call rfl rfl rfl aY4 (JJ HT HB HS (HS.at_ 0 rfl) (HS.at_ 2 rfl) (by omega) (tJ _)) (listed' := #[true,true,true,true,true,false,false,false,false,true,false,false,false,false]) rfl (fun Lc Lu zG => ?_) ?_
     ·skip
      obtain ⟨jQ,jG,jO,jJ,jX,jT,jW,jU,rfl,HS⟩:=zG
      refine ⟨(fun _ b hb=>HS.box b (.tail _ (hb))),?_⟩
      refine JR.val (v := .tuple #[.agg #[.bool jQ,.slice jG jO jJ],.agg #[.bool jX,.slice jT jW jU],.int .i64 0]) 5 rfl (by kernel_rfl) (by kernel_rfl) (by kernel_rfl) (by kernel_rfl) (fun _ _ _ h=>h) rfl rfl rfl (fun _ b hb=>HS.box b (.tail _ (hb))) (fun a ha w=>run_move (ha.ev rfl)) (listed' := #[true,true,true,true,true,true,false,false,false,true,false,false,false,false]) rfl ?_
      refine JR.val (v := .agg #[.bool jQ,.slice jG jO jJ]) 6 rfl (by kernel_rfl) (by kernel_rfl) (by kernel_rfl) (by kernel_rfl) (fun _ _ _ h=>h) rfl rfl rfl (fun _ b hb=>HS.box b (.tail _ (hb))) (fun a ha w=>bK (ha.ev rfl) rfl) (listed' := #[true,true,true,true,true,true,true,false,false,true,false,false,false,false]) rfl ?_
      refine JR.val (v := .agg #[.bool jX,.slice jT jW jU]) 7 rfl (by kernel_rfl) (by kernel_rfl) (by kernel_rfl) (by kernel_rfl) (fun _ _ _ h=>h) rfl rfl rfl (fun _ b hb=>HS.box b (.tail _ (hb))) (fun a ha w=>bK (ha.ev rfl) rfl) (listed' := #[true,true,true,true,true,true,true,true,false,true,false,false,false,false]) rfl ?_
      refine JR.val (v := .int .i64 0) 8 rfl (by kernel_rfl) (by kernel_rfl) (by kernel_rfl) (by kernel_rfl) (fun _ _ _ h=>h) rfl rfl rfl (fun _ b hb=>HS.box b (.tail _ (hb))) (fun a ha w=>bK (ha.ev rfl) rfl) (listed' := #[true,true,true,true,true,true,true,true,true,true,false,false,false,false]) rfl ?_
      refine JR.any [10] (by kernel_rfl) rfl ?_
      refine ai.alloc (vs:=[.bool false,.slice none 0 0]) HS rfl rfl aYw rfl rfl (listed' := #[true,true,true,true,true,true,true,true,true,true,true,false,false,false]) rfl (fun xJ Qz HS => ?_) ai.nil
      refine ⟨(fun _ b hb=>HS.box b (.tail _ (.tail _ (hb)))),?_⟩
      refine JR.any [11] (by kernel_rfl) rfl ?_
      refine ai.store HS rfl rfl rfl 1 rfl aYu rfl rfl rfl (vs':=[.bool jQ,.slice jG jO jJ]) rfl rfl (listed' := #[true,true,true,true,true,true,true,true,true,true,true,true,false,false]) rfl (fun JZ HS => ?_) ai.nil
      refine ⟨(fun h=>absurd (h 11 (.head _)) (by decide)),?_⟩
      refine JR.any [12] (by kernel_rfl) rfl ?_
      refine ai.store HS rfl rfl rfl 0 rfl aYu rfl rfl rfl (vs':=[.bool jX,.slice jT jW jU]) rfl rfl (listed' := #[true,true,true,true,true,true,true,true,true,true,true,true,true,false]) rfl (fun J3 HS => ?_) ai.nil
      refine ⟨(fun h=>absurd (h 11 (.head _)) (by decide)),?_⟩
      refine JR.val (v := .int .i64 0) 13 rfl (by kernel_rfl) (by kernel_rfl) (by kernel_rfl) (by kernel_rfl) (fun _ _ _ h=>h) rfl rfl rfl (fun h=>absurd (h 11 (.head _)) (by decide)) (fun a ha w=>run_assign (ha.ev rfl)) (listed' := #[true,true,true,true,true,true,true,true,true,true,true,true,true,true]) rfl ?_
      exact JR.meet (by kernel_rfl) (xW,xN,xU,xO,jQ,jG,jO,jJ,jX,jT,jW,jU,xI,xJ) (bz rfl (bz rfl (bz rfl (bz rfl (bz rfl (bz rfl (bz rfl (bz rfl (bz rfl (bz rfl (bz rfl (bz rfl (bz rfl (bz rfl (bz rfl (bz rfl (bz rfl (bz rfl (bz rfl (bz rfl (bz rfl (bz rfl (bz rfl (bz rfl (bz rfl (bz rfl (bz rfl (bz rfl (bz rfl (bz rfl (bz rfl (bz rfl (bz rfl (bz rfl (bz rfl (Ei)))))))))))))))))))))))))))))))))))) HS
     refine ai.alloc (vs:=[.bool false,.slice none 0 0]) HS rfl rfl aYw rfl rfl (listed' := #[true,true,true,true,false,false,false,false,false,true,true,false,false,false]) rfl (fun xJ Qz HS => ?_) ai.nil
     refine ⟨(fun _ b hb=>HS.box b (.tail _ (.tail _ (hb)))),?_⟩
     refine JR.any [4] (by kernel_rfl) rfl ?_
     refine ai.call rfl rfl rfl aY4 (JJ HT HB HS (HS.at_ 0 rfl) (HS.at_ 2 rfl) (by omega) (tJ _)) (listed' := #[true,true,true,true,true,false,false,false,false,true,true,false,false,false]) rfl (fun Lc Lu zG => ?_) ai.nil
     obtain ⟨jQ,jG,jO,jJ,jX,jT,jW,jU,rfl,HS⟩:=zG
     refine ⟨(fun _ b hb=>HS.box b (.tail _ (.tail _ (hb)))),?_⟩
     refine JR.val (v := .tuple #[.agg #[.bool jQ,.slice jG jO jJ],.agg #[.bool jX,.slice jT jW jU],.int .i64 0]) 5 rfl (by kernel_rfl) (by kernel_rfl) (by kernel_rfl) (by kernel_rfl) (fun _ _ _ h=>h) rfl rfl rfl (fun _ b hb=>HS.box b (.tail _ (.tail _ (hb)))) (fun a ha w=>run_move (ha.ev rfl)) (listed' := #[true,true,true,true,true,true,false,false,false,true,true,false,false,false]) rfl ?_
     refine JR.val (v := .agg #[.bool jQ,.slice jG jO jJ]) 6 rfl (by kernel_rfl) (by kernel_rfl) (by kernel_rfl) (by kernel_rfl) (fun _ _ _ h=>h) rfl rfl rfl (fun _ b hb=>HS.box b (.tail _ (.tail _ (hb)))) (fun a ha w=>bK (ha.ev rfl) rfl) (listed' := #[true,true,true,true,true,true,true,false,false,true,true,false,false,false]) rfl ?_
     refine JR.val (v := .agg #[.bool jX,.slice jT jW jU]) 7 rfl (by kernel_rfl) (by kernel_rfl) (by kernel_rfl) (by kernel_rfl) (fun _ _ _ h=>h) rfl rfl rfl (fun _ b hb=>HS.box b (.tail _ (.tail _ (hb)))) (fun a ha w=>bK (ha.ev rfl) rfl) (listed' := #[true,true,true,true,true,true,true,true,false,true,true,false,false,false]) rfl ?_
     refine JR.val (v := .int .i64 0) 8 rfl (by kernel_rfl) (by kernel_rfl) (by kernel_rfl) (by kernel_rfl) (fun _ _ _ h=>h) rfl rfl rfl (fun _ b hb=>HS.box b (.tail _ (.tail _ (hb)))) (fun a ha w=>bK (ha.ev rfl) rfl) (listed' := #[true,true,true,true,true,true,true,true,true,true,true,false,false,false]) rfl ?_
     refine JR.any [11] (by kernel_rfl) rfl ?_
     refine ai.store HS rfl rfl rfl 1 rfl aYu rfl rfl rfl (vs':=[.bool jQ,.slice jG jO jJ]) rfl rfl (listed' := #[true,true,true,true,true,true,true,true,true,true,true,true,false,false]) rfl (fun JZ HS => ?_) ai.nil
     refine ⟨(fun h=>absurd (h 11 (.head _)) (by decide)),?_⟩
     refine JR.any [12] (by kernel_rfl) rfl ?_
     refine ai.store HS rfl rfl rfl 0 rfl aYu rfl rfl rfl (vs':=[.bool jX,.slice jT jW jU]) rfl rfl (listed' := #[true,true,true,true,true,true,true,true,true,true,true,true,true,false]) rfl (fun J3 HS => ?_) ai.nil
     refine ⟨(fun h=>absurd (h 11 (.head _)) (by decide)),?_⟩
     refine JR.val (v := .int .i64 0) 13 rfl (by kernel_rfl) (by kernel_rfl) (by kernel_rfl) (by kernel_rfl) (fun _ _ _ h=>h) rfl rfl rfl (fun h=>absurd (h 11 (.head _)) (by decide)) (fun a ha w=>run_assign (ha.ev rfl)) (listed' := #[true,true,true,true,true,true,true,true,true,true,true,true,true,true]) rfl ?_
     exact JR.meet (by kernel_rfl) (xW,xN,xU,xO,jQ,jG,jO,jJ,jX,jT,jW,jU,xI,xJ) (bz rfl (bz rfl (bz rfl (bz rfl (bz rfl (bz rfl (bz rfl (bz rfl (bz rfl (bz rfl (bz rfl (bz rfl (bz rfl (bz rfl (bz rfl (bz rfl (bz rfl (bz rfl (bz rfl (bz rfl (bz rfl (bz rfl (bz rfl (bz rfl (bz rfl (bz rfl (bz rfl (bz rfl (bz rfl (bz rfl (bz rfl (bz rfl (bz rfl (bz rfl (bz rfl (Ei)))))))))))))))))))))))))))))))))))) HS
    refine ai.alloc (vs:=[.bool false,.slice none 0 0]) HS rfl rfl aYw rfl rfl (listed' := #[true,true,true,true,false,false,false,false,false,false,true,false,false,false]) rfl (fun xJ Qz HS => ?_) ai.nil
    refine ⟨(fun _ b hb=>HS.box b (.tail _ (hb))),?_⟩
    refine JR.any [4,9] (by kernel_rfl) rfl ?_
    refine ai.call rfl rfl rfl aY4 (JJ HT HB HS (HS.at_ 0 rfl) (HS.at_ 2 rfl) (by omega) (tJ _)) (listed' := #[true,true,true,true,true,false,false,false,false,false,true,false,false,false]) rfl (fun Lc Lu zG => ?_) ?_
    ·skip
     obtain ⟨jQ,jG,jO,jJ,jX,jT,jW,jU,rfl,HS⟩:=zG
     refine ⟨(fun _ b hb=>HS.box b (.tail _ (hb))),?_⟩
     refine JR.val (v := .tuple #[.agg #[.bool jQ,.slice jG jO jJ],.agg #[.bool jX,.slice jT jW jU],.int .i64 0]) 5 rfl (by kernel_rfl) (by kernel_rfl) (by kernel_rfl) (by kernel_rfl) (fun _ _ _ h=>h) rfl rfl rfl (fun _ b hb=>HS.box b (.tail _ (hb))) (fun a ha w=>run_move (ha.ev rfl)) (listed' := #[true,true,true,true,true,true,false,false,false,false,true,false,false,false]) rfl ?_
     refine JR.val (v := .agg #[.bool jQ,.slice jG jO jJ]) 6 rfl (by kernel_rfl) (by kernel_rfl) (by kernel_rfl) (by kernel_rfl) (fun _ _ _ h=>h) rfl rfl rfl (fun _ b hb=>HS.box b (.tail _ (hb))) (fun a ha w=>bK (ha.ev rfl) rfl) (listed' := #[true,true,true,true,true,true,true,false,false,false,true,false,false,false]) rfl ?_
     refine JR.val (v := .agg #[.bool jX,.slice jT jW jU]) 7 rfl (by kernel_rfl) (by kernel_rfl) (by kernel_rfl) (by kernel_rfl) (fun _ _ _ h=>h) rfl rfl rfl (fun _ b hb=>HS.box b (.tail _ (hb))) (fun a ha w=>bK (ha.ev rfl) rfl) (listed' := #[true,true,true,true,true,true,true,true,false,false,true,false,false,false]) rfl ?_
     refine JR.val (v := .int .i64 0) 8 rfl (by kernel_rfl) (by kernel_rfl) (by kernel_rfl) (by kernel_rfl) (fun _ _ _ h=>h) rfl rfl rfl (fun _ b hb=>HS.box b (.tail _ (hb))) (fun a ha w=>bK (ha.ev rfl) rfl) (listed' := #[true,true,true,true,true,true,true,true,true,false,true,false,false,false]) rfl ?_
     refine JR.any [9] (by kernel_rfl) rfl ?_
     refine ai.alloc (vs:=[.bool false,.slice none 0 0]) HS rfl rfl aYw rfl rfl (listed' := #[true,true,true,true,true,true,true,true,true,true,true,false,false,false]) rfl (fun xI LD HS => ?_) ai.nil
     refine ⟨(fun _ b hb=>HS.box b (.tail _ (.tail _ (hb)))),?_⟩
     refine JR.any [11] (by kernel_rfl) rfl ?_
     refine ai.store HS rfl rfl rfl 0 rfl aYu rfl rfl rfl (vs':=[.bool jQ,.slice jG jO jJ]) rfl rfl (listed' := #[true,true,true,true,true,true,true,true,true,true,true,true,false,false]) rfl (fun JZ HS => ?_) ai.nil
     refine ⟨(fun h=>absurd (h 11 (.head _)) (by decide)),?_⟩
     refine JR.any [12] (by kernel_rfl) rfl ?_
     refine ai.store HS rfl rfl rfl 1 rfl aYu rfl rfl rfl (vs':=[.bool jX,.slice jT jW jU]) rfl rfl (listed' := #[true,true,true,true,true,true,true,true,true,true,true,true,true,false]) rfl (fun J3 HS => ?_) ai.nil
     refine ⟨(fun h=>absurd (h 11 (.head _)) (by decide)),?_⟩
     refine JR.val (v := .int .i64 0) 13 rfl (by kernel_rfl) (by kernel_rfl) (by kernel_rfl) (by kernel_rfl) (fun _ _ _ h=>h) rfl rfl rfl (fun h=>absurd (h 11 (.head _)) (by decide)) (fun a ha w=>run_assign (ha.ev rfl)) (listed' := #[true,true,true,true,true,true,true,true,true,true,true,true,true,true]) rfl ?_
     exact JR.meet (by kernel_rfl) (xW,xN,xU,xO,jQ,jG,jO,jJ,jX,jT,jW,jU,xI,xJ) (bz rfl (bz rfl (bz rfl (bz rfl (bz rfl (bz rfl (bz rfl (bz rfl (bz rfl (bz rfl (bz rfl (bz rfl (bz rfl (bz rfl (bz rfl (bz rfl (bz rfl (bz rfl (bz rfl (bz rfl (bz rfl (bz rfl (bz rfl (bz rfl (bz rfl (bz rfl (bz rfl (bz rfl (bz rfl (bz rfl (bz rfl (bz rfl (bz rfl (bz rfl (bz rfl (Ei)))))))))))))))))))))))))))))))))))) (HS.perm (.swap _ _ _))
    refine ai.alloc (vs:=[.bool false,.slice none 0 0]) HS rfl rfl aYw rfl rfl (listed' := #[true,true,true,true,false,false,false,false,false,true,true,false,false,false]) rfl (fun xI LD HS => ?_) ai.nil
    refine ⟨(fun _ b hb=>HS.box b (.tail _ (.tail _ (hb)))),?_⟩
    refine JR.any [4] (by kernel_rfl) rfl ?_
    refine ai.call rfl rfl rfl aY4 (JJ HT HB HS (HS.at_ 0 rfl) (HS.at_ 2 rfl) (by omega) (tJ _)) (listed' := #[true,true,true,true,true,false,false,false,false,true,true,false,false,false]) rfl (fun Lc Lu zG => ?_) ai.nil
    obtain ⟨jQ,jG,jO,jJ,jX,jT,jW,jU,rfl,HS⟩:=zG
    refine ⟨(fun _ b hb=>HS.box b (.tail _ (.tail _ (hb)))),?_⟩
    refine JR.val (v := .tuple #[.agg #[.bool jQ,.slice jG jO jJ],.agg #[.bool jX,.slice jT jW jU],.int .i64 0]) 5 rfl (by kernel_rfl) (by kernel_rfl) (by kernel_rfl) (by kernel_rfl) (fun _ _ _ h=>h) rfl rfl rfl (fun _ b hb=>HS.box b (.tail _ (.tail _ (hb)))) (fun a ha w=>run_move (ha.ev rfl)) (listed' := #[true,true,true,true,true,true,false,false,false,true,true,false,false,false]) rfl ?_
    refine JR.val (v := .agg #[.bool jQ,.slice jG jO jJ]) 6 rfl (by kernel_rfl) (by kernel_rfl) (by kernel_rfl) (by kernel_rfl) (fun _ _ _ h=>h) rfl rfl rfl (fun _ b hb=>HS.box b (.tail _ (.tail _ (hb)))) (fun a ha w=>bK (ha.ev rfl) rfl) (listed' := #[true,true,true,true,true,true,true,false,false,true,true,false,false,false]) rfl ?_
    refine JR.val (v := .agg #[.bool jX,.slice jT jW jU]) 7 rfl (by kernel_rfl) (by kernel_rfl) (by kernel_rfl) (by kernel_rfl) (fun _ _ _ h=>h) rfl rfl rfl (fun _ b hb=>HS.box b (.tail _ (.tail _ (hb)))) (fun a ha w=>bK (ha.ev rfl) rfl) (listed' := #[true,true,true,true,true,true,true,true,false,true,true,false,false,false]) rfl ?_
    refine JR.val (v := .int .i64 0) 8 rfl (by kernel_rfl) (by kernel_rfl) (by kernel_rfl) (by kernel_rfl) (fun _ _ _ h=>h) rfl rfl rfl (fun _ b hb=>HS.box b (.tail _ (.tail _ (hb)))) (fun a ha w=>bK (ha.ev rfl) rfl) (listed' := #[true,true,true,true,true,true,true,true,true,true,true,false,false,false]) rfl ?_
    refine JR.any [11] (by kernel_rfl) rfl ?_
    refine ai.store HS rfl rfl rfl 0 rfl aYu rfl rfl rfl (vs':=[.bool jQ,.slice jG jO jJ]) rfl rfl (listed' := #[true,true,true,true,true,true,true,true,true,true,true,true,false,false]) rfl (fun JZ HS => ?_) ai.nil
    refine ⟨(fun h=>absurd (h 11 (.head _)) (by decide)),?_⟩
    refine JR.any [12] (by kernel_rfl) rfl ?_
    refine ai.store HS rfl rfl rfl 1 rfl aYu rfl rfl rfl (vs':=[.bool jX,.slice jT jW jU]) rfl rfl (listed' := #[true,true,true,true,true,true,true,true,true,true,true,true,true,false]) rfl (fun J3 HS => ?_) ai.nil
    refine ⟨(fun h=>absurd (h 11 (.head _)) (by decide)),?_⟩
    refine JR.val (v := .int .i64 0) 13 rfl (by kernel_rfl) (by kernel_rfl) (by kernel_rfl) (by kernel_rfl) (fun _ _ _ h=>h) rfl rfl rfl (fun h=>absurd (h 11 (.head _)) (by decide)) (fun a ha w=>run_assign (ha.ev rfl)) (listed' := #[true,true,true,true,true,true,true,true,true,true,true,true,true,true]) rfl ?_
    exact JR.meet (by kernel_rfl) (xW,xN,xU,xO,jQ,jG,jO,jJ,jX,jT,jW,jU,xI,xJ) (bz rfl (bz rfl (bz rfl (bz rfl (bz rfl (bz rfl (bz rfl (bz rfl (bz rfl (bz rfl (bz rfl (bz rfl (bz rfl (bz rfl (bz rfl (bz rfl (bz rfl (bz rfl (bz rfl (bz rfl (bz rfl (bz rfl (bz rfl (bz rfl (bz rfl (bz rfl (bz rfl (bz rfl (bz rfl (bz rfl (bz rfl (bz rfl (bz rfl (bz rfl (bz rfl (Ei)))))))))))))))))))))))))))))))))))) (HS.perm (.swap _ _ _))
   refine ai.alloc (vs:=[.bool false,.slice none 0 0]) HS rfl rfl aYw rfl rfl (listed' := #[true,true,false,true,false,false,false,false,false,true,false,false,false,false]) rfl (fun xI LD HS => ?_) ?_
   ·skip
    refine ⟨(fun _ b hb=>HS.box b (.tail _ (hb))),?_⟩
    refine JR.any [2,10] (by kernel_rfl) rfl ?_
    refine ai.call rfl rfl rfl aZj (Tu HT HB HS (HS.at_ 0 rfl) (HS.at_ 2 rfl) (by omega)) (listed' := #[true,true,true,true,false,false,false,false,false,true,false,false,false,false]) rfl (fun JW JY yQ => ?_) ?_
    ·skip
     obtain ⟨xW,xN,xU,xO,rfl,HS⟩:=yQ
     refine ⟨(fun _ b hb=>HS.box b (.tail _ (hb))),?_⟩
     refine JR.any [4,10] (by kernel_rfl) rfl ?_
     refine ai.call rfl rfl rfl aY4 (JJ HT HB HS (HS.at_ 0 rfl) (HS.at_ 2 rfl) (by omega) (tJ _)) (listed' := #[true,true,true,true,true,false,false,false,false,true,false,false,false,false]) rfl (fun Lc Lu zG => ?_) ?_
     ·skip
      obtain ⟨jQ,jG,jO,jJ,jX,jT,jW,jU,rfl,HS⟩:=zG
      refine ⟨(fun _ b hb=>HS.box b (.tail _ (hb))),?_⟩
      refine JR.val (v := .tuple #[.agg #[.bool jQ,.slice jG jO jJ],.agg #[.bool jX,.slice jT jW jU],.int .i64 0]) 5 rfl (by kernel_rfl) (by kernel_rfl) (by kernel_rfl) (by kernel_rfl) (fun _ _ _ h=>h) rfl rfl rfl (fun _ b hb=>HS.box b (.tail _ (hb))) (fun a ha w=>run_move (ha.ev rfl)) (listed' := #[true,true,true,true,true,true,false,false,false,true,false,false,false,false]) rfl ?_
      refine JR.val (v := .agg #[.bool jQ,.slice jG jO jJ]) 6 rfl (by kernel_rfl) (by kernel_rfl) (by kernel_rfl) (by kernel_rfl) (fun _ _ _ h=>h) rfl rfl rfl (fun _ b hb=>HS.box b (.tail _ (hb))) (fun a ha w=>bK (ha.ev rfl) rfl) (listed' := #[true,true,true,true,true,true,true,false,false,true,false,false,false,false]) rfl ?_
      refine JR.val (v := .agg #[.bool jX,.slice jT jW jU]) 7 rfl (by kernel_rfl) (by kernel_rfl) (by kernel_rfl) (by kernel_rfl) (fun _ _ _ h=>h) rfl rfl rfl (fun _ b hb=>HS.box b (.tail _ (hb))) (fun a ha w=>bK (ha.ev rfl) rfl) (listed' := #[true,true,true,true,true,true,true,true,false,true,false,false,false,false]) rfl ?_
      refine JR.val (v := .int .i64 0) 8 rfl (by kernel_rfl) (by kernel_rfl) (by kernel_rfl) (by kernel_rfl) (fun _ _ _ h=>h) rfl rfl rfl (fun _ b hb=>HS.box b (.tail _ (hb))) (fun a ha w=>bK (ha.ev rfl) rfl) (listed' := #[true,true,true,true,true,true,true,true,true,true,false,false,false,false]) rfl ?_
      refine JR.any [10] (by kernel_rfl) rfl ?_
      refine ai.alloc (vs:=[.bool false,.slice none 0 0]) HS rfl rfl aYw rfl rfl (listed' := #[true,true,true,true,true,true,true,true,true,true,true,false,false,false]) rfl (fun xJ Qz HS => ?_) ai.nil
      refine ⟨(fun _ b hb=>HS.box b (.tail _ (.tail _ (hb)))),?_⟩
      refine JR.any [11] (by kernel_rfl) rfl ?_
      refine ai.store HS rfl rfl rfl 1 rfl aYu rfl rfl rfl (vs':=[.bool jQ,.slice jG jO jJ]) rfl rfl (listed' := #[true,true,true,true,true,true,true,true,true,true,true,true,false,false]) rfl (fun JZ HS => ?_) ai.nil
      refine ⟨(fun h=>absurd (h 11 (.head _)) (by decide)),?_⟩
      refine JR.any [12] (by kernel_rfl) rfl ?_
      refine ai.store HS rfl rfl rfl 0 rfl aYu rfl rfl rfl (vs':=[.bool jX,.slice jT jW jU]) rfl rfl (listed' := #[true,true,true,true,true,true,true,true,true,true,true,true,true,false]) rfl (fun J3 HS => ?_) ai.nil
      refine ⟨(fun h=>absurd (h 11 (.head _)) (by decide)),?_⟩
      refine JR.val (v := .int .i64 0) 13 rfl (by kernel_rfl) (by kernel_rfl) (by kernel_rfl) (by kernel_rfl) (fun _ _ _ h=>h) rfl rfl rfl (fun h=>absurd (h 11 (.head _)) (by decide)) (fun a ha w=>run_assign (ha.ev rfl)) (listed' := #[true,true,true,true,true,true,true,true,true,true,true,true,true,true]) rfl ?_
      exact JR.meet (by kernel_rfl) (xW,xN,xU,xO,jQ,jG,jO,jJ,jX,jT,jW,jU,xI,xJ) (bz rfl (bz rfl (bz rfl (bz rfl (bz rfl (bz rfl (bz rfl (bz rfl (bz rfl (bz rfl (bz rfl (bz rfl (bz rfl (bz rfl (bz rfl (bz rfl (bz rfl (bz rfl (bz rfl (bz rfl (bz rfl (bz rfl (bz rfl (bz rfl (bz rfl (bz rfl (bz rfl (bz rfl (bz rfl (bz rfl (bz rfl (bz rfl (bz rfl (bz rfl (bz rfl (Ei)))))))))))))))))))))))))))))))))))) HS
     refine ai.alloc (vs:=[.bool false,.slice none 0 0]) HS rfl rfl aYw rfl rfl (listed' := #[true,true,true,true,false,false,false,false,false,true,true,false,false,false]) rfl (fun xJ Qz HS => ?_) ai.nil
     refine ⟨(fun _ b hb=>HS.box b (.tail _ (.tail _ (hb)))),?_⟩
     refine JR.any [4] (by kernel_rfl) rfl ?_
     refine ai.call rfl rfl rfl aY4 (JJ HT HB HS (HS.at_ 0 rfl) (HS.at_ 2 rfl) (by omega) (tJ _)) (listed' := #[true,true,true,true,true,false,false,false,false,true,true,false,false,false]) rfl (fun Lc Lu zG => ?_) ai.nil
     obtain ⟨jQ,jG,jO,jJ,jX,jT,jW,jU,rfl,HS⟩:=zG
     refine ⟨(fun _ b hb=>HS.box b (.tail _ (.tail _ (hb)))),?_⟩
     refine JR.val (v := .tuple #[.agg #[.bool jQ,.slice jG jO jJ],.agg #[.bool jX,.slice jT jW jU],.int .i64 0]) 5 rfl (by kernel_rfl) (by kernel_rfl) (by kernel_rfl) (by kernel_rfl) (fun _ _ _ h=>h) rfl rfl rfl (fun _ b hb=>HS.box b (.tail _ (.tail _ (hb)))) (fun a ha w=>run_move (ha.ev rfl)) (listed' := #[true,true,true,true,true,true,false,false,false,true,true,false,false,false]) rfl ?_
     refine JR.val (v := .agg #[.bool jQ,.slice jG jO jJ]) 6 rfl (by kernel_rfl) (by kernel_rfl) (by kernel_rfl) (by kernel_rfl) (fun _ _ _ h=>h) rfl rfl rfl (fun _ b hb=>HS.box b (.tail _ (.tail _ (hb)))) (fun a ha w=>bK (ha.ev rfl) rfl) (listed' := #[true,true,true,true,true,true,true,false,false,true,true,false,false,false]) rfl ?_
     refine JR.val (v := .agg #[.bool jX,.slice jT jW jU]) 7 rfl (by kernel_rfl) (by kernel_rfl) (by kernel_rfl) (by kernel_rfl) (fun _ _ _ h=>h) rfl rfl rfl (fun _ b hb=>HS.box b (.tail _ (.tail _ (hb)))) (fun a ha w=>bK (ha.ev rfl) rfl) (listed' := #[true,true,true,true,true,true,true,true,false,true,true,false,false,false]) rfl ?_
     refine JR.val (v := .int .i64 0) 8 rfl (by kernel_rfl) (by kernel_rfl) (by kernel_rfl) (by kernel_rfl) (fun _ _ _ h=>h) rfl rfl rfl (fun _ b hb=>HS.box b (.tail _ (.tail _ (hb)))) (fun a ha w=>bK (ha.ev rfl) rfl) (listed' := #[true,true,true,true,true,true,true,true,true,true,true,false,false,false]) rfl ?_
     refine JR.any [11] (by kernel_rfl) rfl ?_
     refine ai.store HS rfl rfl rfl 1 rfl aYu rfl rfl rfl (vs':=[.bool jQ,.slice jG jO jJ]) rfl rfl (listed' := #[true,true,true,true,true,true,true,true,true,true,true,true,false,false]) rfl (fun JZ HS => ?_) ai.nil
     refine ⟨(fun h=>absurd (h 11 (.head _)) (by decide)),?_⟩
     refine JR.any [12] (by kernel_rfl) rfl ?_
     refine ai.store HS rfl rfl rfl 0 rfl aYu rfl rfl rfl (vs':=[.bool jX,.slice jT jW jU]) rfl rfl (listed' := #[true,true,true,true,true,true,true,true,true,true,true,true,true,false]) rfl (fun J3 HS => ?_) ai.nil
     refine ⟨(fun h=>absurd (h 11 (.head _)) (by decide)),?_⟩
     refine JR.val (v := .int .i64 0) 13 rfl (by kernel_rfl) (by kernel_rfl) (by kernel_rfl) (by kernel_rfl) (fun _ _ _ h=>h) rfl rfl rfl (fun h=>absurd (h 11 (.head _)) (by decide)) (fun a ha w=>run_assign (ha.ev rfl)) (listed' := #[true,true,true,true,true,true,true,true,true,true,true,true,true,true]) rfl ?_
     exact JR.meet (by kernel_rfl) (xW,xN,xU,xO,jQ,jG,jO,jJ,jX,jT,jW,jU,xI,xJ) (bz rfl (bz rfl (bz rfl (bz rfl (bz rfl (bz rfl (bz rfl (bz rfl (bz rfl (bz rfl (bz rfl (bz rfl (bz rfl (bz rfl (bz rfl (bz rfl (bz rfl (bz rfl (bz rfl (bz rfl (bz rfl (bz rfl (bz rfl (bz rfl (bz rfl (bz rfl (bz rfl (bz rfl (bz rfl (bz rfl (bz rfl (bz rfl (bz rfl (bz rfl (bz rfl (Ei)))))))))))))))))))))))))))))))))))) HS
    refine ai.alloc (vs:=[.bool false,.slice none 0 0]) HS rfl rfl aYw rfl rfl (listed' := #[true,true,false,true,false,false,false,false,false,true,true,false,false,false]) rfl (fun xJ Qz HS => ?_) ai.nil
    refine ⟨(fun _ b hb=>HS.box b (.tail _ (.tail _ (hb)))),?_⟩
    refine JR.any [2] (by kernel_rfl) rfl ?_
    refine ai.call rfl rfl rfl aZj (Tu HT HB HS (HS.at_ 0 rfl) (HS.at_ 2 rfl) (by omega)) (listed' := #[true,true,true,true,false,false,false,false,false,true,true,false,false,false]) rfl (fun JW JY yQ => ?_) ai.nil
    obtain ⟨xW,xN,xU,xO,rfl,HS⟩:=yQ
    refine ⟨(fun _ b hb=>HS.box b (.tail _ (.tail _ (hb)))),?_⟩
    refine JR.any [4] (by kernel_rfl) rfl ?_
    refine ai.call rfl rfl rfl aY4 (JJ HT HB HS (HS.at_ 0 rfl) (HS.at_ 2 rfl) (by omega) (tJ _)) (listed' := #[true,true,true,true,true,false,false,false,false,true,true,false,false,false]) rfl (fun Lc Lu zG => ?_) ai.nil
    obtain ⟨jQ,jG,jO,jJ,jX,jT,jW,jU,rfl,HS⟩:=zG
    refine ⟨(fun _ b hb=>HS.box b (.tail _ (.tail _ (hb)))),?_⟩
    refine JR.val (v := .tuple #[.agg #[.bool jQ,.slice jG jO jJ],.agg #[.bool jX,.slice jT jW jU],.int .i64 0]) 5 rfl (by kernel_rfl) (by kernel_rfl) (by kernel_rfl) (by kernel_rfl) (fun _ _ _ h=>h) rfl rfl rfl (fun _ b hb=>HS.box b (.tail _ (.tail _ (hb)))) (fun a ha w=>run_move (ha.ev rfl)) (listed' := #[true,true,true,true,true,true,false,false,false,true,true,false,false,false]) rfl ?_
    refine JR.val (v := .agg #[.bool jQ,.slice jG jO jJ]) 6 rfl (by kernel_rfl) (by kernel_rfl) (by kernel_rfl) (by kernel_rfl) (fun _ _ _ h=>h) rfl rfl rfl (fun _ b hb=>HS.box b (.tail _ (.tail _ (hb)))) (fun a ha w=>bK (ha.ev rfl) rfl) (listed' := #[true,true,true,true,true,true,true,false,false,true,true,false,false,false]) rfl ?_
    refine JR.val (v := .agg #[.bool jX,.slice jT jW jU]) 7 rfl (by kernel_rfl) (by kernel_rfl) (by kernel_rfl) (by kernel_rfl) (fun _ _ _ h=>h) rfl rfl rfl (fun _ b hb=>HS.box b (.tail _ (.tail _ (hb)))) (fun a ha w=>bK (ha.ev rfl) rfl) (listed' := #[true,true,true,true,true,true,true,true,false,true,true,false,false,false]) rfl ?_
    refine JR.val (v := .int .i64 0) 8 rfl (by kernel_rfl) (by kernel_rfl) (by kernel_rfl) (by kernel_rfl) (fun _ _ _ h=>h) rfl rfl rfl (fun _ b hb=>HS.box b (.tail _ (.tail _ (hb)))) (fun a ha w=>bK (ha.ev rfl) rfl) (listed' := #[true,true,true,true,true,true,true,true,true,true,true,false,false,false]) rfl ?_
    refine JR.any [11] (by kernel_rfl) rfl ?_
    refine ai.store HS rfl rfl rfl 1 rfl aYu rfl rfl rfl (vs':=[.bool jQ,.slice jG jO jJ]) rfl rfl (listed' := #[true,true,true,true,true,true,true,true,true,true,true,true,false,false]) rfl (fun JZ HS => ?_) ai.nil
    refine ⟨(fun h=>absurd (h 11 (.head _)) (by decide)),?_⟩
    refine JR.any [12] (by kernel_rfl) rfl ?_
    refine ai.store HS rfl rfl rfl 0 rfl aYu rfl rfl rfl (vs':=[.bool jX,.slice jT jW jU]) rfl rfl (listed' := #[true,true,true,true,true,true,true,true,true,true,true,true,true,false]) rfl (fun J3 HS => ?_) ai.nil
    refine ⟨(fun h=>absurd (h 11 (.head _)) (by decide)),?_⟩
    refine JR.val (v := .int .i64 0) 13 rfl (by kernel_rfl) (by kernel_rfl) (by kernel_rfl) (by kernel_rfl) (fun _ _ _ h=>h) rfl rfl rfl (fun h=>absurd (h 11 (.head _)) (by decide)) (fun a ha w=>run_assign (ha.ev rfl)) (listed' := #[true,true,true,true,true,true,true,true,true,true,true,true,true,true]) rfl ?_
    exact JR.meet (by kernel_rfl) (xW,xN,xU,xO,jQ,jG,jO,jJ,jX,jT,jW,jU,xI,xJ) (bz rfl (bz rfl (bz rfl (bz rfl (bz rfl (bz rfl (bz rfl (bz rfl (bz rfl (bz rfl (bz rfl (bz rfl (bz rfl (bz rfl (bz rfl (bz rfl (bz rfl (bz rfl (bz rfl (bz rfl (bz rfl (bz rfl (bz rfl (bz rfl (bz rfl (bz rfl (bz rfl (bz rfl (bz rfl (bz rfl (bz rfl (bz rfl (bz rfl (bz rfl (bz rfl (Ei)))))))))))))))))))))))))))))))))))) HS
   refine ai.alloc (vs:=[.bool false,.slice none 0 0]) HS rfl rfl aYw rfl rfl (listed' := #[true,true,false,true,false,false,false,false,false,false,true,false,false,false]) rfl (fun xJ Qz HS => ?_) ai.nil
   refine ⟨(fun _ b hb=>HS.box b (.tail _ (hb))),?_⟩
   refine JR.any [2,9] (by kernel_rfl) rfl ?_
   refine ai.call rfl rfl rfl aZj (Tu HT HB HS (HS.at_ 0 rfl) (HS.at_ 2 rfl) (by omega)) (listed' := #[true,true,true,true,false,false,false,false,false,false,true,false,false,false]) rfl (fun JW JY yQ => ?_) ?_
   ·skip
    obtain ⟨xW,xN,xU,xO,rfl,HS⟩:=yQ
    refine ⟨(fun _ b hb=>HS.box b (.tail _ (hb))),?_⟩
    refine JR.any [4,9] (by kernel_rfl) rfl ?_
    refine ai.call rfl rfl rfl aY4 (JJ HT HB HS (HS.at_ 0 rfl) (HS.at_ 2 rfl) (by omega) (tJ _)) (listed' := #[true,true,true,true,true,false,false,false,false,false,true,false,false,false]) rfl (fun Lc Lu zG => ?_) ?_
    ·skip
     obtain ⟨jQ,jG,jO,jJ,jX,jT,jW,jU,rfl,HS⟩:=zG
     refine ⟨(fun _ b hb=>HS.box b (.tail _ (hb))),?_⟩
     refine JR.val (v := .tuple #[.agg #[.bool jQ,.slice jG jO jJ],.agg #[.bool jX,.slice jT jW jU],.int .i64 0]) 5 rfl (by kernel_rfl) (by kernel_rfl) (by kernel_rfl) (by kernel_rfl) (fun _ _ _ h=>h) rfl rfl rfl (fun _ b hb=>HS.box b (.tail _ (hb))) (fun a ha w=>run_move (ha.ev rfl)) (listed' := #[true,true,true,true,true,true,false,false,false,false,true,false,false,false]) rfl ?_
     refine JR.val (v := .agg #[.bool jQ,.slice jG jO jJ]) 6 rfl (by kernel_rfl) (by kernel_rfl) (by kernel_rfl) (by kernel_rfl) (fun _ _ _ h=>h) rfl rfl rfl (fun _ b hb=>HS.box b (.tail _ (hb))) (fun a ha w=>bK (ha.ev rfl) rfl) (listed' := #[true,true,true,true,true,true,true,false,false,false,true,false,false,false]) rfl ?_
     refine JR.val (v := .agg #[.bool jX,.slice jT jW jU]) 7 rfl (by kernel_rfl) (by kernel_rfl) (by kernel_rfl) (by kernel_rfl) (fun _ _ _ h=>h) rfl rfl rfl (fun _ b hb=>HS.box b (.tail _ (hb))) (fun a ha w=>bK (ha.ev rfl) rfl) (listed' := #[true,true,true,true,true,true,true,true,false,false,true,false,false,false]) rfl ?_
     refine JR.val (v := .int .i64 0) 8 rfl (by kernel_rfl) (by kernel_rfl) (by kernel_rfl) (by kernel_rfl) (fun _ _ _ h=>h) rfl rfl rfl (fun _ b hb=>HS.box b (.tail _ (hb))) (fun a ha w=>bK (ha.ev rfl) rfl) (listed' := #[true,true,true,true,true,true,true,true,true,false,true,false,false,false]) rfl ?_
     refine JR.any [9] (by kernel_rfl) rfl ?_
     refine ai.alloc (vs:=[.bool false,.slice none 0 0]) HS rfl rfl aYw rfl rfl (listed' := #[true,true,true,true,true,true,true,true,true,true,true,false,false,false]) rfl (fun xI LD HS => ?_) ai.nil
     refine ⟨(fun _ b hb=>HS.box b (.tail _ (.tail _ (hb)))),?_⟩
     refine JR.any [11] (by kernel_rfl) rfl ?_
     refine ai.store HS rfl rfl rfl 0 rfl aYu rfl rfl rfl (vs':=[.bool jQ,.slice jG jO jJ]) rfl rfl (listed' := #[true,true,true,true,true,true,true,true,true,true,true,true,false,false]) rfl (fun JZ HS => ?_) ai.nil
     refine ⟨(fun h=>absurd (h 11 (.head _)) (by decide)),?_⟩
     refine JR.any [12] (by kernel_rfl) rfl ?_
     refine ai.store HS rfl rfl rfl 1 rfl aYu rfl rfl rfl (vs':=[.bool jX,.slice jT jW jU]) rfl rfl (listed' := #[true,true,true,true,true,true,true,true,true,true,true,true,true,false]) rfl (fun J3 HS => ?_) ai.nil
     refine ⟨(fun h=>absurd (h 11 (.head _)) (by decide)),?_⟩
     refine JR.val (v := .int .i64 0) 13 rfl (by kernel_rfl) (by kernel_rfl) (by kernel_rfl) (by kernel_rfl) (fun _ _ _ h=>h) rfl rfl rfl (fun h=>absurd (h 11 (.head _)) (by decide)) (fun a ha w=>run_assign (ha.ev rfl)) (listed' := #[true,true,true,true,true,true,true,true,true,true,true,true,true,true]) rfl ?_
     exact JR.meet (by kernel_rfl) (xW,xN,xU,xO,jQ,jG,jO,jJ,jX,jT,jW,jU,xI,xJ) (bz rfl (bz rfl (bz rfl (bz rfl (bz rfl (bz rfl (bz rfl (bz rfl (bz rfl (bz rfl (bz rfl (bz rfl (bz rfl (bz rfl (bz rfl (bz rfl (bz rfl (bz rfl (bz rfl (bz rfl (bz rfl (bz rfl (bz rfl (bz rfl (bz rfl (bz rfl (bz rfl (bz rfl (bz rfl (bz rfl (bz rfl (bz rfl (bz rfl (bz rfl (bz rfl (Ei)))))))))))))))))))))))))))))))))))) (HS.perm (.swap _ _ _))
    refine ai.alloc (vs:=[.bool false,.slice none 0 0]) HS rfl rfl aYw rfl rfl (listed' := #[true,true,true,true,false,false,false,false,false,true,true,false,false,false]) rfl (fun xI LD HS => ?_) ai.nil
    refine ⟨(fun _ b hb=>HS.box b (.tail _ (.tail _ (hb)))),?_⟩
    refine JR.any [4] (by kernel_rfl) rfl ?_
    refine ai.call rfl rfl rfl aY4 (JJ HT HB HS (HS.at_ 0 rfl) (HS.at_ 2 rfl) (by omega) (tJ _)) (listed' := #[true,true,true,true,true,false,false,false,false,true,true,false,false,false]) rfl (fun Lc Lu zG => ?_) ai.nil
    obtain ⟨jQ,jG,jO,jJ,jX,jT,jW,jU,rfl,HS⟩:=zG
    refine ⟨(fun _ b hb=>HS.box b (.tail _ (.tail _ (hb)))),?_⟩
    refine JR.val (v := .tuple #[.agg #[.bool jQ,.slice jG jO jJ],.agg #[.bool jX,.slice jT jW jU],.int .i64 0]) 5 rfl (by kernel_rfl) (by kernel_rfl) (by kernel_rfl) (by kernel_rfl) (fun _ _ _ h=>h) rfl rfl rfl (fun _ b hb=>HS.box b (.tail _ (.tail _ (hb)))) (fun a ha w=>run_move (ha.ev rfl)) (listed' := #[true,true,true,true,true,true,false,false,false,true,true,false,false,false]) rfl ?_
    refine JR.val (v := .agg #[.bool jQ,.slice jG jO jJ]) 6 rfl (by kernel_rfl) (by kernel_rfl) (by kernel_rfl) (by kernel_rfl) (fun _ _ _ h=>h) rfl rfl rfl (fun _ b hb=>HS.box b (.tail _ (.tail _ (hb)))) (fun a ha w=>bK (ha.ev rfl) rfl) (listed' := #[true,true,true,true,true,true,true,false,false,true,true,false,false,false]) rfl ?_
    refine JR.val (v := .agg #[.bool jX,.slice jT jW jU]) 7 rfl (by kernel_rfl) (by kernel_rfl) (by kernel_rfl) (by kernel_rfl) (fun _ _ _ h=>h) rfl rfl rfl (fun _ b hb=>HS.box b (.tail _ (.tail _ (hb)))) (fun a ha w=>bK (ha.ev rfl) rfl) (listed' := #[true,true,true,true,true,true,true,true,false,true,true,false,false,false]) rfl ?_
    refine JR.val (v := .int .i64 0) 8 rfl (by kernel_rfl) (by kernel_rfl) (by kernel_rfl) (by kernel_rfl) (fun _ _ _ h=>h) rfl rfl rfl (fun _ b hb=>HS.box b (.tail _ (.tail _ (hb)))) (fun a ha w=>bK (ha.ev rfl) rfl) (listed' := #[true,true,true,true,true,true,true,true,true,true,true,false,false,false]) rfl ?_
    refine JR.any [11] (by kernel_rfl) rfl ?_
    refine ai.store HS rfl rfl rfl 0 rfl aYu rfl rfl rfl (vs':=[.bool jQ,.slice jG jO jJ]) rfl rfl (listed' := #[true,true,true,true,true,true,true,true,true,true,true,true,false,false]) rfl (fun JZ HS => ?_) ai.nil
    refine ⟨(fun h=>absurd (h 11 (.head _)) (by decide)),?_⟩
    refine JR.any [12] (by kernel_rfl) rfl ?_
    refine ai.store HS rfl rfl rfl 1 rfl aYu rfl rfl rfl (vs':=[.bool jX,.slice jT jW jU]) rfl rfl (listed' := #[true,true,true,true,true,true,true,true,true,true,true,true,true,false]) rfl (fun J3 HS => ?_) ai.nil
    refine ⟨(fun h=>absurd (h 11 (.head _)) (by decide)),?_⟩
    refine JR.val (v := .int .i64 0) 13 rfl (by kernel_rfl) (by kernel_rfl) (by kernel_rfl) (by kernel_rfl) (fun _ _ _ h=>h) rfl rfl rfl (fun h=>absurd (h 11 (.head _)) (by decide)) (fun a ha w=>run_assign (ha.ev rfl)) (listed' := #[true,true,true,true,true,true,true,true,true,true,true,true,true,true]) rfl ?_
    exact JR.meet (by kernel_rfl) (xW,xN,xU,xO,jQ,jG,jO,jJ,jX,jT,jW,jU,xI,xJ) (bz rfl (bz rfl (bz rfl (bz rfl (bz rfl (bz rfl (bz rfl (bz rfl (bz rfl (bz rfl (bz rfl (bz rfl (bz rfl (bz rfl (bz rfl (bz rfl (bz rfl (bz rfl (bz rfl (bz rfl (bz rfl (bz rfl (bz rfl (bz rfl (bz rfl (bz rfl (bz rfl (bz rfl (bz rfl (bz rfl (bz rfl (bz rfl (bz rfl (bz rfl (bz rfl (Ei)))))))))))))))))))))))))))))))))))) (HS.perm (.swap _ _ _))
   refine ai.alloc (vs:=[.bool false,.slice none 0 0]) HS rfl rfl aYw rfl rfl (listed' := #[true,true,false,true,false,false,false,false,false,true,true,false,false,false]) rfl (fun xI LD HS => ?_) ai.nil
   refine ⟨(fun _ b hb=>HS.box b (.tail _ (.tail _ (hb)))),?_⟩
   refine JR.any [2] (by kernel_rfl) rfl ?_
   refine ai.call rfl rfl rfl aZj (Tu HT HB HS (HS.at_ 0 rfl) (HS.at_ 2 rfl) (by omega)) (listed' := #[true,true,true,true,false,false,false,false,false,true,true,false,false,false]) rfl (fun JW JY yQ => ?_) ai.nil
   obtain ⟨xW,xN,xU,xO,rfl,HS⟩:=yQ
   refine ⟨(fun _ b hb=>HS.box b (.tail _ (.tail _ (hb)))),?_⟩
   refine JR.any [4] (by kernel_rfl) rfl ?_
   refine ai.call rfl rfl rfl aY4 (JJ HT HB HS (HS.at_ 0 rfl) (HS.at_ 2 rfl) (by omega) (tJ _)) (listed' := #[true,true,true,true,true,false,false,false,false,true,true,false,false,false]) rfl (fun Lc Lu zG => ?_) ai.nil
   obtain ⟨jQ,jG,jO,jJ,jX,jT,jW,jU,rfl,HS⟩:=zG
   refine ⟨(fun _ b hb=>HS.box b (.tail _ (.tail _ (hb)))),?_⟩
   refine JR.val (v := .tuple #[.agg #[.bool jQ,.slice jG jO jJ],.agg #[.bool jX,.slice jT jW jU],.int .i64 0]) 5 rfl (by kernel_rfl) (by kernel_rfl) (by kernel_rfl) (by kernel_rfl) (fun _ _ _ h=>h) rfl rfl rfl (fun _ b hb=>HS.box b (.tail _ (.tail _ (hb)))) (fun a ha w=>run_move (ha.ev rfl)) (listed' := #[true,true,true,true,true,true,false,false,false,true,true,false,false,false]) rfl ?_
   refine JR.val (v := .agg #[.bool jQ,.slice jG jO jJ]) 6 rfl (by kernel_rfl) (by kernel_rfl) (by kernel_rfl) (by kernel_rfl) (fun _ _ _ h=>h) rfl rfl rfl (fun _ b hb=>HS.box b (.tail _ (.tail _ (hb)))) (fun a ha w=>bK (ha.ev rfl) rfl) (listed' := #[true,true,true,true,true,true,true,false,false,true,true,false,false,false]) rfl ?_
   refine JR.val (v := .agg #[.bool jX,.slice jT jW jU]) 7 rfl (by kernel_rfl) (by kernel_rfl) (by kernel_rfl) (by kernel_rfl) (fun _ _ _ h=>h) rfl rfl rfl (fun _ b hb=>HS.box b (.tail _ (.tail _ (hb)))) (fun a ha w=>bK (ha.ev rfl) rfl) (listed' := #[true,true,true,true,true,true,true,true,false,true,true,false,false,false]) rfl ?_
   refine JR.val (v := .int .i64 0) 8 rfl (by kernel_rfl) (by kernel_rfl) (by kernel_rfl) (by kernel_rfl) (fun _ _ _ h=>h) rfl rfl rfl (fun _ b hb=>HS.box b (.tail _ (.tail _ (hb)))) (fun a ha w=>bK (ha.ev rfl) rfl) (listed' := #[true,true,true,true,true,true,true,true,true,true,true,false,false,false]) rfl ?_
   refine JR.any [11] (by kernel_rfl) rfl ?_
   refine ai.store HS rfl rfl rfl 0 rfl aYu rfl rfl rfl (vs':=[.bool jQ,.slice jG jO jJ]) rfl rfl (listed' := #[true,true,true,true,true,true,true,true,true,true,true,true,false,false]) rfl (fun JZ HS => ?_) ai.nil
   refine ⟨(fun h=>absurd (h 11 (.head _)) (by decide)),?_⟩
   refine JR.any [12] (by kernel_rfl) rfl ?_
   refine ai.store HS rfl rfl rfl 1 rfl aYu rfl rfl rfl (vs':=[.bool jX,.slice jT jW jU]) rfl rfl (listed' := #[true,true,true,true,true,true,true,true,true,true,true,true,true,false]) rfl (fun J3 HS => ?_) ai.nil
   refine ⟨(fun h=>absurd (h 11 (.head _)) (by decide)),?_⟩
   refine JR.val (v := .int .i64 0) 13 rfl (by kernel_rfl) (by kernel_rfl) (by kernel_rfl) (by kernel_rfl) (fun _ _ _ h=>h) rfl rfl rfl (fun h=>absurd (h 11 (.head _)) (by decide)) (fun a ha w=>run_assign (ha.ev rfl)) (listed' := #[true,true,true,true,true,true,true,true,true,true,true,true,true,true]) rfl ?_
   exact JR.meet (by kernel_rfl) (xW,xN,xU,xO,jQ,jG,jO,jJ,jX,jT,jW,jU,xI,xJ) (bz rfl (bz rfl (bz rfl (bz rfl (bz rfl (bz rfl (bz rfl (bz rfl (bz rfl (bz rfl (bz rfl (bz rfl (bz rfl (bz rfl (bz rfl (bz rfl (bz rfl (bz rfl (bz rfl (bz rfl (bz rfl (bz rfl (bz rfl (bz rfl (bz rfl (bz rfl (bz rfl (bz rfl (bz rfl (bz rfl (bz rfl (bz rfl (bz rfl (bz rfl (bz rfl (Ei)))))))))))))))))))))))))))))))))))) (HS.perm (.swap _ _ _))
  ·skip
   rintro ⟨xW,xN,xU,xO,jQ,jG,jO,jJ,jX,jT,jW,jU,xI,xJ⟩ ako HS
   refine JC.sub (T':=[(0,.agg #[.bool s1,.slice A1 n1 c1,.slice B1 m1 d1]),(1,.int .i64 (m2:Int)),(2,.pointer (some ⟨g1,0,none⟩)),(4,.pointer (some ⟨g2,0,none⟩)),(5,.int .i64 0),(6,.pointer (some ⟨g4,0,none⟩)),(7,.pointer (some ⟨g10,0,none⟩)),(8,.pointer (some ⟨g11,0,none⟩)),(9,.pointer (some ⟨xI,0,none⟩)),(10,.pointer (some ⟨xJ,0,none⟩)),(11,.int .i64 0),(12,.int .i64 (m2:Int)),(13,.bool false),(14,.bool false),(15,.int .i64 (m2:Int)),(16,.bool false),(17,.bool false),(19,.agg #[.bool s3,.slice A3 n3 c3]),(20,.int .i64 (m2:Int)),(21,.int .i64 (m2:Int)),(22,.bool (decide ((m2:Int) < (m2:Int)))),(27,.tuple #[.agg #[.bool DJ,.slice Dt DC Dx],.agg #[.bool DK,.slice Du DD c9b]]),(28,.agg #[.bool s1,.slice A1 n1 c1,.slice B1 m1 d1]),(29,.tuple #[.agg #[.bool DJ,.slice Dt DC Dx],.agg #[.bool DK,.slice Du DD c9b]]),(30,.agg #[.bool DJ,.slice Dt DC Dx]),(31,.agg #[.bool DK,.slice Du DD c9b]),(32,.tuple #[.agg #[.bool jQ,.slice jG jO jJ],.agg #[.bool jX,.slice jT jW jU],.int .i64 0]),(33,.agg #[.bool DJ,.slice Dt DC Dx]),(34,.agg #[.bool s,.slice A n c]),(35,.agg #[.bool xW,.slice xN xU xO]),(36,.agg #[.bool DK,.slice Du DD c9b]),(37,.tuple #[.agg #[.bool jQ,.slice jG jO jJ],.agg #[.bool jX,.slice jT jW jU],.int .i64 0]),(38,.agg #[.bool jQ,.slice jG jO jJ]),(39,.agg #[.bool jX,.slice jT jW jU]),(40,.int .i64 0)]) (fun _ _ h=>h) ?_
   have HS:St W0 (⟨xJ,39,[.bool jX,.slice jT jW jU]⟩ :: ⟨xI,39,[.bool jQ,.slice jG jO jJ]⟩ :: ⟨g11,39,[.bool DK,.slice Du DD c9b]⟩ :: ⟨g10,39,[.bool DJ,.slice Dt DC Dx]⟩ :: ⟨g4,39,[.bool s,.slice A n c]⟩ :: ⟨g2,24,[.bool false,.slice none 0 0,.slice none 0 0]⟩ :: ⟨g1,24,[.bool s1,.slice A1 n1 c1,.slice B1 m1 d1]⟩ :: U) (FI (.agg #[.bool jQ,.slice jG jO jJ]) ((q1.num*((2 ^ m2:Nat):Int)) / (q1.den:Int)) (((k1+2)+9+1)+1) :: FI (.agg #[.bool jX,.slice jT jW jU]) ((q1.num*((2 ^ m2:Nat):Int)) % (q1.den:Int)) (k1+2) :: FI (.agg #[.bool xW,.slice xN xU xO]) (q1.num*((2 ^ m2:Nat):Int)) ((k1+2)+9+1) :: FI (.agg #[.bool DJ,.slice Dt DC Dx]) q1.num (k1+2) :: FI (.agg #[.bool DK,.slice Du DD c9b]) (q1.den:Int) (k1+2) :: FI (.agg #[.bool s,.slice A n c]) ((2 ^ m2:Nat):Int) 9 :: FI (.agg #[.bool s3,.slice A3 n3 c3]) 1 2 :: FV (.agg #[.bool s1,.slice A1 n1 c1,.slice B1 m1 d1]) q1 k1 b1 :: Ps) ako:=HS
   refine JC.seq ?_
   refine JC.region ?_
   refine JL.load (.agg #[.bool jQ,.slice jG jO jJ]) HS 1 rfl rfl rfl aYy aYu rfl rfl ?_
   refine JL.load (.agg #[.bool s,.slice A n c]) HS 4 rfl rfl rfl aYy aYu rfl rfl ?_
   refine JL.call rfl rfl aZk (Tt HT HB HS (HS.at_ 0 rfl) (HS.at_ 5 rfl) (by omega) (two_pos _)) (fun v16 w16 Iq => ?_)
   obtain ⟨s16,A16,n16,c16,B16,m16,d16,rfl,HS⟩:=Iq
   refine JL.val (v := .agg #[.bool s16,.slice A16 n16 c16,.slice B16 m16 d16]) rfl rfl rfl (fun a ha=>bK (ha.ev rfl) rfl) ?_
   refine JL.val (v := .int .i64 0) rfl rfl rfl (fun a ha=>bK (ha.ev rfl) rfl) ?_
   refine JL.store HS rfl rfl (i:=5) rfl aYn rfl rfl rfl (vs':=[.bool s16,.slice A16 n16 c16,.slice B16 m16 d16]) rfl rfl (fun LH HS => ?_)
   refine JL.val (v := .int .i64 0) rfl rfl rfl (fun a ha=>run_assign (ha.ev rfl)) ?_
   refine JL.next (fun _ _ h=>h) ?_
   refine JC.ret (fun a ha => ?_)
   repeat (first | refine dh ?_ | refine df ?_)
   refine vI (v := .agg #[.bool s16,.slice A16 n16 c16,.slice B16 m16 d16]) (v' := .int .i64 0) ha Tryz.results18 (.agg rfl aYp aYn (HS.box _ (.tail _ (.tail _ (.tail _ (.tail _ (.tail _ (.head _))))))) rfl rfl) (.tmp rfl) ⟨_,rfl,?_⟩
   exact ⟨_,_,_,_,_,_,_,rfl,HS.out 7 9 0 rfl rfl rfl (fun _ h=>h.as rfl (by omega))⟩
end
end Go.Proofs.YtbihljnjaondcaaGreatDoor
namespace Lw
open Go Go.RowKit bZ
theorem ayJ (a b:Int) (hb:0 < b):(Rat.divInt a b).floor=a / b:=by
 have h1:(Rat.divInt a b).num*b=a*((Rat.divInt a b).den:Int):=by
  have:=Rat.num_divInt_den (Rat.divInt a b)
  exact (Rat.divInt_eq_divInt_iff (by have:=(Rat.divInt a b).den_nz; omega) (by omega)).1 this
 have hd:0 < ((Rat.divInt a b).den:Int):=by have:=(Rat.divInt a b).den_nz; omega
 rw [Rat.floor_def]
 generalize (Rat.divInt a b).num=n at *
 generalize ((Rat.divInt a b).den:Int)=d at *
 rw [← Int.mul_ediv_mul_of_pos n d hb,← Int.mul_ediv_mul_of_pos a b hd,Int.mul_comm b n,h1,Int.mul_comm b d,Int.mul_comm d a]
theorem ao3 (q:Rat) (z:Int):q*Rat.divInt z 1=Rat.divInt (q.num*z) (q.den:Int):=by
 have:=Rat.divInt_mul_divInt q.num z (d₁:=(q.den:Int)) (d₂:=1)
 rw [Rat.num_divInt_den,Int.mul_one] at this
 exact this
theorem aq3 {q:Rat} {u:Int} (hq:0≤q):Rat.divInt (((uJ q u:Nat):Int)*((uJ q u:Nat):Int)) 1 < q*Rat.divInt (u*u) 1↔yS q u=false:=by
 have hd:0 < (q.den:Int):=by have:=q.den_nz; omega
 rw [ao3,PD (by decide) hd,Int.mul_one]
 unfold yS
 have hn:=aeh (u:=u) hq
 have h1:=OG (q.num*(u*u) / (q.den:Int)).natAbs
 rw [show rt (q.num*(u*u) / (q.den:Int)).natAbs=uJ q u from rfl] at h1
 have h2:((uJ q u:Nat):Int)*((uJ q u:Nat):Int)≤q.num*(u*u) / (q.den:Int):=by
  have:(((uJ q u*uJ q u:Nat)):Int)≤((q.num*(u*u) / (q.den:Int)).natAbs:Int):=by exact_mod_cast h1
  rw [Int.natCast_mul] at this
  omega
 have h3:=Int.mul_ediv_add_emod (q.num*(u*u)) (q.den:Int)
 have h4:=Int.emod_nonneg (q.num*(u*u)) (show (q.den:Int)≠0 by omega)
 generalize ((uJ q u:Nat):Int)*((uJ q u:Nat):Int)=R at *
 generalize q.num*(u*u) / (q.den:Int)=F at *
 generalize q.num*(u*u) % (q.den:Int)=r at *
 generalize q.num*(u*u)=Z at *
 generalize (q.den:Int)=D at *
 rw [Bool.and_eq_false_iff,decide_eq_false_iff_not,decide_eq_false_iff_not]
 constructor
 ·intro h
  by_cases e:r=0
  ·right
   intro e2
   subst e e2
   rw [Int.add_zero,Int.mul_comm] at h3
   omega
  ·exact .inl e
 ·intro h
  have h5:=Int.mul_le_mul_of_nonneg_right h2 (show 0≤D by omega)
  rw [Int.mul_comm F D] at h5
  rcases h with h | h
  ·omega
  ·have h6:R+1≤F:=by omega
   have h7:=Int.mul_le_mul_of_nonneg_right h6 (show 0≤D by omega)
   rw [Int.add_mul,Int.mul_comm F D] at h7
   omega
theorem acr (q:Rat) (z:Int):(q*Rat.divInt z 1).floor=q.num*z / (q.den:Int):=by
 rw [ao3]
 exact ayJ (q.num*z) (q.den:Int) (by have:=q.den_nz; omega)
theorem amU {q:Rat} {u:Int} (h:0≤q):0≤(q*Rat.divInt (u*u) 1).floor:=by
 rw [acr]; exact aeh h
theorem aq4 (q:Rat) (m:Nat):Rat.divInt ((rt (q*Rat.divInt (((2 ^ m:Nat):Int)*((2 ^ m:Nat):Int)) 1).floor.natAbs:Nat):Int) ((2 ^ m:Nat):Int)=xe q m:=by
 unfold xe uJ; rw [acr]
theorem aEP {q:Rat} {m:Nat} (hq:0≤q) (h:decide (Rat.divInt (((rt (q*Rat.divInt (((2 ^ m:Nat):Int)*((2 ^ m:Nat):Int)) 1).floor.natAbs:Nat):Int)*((rt (q*Rat.divInt (((2 ^ m:Nat):Int)*((2 ^ m:Nat):Int)) 1).floor.natAbs:Nat):Int)) 1 < q*Rat.divInt (((2 ^ m:Nat):Int)*((2 ^ m:Nat):Int)) 1)=true) :
  Rat.divInt (((rt (q*Rat.divInt (((2 ^ m:Nat):Int)*((2 ^ m:Nat):Int)) 1).floor.natAbs:Nat):Int)+1) ((2 ^ m:Nat):Int)=vY q m:=by
 rw [acr] at h ⊢
 exact aqY ((aq3 hq).1 (of_decide_eq_true h))
theorem aEO {q:Rat} {m:Nat} (hq:0≤q) (h:decide (Rat.divInt (((rt (q*Rat.divInt (((2 ^ m:Nat):Int)*((2 ^ m:Nat):Int)) 1).floor.natAbs:Nat):Int)*((rt (q*Rat.divInt (((2 ^ m:Nat):Int)*((2 ^ m:Nat):Int)) 1).floor.natAbs:Nat):Int)) 1 < q*Rat.divInt (((2 ^ m:Nat):Int)*((2 ^ m:Nat):Int)) 1)=false) :
  Rat.divInt ((rt (q*Rat.divInt (((2 ^ m:Nat):Int)*((2 ^ m:Nat):Int)) 1).floor.natAbs:Nat):Int) ((2 ^ m:Nat):Int)=vY q m:=by
 rw [acr] at h ⊢
 refine aqZ ?_
 have h1:=of_decide_eq_false h
 have h2:=mt (aq3 hq).2 h1
 simpa using h2
end Lw
namespace Go.Proofs.YtbihljnjaondcaaGreatDoor
open Go Go.RowKit Lw bZ
section
variable {W0 w:World} {U:List Box} {Ps:List (World→Prop)}
variable {ax:Bool} {ay:Option Addr} {aj c1a:Nat} {az:Option Addr} {ak aA:Nat} {aB:Bool} {aC:Option Addr} {n1b aG:Nat} {aF:Option Addr} {au aH:Nat}
set_option maxHeartbeats 400000 in
theorem aGS (HT:Tz W0) (HB:Tab W0) {z2:Int} {af:Rat} {bC:Nat} {bu:Bool} {ah:Rat} {bD:Nat} {bn:Bool} (HS:St W0 U Ps w) (f1a:FV (a0p ax ay aj c1a az ak aA) af bC bu w) (bI:FV (a0p aB aC n1b aG aF au aH) ah bD bn w) (hz:z2 < 0):bY Tryz.prog 66 [(a0r ax ay aj c1a az ak aA aB aC n1b aG aF au aH),.int .i64 z2] w (iP W0 U Ps (.tuple #[fO,.iface 74 (.int .i64 3)])):=by
 have HS:=HS.add (FV.stable _ _ _ _) f1a
 have HS:=HS.add (FV.stable _ _ _ _) bI
 clear f1a bI
 refine iL Tryz.func66 rfl Tryz.ntmps66 rfl ?_
 refine JC.seq ?_
 refine JC.region ?_
 refine JL.box (vs:=(a0s ax ay aj c1a az ak aA aB aC n1b aG aF au aH)) HS rfl rfl rfl rfl (fun g1 w1 HS => ?_)
 refine JL.alloc (vs:=cO) HS rfl aYt rfl rfl (fun g2 w2 HS => ?_)
 refine Lv (.nilIface) (fun a ha=>run_assign (ha.ev rfl)) ?_
 refine jn ?_
 refine JC.seq ?_
 refine JC.seq ?_
 refine JC.region ?_
 refine Lv (.int .i64 z2) (fun a ha=>run_move (ha.ev rfl)) ?_
 refine Lv (.bool true) (fun a ha=>qX (ha.ev rfl) (ha.ev rfl) (decide_eq_true hz)) ?_
 refine Lv (.bool true) (fun a ha=>run_move (ha.ev rfl)) ?_
 refine Lp ?_
 refine Lp ?_
 refine Lv (.bool true) (fun a ha=>eY (ha.ev rfl) (ha.ev rfl)) ?_
 refine jn ?_
 refine JC.iy rfl ?_
 refine JC.seq ?_
 refine JC.region ?_
 refine Lv fO (fun a ha=>bZ.run_build (vs:=[]) (by simp only [List.map_cons,List.map_nil]) aYr aYt pV rfl) ?_
 refine Lv (.iface 74 (.int .i64 3)) (fun a ha=>OH (ha.ev rfl) (by kernel_rfl)) ?_
 refine JL.store HS rfl rfl (i:=0) rfl aYo rfl rfl rfl (vs':=cO) rfl rfl (fun w3 HS => ?_)
 refine Lv (.iface 74 (.int .i64 3)) (fun a ha=>run_assign (ha.ev rfl)) ?_
 refine jn ?_
 refine JC.ret (fun a ha => ?_)
 repeat (first | refine dh ?_ | refine df ?_)
 refine vI (v:=fO) (v' := .iface 74 (.int .i64 3)) ha Tryz.results66 (.agg rfl aYq aYo (HS.box _ (.head _)) rfl rfl) (.tmp rfl) ⟨_,rfl,?_⟩
 exact ⟨rfl,HS.gy 2 2 rfl rfl⟩
set_option maxHeartbeats 400000 in
theorem aGR (HT:Tz W0) (HB:Tab W0) {z2:Int} {af:Rat} {bC:Nat} {bu:Bool} {ah:Rat} {bD:Nat} {bn:Bool} (HS:St W0 U Ps w) (f1a:FV (a0p ax ay aj c1a az ak aA) af bC bu w) (bI:FV (a0p aB aC n1b aG aF au aH) ah bD bn w) (hz:256 < z2):bY Tryz.prog 66 [(a0r ax ay aj c1a az ak aA aB aC n1b aG aF au aH),.int .i64 z2] w (iP W0 U Ps (.tuple #[fO,.iface 74 (.int .i64 3)])):=by
 have HS:=HS.add (FV.stable _ _ _ _) f1a
 have HS:=HS.add (FV.stable _ _ _ _) bI
 clear f1a bI
 refine iL Tryz.func66 rfl Tryz.ntmps66 rfl ?_
 refine JC.seq ?_
 refine JC.region ?_
 refine JL.box (vs:=(a0s ax ay aj c1a az ak aA aB aC n1b aG aF au aH)) HS rfl rfl rfl rfl (fun g1 w1 HS => ?_)
 refine JL.alloc (vs:=cO) HS rfl aYt rfl rfl (fun g2 w2 HS => ?_)
 refine Lv (.nilIface) (fun a ha=>run_assign (ha.ev rfl)) ?_
 refine jn ?_
 refine JC.seq ?_
 refine JC.seq ?_
 refine JC.region ?_
 refine Lv (.int .i64 z2) (fun a ha=>run_move (ha.ev rfl)) ?_
 refine Lv (.bool false) (fun a ha=>qX (ha.ev rfl) (ha.ev rfl) (decide_eq_false (by omega))) ?_
 refine Lv (.bool false) (fun a ha=>run_move (ha.ev rfl)) ?_
 refine Lg (.int .i64 z2) (fun a ha=>run_move (ha.ev rfl)) ?_
 refine Lg (.bool true) (fun a ha=>wH (ha.ev rfl) (ha.ev rfl) (decide_eq_true hz)) ?_
 refine Lv (.bool true) (fun a ha=>gB (ha.ev rfl) (ha.ev rfl)) ?_
 refine jn ?_
 refine JC.iy rfl ?_
 refine JC.seq ?_
 refine JC.region ?_
 refine Lv fO (fun a ha=>bZ.run_build (vs:=[]) (by simp only [List.map_cons,List.map_nil]) aYr aYt pV rfl) ?_
 refine Lv (.iface 74 (.int .i64 3)) (fun a ha=>OH (ha.ev rfl) (by kernel_rfl)) ?_
 refine JL.store HS rfl rfl (i:=0) rfl aYo rfl rfl rfl (vs':=cO) rfl rfl (fun w3 HS => ?_)
 refine Lv (.iface 74 (.int .i64 3)) (fun a ha=>run_assign (ha.ev rfl)) ?_
 refine jn ?_
 refine JC.ret (fun a ha => ?_)
 repeat (first | refine dh ?_ | refine df ?_)
 refine vI (v:=fO) (v' := .iface 74 (.int .i64 3)) ha Tryz.results66 (.agg rfl aYq aYo (HS.box _ (.head _)) rfl rfl) (.tmp rfl) ⟨_,rfl,?_⟩
 exact ⟨rfl,HS.gy 2 2 rfl rfl⟩
end
end Go.Proofs.YtbihljnjaondcaaGreatDoor
namespace Go.Proofs.YtbihljnjaondcaaGreatDoor
open Go Go.RowKit Lw bZ
section
variable {W0 w:World} {U:List Box} {Ps:List (World→Prop)}
variable {ax:Bool} {ay:Option Addr} {aj c1a:Nat} {az:Option Addr} {ak aA:Nat} {aB:Bool} {aC:Option Addr} {n1b aG:Nat} {aF:Option Addr} {au aH:Nat}
set_option maxHeartbeats 400000 in
theorem aGV (HT:Tz W0) (HB:Tab W0) {z2:Int} {af:Rat} {bC:Nat} {bu:Bool} {ah:Rat} {bD:Nat} {bn:Bool} (HS:St W0 U Ps w) (f1a:FV (a0p ax ay aj c1a az ak aA) af bC bu w) (bI:FV (a0p aB aC n1b aG aF au aH) ah bD bn w) (hz:z2 < 0):bY Tryz.prog 67 [(a0r ax ay aj c1a az ak aA aB aC n1b aG aF au aH),.int .i64 z2] w (iP W0 U Ps (.tuple #[fO,.iface 74 (.int .i64 3)])):=by
 have HS:=HS.add (FV.stable _ _ _ _) f1a
 have HS:=HS.add (FV.stable _ _ _ _) bI
 clear f1a bI
 refine iL aZ3 rfl aZ4 rfl ?_
 refine JC.seq ?_
 refine JC.region ?_
 refine JL.box (vs:=(a0s ax ay aj c1a az ak aA aB aC n1b aG aF au aH)) HS rfl rfl rfl rfl (fun g1 w1 HS => ?_)
 refine JL.alloc (vs:=cO) HS rfl aYt rfl rfl (fun g2 w2 HS => ?_)
 refine Lv (.nilIface) (fun a ha=>run_assign (ha.ev rfl)) ?_
 refine jn ?_
 refine JC.seq ?_
 refine JC.seq ?_
 refine JC.region ?_
 refine Lv (.int .i64 z2) (fun a ha=>run_move (ha.ev rfl)) ?_
 refine Lv (.bool true) (fun a ha=>qX (ha.ev rfl) (ha.ev rfl) (decide_eq_true hz)) ?_
 refine Lv (.bool true) (fun a ha=>run_move (ha.ev rfl)) ?_
 refine Lp ?_
 refine Lp ?_
 refine Lv (.bool true) (fun a ha=>eY (ha.ev rfl) (ha.ev rfl)) ?_
 refine jn ?_
 refine JC.iy rfl ?_
 refine JC.seq ?_
 refine JC.region ?_
 refine Lv fO (fun a ha=>bZ.run_build (vs:=[]) (by simp only [List.map_cons,List.map_nil]) aYr aYt pV rfl) ?_
 refine Lv (.iface 74 (.int .i64 3)) (fun a ha=>OH (ha.ev rfl) (by kernel_rfl)) ?_
 refine JL.store HS rfl rfl (i:=0) rfl aYo rfl rfl rfl (vs':=cO) rfl rfl (fun w3 HS => ?_)
 refine Lv (.iface 74 (.int .i64 3)) (fun a ha=>run_assign (ha.ev rfl)) ?_
 refine jn ?_
 refine JC.ret (fun a ha => ?_)
 repeat (first | refine dh ?_ | refine df ?_)
 refine vI (v:=fO) (v' := .iface 74 (.int .i64 3)) ha Tryz.results67 (.agg rfl aYq aYo (HS.box _ (.head _)) rfl rfl) (.tmp rfl) ⟨_,rfl,?_⟩
 exact ⟨rfl,HS.gy 2 2 rfl rfl⟩
set_option maxHeartbeats 400000 in
theorem aGU (HT:Tz W0) (HB:Tab W0) {z2:Int} {af:Rat} {bC:Nat} {bu:Bool} {ah:Rat} {bD:Nat} {bn:Bool} (HS:St W0 U Ps w) (f1a:FV (a0p ax ay aj c1a az ak aA) af bC bu w) (bI:FV (a0p aB aC n1b aG aF au aH) ah bD bn w) (hz:256 < z2):bY Tryz.prog 67 [(a0r ax ay aj c1a az ak aA aB aC n1b aG aF au aH),.int .i64 z2] w (iP W0 U Ps (.tuple #[fO,.iface 74 (.int .i64 3)])):=by
 have HS:=HS.add (FV.stable _ _ _ _) f1a
 have HS:=HS.add (FV.stable _ _ _ _) bI
 clear f1a bI
 refine iL aZ3 rfl aZ4 rfl ?_
 refine JC.seq ?_
 refine JC.region ?_
 refine JL.box (vs:=(a0s ax ay aj c1a az ak aA aB aC n1b aG aF au aH)) HS rfl rfl rfl rfl (fun g1 w1 HS => ?_)
 refine JL.alloc (vs:=cO) HS rfl aYt rfl rfl (fun g2 w2 HS => ?_)
 refine Lv (.nilIface) (fun a ha=>run_assign (ha.ev rfl)) ?_
 refine jn ?_
 refine JC.seq ?_
 refine JC.seq ?_
 refine JC.region ?_
 refine Lv (.int .i64 z2) (fun a ha=>run_move (ha.ev rfl)) ?_
 refine Lv (.bool false) (fun a ha=>qX (ha.ev rfl) (ha.ev rfl) (decide_eq_false (by omega))) ?_
 refine Lv (.bool false) (fun a ha=>run_move (ha.ev rfl)) ?_
 refine Lg (.int .i64 z2) (fun a ha=>run_move (ha.ev rfl)) ?_
 refine Lg (.bool true) (fun a ha=>wH (ha.ev rfl) (ha.ev rfl) (decide_eq_true hz)) ?_
 refine Lv (.bool true) (fun a ha=>gB (ha.ev rfl) (ha.ev rfl)) ?_
 refine jn ?_
 refine JC.iy rfl ?_
 refine JC.seq ?_
 refine JC.region ?_
 refine Lv fO (fun a ha=>bZ.run_build (vs:=[]) (by simp only [List.map_cons,List.map_nil]) aYr aYt pV rfl) ?_
 refine Lv (.iface 74 (.int .i64 3)) (fun a ha=>OH (ha.ev rfl) (by kernel_rfl)) ?_
 refine JL.store HS rfl rfl (i:=0) rfl aYo rfl rfl rfl (vs':=cO) rfl rfl (fun w3 HS => ?_)
 refine Lv (.iface 74 (.int .i64 3)) (fun a ha=>run_assign (ha.ev rfl)) ?_
 refine jn ?_
 refine JC.ret (fun a ha => ?_)
 repeat (first | refine dh ?_ | refine df ?_)
 refine vI (v:=fO) (v' := .iface 74 (.int .i64 3)) ha Tryz.results67 (.agg rfl aYq aYo (HS.box _ (.head _)) rfl rfl) (.tmp rfl) ⟨_,rfl,?_⟩
 exact ⟨rfl,HS.gy 2 2 rfl rfl⟩
end
end Go.Proofs.YtbihljnjaondcaaGreatDoor
namespace Go.Proofs.YtbihljnjaondcaaGreatDoor
open Go Go.RowKit Lw bZ
section
variable {W0 w:World} {U:List Box} {Ps:List (World→Prop)}
variable {s1:Bool} {A1:Option Addr} {n1 c1:Nat} {B1:Option Addr} {m1 d1:Nat} {ax:Bool} {ay:Option Addr} {aj c1a:Nat} {az:Option Addr} {ak aA:Nat} {aB:Bool} {aC:Option Addr} {n1b aG:Nat} {aF:Option Addr} {au aH:Nat}
theorem aqL (HT:Tz W0) (HB:Tab W0) (HS:St W0 U Ps w) {s1:Bool} {A1:Option Addr} {n1 c1:Nat} {B1:Option Addr} {m1 d1:Nat} {q1:Rat} {k1:Nat} {b1:Bool} {m2:Nat} (f1:FV (a0p s1 A1 n1 c1 B1 m1 d1) q1 k1 b1 w) (hk:k1≤1000) (hm:m2≤256) :
  bY Tryz.prog 18 [(a0p s1 A1 n1 c1 B1 m1 d1),.int .i64 (m2:Int)] w (Bo W0 U Ps (NR q1 m2) (k1+60) (.int .i64 0)):=aEn HT HB HS f1 hk hm
set_option maxHeartbeats 400000 in
theorem aFj (HT:Tz W0) (HB:Tab W0) {m2:Nat} {q1:Rat} {k1:Nat} {b1:Bool} (HS:St W0 U Ps w) (f1:FV (a0p s1 A1 n1 c1 B1 m1 d1) q1 k1 b1 w) (hk:k1≤700) (hm:m2≤256):bY Tryz.prog 142 [(a0p s1 A1 n1 c1 B1 m1 d1),.int .i64 (m2:Int)] w (xY W0 U Ps (-(NR (-q1) m2)) (k1+1+60+1)):=by
 have HS:=HS.add (FV.stable _ _ _ _) f1
 clear f1
 refine iL Tryz.func142 rfl Tryz.ntmps142 rfl ?_
 refine JC.seq ?_
 refine JC.region ?_
 refine JL.box (vs:=(a0q s1 A1 n1 c1 B1 m1 d1)) HS rfl rfl rfl rfl (fun g1 w1 HS => ?_)
 refine JL.alloc (vs:=bU) HS rfl aYs rfl rfl (fun g2 w2 HS => ?_)
 refine jn ?_
 refine JC.seq ?_
 refine JC.region ?_
 refine JL.load (a0p s1 A1 n1 c1 B1 m1 d1) HS 1 rfl rfl rfl aYp aYn rfl rfl ?_
 refine JL.call rfl rfl a0a (aea HT HB HS (HS.at_ 0 rfl) (by omega)) (fun v3 w3 HR3 => ?_)
 obtain ⟨s3,A3,n3,c3,B3,m3,d3,rfl,HS⟩:=HR3
 refine Lv (.int .i64 (m2:Int)) (fun a ha=>run_move (ha.ev rfl)) ?_
 refine JL.call rfl rfl Tryz.call18 (aqL HT HB HS (HS.at_ 0 rfl) (by omega) (by omega)) (fun v4 w4 HR4 => ?_)
 obtain ⟨s4,A4,n4,c4,B4,m4,d4,rfl,HS⟩:=HR4
 refine Lv (.tuple #[(a0p s4 A4 n4 c4 B4 m4 d4),.int .i64 0]) (fun a ha=>run_move (ha.ev rfl)) ?_
 refine Lv (a0p s4 A4 n4 c4 B4 m4 d4) (fun a ha=>bK (ha.ev rfl) rfl) ?_
 refine Lv (.int .i64 0) (fun a ha=>bK (ha.ev rfl) rfl) ?_
 refine JL.alloc (vs:=bU) HS rfl aYs rfl rfl (fun g5 w5 HS => ?_)
 refine JL.store HS rfl rfl (i:=0) rfl aYn rfl rfl rfl (vs':=(a0q s4 A4 n4 c4 B4 m4 d4)) rfl rfl (fun w6 HS => ?_)
 refine Lv (.int .i64 0) (fun a ha=>run_assign (ha.ev rfl)) ?_
 refine jn ?_
 refine JC.seq ?_
 refine JC.region ?_
 refine JL.load (a0p s4 A4 n4 c4 B4 m4 d4) HS 0 rfl rfl rfl aYp aYn rfl rfl ?_
 refine JL.call rfl rfl a0a (aea HT HB HS (HS.at_ 0 rfl) (by omega)) (fun v7 w7 wM => ?_)
 obtain ⟨s7,A7,n7,c7,B7,m7,d7,rfl,HS⟩:=wM
 refine JL.store HS rfl rfl (i:=1) rfl aYn rfl rfl rfl (vs':=(a0q s7 A7 n7 c7 B7 m7 d7)) rfl rfl (fun w8 HS => ?_)
 refine jn ?_
 refine JC.ret (fun a ha => ?_)
 repeat (first | refine dh ?_ | refine df ?_)
 refine fG (v:=(a0p s7 A7 n7 c7 B7 m7 d7)) ha Tryz.results142 (.agg rfl aYp aYn (HS.box _ (.tail _ (.head _))) rfl rfl) ⟨_,rfl,?_⟩
 exact ⟨_,_,_,_,_,_,_,rfl,HS.out 3 4 0 rfl rfl rfl (fun _ h=>h.as rfl (by omega))⟩
set_option maxHeartbeats 400000 in
theorem aFa (HT:Tz W0) (HB:Tab W0) {m2:Nat} {af:Rat} {bC:Nat} {bu:Bool} {ah:Rat} {bD:Nat} {bn:Bool} (HS:St W0 U Ps w) (f1a:FV (a0p ax ay aj c1a az ak aA) af bC bu w) (bI:FV (a0p aB aC n1b aG aF au aH) ah bD bn w) (hk:bC+bD≤600) (hm:m2≤256):bY Tryz.prog 68 [(a0r ax ay aj c1a az ak aA aB aC n1b aG aF au aH),.int .i64 (m2:Int)] w (yY W0 U Ps (NR (bV bu bn af ah) m2) (-(NR (-(bW bu bn af ah)) m2)) (bC+bD+62) (.int .i64 0)):=by
 have HS:=HS.add (FV.stable _ _ _ _) f1a
 have HS:=HS.add (FV.stable _ _ _ _) bI
 clear f1a bI
 refine iL Tryz.func68 rfl Tryz.ntmps68 rfl ?_
 refine JC.seq ?_
 refine JC.region ?_
 refine JL.box (vs:=(a0s ax ay aj c1a az ak aA aB aC n1b aG aF au aH)) HS rfl rfl rfl rfl (fun g1 w1 HS => ?_)
 refine JL.alloc (vs:=cO) HS rfl aYt rfl rfl (fun g2 w2 HS => ?_)
 refine Lv (.int .i64 0) (fun a ha=>run_assign (ha.ev rfl)) ?_
 refine jn ?_
 refine JC.seq ?_
 refine JC.region ?_
 refine JL.load (a0r ax ay aj c1a az ak aA aB aC n1b aG aF au aH) HS 1 rfl rfl rfl aYq aYo rfl rfl ?_
 refine JL.call rfl rfl aYE (vT HT HB HS (HS.at_ 1 rfl) (HS.at_ 0 rfl) (by omega)) (fun v3 w3 HR3 => ?_)
 obtain ⟨jS,jZ,kK,kD,kz,kH,kF,l7,lK,lY,lS,lN,lW,lU,rfl,HS⟩:=HR3
 refine JL.store HS rfl rfl (i:=1) rfl aYo rfl rfl rfl (vs':=(a0s jS jZ kK kD kz kH kF l7 lK lY lS lN lW lU)) rfl rfl (fun w4 HS => ?_)
 refine jn ?_
 refine JC.seq ?_
 refine JC.region ?_
 refine Lv (.pointer (some ⟨g1,0,none⟩)) (fun a ha=>bH (ha.ev rfl) aYr rfl aYn rfl rfl) ?_
 refine JL.load (a0p jS jZ kK kD kz kH kF) HS 1 rfl rfl rfl aYp aYn rfl rfl ?_
 refine Lv (.int .i64 (m2:Int)) (fun a ha=>run_move (ha.ev rfl)) ?_
 refine JL.call rfl rfl Tryz.call18 (aqL HT HB HS (HS.at_ 0 rfl) (by omega) (by omega)) (fun v5 w5 vk => ?_)
 obtain ⟨s5,A5,n5,c5,B5,m5,d5,rfl,HS⟩:=vk
 refine Lv (.tuple #[(a0p s5 A5 n5 c5 B5 m5 d5),.int .i64 0]) (fun a ha=>run_move (ha.ev rfl)) ?_
 refine Lv (a0p s5 A5 n5 c5 B5 m5 d5) (fun a ha=>bK (ha.ev rfl) rfl) ?_
 refine Lv (.int .i64 0) (fun a ha=>bK (ha.ev rfl) rfl) ?_
 refine JL.alloc (vs:=bU) HS rfl aYs rfl rfl (fun g6 w6 HS => ?_)
 refine JL.store HS rfl rfl (i:=0) rfl aYn rfl rfl rfl (vs':=(a0q s5 A5 n5 c5 B5 m5 d5)) rfl rfl (fun w7 HS => ?_)
 refine Lv (.int .i64 0) (fun a ha=>run_assign (ha.ev rfl)) ?_
 refine jn ?_
 refine JC.seq ?_
 refine JC.seq ?_
 refine JC.region ?_
 refine Lv (.int .i64 0) (fun a ha=>run_move (ha.ev rfl)) ?_
 refine Lv (.bool false) (fun a ha=>ael (ha.ev rfl) (ha.ev rfl) (by decide)) ?_
 refine jn ?_
 refine JC.jA rfl ?_
 refine JC.jF (fun _ _ h=>h) ?_
 refine JC.seq ?_
 refine JC.draw HS [6] (by kernel_rfl) (fun w8 HS => ?_)
 refine Da (a0p s5 A5 n5 c5 B5 m5 d5) 0 0 rfl HS.b0 rfl rfl aYp aYn ?_
 refine Dv (.pointer (some ⟨g1,3,none⟩)) 1 rfl HS.b0 (fun a ha w=>bH (ha.ev rfl) aYr rfl aYn rfl rfl) ?_
 refine Da (a0p l7 lK lY lS lN lW lU) 2 2 rfl HS.b0 rfl rfl aYp aYn ?_
 refine Dv (.int .i64 (m2:Int)) 3 rfl HS.b0 (fun a ha w=>run_move (ha.ev rfl)) ?_
 refine bJ 4 rfl rfl rfl Tryz.call142 (aFj HT HB HS (HS.at_ 2 rfl) (by omega) (by omega)) (fun Fp Em wO => ?_)
 obtain ⟨pG,nP,nU,nS,Gv,G6,GK,rfl,HS⟩:=wO
 refine ⟨HS.b0,?_⟩
 refine Dv (a0r s5 A5 n5 c5 B5 m5 d5 pG nP nU nS Gv G6 GK) 5 rfl HS.b0 (fun a ha w=>bZ.run_build (vs:=[(0,(a0p s5 A5 n5 c5 B5 m5 d5)),(1,(a0p pG nP nU nS Gv G6 GK))]) (by simp only [List.map_cons,List.map_nil,ha.ev (x := .tmp 21) (v:=(a0p s5 A5 n5 c5 B5 m5 d5)) rfl,ha.ev (x := .tmp 25) (v:=(a0p pG nP nU nS Gv G6 GK)) rfl]) aYr aYt pV rfl) ?_
 refine bF 6 (a0s s5 A5 n5 c5 B5 m5 d5 pG nP nU nS Gv G6 GK) HS 1 rfl rfl rfl rfl aYo (fun _ HS=>⟨(eX (s:=6) rfl rfl),?_⟩)
 refine Dv (.int .i64 0) 7 rfl (eX (s:=6) rfl rfl) (fun a ha w=>run_assign (ha.ev rfl)) ?_
 refine JR.next (by kernel_rfl) (fun _ _ h=>h) ?_
 refine JC.ret (fun a ha => ?_)
 repeat (first | refine dh ?_ | refine df ?_)
 refine vI (v:=(a0r s5 A5 n5 c5 B5 m5 d5 pG nP nU nS Gv G6 GK)) (v' := .int .i64 0) ha Tryz.results68 (.agg rfl aYq aYo (HS.box _ (.tail _ (.head _))) rfl rfl) (.tmp rfl) ⟨_,rfl,?_⟩
 exact ⟨_,_,_,_,_,_,_,_,_,_,_,_,_,_,rfl,HS.tY 3 6 1 0 rfl rfl rfl (fun _ h=>h.as rfl (by omega)) rfl (fun _ h=>h.as rfl (by omega))⟩
set_option maxHeartbeats 400000 in
theorem arv (HT:Tz W0) (HB:Tab W0) {z2:Int} {af:Rat} {bC:Nat} {bu:Bool} {ah:Rat} {bD:Nat} {bn:Bool} (HS:St W0 U Ps w) (f1a:FV (a0p ax ay aj c1a az ak aA) af bC bu w) (bI:FV (a0p aB aC n1b aG aF au aH) ah bD bn w) (hk:bC+bD≤600) (hz:z2 < 0∨256 < z2):bY Tryz.prog 68 [(a0r ax ay aj c1a az ak aA aB aC n1b aG aF au aH),.int .i64 z2] w (iP W0 U Ps (.tuple #[fO,.int .i64 3])):=by
 have HS:=HS.add (FV.stable _ _ _ _) f1a
 have HS:=HS.add (FV.stable _ _ _ _) bI
 clear f1a bI
 refine iL Tryz.func68 rfl Tryz.ntmps68 rfl ?_
 refine JC.seq ?_
 refine JC.region ?_
 refine JL.box (vs:=(a0s ax ay aj c1a az ak aA aB aC n1b aG aF au aH)) HS rfl rfl rfl rfl (fun g1 w1 HS => ?_)
 refine JL.alloc (vs:=cO) HS rfl aYt rfl rfl (fun g2 w2 HS => ?_)
 refine Lv (.int .i64 0) (fun a ha=>run_assign (ha.ev rfl)) ?_
 refine jn ?_
 refine JC.seq ?_
 refine JC.region ?_
 refine JL.load (a0r ax ay aj c1a az ak aA aB aC n1b aG aF au aH) HS 1 rfl rfl rfl aYq aYo rfl rfl ?_
 refine JL.call rfl rfl aYE (vT HT HB HS (HS.at_ 1 rfl) (HS.at_ 0 rfl) (by omega)) (fun v3 w3 HR3 => ?_)
 obtain ⟨jS,jZ,kK,kD,kz,kH,kF,l7,lK,lY,lS,lN,lW,lU,rfl,HS⟩:=HR3
 refine JL.store HS rfl rfl (i:=1) rfl aYo rfl rfl rfl (vs':=(a0s jS jZ kK kD kz kH kF l7 lK lY lS lN lW lU)) rfl rfl (fun w4 HS => ?_)
 refine jn ?_
 refine JC.seq ?_
 refine JC.region ?_
 refine Lv (.pointer (some ⟨g1,0,none⟩)) (fun a ha=>bH (ha.ev rfl) aYr rfl aYn rfl rfl) ?_
 refine JL.load (a0p jS jZ kK kD kz kH kF) HS 1 rfl rfl rfl aYp aYn rfl rfl ?_
 refine Lv (.int .i64 z2) (fun a ha=>run_move (ha.ev rfl)) ?_
 refine JL.call rfl rfl Tryz.call18 (aEp HT HB HS  hz) (fun v5 w5 vk => ?_)
 obtain ⟨rfl,HS⟩:=vk
 refine Lv (.tuple #[yw,.int .i64 3]) (fun a ha=>run_move (ha.ev rfl)) ?_
 refine Lv yw (fun a ha=>bK (ha.ev rfl) rfl) ?_
 refine Lv (.int .i64 3) (fun a ha=>bK (ha.ev rfl) rfl) ?_
 refine JL.alloc (vs:=bU) HS rfl aYs rfl rfl (fun g6 w6 HS => ?_)
 refine JL.store HS rfl rfl (i:=0) rfl aYn rfl rfl rfl (vs':=bU) rfl rfl (fun w7 HS => ?_)
 refine Lv (.int .i64 3) (fun a ha=>run_assign (ha.ev rfl)) ?_
 refine jn ?_
 refine JC.seq ?_
 refine JC.seq ?_
 refine JC.region ?_
 refine Lv (.int .i64 3) (fun a ha=>run_move (ha.ev rfl)) ?_
 refine Lv (.bool true) (fun a ha=>ael (ha.ev rfl) (ha.ev rfl) (by decide)) ?_
 refine jn ?_
 refine JC.iy rfl ?_
 refine JC.seq ?_
 refine JC.region ?_
 refine Lv fO (fun a ha=>bZ.run_build (vs:=[]) (by simp only [List.map_cons,List.map_nil]) aYr aYt pV rfl) ?_
 refine Lv (.int .i64 3) (fun a ha=>run_move (ha.ev rfl)) ?_
 refine JL.store HS rfl rfl (i:=1) rfl aYo rfl rfl rfl (vs':=cO) rfl rfl (fun w8 HS => ?_)
 refine Lv (.int .i64 3) (fun a ha=>run_assign (ha.ev rfl)) ?_
 refine jn ?_
 refine JC.ret (fun a ha => ?_)
 repeat (first | refine dh ?_ | refine df ?_)
 refine vI (v:=fO) (v' := .int .i64 3) ha Tryz.results68 (.agg rfl aYq aYo (HS.box _ (.tail _ (.head _))) rfl rfl) (.tmp rfl) ⟨_,rfl,?_⟩
 exact ⟨rfl,HS.gy 3 4 rfl rfl⟩
set_option maxHeartbeats 400000 in
theorem aFd (HT:Tz W0) (HB:Tab W0) {z2:Int} {af:Rat} {bC:Nat} {bu:Bool} {ah:Rat} {bD:Nat} {bn:Bool} (HS:St W0 U Ps w) (f1a:FV (a0p ax ay aj c1a az ak aA) af bC bu w) (bI:FV (a0p aB aC n1b aG aF au aH) ah bD bn w) (hz:z2 < 0):bY Tryz.prog 69 [(a0r ax ay aj c1a az ak aA aB aC n1b aG aF au aH),.int .i64 z2] w (iP W0 U Ps (.tuple #[fO,.int .i64 3])):=by
 have HS:=HS.add (FV.stable _ _ _ _) f1a
 have HS:=HS.add (FV.stable _ _ _ _) bI
 clear f1a bI
 refine iL a0i rfl a0j rfl ?_
 refine JC.seq ?_
 refine JC.region ?_
 refine JL.box (vs:=(a0s ax ay aj c1a az ak aA aB aC n1b aG aF au aH)) HS rfl rfl rfl rfl (fun g1 w1 HS => ?_)
 refine JL.alloc (vs:=cO) HS rfl aYt rfl rfl (fun g2 w2 HS => ?_)
 refine Lv (.int .i64 0) (fun a ha=>run_assign (ha.ev rfl)) ?_
 refine jn ?_
 refine JC.seq ?_
 refine JC.seq ?_
 refine JC.region ?_
 refine Lv (.int .i64 z2) (fun a ha=>run_move (ha.ev rfl)) ?_
 refine Lv (.bool true) (fun a ha=>qX (ha.ev rfl) (ha.ev rfl) (decide_eq_true hz)) ?_
 refine Lv (.bool true) (fun a ha=>run_move (ha.ev rfl)) ?_
 refine Lp ?_
 refine Lp ?_
 refine Lv (.bool true) (fun a ha=>eY (ha.ev rfl) (ha.ev rfl)) ?_
 refine jn ?_
 refine JC.iy rfl ?_
 refine JC.seq ?_
 refine JC.region ?_
 refine Lv fO (fun a ha=>bZ.run_build (vs:=[]) (by simp only [List.map_cons,List.map_nil]) aYr aYt pV rfl) ?_
 refine JL.store HS rfl rfl (i:=0) rfl aYo rfl rfl rfl (vs':=cO) rfl rfl (fun w3 HS => ?_)
 refine Lv (.int .i64 3) (fun a ha=>run_assign (ha.ev rfl)) ?_
 refine jn ?_
 refine JC.ret (fun a ha => ?_)
 repeat (first | refine dh ?_ | refine df ?_)
 refine vI (v:=fO) (v' := .int .i64 3) ha Tryz.results69 (.agg rfl aYq aYo (HS.box _ (.head _)) rfl rfl) (.tmp rfl) ⟨_,rfl,?_⟩
 exact ⟨rfl,HS.gy 2 2 rfl rfl⟩
set_option maxHeartbeats 400000 in
theorem aFc (HT:Tz W0) (HB:Tab W0) {z2:Int} {af:Rat} {bC:Nat} {bu:Bool} {ah:Rat} {bD:Nat} {bn:Bool} (HS:St W0 U Ps w) (f1a:FV (a0p ax ay aj c1a az ak aA) af bC bu w) (bI:FV (a0p aB aC n1b aG aF au aH) ah bD bn w) (hz:256 < z2):bY Tryz.prog 69 [(a0r ax ay aj c1a az ak aA aB aC n1b aG aF au aH),.int .i64 z2] w (iP W0 U Ps (.tuple #[fO,.int .i64 3])):=by
 have HS:=HS.add (FV.stable _ _ _ _) f1a
 have HS:=HS.add (FV.stable _ _ _ _) bI
 clear f1a bI
 refine iL a0i rfl a0j rfl ?_
 refine JC.seq ?_
 refine JC.region ?_
 refine JL.box (vs:=(a0s ax ay aj c1a az ak aA aB aC n1b aG aF au aH)) HS rfl rfl rfl rfl (fun g1 w1 HS => ?_)
 refine JL.alloc (vs:=cO) HS rfl aYt rfl rfl (fun g2 w2 HS => ?_)
 refine Lv (.int .i64 0) (fun a ha=>run_assign (ha.ev rfl)) ?_
 refine jn ?_
 refine JC.seq ?_
 refine JC.seq ?_
 refine JC.region ?_
 refine Lv (.int .i64 z2) (fun a ha=>run_move (ha.ev rfl)) ?_
 refine Lv (.bool false) (fun a ha=>qX (ha.ev rfl) (ha.ev rfl) (decide_eq_false (by omega))) ?_
 refine Lv (.bool false) (fun a ha=>run_move (ha.ev rfl)) ?_
 refine Lg (.int .i64 z2) (fun a ha=>run_move (ha.ev rfl)) ?_
 refine Lg (.bool true) (fun a ha=>wH (ha.ev rfl) (ha.ev rfl) (decide_eq_true hz)) ?_
 refine Lv (.bool true) (fun a ha=>gB (ha.ev rfl) (ha.ev rfl)) ?_
 refine jn ?_
 refine JC.iy rfl ?_
 refine JC.seq ?_
 refine JC.region ?_
 refine Lv fO (fun a ha=>bZ.run_build (vs:=[]) (by simp only [List.map_cons,List.map_nil]) aYr aYt pV rfl) ?_
 refine JL.store HS rfl rfl (i:=0) rfl aYo rfl rfl rfl (vs':=cO) rfl rfl (fun w3 HS => ?_)
 refine Lv (.int .i64 3) (fun a ha=>run_assign (ha.ev rfl)) ?_
 refine jn ?_
 refine JC.ret (fun a ha => ?_)
 repeat (first | refine dh ?_ | refine df ?_)
 refine vI (v:=fO) (v' := .int .i64 3) ha Tryz.results69 (.agg rfl aYq aYo (HS.box _ (.head _)) rfl rfl) (.tmp rfl) ⟨_,rfl,?_⟩
 exact ⟨rfl,HS.gy 2 2 rfl rfl⟩
set_option maxHeartbeats 400000 in
theorem aFf (HT:Tz W0) (HB:Tab W0) {m2:Nat} {af:Rat} {bC:Nat} {bu:Bool} {ah:Rat} {bD:Nat} {bn:Bool} (HS:St W0 U Ps w) (f1a:FV (a0p ax ay aj c1a az ak aA) af bC bu w) (bI:FV (a0p aB aC n1b aG aF au aH) ah bD bn w) (hk:bC+bD≤600) (hm:m2≤256) (hc:(bV bu bn af ah) < 0):bY Tryz.prog 69 [(a0r ax ay aj c1a az ak aA aB aC n1b aG aF au aH),.int .i64 (m2:Int)] w (iP W0 U Ps (.tuple #[fO,.int .i64 3])):=by
 have HS:=HS.add (FV.stable _ _ _ _) f1a
 have HS:=HS.add (FV.stable _ _ _ _) bI
 clear f1a bI
 refine iL a0i rfl a0j rfl ?_
 refine JC.seq ?_
 refine JC.region ?_
 refine JL.box (vs:=(a0s ax ay aj c1a az ak aA aB aC n1b aG aF au aH)) HS rfl rfl rfl rfl (fun g1 w1 HS => ?_)
 refine JL.alloc (vs:=cO) HS rfl aYt rfl rfl (fun g2 w2 HS => ?_)
 refine Lv (.int .i64 0) (fun a ha=>run_assign (ha.ev rfl)) ?_
 refine jn ?_
 refine JC.seq ?_
 refine JC.seq ?_
 refine JC.region ?_
 refine Lv (.int .i64 (m2:Int)) (fun a ha=>run_move (ha.ev rfl)) ?_
 refine Lv (.bool false) (fun a ha=>qX (ha.ev rfl) (ha.ev rfl) (decide_eq_false (by omega))) ?_
 refine Lv (.bool false) (fun a ha=>run_move (ha.ev rfl)) ?_
 refine Lg (.int .i64 (m2:Int)) (fun a ha=>run_move (ha.ev rfl)) ?_
 refine Lg (.bool false) (fun a ha=>wH (ha.ev rfl) (ha.ev rfl) (decide_eq_false (by omega))) ?_
 refine Lv (.bool false) (fun a ha=>gB (ha.ev rfl) (ha.ev rfl)) ?_
 refine jn ?_
 refine JC.jA rfl ?_
 refine JC.jF (fun _ _ h=>h) ?_
 refine JC.seq ?_
 refine JC.region ?_
 refine JL.load (a0r ax ay aj c1a az ak aA aB aC n1b aG aF au aH) HS 1 rfl rfl rfl aYq aYo rfl rfl ?_
 refine JL.call rfl rfl aYE (vT HT HB HS (HS.at_ 1 rfl) (HS.at_ 0 rfl) (by omega)) (fun v3 w3 HR3 => ?_)
 obtain ⟨jS,jZ,kK,kD,kz,kH,kF,l7,lK,lY,lS,lN,lW,lU,rfl,HS⟩:=HR3
 refine JL.store HS rfl rfl (i:=1) rfl aYo rfl rfl rfl (vs':=(a0s jS jZ kK kD kz kH kF l7 lK lY lS lN lW lU)) rfl rfl (fun w4 HS => ?_)
 refine jn ?_
 refine JC.seq ?_
 refine JC.seq ?_
 refine JC.region ?_
 refine Lv (.pointer (some ⟨g1,0,none⟩)) (fun a ha=>bH (ha.ev rfl) aYr rfl aYn rfl rfl) ?_
 refine JL.load (a0p jS jZ kK kD kz kH kF) HS 1 rfl rfl rfl aYp aYn rfl rfl ?_
 refine JL.call rfl rfl a0k (aec HT HB HS (HS.at_ 0 rfl) (by omega)) (fun v5 w5 vk => ?_)
 obtain ⟨rfl,HS⟩:=vk
 refine Lv (.bool true) (fun a ha=>qX (ha.ev rfl) (ha.ev rfl) ((ajv _).trans (decide_eq_true hc))) ?_
 refine jn ?_
 refine JC.iy rfl ?_
 refine JC.seq ?_
 refine JC.region ?_
 refine Lv fO (fun a ha=>bZ.run_build (vs:=[]) (by simp only [List.map_cons,List.map_nil]) aYr aYt pV rfl) ?_
 refine JL.store HS rfl rfl (i:=0) rfl aYo rfl rfl rfl (vs':=cO) rfl rfl (fun w6 HS => ?_)
 refine Lv (.int .i64 3) (fun a ha=>run_assign (ha.ev rfl)) ?_
 refine jn ?_
 refine JC.ret (fun a ha => ?_)
 repeat (first | refine dh ?_ | refine df ?_)
 refine vI (v:=fO) (v' := .int .i64 3) ha Tryz.results69 (.agg rfl aYq aYo (HS.box _ (.head _)) rfl rfl) (.tmp rfl) ⟨_,rfl,?_⟩
 exact ⟨rfl,HS.gy 2 4 rfl rfl⟩
set_option maxHeartbeats 2000000 in
theorem aFe (HT:Tz W0) (HB:Tab W0) {m2:Nat} {af:Rat} {bC:Nat} {bu:Bool} {ah:Rat} {bD:Nat} {bn:Bool} (HS:St W0 U Ps w) (f1a:FV (a0p ax ay aj c1a az ak aA) af bC bu w) (bI:FV (a0p aB aC n1b aG aF au aH) ah bD bn w) (hk:bC+bD≤100) (hm:m2≤256) (hc:0≤(bV bu bn af ah)):bY Tryz.prog 69 [(a0r ax ay aj c1a az ak aA aB aC n1b aG aF au aH),.int .i64 (m2:Int)] w (yY W0 U Ps (xe (bV bu bn af ah) m2) (vY (bW bu bn af ah) m2) (bC+bD+200) (.int .i64 0)):=by
 have HS:=HS.add (FV.stable _ _ _ _) f1a
 have HS:=HS.add (FV.stable _ _ _ _) bI
 clear f1a bI
 refine iL a0i rfl a0j rfl ?_
 refine JC.seq ?_
 refine JC.region ?_
 refine JL.box (vs:=(a0s ax ay aj c1a az ak aA aB aC n1b aG aF au aH)) HS rfl rfl rfl rfl (fun g1 w1 HS => ?_)
 refine JL.alloc (vs:=cO) HS rfl aYt rfl rfl (fun g2 w2 HS => ?_)
 refine Lv (.int .i64 0) (fun a ha=>run_assign (ha.ev rfl)) ?_
 refine jn ?_
 refine JC.seq ?_
 refine JC.seq ?_
 refine JC.region ?_
 refine Lv (.int .i64 (m2:Int)) (fun a ha=>run_move (ha.ev rfl)) ?_
 refine Lv (.bool false) (fun a ha=>qX (ha.ev rfl) (ha.ev rfl) (decide_eq_false (by omega))) ?_
 refine Lv (.bool false) (fun a ha=>run_move (ha.ev rfl)) ?_
 refine Lg (.int .i64 (m2:Int)) (fun a ha=>run_move (ha.ev rfl)) ?_
 refine Lg (.bool false) (fun a ha=>wH (ha.ev rfl) (ha.ev rfl) (decide_eq_false (by omega))) ?_
 refine Lv (.bool false) (fun a ha=>gB (ha.ev rfl) (ha.ev rfl)) ?_
 refine jn ?_
 refine JC.jA rfl ?_
 refine JC.jF (fun _ _ h=>h) ?_
 refine JC.seq ?_
 refine JC.region ?_
 refine JL.load (a0r ax ay aj c1a az ak aA aB aC n1b aG aF au aH) HS 1 rfl rfl rfl aYq aYo rfl rfl ?_
 refine JL.call rfl rfl aYE (vT HT HB HS (HS.at_ 1 rfl) (HS.at_ 0 rfl) (by omega)) (fun v3 w3 HR3 => ?_)
 obtain ⟨jS,jZ,kK,kD,kz,kH,kF,l7,lK,lY,lS,lN,lW,lU,rfl,HS⟩:=HR3
 refine JL.store HS rfl rfl (i:=1) rfl aYo rfl rfl rfl (vs':=(a0s jS jZ kK kD kz kH kF l7 lK lY lS lN lW lU)) rfl rfl (fun w4 HS => ?_)
 refine jn ?_
 refine JC.seq ?_
 refine JC.seq ?_
 refine JC.region ?_
 refine Lv (.pointer (some ⟨g1,0,none⟩)) (fun a ha=>bH (ha.ev rfl) aYr rfl aYn rfl rfl) ?_
 refine JL.load (a0p jS jZ kK kD kz kH kF) HS 1 rfl rfl rfl aYp aYn rfl rfl ?_
 refine JL.call rfl rfl a0k (aec HT HB HS (HS.at_ 0 rfl) (by omega)) (fun v5 w5 vk => ?_)
 obtain ⟨rfl,HS⟩:=vk
 refine Lv (.bool false) (fun a ha=>qX (ha.ev rfl) (ha.ev rfl) ((ajv _).trans (decide_eq_false (show ¬ (bV bu bn af ah) < 0 by grind)))) ?_
 refine jn ?_
 refine JC.jA rfl ?_
 refine JC.jF (fun _ _ h=>h) ?_
 refine JC.seq ?_
 refine JC.region ?_
 refine JL.call rfl rfl a0l (aeg HT HB HS  (by omega) (by omega)) (fun v6 w6 uk => ?_)
 obtain ⟨s6,A6,n6,c6,rfl,HS⟩:=uk
 refine JL.alloc (vs:=[.bool false,.slice none 0 0]) HS rfl aYw rfl rfl (fun g7 w7 HS => ?_)
 refine JL.store HS rfl rfl (i:=0) rfl aYu rfl rfl rfl (vs':=[.bool s6,.slice A6 n6 c6]) rfl rfl (fun w8 HS => ?_)
 refine jn ?_
 refine JC.seq ?_
 refine JC.seq ?_
 refine JC.region ?_
 refine Lv (.int .i64 (m2:Int)) (fun a ha=>run_move (ha.ev rfl)) ?_
 refine Lv (.int .i64 0) (fun a ha=>run_move (ha.ev rfl)) ?_
 refine jn ?_
 refine JC.block ?_
 refine JC.sub (T':=[(0,(a0r ax ay aj c1a az ak aA aB aC n1b aG aF au aH)),(1,.int .i64 (m2:Int)),(2,.pointer (some ⟨g1,0,none⟩)),(4,.pointer (some ⟨g2,0,none⟩)),(5,.int .i64 0),(6,.pointer (some ⟨g7,0,none⟩)),(20,.int .i64 (m2:Int)),(21,.bool false),(22,.bool false),(23,.int .i64 (m2:Int)),(24,.bool false),(25,.bool false),(27,(a0r ax ay aj c1a az ak aA aB aC n1b aG aF au aH)),(28,(a0r jS jZ kK kD kz kH kF l7 lK lY lS lN lW lU)),(29,.pointer (some ⟨g1,0,none⟩)),(30,(a0p jS jZ kK kD kz kH kF)),(31,.int .i64 (nM (bV bu bn af ah))),(32,.bool false),(34,.agg #[.bool s6,.slice A6 n6 c6]),(35,.int .i64 (m2:Int)),(36,.int .i64 0)]) (Kq.out ⟨rfl,rfl,rfl,rfl,rfl,rfl,rfl,rfl,rfl,rfl,rfl,rfl,rfl,rfl,rfl,rfl,rfl,rfl,rfl,rfl,rfl,trivial⟩) ?_
 refine JC.loop (ι:=aAJ) (fun ⟨j,s,A,n,c⟩=>m2 - j) (fun ⟨j,s,A,n,c⟩=>[(0,(a0r ax ay aj c1a az ak aA aB aC n1b aG aF au aH)),(1,.int .i64 (m2:Int)),(2,.pointer (some ⟨g1,0,none⟩)),(4,.pointer (some ⟨g2,0,none⟩)),(5,.int .i64 0),(6,.pointer (some ⟨g7,0,none⟩)),(20,.int .i64 (m2:Int)),(21,.bool false),(22,.bool false),(23,.int .i64 (m2:Int)),(24,.bool false),(25,.bool false),(27,(a0r ax ay aj c1a az ak aA aB aC n1b aG aF au aH)),(28,(a0r jS jZ kK kD kz kH kF l7 lK lY lS lN lW lU)),(29,.pointer (some ⟨g1,0,none⟩)),(30,(a0p jS jZ kK kD kz kH kF)),(31,.int .i64 (nM (bV bu bn af ah))),(32,.bool false),(34,.agg #[.bool s6,.slice A6 n6 c6]),(35,.int .i64 (m2:Int)),(36,.int .i64 (j:Int))]) (fun ⟨j,s,A,n,c⟩ w=>(j≤m2)∧St W0 (⟨g7,39,[.bool s,.slice A n c]⟩ :: ⟨g2,48,cO⟩ :: ⟨g1,48,(a0s jS jZ kK kD kz kH kF l7 lK lY lS lN lW lU)⟩ :: U) (FI (.agg #[.bool s,.slice A n c]) ((2 ^ j:Nat):Int) 9 :: FI (.agg #[.bool s6,.slice A6 n6 c6]) 1 2 :: FV (a0p jS jZ kK kD kz kH kF) (bV bu bn af ah) (bC+bD) true :: FV (a0p l7 lK lY lS lN lW lU) (bW bu bn af ah) (bC+bD) true :: FV (a0p aB aC n1b aG aF au aH) ah bD bn :: FV (a0p ax ay aj c1a az ak aA) af bC bu :: Ps) w) ?_ (0,s6,A6,n6,c6) _ ⟨Nat.zero_le _,HS.map (List.mem_of_getElem? (i:=0) rfl) (fun _ h=>h.as rfl (by decide))⟩
 skip
 rintro ⟨j,s,A,n,c⟩ wl1 ⟨azF,HS⟩
 refine JC.sub (T':=[(0,(a0r ax ay aj c1a az ak aA aB aC n1b aG aF au aH)),(1,.int .i64 (m2:Int)),(2,.pointer (some ⟨g1,0,none⟩)),(4,.pointer (some ⟨g2,0,none⟩)),(5,.int .i64 0),(6,.pointer (some ⟨g7,0,none⟩)),(20,.int .i64 (m2:Int)),(21,.bool false),(22,.bool false),(23,.int .i64 (m2:Int)),(24,.bool false),(25,.bool false),(27,(a0r ax ay aj c1a az ak aA aB aC n1b aG aF au aH)),(28,(a0r jS jZ kK kD kz kH kF l7 lK lY lS lN lW lU)),(29,.pointer (some ⟨g1,0,none⟩)),(30,(a0p jS jZ kK kD kz kH kF)),(31,.int .i64 (nM (bV bu bn af ah))),(32,.bool false),(34,.agg #[.bool s6,.slice A6 n6 c6]),(35,.int .i64 (m2:Int)),(36,.int .i64 (j:Int))]) (fun _ _ h=>h) ?_
 have HS:St W0 (⟨g7,39,[.bool s,.slice A n c]⟩ :: ⟨g2,48,cO⟩ :: ⟨g1,48,(a0s jS jZ kK kD kz kH kF l7 lK lY lS lN lW lU)⟩ :: U) (FI (.agg #[.bool s,.slice A n c]) ((2 ^ j:Nat):Int) 9 :: FI (.agg #[.bool s6,.slice A6 n6 c6]) 1 2 :: FV (a0p jS jZ kK kD kz kH kF) (bV bu bn af ah) (bC+bD) true :: FV (a0p l7 lK lY lS lN lW lU) (bW bu bn af ah) (bC+bD) true :: FV (a0p aB aC n1b aG aF au aH) ah bD bn :: FV (a0p ax ay aj c1a az ak aA) af bC bu :: Ps) wl1:=HS
 refine JC.seq ?_
 refine JC.region ?_
 refine Lv (.bool (decide ((j:Int) < (m2:Int)))) (fun a ha=>qX (ha.ev rfl) (ha.ev rfl) rfl) ?_
 refine jn ?_
 refine JC.seq ?_
 cases KJ:(decide ((j:Int) < (m2:Int)))
 ·skip
  have hd9:=of_decide_eq_false KJ
  refine JC.jA rfl ?_
  obtain rfl:m2=j:=by omega
  refine JC.exit (fun _ _ h=>h) (fun _ _ h=>h) ?_
  refine JC.seq ?_
  refine JC.region ?_
  refine JL.load (.agg #[.bool s,.slice A n c]) HS 0 rfl rfl rfl aYy aYu rfl rfl ?_
  refine JL.load (.agg #[.bool s,.slice A n c]) HS 0 rfl rfl rfl aYy aYu rfl rfl ?_
  refine JL.call rfl rfl aZj (Tu HT HB HS (HS.at_ 0 rfl) (HS.at_ 0 rfl) (by omega)) (fun v10 w10 FN => ?_)
  obtain ⟨s10,zF,n10,c10,rfl,HS⟩:=FN
  refine JL.call rfl rfl a0l (aeg HT HB HS  (by omega) (by omega)) (fun v11 Dp DV => ?_)
  obtain ⟨s11,xE,n11,c11,rfl,HS⟩:=DV
  refine JL.call rfl rfl aZk (Tt HT HB HS (HS.at_ 1 rfl) (HS.at_ 0 rfl) (by omega) (by decide)) (fun v12 w12 QS => ?_)
  obtain ⟨s12,VQ,n12,c12,Wp,m12,d12,rfl,HS⟩:=QS
  refine Lv (.tuple #[(a0p s12 VQ n12 c12 Wp m12 d12),.int .i64 0]) (fun a ha=>run_move (ha.ev rfl)) ?_
  refine Lv (a0p s12 VQ n12 c12 Wp m12 d12) (fun a ha=>bK (ha.ev rfl) rfl) ?_
  refine Lv (.int .i64 0) (fun a ha=>bK (ha.ev rfl) rfl) ?_
  refine JL.alloc (vs:=bU) HS rfl aYs rfl rfl (fun g13 Gl HS => ?_)
  refine JL.store HS rfl rfl (i:=0) rfl aYn rfl rfl rfl (vs':=(a0q s12 VQ n12 c12 Wp m12 d12)) rfl rfl (fun JX HS => ?_)
  refine Lv (.int .i64 0) (fun a ha=>run_assign (ha.ev rfl)) ?_
  refine jn ?_
  refine JC.seq ?_
  refine JC.region ?_
  refine Lv (.pointer (some ⟨g1,0,none⟩)) (fun a ha=>bH (ha.ev rfl) aYr rfl aYn rfl rfl) ?_
  refine JL.load (a0p jS jZ kK kD kz kH kF) HS 3 rfl rfl rfl aYp aYn rfl rfl ?_
  refine JL.load (a0p s12 VQ n12 c12 Wp m12 d12) HS 0 rfl rfl rfl aYp aYn rfl rfl ?_
  refine JL.call rfl rfl aZe (Qc HT HB HS (HS.at_ 5 rfl) (HS.at_ 0 rfl) (by omega)) (fun v15 J4 Ip => ?_)
  obtain ⟨s15,J8,n15,c15,J9,m15,d15,rfl,HS⟩:=Ip
  refine JL.call rfl rfl Tryz.call24 (aqK HT HB HS (HS.at_ 0 rfl) (by omega)) (fun v16 w16 Iq => ?_)
  obtain ⟨s16,A16,n16,c16,rfl,HS⟩:=Iq
  refine JL.call rfl rfl Tryz.call144 (aq2 HT HB HS (HS.at_ 0 rfl) (by omega) (amU hc)) (fun v17 LH WZ => ?_)
  obtain ⟨Zr,VS,n17,c17,rfl,HS⟩:=WZ
  refine Lv (.tuple #[.agg #[.bool Zr,.slice VS n17 c17],.int .i64 0]) (fun a ha=>run_move (ha.ev rfl)) ?_
  refine Lv (.agg #[.bool Zr,.slice VS n17 c17]) (fun a ha=>bK (ha.ev rfl) rfl) ?_
  refine Lv (.int .i64 0) (fun a ha=>bK (ha.ev rfl) rfl) ?_
  refine JL.alloc (vs:=[.bool false,.slice none 0 0]) HS rfl aYw rfl rfl (fun g18 QA HS => ?_)
  refine JL.store HS rfl rfl (i:=0) rfl aYu rfl rfl rfl (vs':=[.bool Zr,.slice VS n17 c17]) rfl rfl (fun O6 HS => ?_)
  refine Lv (.int .i64 0) (fun a ha=>run_assign (ha.ev rfl)) ?_
  refine jn ?_
  refine JC.seq ?_
  refine JC.region ?_
  refine Lv (.pointer (some ⟨g1,3,none⟩)) (fun a ha=>bH (ha.ev rfl) aYr rfl aYn rfl rfl) ?_
  refine JL.load (a0p l7 lK lY lS lN lW lU) HS 4 rfl rfl rfl aYp aYn rfl rfl ?_
  refine JL.load (a0p s12 VQ n12 c12 Wp m12 d12) HS 1 rfl rfl rfl aYp aYn rfl rfl ?_
  refine JL.call rfl rfl aZe (Qc HT HB HS (HS.at_ 9 rfl) (HS.at_ 3 rfl) (by omega)) (fun v20 O7 MX => ?_)
  obtain ⟨s20,A20,n20,c20,B20,m20,d20,rfl,HS⟩:=MX
  refine JL.alloc (vs:=bU) HS rfl aYs rfl rfl (fun g21 VI HS => ?_)
  refine JL.store HS rfl rfl (i:=0) rfl aYn rfl rfl rfl (vs':=(a0q s20 A20 n20 c20 B20 m20 d20)) rfl rfl (fun ZZ HS => ?_)
  refine jn ?_
  refine JC.seq ?_
  refine JC.region ?_
  refine JL.load (a0p s20 A20 n20 c20 B20 m20 d20) HS 0 rfl rfl rfl aYp aYn rfl rfl ?_
  refine JL.call rfl rfl Tryz.call24 (aqK HT HB HS (HS.at_ 0 rfl) (by omega)) (fun v23 Z5 auZ => ?_)
  obtain ⟨s23,A23,n23,c23,rfl,HS⟩:=auZ
  refine JL.call rfl rfl Tryz.call144 (aq2 HT HB HS (HS.at_ 0 rfl) (by omega) (amU (Rat.le_trans hc (oP _ _ _ _)))) (fun v24 Z7 af8 => ?_)
  obtain ⟨s24,QI,n24,c24,rfl,HS⟩:=af8
  refine Lv (.tuple #[.agg #[.bool s24,.slice QI n24 c24],.int .i64 0]) (fun a ha=>run_move (ha.ev rfl)) ?_
  refine Lv (.agg #[.bool s24,.slice QI n24 c24]) (fun a ha=>bK (ha.ev rfl) rfl) ?_
  refine Lv (.int .i64 0) (fun a ha=>bK (ha.ev rfl) rfl) ?_
  refine JL.alloc (vs:=[.bool false,.slice none 0 0]) HS rfl aYw rfl rfl (fun g25 w25 HS => ?_)
  refine JL.store HS rfl rfl (i:=0) rfl aYu rfl rfl rfl (vs':=[.bool s24,.slice QI n24 c24]) rfl rfl (fun w26 HS => ?_)
  refine Lv (.int .i64 0) (fun a ha=>run_assign (ha.ev rfl)) ?_
  refine jn ?_
  refine JC.seq ?_
  refine JC.region ?_
  refine JL.load (.agg #[.bool s24,.slice QI n24 c24]) HS 0 rfl rfl rfl aYy aYu rfl rfl ?_
  refine JL.load (.agg #[.bool s24,.slice QI n24 c24]) HS 0 rfl rfl rfl aYy aYu rfl rfl ?_
  refine JL.call rfl rfl aZj (Tu HT HB HS (HS.at_ 0 rfl) (HS.at_ 0 rfl) (by omega)) (fun v27 w27 Xb => ?_)
  obtain ⟨s27,A27,n27,c27,rfl,HS⟩:=Xb
  refine JL.call rfl rfl a0l (aeg HT HB HS  (by omega) (by omega)) (fun v28 Z8 Xc => ?_)
  obtain ⟨Vt,Ud,n28,c28,rfl,HS⟩:=Xc
  refine JL.call rfl rfl aZk (Tt HT HB HS (HS.at_ 1 rfl) (HS.at_ 0 rfl) (by omega) (by decide)) (fun v29 w29 af' => ?_)
  obtain ⟨s29,A29,n29,c29,B29,m29,d29,rfl,HS⟩:=af'
  refine Lv (.tuple #[(a0p s29 A29 n29 c29 B29 m29 d29),.int .i64 0]) (fun a ha=>run_move (ha.ev rfl)) ?_
  refine Lv (a0p s29 A29 n29 c29 B29 m29 d29) (fun a ha=>bK (ha.ev rfl) rfl) ?_
  refine Lv (.int .i64 0) (fun a ha=>bK (ha.ev rfl) rfl) ?_
  refine JL.alloc (vs:=bU) HS rfl aYs rfl rfl (fun EL w30 HS => ?_)
  refine JL.store HS rfl rfl (i:=0) rfl aYn rfl rfl rfl (vs':=(a0q s29 A29 n29 c29 B29 m29 d29)) rfl rfl (fun w31 HS => ?_)
  refine Lv (.int .i64 0) (fun a ha=>run_assign (ha.ev rfl)) ?_
  refine jn ?_
  refine JC.seq ?_
  refine JC.seq ?_
  refine JC.region ?_
  refine JL.load (a0p s29 A29 n29 c29 B29 m29 d29) HS 0 rfl rfl rfl aYp aYn rfl rfl ?_
  refine JL.load (a0p s20 A20 n20 c20 B20 m20 d20) HS 2 rfl rfl rfl aYp aYn rfl rfl ?_
  refine JL.call rfl rfl aZd (Qb HT HB HS (HS.at_ 0 rfl) (HS.at_ 5 rfl) (by omega)) (fun v32 w32 avi => ?_)
  obtain ⟨rfl,HS⟩:=avi
  refine Lv (.bool (decide ((Rat.divInt (((rt (((bW bu bn af ah)*(Rat.divInt (((2 ^ m2:Nat):Int)*((2 ^ m2:Nat):Int)) 1)).floor).natAbs:Nat):Int)*((rt (((bW bu bn af ah)*(Rat.divInt (((2 ^ m2:Nat):Int)*((2 ^ m2:Nat):Int)) 1)).floor).natAbs:Nat):Int)) 1) < ((bW bu bn af ah)*(Rat.divInt (((2 ^ m2:Nat):Int)*((2 ^ m2:Nat):Int)) 1))))) (fun a ha=>qX (ha.ev rfl) (ha.ev rfl) (Rw _ _)) ?_
  refine jn ?_
  cases aOk:((decide ((Rat.divInt (((rt (((bW bu bn af ah)*(Rat.divInt (((2 ^ m2:Nat):Int)*((2 ^ m2:Nat):Int)) 1)).floor).natAbs:Nat):Int)*((rt (((bW bu bn af ah)*(Rat.divInt (((2 ^ m2:Nat):Int)*((2 ^ m2:Nat):Int)) 1)).floor).natAbs:Nat):Int)) 1) < ((bW bu bn af ah)*(Rat.divInt (((2 ^ m2:Nat):Int)*((2 ^ m2:Nat):Int)) 1)))))
  ·skip
   refine JC.jA rfl ?_
   refine JC.jF (fun _ _ h=>h) ?_
   refine JC.seq ?_
   refine JC.region ?_
   refine JL.load (.agg #[.bool Zr,.slice VS n17 c17]) HS 3 rfl rfl rfl aYy aYu rfl rfl ?_
   refine JL.load (.agg #[.bool s,.slice A n c]) HS 5 rfl rfl rfl aYy aYu rfl rfl ?_
   refine JL.call rfl rfl aZk (Tt HT HB HS (HS.at_ 6 rfl) (HS.at_ 12 rfl) (by omega) (two_pos _)) (fun v34 w34 Xd => ?_)
   obtain ⟨Gh,FC,n34,c34,FK,m34,d34,rfl,HS⟩:=Xd
   refine Lv (.tuple #[(a0p Gh FC n34 c34 FK m34 d34),.int .i64 0]) (fun a ha=>run_move (ha.ev rfl)) ?_
   refine Lv (a0p Gh FC n34 c34 FK m34 d34) (fun a ha=>bK (ha.ev rfl) rfl) ?_
   refine Lv (.int .i64 0) (fun a ha=>bK (ha.ev rfl) rfl) ?_
   refine JL.alloc (vs:=bU) HS rfl aYs rfl rfl (fun g35 w35 HS => ?_)
   refine JL.store HS rfl rfl (i:=0) rfl aYn rfl rfl rfl (vs':=(a0q Gh FC n34 c34 FK m34 d34)) rfl rfl (fun w36 HS => ?_)
   refine Lv (.int .i64 0) (fun a ha=>run_assign (ha.ev rfl)) ?_
   refine jn ?_
   refine JC.seq ?_
   refine JC.region ?_
   refine JL.load (.agg #[.bool s24,.slice QI n24 c24]) HS 2 rfl rfl rfl aYy aYu rfl rfl ?_
   refine JL.load (.agg #[.bool s,.slice A n c]) HS 6 rfl rfl rfl aYy aYu rfl rfl ?_
   refine JL.call rfl rfl aZk (Tt HT HB HS (HS.at_ 4 rfl) (HS.at_ 13 rfl) (by omega) (two_pos _)) (fun v37 w37 agf => ?_)
   obtain ⟨OQ,L6,n37,c37,MK,m37,d37,rfl,HS⟩:=agf
   refine Lv (.tuple #[(a0p OQ L6 n37 c37 MK m37 d37),.int .i64 0]) (fun a ha=>run_move (ha.ev rfl)) ?_
   refine Lv (a0p OQ L6 n37 c37 MK m37 d37) (fun a ha=>bK (ha.ev rfl) rfl) ?_
   refine Lv (.int .i64 0) (fun a ha=>bK (ha.ev rfl) rfl) ?_
   refine JL.alloc (vs:=bU) HS rfl aYs rfl rfl (fun g38 w38 HS => ?_)
   refine JL.store HS rfl rfl (i:=0) rfl aYn rfl rfl rfl (vs':=(a0q OQ L6 n37 c37 MK m37 d37)) rfl rfl (fun w39 HS => ?_)
   refine Lv (.int .i64 0) (fun a ha=>run_assign (ha.ev rfl)) ?_
   refine jn ?_
   refine JC.seq ?_
   refine JC.region ?_
   refine JL.load (a0p Gh FC n34 c34 FK m34 d34) HS 1 rfl rfl rfl aYp aYn rfl rfl ?_
   refine JL.load (a0p OQ L6 n37 c37 MK m37 d37) HS 0 rfl rfl rfl aYp aYn rfl rfl ?_
   refine Lv (a0r Gh FC n34 c34 FK m34 d34 OQ L6 n37 c37 MK m37 d37) (fun a ha=>bZ.run_build (vs:=[(0,(a0p Gh FC n34 c34 FK m34 d34)),(1,(a0p OQ L6 n37 c37 MK m37 d37))]) (by simp only [List.map_cons,List.map_nil,ha.ev (x := .tmp 96) (v:=(a0p Gh FC n34 c34 FK m34 d34)) rfl,ha.ev (x := .tmp 97) (v:=(a0p OQ L6 n37 c37 MK m37 d37)) rfl]) aYr aYt pV rfl) ?_
   refine JL.store HS rfl rfl (i:=8) rfl aYo rfl rfl rfl (vs':=(a0s Gh FC n34 c34 FK m34 d34 OQ L6 n37 c37 MK m37 d37)) rfl rfl (fun w40 HS => ?_)
   refine Lv (.int .i64 0) (fun a ha=>run_assign (ha.ev rfl)) ?_
   refine jn ?_
   refine JC.ret (fun a ha => ?_)
   repeat (first | refine dh ?_ | refine df ?_)
   refine vI (v:=(a0r Gh FC n34 c34 FK m34 d34 OQ L6 n37 c37 MK m37 d37)) (v' := .int .i64 0) ha Tryz.results69 (.agg rfl aYq aYo (HS.box _ (.tail _ (.tail _ (.tail _ (.tail _ (.tail _ (.tail _ (.tail _ (.tail _ (.head _)))))))))) rfl rfl) (.tmp rfl) ⟨_,rfl,?_⟩
   exact ⟨_,_,_,_,_,_,_,_,_,_,_,_,_,_,rfl,HS.tY 10 20 1 0 rfl rfl rfl (fun _ h=>h.as (aq4 _ _) (by omega)) rfl (fun _ h=>h.as (aEO (Rat.le_trans hc (oP _ _ _ _)) (by assumption)) (by omega))⟩
  ·skip
   refine JC.iy rfl ?_
   refine JC.draw HS [3] (by kernel_rfl) (fun w41 HS => ?_)
   refine Da (.agg #[.bool s24,.slice QI n24 c24]) 0 1 rfl HS.b0 rfl rfl aYy aYu ?_
   refine bJ 1 rfl rfl rfl a0l (aeg HT HB HS  (by omega) (by omega)) (fun aUW aW8 avy => ?_)
   obtain ⟨aSY,aIM,aQ4,aLE,rfl,HS⟩:=avy
   refine ⟨HS.b0,?_⟩
   refine bJ 2 rfl rfl rfl Tryz.call97 (ai' HT HB HS (HS.at_ 4 rfl) (HS.at_ 0 rfl) (by omega)) (fun aUY aW9 avz => ?_)
   obtain ⟨arB,akw,apb,alN,rfl,HS⟩:=avz
   refine ⟨HS.b0,?_⟩
   refine bF 3 [.bool arB,.slice akw apb alN] HS 1 rfl rfl rfl rfl aYu (fun _ HS=>⟨(eX (s:=3) rfl rfl),?_⟩)
   refine JR.next (by kernel_rfl) (fun _ _ h=>h) ?_
   refine JC.seq ?_
   refine JC.region ?_
   refine JL.load (.agg #[.bool Zr,.slice VS n17 c17]) HS 3 rfl rfl rfl aYy aYu rfl rfl ?_
   refine JL.load (.agg #[.bool s,.slice A n c]) HS 5 rfl rfl rfl aYy aYu rfl rfl ?_
   refine JL.call rfl rfl aZk (Tt HT HB HS (HS.at_ 8 rfl) (HS.at_ 14 rfl) (by omega) (two_pos _)) (fun v43 w43 agj => ?_)
   obtain ⟨s43,L8,n43,Nu,ML,m43,d43,rfl,HS⟩:=agj
   refine Lv (.tuple #[(a0p s43 L8 n43 Nu ML m43 d43),.int .i64 0]) (fun a ha=>run_move (ha.ev rfl)) ?_
   refine Lv (a0p s43 L8 n43 Nu ML m43 d43) (fun a ha=>bK (ha.ev rfl) rfl) ?_
   refine Lv (.int .i64 0) (fun a ha=>bK (ha.ev rfl) rfl) ?_
   refine JL.alloc (vs:=bU) HS rfl aYs rfl rfl (fun g44 w44 HS => ?_)
   refine JL.store HS rfl rfl (i:=0) rfl aYn rfl rfl rfl (vs':=(a0q s43 L8 n43 Nu ML m43 d43)) rfl rfl (fun w45 HS => ?_)
   refine Lv (.int .i64 0) (fun a ha=>run_assign (ha.ev rfl)) ?_
   refine jn ?_
   refine JC.seq ?_
   refine JC.region ?_
   refine JL.load (.agg #[.bool arB,.slice akw apb alN]) HS 2 rfl rfl rfl aYy aYu rfl rfl ?_
   refine JL.load (.agg #[.bool s,.slice A n c]) HS 6 rfl rfl rfl aYy aYu rfl rfl ?_
   refine JL.call rfl rfl aZk (Tt HT HB HS (HS.at_ 1 rfl) (HS.at_ 15 rfl) (by omega) (two_pos _)) (fun v46 w46 agl => ?_)
   obtain ⟨OT,L9,n46,c46,MM,m46,d46,rfl,HS⟩:=agl
   refine Lv (.tuple #[(a0p OT L9 n46 c46 MM m46 d46),.int .i64 0]) (fun a ha=>run_move (ha.ev rfl)) ?_
   refine Lv (a0p OT L9 n46 c46 MM m46 d46) (fun a ha=>bK (ha.ev rfl) rfl) ?_
   refine Lv (.int .i64 0) (fun a ha=>bK (ha.ev rfl) rfl) ?_
   refine JL.alloc (vs:=bU) HS rfl aYs rfl rfl (fun g47 w47 HS => ?_)
   refine JL.store HS rfl rfl (i:=0) rfl aYn rfl rfl rfl (vs':=(a0q OT L9 n46 c46 MM m46 d46)) rfl rfl (fun w48 HS => ?_)
   refine Lv (.int .i64 0) (fun a ha=>run_assign (ha.ev rfl)) ?_
   refine jn ?_
   refine JC.seq ?_
   refine JC.region ?_
   refine JL.load (a0p s43 L8 n43 Nu ML m43 d43) HS 1 rfl rfl rfl aYp aYn rfl rfl ?_
   refine JL.load (a0p OT L9 n46 c46 MM m46 d46) HS 0 rfl rfl rfl aYp aYn rfl rfl ?_
   refine Lv (a0r s43 L8 n43 Nu ML m43 d43 OT L9 n46 c46 MM m46 d46) (fun a ha=>bZ.run_build (vs:=[(0,(a0p s43 L8 n43 Nu ML m43 d43)),(1,(a0p OT L9 n46 c46 MM m46 d46))]) (by simp only [List.map_cons,List.map_nil,ha.ev (x := .tmp 96) (v:=(a0p s43 L8 n43 Nu ML m43 d43)) rfl,ha.ev (x := .tmp 97) (v:=(a0p OT L9 n46 c46 MM m46 d46)) rfl]) aYr aYt pV rfl) ?_
   refine JL.store HS rfl rfl (i:=8) rfl aYo rfl rfl rfl (vs':=(a0s s43 L8 n43 Nu ML m43 d43 OT L9 n46 c46 MM m46 d46)) rfl rfl (fun w49 HS => ?_)
   refine Lv (.int .i64 0) (fun a ha=>run_assign (ha.ev rfl)) ?_
   refine jn ?_
   refine JC.ret (fun a ha => ?_)
   repeat (first | refine dh ?_ | refine df ?_)
   refine vI (v:=(a0r s43 L8 n43 Nu ML m43 d43 OT L9 n46 c46 MM m46 d46)) (v' := .int .i64 0) ha Tryz.results69 (.agg rfl aYq aYo (HS.box _ (.tail _ (.tail _ (.tail _ (.tail _ (.tail _ (.tail _ (.tail _ (.tail _ (.head _)))))))))) rfl rfl) (.tmp rfl) ⟨_,rfl,?_⟩
   exact ⟨_,_,_,_,_,_,_,_,_,_,_,_,_,_,rfl,HS.tY 10 22 1 0 rfl rfl rfl (fun _ h=>h.as (aq4 _ _) (by omega)) rfl (fun _ h=>h.as (aEP (Rat.le_trans hc (oP _ _ _ _)) (by assumption)) (by omega))⟩
 ·skip
  have hd9:=of_decide_eq_true KJ
  refine JC.iy rfl ?_
  refine JC.jF (fun _ _ h=>h) ?_
  refine JC.seq ?_
  refine JC.block ?_
  refine JC.region ?_
  refine JL.load (.agg #[.bool s,.slice A n c]) HS 0 rfl rfl rfl aYy aYu rfl rfl ?_
  refine JL.load (.agg #[.bool s,.slice A n c]) HS 0 rfl rfl rfl aYy aYu rfl rfl ?_
  refine JL.call rfl rfl Tryz.call97 (ai' HT HB HS (HS.at_ 0 rfl) (HS.at_ 0 rfl) (by omega)) (fun v50 w50 Xe => ?_)
  obtain ⟨Qi,Pj,n50,Pv,rfl,HS⟩:=Xe
  refine JL.store HS rfl rfl (i:=0) rfl aYu rfl rfl rfl (vs':=[.bool Qi,.slice Pj n50 Pv]) rfl rfl (fun w51 HS => ?_)
  refine JL.EH (fun _ _ h=>h) ?_
  refine JC.region ?_
  refine Lv (.int .i64 ((j+1:Nat):Int)) (fun a ha=>BX (ha.ev rfl) (ha.ev rfl) (by rw [IntKind.wrap_i64]; omega)) ?_
  refine Lv (.int .i64 ((j+1:Nat):Int)) (fun a ha=>run_move (ha.ev rfl)) ?_
  exact JL.round (j+1,Qi,Pj,n50,Pv) (by dsimp only; omega) (Kq.out ⟨rfl,rfl,rfl,rfl,rfl,rfl,rfl,rfl,rfl,rfl,rfl,rfl,rfl,rfl,rfl,rfl,rfl,rfl,rfl,rfl,rfl,trivial⟩) ⟨by omega,(HS.out 0 2 0 rfl rfl rfl (fun _ h=>FI.asg h (by omega)))⟩
end
end Go.Proofs.YtbihljnjaondcaaGreatDoor
namespace Go.Proofs.YtbihljnjaondcaaGreatDoor
open Go Go.RowKit Lw bZ
section
variable {W0 w:World} {U:List Box} {Ps:List (World→Prop)}
def ak3 (f f':FuncId) (af ah:Rat) (bu bn:Bool) (z2:Int) (l h:Rat) (K:Nat) (er er':Value):Prop := ∀ {W0 w:World} {U:List Box} {Ps:List (World→Prop)} {ax:Bool} {ay:Option Addr} {aj c1a:Nat} {az:Option Addr} {ak aA:Nat} {aB:Bool} {aC:Option Addr} {n1b aG:Nat} {aF:Option Addr} {au aH:Nat},Tz W0→Tab W0→St W0 U Ps w→FV (a0p ax ay aj c1a az ak aA) af 8 bu w→FV (a0p aB aC n1b aG aF au aH) ah 8 bn w→bY Tryz.prog f [(a0r ax ay aj c1a az ak aA aB aC n1b aG aF au aH),.int .i64 z2] w (yY W0 U Ps l h K er)∧bY Tryz.prog f' [(a0r ax ay aj c1a az ak aA aB aC n1b aG aF au aH),.int .i64 z2] w (yY W0 U Ps l h K er')
theorem aAs (af ah:Rat) (bu bn:Bool) (z2:Int) : ∃ (l h:Rat) (er:Value) (code:Int),y9 er code∧ak3 66 68 af ah bu bn z2 l h 3000 er (.int .i64 code):=by
 by_cases h0:z2 < 0
 ·exact ⟨0,0,_,3,y9.err 3,fun HT HB HS f1a bI=>⟨DL (aGS HT HB HS f1a bI h0),DL (arv HT HB HS f1a bI (by omega) (.inl h0))⟩⟩
 ·skip
  by_cases h1:256 < z2
  ·exact ⟨0,0,_,3,y9.err 3,fun HT HB HS f1a bI=>⟨DL (aGR HT HB HS f1a bI h1),DL (arv HT HB HS f1a bI (by omega) (.inr h1))⟩⟩
  ·skip
   obtain ⟨m2,rfl⟩ : ∃ t:Nat,z2=(t:Int):=⟨z2.toNat,by omega⟩
   have hm:m2≤256:=by omega
   exact ⟨_,_,.nilIface,0,y9.nil_,fun HT HB HS f1a bI=>⟨Jf (ae1 HT HB HS f1a bI (by omega) hm) (by omega),Jf (aFa HT HB HS f1a bI (by omega) hm) (by omega)⟩⟩
theorem aAv (af ah:Rat) (bu bn:Bool) (z2:Int) : ∃ (l h:Rat) (er:Value) (code:Int),y9 er code∧ak3 67 69 af ah bu bn z2 l h 3000 er (.int .i64 code):=by
 by_cases h0:z2 < 0
 ·exact ⟨0,0,_,3,y9.err 3,fun HT HB HS f1a bI=>⟨DL (aGV HT HB HS f1a bI h0),DL (aFd HT HB HS f1a bI h0)⟩⟩
 ·skip
  by_cases h1:256 < z2
  ·exact ⟨0,0,_,3,y9.err 3,fun HT HB HS f1a bI=>⟨DL (aGU HT HB HS f1a bI h1),DL (aFc HT HB HS f1a bI h1)⟩⟩
  ·skip
   by_cases h2:(bV bu bn af ah) < 0
   ·obtain ⟨m2,rfl⟩ : ∃ t:Nat,z2=(t:Int):=⟨z2.toNat,by omega⟩
    exact ⟨0,0,_,3,y9.err 3,fun HT HB HS f1a bI=>⟨DL (ajX HT HB HS f1a bI (by omega) (by omega) h2),DL (aFf HT HB HS f1a bI (by omega) (by omega) h2)⟩⟩
   ·skip
    obtain ⟨m2,rfl⟩ : ∃ t:Nat,z2=(t:Int):=⟨z2.toNat,by omega⟩
    have hm:m2≤256:=by omega
    exact ⟨_,_,.nilIface,0,y9.nil_,fun HT HB HS f1a bI=>⟨Jf (ae3 HT HB HS f1a bI (by omega) hm (by grind)) (by omega),Jf (aFe HT HB HS f1a bI (by omega) hm (by grind)) (by omega)⟩⟩
end
end Go.Proofs.YtbihljnjaondcaaGreatDoor
namespace Go.Proofs.YtbihljnjaondcaaGreatDoor
open Go Go.RowKit Lw bZ
section
variable {W0 w:World} {U:List Box} {Ps:List (World→Prop)}
variable {ax:Bool} {ay:Option Addr} {aj c1a:Nat} {az:Option Addr} {ak aA:Nat} {aB:Bool} {aC:Option Addr} {n1b aG:Nat} {aF:Option Addr} {au aH:Nat}
set_option maxHeartbeats 4000000 in
theorem aAD (HT:Tz W0) (HB:Tab W0) {z2:Int} {af:Rat} {bC:Nat} {bu:Bool} {ah:Rat} {bD:Nat} {bn:Bool} (HS:St W0 U Ps w) (f1a:FV (a0p ax ay aj c1a az ak aA) af bC bu w) (bI:FV (a0p aB aC n1b aG aF au aH) ah bD bn w):bY Tryz.prog 7 [(a0r ax ay aj c1a az ak aA aB aC n1b aG aF au aH),.int .i64 z2] w (iP W0 U Ps (.bool true)):=by
 have HS:=HS.add (FV.stable _ _ _ _) f1a
 have HS:=HS.add (FV.stable _ _ _ _) bI
 clear f1a bI
 refine iL a0m rfl Tryz.ntmps7 rfl ?_
 refine JC.seq ?_
 refine JC.region ?_
 refine JL.box (vs:=(a0s ax ay aj c1a az ak aA aB aC n1b aG aF au aH)) HS rfl rfl rfl rfl (fun g1 w1 HS => ?_)
 refine Lv (.bool false) (fun a ha=>run_assign (ha.ev rfl)) ?_
 refine jn ?_
 refine JC.seq ?_
 refine JC.seq ?_
 refine JC.region ?_
 refine JL.load (a0r ax ay aj c1a az ak aA aB aC n1b aG aF au aH) HS 0 rfl rfl rfl aYq aYo rfl rfl ?_
 refine JL.buildSlice (ps:=[(0,(a0r ax ay aj c1a az ak aA aB aC n1b aG aF au aH))]) (vs:=(a0s ax ay aj c1a az ak aA aB aC n1b aG aF au aH)) HS rfl (fun a ha=>by simp only [List.map_cons,List.map_nil,ha.ev (x := .tmp 13) (v:=(a0r ax ay aj c1a az ak aA aB aC n1b aG aF au aH)) rfl]) aY0 aYo aYt rfl rfl (by kernel_rfl) rfl (fun g2 w2 HS => ?_)
 refine JL.call rfl rfl aZh (aoj HT HB HS) (fun v3 w3 HR3 => ?_)
 obtain ⟨rfl,HS⟩:=HR3
 refine Lv (.bool (!(decide (aj≤8∧ak≤8∧n1b≤8∧au≤8)))) (fun a ha=>sU (ha.ev rfl)) ?_
 cases GR:((decide (aj≤8∧ak≤8∧n1b≤8∧au≤8)))
 ·skip
  refine Lv (.bool true) (fun a ha=>run_move (ha.ev rfl)) ?_
  refine Lp ?_
  refine Lp ?_
  refine Lv (.bool true) (fun a ha=>eY (ha.ev rfl) (ha.ev rfl)) ?_
  refine jn ?_
  refine JC.iy rfl ?_
  refine JC.seq ?_
  refine JC.region ?_
  refine JL.call rfl rfl aYO (zh HT HB HS  ) (fun v5 w5 vk => ?_)
  obtain ⟨rfl,HS⟩:=vk
  refine Lv (.bool true) (fun a ha=>run_assign (ha.ev rfl)) ?_
  refine jn ?_
  refine JC.ret (fun a ha => ?_)
  repeat (first | refine dh ?_ | refine df ?_)
  refine fG (v := .bool true) ha Tryz.results7 (.tmp rfl) ⟨_,rfl,?_⟩
  exact ⟨rfl,HS.gy 2 2 rfl rfl⟩
 ·skip
  have hfew:=of_decide_eq_true GR
  have HS:=HS.pO 1 rfl (fun _ h=>(fJ.cut (K:=8) h (by omega) (by omega):FV _ _ 8 _ _))
  have HS:=HS.pO 1 rfl (fun _ h=>(fJ.cut (K:=8) h (by omega) (by omega):FV _ _ 8 _ _))
  obtain ⟨lo,ho,eo,co,ho1,wo⟩:=aAs af ah bu bn z2
  obtain ⟨lr,hr,er,cr,hr1,wr⟩:=aAv af ah bu bn z2
  refine Lv (.bool false) (fun a ha=>run_move (ha.ev rfl)) ?_
  refine JL.cZ rfl rfl rfl rfl rfl rfl aYO (zh HT HB HS  ) (fun v6 w6 uk => ?_)
  obtain ⟨rfl,HS⟩:=uk
  refine Lg (.bool false) (fun a ha=>sU (b:=true) (ha.ev rfl)) ?_
  refine Lv (.bool false) (fun a ha=>gB (ha.ev rfl) (ha.ev rfl)) ?_
  refine jn ?_
  refine JC.jA rfl ?_
  refine JC.jF (fun _ _ h=>h) ?_
  refine JC.seq ?_
  refine JC.region ?_
  refine JL.load (a0r ax ay aj c1a az ak aA aB aC n1b aG aF au aH) HS 1 rfl rfl rfl aYq aYo rfl rfl ?_
  refine Lv (.int .i64 z2) (fun a ha=>run_move (ha.ev rfl)) ?_
  refine JL.call rfl rfl aZ6 ((wo HT HB HS (HS.at_ 1 rfl) (HS.at_ 0 rfl)).1) (fun v7 w7 wM => ?_)
  obtain ⟨Dj,Ce,n7a,CP,Cm,Dc,CV,Dk,Cf,n7b,CQ,B7b,Df,CW,rfl,HS⟩:=wM
  refine Lv (.tuple #[(a0r Dj Ce n7a CP Cm Dc CV Dk Cf n7b CQ B7b Df CW),eo]) (fun a ha=>run_move (ha.ev rfl)) ?_
  refine Lv (a0r Dj Ce n7a CP Cm Dc CV Dk Cf n7b CQ B7b Df CW) (fun a ha=>bK (ha.ev rfl) rfl) ?_
  refine Lv (eo) (fun a ha=>bK (ha.ev rfl) rfl) ?_
  refine JL.alloc (vs:=cO) HS rfl aYt rfl rfl (fun g8 w8 HS => ?_)
  refine JL.store HS rfl rfl (i:=0) rfl aYo rfl rfl rfl (vs':=(a0s Dj Ce n7a CP Cm Dc CV Dk Cf n7b CQ B7b Df CW)) rfl rfl (fun w9 HS => ?_)
  refine Lv (eo) (fun a ha=>run_assign (ha.ev rfl)) ?_
  refine jn ?_
  refine JC.seq ?_
  refine JC.region ?_
  refine JL.load (a0r ax ay aj c1a az ak aA aB aC n1b aG aF au aH) HS 2 rfl rfl rfl aYq aYo rfl rfl ?_
  refine Lv (.int .i64 z2) (fun a ha=>run_move (ha.ev rfl)) ?_
  refine JL.call rfl rfl aY7 ((wr HT HB HS (HS.at_ 3 rfl) (HS.at_ 2 rfl)).1) (fun v10 w10 FN => ?_)
  obtain ⟨TD,QF,SN,Rl,QJ,SC,Rx,TE,QG,SQ,Rn,QK,SE,Ry,rfl,HS⟩:=FN
  refine Lv (.tuple #[(a0r TD QF SN Rl QJ SC Rx TE QG SQ Rn QK SE Ry),er]) (fun a ha=>run_move (ha.ev rfl)) ?_
  refine Lv (a0r TD QF SN Rl QJ SC Rx TE QG SQ Rn QK SE Ry) (fun a ha=>bK (ha.ev rfl) rfl) ?_
  refine Lv (er) (fun a ha=>bK (ha.ev rfl) rfl) ?_
  refine JL.alloc (vs:=cO) HS rfl aYt rfl rfl (fun g11 Dp HS => ?_)
  refine JL.store HS rfl rfl (i:=0) rfl aYo rfl rfl rfl (vs':=(a0s TD QF SN Rl QJ SC Rx TE QG SQ Rn QK SE Ry)) rfl rfl (fun w12 HS => ?_)
  refine Lv (er) (fun a ha=>run_assign (ha.ev rfl)) ?_
  refine jn ?_
  refine JC.seq ?_
  refine JC.region ?_
  refine JL.load (a0r ax ay aj c1a az ak aA aB aC n1b aG aF au aH) HS 3 rfl rfl rfl aYq aYo rfl rfl ?_
  refine Lv (.int .i64 z2) (fun a ha=>run_move (ha.ev rfl)) ?_
  refine JL.call rfl rfl Tryz.call68 ((wo HT HB HS (HS.at_ 5 rfl) (HS.at_ 4 rfl)).2) (fun v13 Gl QX => ?_)
  obtain ⟨aeo,aaj,ady,abn,aaL,ac7,abP,aep,aak,adz,abo,aaM,ac8,abQ,rfl,HS⟩:=QX
  refine Lv (.tuple #[(a0r aeo aaj ady abn aaL ac7 abP aep aak adz abo aaM ac8 abQ),.int .i64 co]) (fun a ha=>run_move (ha.ev rfl)) ?_
  refine Lv (a0r aeo aaj ady abn aaL ac7 abP aep aak adz abo aaM ac8 abQ) (fun a ha=>bK (ha.ev rfl) rfl) ?_
  refine Lv (.int .i64 co) (fun a ha=>bK (ha.ev rfl) rfl) ?_
  refine JL.alloc (vs:=cO) HS rfl aYt rfl rfl (fun g14 JX HS => ?_)
  refine JL.store HS rfl rfl (i:=0) rfl aYo rfl rfl rfl (vs':=(a0s aeo aaj ady abn aaL ac7 abP aep aak adz abo aaM ac8 abQ)) rfl rfl (fun J4 HS => ?_)
  refine Lv (.int .i64 co) (fun a ha=>run_assign (ha.ev rfl)) ?_
  refine jn ?_
  refine JC.seq ?_
  refine JC.region ?_
  refine JL.load (a0r ax ay aj c1a az ak aA aB aC n1b aG aF au aH) HS 4 rfl rfl rfl aYq aYo rfl rfl ?_
  refine Lv (.int .i64 z2) (fun a ha=>run_move (ha.ev rfl)) ?_
  refine JL.call rfl rfl Tryz.call69 ((wr HT HB HS (HS.at_ 7 rfl) (HS.at_ 6 rfl)).2) (fun v16 w16 Iq => ?_)
  obtain ⟨BZ,Bl,BU,BC,Bq,BR,BD,zD,yX,zk,c16b,yZ,zi,zf,rfl,HS⟩:=Iq
  refine Lv (.tuple #[(a0r BZ Bl BU BC Bq BR BD zD yX zk c16b yZ zi zf),.int .i64 cr]) (fun a ha=>run_move (ha.ev rfl)) ?_
  refine Lv (a0r BZ Bl BU BC Bq BR BD zD yX zk c16b yZ zi zf) (fun a ha=>bK (ha.ev rfl) rfl) ?_
  refine Lv (.int .i64 cr) (fun a ha=>bK (ha.ev rfl) rfl) ?_
  refine JL.alloc (vs:=cO) HS rfl aYt rfl rfl (fun g17 LH HS => ?_)
  refine JL.store HS rfl rfl (i:=0) rfl aYo rfl rfl rfl (vs':=(a0s BZ Bl BU BC Bq BR BD zD yX zk c16b yZ zi zf)) rfl rfl (fun QA HS => ?_)
  refine Lv (.int .i64 cr) (fun a ha=>run_assign (ha.ev rfl)) ?_
  refine jn ?_
  refine JC.seq ?_
  refine JC.region ?_
  refine Lv (eo) (fun a ha=>run_move (ha.ev rfl)) ?_
  refine JL.call rfl rfl aZt (ho1 _ _ _ _ HS) (fun v19 O6 Q7 => ?_)
  obtain ⟨rfl,HS⟩:=Q7
  refine Lv (.int .i64 co) (fun a ha=>run_move (ha.ev rfl)) ?_
  refine Lv (.bool true) (fun a ha=>rC (ha.ev rfl) (ha.ev rfl) (by simp)) ?_
  refine Lv (.bool true) (fun a ha=>run_move (ha.ev rfl)) ?_
  refine Lg (a0r Dj Ce n7a CP Cm Dc CV Dk Cf n7b CQ B7b Df CW) (fun a ha=>gU (ha.ev rfl) aYq aYo (HS.box _ (.tail _ (.tail _ (.tail _ (.head _))))) rfl rfl) ?_
  refine Lg (a0r aeo aaj ady abn aaL ac7 abP aep aak adz abo aaM ac8 abQ) (fun a ha=>gU (ha.ev rfl) aYq aYo (HS.box _ (.tail _ (.head _))) rfl rfl) ?_
  refine JL.cZ rfl rfl rfl rfl rfl rfl aY2 (JM HT HB HS (HS.at_ 6 rfl) (HS.at_ 7 rfl) (HS.at_ 2 rfl) (HS.at_ 3 rfl) (by omega) rfl rfl) (fun v20 O7 MX => ?_)
  obtain ⟨rfl,HS⟩:=MX
  refine Lv (.bool true) (fun a ha=>eY (ha.ev rfl) (ha.ev rfl)) ?_
  refine Lv (.bool true) (fun a ha=>run_move (ha.ev rfl)) ?_
  refine Lg (er) (fun a ha=>run_move (ha.ev rfl)) ?_
  refine JL.cZ rfl rfl rfl rfl rfl rfl aZt (hr1 _ _ _ _ HS) (fun v21 VI af4 => ?_)
  obtain ⟨rfl,HS⟩:=af4
  refine Lg (.int .i64 cr) (fun a ha=>run_move (ha.ev rfl)) ?_
  refine Lg (.bool true) (fun a ha=>rC (ha.ev rfl) (ha.ev rfl) (by simp)) ?_
  refine Lv (.bool true) (fun a ha=>eY (ha.ev rfl) (ha.ev rfl)) ?_
  refine Lv (.bool true) (fun a ha=>run_move (ha.ev rfl)) ?_
  refine Lg (a0r TD QF SN Rl QJ SC Rx TE QG SQ Rn QK SE Ry) (fun a ha=>gU (ha.ev rfl) aYq aYo (HS.box _ (.tail _ (.tail _ (.head _)))) rfl rfl) ?_
  refine Lg (a0r BZ Bl BU BC Bq BR BD zD yX zk c16b yZ zi zf) (fun a ha=>gU (ha.ev rfl) aYq aYo (HS.box _ (.head _)) rfl rfl) ?_
  refine JL.cZ rfl rfl rfl rfl rfl rfl aY2 (JM HT HB HS (HS.at_ 4 rfl) (HS.at_ 5 rfl) (HS.at_ 0 rfl) (HS.at_ 1 rfl) (by omega) rfl rfl) (fun v22 ZZ af5 => ?_)
  obtain ⟨rfl,HS⟩:=af5
  refine Lv (.bool true) (fun a ha=>eY (ha.ev rfl) (ha.ev rfl)) ?_
  refine Lv (.bool true) (fun a ha=>run_assign (ha.ev rfl)) ?_
  refine jn ?_
  refine JC.ret (fun a ha => ?_)
  repeat (first | refine dh ?_ | refine df ?_)
  refine fG (v := .bool true) ha Tryz.results7 (.tmp rfl) ⟨_,rfl,?_⟩
  exact ⟨rfl,HS.gy 6 12 rfl rfl⟩
theorem aAC {z2:Int} {ax:Bool} {ay:Option Addr} {aj c1a:Nat} {az:Option Addr} {ak aA:Nat} {af:Rat} {bC:Nat} {bu:Bool} {aB:Bool} {aC:Option Addr} {n1b aG:Nat} {aF:Option Addr} {au aH:Nat} {ah:Rat} {bD:Nat} {bn:Bool} (W:World) (ht:Tz W) (hb:Tab W) (_hx:Mx W) (f1a:fJ W ⟨(a0p ax ay aj c1a az ak aA),af,bC,bu⟩) (bI:fJ W ⟨(a0p aB aC n1b aG aF au aH),ah,bD,bn⟩) (_w2:(Lit.int .i64 z2).wf=true) :
  Calls Tryz.prog 7 #[(a0r ax ay aj c1a az ak aA aB aC n1b aG aF au aH),.int .i64 z2] W fun e w'=>e = .returned (.bool true)∧Below W.heap.size W w':=law_true (aAD ht hb (St.init W) f1a bI)
end
end Go.Proofs.YtbihljnjaondcaaGreatDoor
