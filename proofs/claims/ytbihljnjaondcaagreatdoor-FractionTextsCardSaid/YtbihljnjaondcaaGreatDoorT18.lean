/- Part of a proof, said shortly. -/
import Derived.Deep.RegionWith
import Derived.Deep.RegionHeld3
import Derived.Test.YtbihljnjaondcaaGreatDoorAlt
import Derived.Test.YtbihljnjaondcaaGreatDoorT16
import Derived.Test.YtbihljnjaondcaaGreatDoorT15
import Derived.Test.YtbihljnjaondcaaGreatDoorT1
import Derived.Test.YtbihljnjaondcaaGreatDoorT3
import Derived.Test.YtbihljnjaondcaaGreatDoorT2
import Derived.Test.YtbihljnjaondcaaGreatDoorT8
import Derived.Test.YtbihljnjaondcaaGreatDoorT6
import Derived.Test.YtbihljnjaondcaaGreatDoorT4
import Derived.Test.YtbihljnjaondcaaGreatDoorT5
import Derived.Test.YtbihljnjaondcaaGreatDoorT7
import Derived.Test.YtbihljnjaondcaaGreatDoorT17
import Derived.Test.YtbihljnjaondcaaGreatDoorT10
namespace Lw
open Go Go.RowKit
theorem bfl {d:Nat} (h0:d≠0) (h:d < 4294967296):1≤Lib.bitLen d∧Lib.bitLen d≤32∧2147483648≤d*2 ^ (32 - Lib.bitLen d)∧d*2 ^ (32 - Lib.bitLen d) < 4294967296:=by
 obtain ⟨h1,h2,h3,_⟩:=bitLen_spec h0 (show d < 18446744073709551616 by omega)
 have h4:Lib.bitLen d≤32:=Lib.bitLen_le d 32 (by omega) (by simpa using h)
 have e1:2 ^ (Lib.bitLen d - 1)*2 ^ (32 - Lib.bitLen d)=2147483648:=by rw [← Nat.pow_add,show Lib.bitLen d - 1+(32 - Lib.bitLen d)=31 by omega]
 have e2:2 ^ Lib.bitLen d*2 ^ (32 - Lib.bitLen d)=4294967296:=by rw [← Nat.pow_add,show Lib.bitLen d+(32 - Lib.bitLen d)=32 by omega]
 have hp:0 < 2 ^ (32 - Lib.bitLen d):=Nat.pow_pos (by omega)
 have m1:=Nat.mul_le_mul_right (2 ^ (32 - Lib.bitLen d)) h2
 have m2:=Nat.mul_lt_mul_of_pos_right h3 hp
 exact ⟨h1,h4,by omega,by omega⟩
theorem bnQ {l:List Nat} {k P:Nat} (hw:Wds l) (hl:l.length=k+2) (h1:2147483648≤dg l (k+1)*P) (h2:dg l (k+1)*P < 4294967296) (hP:0 < P) (hPd:dg l (k+1)*P+P≤4294967296) :
  (Uy (val l*P)).length=k+2∧2147483648≤dg (Uy (val l*P)) (k+1):=by
 have e:lo l (k+2)=val l:=acm (by omega)
 rw [show k+2=k+1+1 from rfl,acw] at e
 have h3:=ano hw (k+1)
 have e2:val l*P=lo l (k+1)*P+pw (k+1)*(dg l (k+1)*P):=by rw [← e,Nat.add_mul,Nat.mul_assoc]
 have h4:lo l (k+1)*P+P≤pw (k+1)*P:=by
  have:=Nat.mul_le_mul_right P h3
  rwa [Nat.succ_mul] at this
 have h5:pw (k+1)*(dg l (k+1)*P)+pw (k+1)*P≤pw (k+2):=by
  rw [← Nat.mul_add,afC (k+1),Nat.mul_comm 4294967296]
  exact Nat.mul_le_mul_left _ hPd
 have h6:pw (k+1)*2147483648≤pw (k+1)*(dg l (k+1)*P):=Nat.mul_le_mul_left _ h1
 have hlt:val l*P < pw (k+2):=by omega
 have hpp:=anr (k+1)
 have hle:=aj9 hlt
 have hlen:(Uy (val l*P)).length=k+2:=by
  rcases Nat.lt_or_ge (Uy (val l*P)).length (k+2) with h7 | h7
  ·have:=awx (n:=val l*P) (k:=k+1) (by omega)
   omega
  ·omega
 refine ⟨hlen,?_⟩
 have e3:lo (Uy (val l*P)) (k+2)=val l*P:=by rw [acm (by omega),aar]
 rw [show k+2=k+1+1 from rfl,acw] at e3
 have h8:=ano (acy (val l*P)) (k+1)
 refine Nat.le_of_not_lt fun h9 => ?_
 have:=Nat.mul_le_mul_left (pw (k+1)) (show dg (Uy (val l*P)) (k+1)+1≤2147483648 by omega)
 rw [Nat.mul_add,Nat.mul_one] at this
 omega
theorem bfy {d P:Nat} (h1:d*P < 4294967296) (h2 : ∃ k,k*P=4294967296):d*P+P≤4294967296:=by
 obtain ⟨k,hk⟩:=h2
 rw [← hk] at h1 ⊢
 have h3:d < k:=Nat.lt_of_mul_lt_mul_right h1
 have:=Nat.mul_le_mul_right P h3
 rwa [Nat.succ_mul] at this
theorem bky {N M n k P:Nat} (hn:(Uy N).length=n) (hm:(Uy M).length=k+2) (hnm:k+2≤n) (hP:0 < P):N*P < M*P*pw (n - (k+2)+1):=by
 have h1:N < pw n:=awx (by omega)
 have h2:=a4W (aj7 M) (by intro e; rw [e] at hm; simp at hm)
 rw [aar,hm] at h2
 have h3:pw n=pw (k+2 - 1)*pw (n - (k+2)+1):=by rw [← a2t]; congr 1; omega
 have h4:pw (k+2 - 1)*pw (n - (k+2)+1)≤M*pw (n - (k+2)+1):=Nat.mul_le_mul_right _ h2
 have h5:N < M*pw (n - (k+2)+1):=by omega
 have h6:=Nat.mul_lt_mul_of_pos_right h5 hP
 have h7:M*pw (n - (k+2)+1)*P=M*P*pw (n - (k+2)+1):=by ac_rfl
 omega
theorem bnR {r P:Nat} (hP:0 < P):r*P / P=r:=Nat.mul_div_cancel r hP
end Lw
namespace Go.Proofs.YtbihljnjaondcaaGreatDoor
open Go Go.RowKit Lw
set_option maxRecDepth 100000 in
set_option maxHeartbeats 3200000 in
theorem bkx (A A':Option Addr) (N M n k c c' B B':Nat) (w:World) (h:Rd w B A (Uy N)) (h':Rd w B' A' (Uy M)) (hB:B≤w.heap.size) (hB':B'≤w.heap.size)
  (hn:(Uy N).length=n) (hm:(Uy M).length=k+2) (hl:n≤8388608) (hnm:k+2≤n) :
  Calls Tryz.prog 235 #[.slice A n c,.slice A' (k+2:Nat) c'] w (a4h w (N / M) (N % M)):=by
 obtain ⟨b,off,rfl,hb,hcell,hlt⟩:=h'.at_ (k:=k+1) (by rw [hm]; omega)
 have hd0:dg (Uy M) (k+1)≠0:=by
  refine aj7 M _ ?_
  rw [List.getLast?_eq_getElem?,hm,show k+2 - 1=k+1 by omega,a1G (by omega)]
 obtain ⟨t1,t2,t3,t4⟩:=bfl hd0 hlt
 obtain ⟨d,hd⟩ : ∃ d,d=dg (Uy M) (k+1):=⟨_,rfl⟩
 rw [← hd] at hcell hlt hd0 t1 t2 t3 t4
 have hk:=fun W=>(Tryz.bits_LeadingZeros32 (d:Int) W (by omega) (by omega))
 obtain ⟨s,hs⟩ : ∃ s,s=32 - Lib.bitLen d:=⟨_,rfl⟩
 rw [← hs] at t3 t4
 have bdj:s≤31:=by omega
 have hk2 : ∀ W,Calls Tryz.prog 252 #[.int .u32 (d:Int)] W fun e w'=>e = .returned (.int .i64 (s:Int))∧W=w':=fun W=>(hk W).mono fun e w' h=>⟨by rw [h.1,Int.toNat_natCast,hs]; congr 2; omega,h.2.symm⟩
 have Hk:=Lib.hid hk2
 have hP0:0 < 2 ^ s:=Nat.pow_pos (by omega)
 have htop:=bnQ (acy M) hm (by rw [← hd]; exact t3) (by rw [← hd]; exact t4) hP0 (by rw [← hd]; exact bfy t4 ⟨2 ^ (32 - s),a3t (by omega)⟩)
 rw [aar] at htop
 have hst:=bky hn hm hnm hP0
 obtain ⟨P,hP⟩ : ∃ P,P=2 ^ s:=⟨_,rfl⟩
 rw [← hP] at hP0 htop hst
 have hs1:0=s / 32:=by omega
 have hs2:s=s % 32:=by omega
 have HS1:=Lib.hid (And.intro hs1 (And.intro hs2 hP))
 have HN:=Lib.hid hn
 have HM:=Lib.hid hm
 have HT:=Lib.hid htop
 have HS:=Lib.hid hst
 have HP:=Lib.hid hP0
 obtain ⟨j,hj⟩ : ∃ j,n=k+2+j:=⟨n - (k+2),by omega⟩
 subst hj
 clear hk hk2 hs t1 t2 t3 t4 hd hn hm htop hst hP0 hd0 hs1 hs2 hP
 go_enter Tryz.func235,Tryz.ntmps235
 go_wp2_with fail
 refine (Hk.out _).mono ?_
 rintro e w1 ⟨rfl,rfl⟩
 go_wp2_with fail
 refine (ba5 A (Uy N) (k+2+j) c B s 0 s P (2 ^ (32 - s)) _ h hB HN.out (by omega) (by omega) HS1.out.1 HS1.out.2.1 HS1.out.2.2 rfl).mono ?_
 rintro e w2 ⟨us,rfl,hu1,hul,huw,huv,hub⟩
 rw [aar,aNP,Nat.one_mul] at huv
 have bds:=hu1.lt
 have Hul:=Lib.hid hul
 have Huv:=Lib.hid huv
 clear hul huv
 go_wp2_with fail
 refine (ba5 (some ⟨b,off,none⟩) (Uy M) (k+2) c' B' s 0 s P (2 ^ (32 - s)) _ (h'.below (hub.mono hB')) (Nat.le_trans hB' hub.size) HM.out (by omega) (by omega) HS1.out.1 HS1.out.2.1 HS1.out.2.2 rfl).mono ?_
 rintro e w3 ⟨vs,rfl,hv1,hvl,hvw,hvv,hvb⟩
 rw [aar,aNP,Nat.one_mul] at hvv
 have bj9:=hv1.lt
 have Hvl:=Lib.hid hvl
 have Hvv:=Lib.hid hvv
 clear hvl hvv
 go_wp2_with fail
 refine (aOs _ vs _ _ _ _ (hv1.rd hvw) Hvl.out (by omega) (by omega)).mono ?_
 rintro e w4 ⟨rfl,rfl⟩
 have hvr:=(hv1.rd hvw).Uy
 rw [Hvv.out] at hvr ⊢
 rw [HT.out.1]
 obtain ⟨V,hV⟩ : ∃ V,V=M*P:=⟨_,rfl⟩
 rw [← hV] at hvr
 have HV:=Lib.hid hV
 have bdt:=hub.trans (hvb.mono hub.size)
 have hu2:=hu1.below hvb bds
 clear hV hub hvb hu1 hv1
 have hj1:IntKind.i64.wrap ((k:Int)+2+(j:Int)+1 - ((k:Int)+2))=((j+1:Nat):Int):=by rw [IntWalk.i64_in _ (by omega)]; omega
 have hj2:(k:Int)+2+(j:Int)+1 - ((k:Int)+2)=((j+1:Nat):Int):=by omega
 go_wp2_with (at_make; refine aAN _ rfl _ _ _ rfl 99 bsw ami _ _ _ _ (j+1) rfl rfl (by omega) (by omega) (by omega) ?_; intro w4 hq1 hqb hqs)
 have hu4:=hu2.below hqb (Nat.lt_of_lt_of_le bds (Nat.le_of_lt (Nat.lt_of_lt_of_le bj9 (Nat.le_refl _)))|> fun h=>by omega)
 have hv4:=hvr.below hqb
 have hb4:=bdt.trans (hqb.mono (by omega))
 have hgq:=hq1.lt
 have HKS:=Lib.hid (show Ks (N*P) V (k+2) us (List.replicate (j+1) 0) (j+1) from Ks.start Huv.out (by rw [Hul.out]; omega) (by rw [HV.out]; have:=HS.out; rwa [show k+2+j - (k+2)+1=j+1 by omega] at this))
 clear hu2 hvr bdt hqb hqs
 generalize w3.heap.size=gq at *
 generalize w2.heap.size=gv at *
 go_loopw [9] (fun i wr => ∃ (i':Int) (xs qs:List Nat),-1≤i'∧i'≤j∧i = .int .i64 i'∧Blk wr w.heap.size 99 xs∧Hid (xs.length=k+2+j+1)∧Wds xs∧Blk wr gq 99 qs∧Hid (qs.length=j+1)∧Wds qs ∧
   Rd wr gq (some ⟨gv,0,none⟩) (Uy V)∧Hid (Ks (N*P) V (k+2) xs qs (i'+1).toNat)∧Below w.heap.size w wr) (fun i _=>(intOf i+1).toNat)
 case atStart=>exact ⟨j,us,_,by omega,by omega,rfl,hu4,Lib.hid (by rw [Hul.out]),huw,hq1,Lib.hid (by simp),az8 _,hv4,HKS,hb4⟩
 case round =>
  obtain ⟨i',xs,qs,hi,hij,rfl,hx1,hxl,hxw,hqq,hql,hqw,hv5,hks,hbw⟩:=hrel
  clear hu4 hq1 hv4 hb4
  by_cases h0:i' < 0
  ·have a9Q:Hid (Ks (N*P) V (k+2) xs qs 0):=Lib.hid (by have:=hks.out; rwa [show (i'+1).toNat=0 by omega] at this)
   have hko:=a9Q.out.out
   have HR:Hid (val xs / 2 ^ s=N % M∧val qs=N / M):=Lib.hid (by
    rw [HV.out,Nat.mul_mod_mul_right,Nat.mul_div_mul_right _ _ HP.out] at hko
    rw [hko.1,← HS1.out.2.2]
    exact ⟨bnR HP.out,hko.2⟩)
   clear hko
   go_wp2_with fail
   refine (aOs _ qs _ _ _ _ (hqq.rd hqw) hql.out (Nat.le_refl _) (by omega)).mono ?_
   rintro e w7 ⟨rfl,rfl⟩
   rw [HR.out.2]
   have hqd:=(hqq.rd hqw).Uy
   have hqn:=aon hqw
   rw [HR.out.2] at hqd hqn
   rw [hql.out] at hqn
   have HQN:=Lib.hid hqn
   clear hqn
   go_wp2_with fail
   refine (ba4 _ xs (k+2+j+1) _ _ s 0 s P (2 ^ (32 - s)) _ (hx1.rd hxw) (Nat.le_refl _) hxl.out (by omega) (by omega) HS1.out.1 HS1.out.2.1 HS1.out.2.2 rfl).mono ?_
   rintro e w8 ⟨A8,c8,rfl,hc8,hr8,hb8⟩
   rw [HR.out.1] at hr8 hc8 ⊢
   go_wp2_with fail
   go_ret2
   exact ⟨_,_,A8,c8,rfl,HQN.out,hc8,(hqd.below hb8).more hb8.size,hr8,aaR hbw hb8 (Nat.le_refl _)⟩
  ·obtain ⟨i,rfl⟩:=Int.eq_ofNat_of_zero_le (show 0≤i' by omega)
   have bdc:Hid (Ks (N*P) V (k+2) xs qs (i+1)):=Lib.hid (by have:=hks.out; rwa [show ((i:Int)+1).toNat=i+1 by omega] at this)
   clear hks
   go_wp2_with fail
   rw [show i+(k+2)+1 - i=k+3 by omega]
   go_wp2_with fail
   have HTV:Hid ((Uy V).length=k+2∧2147483648≤dg (Uy V) (k+1)):=Lib.hid (by rw [HV.out]; exact HT.out)
   have hxi:i < xs.length:=by rw [hxl.out]; omega
   obtain ⟨U,hU1,hU2,hU3,hU4,hU5⟩:=bdc.out.part hxw hxi (awx (by rw [HTV.out.1]; exact Nat.le_refl _))
   have hVp:0 < V:=by
    rcases Nat.eq_zero_or_pos V with e | e
    ·rw [e] at hU3; omega
    ·exact e
   have HU:=Lib.hid (And.intro hU2 (And.intro hU4 hU5))
   have bjY:=hqq.lt
   refine (bjv _ _ ((xs.drop i).take (k+2+1)) (Uy V) k _ _ _ gq _ (hx1.bmD hxw i (k+2+1) (by rw [hxl.out]; omega)) hv5 (by rw [List.length_take,List.length_drop,hxl.out]; omega) HTV.out.1 (by omega) HTV.out.2 (by rw [hU1,aar]; exact hU3)).mono ?_
   rintro e w5 ⟨x,q,rfl,rfl,hx,hxa,hxb⟩
   rw [hU1,aar] at hxa hxb
   have HX:=Lib.hid (And.intro hxa hxb)
   clear hU1 hU2 hU3 hU4 hU5 hxa hxb
   go_wp2_with fail
   refine (bn5 w.heap.size i x (k+2) U (some ⟨gv,0,none⟩) xs (Uy V) _ _ gq _ (hx1.drewN q) hxw (hv5.drewN q) (by simp; omega) (fun _ a ha=>by injection ha with e; subst e; simp; omega) HTV.out.1 (by omega) (by rw [hxl.out]; omega) (by rw [hxl.out]; omega) (by omega) hx HU.out.2.1 (by rw [aar]; exact hVp) (by rw [aar]; exact HX.out.1) (by rw [aar]; exact HX.out.2)).mono ?_
   rintro e w6 ⟨ds,rfl,hb6,hdl,hdw,hsame,hval,hg6,bdp⟩
   rw [aar] at hval ⊢
   obtain ⟨Q,hQ⟩ : ∃ Q,Q=U / V:=⟨_,rfl⟩
   have hQl:Q≤4294967295:=by rw [hQ]; exact Nat.le_trans HX.out.1 hx
   rw [← hQ] at hval ⊢
   have hq6:=hqq.of_same (hg6.block gq bjY (by intro e; injection e with e; omega))
   have hv6:=hv5.grown ((show wr.grownBy (wr.drewN q) (some w.heap.size) from ⟨rfl,rfl,rfl,Nat.le_refl _,fun _ _ _=>rfl⟩).trans hg6) (by omega) (fun _ a ha=>by injection ha with e; subst e; simp; omega)
   have ay7:=below_of_grown (hbw.trans (below_drewN' _ _ _)) hg6 (by simp; exact hbw.size) (Nat.le_refl _)
   have HD:=Lib.hid (And.intro hdl (And.intro hsame (And.intro hval (And.intro hQ bdp))))
   have hqc:=hq6.cell (i:=i) (by rw [hql.out]; omega)
   have hqf:=hq6.frozen i
   have HB:=Lib.hid ay7
   clear hdl hsame hval hQ bdp hg6 ay7
   go_wp2_with fail
   go_roundw
   case rel =>
    refine ⟨(i:Int) - 1,ds,qs.set i Q,by omega,by omega,rfl,hb6.far (p:=⟨gq,i,none⟩) (by simp; omega) _,Lib.hid (by rw [HD.out.1]; exact hxl.out),hdw,hq6.a1c Q (by rw [hql.out]; omega),Lib.hid (by rw [List.length_set]; exact hql.out),alc hqw _ (by omega),hv6.setCell (p:=⟨gq,i,none⟩) (Nat.le_refl _) _,Lib.hid ?_,HB.out.setCell (p:=⟨gq,i,none⟩) (by simp; omega) _⟩
    rw [show ((i:Int) - 1+1).toNat=i by omega,HD.out.2.2.2.1]
    refine bdc.out.next hxi (by rw [hql.out]; omega) HD.out.1 HU.out.1 hVp ?_ HU.out.2.2 HD.out.2.1 (by rw [← HD.out.2.2.2.1]; exact HD.out.2.2.1)
    have:=ano hxw (i+(k+2)+1)
    rw [HU.out.2.2]; exact this
   case measure=>simp [intOf]
theorem a4N:a9h:=by
 intro A A' N M n m c c' B B' w h h' hB hB' hn hm hl hl' h2 hMN
 obtain ⟨k,rfl⟩ : ∃ k,m=k+2:=⟨m - 2,by omega⟩
 have hnm:k+2≤n:=by
  rcases Nat.lt_or_ge n (k+2) with h1 | h1
  ·have:=a6D (acy N) (aj7 M) (by rw [hn,hm]; exact h1)
   rw [aar,aar] at this
   omega
  ·exact h1
 exact bkx A A' N M n k c c' B B' w h h' hB hB' hn hm hl hnm
end Go.Proofs.YtbihljnjaondcaaGreatDoor
namespace Go.Proofs.YtbihljnjaondcaaGreatDoor
open Go Go.RowKit Lw
set_option maxRecDepth 100000 in
set_option maxHeartbeats 3200000 in
theorem bdF (A A':Option Addr) (N M k m c c' B B':Nat) (w:World) (h:Rd w B A (Uy M)) (h':Rd w B' A' (Uy N)) (hn:(Uy N).length=k+3) (hm:(Uy M).length=m) (hl:k≤8388608) (hMN:M≤N) :
  Calls Tryz.prog 250 #[.slice A m c,.slice A' (k+3:Nat) c'] w fun e w' => ∃ q,e = .returned (.int .u64 ((M / (pw k*2 ^ Lib.bitLen (dg (Uy N) (k+2))):Nat):Int))∧w'=w.drewN q:=by
 obtain ⟨b,off,rfl,hb,hcell,hlt⟩:=h'.at_ (k:=k+2) (by rw [hn]; omega)
 have hd0:dg (Uy N) (k+2)≠0:=by
  refine aj7 N _ ?_
  rw [List.getLast?_eq_getElem?,hn,show k+3 - 1=k+2 by omega,a1G (by omega)]
 obtain ⟨t1,t2,t3,t4⟩:=bfl hd0 hlt
 have hmm:m≤k+3:=by
  rcases Nat.lt_or_ge (k+3) m with h1 | h1
  ·have:=a6D (acy N) (aj7 M) (by rw [hn,hm]; exact h1)
   rw [aar,aar] at this
   omega
  ·exact h1
 have hMl:val (Uy M) < pw (k+3):=Nat.lt_of_lt_of_le (afS (acy M)) (ajj (by rw [hm]; exact hmm))
 have htm:=bok (acy N) (by rw [aar,aar]; exact hMN) hn hMl
 obtain ⟨d,hd⟩ : ∃ d,d=dg (Uy N) (k+2):=⟨_,rfl⟩
 rw [← hd] at hcell hlt hd0 t1 t2 t3 t4 htm
 obtain ⟨s,hs⟩ : ∃ s,s=32 - Lib.bitLen d:=⟨_,rfl⟩
 rw [← hs] at t3 t4
 have bdj:s≤31:=by omega
 have hbl:Lib.bitLen d=32 - s:=by omega
 have hk:=fun W=>(Tryz.bits_LeadingZeros32 (d:Int) W (by omega) (by omega))
 have hk2 : ∀ W,Calls Tryz.prog 252 #[.int .u32 (d:Int)] W fun e w'=>e = .returned (.int .i64 (s:Int))∧W=w':=fun W=>(hk W).mono fun e w' h=>⟨by rw [h.1,Int.toNat_natCast,hs]; congr 2; omega,h.2.symm⟩
 have Hk:=Lib.hid hk2
 have hval:=bkr (n:=k) (acy M) hMl (a3t (p:=s) (by omega)) (Nat.pow_pos (by omega))
 rw [aar] at hval
 obtain ⟨w1,hw1⟩ : ∃ x,x=dg (Uy M) (k+2):=⟨_,rfl⟩
 obtain ⟨w2,hw2⟩ : ∃ x,x=dg (Uy M) (k+1):=⟨_,rfl⟩
 obtain ⟨w3,hw3⟩ : ∃ x,x=dg (Uy M) k:=⟨_,rfl⟩
 have l1:w1 < 4294967296:=by rw [hw1]; exact ahv (acy M) _
 have l2:w2 < 4294967296:=by rw [hw2]; exact ahv (acy M) _
 have l3:w3 < 4294967296:=by rw [hw3]; exact ahv (acy M) _
 rw [← hw1,← hw2,← hw3] at hval
 rw [← hw1] at htm
 obtain ⟨P,hP⟩ : ∃ P,P=2 ^ s:=⟨_,rfl⟩
 have htop:(w2+4294967296*w1)*P≤18446744073709551615:=by
  have hP0:0 < P:=by rw [hP]; exact Nat.pow_pos (by omega)
  have f1:w1*P≤d*P:=Nat.mul_le_mul_right _ htm
  have f2:w1*P+P≤4294967296:=bfy (by rw [← hP] at t4; omega) ⟨2 ^ (32 - s),by rw [hP]; exact a3t (by omega)⟩
  have f3:w2*P≤4294967295*P:=Nat.mul_le_mul_right _ (by omega)
  rw [Nat.add_mul,Nat.mul_assoc]
  omega
 have bdh:bits .or .u64 ((w1:Int)*4294967296) (w2:Int)=((w2+4294967296*w1:Nat):Int):=a3s l1 l2
 obtain ⟨top,ht⟩ : ∃ t,t=w2+4294967296*w1:=⟨_,rfl⟩
 rw [← ht] at bdh htop hval
 have htl:top≤18446744073709551615:=by omega
 have hb3:w3 / 2 ^ (32 - s) < 2 ^ s:=ba6 l3 (by omega)
 have hmul:(top:Int)*2 ^ s=((top*P:Nat):Int):=by rw [hP]; simp
 have a9Z:IntKind.u64.wrap ((top:Int)*2 ^ s)=((top*P:Nat):Int):=by rw [hmul]; exact IntWalk.u64_in _ (by omega)
 have a6s:(w3:Int) / 2 ^ (32 - s)=((w3 / 2 ^ (32 - s):Nat):Int):=by simp
 have hor2:bits .or .u64 ((top*P:Nat):Int) ((w3 / 2 ^ (32 - s):Nat):Int)=((top*P+w3 / 2 ^ (32 - s):Nat):Int):=by
  have hp2:2 ^ s≤2147483648:=by
   have:2 ^ s≤2 ^ 31:=Nat.pow_le_pow_right (by omega) bdj
   omega
  have:=baz (i:=s) (a:=top) (b:=w3 / 2 ^ (32 - s)) hb3 (by rw [← hP]; omega) (by omega)
  rw [← hP] at this
  rw [← this,Int.natCast_mul]
 rw [← hP] at hval
 obtain ⟨x1,hx1⟩ : ∃ x,x=top*P:=⟨_,rfl⟩
 obtain ⟨x2,hx2⟩ : ∃ x,x=w3 / 2 ^ (32 - s):=⟨_,rfl⟩
 rw [← hx1] at hor2 a9Z hval htop
 rw [← hx2] at hor2 a6s hval
 obtain ⟨G,hG⟩ : ∃ G,G=M / (pw k*2 ^ (32 - s)):=⟨_,rfl⟩
 rw [← hG] at hval
 have HG:=Lib.hid (show G=M / (pw k*2 ^ Lib.bitLen (dg (Uy N) (k+2))) by rw [← hd,hbl]; exact hG)
 rw [hval] at hor2
 have Hn:=Lib.hid hn
 have Hm:=Lib.hid hm
 have Hw:=Lib.hid (And.intro hw1 (And.intro hw2 hw3))
 have k1:IntKind.i64.wrap ((k:Int)+3 - 1)=(k:Int)+2:=by rw [IntWalk.i64_in _ (by omega)]; omega
 have k2:IntKind.i64.wrap ((k:Int)+3 - 2)=(k:Int)+1:=by rw [IntWalk.i64_in _ (by omega)]; omega
 have k3:IntKind.i64.wrap ((k:Int)+3 - 3)=(k:Int):=by rw [IntWalk.i64_in _ (by omega)]; omega
 have hA1 : ∀ W,Rd W B A (Uy M)→Calls Tryz.prog 204 #[.slice A m c,.int .i64 ((k:Int)+2)] W fun e w'=>e = .returned (.int .u64 (w1:Int))∧W=w':=fun W hW=>by
  have:=a0u A (Uy M) m c B ((k+2:Nat):Int) W hW hm (by omega)
  rw [as7,← hw1] at this; exact this
 have hA2 : ∀ W,Rd W B A (Uy M)→Calls Tryz.prog 204 #[.slice A m c,.int .i64 ((k:Int)+1)] W fun e w'=>e = .returned (.int .u64 (w2:Int))∧W=w':=fun W hW=>by
  have:=a0u A (Uy M) m c B ((k+1:Nat):Int) W hW hm (by omega)
  rw [as7,← hw2] at this; exact this
 have hA3 : ∀ W,Rd W B A (Uy M)→Calls Tryz.prog 204 #[.slice A m c,.int .i64 (k:Int)] W fun e w'=>e = .returned (.int .u64 (w3:Int))∧W=w':=fun W hW=>by
  have:=a0u A (Uy M) m c B (k:Int) W hW hm (by omega)
  rw [as7,← hw3] at this; exact this
 have HA1:=Lib.hid hA1
 have HA2:=Lib.hid hA2
 have HA3:=Lib.hid hA3
 clear hA1 hA2 hA3
 go_enter Tryz.func250,Tryz.ntmps250
 clear hn hm hw1 hw2 hw3 hval hk hk2 hs hbl t1 t2 t3 t4 hd0 hP hmul ht hx1 hx2 hG hd htm hb3
 go_wp2_with fail
 refine (Hk.out _).mono ?_
 rintro e w4 ⟨rfl,rfl⟩
 go_wp2_with fail
 refine (HA1.out _ h).mono ?_
 rintro e w4 ⟨rfl,rfl⟩
 go_wp2_with fail
 refine (HA2.out _ h).mono ?_
 rintro e w4 ⟨rfl,rfl⟩
 go_wp2_with fail
 have HF:=Lib.hid (And.intro a9Z (And.intro a6s hor2))
 clear a9Z a6s hor2
 clear hMl hmm hMN htl htop l1 l2 l3 bdh hcell hlt hb h' k1 k2
 have k5:IntKind.i64.wrap (k:Int)=(k:Int):=IntWalk.i64_in _ (by omega)
 have k4:IntKind.i64.wrap (32 - (s:Int))=((32 - s:Nat):Int):=by rw [IntWalk.i64_in _ (by omega)]; omega
 go_region_with (go_at_call 204; refine (HA3.out _ h.drew).mono ?_; rintro e w4 ⟨rfl,rfl⟩)
 all_goals go_wp2_with fail
 all_goals go_ret
 all_goals exact ⟨1,ahy (by rw [HF.out.1,HF.out.2.1,HF.out.2.2,HG.out]),rfl⟩
end Go.Proofs.YtbihljnjaondcaaGreatDoor
namespace Lw
open Go Go.RowKit
def a9l (N M u0 u1 v0 v1:Nat) (o:Bool):Prop:=v0=0∨Sp N M u0 u1 v0 v1 o
theorem bkq {l:List Nat} {k:Nat} (hw:Wds l) (hl:l.length=k+3) (hd0:dg l (k+2)≠0):val l / (pw k*2 ^ Lib.bitLen (dg l (k+2))) < 18446744073709551616:=by
 obtain ⟨b1,b2,b3,b4⟩:=bitLen_spec hd0 (show dg l (k+2) < 18446744073709551616 by have:=ahv hw (k+2); omega)
 rw [Nat.div_lt_iff_lt_mul (Nat.mul_pos (anr k) (Nat.pow_pos (by omega)))]
 have e:lo l (k+3)=val l:=acm (by omega)
 rw [show k+3=k+2+1 from rfl,acw] at e
 have h1:=ano hw (k+2)
 have h2:pw (k+2)*(dg l (k+2)+1)≤pw (k+2)*2 ^ Lib.bitLen (dg l (k+2)):=Nat.mul_le_mul_left _ b3
 have p2:pw (k+2)=18446744073709551616*pw k:=by rw [afC,afC,← Nat.mul_assoc]
 have h3:18446744073709551616*(pw k*2 ^ Lib.bitLen (dg l (k+2)))=pw (k+2)*2 ^ Lib.bitLen (dg l (k+2)):=by rw [p2,Nat.mul_assoc]
 rw [Nat.mul_add,Nat.mul_one] at h2
 omega
theorem bcA (w:World) (o:Obj) (q:Nat) (a b c d e:Value) :
  Below w.heap.size w (((((((w.alloc o).drewN q).setCell ⟨w.heap.size,0,none⟩ a).setCell ⟨w.heap.size,1,none⟩ b).setCell ⟨w.heap.size,2,none⟩ c).setCell ⟨w.heap.size,3,none⟩ d).setCell ⟨w.heap.size,4,none⟩ e) :=
 have hb:=((Below.refl w.heap.size w).alloc (Nat.le_refl _) o).trans (⟨rfl,rfl,rfl,Nat.le_refl _,fun _ _=>rfl⟩:Below w.heap.size (w.alloc o) ((w.alloc o).drewN q))
 ((((hb.setCell (Nat.le_refl _) _).setCell (Nat.le_refl _) _).setCell (Nat.le_refl _) _).setCell (Nat.le_refl _) _).setCell (Nat.le_refl _) _
end Lw
namespace Go.Proofs.YtbihljnjaondcaaGreatDoor
open Go Go.RowKit Lw
set_option maxRecDepth 100000 in
set_option maxHeartbeats 6400000 in
theorem bcC (A A':Option Addr) (N M k m c c' B B':Nat) (w:World) (h:Rd w B A (Uy N)) (h':Rd w B' A' (Uy M)) (hB:B≤w.heap.size) (hB':B'≤w.heap.size) (hn:(Uy N).length=k+3) (hm:(Uy M).length=m) (hl:k≤8388605) (hMN:M≤N) :
  Calls Tryz.prog 231 #[.slice A (k+3:Nat) c,.slice A' m c'] w fun e w' => ∃ (u0 u1 v0 v1:Nat) (o:Bool),e = .returned (.agg #[.int .u64 u0,.int .u64 u1,.int .u64 v0,.int .u64 v1,.bool o])∧Below w.heap.size w w'∧a9l N M u0 u1 v0 v1 o:=by
 have hd0:dg (Uy N) (k+2)≠0:=by
  refine aj7 N _ ?_
  rw [List.getLast?_eq_getElem?,hn,show k+3 - 1=k+2 by omega,a1G (by omega)]
 have hx0:=bkq (acy N) hn hd0
 rw [aar] at hx0
 obtain ⟨K,hK⟩ : ∃ K,K=pw k*2 ^ Lib.bitLen (dg (Uy N) (k+2)):=⟨_,rfl⟩
 have hK0:0 < K:=by rw [hK]; exact Nat.mul_pos (anr k) (Nat.pow_pos (by omega))
 have l1:=fun (W:World) (hW:Rd W B A (Uy N))=>bdF A A N N k (k+3) c c B B W hW hW hn hn (by omega) (Nat.le_refl _)
 have l2:=fun (W:World) (hW:Rd W B A (Uy N)) (hW':Rd W B' A' (Uy M))=>bdF A' A N M k m c' c B' B W hW' hW hn hm (by omega) hMN
 rw [← hK] at l1 l2 hx0
 obtain ⟨x0,hx⟩ : ∃ x,x=N / K:=⟨_,rfl⟩
 obtain ⟨y0,hy⟩ : ∃ y,y=M / K:=⟨_,rfl⟩
 rw [← hx] at l1 hx0
 rw [← hy] at l2
 have hyx:y0≤x0:=by rw [hx,hy]; exact Nat.div_le_div_right hMN
 have H1:=Lib.hid l1
 have H2:=Lib.hid l2
 have HK:=Lib.hid (And.intro hK0 (And.intro hx hy))
 have HL:=Lib.hid (Lm.start hyx)
 have hy0:y0 < 18446744073709551616:=by omega
 clear hd0 hK hK0 l1 l2 hx hy hn hm hMN
 go_enter Tryz.func231,Tryz.ntmps231
 go_wp2_with fail
 refine (H1.out _ (h.alloc hB _)).mono ?_
 rintro e w1 ⟨q1,rfl,rfl⟩
 go_wp2_with fail
 refine (H2.out _ ((h.alloc hB _).drewN q1) ((h'.alloc hB' _).drewN q1)).mono ?_
 rintro e w1 ⟨q2,rfl,rfl⟩
 go_wp2_with fail
 go_loopw [5,6,7,8,9,10,11,12,13] (fun a b c0 c1 c2 d0 d1 d2 e wr => ∃ (X Y U0 U1 U2 V0 V1 V2:Nat) (O:Bool) (q:Nat),X≤18446744073709551615∧a = .int .u64 X∧b = .int .u64 Y∧c0 = .int .u64 U0∧c1 = .int .u64 U1∧c2 = .int .u64 U2∧d0 = .int .u64 V0∧d1 = .int .u64 V1∧d2 = .int .u64 V2∧e = .bool O ∧
   Hid (Lm x0 y0 X Y U1 U2 V1 V2 O)∧Hid (a9l N M U0 U1 V0 V1 O)∧wr=(w.alloc (.cells #[.int .u64 0,.int .u64 0,.int .u64 0,.int .u64 0,.bool false] 170)).drewN q) (fun _ b _ _ _ _ _ _ _ _=>(intOf b).toNat)
 case atStart=>exact ⟨x0,y0,0,1,0,0,0,1,true,q1+q2,by omega,rfl,rfl,rfl,rfl,rfl,rfl,rfl,rfl,rfl,HL,Lib.hid (.inl rfl),rfl⟩
 case round =>
  obtain ⟨X,Y,U0,U1,U2,V0,V1,V2,O,q,hX,rfl,rfl,rfl,rfl,rfl,rfl,rfl,rfl,rfl,hlm,hst,rfl⟩:=hrel
  have hYX:Y≤X:=hlm.out.le
  by_cases g1:V2≤Y
  ·obtain ⟨b1,b2,b3,b4⟩:=hlm.out.small hx0 g1
   obtain ⟨f1,f2⟩:=hlm.out.fits g1
   have hY1:1≤Y:=Nat.le_trans hlm.out.v2p g1
   have hg1:(V2:Int)≤(Y:Int):=by omega
   obtain ⟨Z,hZ⟩ : ∃ Z,Z=X - Y:=⟨_,rfl⟩
   have hZ1:(X:Int) - (Y:Int)=(Z:Int):=by omega
   by_cases g2:V1+V2≤Z
   ·have hg2:(V1:Int)+(V2:Int)≤(Z:Int):=by omega
    have hstep:=Lib.hid (hlm.out.step hx0 g1 (by rw [← hZ]; exact g2) HK.out.1 HK.out.2.1 HK.out.2.2)
    have hnext:=Lib.hid (hlm.out.next g1)
    have hmod:=Lib.hid (Nat.mod_lt X (show 0 < Y by omega))
    obtain ⟨Q,hQ⟩ : ∃ Q,Q=X / Y:=⟨_,rfl⟩
    obtain ⟨R,hR⟩ : ∃ R,R=X % Y:=⟨_,rfl⟩
    have hQl:Q≤18446744073709551615:=by rw [hQ]; exact Nat.le_trans (Nat.div_le_self _ _) hX
    have hq1:IntKind.u64.wrap ((X:Int) / (Y:Int))=(Q:Int):=by
     rw [← Int.natCast_ediv,← hQ]
     exact IntWalk.u64_in _ (by omega)
    have hr1:(X:Int) % (Y:Int)=(R:Int):=by rw [hR]; exact (Int.natCast_emod X Y).symm
    have hr2:(X:Int).tmod (Y:Int)=(R:Int):=by rw [Int.tmod_eq_emod_of_nonneg (by omega)]; exact hr1
    rw [← hQ] at f1 f2 hnext
    rw [← hR] at hnext hmod
    obtain ⟨QU,hQU⟩ : ∃ Z,Z=Q*U2:=⟨_,rfl⟩
    obtain ⟨QV,hQV⟩ : ∃ Z,Z=Q*V2:=⟨_,rfl⟩
    rw [← hQU,← hQV] at f1 hnext
    rw [← hQV] at f2
    have hqu:(Q:Int)*(U2:Int)=(QU:Int):=by rw [hQU]; simp
    have hqv:(Q:Int)*(V2:Int)=(QV:Int):=by rw [hQV]; simp
    have hbq:((Y:Int)==0)=false:=by rw [beq_eq_false_iff_ne]; omega
    have f3:V1+QV≤18446744073709551615:=by omega
    have f4:U1+QU≤18446744073709551615:=by omega
    have hYl:Y≤18446744073709551615:=by omega
    clear hQ hR hQU hQV hZ f1 f2 hx0
    go_wp2_with fail
    go_quiet (fail)
    go_wp2_with fail
    go_roundw
    case rel =>
     exact ⟨Y,R,U1,U2,U1+QU,V1,V2,V1+QV,!O,q+nq,hYl,rfl,rfl,rfl,rfl,by go_num,rfl,rfl,by go_num,rfl,hnext,Lib.hid (.inr hstep.out),rfl⟩
    case measure =>
     have:=hmod.out
     simp [intOf]; omega
   ·have hg2:decide ((V1:Int)+(V2:Int)≤(Z:Int))=false:=decide_eq_false (by omega)
    clear f1 f2 hx0 hZ
    go_wp2_with fail
    refine bodyPost_ret (v := .agg #[.int .u64 U0,.int .u64 U1,.int .u64 V0,.int .u64 V1,.bool O]) (by simp [results,Tryz.results231,go_sem]) rfl ?_
    exact ⟨U0,U1,V0,V1,O,rfl,bcA w _ _ _ _ _ _ _,hst.out⟩
  ·have hg1:decide ((V2:Int)≤(Y:Int))=false:=decide_eq_false (by omega)
   go_wp2_with fail
   refine bodyPost_ret (v := .agg #[.int .u64 U0,.int .u64 U1,.int .u64 V0,.int .u64 V1,.bool O]) (by simp [results,Tryz.results231,go_sem]) rfl ?_
   exact ⟨U0,U1,V0,V1,O,rfl,bcA w _ _ _ _ _ _ _,hst.out⟩
end Go.Proofs.YtbihljnjaondcaaGreatDoor
namespace Go.Proofs.YtbihljnjaondcaaGreatDoor
open Go Go.RowKit Lw
set_option maxRecDepth 100000 in
set_option maxHeartbeats 3200000 in
theorem a7s (A A':Option Addr) (ns ms:List Nat) (n m L c c' B B' x y R:Nat) (w:World) (h:Rd w B A ns) (h':Rd w B' A' ms) (hB:B≤w.heap.size) (hB':B'≤w.heap.size)
  (hn:ns.length=n) (hm:ms.length=m) (hl:n≤16777216) (hl':m≤16777216) (hx:x≤4294967295) (hy:y≤4294967295) (hL:L=max n m) (hR:x*val ns=R+y*val ms) (hRl:R < pw L) :
  Calls Tryz.prog 251 #[.slice A n c,.int .u64 x,.slice A' m c',.int .u64 y] w (as8 w R):=by
 have Hn:=Lib.hid hn
 have Hm:=Lib.hid hm
 have HR:=Lib.hid (And.intro hR hRl)
 have hL1:L≤16777216:=by omega
 have hL2:n≤L:=by omega
 have hL3:m≤L:=by omega
 have hL4:((max n m:Nat):Int)=(L:Int):=by omega
 have hL5:max (n:Int) (m:Int)=(L:Int):=by omega
 clear hn hm hR hRl hL
 go_enter Tryz.func251,Tryz.ntmps251
 go_wp2_with (at_make; refine aAN _ rfl _ _ _ rfl 99 bsw ami _ _ _ _ L rfl rfl (by omega) (by omega) (by omega) ?_; intro w1 hblk hbel hsz)
 go_loopw [10,11,12,23] (fun a b e i wr => ∃ (k cA cB bo:Nat) (cs:List Nat),k≤L∧cA≤4294967295∧cB≤4294967295∧bo≤1∧i = .int .i64 k∧a = .int .u64 cA∧b = .int .u64 cB∧e = .int .u64 bo∧Blk wr w.heap.size 99 cs∧Hid (cs.length=L)∧Wds cs ∧
   Hid (lo cs k+y*lo ms k+pw k*cA=x*lo ns k+pw k*(cB+bo))∧Below w.heap.size w wr) (fun _ _ _ i _=>L - (intOf i).toNat)
 case atStart=>exact ⟨0,0,0,0,_,Nat.zero_le _,by omega,by omega,by omega,rfl,rfl,rfl,rfl,hblk,Lib.hid (by simp),az8 _,Lib.hid (by simp [akf]),hbel⟩
 case round =>
  obtain ⟨k,cA,cB,bo,cs,hk,hcA,hcB,hbo,rfl,rfl,rfl,rfl,hb1,hcl,hcw,hv,hbw⟩:=hrel
  clear hblk hbel hsz
  have hr:=h.below (hbw.mono hB)
  have hr':=h'.below (hbw.mono hB')
  by_cases hkn:k < L
  ·have hwa:=a0t hr.wds (k:Int)
   have hwb:=a0t hr'.wds (k:Int)
   have hcc:=hb1.cell (i:=k) (by rw [hcl.out]; omega)
   have hfr:=hb1.frozen k
   obtain ⟨a,ha⟩ : ∃ a,a=wd ns (k:Int):=⟨_,rfl⟩
   obtain ⟨b,hb⟩ : ∃ b,b=wd ms (k:Int):=⟨_,rfl⟩
   rw [← ha] at hwa
   rw [← hb] at hwb
   obtain ⟨bp3,bp4⟩:=a6E (x:=x) (by omega) hwa
   obtain ⟨bp5,bp6⟩:=a6E (x:=y) (by omega) hwb
   have hxN:=Int.natCast_mul x a
   have hyN:=Int.natCast_mul y b
   obtain ⟨S,hS⟩ : ∃ S,S=cA+x*a:=⟨_,rfl⟩
   obtain ⟨T,hT⟩ : ∃ T,T=cB+y*b:=⟨_,rfl⟩
   have hSl:S≤18446744073709551615:=by omega
   have hTl:T≤18446744073709551615:=by omega
   have hsum:(cA:Int)+(x:Int)*(a:Int)=(S:Int):=by rw [hS,Int.natCast_add,Int.natCast_mul]
   have bpW:(cB:Int)+(y:Int)*(b:Int)=(T:Int):=by rw [hT,Int.natCast_add,Int.natCast_mul]
   have bjF:bits .and .u64 (S:Int) 4294967295=((S % 4294967296:Nat):Int):=a9m (by omega)
   have bjG:bits .and .u64 (T:Int) 4294967295=((T % 4294967296:Nat):Int):=a9m (by omega)
   obtain ⟨D,hD,hDl,hDv⟩:=a2F (S % 4294967296) (T % 4294967296)
   obtain ⟨F,hF,hFl,hFv⟩:=a2F D bo
   have hdw:=Lib.hid (bh3 (S:=S) (T:=T) hbo hDv hFv hDl)
   have hF2:F / 9223372036854775808≤1:=hdw.out.2
   have HS:=Lib.hid (And.intro hS hT)
   obtain ⟨SM,hSM⟩ : ∃ M,M=S % 4294967296:=⟨_,rfl⟩
   obtain ⟨TM,hTM⟩ : ∃ M,M=T % 4294967296:=⟨_,rfl⟩
   rw [← hSM] at bjF hD
   rw [← hTM] at bjG hD
   have Ha:=Lib.hid (And.intro ha hb)
   clear hDv hFv hS hT hSM hTM hxN hyN
   have hwA : ∀ W,Below w.heap.size w W→Calls Tryz.prog 204 #[.slice A n c,.int .i64 k] W fun e w'=>e = .returned (.int .u64 (a:Int))∧W=w':=fun W hW=>by rw [ha]; exact a0u _ ns _ _ _ _ _ (h.below (hW.mono hB)) Hn.out (by omega)
   have hwB : ∀ W,Below w.heap.size w W→Calls Tryz.prog 204 #[.slice A' m c',.int .i64 k] W fun e w'=>e = .returned (.int .u64 (b:Int))∧W=w':=fun W hW=>by rw [hb]; exact a0u _ ms _ _ _ _ _ (h'.below (hW.mono hB')) Hm.out (by omega)
   have HWA:=Lib.hid hwA
   have HWB:=Lib.hid hwB
   clear hwA hwB ha hb
   go_wp2_with fail
   refine (HWA.out _ hbw).mono ?_
   rintro e w2 ⟨rfl,rfl⟩
   go_wp2_with fail
   refine (HWB.out _ hbw).mono ?_
   rintro e w2 ⟨rfl,rfl⟩
   go_wp2_with fail
   go_roundw
   case rel =>
    refine ⟨k+1,S / 4294967296,T / 4294967296,F / 9223372036854775808,cs.set k (F % 4294967296),by omega,by omega,by omega,hF2,by go_num,by go_num,by go_num,by go_num,hb1.awX (by rw [hcl.out]; omega) (by omega),Lib.hid (by rw [List.length_set]; exact hcl.out),alc hcw _ (Nat.mod_lt _ (by omega)),Lib.hid ?_,hbw.setCell (Nat.le_refl _) _⟩
    refine bh2 (by rw [hcl.out]; omega) hv.out ?_ ?_ hdw.out.1
    ·rw [HS.out.1,Ha.out.1,as7]
    ·rw [HS.out.2,Ha.out.2,as7]
   case measure=>simp [intOf]; omega
  ·obtain rfl:k=L:=by omega
   have HV:Hid (val cs=R):=Lib.hid (bh0 hcw hcl.out (by rw [Hn.out]; omega) (by rw [Hm.out]; omega) hv.out HR.out.1 HR.out.2)
   go_wp2_with fail
   refine (aOs _ cs _ _ _ _ (hb1.rd hcw) hcl.out (Nat.le_refl _) (by omega)).mono ?_
   rintro e w' ⟨rfl,rfl⟩
   go_wp2_with fail
   go_ret
   refine ⟨_,_,aor (by rw [HV.out]),?_,?_,hbw⟩
   ·have:=aon hcw
    rw [HV.out,hcl.out] at this; exact this
   ·have:=(hb1.rd hcw).Uy
    rw [HV.out] at this; exact this
end Go.Proofs.YtbihljnjaondcaaGreatDoor
namespace Lw
open Go Go.RowKit
theorem aty {a b:Nat} (h:a≤b):(Uy a).length≤(Uy b).length:=by
 rcases Nat.lt_or_ge (Uy b).length (Uy a).length with h1 | h1
 ·have:=a6D (acy b) (aj7 a) h1
  rw [aar,aar] at this
  omega
 ·exact h1
def a7l (w:World) (N:Nat) (e:Ending) (w':World):Prop :=
 ∃ u,e = .returned u∧Hid (∃ A c,u = .slice A (Uy N).length c∧(Uy N).length≤c∧Rd w' w'.heap.size A (Uy N))∧Below w.heap.size w w'
structure a1n (w:World) (g:Nat) (a b c d e:Value):Prop where
 lt:g < w.heap.size
 cells:w.cell? ⟨g,0,none⟩=some a∧w.cell? ⟨g,1,none⟩=some b∧w.cell? ⟨g,2,none⟩=some c∧w.cell? ⟨g,3,none⟩=some d∧w.cell? ⟨g,4,none⟩=some e
theorem a1n.new (w:World) (t:TypeId) (a b c d:Nat) (e:Bool):a1n (w.alloc (.cells #[.int .u64 a,.int .u64 b,.int .u64 c,.int .u64 d,.bool e] t)) w.heap.size (.int .u64 a) (.int .u64 b) (.int .u64 c) (.int .u64 d) (.bool e) :=
 ⟨by simp,by simp [go_sem],by simp [go_sem],by simp [go_sem],by simp [go_sem],by simp [go_sem]⟩
theorem a1n.drew {w:World} {g:Nat} {a b c d e:Value} (h:a1n w g a b c d e):a1n w.drew g a b c d e:=⟨h.lt,h.cells⟩
theorem a1n.next {w w':World} {g B:Nat} {a b c d e:Value} (h:a1n w g a b c d e) (hb:Below B w w') (hB:B=w.heap.size):a1n w' g a b c d e:=by
 subst hB
 exact ⟨Nat.lt_of_lt_of_le h.lt hb.size,(hb.cell h.lt).trans h.cells.1,(hb.cell h.lt).trans h.cells.2.1,(hb.cell h.lt).trans h.cells.2.2.1,(hb.cell h.lt).trans h.cells.2.2.2.1,(hb.cell h.lt).trans h.cells.2.2.2.2⟩
end Lw
namespace Go.Proofs.YtbihljnjaondcaaGreatDoor
open Go Go.RowKit Lw
set_option maxRecDepth 100000 in
set_option maxHeartbeats 6400000 in
theorem bbL (A A':Option Addr) (N M n m c c' B B' u0 u1 v0 v1:Nat) (o:Bool) (w:World) (h:Rd w B A (Uy N)) (h':Rd w B' A' (Uy M)) (hB:B≤w.heap.size) (hB':B'≤w.heap.size)
  (hn:(Uy N).length=n) (hm:(Uy M).length=m) (hl:n≤8388608) (hl':m≤n) (hv:v0≠0) (hs:a9l N M u0 u1 v0 v1 o) :
  Calls Tryz.prog 232 #[.agg #[.int .u64 u0,.int .u64 u1,.int .u64 v0,.int .u64 v1,.bool o],.slice A n c,.slice A' m c'] w fun e w' =>
   ∃ r1 r2,a4h w r1 r2 e w'∧r2≤r1∧Nat.gcd r1 r2=Nat.gcd N M∧r1≤N∧r1+r2≤N:=by
 obtain ⟨b1,b2,b3,b4,r1,r2,heq,hle,hg,hrN,hsum⟩:=hs.resolve_left hv
 have bdn:=hsum (Nat.pos_of_ne_zero hv)
 have hr1:r1 < pw n:=Nat.lt_of_le_of_lt hrN (awx (by omega))
 have hr2:r2 < pw n:=Nat.lt_of_le_of_lt hle hr1
 have hmax:n=max n m:=by omega
 have bdf:n=max m n:=by omega
 have HG:=Lib.hid (And.intro hle (And.intro hg (And.intro hrN bdn)))
 have HN:=Lib.hid (And.intro hn hm)
 have HR:=Lib.hid (And.intro hr1 hr2)
 have HM:=Lib.hid (And.intro hmax bdf)
 clear hle hg hrN hsum bdn hn hm hr1 hr2 hmax bdf hs
 cases o
 ·simp only [Bool.false_eq_true,if_false] at heq
  have HE:=Lib.hid heq
  clear heq
  go_enter Tryz.func232,Tryz.ntmps232
  go_wp2_with fail
  have H1 : ∀ W,Below w.heap.size w W→Calls Tryz.prog 251 #[.slice A n c,.int .u64 u0,.slice A' m c',.int .u64 v0] W (a7l W r1):=fun W hW =>
   (a7s _ _ (Uy N) (Uy M) _ _ n _ _ _ _ u0 v0 r1 W (h.below (hW.mono hB)) (h'.below (hW.mono hB')) (Nat.le_trans hB hW.size) (Nat.le_trans hB' hW.size) HN.out.1 HN.out.2 (by omega) (by omega) (by omega) (by omega) HM.out.1 (by rw [aar,aar]; exact HE.out.1) HR.out.1).mono fun e w' ⟨A,c,he,hc,hr,hb⟩=>⟨_,he,Lib.hid ⟨A,c,rfl,hc,hr⟩,hb⟩
  have H2 : ∀ W,Below w.heap.size w W→Calls Tryz.prog 251 #[.slice A' m c',.int .u64 v1,.slice A n c,.int .u64 u1] W (a7l W r2):=fun W hW =>
   (a7s _ _ (Uy M) (Uy N) _ _ n _ _ _ _ v1 u1 r2 W (h'.below (hW.mono hB')) (h.below (hW.mono hB)) (Nat.le_trans hB' hW.size) (Nat.le_trans hB hW.size) HN.out.2 HN.out.1 (by omega) (by omega) (by omega) (by omega) HM.out.2 (by rw [aar,aar]; exact HE.out.2) HR.out.2).mono fun e w' ⟨A,c,he,hc,hr,hb⟩=>⟨_,he,Lib.hid ⟨A,c,rfl,hc,hr⟩,hb⟩
  have HD1:=Lib.hid H1
  have HD2:=Lib.hid H2
  clear H1 H2
  have hF:=a1n.new w 170 u0 u1 v0 v1 false
  have hW:=(Below.refl w.heap.size w).alloc (Nat.le_refl _) (.cells #[.int .u64 (u0:Int),.int .u64 (u1:Int),.int .u64 (v0:Int),.int .u64 (v1:Int),.bool false] 170)
  generalize w.alloc (.cells #[.int .u64 (u0:Int),.int .u64 (u1:Int),.int .u64 (v0:Int),.int .u64 (v1:Int),.bool false] 170)=W0 at hF hW ⊢
  go_region_held3 (fun w'=>w'.cell? ⟨w.heap.size,0,none⟩=some (.int .u64 u0)∧w'.cell? ⟨w.heap.size,1,none⟩=some (.int .u64 u1)∧w'.cell? ⟨w.heap.size,2,none⟩=some (.int .u64 v0)∧w'.cell? ⟨w.heap.size,3,none⟩=some (.int .u64 v1)∧w'.cell? ⟨w.heap.size,4,none⟩=some (.bool false)) (first | exact hF.cells | exact hF.drew.cells)
   (first
    | (go_at_call_of 251 (Value.slice A' m c'); refine (HD2.out _ hW2).mono ?_; rintro e w3 ⟨x2,rfl,hr2,hb2⟩; have hF:=hF.next hb2 rfl; have hW3:=aaR hW2 hb2 (Nat.le_refl _))
    | (go_at_call_of 251 (Value.slice A n c); refine (HD1.out _ hW.drew).mono ?_; rintro e w2 ⟨x1,rfl,hr1,hb1⟩; have hF:=hF.drew.next hb1 rfl; have hW2:=aaR hW.drew hb1 (Nat.le_refl _)))
  all_goals
   go_wp2_with fail
   go_ret2
   obtain ⟨A1,c1,rfl,hc1,hr1⟩:=hr1.out
   obtain ⟨A2,c2,rfl,hc2,hr2⟩:=hr2.out
   exact ⟨r1,r2,⟨A1,c1,A2,c2,rfl,hc1,hc2,(hr1.next hb2 (Nat.le_refl _)).more hb2.size,hr2,hW3⟩,HG.out.1,HG.out.2.1,HG.out.2.2.1,HG.out.2.2.2⟩
 ·simp only [if_true] at heq
  have HE:=Lib.hid heq
  clear heq
  go_enter Tryz.func232,Tryz.ntmps232
  go_wp2_with fail
  have H1 : ∀ W,Below w.heap.size w W→Calls Tryz.prog 251 #[.slice A' m c',.int .u64 v0,.slice A n c,.int .u64 u0] W (a7l W r1):=fun W hW =>
   (a7s _ _ (Uy M) (Uy N) _ _ n _ _ _ _ v0 u0 r1 W (h'.below (hW.mono hB')) (h.below (hW.mono hB)) (Nat.le_trans hB' hW.size) (Nat.le_trans hB hW.size) HN.out.2 HN.out.1 (by omega) (by omega) (by omega) (by omega) HM.out.2 (by rw [aar,aar]; exact HE.out.1) HR.out.1).mono fun e w' ⟨A,c,he,hc,hr,hb⟩=>⟨_,he,Lib.hid ⟨A,c,rfl,hc,hr⟩,hb⟩
  have H2 : ∀ W,Below w.heap.size w W→Calls Tryz.prog 251 #[.slice A n c,.int .u64 u1,.slice A' m c',.int .u64 v1] W (a7l W r2):=fun W hW =>
   (a7s _ _ (Uy N) (Uy M) _ _ n _ _ _ _ u1 v1 r2 W (h.below (hW.mono hB)) (h'.below (hW.mono hB')) (Nat.le_trans hB hW.size) (Nat.le_trans hB' hW.size) HN.out.1 HN.out.2 (by omega) (by omega) (by omega) (by omega) HM.out.1 (by rw [aar,aar]; exact HE.out.2) HR.out.2).mono fun e w' ⟨A,c,he,hc,hr,hb⟩=>⟨_,he,Lib.hid ⟨A,c,rfl,hc,hr⟩,hb⟩
  have HD1:=Lib.hid H1
  have HD2:=Lib.hid H2
  clear H1 H2
  have hF:=a1n.new w 170 u0 u1 v0 v1 true
  have hW:=(Below.refl w.heap.size w).alloc (Nat.le_refl _) (.cells #[.int .u64 (u0:Int),.int .u64 (u1:Int),.int .u64 (v0:Int),.int .u64 (v1:Int),.bool true] 170)
  generalize w.alloc (.cells #[.int .u64 (u0:Int),.int .u64 (u1:Int),.int .u64 (v0:Int),.int .u64 (v1:Int),.bool true] 170)=W0 at hF hW ⊢
  go_region_held3 (fun w'=>w'.cell? ⟨w.heap.size,0,none⟩=some (.int .u64 u0)∧w'.cell? ⟨w.heap.size,1,none⟩=some (.int .u64 u1)∧w'.cell? ⟨w.heap.size,2,none⟩=some (.int .u64 v0)∧w'.cell? ⟨w.heap.size,3,none⟩=some (.int .u64 v1)∧w'.cell? ⟨w.heap.size,4,none⟩=some (.bool true)) (first | exact hF.cells | exact hF.drew.cells)
   (first
    | (go_at_call_of 251 (Value.slice A n c); refine (HD2.out _ hW2).mono ?_; rintro e w3 ⟨x2,rfl,hr2,hb2⟩; have hF:=hF.next hb2 rfl; have hW3:=aaR hW2 hb2 (Nat.le_refl _))
    | (go_at_call_of 251 (Value.slice A' m c'); refine (HD1.out _ hW.drew).mono ?_; rintro e w2 ⟨x1,rfl,hr1,hb1⟩; have hF:=hF.drew.next hb1 rfl; have hW2:=aaR hW.drew hb1 (Nat.le_refl _)))
  all_goals
   go_wp2_with fail
   go_ret2
   obtain ⟨A1,c1,rfl,hc1,hr1⟩:=hr1.out
   obtain ⟨A2,c2,rfl,hc2,hr2⟩:=hr2.out
   exact ⟨r1,r2,⟨A1,c1,A2,c2,rfl,hc1,hc2,(hr1.next hb2 (Nat.le_refl _)).more hb2.size,hr2,hW3⟩,HG.out.1,HG.out.2.1,HG.out.2.2.1,HG.out.2.2.2⟩
end Go.Proofs.YtbihljnjaondcaaGreatDoor
namespace Lw
open Go Go.RowKit
def wordAt (w:World) (b k:Nat):Nat:=match w.cell? ⟨b,k,none⟩ with | some (.int _ z)=>z.toNat | _=>0
def rdv (w:World):Value→Nat
 | .slice (some a) n _=>val ((List.range n).map fun j=>wordAt w a.block (a.off+j))
 | _=>0
theorem awW {w:World} {B:Nat} {A:Option Addr} {ns:List Nat} {n c:Nat} (h:Rd w B A ns) (hn:ns.length=n):rdv w (.slice A n c)=val ns:=by
 rcases Nat.eq_zero_or_pos n with h0 | h0
 ·subst h0
  obtain rfl:ns=[]:=List.eq_nil_of_length_eq_zero hn
  cases A <;> rfl
 ·obtain ⟨b,off,rfl,hb,hc⟩:=h.2 (by omega)
  show val ((List.range n).map fun j=>wordAt w b (off+j))=val ns
  congr 1
  apply List.ext_getElem
  ·simp [hn]
  ·intro j h1 h2
   rw [List.getElem_map,List.getElem_range]
   unfold wordAt
   rw [hc j h2]
   show (dg ns j:Int).toNat=ns[j]
   rw [Int.toNat_natCast,a1p h2]
theorem blc {N s:Nat} : rt N < (rt (N / 2 ^ (2*s))+1)*2 ^ s:=by
 apply beV
 have h1:=a8l (N / 2 ^ (2*s))
 have hp:0 < 2 ^ (2*s):=Nat.pow_pos (by omega)
 have h2:N < (N / 2 ^ (2*s)+1)*2 ^ (2*s):=by
  have:=Nat.div_add_mod N (2 ^ (2*s))
  have:=Nat.mod_lt N hp
  rw [Nat.add_mul,Nat.one_mul,Nat.mul_comm]
  omega
 have h3:(N / 2 ^ (2*s)+1)*2 ^ (2*s)≤(rt (N / 2 ^ (2*s))+1)*(rt (N / 2 ^ (2*s))+1)*2 ^ (2*s):=Nat.mul_le_mul_right _ h1
 have h4:(rt (N / 2 ^ (2*s))+1)*2 ^ s*((rt (N / 2 ^ (2*s))+1)*2 ^ s)=(rt (N / 2 ^ (2*s))+1)*(rt (N / 2 ^ (2*s))+1)*2 ^ (2*s):=by
  rw [show 2 ^ (2*s)=2 ^ s*2 ^ s by rw [← Nat.pow_add]; congr 1; omega]
  ac_rfl
 rw [h4]; omega
end Lw
