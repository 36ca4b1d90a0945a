/- Part of a proof, said shortly. -/
import Derived.Deep.RegionWith
import Derived.Deep.RegionHeld3
import Derived.Deep.DeepCutAuto
import Derived.Test.YtmmgoghiiionfaaGreatDoorAlz
import Derived.Test.YtmmgoghiiionfaaGreatDoorC5
import Derived.Test.YtmmgoghiiionfaaGreatDoorC4
import Derived.Test.YtmmgoghiiionfaaGreatDoorC1
import Derived.Test.YtmmgoghiiionfaaGreatDoorC2
import Derived.Test.YtmmgoghiiionfaaGreatDoorC3
set_option linter.unusedVariables false
set_option linter.unusedSimpArgs false
namespace Lw
open Go Go.RowKit
theorem Sl{d:Nat}(h0:d≠0)(h:d<4294967296):1<=Lib.bitLen d/\Lib.bitLen d<=32/\2147483648<=d*2^(32-Lib.bitLen d)/\d*2^(32-Lib.bitLen d)<4294967296:=by
 obtain ⟨h1,h2,h3,_⟩:=bitLen_spec h0 (show d<18446744073709551616 from af);have h4:Lib.bitLen d<=32:=Lib.bitLen_le d 32 af (by simpa using h);have e1:2^(Lib.bitLen d-1)*2^(32-Lib.bitLen d)=2147483648:=by rw [<- ahV,show Lib.bitLen d-1+(32-Lib.bitLen d)=31 by omega]
 have e2:2^Lib.bitLen d*2^(32-Lib.bitLen d)=4294967296:=by rw [<- ahV,show Lib.bitLen d+(32-Lib.bitLen d)=32 by omega]
 have hp:0<2^(32-Lib.bitLen d):=by grind
 have m1:=ahp (2^(32-Lib.bitLen d)) h2;have m2:=Nat.mul_lt_mul_of_pos_right h3 hp;omega
theorem adw{l:List Nat}{k P:Nat}(hw:bF l)(hl:l.length=k+2)(h1:2147483648<=dg l (k+1)*P)(h2:dg l (k+1)*P<4294967296)(hP:0<P)(YB:dg l (k+1)*P+P<=4294967296) :
  (bg (val l*P)).length=k+2/\2147483648<=dg (bg (val l*P)) (k+1):=by
 have e:lo l (k+2)=val l:=di af;rw [show k+2=k+1+1 from rfl,bV] at e;have h3:=iE hw (k+1);have e2:val l*P=lo l (k+1)*P+pw (k+1)*(dg l (k+1)*P):=by rw [<- e,ahw,ahA]
 have h4:lo l (k+1)*P+P<=pw (k+1)*P:=by
  have:=ahp P h3
  rwa [ahP] at this
 have h5:pw (k+1)*(dg l (k+1)*P)+pw (k+1)*P<=pw (k+2):=by
  rw [<- ahn,dS (k+1),ahu 4294967296];exact ahz _ YB
 have h6:pw (k+1)*2147483648<=pw (k+1)*(dg l (k+1)*P):=ahz _ h1;have hlt:val l*P<pw (k+2):=af;have hpp:=iV (k+1);have hle:=gQ hlt
 have hlen:(bg (val l*P)).length=k+2:=by
  rcases ahs (bg (val l*P)).length (k+2) with h7 | h7
  ·have:=mG (n:=val l*P) (k:=k+1) af
   omega
  ·omega
 refine ⟨hlen,?_⟩;have e3:lo (bg (val l*P)) (k+2)=val l*P:=by rw [di af,bG]
 rw [show k+2=k+1+1 from rfl,bV] at e3;have h8:=iE (dD (val l*P)) (k+1);refine Nat.le_of_not_lt fun h9 => ?_;have:=ahz (pw (k+1)) (show dg (bg (val l*P)) (k+1)+1<=2147483648 from af);rw [ahn,ahJ] at this;omega
theorem SE{d P:Nat}(h1:d*P<4294967296)(h2 : ∃ k,k*P=4294967296):d*P+P<=4294967296:=by
 obtain ⟨k,hk⟩:=h2;rw [<- hk] at h1 ⊢;have h3:d<k:=Nat.lt_of_mul_lt_mul_right h1;have:=ahp P h3;grind
theorem Z5{N M n k P:Nat}(hn:(bg N).length=n)(hm:(bg M).length=k+2)(hnm:k+2<=n)(hP:0<P):N*P<M*P*pw (n-(k+2)+1):=by
 have h1:N<pw n:=mG af;have h2:=xP (fB M) (by intro e;rw [e] at hm;simp at hm);rw [bG,hm] at h2;have h3:pw n=pw (k+2-1)*pw (n-(k+2)+1):=by rw [<- pU];congr 1;omega
 have h4:pw (k+2-1)*pw (n-(k+2)+1)<=M*pw (n-(k+2)+1):=ahp _ h2;have h5:N<M*pw (n-(k+2)+1):=af;have h6:=Nat.mul_lt_mul_of_pos_right h5 hP;grind
theorem adx{r P:Nat}(hP:0<P):r*P/P=r:=Nat.mul_div_cancel r hP
end Lw
namespace Go.Proofs.AZQ
open Go Go.RowKit Lw
set_option maxRecDepth 100000 in
set_option maxHeartbeats 3200000 in
theorem Z4(A A':Option Addr)(N M n k c c' B B':Nat)(w:World)(h:Rd w B A (bg N))(h':Rd w B' A' (bg M))(hB:B<=w.heap.size)(hB':B'<=w.heap.size)(hn:(bg N).length=n)(hm:(bg M).length=k+2)(hl:n<=8388608)(hnm:k+2<=n) :
  Calls Tryz.prog 269 #[.slice A n c,.slice A' (k+2:Nat) c'] w (sQ w (N/M) (N%M)):=by
 obtain ⟨b,off,rfl,hb,hcell,hlt⟩:=h'.at_ (k:=k+1) (by rw [hm];omega)
 have hd0:dg (bg M) (k+1)≠0:=by
  refine fB M _ ?_;rw [aiJ,hm,show k+2-1=k+1 from af,qP af]
 obtain ⟨t1,t2,t3,t4⟩:=Sl hd0 hlt;obtain ⟨d,hd⟩ : ∃ d,d=dg (bg M) (k+1):=⟨_,rfl⟩;rw [<- hd] at hcell hlt hd0 t1 t2 t3 t4;have hk:=fun W=>(Tryz.bits_LeadingZeros32 (d:Int) W af af);obtain ⟨s,hs⟩ : ∃ s,s=32-Lib.bitLen d:=⟨_,rfl⟩;rw [<- hs] at t3 t4;have Oq:s<=31:=af;have hk2 : ∀ W,Calls Tryz.prog 276 #[.int .u32 (d:Int)] W fun e w'=>e = .returned (aj s)/\W=w':=fun W=>(hk W).mono fun e w' h=>⟨by rw [h.1,aie,hs];congr 2;omega,h.2.symm⟩;have Hk:=Lib.hid hk2;have hP0:0<2^s:=ahM af;have htop:=adw (dD M) hm (by rw [<- hd];exact t3) (by rw [<- hd];exact t4) hP0 (by rw [<- hd];exact SE t4 ⟨2^(32-s),rG af⟩);rw [bG] at htop;have hst:=Z5 hn hm hnm hP0;obtain ⟨P,hP⟩ : ∃ P,P=2^s:=⟨_,rfl⟩;rw [<- hP] at hP0 htop hst;have hs1:0=s/32:=af;have hs2:s=s%32:=af;have fH:=Lib.hid (And.intro hs1 (And.intro hs2 hP));have HN:=Lib.hid hn;have HM:=Lib.hid hm;have HT:=Lib.hid htop;have HS:=Lib.hid hst;have HP:=Lib.hid hP0;obtain ⟨j,hj⟩ : ∃ j,n=k+2+j:=⟨n-(k+2),af⟩;subst hj;clear hk hk2 hs t1 t2 t3 t4 hd hn hm htop hst hP0 hd0 hs1 hs2 hP
 go_enter Tryz.func269,Tryz.ntmps269
 go_wp2_with fail
 refine (Hk.out _).mono ?_;rintro e w1 ⟨rfl,rfl⟩
 go_wp2_with fail
 refine (Sj A (bg N) (k+2+j) c B s 0 s P (2^(32-s)) _ h hB HN.out af af fH.out.1 fH.out.2.1 fH.out.2.2 rfl).mono ?_;rintro e w2 ⟨us,rfl,hu1,ku,Zu,huv,hub⟩;rw [bG,lG,ah1] at huv;have OL:=hu1.lt;have Kv:=Lib.hid ku;have UX:=Lib.hid huv;clear ku huv
 go_wp2_with fail
 refine (Sj (some ⟨b,off,none⟩) (bg M) (k+2) c' B' s 0 s P (2^(32-s)) _ (h'.below (hub.mono hB')) (ahk hB' hub.size) HM.out af af fH.out.1 fH.out.2.1 fH.out.2.2 rfl).mono ?_;rintro e w3 ⟨vs,rfl,hv1,hvl,hvw,hvv,hvb⟩;rw [bG,lG,ah1] at hvv;have Zv:=hv1.lt;have UZ:=Lib.hid hvl;have U4:=Lib.hid hvv;clear hvl hvv
 go_wp2_with fail
 refine (rX _ vs _ _ _ _ (hv1.rd hvw) UZ.out af af).mono ?_;rintro e w4 ⟨rfl,rfl⟩;have zY:=(hv1.rd hvw).bg;rw [U4.out] at zY ⊢;rw [HT.out.1];obtain ⟨V,hV⟩ : ∃ V,V=M*P:=⟨_,rfl⟩;rw [<- hV] at zY;have HV:=Lib.hid hV;have OO:=hub.trans (hvb.mono hub.size);have hu2:=hu1.below hvb OL;clear hV hub hvb hu1 hv1;have hj1:IntKind.i64.wrap ((k:Int)+2+(j:Int)+1-((k:Int)+2))=((j+1:Nat):Int):=by rw [IntWalk.i64_in _ af];omega
 have hj2:(k:Int)+2+(j:Int)+1-((k:Int)+2)=((j+1:Nat):Int):=af
 go_wp2_with (at_make;refine qE _ rfl _ _ _ rfl 82 agv jI _ _ _ _ (j+1) rfl rfl af af af ?_;intro w4 hq1 zX Zi)
 have OM:=hu2.below zX (ahr OL (ahN (ahr Zv (ahj _)))|> fun h=>af);have hv4:=zY.below zX;have hb4:=OO.trans (zX.mono af);have Uz:=Lib.hid (show Ks (N*P) V (k+2) us (List.replicate (j+1) 0) (j+1) from Ks.start UX.out (by rw [Kv.out];omega) (by rw [HV.out];have:=HS.out;rwa [show k+2+j-(k+2)+1=j+1 by omega] at this));clear hu2 zY OO zX Zi;generalize w3.heap.size=gq at *;generalize w2.heap.size=gv at *
 go_loopw [9] (fun i wr => ∃ (i':Int) (xs qs:List Nat),-1<=i'/\i'<=j/\i = .int .i64 i'/\bD wr w.heap.size 82 xs/\Hid (xs.length=k+2+j+1)/\bF xs/\bD wr gq 82 qs/\Hid (qs.length=j+1)/\bF qs /\
   Rd wr gq (some ⟨gv,0,none⟩) (bg V)/\Hid (Ks (N*P) V (k+2) xs qs (i'+1).toNat)/\Below w.heap.size w wr) (fun i _=>(intOf i+1).toNat)
 case atStart=>exact ⟨j,us,_,af,af,rfl,OM,Lib.hid (by rw [Kv.out]),Zu,hq1,Lib.hid (by simp),qB _,hv4,Uz,hb4⟩
 case round =>
  obtain ⟨i',xs,qs,hi,hij,rfl,hx1,hxl,hxw,hqq,gB,nZ,hv5,hks,hbw⟩:=hrel;clear OM hq1 hv4 hb4
  by_cases h0:i'<0
  ·have Y8:Hid (Ks (N*P) V (k+2) xs qs 0):=Lib.hid (by have:=hks.out;rwa [show (i'+1).toNat=0 by omega] at this)
   have hko:=Y8.out.out
   have HR:Hid (val xs/2^s=N%M/\val qs=N/M):=Lib.hid (by
    rw [HV.out,Nat.mul_mod_mul_right,Nat.mul_div_mul_right _ _ HP.out] at hko;rw [hko.1,<- fH.out.2.2];exact ⟨adx HP.out,hko.2⟩)
   clear hko
   go_wp2_with fail
   refine (rX _ qs _ _ _ _ (hqq.rd nZ) gB.out (ahj _) af).mono ?_;rintro e w7 ⟨rfl,rfl⟩;rw [HR.out.2];have Oi:=(hqq.rd nZ).bg;have pF:=kU nZ;rw [HR.out.2] at Oi pF;rw [gB.out] at pF;have UI:=Lib.hid pF;clear pF
   go_wp2_with fail
   refine (adv _ xs (k+2+j+1) _ _ s 0 s P (2^(32-s)) _ (hx1.rd hxw) (ahj _) hxl.out af af fH.out.1 fH.out.2.1 fH.out.2.2 rfl).mono ?_;rintro e w8 ⟨A8,c8,rfl,hc8,mD,hb8⟩;rw [HR.out.1] at mD hc8 ⊢
   go_wp2_with fail
   go_ret2
   exact ⟨_,_,A8,c8,rfl,UI.out,hc8,(Oi.below hb8).more hb8.size,mD,bQ hbw hb8 (ahj _)⟩
  ·obtain ⟨i,rfl⟩:=aif (show 0<=i' from af)
   have NZ:Hid (Ks (N*P) V (k+2) xs qs (i+1)):=Lib.hid (by have:=hks.out;rwa [show ((i:Int)+1).toNat=i+1 by omega] at this);clear hks
   go_wp2_with fail
   rw [show i+(k+2)+1-i=k+3 by omega]
   go_wp2_with fail
   have yL:Hid ((bg V).length=k+2/\2147483648<=dg (bg V) (k+1)):=Lib.hid (by rw [HV.out];exact HT.out);have hxi:i<xs.length:=by rw [hxl.out];omega
   obtain ⟨U,FO,NG,FP,NH,NI⟩:=NZ.out.part hxw hxi (mG (by rw [yL.out.1];exact ahj _))
   have NJ:0<V:=by
    rcases ahE V with e | e
    ·rw [e] at FP;omega
    ·exact e
   have HU:=Lib.hid (And.intro NG (And.intro NH NI));have Zh:=hqq.lt;refine (Yi _ _ ((xs.drop i).take (k+2+1)) (bg V) k _ _ _ gq _ (hx1.abG hxw i (k+2+1) (by rw [hxl.out];omega)) hv5 (by rw [aic,ahI,hxl.out];omega) yL.out.1 af yL.out.2 (by rw [FO,bG];exact FP)).mono ?_;rintro e w5 ⟨x,q,rfl,rfl,hx,hxa,hxb⟩;rw [FO,bG] at hxa hxb;have HX:=Lib.hid (And.intro hxa hxb);clear FO NG FP NH NI hxa hxb
   go_wp2_with fail
   refine (adQ w.heap.size i x (k+2) U (some ⟨gv,0,none⟩) xs (bg V) _ _ gq _ (hx1.drewN q) hxw (hv5.drewN q) (by simp;omega) (fun _ a ha=>by injection ha with e;subst e;simp;omega) yL.out.1 af (by rw [hxl.out];omega) (by rw [hxl.out];omega) af hx HU.out.2.1 (by rw [bG];exact NJ) (by rw [bG];exact HX.out.1) (by rw [bG];exact HX.out.2)).mono ?_;rintro e w6 ⟨ds,rfl,hb6,hdl,hdw,hsame,hval,gy,OG⟩;rw [bG] at hval ⊢;obtain ⟨Q,hQ⟩ : ∃ Q,Q=U/V:=⟨_,rfl⟩;have YD:Q<=4294967295:=by rw [hQ];exact ahk HX.out.1 hx
   rw [<- hQ] at hval ⊢;have hq6:=hqq.of_same (gy.block gq Zh (by intro e;injection e with e;omega));have hv6:=hv5.grown ((show wr.grownBy (wr.drewN q) (some w.heap.size) from ⟨rfl,rfl,rfl,ahj _,fun _ _ _=>rfl⟩).trans gy) af (fun _ a ha=>by injection ha with e;subst e;simp;omega);have nT:=below_of_grown (hbw.trans (below_drewN' _ _ _)) gy (by simp;exact hbw.size) (ahj _);have HD:=Lib.hid (And.intro hdl (And.intro hsame (And.intro hval (And.intro hQ OG))));have hqc:=hq6.cell (i:=i) (by rw [gB.out];omega);have hqf:=hq6.frozen i;have HB:=Lib.hid nT;clear hdl hsame hval hQ OG gy nT
   go_wp2_with fail
   go_roundw
   case rel =>
    refine ⟨(i:Int)-1,ds,qs.set i Q,af,af,rfl,hb6.far (p:=⟨gq,i,none⟩) (by simp;omega) _,Lib.hid (by rw [HD.out.1];exact hxl.out),hdw,hq6.oN Q (by rw [gB.out];omega),Lib.hid (by rw [ahv];exact gB.out),iO nZ _ af,hv6.setCell (p:=⟨gq,i,none⟩) (ahj _) _,Lib.hid ?_,HB.out.setCell (p:=⟨gq,i,none⟩) (by simp;omega) _⟩;rw [show ((i:Int)-1+1).toNat=i from af,HD.out.2.2.2.1];refine NZ.out.next hxi (by rw [gB.out];omega) HD.out.1 HU.out.1 NJ ?_ HU.out.2.2 HD.out.2.1 (by rw [<- HD.out.2.2.2.1];exact HD.out.2.2.1);have:=iE hxw (i+(k+2)+1);rw [HU.out.2.2];exact this
   case measure=>simp [intOf]
theorem PD:Kz:=by
 intro A A' N M n m c c' B B' w h h' hB hB' hn hm hl hl' h2 jg;obtain ⟨k,rfl⟩ : ∃ k,m=k+2:=⟨m-2,af⟩
 have hnm:k+2<=n:=by
  rcases ahs n (k+2) with h1 | h1
  ·have:=xE (dD N) (fB M) (by rw [hn,hm];exact h1)
   rw [bG,bG] at this;omega
  ·exact h1
 exact Z4 A A' N M n k c c' B B' w h h' hB hB' hn hm hl hnm
set_option maxRecDepth 100000 in
set_option maxHeartbeats 3200000 in
theorem Pj(A A':Option Addr)(N M k m c c' B B':Nat)(w:World)(h:Rd w B A (bg M))(h':Rd w B' A' (bg N))(hn:(bg N).length=k+3)(hm:(bg M).length=m)(hl:k<=8388608)(jg:M<=N) :
  Calls Tryz.prog 268 #[.slice A m c,.slice A' (k+3:Nat) c'] w fun e w' => ∃ q,e = .returned (.int .u64 ((M/(pw k*2^Lib.bitLen (dg (bg N) (k+2))):Nat):Int))/\w'=w.drewN q:=by
 obtain ⟨b,off,rfl,hb,hcell,hlt⟩:=h'.at_ (k:=k+2) (by rw [hn];omega)
 have hd0:dg (bg N) (k+2)≠0:=by
  refine fB N _ ?_;rw [aiJ,hn,show k+3-1=k+2 from af,qP af]
 obtain ⟨t1,t2,t3,t4⟩:=Sl hd0 hlt
 have hmm:m<=k+3:=by
  rcases ahs (k+3) m with h1 | h1
  ·have:=xE (dD N) (fB M) (by rw [hn,hm];exact h1)
   rw [bG,bG] at this;omega
  ·exact h1
 have wV:val (bg M)<pw (k+3):=ahr (dQ (dD M)) (dY (by rw [hm];exact hmm));have pJ:=ad5 (dD N) (by rw [bG,bG];exact jg) hn wV;obtain ⟨d,hd⟩ : ∃ d,d=dg (bg N) (k+2):=⟨_,rfl⟩;rw [<- hd] at hcell hlt hd0 t1 t2 t3 t4 pJ;obtain ⟨s,hs⟩ : ∃ s,s=32-Lib.bitLen d:=⟨_,rfl⟩;rw [<- hs] at t3 t4;have Oq:s<=31:=af;have hbl:Lib.bitLen d=32-s:=af;have hk:=fun W=>(Tryz.bits_LeadingZeros32 (d:Int) W af af);have hk2 : ∀ W,Calls Tryz.prog 276 #[.int .u32 (d:Int)] W fun e w'=>e = .returned (aj s)/\W=w':=fun W=>(hk W).mono fun e w' h=>⟨by rw [h.1,aie,hs];congr 2;omega,h.2.symm⟩;have Hk:=Lib.hid hk2;have hval:=ZR (n:=k) (dD M) wV (rG (p:=s) af) (ahM af);rw [bG] at hval;obtain ⟨w1,hw1⟩ : ∃ x,x=dg (bg M) (k+2):=⟨_,rfl⟩;obtain ⟨w2,hw2⟩ : ∃ x,x=dg (bg M) (k+1):=⟨_,rfl⟩;obtain ⟨w3,hw3⟩ : ∃ x,x=dg (bg M) k:=⟨_,rfl⟩;have l1:w1<4294967296:=by rw [hw1];exact dV (dD M) _
 have l2:w2<4294967296:=by rw [hw2];exact dV (dD M) _
 have l3:w3<4294967296:=by rw [hw3];exact dV (dD M) _
 rw [<- hw1,<- hw2,<- hw3] at hval;rw [<- hw1] at pJ;obtain ⟨P,hP⟩ : ∃ P,P=2^s:=⟨_,rfl⟩
 have htop:(w2+4294967296*w1)*P<=18446744073709551615:=by
  have hP0:0<P:=by rw [hP];exact ahM af
  have f1:w1*P<=d*P:=ahp _ pJ;have f2:w1*P+P<=4294967296:=SE (by rw [<- hP] at t4;omega) ⟨2^(32-s),by rw [hP];exact rG af⟩;have f3:w2*P<=4294967295*P:=ahp _ af;rw [ahw,ahA];omega
 have Oh:bits .or .u64 ((w1:Int)*4294967296) (w2:Int)=((w2+4294967296*w1:Nat):Int):=rF l1 l2;obtain ⟨top,ht⟩ : ∃ t,t=w2+4294967296*w1:=⟨_,rfl⟩;rw [<- ht] at Oh htop hval;have htl:top<=18446744073709551615:=af;have hb3:w3/2^(32-s)<2^s:=IX l3 af;have hmul:(top:Int)*2^s=((top*P:Nat):Int):=by rw [hP];simp
 have Gp:IntKind.u64.wrap ((top:Int)*2^s)=((top*P:Nat):Int):=by rw [hmul];exact IntWalk.u64_in _ af
 have xn:(w3:Int)/2^(32-s)=((w3/2^(32-s):Nat):Int):=by simp
 have hor2:bits .or .u64 ((top*P:Nat):Int) ((w3/2^(32-s):Nat):Int)=((top*P+w3/2^(32-s):Nat):Int):=by
  have hp2:2^s<=2147483648:=by
   have:2^s<=2^31:=aiz af Oq;omega
  have:=Hw (i:=s) (a:=top) (b:=w3/2^(32-s)) hb3 (by rw [<- hP];omega) af;rw [<- hP] at this;rw [<- this,aid]
 rw [<- hP] at hval;obtain ⟨x1,hx1⟩ : ∃ x,x=top*P:=⟨_,rfl⟩;obtain ⟨x2,hx2⟩ : ∃ x,x=w3/2^(32-s):=⟨_,rfl⟩;rw [<- hx1] at hor2 Gp hval htop;rw [<- hx2] at hor2 xn hval;obtain ⟨G,hG⟩ : ∃ G,G=M/(pw k*2^(32-s)):=⟨_,rfl⟩;rw [<- hG] at hval;have HG:=Lib.hid (show G=M/(pw k*2^Lib.bitLen (dg (bg N) (k+2))) by rw [<- hd,hbl];exact hG);rw [hval] at hor2;have k1:IntKind.i64.wrap ((k:Int)+3-1)=(k:Int)+2:=by rw [IntWalk.i64_in _ af];omega
 have k2:IntKind.i64.wrap ((k:Int)+3-2)=(k:Int)+1:=by rw [IntWalk.i64_in _ af];omega
 have k3:IntKind.i64.wrap ((k:Int)+3-3)=(k:Int):=by rw [IntWalk.i64_in _ af];omega
 have hA1 : ∀ W,Rd W B A (bg M)->Calls Tryz.prog 240 #[.slice A m c,.int .i64 ((k:Int)+2)] W fun e w'=>e = .returned (.int .u64 (w1:Int))/\W=w':=fun W hW=>by
  have:=oP A (bg M) m c B ((k+2:Nat):Int) W hW hm af;rw [jD,<- hw1] at this;exact this
 have hA2 : ∀ W,Rd W B A (bg M)->Calls Tryz.prog 240 #[.slice A m c,.int .i64 ((k:Int)+1)] W fun e w'=>e = .returned (.int .u64 (w2:Int))/\W=w':=fun W hW=>by
  have:=oP A (bg M) m c B ((k+1:Nat):Int) W hW hm af;rw [jD,<- hw2] at this;exact this
 have hA3 : ∀ W,Rd W B A (bg M)->Calls Tryz.prog 240 #[.slice A m c,aj k] W fun e w'=>e = .returned (.int .u64 (w3:Int))/\W=w':=fun W hW=>by
  have:=oP A (bg M) m c B (k:Int) W hW hm af;rw [jD,<- hw3] at this;exact this
 have HA1:=Lib.hid hA1;have HA2:=Lib.hid hA2;have Ur:=Lib.hid hA3;clear hA1 hA2 hA3
 go_enter Tryz.func268,Tryz.ntmps268
 clear hn hm hw1 hw2 hw3 hval hk hk2 hs hbl t1 t2 t3 t4 hd0 hP hmul ht hx1 hx2 hG hd pJ hb3
 go_wp2_with fail
 refine (Hk.out _).mono ?_;rintro e w4 ⟨rfl,rfl⟩
 go_wp2_with fail
 refine (HA1.out _ h).mono ?_;rintro e w4 ⟨rfl,rfl⟩
 go_wp2_with fail
 refine (HA2.out _ h).mono ?_;rintro e w4 ⟨rfl,rfl⟩
 go_wp2_with fail
 have HF:=Lib.hid (And.intro Gp (And.intro xn hor2));clear Gp xn hor2;clear wV hmm jg htl htop l1 l2 l3 Oh hcell hlt hb h' k1 k2;have k5:IntKind.i64.wrap (k:Int)=(k:Int):=IntWalk.i64_in _ af;have k4:IntKind.i64.wrap (32-(s:Int))=((32-s:Nat):Int):=by rw [IntWalk.i64_in _ af];omega
 go_region_with (go_at_call 240;refine (Ur.out _ h.drew).mono ?_;rintro e w4 ⟨rfl,rfl⟩)
 all_goals go_wp2_with fail
 all_goals go_ret
 all_goals exact ⟨1,eF (by rw [HF.out.1,HF.out.2.1,HF.out.2.2,HG.out]),rfl⟩
end Go.Proofs.AZQ
namespace Lw
open Go Go.RowKit
def EE(N M u0 u1 v0 v1:Nat)(o:Bool):Prop:=v0=0\/Sp N M u0 u1 v0 v1 o
theorem ZQ{l:List Nat}{k:Nat}(hw:bF l)(hl:l.length=k+3)(hd0:dg l (k+2)≠0):val l/(pw k*2^Lib.bitLen (dg l (k+2)))<18446744073709551616:=by
 obtain ⟨b1,b2,b3,b4⟩:=bitLen_spec hd0 (show dg l (k+2)<18446744073709551616 by have:=dV hw (k+2);omega);rw [aim (ah8 (iV k) (ahM af))];have e:lo l (k+3)=val l:=di af;rw [show k+3=k+2+1 from rfl,bV] at e;have h1:=iE hw (k+2);have h2:pw (k+2)*(dg l (k+2)+1)<=pw (k+2)*2^Lib.bitLen (dg l (k+2)):=ahz _ b3;have p2:pw (k+2)=18446744073709551616*pw k:=by rw [dS,dS,<- ahA]
 have h3:18446744073709551616*(pw k*2^Lib.bitLen (dg l (k+2)))=pw (k+2)*2^Lib.bitLen (dg l (k+2)):=by grind
 rw [ahn,ahJ] at h2;omega
theorem MZ(w:World)(o:Obj)(q:Nat)(a b c d e:Value) :
  Below w.heap.size w (((((((w.alloc o).drewN q).setCell ⟨w.heap.size,0,none⟩ a).setCell ⟨w.heap.size,1,none⟩ b).setCell ⟨w.heap.size,2,none⟩ c).setCell ⟨w.heap.size,3,none⟩ d).setCell ⟨w.heap.size,4,none⟩ e) :=
 have hb:=((Below.refl w.heap.size w).alloc (ahj _) o).trans (⟨rfl,rfl,rfl,ahj _,fun _ _=>rfl⟩:Below w.heap.size (w.alloc o) ((w.alloc o).drewN q))
 ((((hb.setCell (ahj _) _).setCell (ahj _) _).setCell (ahj _) _).setCell (ahj _) _).setCell (ahj _) _
end Lw
namespace Go.Proofs.AZQ
open Go Go.RowKit Lw
set_option maxRecDepth 100000 in
set_option maxHeartbeats 6400000 in
theorem XW(A A':Option Addr)(N M k m c c' B B':Nat)(w:World)(h:Rd w B A (bg N))(h':Rd w B' A' (bg M))(hB:B<=w.heap.size)(hB':B'<=w.heap.size)(hn:(bg N).length=k+3)(hm:(bg M).length=m)(hl:k<=8388605)(jg:M<=N) :
  Calls Tryz.prog 251 #[.slice A (k+3:Nat) c,.slice A' m c'] w fun e w' => ∃ (u0 u1 v0 v1:Nat) (o:Bool),e = .returned (.agg #[.int .u64 u0,.int .u64 u1,.int .u64 v0,.int .u64 v1,.bool o])/\Below w.heap.size w w'/\EE N M u0 u1 v0 v1 o:=by
 have hd0:dg (bg N) (k+2)≠0:=by
  refine fB N _ ?_;rw [aiJ,hn,show k+3-1=k+2 from af,qP af]
 have hx0:=ZQ (dD N) hn hd0;rw [bG] at hx0;obtain ⟨K,hK⟩ : ∃ K,K=pw k*2^Lib.bitLen (dg (bg N) (k+2)):=⟨_,rfl⟩;have hK0:0<K:=by rw [hK];exact ah8 (iV k) (ahM af)
 have l1:=fun (W:World) (hW:Rd W B A (bg N))=>Pj A A N N k (k+3) c c B B W hW hW hn hn af (ahj _);have l2:=fun (W:World) (hW:Rd W B A (bg N)) (hW':Rd W B' A' (bg M))=>Pj A' A N M k m c' c B' B W hW' hW hn hm af jg;rw [<- hK] at l1 l2 hx0;obtain ⟨x0,hx⟩ : ∃ x,x=N/K:=⟨_,rfl⟩;obtain ⟨y0,hy⟩ : ∃ y,y=M/K:=⟨_,rfl⟩;rw [<- hx] at l1 hx0;rw [<- hy] at l2;have hyx:y0<=x0:=by rw [hx,hy];exact Nat.div_le_div_right jg
 have H1:=Lib.hid l1;have H2:=Lib.hid l2;have HK:=Lib.hid (And.intro hK0 (And.intro hx hy));have HL:=Lib.hid (Lm.start hyx);clear hd0 hK hK0 l1 l2 hx hy hn hm jg
 go_enter Tryz.func251,Tryz.ntmps251
 go_wp2_with fail
 refine (H1.out _ (h.alloc hB _)).mono ?_;rintro e w1 ⟨q1,rfl,rfl⟩
 go_wp2_with fail
 refine (H2.out _ ((h.alloc hB _).drewN q1) ((h'.alloc hB' _).drewN q1)).mono ?_;rintro e w1 ⟨q2,rfl,rfl⟩
 go_wp2_with fail
 go_loopw [5,6,7,8,9,10,11,12,13] (fun a b c0 c1 c2 d0 d1 d2 e wr => ∃ (X Y U0 U1 U2 V0 V1 V2:Nat) (O:Bool) (q:Nat),X<=18446744073709551615/\a = .int .u64 X/\b = .int .u64 Y/\c0 = .int .u64 U0/\c1 = .int .u64 U1/\c2 = .int .u64 U2/\d0 = .int .u64 V0/\d1 = .int .u64 V1/\d2 = .int .u64 V2/\e = .bool O /\
   Hid (Lm x0 y0 X Y U1 U2 V1 V2 O)/\Hid (EE N M U0 U1 V0 V1 O)/\wr=(w.alloc (.cells #[.int .u64 0,.int .u64 0,.int .u64 0,.int .u64 0,.bool false] 219)).drewN q) (fun _ b _ _ _ _ _ _ _ _=>(intOf b).toNat)
 case atStart=>exact ⟨x0,y0,0,1,0,0,0,1,true,q1+q2,af,rfl,rfl,rfl,rfl,rfl,rfl,rfl,rfl,rfl,HL,Lib.hid (.inl rfl),rfl⟩
 case round =>
  obtain ⟨X,Y,U0,U1,U2,V0,V1,V2,O,q,hX,rfl,rfl,rfl,rfl,rfl,rfl,rfl,rfl,rfl,hlm,hst,rfl⟩:=hrel;have FQ:Y<=X:=hlm.out.le
  by_cases g1:V2<=Y
  ·obtain ⟨b1,b2,b3,b4⟩:=hlm.out.small hx0 g1
   obtain ⟨f1,f2⟩:=hlm.out.fits g1;have hY1:1<=Y:=ahk hlm.out.Je g1;have hg1:(V2:Int)<=(Y:Int):=af;obtain ⟨Z,hZ⟩ : ∃ Z,Z=X-Y:=⟨_,rfl⟩;have hZ1:(X:Int)-(Y:Int)=(Z:Int):=af
   by_cases g2:V1+V2<=Z
   ·have hg2:(V1:Int)+(V2:Int)<=(Z:Int):=af
    have hstep:=Lib.hid (hlm.out.step hx0 g1 (by rw [<- hZ];exact g2) HK.out.1 HK.out.2.1 HK.out.2.2);have hnext:=Lib.hid (hlm.out.next g1);have hmod:=Lib.hid (aht X (show 0<Y from af));obtain ⟨Q,hQ⟩ : ∃ Q,Q=X/Y:=⟨_,rfl⟩;obtain ⟨R,hR⟩ : ∃ R,R=X%Y:=⟨_,rfl⟩;have YD:Q<=18446744073709551615:=by rw [hQ];exact ahk (ah0 _ _) hX
    have hq1:IntKind.u64.wrap ((X:Int)/(Y:Int))=(Q:Int):=by
     rw [<- aiZ,<- hQ];exact IntWalk.u64_in _ af
    have hr1:(X:Int)%(Y:Int)=(R:Int):=by rw [hR];exact (aiY X Y).symm
    have hr2:(X:Int).tmod (Y:Int)=(R:Int):=by rw [Int.tmod_eq_emod_of_nonneg af];exact hr1
    rw [<- hQ] at f1 f2 hnext;rw [<- hR] at hnext hmod;obtain ⟨QU,FK⟩ : ∃ Z,Z=Q*U2:=⟨_,rfl⟩;obtain ⟨QV,zL⟩ : ∃ Z,Z=Q*V2:=⟨_,rfl⟩;rw [<- FK,<- zL] at f1 hnext;rw [<- zL] at f2;have hqu:(Q:Int)*(U2:Int)=(QU:Int):=by rw [FK];simp
    have hqv:(Q:Int)*(V2:Int)=(QV:Int):=by rw [zL];simp
    have hbq:((Y:Int)==0)=false:=by rw [beq_eq_false_iff_ne];omega
    have f3:V1+QV<=18446744073709551615:=af;have f4:U1+QU<=18446744073709551615:=af;have hYl:Y<=18446744073709551615:=af;clear hQ hR FK zL hZ f1 f2 hx0
    go_wp2_with fail
    go_quiet (fail)
    go_wp2_with fail
    go_roundw
    case rel =>
     exact ⟨Y,R,U1,U2,U1+QU,V1,V2,V1+QV,!O,q+nq,hYl,rfl,rfl,rfl,rfl,by go_num,rfl,rfl,by go_num,rfl,hnext,Lib.hid (.inr hstep.out),rfl⟩
    case measure =>
     have:=hmod.out;simp [intOf];omega
   ·have hg2:decide ((V1:Int)+(V2:Int)<=(Z:Int))=false:=decide_eq_false af
    clear f1 f2 hx0 hZ
    go_wp2_with fail
    refine bodyPost_ret (v := .agg #[.int .u64 U0,.int .u64 U1,.int .u64 V0,.int .u64 V1,.bool O]) (by simp [results,Tryz.results251,go_sem]) rfl ?_;exact ⟨U0,U1,V0,V1,O,rfl,MZ w _ _ _ _ _ _ _,hst.out⟩
  ·have hg1:decide ((V2:Int)<=(Y:Int))=false:=decide_eq_false af
   go_wp2_with fail
   refine bodyPost_ret (v := .agg #[.int .u64 U0,.int .u64 U1,.int .u64 V0,.int .u64 V1,.bool O]) (by simp [results,Tryz.results251,go_sem]) rfl ?_;exact ⟨U0,U1,V0,V1,O,rfl,MZ w _ _ _ _ _ _ _,hst.out⟩
set_option maxRecDepth 100000 in
set_option maxHeartbeats 3200000 in
theorem zf(A A':Option Addr)(ns ms:List Nat)(n m L c c' B B' x y R:Nat)(w:World)(h:Rd w B A ns)(h':Rd w B' A' ms)(hB:B<=w.heap.size)(hB':B'<=w.heap.size)(hn:ns.length=n)(hm:ms.length=m)(hl:n<=16777216)(hl':m<=16777216)(_hx:x<=4294967295)(hy:y<=4294967295)(hL:L=max n m)(hR:x*val ns=R+y*val ms)(hRl:R<pw L) :
  Calls Tryz.prog 270 #[.slice A n c,.int .u64 x,.slice A' m c',.int .u64 y] w (sO w R):=by
 have Hn:=Lib.hid hn;have Hm:=Lib.hid hm;have HR:=Lib.hid (And.intro hR hRl);have hL1:L<=16777216:=af;have hL2:n<=L:=af;have hL3:m<=L:=af;have hL4:((max n m:Nat):Int)=(L:Int):=af;have hL5:max (n:Int) (m:Int)=(L:Int):=af;clear hn hm hR hRl hL
 go_enter Tryz.func270,Tryz.ntmps270
 go_wp2_with (at_make;refine qE _ rfl _ _ _ rfl 82 agv jI _ _ _ _ L rfl rfl af af af ?_;intro w1 hblk hbel hsz)
 go_loopw [10,11,12,23] (fun a b e i wr => ∃ (k cA cB bo:Nat) (cs:List Nat),k<=L/\cA<=4294967295/\cB<=4294967295/\bo<=1/\i = .int .i64 k/\a = .int .u64 cA/\b = .int .u64 cB/\e = .int .u64 bo/\bD wr w.heap.size 82 cs/\Hid (cs.length=L)/\bF cs /\
   Hid (lo cs k+y*lo ms k+pw k*cA=x*lo ns k+pw k*(cB+bo))/\Below w.heap.size w wr) (fun _ _ _ i _=>L-(intOf i).toNat)
 case atStart=>exact ⟨0,0,0,0,_,ahl _,af,af,af,rfl,rfl,rfl,rfl,hblk,Lib.hid (by simp),qB _,Lib.hid (by simp [fM]),hbel⟩
 case round =>
  obtain ⟨k,cA,cB,bo,cs,hk,hcA,hcB,gW,rfl,rfl,rfl,rfl,hb1,hcl,hcw,hv,hbw⟩:=hrel;clear hblk hbel hsz;have hr:=h.below (hbw.mono hB);have hr':=h'.below (hbw.mono hB')
  by_cases hkn:k<L
  ·have OT:=oO hr.bI (k:Int)
   have hwb:=oO hr'.bI (k:Int);have hcc:=hb1.cell (i:=k) (by rw [hcl.out];omega);have hfr:=hb1.frozen k;obtain ⟨a,ha⟩ : ∃ a,a=wd ns (k:Int):=⟨_,rfl⟩;obtain ⟨b,hb⟩ : ∃ b,b=wd ms (k:Int):=⟨_,rfl⟩;rw [<- ha] at OT;rw [<- hb] at hwb;obtain ⟨afv,afw⟩:=xH (x:=x) af OT;obtain ⟨afy,ZH⟩:=xH (x:=y) af hwb;have ZE:=aid x a;have ZG:=aid y b;obtain ⟨S,hS⟩ : ∃ S,S=cA+x*a:=⟨_,rfl⟩;obtain ⟨T,hT⟩ : ∃ T,T=cB+y*b:=⟨_,rfl⟩;have hSl:S<=18446744073709551615:=af;have hTl:T<=18446744073709551615:=af;have hsum:(cA:Int)+(x:Int)*(a:Int)=(S:Int):=by rw [hS,aiD,aid]
   have afn:(cB:Int)+(y:Int)*(b:Int)=(T:Int):=by rw [hT,aiD,aid]
   have YL:bits .and .u64 (S:Int) 4294967295=((S%4294967296:Nat):Int):=EH af;have YM:bits .and .u64 (T:Int) 4294967295=((T%4294967296:Nat):Int):=EH af;obtain ⟨D,hD,hDl,o8⟩:=vF (S%4294967296) (T%4294967296);obtain ⟨F,hF,Nw,o9⟩:=vF D bo;have hdw:=Lib.hid (W9 (S:=S) (T:=T) gW o8 o9 hDl);have hF2:F/9223372036854775808<=1:=hdw.out.2;have HS:=Lib.hid (And.intro hS hT);obtain ⟨SM,hSM⟩ : ∃ M,M=S%4294967296:=⟨_,rfl⟩;obtain ⟨TM,NE⟩ : ∃ M,M=T%4294967296:=⟨_,rfl⟩;rw [<- hSM] at YL hD;rw [<- NE] at YM hD;have Ha:=Lib.hid (And.intro ha hb);clear o8 o9 hS hT hSM NE ZE ZG;have hwA : ∀ W,Below w.heap.size w W->Calls Tryz.prog 240 #[.slice A n c,.int .i64 k] W fun e w'=>e = .returned (.int .u64 (a:Int))/\W=w':=fun W hW=>by rw [ha];exact oP _ ns _ _ _ _ _ (h.below (hW.mono hB)) Hn.out af
   have hwB : ∀ W,Below w.heap.size w W->Calls Tryz.prog 240 #[.slice A' m c',.int .i64 k] W fun e w'=>e = .returned (.int .u64 (b:Int))/\W=w':=fun W hW=>by rw [hb];exact oP _ ms _ _ _ _ _ (h'.below (hW.mono hB')) Hm.out af
   have UM:=Lib.hid hwA;have UN:=Lib.hid hwB;clear hwA hwB ha hb
   go_wp2_with fail
   refine (UM.out _ hbw).mono ?_;rintro e w2 ⟨rfl,rfl⟩
   go_wp2_with fail
   refine (UN.out _ hbw).mono ?_;rintro e w2 ⟨rfl,rfl⟩
   go_wp2_with fail
   go_roundw
   case rel =>
    refine ⟨k+1,S/4294967296,T/4294967296,F/9223372036854775808,cs.set k (F%4294967296),af,af,af,hF2,by go_num,by go_num,by go_num,by go_num,hb1.oM (by rw [hcl.out];omega) af,Lib.hid (by rw [ahv];exact hcl.out),iO hcw _ (aht _ af),Lib.hid ?_,hbw.setCell (ahj _) _⟩;refine WZ (by rw [hcl.out];omega) hv.out ?_ ?_ hdw.out.1
    ·rw [HS.out.1,Ha.out.1,jD]
    ·rw [HS.out.2,Ha.out.2,jD]
   case measure=>simp [intOf];omega
  ·obtain rfl:k=L:=af
   have HV:Hid (val cs=R):=Lib.hid (WY hcw hcl.out (by rw [Hn.out];omega) (by rw [Hm.out];omega) hv.out HR.out.1 HR.out.2)
   go_wp2_with fail
   refine (rX _ cs _ _ _ _ (hb1.rd hcw) hcl.out (ahj _) af).mono ?_;rintro e w' ⟨rfl,rfl⟩
   go_wp2_with fail
   go_ret
   refine ⟨_,_,mW (by rw [HV.out]),?_,?_,hbw⟩
   ·have:=kU hcw
    rw [HV.out,hcl.out] at this;exact this
   ·have:=(hb1.rd hcw).bg
    rw [HV.out] at this;exact this
end Go.Proofs.AZQ
namespace Lw
open Go Go.RowKit
theorem wI{a b:Nat}(h:a<=b):(bg a).length<=(bg b).length:=by
 rcases ahs (bg b).length (bg a).length with h1 | h1
 ·have:=xE (dD b) (fB a) h1
  rw [bG,bG] at this;omega
 ·exact h1
def yP(w:World)(N:Nat)(e:Ending)(w':World):Prop :=
 ∃ u,e = .returned u/\Hid (∃ A c,u = .slice A (bg N).length c/\(bg N).length<=c/\Rd w' w'.heap.size A (bg N))/\Below w.heap.size w w'
structure lM(w:World)(g:Nat)(a b c d e:Value):Prop where
 lt:g<w.heap.size
 cells:w.cell? ⟨g,0,none⟩=some a/\w.cell? ⟨g,1,none⟩=some b/\w.cell? ⟨g,2,none⟩=some c/\w.cell? ⟨g,3,none⟩=some d/\w.cell? ⟨g,4,none⟩=some e
theorem lM.new(w:World)(t:TypeId)(a b c d:Nat)(e:Bool):lM (w.alloc (.cells #[.int .u64 a,.int .u64 b,.int .u64 c,.int .u64 d,.bool e] t)) w.heap.size (.int .u64 a) (.int .u64 b) (.int .u64 c) (.int .u64 d) (.bool e) :=
 ⟨by simp,by simp [go_sem],by simp [go_sem],by simp [go_sem],by simp [go_sem],by simp [go_sem]⟩
theorem lM.drew{w:World}{g:Nat}{a b c d e:Value}(h:lM w g a b c d e):lM w.drew g a b c d e:=⟨h.lt,h.cells⟩
theorem lM.next{w w':World}{g B:Nat}{a b c d e:Value}(h:lM w g a b c d e)(hb:Below B w w')(hB:B=w.heap.size):lM w' g a b c d e:=by
 subst hB;exact ⟨ahr h.lt hb.size,(hb.cell h.lt).trans h.cells.1,(hb.cell h.lt).trans h.cells.2.1,(hb.cell h.lt).trans h.cells.2.2.1,(hb.cell h.lt).trans h.cells.2.2.2.1,(hb.cell h.lt).trans h.cells.2.2.2.2⟩
end Lw
namespace Go.Proofs.AZQ
open Go Go.RowKit Lw
set_option maxRecDepth 100000 in
set_option maxHeartbeats 6400000 in
theorem Vw(A A':Option Addr)(N M n m c c' B B' u0 u1 v0 v1:Nat)(o:Bool)(w:World)(h:Rd w B A (bg N))(h':Rd w B' A' (bg M))(hB:B<=w.heap.size)(hB':B'<=w.heap.size)(hn:(bg N).length=n)(hm:(bg M).length=m)(hl:n<=8388608)(hl':m<=n)(hv:v0≠0)(hs:EE N M u0 u1 v0 v1 o) :
  Calls Tryz.prog 253 #[.agg #[.int .u64 u0,.int .u64 u1,.int .u64 v0,.int .u64 v1,.bool o],.slice A n c,.slice A' m c'] w fun e w' =>
   ∃ r1 r2,sQ w r1 r2 e w'/\r2<=r1/\Nat.gcd r1 r2=Nat.gcd N M/\r1<=N/\r1+r2<=N:=by
 obtain ⟨b1,b2,b3,b4,r1,r2,heq,hle,hg,Gj,hsum⟩:=hs.resolve_left hv;have OC:=hsum (aii hv);have hr1:r1<pw n:=ahO Gj (mG af);have hr2:r2<pw n:=ahO hle hr1;have hmax:n=max n m:=af;have Oa:n=max m n:=af;have HG:=Lib.hid (And.intro hle (And.intro hg (And.intro Gj OC)));have HN:=Lib.hid (And.intro hn hm);have HR:=Lib.hid (And.intro hr1 hr2);have HM:=Lib.hid (And.intro hmax Oa);clear hle hg Gj hsum OC hn hm hr1 hr2 hmax Oa hs
 cases o
 ·simp only [Bool.false_eq_true,if_false] at heq
  have HE:=Lib.hid heq;clear heq
  go_enter Tryz.func253,Tryz.ntmps253
  go_wp2_with fail
  have H1 : ∀ W,Below w.heap.size w W->Calls Tryz.prog 270 #[.slice A n c,.int .u64 u0,.slice A' m c',.int .u64 v0] W (yP W r1):=fun W hW =>
   (zf _ _ (bg N) (bg M) _ _ n _ _ _ _ u0 v0 r1 W (h.below (hW.mono hB)) (h'.below (hW.mono hB')) (ahk hB hW.size) (ahk hB' hW.size) HN.out.1 HN.out.2 af af af af HM.out.1 (by rw [bG,bG];exact HE.out.1) HR.out.1).mono fun e w' ⟨A,c,he,hc,hr,hb⟩=>⟨_,he,Lib.hid ⟨A,c,rfl,hc,hr⟩,hb⟩
  have H2 : ∀ W,Below w.heap.size w W->Calls Tryz.prog 270 #[.slice A' m c',.int .u64 v1,.slice A n c,.int .u64 u1] W (yP W r2):=fun W hW =>
   (zf _ _ (bg M) (bg N) _ _ n _ _ _ _ v1 u1 r2 W (h'.below (hW.mono hB')) (h.below (hW.mono hB)) (ahk hB' hW.size) (ahk hB hW.size) HN.out.2 HN.out.1 af af af af HM.out.2 (by rw [bG,bG];exact HE.out.2) HR.out.2).mono fun e w' ⟨A,c,he,hc,hr,hb⟩=>⟨_,he,Lib.hid ⟨A,c,rfl,hc,hr⟩,hb⟩
  have HD1:=Lib.hid H1;have HD2:=Lib.hid H2;clear H1 H2;have hF:=lM.new w 219 u0 u1 v0 v1 false;have hW:=(Below.refl w.heap.size w).alloc (ahj _) (.cells #[.int .u64 (u0:Int),.int .u64 (u1:Int),.int .u64 (v0:Int),.int .u64 (v1:Int),.bool false] 219);generalize w.alloc (.cells #[.int .u64 (u0:Int),.int .u64 (u1:Int),.int .u64 (v0:Int),.int .u64 (v1:Int),.bool false] 219)=W0 at hF hW ⊢
  go_region_held3 (fun w'=>w'.cell? ⟨w.heap.size,0,none⟩=some (.int .u64 u0)/\w'.cell? ⟨w.heap.size,1,none⟩=some (.int .u64 u1)/\w'.cell? ⟨w.heap.size,2,none⟩=some (.int .u64 v0)/\w'.cell? ⟨w.heap.size,3,none⟩=some (.int .u64 v1)/\w'.cell? ⟨w.heap.size,4,none⟩=some (.bool false)) (first | exact hF.cells | exact hF.drew.cells)
   (first
    | (go_at_call_of 270 (Value.slice A' m c');refine (HD2.out _ hW2).mono ?_;rintro e w3 ⟨x2,rfl,hr2,hb2⟩;have hF:=hF.next hb2 rfl;have hW3:=bQ hW2 hb2 (ahj _))
    | (go_at_call_of 270 (Value.slice A n c);refine (HD1.out _ hW.drew).mono ?_;rintro e w2 ⟨x1,rfl,hr1,hb1⟩;have hF:=hF.drew.next hb1 rfl;have hW2:=bQ hW.drew hb1 (ahj _)))
  all_goals
   go_wp2_with fail
   go_ret2
   obtain ⟨A1,c1,rfl,hc1,hr1⟩:=hr1.out;obtain ⟨A2,c2,rfl,hc2,hr2⟩:=hr2.out;exact ⟨r1,r2,⟨A1,c1,A2,c2,rfl,hc1,hc2,(hr1.next hb2 (ahj _)).more hb2.size,hr2,hW3⟩,HG.out.1,HG.out.2.1,HG.out.2.2.1,HG.out.2.2.2⟩
 ·simp only [if_true] at heq
  have HE:=Lib.hid heq;clear heq
  go_enter Tryz.func253,Tryz.ntmps253
  go_wp2_with fail
  have H1 : ∀ W,Below w.heap.size w W->Calls Tryz.prog 270 #[.slice A' m c',.int .u64 v0,.slice A n c,.int .u64 u0] W (yP W r1):=fun W hW =>
   (zf _ _ (bg M) (bg N) _ _ n _ _ _ _ v0 u0 r1 W (h'.below (hW.mono hB')) (h.below (hW.mono hB)) (ahk hB' hW.size) (ahk hB hW.size) HN.out.2 HN.out.1 af af af af HM.out.2 (by rw [bG,bG];exact HE.out.1) HR.out.1).mono fun e w' ⟨A,c,he,hc,hr,hb⟩=>⟨_,he,Lib.hid ⟨A,c,rfl,hc,hr⟩,hb⟩
  have H2 : ∀ W,Below w.heap.size w W->Calls Tryz.prog 270 #[.slice A n c,.int .u64 u1,.slice A' m c',.int .u64 v1] W (yP W r2):=fun W hW =>
   (zf _ _ (bg N) (bg M) _ _ n _ _ _ _ u1 v1 r2 W (h.below (hW.mono hB)) (h'.below (hW.mono hB')) (ahk hB hW.size) (ahk hB' hW.size) HN.out.1 HN.out.2 af af af af HM.out.1 (by rw [bG,bG];exact HE.out.2) HR.out.2).mono fun e w' ⟨A,c,he,hc,hr,hb⟩=>⟨_,he,Lib.hid ⟨A,c,rfl,hc,hr⟩,hb⟩
  have HD1:=Lib.hid H1;have HD2:=Lib.hid H2;clear H1 H2;have hF:=lM.new w 219 u0 u1 v0 v1 true;have hW:=(Below.refl w.heap.size w).alloc (ahj _) (.cells #[.int .u64 (u0:Int),.int .u64 (u1:Int),.int .u64 (v0:Int),.int .u64 (v1:Int),.bool true] 219);generalize w.alloc (.cells #[.int .u64 (u0:Int),.int .u64 (u1:Int),.int .u64 (v0:Int),.int .u64 (v1:Int),.bool true] 219)=W0 at hF hW ⊢
  go_region_held3 (fun w'=>w'.cell? ⟨w.heap.size,0,none⟩=some (.int .u64 u0)/\w'.cell? ⟨w.heap.size,1,none⟩=some (.int .u64 u1)/\w'.cell? ⟨w.heap.size,2,none⟩=some (.int .u64 v0)/\w'.cell? ⟨w.heap.size,3,none⟩=some (.int .u64 v1)/\w'.cell? ⟨w.heap.size,4,none⟩=some (.bool true)) (first | exact hF.cells | exact hF.drew.cells)
   (first
    | (go_at_call_of 270 (Value.slice A n c);refine (HD2.out _ hW2).mono ?_;rintro e w3 ⟨x2,rfl,hr2,hb2⟩;have hF:=hF.next hb2 rfl;have hW3:=bQ hW2 hb2 (ahj _))
    | (go_at_call_of 270 (Value.slice A' m c');refine (HD1.out _ hW.drew).mono ?_;rintro e w2 ⟨x1,rfl,hr1,hb1⟩;have hF:=hF.drew.next hb1 rfl;have hW2:=bQ hW.drew hb1 (ahj _)))
  all_goals
   go_wp2_with fail
   go_ret2
   obtain ⟨A1,c1,rfl,hc1,hr1⟩:=hr1.out;obtain ⟨A2,c2,rfl,hc2,hr2⟩:=hr2.out;exact ⟨r1,r2,⟨A1,c1,A2,c2,rfl,hc1,hc2,(hr1.next hb2 (ahj _)).more hb2.size,hr2,hW3⟩,HG.out.1,HG.out.2.1,HG.out.2.2.1,HG.out.2.2.2⟩
end Go.Proofs.AZQ
namespace Lw
open Go Go.RowKit
def wordAt(w:World)(b k:Nat):Nat:=match w.cell? ⟨b,k,none⟩ with | some (.int _ z)=>z.toNat | _=>0
def rdv(w:World):Value->Nat
 | .slice (some a) n _=>val ((List.range n).map fun j=>wordAt w a.block (a.off+j))
 | _=>0
theorem uK{w:World}{B:Nat}{A:Option Addr}{ns:List Nat}{n c:Nat}(h:Rd w B A ns)(hn:ns.length=n):rdv w (.slice A n c)=val ns:=by
 rcases ahE n with h0 | h0
 ·subst h0
  obtain rfl:ns=[]:=ahB hn
  cases A <;> rfl
 ·obtain ⟨b,off,rfl,hb,hc⟩:=h.2 af
  show val ((List.range n).map fun j=>wordAt w b (off+j))=val ns
  congr 1
  apply List.ext_getElem
  ·simp [hn]
  ·intro j h1 h2
   rw [List.getElem_map,List.getElem_range];unfold wordAt;rw [hc j h2];show (dg ns j:Int).toNat=ns[j];rw [aie,lU h2]
end Lw
namespace Lw
theorem Np(N M:Nat):Nat.gcd M (N%M)=Nat.gcd N M:=by rw [ah6 N M,Nat.gcd_rec M N,ah6]
end Lw
namespace Go.Proofs.AZQ
open Go Go.RowKit Lw
theorem MM{p:Prop}(h:p:=by
  go_wp2_with fail
  obtain ⟨G,hG⟩ : ∃ G,G=Nat.gcd N M:=⟨_,rfl⟩;have HG:=Lib.hid hG;clear hG
  go_loopw [0,1] (fun a b wr => ∃ (X Y x y d d':Nat) (D D':Option Addr),a = .slice D x d/\b = .slice D' y d'/\Rd wr wr.heap.size D (bg X)/\Rd wr wr.heap.size D' (bg Y)/\Hid ((bg X).length=x/\(bg Y).length=y)/\x<=8388608/\y<=x/\x<=d/\y<=d'/\Hid (Y<=X)/\Hid (Nat.gcd X Y=G)/\Below w.heap.size w wr) (fun a b wr=>rdv wr a+rdv wr b)
  case atStart=>exact ⟨N,M,n,m,c,c',A,A',rfl,rfl,(h.drewN q).more (by simpa using hB),(h'.drewN q).more (by simpa using hB'),Lib.hid ⟨Hn.out,Hm.out⟩,hl,hmn,hc,hc',yK,Lib.hid HG.out.symm,below_drewN' _ _ _⟩
  case round =>
   obtain ⟨X,Y,x,y,d,d',D,D',rfl,rfl,hr1,hr2,hxy,hx,hyx,hxd,Gy,FQ,hg,hbw⟩:=hrel;have RX:=Lib.hid (uK (c:=d) hr1 hxy.out.1);have RY:=Lib.hid (uK (c:=d') hr2 hxy.out.2)
   by_cases h2:y<=2
   ·by_cases h0:y=0
    ·subst h0
     have HM:Hid (G=X):=Lib.hid (by rw [<- hg.out,ig.1 (ahB hxy.out.2),aja])
     go_wp2_with fail
     refine (clone_any D (bg X) _ _ _ _ hr1 (ahj _) hxy.out.1 af).mono ?_;rintro e w2 ⟨A1,c1,rfl,hc1,hg1,hr3,hb1⟩
     go_wp2_with fail
     go_ret
     rw [<- HG.out,HM.out];exact ⟨A1,c1,mW hxy.out.1.symm,by rw [hxy.out.1];exact hc1,hr3,bQ hbw hb1 (ahj _)⟩
    ·have hbq:((y:Int)==0)=false:=by rw [beq_eq_false_iff_ne];omega
     have hM0:Y≠0:=by intro e;subst e;exact h0 (by rw [<- hxy.out.2];rfl)
     have qJ:=Lib.hid hM0;clear h0 hM0
     go_wp2_with fail
     refine (Me D D' X Y _ _ d d' _ _ _ hr1 hr2 (ahj _) (ahj _) hxy.out.1 hxy.out.2 af af hxd Gy qJ.out (.inr PD)).mono ?_;rintro e w2 ⟨A3,c3,A4,c4,rfl,hc3,hc4,hr3,hr4,hb3⟩;have hb4:=bQ hbw hb3 (ahj _);have hM2:Y<=18446744073709551615:=by have:=mG (n:=Y) (k:=2) (by rw [hxy.out.2];exact h2);have h3:pw 2=18446744073709551616:=rfl;omega
     have hR2:X%Y<Y:=aht _ (by have:=qJ.out;omega);have JX:Hid (Nat.gcd Y (X%Y)=G):=Lib.hid (by rw [Np,hg.out]);have N9:(bg (X%Y)).length<=2:=gQ (k:=2) (by have h3:pw 2=18446744073709551616:=rfl;omega);have Ef:Hid (lo (bg Y) 2=Y):=Lib.hid (by rw [di (by rw [hxy.out.2];exact h2),bG]);have JY:Hid (lo (bg (X%Y)) 2=X%Y):=Lib.hid (by rw [di N9,bG]);obtain ⟨R,hR⟩ : ∃ R,R=X%Y:=⟨_,rfl⟩;rw [<- hR] at hr4 hc4 JX N9 JY hR2 ⊢;clear hR;obtain ⟨Q,hQ⟩ : ∃ Q,Q=X/Y:=⟨_,rfl⟩;rw [<- hQ] at hr3 hc3 ⊢;clear hQ
     go_wp2_with fail
     refine (Ak D' (bg Y) _ d' _ _ (hr2.below hb3) hxy.out.2 af).mono ?_;rintro e w3 ⟨rfl,rfl⟩;rw [Ef.out]
     go_wp2_with fail
     refine (Ak A4 (bg R) _ c4 _ _ hr4 rfl af).mono ?_;rintro e w3 ⟨rfl,rfl⟩;rw [JY.out]
     go_wp2_with fail
     refine (adB Y R _ hM2 af).mono ?_;rintro e w3 ⟨rfl,q3,rfl⟩;rw [JX.out]
     have hgl:G<=18446744073709551615:=by
      rw [<- hg.out];exact ahk (Nat.gcd_le_right _ (by have:=qJ.out;omega)) hM2
     go_wp2_with fail
     refine (uX G _ hgl).mono ?_;rintro e w5 ⟨A5,c5,rfl,hc5,lg,hb5⟩
     go_wp2_with fail
     go_ret
     rw [<- HG.out];exact ⟨A5,c5,rfl,hc5,lg,bQ (hb4.trans (below_drewN' _ _ _)) hb5 (by simp)⟩
   ·obtain ⟨k,rfl⟩ : ∃ k,x=k+3:=⟨x-3,af⟩
    have hY0:Hid (0<Y):=Lib.hid (by
     rcases ahE Y with e | e
     ·exfalso;have:=hxy.out.2;rw [e] at this;have e2:(bg 0).length=0:=rfl;omega
     ·exact e)
    go_wp2_with fail
    refine (XW D D' X Y k y d d' _ _ _ hr1 hr2 (ahj _) (ahj _) hxy.out.1 hxy.out.2 af FQ.out).mono ?_;rintro e w2 ⟨u0,u1,v0,v1,o,rfl,hb2,hst⟩;have HST:=Lib.hid hst;clear hst
    by_cases hv:v0=0
    ·subst hv
     replace hb2:=hb2.alloc hb2.size (.cells #[.int .u64 (u0:Int),.int .u64 (u1:Int),.int .u64 0,.int .u64 (v1:Int),.bool o] 219);have hr1':=hr1.below hb2;have hr2':=hr2.below hb2
     go_wp2_with fail
     refine (Me D D' X Y _ _ d d' _ _ _ hr1' hr2' hb2.size hb2.size hxy.out.1 hxy.out.2 af af hxd Gy (by have:=hY0.out;omega) (.inr PD)).mono ?_;rintro e w3 ⟨A3,c3,A4,c4,rfl,hc3,hc4,hr3,hr4,hb3⟩
     go_wp2_with fail
     have hb5:=bQ hbw (hb2.trans (hb3.mono hb2.size)) (ahj _)
     go_roundw
     case rel =>
      exact ⟨Y,X%Y,y,_,d',c4,D',A4,rfl,rfl,(hr2'.below (hb3.mono hb2.size)).more (ahk hb2.size hb3.size),hr4,Lib.hid ⟨hxy.out.2,rfl⟩,af,by rw [<- hxy.out.2];exact wI (ahN (aht _ hY0.out)),Gy,hc4,Lib.hid (ahN (aht _ hY0.out)),Lib.hid (by rw [Np,hg.out]),hb5⟩
     case measure =>
      show rdv _ _+rdv _ _<rdv _ _+rdv _ _;rw [RX.out,RY.out,uK hr4 rfl,uK (hr2'.below (hb3.mono hb2.size)) hxy.out.2,bG,bG,bG];have h1:=aht X hY0.out;have h2:=FQ.out;omega
    ·have hv1:((v0:Int)==0)=false:=by rw [beq_eq_false_iff_ne];omega
     replace hb2:=hb2.alloc hb2.size (.cells #[.int .u64 (u0:Int),.int .u64 (u1:Int),.int .u64 (v0:Int),.int .u64 (v1:Int),.bool o] 219);have hr1':=hr1.below hb2;have hr2':=hr2.below hb2
     go_wp2_with fail
     refine (Vw D D' X Y (k+3) y d d' _ _ u0 u1 v0 v1 o _ hr1' hr2' hb2.size hb2.size hxy.out.1 hxy.out.2 af hyx hv HST.out).mono ?_;rintro e w3 ⟨r1,r2,⟨A3,c3,A4,c4,rfl,hc3,hc4,hr3,hr4,hb3⟩,hle,hgg,Ol,hsum⟩;have HH:=Lib.hid (And.intro hle (And.intro hgg (And.intro Ol hsum)));clear hle hgg Ol hsum
     go_wp2_with fail
     have hb5:=bQ hbw (hb2.trans (hb3.mono hb2.size)) (ahj _)
     go_roundw
     case rel =>
      exact ⟨r1,r2,_,_,c3,c4,A3,A4,rfl,rfl,hr3,hr4,Lib.hid ⟨rfl,rfl⟩,ahk (wI HH.out.2.2.1) (by rw [hxy.out.1];exact hx),wI HH.out.1,hc3,hc4,Lib.hid HH.out.1,Lib.hid (by rw [HH.out.2.1,hg.out]),hb5⟩
     case measure =>
      show rdv _ _+rdv _ _<rdv _ _+rdv _ _;rw [RX.out,RY.out,uK hr3 rfl,uK hr4 rfl,bG,bG,bG,bG];have h1:=HH.out.2.2.2;have h2:=hY0.out;omega):p:=h
set_option maxRecDepth 100000 in
set_option maxHeartbeats 6400000 in
theorem Xj(A A':Option Addr)(N M n m c c' B B':Nat)(w:World)(h:Rd w B A (bg N))(h':Rd w B' A' (bg M))(hB:B<=w.heap.size)(hB':B'<=w.heap.size)(hn:(bg N).length=n)(hm:(bg M).length=m)(hl:n<=8388608)(hc:n<=c)(hc':m<=c')(jg:M<=N) :
  Calls Tryz.prog 207 #[.slice A n c,.slice A' m c'] w (sO w (Nat.gcd N M)):=by
 have vN:=bG N;have vM:=bG M;have hmn:m<=n:=by rw [<- hn,<- hm];exact wI af
 have Hn:=Lib.hid hn;have Hm:=Lib.hid hm;have VN:=Lib.hid vN;have VM:=Lib.hid vM;have hcm:=ET jg;have wU:M<=N:=af;have yK:=Lib.hid wU;clear hn hm vN vM jg wU
 go_enter Tryz.func207,Tryz.ntmps207
 go_wp2_with fail
 refine (tC A A' (bg N) (bg M) _ _ _ _ B B' _ h h' (fB _) (fB _) Hn.out Hm.out af af).mono ?_;rintro e w1 ⟨rfl,q,rfl⟩;rw [VN.out,VM.out];exact MM
set_option maxRecDepth 100000 in
set_option maxHeartbeats 6400000 in
theorem Xk(A A':Option Addr)(N M n m c c' B B':Nat)(w:World)(h:Rd w B A (bg N))(h':Rd w B' A' (bg M))(hB:B<=w.heap.size)(hB':B'<=w.heap.size)(hn:(bg N).length=n)(hm:(bg M).length=m)(hl:n<=8388608)(hc:n<=c)(hc':m<=c')(jg:M<N) :
  Calls Tryz.prog 207 #[.slice A' m c',.slice A n c] w (sO w (Nat.gcd N M)):=by
 have vN:=bG N;have vM:=bG M;have hmn:m<=n:=by rw [<- hn,<- hm];exact wI af
 have Hn:=Lib.hid hn;have Hm:=Lib.hid hm;have VN:=Lib.hid vN;have VM:=Lib.hid vM;have hcm:=ES jg;have wU:M<=N:=af;have yK:=Lib.hid wU;clear hn hm vN vM jg wU
 go_enter Tryz.func207,Tryz.ntmps207
 go_wp2_with fail
 refine (tC A' A (bg M) (bg N) _ _ _ _ B' B _ h' h (fB _) (fB _) Hm.out Hn.out af af).mono ?_;rintro e w1 ⟨rfl,q,rfl⟩;rw [VM.out,VN.out];exact MM
attribute [local go_sem ↓] Go.wp_at_zero Go.wp_at_succ
theorem Xi(A A':Option Addr)(N M n m c c' B B':Nat)(w:World)(h:Rd w B A (bg N))(h':Rd w B' A' (bg M))(hB:B<=w.heap.size)(hB':B'<=w.heap.size)(hn:(bg N).length=n)(hm:(bg M).length=m)(hl:n<=8388608)(hl':m<=8388608)(hc:n<=c)(hc':m<=c') :
  Calls Tryz.prog 207 #[.slice A n c,.slice A' m c'] w (sO w (Nat.gcd N M)):=by
 rcases ahs N M with h1 | h1
 ·rw [ah6]
  exact Xk A' A M N m n c' c B' B w h' h hB' hB hm hn hl' hc' hc h1
 ·exact Xj A A' N M n m c c' B B' w h h' hB hB' hn hm hl hc hc' h1
set_option maxHeartbeats 3200000 in
theorem Ya(s s':Bool)(A A':Option Addr)(ns ms:List Nat)(n m c c' B B':Nat)(w:World)(h:Rd w B A ns)(h':Rd w B' A' ms)(hB:B<=w.heap.size)(hB':B'<=w.heap.size)(hn:ns.length=n)(hm:ms.length=m)(hl:n<=8388608)(hl':m<=8388608)(hc:n<=c)(hc':m<=c') :
  Calls Tryz.prog 146 #[.agg #[.bool s,.slice A n c],.agg #[.bool s',.slice A' m c']] w (kQ w ((Nat.gcd (zv s ns).natAbs (zv s' ms).natAbs:Nat):Int)):=by
 have hlz:=vK (s:=s) h.bI;have hlz':=vK (s:=s') h'.bI;rw [hn] at hlz;rw [hm] at hlz'
 go_enter Tryz.func146,Tryz.ntmps146
 go_upto_region 1 with fail
 obtain ⟨T1,T2,T3,_,hb0⟩:=jc (Below.refl _ (((w.alloc (.cells #[.bool s,.slice A n c] 109)).alloc (.cells #[.bool s',.slice A' m c'] 109)).alloc (.cells #[.bool false,.slice none 0 0] 109)));have R1:=h.below (hb0.mono hB);have R2:=h'.below (hb0.mono hB');generalize hW:(((w.alloc (.cells #[.bool s,.slice A n c] 109)).alloc (.cells #[.bool s',.slice A' m c'] 109)).alloc (.cells #[.bool false,.slice none 0 0] 109))=W at *;clear hW;have l3:=T3.lt;obtain ⟨c10,c11,f10,f11⟩:=T1.facts;obtain ⟨c20,c21,f20,f21⟩:=T2.facts
 go_cut [] (fun wc => ∃ A1 c1 A2 c2,Two wc w.heap.size 109 (.bool (sg (zv s ns))) (.slice A1 (mg (zv s ns)).length c1)/\Two wc (w.heap.size+1) 109 (.bool (sg (zv s' ms))) (.slice A2 (mg (zv s' ms)).length c2) /\
  Two wc (w.heap.size+1+1) 109 (.bool false) (.slice none 0 0)/\Rd wc B A1 (mg (zv s ns))/\Rd wc B' A2 (mg (zv s' ms))/\Below w.heap.size w wc/\(mg (zv s ns)).length<=c1/\(mg (zv s' ms)).length<=c2)
 case first=>exact ad7
 case rest =>
  obtain ⟨A1,c1,A2,c2,Q1,Q2,Q3,r1,r2,hbc,hc1,hc2⟩:=hcut;clear T1 T2 T3 R1 R2 hb0 l3 c10 c11 c20 c21 f10 f11 f20 f21;obtain ⟨c10,c11,f10,f11⟩:=Q1.facts;obtain ⟨c20,c21,f20,f21⟩:=Q2.facts
  go_wp2_with fail
  refine (Xi A1 A2 (zv s ns).natAbs (zv s' ms).natAbs _ _ c1 c2 B B' _ r1 r2 (by have:=hbc.size;omega) (by have:=hbc.size;omega) rfl rfl (ahk hlz hl) (ahk hlz' hl') hc1 hc2).mono ?_;rintro e w3 ⟨A3,c3,rfl,hc3,hr3,hb3⟩;have U3:=Q3.next hb3;generalize Nat.gcd (zv s ns).natAbs (zv s' ms).natAbs=G at *
  go_wp2_with fail
  refine (IY false A3 G _ c3 _ (G:Int) _ hr3 (ahj _) rfl hc3 rfl).mono ?_;rintro e w4 ⟨A4,c4,rfl,hc4,hr4,hb4⟩;have V3:=U3.next hb4;obtain ⟨d0,d1,g0,g1⟩:=V3.facts;have hsz3:=hb3.size;have OE:=hbc.size
  go_wp2_with fail
  refine bodyPost_ret (v := .agg #[.bool (sg (G:Int)),.slice A4 (mg (G:Int)).length c4]) (by simp [results,Tryz.results146,go_sem,d0,d1]) rfl ?_;exact jW V3 hr4 hb4.size hc4 (bQ (bQ hbc hb3 (ahj _)) hb4 af) af
end Go.Proofs.AZQ
namespace Lw
open Go Go.RowKit
theorem Z7{x y:Int}{k:Nat}(hy:y≠0)(h:x.natAbs<pw k):(x/y).natAbs<pw (k+1):=by
 have h1:=Int.emod_add_mul_ediv x y;have h2:=Int.emod_nonneg x hy;have h3:=Int.emod_lt x hy
 have h4:y.natAbs*(x/y).natAbs=(x-x%y).natAbs:=by
  rw [<- aiN];congr 1;omega
 have h5:(x-x%y).natAbs+1<=x.natAbs+y.natAbs:=af
 have hq:(x/y).natAbs<=x.natAbs+1:=by
  generalize (x/y).natAbs=q at *;generalize y.natAbs=d at *;refine Nat.le_of_not_lt fun hlt => ?_;have hd:1<=d:=af;have h6:d*(x.natAbs+2)<=d*q:=ahz _ hlt;have h7:1*x.natAbs<=d*x.natAbs:=ahp _ hd;rw [ahn] at h6;omega
 have:=iV k;rw [dS];omega
theorem Z8{x y:Int}{k:Nat}(hy:y≠0)(h:y.natAbs<pw k):(x%y).natAbs<pw k:=by
 have h2:=Int.emod_nonneg x hy;have h3:=Int.emod_lt x hy;omega
end Lw
namespace Go.Proofs.AZQ
open Go Go.RowKit Lw
section
variable {t:TypeId} {W0 w:World} {bs:List Bx} {L:List En} {v v':Value} {x y:Int} {k k':Nat} {b b':Bool}
theorem Qc{w:World}{z:Int}{K:Nat}{A:Option Addr}{c:Nat}(hr:Rd w w.heap.size A (mg z))(hc:(mg z).length<=c)(hz:z.natAbs<pw K):cZ w ⟨.agg #[.bool (sg z),.slice A (mg z).length c],z,K,true⟩ :=
 ⟨sg z,A,_,c,mg z,_,rfl,hr,ahj _,rfl,rC hz,hc,sG z,qw z⟩
end
end Go.Proofs.AZQ
