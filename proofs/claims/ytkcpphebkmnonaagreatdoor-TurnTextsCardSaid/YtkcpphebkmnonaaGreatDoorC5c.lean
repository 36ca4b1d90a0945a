/- Part of a proof, said shortly. -/
import Derived.Deep.RegionWith
import Derived.Deep.DeepCutAuto
import Derived.Lib.TrailingZeros
import Derived.Shelf.Spec.TrailingZeros
import Derived.Deep.RegionHeld3
import Derived.Test.YtkcpphebkmnonaaGreatDoorAlzc
import Derived.Test.YtkcpphebkmnonaaGreatDoorC2c
import Derived.Test.YtkcpphebkmnonaaGreatDoorC1c
import Derived.Test.YtkcpphebkmnonaaGreatDoorC4c
import Derived.Test.YtkcpphebkmnonaaGreatDoorC3c
namespace Go.Proofs.BGQ
open Go Go.RowKit Lw
set_option maxHeartbeats 800000 in
theorem DK(s:Bool)(A:Option Addr)(ns:List Nat)(n c B:Nat)(w:World)(h:Rd w B A ns)(hB:B<=w.heap.size)(hn:ns.length=n)(hl:n<=16777216) :
  Calls Tryz.prog 181 #[.agg #[.bool s,.slice A n c]] w fun e w'=>e = .returned (.bool (vB s ns))/\Below w.heap.size w w':=by
 have Hn:=Lib.hid hn;clear hn
 by_cases h0:n=0
 ·subst h0
  go_enter Tryz.func181,Tryz.ntmps181
  go_wp2
  go_ret
  refine ⟨iP ?_,?_⟩
  ·unfold vB;rw [if_pos Hn.out]
  ·exact (Below.refl _ _).alloc (aoG _) _
 ·obtain ⟨b,off,rfl,hb,hcell,hlt⟩:=h.at_ (k:=n-1) (by rw [Hn.out];omega)
  have hb1:((n:Int)==0)=false:=by simp;omega
  have hbs:b<w.heap.size:=af
  go_enter Tryz.func181,Tryz.ntmps181
  go_wp2
  go_ret
  refine ⟨iP ?_,(Below.refl _ _).alloc (aoG _) _⟩;unfold vB;rw [if_neg (by rw [Hn.out];exact h0),Hn.out,Bool.eq_iff_iff,bne_iff_ne,bne_iff_ne];exact not_congr Int.ofNat_inj
set_option maxHeartbeats 800000 in
theorem Iw(s:Bool)(A:Option Addr)(ns:List Nat)(n c B:Nat)(w:World)(h:Rd w B A ns)(hB:B<=w.heap.size)(hn:ns.length=n)(hl:n<=16777216)(hc:n<=c) :
  Calls Tryz.prog 145 #[.agg #[.bool s,.slice A n c]] w fun e w' => ∃ A' c',e = .returned (.slice A' (mg (zv s ns)).length c')/\(mg (zv s ns)).length<=c'/\Rd w' B A' (mg (zv s ns))/\Below w.heap.size w w':=by
 cases hv:vB s ns
 ·have hz:Hid (zv s ns=0):=Lib.hid (by unfold zv;rw [hv];rfl)
  go_enter Tryz.func145,Tryz.ntmps145
  go_wp2_with fail
  refine (DK s A ns n c B _ (h.alloc hB _) (by simp;omega) hn hl).mono ?_;rintro e w1 ⟨rfl,hb1⟩;obtain ⟨t1,hs1,hb2⟩:=box1 hb1;obtain ⟨c10,c11,f10,f11⟩:=t1.facts
  go_wp2_with fail
  go_ret
  rw [hz.out];exact ⟨none,0,rfl,aoG _,Rd.nil_ _ _ _,hb2⟩
 ·have hz:Hid (zv s ns=if s then -(val ns:Int) else (val ns:Int)):=Lib.hid (by unfold zv;rw [hv];rfl)
  have Hv:=Lib.hid hv
  go_enter Tryz.func145,Tryz.ntmps145
  go_wp2_with fail
  refine (DK s A ns n c B _ (h.alloc hB _) (by simp;omega) hn hl).mono ?_;rintro e w1 ⟨rfl,hb1⟩;obtain ⟨t1,hs1,hb2⟩:=box1 hb1;obtain ⟨c10,c11,f10,f11⟩:=t1.facts
  go_wp2_with fail
  go_ret
  obtain ⟨e1,e2,e3⟩:=rD Hv.out hz.out h.bQ;rw [e2,hn];exact ⟨A,c,rfl,hc,h.below (hb2.mono hB),hb2⟩
set_option maxHeartbeats 800000 in
theorem Jc(s:Bool)(A:Option Addr)(ns:List Nat)(n c B:Nat)(w:World)(h:Rd w B A ns)(hB:B<=w.heap.size)(hn:ns.length=n)(hl:n<=16777216) :
  Calls Tryz.prog 146 #[.agg #[.bool s,.slice A n c]] w fun e w'=>e = .returned (.bool (sg (zv s ns)))/\Below w.heap.size w w':=by
 cases hv:vB s ns
 ·have hz:Hid (zv s ns=0):=Lib.hid (by unfold zv;rw [hv];rfl)
  go_enter Tryz.func146,Tryz.ntmps146
  go_wp2_with fail
  refine (DK s A ns n c B _ (h.alloc hB _) (by simp;omega) hn hl).mono ?_;rintro e w1 ⟨rfl,hb1⟩;obtain ⟨t1,hs1,hb2⟩:=box1 hb1;obtain ⟨c10,c11,f10,f11⟩:=t1.facts
  go_wp2_with fail
  go_ret
  rw [hz.out];exact ⟨rfl,hb2⟩
 ·have hz:Hid (zv s ns=if s then -(val ns:Int) else (val ns:Int)):=Lib.hid (by unfold zv;rw [hv];rfl)
  have Hv:=Lib.hid hv
  go_enter Tryz.func146,Tryz.ntmps146
  go_wp2_with fail
  refine (DK s A ns n c B _ (h.alloc hB _) (by simp;omega) hn hl).mono ?_;rintro e w1 ⟨rfl,hb1⟩;obtain ⟨t1,hs1,hb2⟩:=box1 hb1;obtain ⟨c10,c11,f10,f11⟩:=t1.facts
  go_wp2_with fail
  go_ret
  obtain ⟨e1,e2,e3⟩:=rD Hv.out hz.out h.bQ;exact ⟨iP e1.symm,hb2⟩
set_option maxHeartbeats 800000 in
theorem jd(A:Option Addr)(ns:List Nat)(n c B k:Nat)(w:World)(h:Rd w B A ns)(hn:ns.length=n)(_hl:n<=4294967296) :
  Calls Tryz.prog 183 #[.slice A n c,aj k] w fun e w'=>e = .returned (.int .u64 (dg ns k:Int))/\w=w':=by
 have Hn:=Lib.hid hn;clear hn
 by_cases h1:n<=k
 ·go_enter Tryz.func183,Tryz.ntmps183
  go_wp2
  go_ret
  exact ⟨eP (by rw [oP (by rw [Hn.out];exact h1)];rfl),rfl⟩
 ·obtain ⟨b,off,rfl,hb,hcell,hlt⟩:=h.at_ (k:=k) (by rw [Hn.out];omega)
  go_enter Tryz.func183,Tryz.ntmps183
  go_wp2
  go_ret
  exact ⟨rfl,rfl⟩
def sF(w:World)(N:Nat)(e:Ending)(w':World):Prop :=
 ∃ g c,e = .returned (.slice (some ⟨g,0,none⟩) (bn N).length c)/\(bn N).length<=c/\w.heap.size<=g/\bF w' g 113 (bn N)/\Below w.heap.size w w'
set_option maxHeartbeats 800000 in
theorem xB(A:Option Addr)(ns:List Nat)(n c B:Nat)(w:World)(h:Rd w B A ns)(hB:B<=w.heap.size)(hn:ns.length=n)(hl:n<=4294967296) :
  Calls Tryz.prog 153 #[.slice A n c] w (sF w (val ns)):=by
 have Hn:=Lib.hid hn;clear hn;have hown:(w.alloc (.cells #[] 113)).ownsRow w.heap.size 113 1 (.slice (some ⟨w.heap.size,0,none⟩) 0 0) 0 (arr []):=World.ownsRow_lit w #[] 0 (aoG _) (by simp [maxLen]) (by simp)
 go_enter Tryz.func153,Tryz.ntmps153
 go_wp2_with (at_builtin;refine Ba _ rfl _ _ 22 rfl w.heap.size 113 amZ iW _ 0 [] rfl hown B A ns n c rfl (h.alloc hB _) Hn.out af (by simp) ?_;intro v' w1 hown1 hgrow1 hnil)
 rw [ao3,apw] at hown1;obtain ⟨g,cc,rfl,hg,hcc,hblk⟩:=BO hown1 (by intro e;have h1:=(hnil.1 e).1;cases h1)
 have hb:Below w.heap.size w w1:=((Below.refl _ _).alloc (aoG _) _).grown hgrow1 (by simp) (fun k hk=>by
  have e:some w.heap.size=some k:=hk
  injection e with e;exact Nat.le_of_eq e)
 have hw:=h.bQ;clear hown hown1 hgrow1 hnil h
 go_loop [3] (fun v => ∃ k:Nat,k<=n/\v = .slice (some ⟨g,0,none⟩) k cc/\Hid (val (ns.take k)=val ns)) (fun v=>cnt v)
 case atStart=>exact ⟨n,aoG _,rfl,Lib.hid (by rw [<- Hn.out,ao7])⟩
 case round =>
  obtain ⟨k,hk,rfl,hv⟩:=hrel
  by_cases hk0:k=0
  ·subst hk0
   go_wp2
   go_ret
   have e:=xN hw (aoI _) hv.out (.inl rfl);exact ⟨g,cc,kz e,by rw [<- e];exact aoI _,hg,hblk.bn hw,hb⟩
  ·have hcell:=hblk.cell (i:=k-1) (by rw [Hn.out];omega)
   by_cases hd:dg ns (k-1)=0
   ·have HV:Hid (val (ns.take (k-1))=val ns):=Lib.hid (JD (by rw [Hn.out];exact hk) hk0 hv.out hd)
    go_wp2
    go_round
    case rel=>exact ⟨k-1,af,rfl,HV⟩
    case measure=>simp [cnt];omega
   ·go_wp2
    go_ret
    have e:=xN hw (by rw [Hn.out];exact hk) hv.out (.inr hd);exact ⟨g,cc,kz e,by rw [<- e];omega,hg,hblk.bn hw,hb⟩
set_option maxHeartbeats 800000 in
theorem uX(s:Bool)(A:Option Addr)(ns:List Nat)(n c B:Nat)(z:Int)(w:World)(h:Rd w B A ns)(hB:B<=w.heap.size)(hn:ns.length=n)(hl:n<=4294967296)(hz:z=if s then -(val ns:Int) else (val ns:Int)) :
  Calls Tryz.prog 143 #[.bool s,.slice A n c] w (jD w z):=by
 have HZ:=Lib.hid hz;clear hz
 go_enter Tryz.func143,Tryz.ntmps143
 go_wp2_with fail
 refine (xB A ns n c B _ (h.alloc hB _) (by simp;omega) hn hl).mono ?_;rintro e w1 ⟨g,c1,rfl,hc1,hg,hblk,hb1⟩;obtain ⟨t1,hs1,hb2⟩:=box1 hb1;obtain ⟨c10,c11,f10,f11⟩:=t1.facts;have hr:=hblk.rd (dK _);clear h
 by_cases h0:val ns=0
 ·have e0:(bn (val ns)).length=0:=by rw [h0];rfl
  have ez:z=0:=by rw [HZ.out,h0];split <;> rfl
  have hbq:(((bn (val ns)).length:Int)==0)=true:=by rw [e0];rfl
  clear e0 h0 HZ hn;subst ez
  go_wp2_with fail
  refine bodyPost_ret (v := .agg #[.bool (sg 0),.slice none 0 0]) (by simp [results,Tryz.results143,go_sem,c10,c11,aeM]) rfl ?_;exact ⟨none,0,rfl,aoG _,Rd.nil_ _ _ _,(hb2.setCell (aoG _) _).setCell (aoG _) _⟩
 ·have hbq:(((bn (val ns)).length:Int)==0)=false:=by
   rw [beq_eq_false_iff_ne];intro e;exact h0 (iL.1 (aoU af))
  have Hz:Hid (sg z=s/\mg z=bn (val ns)):=Lib.hid (SE h0 HZ.out);clear h0 HZ hn
  go_wp2_with fail
  refine bodyPost_ret (v := .agg #[.bool s,.slice (some ⟨g,0,none⟩) (bn (val ns)).length c1]) (by simp [results,Tryz.results143,go_sem,c10,c11]) rfl ?_;have:=fZ (z:=z) (c':=c1) t1 (by rw [Hz.out.2];exact hr) (aoG _) (by rw [Hz.out.2];exact hc1) hb2 (aoG _);rw [Hz.out.1,Hz.out.2] at this;exact this
theorem LQ(w:World)(t:TypeId){o:Obj}{a b:Int}{x y:Nat}(ha:a=x)(hb:b=y):bF ((w.alloc o).alloc (.cells #[.int .u32 a,.int .u32 b] t)) (w.heap.size+1) t [x,y]:=by
 have:=LP (w.alloc o) t ha hb
 simp_all
set_option maxHeartbeats 800000 in
theorem adv(z:Int)(w:World)(h1 : -9223372036854775808<=z)(h2:z<=9223372036854775807) :
  Calls Tryz.prog 104 #[.int .i64 z] w (jD w z):=by
 by_cases h0:z<0
 ·obtain ⟨D,N,hD,hN,zu,hNl,hDl⟩:=Uh h1 h0
  have HN:=Lib.hid zu;clear zu;have hblk:=LQ w 113 (o := .cells #[.bool false,.slice none 0 0] 79) (a:=(N:Int)%4294967296) (b:=(N:Int)/4294967296) (x:=N%4294967296) (y:=N/4294967296) af af;have hw:bJ [N%4294967296,N/4294967296]:=JX af af;have hz:Hid (z=if true then -(val [N%4294967296,N/4294967296]:Int) else (val [N%4294967296,N/4294967296]:Int)):=Lib.hid (by rw [HN.out,val_two];simp;omega)
  go_enter Tryz.func104,Tryz.ntmps104
  go_wp2_with fail
  refine (uX true _ [N%4294967296,N/4294967296] 2 2 _ z _ (hblk.rd hw) (aoG _) rfl af hz.out).mono ?_;rintro e w2 ⟨A2,c2,rfl,hc2,hr2,hb3⟩;have t1:=((Two.new w 79 (.bool false) (.slice none 0 0)).alloc (.cells #[.int .u32 ((N:Int)%4294967296),.int .u32 ((N:Int)/4294967296)] 113)).next hb3;have hb2:=bK (((Below.refl w.heap.size w).alloc (aoG _) (.cells #[.bool false,.slice none 0 0] 79)).alloc (by simp) (.cells #[.int .u32 ((N:Int)%4294967296),.int .u32 ((N:Int)/4294967296)] 113)) hb3 (by simp);obtain ⟨d0,d1,g0,g1⟩:=t1.facts
  go_wp2_with fail
  refine bodyPost_ret (v := .agg #[.bool (sg z),.slice A2 (mg z).length c2]) (by simp [results,Tryz.results104,go_sem,d0,d1]) rfl ?_;exact fZ t1 hr2 (aoG _) hc2 hb2 (aoG _)
 ·obtain ⟨N,rfl⟩:=apq (show 0<=z from af)
  have hblk:=LQ w 113 (o := .cells #[.bool false,.slice none 0 0] 79) (a:=(N:Int)%4294967296) (b:=(N:Int)/4294967296) (x:=N%4294967296) (y:=N/4294967296) af af;have hw:bJ [N%4294967296,N/4294967296]:=JX af af;have hz:Hid ((N:Int)=if false then -(val [N%4294967296,N/4294967296]:Int) else (val [N%4294967296,N/4294967296]:Int)):=Lib.hid (by rw [val_two];simp;omega)
  go_enter Tryz.func104,Tryz.ntmps104
  go_wp2_with fail
  refine (uX false _ [N%4294967296,N/4294967296] 2 2 _ (N:Int) _ (hblk.rd hw) (aoG _) rfl af hz.out).mono ?_;rintro e w2 ⟨A2,c2,rfl,hc2,hr2,hb3⟩;have t1:=((Two.new w 79 (.bool false) (.slice none 0 0)).alloc (.cells #[.int .u32 ((N:Int)%4294967296),.int .u32 ((N:Int)/4294967296)] 113)).next hb3;have hb2:=bK (((Below.refl w.heap.size w).alloc (aoG _) (.cells #[.bool false,.slice none 0 0] 79)).alloc (by simp) (.cells #[.int .u32 ((N:Int)%4294967296),.int .u32 ((N:Int)/4294967296)] 113)) hb3 (by simp);obtain ⟨d0,d1,g0,g1⟩:=t1.facts
  go_wp2_with fail
  refine bodyPost_ret (v := .agg #[.bool (sg (N:Int)),.slice A2 (mg (N:Int)).length c2]) (by simp [results,Tryz.results104,go_sem,d0,d1]) rfl ?_;exact fZ t1 hr2 (aoG _) hc2 hb2 (aoG _)
end Go.Proofs.BGQ
namespace Lw
open Go
def hv:Nat->Nat->Nat
 | 0,_=>0
 | f+1,x=>if x=0 then 0 else hv f (x/2)+1
theorem aaw(f x:Nat):hv f x=Lib.bitLenAux f x:=by
 induction f generalizing x with
 | zero=>rfl
 | succ f ih=>unfold hv Lib.bitLenAux;rw [ih];split <;> omega
theorem aay(f:Nat):hv f 0=0:=by cases f <;> simp [hv]
theorem aax{f x:Nat}(h:x<2^f)(h0:x≠0) : ∃ f',f=f'+1/\hv f x=hv f' (x/2)+1/\x/2<2^f':=by
 cases f with
 | zero=>simp at h;omega
 | succ f=>exact ⟨f,rfl,by rw [hv,if_neg h0],by rw [aoY] at h;omega⟩
end Lw
namespace Go.Proofs.BGQ
open Go Go.RowKit Lw
set_option maxHeartbeats 1600000 in
theorem QW(s:Bool)(A:Option Addr)(ns:List Nat)(n c B:Nat)(w:World)(h:Rd w B A ns)(hB:B<=w.heap.size)(hn:ns.length=n)(hl:n<=16777216)(hc:n<=c) :
  Calls Tryz.prog 100 #[.agg #[.bool s,.slice A n c]] w fun e w'=>e = .returned (.int .i64 (dD (zv s ns)))/\Below w.heap.size w w':=by
 have hlz:=ji (s:=s) h.bQ;rw [hn] at hlz;have hk:=fun W hR hB'=>Iw s A ns n c B W hR hB' hn hl hc;have hk':=fun W hR hB'=>Jc s A ns n c B W hR hB' hn hl;generalize zv s ns=z at *;have Hk:=Lib.hid hk;have FD:=Lib.hid hk';clear hk hk'
 go_enter Tryz.func100,Tryz.ntmps100
 go_wp2_with fail
 refine (Hk.out _ (h.alloc hB _) (by simp;omega)).mono ?_;rintro e w1 ⟨A1,c1,rfl,hc1,hr1,hb1⟩;obtain ⟨t1,hs1,hb2⟩:=box1 hb1;obtain ⟨c10,c11,f10,f11⟩:=t1.facts
 by_cases h0:(mg z).length=0
 ·have HZ:Hid (0=dD z):=Lib.hid (by rw [kW.1 h0];rfl)
  have hbq:(((mg z).length:Int)==0)=true:=by rw [beq_iff_eq];omega
  clear h0
  go_wp2_with fail
  go_ret
  exact ⟨eP HZ.out,hb2⟩
 ·have hne:z≠0:=fun e=>h0 (kW.2 e)
  have hbq:(((mg z).length:Int)==0)=false:=by rw [beq_eq_false_iff_ne];omega
  have H0:=Lib.hid hne;clear h0 hne
  go_wp2_with fail
  refine (FD.out _ (h.below (hb2.mono hB)) af).mono ?_;rintro e w2 ⟨rfl,hb3⟩;have hb4:=bK hb2 hb3 af
  cases hsg:sg z
  ·have HZ:Hid (1=dD z):=Lib.hid (by have:=AP hsg;have:=H0.out;unfold dD;rw [if_neg af,if_neg af])
   go_wp2_with fail
   go_ret
   exact ⟨eP HZ.out,hb4⟩
  ·have HZ:Hid (-1=dD z):=Lib.hid (by have:=uo hsg;unfold dD;rw [if_pos af])
   go_wp2_with fail
   go_ret
   exact ⟨eP HZ.out,hb4⟩
set_option maxHeartbeats 1600000 in
theorem ado(A:Option Addr)(ns:List Nat)(n c B:Nat)(w:World)(h:Rd w B A ns)(hn:ns.length=n)(hl:n<=16777216) :
  Calls Tryz.prog 194 #[.slice A n c] w fun e w'=>e = .returned (.int .i64 (nJ ns))/\w=w':=by
 have Hn:=Lib.hid hn;clear hn
 by_cases h0:n=0
 ·have HN:Hid (0=nJ ns):=Lib.hid (by unfold nJ;rw [if_pos (by rw [Hn.out];exact h0)])
  subst h0
  go_enter Tryz.func194,Tryz.ntmps194
  go_wp2_with fail
  go_ret
  exact ⟨eP (by rw [<- HN.out];rfl),rfl⟩
 ·obtain ⟨b,off,rfl,hb,hcell,hlt⟩:=h.at_ (k:=n-1) (by rw [Hn.out];omega)
  have hbq:((n:Int)==0)=false:=by rw [beq_eq_false_iff_ne];omega
  have hx0:=hlt;have HN:Hid ((n-1)*32+Lib.bitLen (dg ns (n-1))=nJ ns):=Lib.hid (by unfold nJ;rw [if_neg (by rw [Hn.out];exact h0),Hn.out]);generalize dg ns (n-1)=X at *;have hX:Hid (hv 64 X=Lib.bitLen X):=Lib.hid (aaw 64 X)
  go_enter Tryz.func194,Tryz.ntmps194
  go_wp2_with fail
  go_loop [3,4] (fun v i => ∃ f x k:Nat,Hid (x<2^f)/\x<4294967296/\i = .int .u32 x/\v = .int .i64 (32*((n:Int)-1)+(k:Int))/\k<=64/\Hid (k+hv f x=Lib.bitLen X)/\k+f=64) (fun _ i=>(intOf i).toNat)
  case atStart=>exact ⟨64,X,0,Lib.hid af,hx0,rfl,by go_num,af,Lib.hid (by rw [apw];exact hX.out),rfl⟩
  case round =>
   obtain ⟨f,x,k,OZ,hx,rfl,rfl,hk,hv1,hkf⟩:=hrel
   by_cases hx1:x=0
   ·subst hx1
    have HE:Hid (k=Lib.bitLen X):=Lib.hid (by rw [<- hv1.out,aay];rfl)
    go_wp2_with fail
    go_ret
    exact ⟨eP (by rw [<- HN.out,<- HE.out];omega),rfl⟩
   ·obtain ⟨f',rfl,hs,hs2⟩:=aax OZ.out hx1
    have HS:=Lib.hid hs;have HS2:Hid (x/2<2^f'):=Lib.hid hs2;clear hs hs2 OZ
    go_wp2_with fail
    go_round
    case rel=>exact ⟨f',x/2,k+1,HS2,af,by go_num,by go_num,af,Lib.hid (by have:=hv1.out;rw [HS.out] at this;omega),af⟩
    case measure=>simp [intOf];omega
end Go.Proofs.BGQ
namespace Lw
open Go Go.RowKit
theorem afo{l:List Nat}(h:dR l)(hl:0<l.length):dg l (l.length-1)≠0 :=
 h _ (by rw [ap0,sG af])
theorem mO(z:Int):vB (sg z) (mg z)=true:=by
 unfold vB
 by_cases h:(mg z).length=0
 ·rw [if_pos h]
  have:=kW.1 h;subst this;rfl
 ·rw [if_neg h]
  have:=afo (tK z) af;grind
theorem og(z:Int):zv (sg z) (mg z)=z:=by
 unfold zv;rw [if_pos (mO z)];exact (ru z).symm
theorem pq{z:Int}{k:Nat}(h:z.natAbs<pw k):(mg z).length<=k:=fD h
end Lw
namespace Lw
open Go Go.RowKit
structure Wh where
 s:Bool
 A:Option Addr
 n:Nat
 c:Nat
def Wh.cells(a:Wh):List Value:=[.bool a.s,.slice a.A a.n a.c]
end Lw
namespace Lw
open Go Go.RowKit
structure En where
 v:Value
 z:Int
 k:Nat
 b:Bool
def dB(w:World)(e:En):Prop := ∃ (s:Bool) (A:Option Addr) (n c:Nat) (ns:List Nat) (B:Nat),e.v = .agg #[.bool s,.slice A n c]/\Rd w B A ns/\B<=w.heap.size/\ns.length=n/\n<=e.k/\n<=c/\zv s ns=e.z/\vB s ns=e.b
theorem dB.next{w w':World}{e:En}(h:dB w e)(hb:Below w.heap.size w w'):dB w' e:=by
 obtain ⟨s,A,n,c,ns,B,h1,h2,h3,h4⟩:=h;exact ⟨s,A,n,c,ns,B,h1,h2.next hb h3,aoH h3 hb.size,h4⟩
theorem dB.lt{w:World}{e:En}(h:dB w e):e.z.natAbs<pw e.k:=by
 obtain ⟨s,A,n,c,ns,B,h1,h2,h3,h4,h5,h6,h7,h8⟩:=h;rw [<- h7];exact ao0 (Ey s ns) (aoK (eu h2.bQ) (dU af))
theorem vO{x y:Int}{k k':Nat}(h:x.natAbs<pw k)(h':y.natAbs<pw k'):(x+y).natAbs<pw (k+k'+1):=by
 have h1:pw k<=pw (k+k'):=dU af;have h2:pw k'<=pw (k+k'):=dU af;have h3:pw (k+k'+1)=pw (k+k')*4294967296:=by unfold pw;rw [aoY]
 omega
theorem PR{x y:Int}{k k':Nat}(h:x.natAbs<pw k)(h':y.natAbs<pw k'):(x-y).natAbs<pw (k+k'+1):=by
 have:=vO h (y := -y) (by simpa using h');omega
theorem lt_mul{x y:Int}{k k':Nat}(h:x.natAbs<pw k)(h':y.natAbs<pw k'):(x*y).natAbs<pw (k+k'+1):=by
 rw [apr];have h1:x.natAbs*y.natAbs<pw k*pw k':=Nat.mul_lt_mul_of_le_of_lt (aoZ h) h' af;have h2:pw k*pw k'=pw (k+k'):=by unfold pw;rw [apb]
 have h3:pw (k+k')<=pw (k+k'+1):=dU af;omega
structure Bx where
 g:Nat
 x:Value
 y:Value
structure Env(t:TypeId)(W0 w:World)(bs:List Bx)(L:List En):Prop where
 ops : ∀ e∈L,dB w e
 box : ∀ b∈bs,Two w b.g t b.x b.y
 below:Below W0.heap.size W0 w
variable {t:TypeId} {W0 w w':World} {bs:List Bx} {L:List En}
theorem Env.next(h:Env t W0 w bs L)(hb:Below w.heap.size w w'):Env t W0 w' bs L :=
 ⟨fun e he=>(h.ops e he).next hb,fun b hb'=>(h.box b hb').next hb,bK h.below hb (aoG _)⟩
theorem Env.drew(h:Env t W0 w bs L):Env t W0 w.drew bs L:=h.next (Below.refl _ w).drew
theorem Env.cons(h:Env t W0 w bs L){e:En}(he:dB w e):Env t W0 w bs (e::L) :=
 ⟨fun e' h'=>by
  rcases List.mem_cons.1 h' with rfl | h'
  ·exact he
  ·exact h.ops e' h',h.box,h.below⟩
theorem Env.tail{e:En}(h:Env t W0 w bs (e::L)):Env t W0 w bs L:=⟨fun e' h'=>h.ops e' (.tail _ h'),h.box,h.below⟩
theorem Env.nil_(h:Env t W0 w bs L):Env t W0 w bs (⟨.agg #[.bool false,.slice none 0 0],0,0,true⟩::L) :=
 h.cons ⟨false,none,0,0,[],0,rfl,Rd.nil_ _ _ _,aoI _,rfl,aoG _,aoG _,rfl,rfl⟩
theorem Env.cells3{g1 g2 g3:Nat}{x1 y1 x2 y2 x3 y3:Value}(h:Env t W0 w [⟨g1,x1,y1⟩,⟨g2,x2,y2⟩,⟨g3,x3,y3⟩] L) :
  w.cell? ⟨g1,0,none⟩=some x1/\w.cell? ⟨g1,1,none⟩=some y1/\w.cell? ⟨g2,0,none⟩=some x2/\w.cell? ⟨g2,1,none⟩=some y2/\w.cell? ⟨g3,0,none⟩=some x3/\w.cell? ⟨g3,1,none⟩=some y3:=by
 obtain ⟨a1,a2,_,_⟩:=(h.box _ ak).facts;obtain ⟨b1,b2,_,_⟩:=(h.box _ au).facts;obtain ⟨c1,c2,_,_⟩:=(h.box _ ay).facts;exact ⟨a1,a2,b1,b2,c1,c2⟩
theorem Env.cells2{g1 g2:Nat}{x1 y1 x2 y2:Value}(h:Env t W0 w [⟨g1,x1,y1⟩,⟨g2,x2,y2⟩] L) :
  w.cell? ⟨g1,0,none⟩=some x1/\w.cell? ⟨g1,1,none⟩=some y1/\w.cell? ⟨g2,0,none⟩=some x2/\w.cell? ⟨g2,1,none⟩=some y2:=by
 obtain ⟨a1,a2,_,_⟩:=(h.box _ ak).facts;obtain ⟨b1,b2,_,_⟩:=(h.box _ au).facts;exact ⟨a1,a2,b1,b2⟩
theorem dB.new{w W:World}{s:Bool}{A:Option Addr}{n c:Nat}{l:List Nat}(r:Rd w w.heap.size A l)(hb:Below w.heap.size w W)(h:l.length=n)(hn:n<=30)(hc:n<=c):dB W ⟨.agg #[.bool s,.slice A n c],zv s l,30,vB s l⟩ :=
 ⟨s,A,n,c,l,_,rfl,r.below hb,hb.size,h,hn,hc,rfl,rfl⟩
end Lw
namespace Go.Proofs.BGQ
open Go Go.RowKit Lw
section
variable {t:TypeId} {W0 w:World} {bs:List Bx} {L:List En} {v v':Value} {x y:Int} {k k':Nat} {b b':Bool}
theorem rH{z:Int}{K:Nat}{e:Ending}{w':World}(HE:Env t W0 w bs L)(h:jD w z e w')(hz:z.natAbs<pw K) : ∃ u,e = .returned u/\Env t W0 w' bs (⟨u,z,K,true⟩::L):=by
 obtain ⟨A,c,rfl,hc,hr,hb⟩:=h;exact ⟨_,rfl,(HE.next hb).cons ⟨sg z,A,_,c,mg z,_,rfl,hr,aoG _,rfl,pq hz,hc,og z,mO z⟩⟩
theorem VW(HE:Env t W0 w bs L)(h:⟨v,x,k,b⟩∈L)(h':⟨v',y,k',b'⟩∈L)(hk:k+k'<=100000) :
  Calls Tryz.prog 70 #[v,v'] w fun e w' => ∃ u,e = .returned u/\Env t W0 w' bs (⟨u,x+y,k+k'+1,true⟩::L):=by
 have H1:=HE.ops _ h;have H2:=HE.ops _ h';have hz:=vO H1.lt H2.lt;obtain ⟨s,A,n,c,ns,B,e1,h2,h3,h4,h5,h6,e7,h8⟩:=H1;obtain ⟨s',A',n',c',ns',B',e1',h2',h3',h4',h5',h6',dZ,h8'⟩:=H2;dsimp only at e1 e7 e1' dZ h5 h5' hz;subst e1 e1' e7 dZ;exact (V5 s s' A A' ns ns' n n' c c' B B' w h2 h2' h3 h3' h4 h4' af af h6 h6').mono fun e w' hh=>rH HE hh hz
theorem ae1(HE:Env t W0 w bs L)(h:⟨v,x,k,b⟩∈L)(h':⟨v',y,k',b'⟩∈L)(hk:k+k'<=100000) :
  Calls Tryz.prog 128 #[v,v'] w fun e w' => ∃ u,e = .returned u/\Env t W0 w' bs (⟨u,x-y,k+k'+1,true⟩::L):=by
 have H1:=HE.ops _ h;have H2:=HE.ops _ h';have hz:=PR H1.lt H2.lt;obtain ⟨s,A,n,c,ns,B,e1,h2,h3,h4,h5,h6,e7,h8⟩:=H1;obtain ⟨s',A',n',c',ns',B',e1',h2',h3',h4',h5',h6',dZ,h8'⟩:=H2;dsimp only at e1 e7 e1' dZ h5 h5' hz;subst e1 e1' e7 dZ;exact (ae4 s s' A A' ns ns' n n' c c' B B' w h2 h2' h3 h3' h4 h4' af af h6 h6').mono fun e w' hh=>rH HE hh hz
theorem abb(HE:Env t W0 w bs L)(h:⟨v,x,k,b⟩∈L)(h':⟨v',y,k',b'⟩∈L)(hk:k+k'<=100000) :
  Calls Tryz.prog 69 #[v,v'] w fun e w' => ∃ u,e = .returned u/\Env t W0 w' bs (⟨u,x*y,k+k'+1,true⟩::L):=by
 have H1:=HE.ops _ h;have H2:=HE.ops _ h';have hz:=lt_mul H1.lt H2.lt;obtain ⟨s,A,n,c,ns,B,e1,h2,h3,h4,h5,h6,e7,h8⟩:=H1;obtain ⟨s',A',n',c',ns',B',e1',h2',h3',h4',h5',h6',dZ,h8'⟩:=H2;dsimp only at e1 e7 e1' dZ h5 h5' hz;subst e1 e1' e7 dZ;exact (abg s s' A A' ns ns' n n' c c' B B' w h2 h2' h3 h3' h4 h4' af af h6 h6').mono fun e w' hh=>rH HE hh hz
theorem abK(HE:Env t W0 w bs L)(h:⟨v,x,k,b⟩∈L)(hk:k<=100000) :
  Calls Tryz.prog 89 #[v] w fun e w' => ∃ u,e = .returned u/\Env t W0 w' bs (⟨u,-x,k,true⟩::L):=by
 have H1:=HE.ops _ h;have hz:(-x).natAbs<pw k:=by have:=H1.lt;simpa using this
 obtain ⟨s,A,n,c,ns,B,e1,h2,h3,h4,h5,h6,e7,h8⟩:=H1;dsimp only at e1 e7 h5;subst e1 e7;exact (abH s A ns n c B w h2 h3 h4 af h6).mono fun e w' hh=>rH HE hh hz
theorem aeW(HE:Env t W0 w bs L)(h:⟨v,x,k,b⟩∈L)(hk:k<=100000) :
  Calls Tryz.prog 72 #[v] w fun e w'=>e = .returned (.int .i64 (dD x))/\Env t W0 w' bs L:=by
 obtain ⟨s,A,n,c,ns,B,e1,h2,h3,h4,h5,h6,e7,h8⟩:=HE.ops _ h;dsimp only at e1 e7 h5;subst e1 e7;exact (aeU s A ns n c B w h2 h3 h4 af h6).mono fun e w' hh=>⟨hh.1,HE.next hh.2⟩
end
end Go.Proofs.BGQ
namespace Lw
open Go Go.RowKit
theorem PN{z:Int}(h1 : -9223372036854775808<=z)(h2:z<=9223372036854775807):z.natAbs<pw 2:=by
 have:pw 2=18446744073709551616:=rfl;omega
end Lw
namespace Go.Proofs.BGQ
open Go Go.RowKit Lw
section
variable {t:TypeId} {W0 w:World} {bs:List Bx} {L:List En} {v v':Value} {x y:Int} {k k':Nat} {b b':Bool}
theorem QX(HE:Env t W0 w bs L)(h:⟨v,x,k,b⟩∈L)(hk:k<=100000) :
  Calls Tryz.prog 100 #[v] w fun e w'=>e = .returned (.int .i64 (dD x))/\Env t W0 w' bs L:=by
 obtain ⟨s,A,n,c,ns,B,e1,h2,h3,h4,h5,h6,e7,h8⟩:=HE.ops _ h;dsimp only at e1 e7 h5;subst e1 e7;exact (QW s A ns n c B w h2 h3 h4 af h6).mono fun e w' hh=>⟨hh.1,HE.next hh.2⟩
theorem ab1{z:Int}(HE:Env t W0 w bs L)(h1 : -9223372036854775808<=z)(h2:z<=9223372036854775807) :
  Calls Tryz.prog 121 #[.int .i64 z] w fun e w' => ∃ u,e = .returned u/\Env t W0 w' bs (⟨u,z,2,true⟩::L) :=
 (abZ z w h1 h2).mono fun _ _ hh=>rH HE hh (PN h1 h2)
theorem adw{z:Int}(HE:Env t W0 w bs L)(h1 : -9223372036854775808<=z)(h2:z<=9223372036854775807) :
  Calls Tryz.prog 104 #[.int .i64 z] w fun e w' => ∃ u,e = .returned u/\Env t W0 w' bs (⟨u,z,2,true⟩::L) :=
 (adv z w h1 h2).mono fun _ _ hh=>rH HE hh (PN h1 h2)
end
end Go.Proofs.BGQ
namespace Lw
open Go Go.RowKit
theorem Env.BM{t:TypeId}{W0 w:World}{bs:List Bx}{L:List En}(h:Env t W0 w bs L)(x y:Value):Env t W0 (w.alloc (.cells #[x,y] t)) (⟨w.heap.size,x,y⟩::bs) L :=
 have h2:=h.next ((Below.refl _ w).alloc (aoG _) (.cells #[x,y] t))
 ⟨h2.ops,fun b hb=>by
  rcases List.mem_cons.1 hb with rfl | hb
  ·exact Two.new w t x y
  ·exact h2.box b hb,h2.below⟩
theorem dB.put{t:TypeId}{w:World}{g n c:Nat}{s:Bool}{X:Option Addr}{e:En}(h:dB w e)(h2:Two w g t (.bool s) (.slice X n c))(s':Bool)(v:Value) :
  dB ((w.setCell ⟨g,0,none⟩ (.bool s')).setCell ⟨g,1,none⟩ v) e:=by
 obtain ⟨a,A,m,d,ns,B,e1,h3,h4,h5,h6,h7,e7,h8⟩:=h;exact ⟨a,A,m,d,ns,B,e1,h3.gG h2 s' v,by simpa using h4,h5,h6,h7,e7,h8⟩
theorem Env.put{t:TypeId}{W0 w:World}{bs:List Bx}{L:List En}{g n c:Nat}{s:Bool}{X:Option Addr}(h:Env t W0 w (⟨g,.bool s,.slice X n c⟩::bs) L)(hg:W0.heap.size<=g)(hd : ∀ b∈bs,b.g≠g)(s':Bool)(v:Value) :
  Env t W0 ((w.setCell ⟨g,0,none⟩ (.bool s')).setCell ⟨g,1,none⟩ v) (⟨g,.bool s',v⟩::bs) L :=
 ⟨fun e he=>(h.ops e he).put (h.box _ ak) s' v,fun b hb=>by
  rcases List.mem_cons.1 hb with rfl | hb
  ·exact (h.box _ ak).put _ _
  ·exact ((h.box b (.tail _ hb)).far (p:=⟨g,0,none⟩) (hd b hb) _).far (p:=⟨g,1,none⟩) (hd b hb) _,
  (h.below.setCell (p:=⟨g,0,none⟩) hg _).setCell (p:=⟨g,1,none⟩) hg _⟩
theorem Env.afK{t:TypeId}{W0 w:World}{b:Bx}{bs:List Bx}{L:List En}(h:Env t W0 w (b::bs) L):Env t W0 w bs L:=⟨h.ops,fun b' hb=>h.box b' (.tail _ hb),h.below⟩
theorem Env.top{t:TypeId}{W0 w:World}{g:Nat}{x y:Value}{bs:List Bx}{L:List En}(h:Env t W0 w (⟨g,x,y⟩::bs) L) :
  w.cell? ⟨g,0,none⟩=some x/\w.cell? ⟨g,1,none⟩=some y/\w.frozen? ⟨g,0,none⟩=false/\w.frozen? ⟨g,1,none⟩=false:=(h.box _ ak).facts
end Lw
namespace Go.Proofs.BGQ
open Go Go.RowKit Lw
theorem Ws(z:Int)(w:World):Sem.run Tryz.prog (Instr.typeAssert (.iface 88 (.int .i64 z)) 30 88 true) w = .ok (.tuple #[.int .i64 z,.bool true]) w:=ah
set_option maxRecDepth 100000 in
set_option maxHeartbeats 800000 in
theorem abX(w:World):Calls Tryz.prog 18 #[.nilIface] w fun e w'=>e = .returned (.int .i64 0)/\w=w':=by
 go_enter Tryz.func18,Tryz.ntmps18
 go_wp2
 go_ret
 exact ⟨rfl,rfl⟩
set_option maxRecDepth 100000 in
set_option maxHeartbeats 800000 in
theorem abW(z:Int)(w:World):Calls Tryz.prog 18 #[.iface 88 (.int .i64 z)] w fun e w'=>e = .returned (.int .i64 z)/\w=w':=by
 go_enter Tryz.func18,Tryz.ntmps18
 have ha:=Ws z w
 go_wp2
 go_ret
 exact ⟨rfl,rfl⟩
end Go.Proofs.BGQ
namespace Lw
theorem ug(a:Rat):(-a).num = -a.num/\(-a).den=a.den:=⟨rfl,rfl⟩
end Lw
namespace Lw
open Go
def tz(x:Nat):Nat:=Lib.ctz 64 x
theorem Eg{x:Nat}(h0:x≠0)(h:x<18446744073709551616) : ∃ m,x=2^tz x*(2*m+1)/\tz x<64:=by
 unfold tz Lib.ctz;rw [if_neg h0];exact Lib.ctzFrom_spec 64 x af h
theorem Af(m k:Nat):Nat.Coprime (2^k) (2*m+1):=by
 apply Nat.Coprime.pow_left;unfold Nat.Coprime
 simp_all
theorem IM{j k m:Nat}(h:2^j ∣ 2^k*(2*m+1)):j<=k:=by
 have h1:2^j ∣ 2^k:=Nat.Coprime.dvd_of_dvd_mul_right (Af m j) h;exact (Nat.pow_dvd_pow_iff_le_right af).1 h1
theorem Qm{j x y:Nat} : 2^j ∣ (x ||| y)↔2^j ∣ x/\2^j ∣ y:=by
 rw [Nat.dvd_iff_mod_eq_zero,Nat.dvd_iff_mod_eq_zero,Nat.dvd_iff_mod_eq_zero,Nat.or_mod_two_pow,Nat.or_eq_zero_iff]
theorem SK{x m:Nat}(h:x=2^tz x*(2*m+1)):x/2^tz x=2*m+1:=by
 have hp:0<2^tz x:=by grind
 generalize 2^tz x=P at *
 simp_all
theorem Y8{x y:Nat}(hx:x≠0)(hy:y≠0)(hxl:x<18446744073709551616)(hyl:y<18446744073709551616) :
  Nat.gcd x y=Nat.gcd (x/2^tz x) y*2^tz (x ||| y)/\(x/2^tz x)%2=1/\tz x<64/\tz (x ||| y)<64/\x ||| y<18446744073709551616:=by
 have ho:x ||| y≠0:=fun e=>hx (Nat.or_eq_zero_iff.1 e).1
 have hol:x ||| y<18446744073709551616:=Nat.or_lt_two_pow (n:=64) hxl hyl
 obtain ⟨a,ha,hal⟩:=Eg hx hxl;obtain ⟨b,hb,hbl⟩:=Eg hy hyl;obtain ⟨c,hc,hcl⟩:=Eg ho hol;have e1:=SK ha;have hd:2^tz (x ||| y) ∣ (x ||| y):=⟨_,hc⟩;obtain ⟨d1,d2⟩:=Qm.1 hd;have l1:tz (x ||| y)<=tz x:=IM (m:=a) (by rw [<- ha];exact d1);have l2:tz (x ||| y)<=tz y:=IM (m:=b) (by rw [<- hb];exact d2)
 have l3:¬ (tz (x ||| y)+1<=tz x/\tz (x ||| y)+1<=tz y):=by
  rintro ⟨k1,k2⟩;have f1:2^(tz (x ||| y)+1) ∣ x:=Nat.dvd_trans (Nat.pow_dvd_pow 2 k1) ⟨_,ha⟩;have f2:2^(tz (x ||| y)+1) ∣ y:=Nat.dvd_trans (Nat.pow_dvd_pow 2 k2) ⟨_,hb⟩;have:=IM (m:=c) (j:=tz (x ||| y)+1) (k:=tz (x ||| y)) (by rw [<- hc];exact Qm.2 ⟨f1,f2⟩);omega
 refine ⟨?_,by rw [e1];omega,hal,hcl,hol⟩;rw [e1];generalize tz (x ||| y)=t at *;clear hd d1 d2 e1 hc ho hol;generalize tz x=i at *;generalize tz y=j at *;subst ha hb;rw [Nat.Coprime.gcd_mul_left_cancel_right _ (Af a j)];rcases aoM t i with h1 | h1
 ·obtain rfl:j=t:=af
  obtain ⟨k,rfl⟩:=Nat.exists_eq_add_of_le l1;rw [apb,aoV,Nat.gcd_mul_left,aoR]
  congr 1
  exact Nat.Coprime.gcd_mul_left_cancel _ (Af b k)
 ·obtain rfl:i=t:=af
  obtain ⟨k,rfl⟩:=Nat.exists_eq_add_of_le l2;rw [apb,aoV,Nat.gcd_mul_left,aoR]
  congr 1
  exact Nat.Coprime.gcd_mul_left_cancel_right _ (Af a k)
theorem abY{x:Nat}(h:x%2=1):x=2*(x/2)+1:=af
theorem Y7{x y:Nat}(hx:x%2=1)(hy:y≠0)(hyl:y<18446744073709551616) :
  Nat.gcd x (y/2^tz y)=Nat.gcd x y/\(y/2^tz y)%2=1/\y/2^tz y<=y/\tz y<64:=by
 obtain ⟨b,hb,hbl⟩:=Eg hy hyl;have e:=SK hb;refine ⟨?_,by rw [e];omega,ao4 _ _,hbl⟩;rw [e]
 conv=>rhs;rw [hb]
 rw [abY hx,Nat.Coprime.gcd_mul_left_cancel_right _ (Af _ _)]
theorem NQ{x y:Nat}(h:x<=y):Nat.gcd x (y-x)=Nat.gcd x y:=Nat.gcd_sub_self_right h
end Lw
namespace Lw
theorem Ci{n d:Int}(hd:0<d):(Rat.divInt n d).num.natAbs<=n.natAbs/\(Rat.divInt n d).den<=d.natAbs:=by
 constructor
 ·rw [apH,aqf hd,Int.one_mul];exact Int.natAbs_ediv_le_natAbs _ _
 ·rw [apJ,if_neg af];exact ao4 _ _
theorem den_pos(a:Rat):(0:Int)<(a.den:Int):=by have:=a.den_pos;omega
theorem qF(a:Rat):(a.den:Int)≠0:=by have:=den_pos a;omega
theorem LC(a b:Rat):a+b=Rat.divInt (a.num*b.den+b.num*a.den) (a.den*b.den):=by
 conv=>lhs;rw [<- aps a,<- aps b]
 rw [Rat.divInt_add_divInt _ _ (qF a) (qF b)]
theorem VV(a b:Rat):(a+b).num.natAbs<=a.num.natAbs*b.den+b.num.natAbs*a.den/\(a+b).den<=a.den*b.den:=by
 have h:=Ci (n:=a.num*b.den+b.num*a.den) (Int.mul_pos (den_pos a) (den_pos b));rw [<- LC,apr,aoL,aoL] at h;refine ⟨aoH h.1 (aoH (Int.natAbs_add_le _ _) ?_),h.2⟩;rw [apr,apr,aoL,aoL];omega
theorem I7{n d g:Int}(hd:0<d)(hg:g=(Nat.gcd n.natAbs d.natAbs:Nat)):(Rat.divInt n d).num=n/g/\((Rat.divInt n d).den:Int)=d/g/\g≠0:=by
 have p1:0<Nat.gcd n.natAbs d.natAbs:=by grind
 have e:Int.gcd d n=Nat.gcd n.natAbs d.natAbs:=Int.gcd_comm d n;subst hg;refine ⟨?_,?_,af⟩
 ·rw [apH,aqf hd,Int.one_mul,e]
 ·rw [apJ,if_neg af,e,ap1,Int.natAbs_of_nonneg af]
def iK(a b:Rat):Int:=if a<b then -1 else if b<a then 1 else 0
def iZ(a:Rat):Int:=if a<0 then -1 else if 0<a then 1 else 0
end Lw
namespace Lw
theorem MH{a b:Rat}(h:a<b):iK a b = -1:=by unfold iK;rw [if_pos h]
theorem MG{a b:Rat}(h:b<a):iK a b=1:=by
 unfold iK;rw [if_neg (Rat.not_lt.2 (Rat.le_of_lt h)),if_pos h]
theorem Xt(a:Rat):iK a a=0:=by unfold iK;rw [if_neg apW,if_neg apW]
theorem tri(a b:Rat):a<b\/a=b\/b<a:=by
 grind
theorem Xu{a b:Rat} : iK a b=0↔a=b:=by
 rcases tri a b with h | h | h
 ·rw [MH h];exact ⟨fun e=>by simp at e,fun e=>by subst e;exact absurd h apW⟩
 ·subst h;exact ⟨fun _=>rfl,fun _=>Xt a⟩
 ·rw [MG h];exact ⟨fun e=>by simp at e,fun e=>by subst e;exact absurd h apW⟩
theorem SA{a:Rat}(h:a<0):iZ a = -1:=by unfold iZ;rw [if_pos h]
theorem SC:iZ 0=0:=by unfold iZ;rw [if_neg apW,if_neg apW]
theorem SB{a:Rat}(h:0<a):iZ a=1:=by unfold iZ;rw [if_neg (Rat.not_lt.2 (Rat.le_of_lt h)),if_pos h]
theorem Qi{a:Rat} : a.num<0↔a<0:=by
 have:=Rat.lt_iff a 0
 simp_all
theorem aeK(a:Rat):iZ a=if a.num<0 then -1 else if a.num=0 then 0 else 1:=by
 rcases tri a 0 with h | h | h
 ·rw [SA h,if_pos (Qi.2 h)]
 ·subst h;rw [SC];rfl
 ·have h1:¬ a.num<0:=fun e=>absurd h (Rat.not_lt.2 (Rat.le_of_lt (Qi.1 e)))
  have h2:a.num≠0:=fun e=>by rw [apK] at e;subst e;exact apW h
  rw [SB h,if_neg h1,if_neg h2]
theorem ae3(a:Rat):iZ (a + -a)=0:=by rw [Rat.add_neg_cancel,SC]
end Lw
namespace Lw
open Go Go.RowKit
theorem XW{x:Nat}(h0:x≠0)(h:x<4294967296):bn x=[x]:=by
 have:=MX (l:=[x]) (by rw [iH];exact ⟨h,gV⟩) (by simpa [dg] using h0)
 simpa [val] using this
end Lw
namespace Go.Proofs.BGQ
open Go Go.RowKit Lw
set_option maxRecDepth 100000 in
set_option maxHeartbeats 800000 in
theorem aaK(A:Option Addr)(ns:List Nat)(n c B:Nat)(w:World)(h:Rd w B A ns)(hn:ns.length=n)(hl:n<=16777216) :
  Calls Tryz.prog 93 #[.slice A n c] w fun e w'=>e = .returned (.bool (decide (ns=[1]))) /\ ∃ q,w'=w.drewN q:=by
 have Hn:=Lib.hid hn;clear hn
 by_cases h1:n=1
 ·subst h1
  obtain ⟨b,off,rfl,hb,hcell,hlt⟩:=h.at_ (k:=0) (by rw [Hn.out];omega);rw [apv] at hcell
  have HE:Hid (decide (ns=[1])=decide (dg ns 0=1)):=Lib.hid (by
   obtain ⟨x,rfl⟩ : ∃ x,ns=[x]:=List.length_eq_one_iff.1 Hn.out;simp [dg])
  by_cases h2:dg ns 0=1
  ·have h3:((dg ns 0:Int)==1)=true:=by rw [beq_iff_eq];omega
   go_enter Tryz.func93,Tryz.ntmps93
   go_wp2_with fail
   go_ret
   exact ⟨by rw [HE.out,decide_eq_true h2];rfl,0,rfl⟩
  ·have h3:((dg ns 0:Int)==1)=false:=by rw [beq_eq_false_iff_ne];omega
   go_enter Tryz.func93,Tryz.ntmps93
   go_wp2_with fail
   go_ret
   exact ⟨by rw [HE.out,decide_eq_false h2];rfl,0,rfl⟩
 ·have h3:((n:Int)==1)=false:=by rw [beq_eq_false_iff_ne];omega
  have HE:Hid (decide (ns=[1])=false):=Lib.hid (decide_eq_false (by intro e;subst e;exact h1 Hn.out.symm))
  go_enter Tryz.func93,Tryz.ntmps93
  go_wp2_with fail
  go_ret
  exact ⟨by rw [HE.out];rfl,0,rfl⟩
set_option maxRecDepth 100000 in
set_option maxHeartbeats 800000 in
theorem aaO(A:Option Addr)(ns:List Nat)(n c B:Nat)(w:World)(h:Rd w B A ns)(hn:ns.length=n)(h1:1<=n)(h2:n<=2) :
  Calls Tryz.prog 147 #[.slice A n c] w fun e w'=>e = .returned (.int .u64 (val ns:Int)) /\ ∃ q,w'=w.drewN q:=by
 have Hn:=Lib.hid hn;clear hn
 by_cases h3:n=1
 ·subst h3
  obtain ⟨b,off,rfl,hb,hcell,hlt⟩:=h.at_ (k:=0) (by rw [Hn.out];omega);rw [apv] at hcell
  have HE:Hid (dg ns 0=val ns):=Lib.hid (by
   obtain ⟨x,rfl⟩ : ∃ x,ns=[x]:=List.length_eq_one_iff.1 Hn.out;simp [dg,val])
  go_enter Tryz.func147,Tryz.ntmps147
  go_wp2_with fail
  go_ret
  exact ⟨eP (by rw [HE.out]),0,rfl⟩
 ·obtain rfl:n=2:=af
  obtain ⟨b,off,rfl,hb,hcell,hlt⟩:=h.at_ (k:=0) (by rw [Hn.out];omega);obtain ⟨b_,IE,he,_,hcell2,hlt2⟩:=h.at_ (k:=1) (by rw [Hn.out];omega)
  injection he with he;injection he with e1 e2;subst e1 e2;rw [apv] at hcell
  have HE:Hid (dg ns 0+4294967296*dg ns 1=val ns):=Lib.hid (by
   have e:=di (l:=ns) (k:=2) (by rw [Hn.out];exact aoG _);rw [dh,dh,fH,kY,show pw 1=4294967296 from rfl] at e;omega)
  have hor:=tY hlt2 hlt
  go_enter Tryz.func147,Tryz.ntmps147
  go_wp2_with fail
  go_quiet (fail)
  go_wp2_with fail
  go_ret
  exact ⟨eP (by rw [<- HE.out];omega),_,rfl⟩
open Go.Shelf
def afy:Ren:=⟨fun | 29=>171 | n=>n,fun | 0=>0 | 3=>3 | 4=>4 | 5=>5 | 22=>134 | 25=>146 | 54=>169 | n=>n,fun | 1=>0 | n=>n⟩
theorem afx:Lays7.n29 Tryz.prog afy := {
 mixed:=ah
 f29:=Tryz.func171.trans (congrArg some ah)
 t0:=Tryz.underlying0
 a0:=Tryz.isAgg0
 z0:=Tryz.sizeOf0
 v0:=Tryz.zeroValue0
 i0:=ah
 t3:=anl
 a3:=anx
 z3:=anz
 v3:=anA
 i3:=ah
 t4:=anb
 a4:=amX
 z4:=amY
 v4:=anB
 i4:=ah
 t5:=anC
 a5:=anJ
 z5:=anK
 v5:=anL
 i5:=ah
 t22:=aon
 a22:=Tryz.isAgg134
 z22:=Tryz.sizeOf134
 v22:=Tryz.zeroValue134
 i22:=ah
 t25:=anP
 a25:=anQ
 z25:=anR
 v25:=anT
 i25:=ah
 t54:=Tryz.underlying169
 a54:=Tryz.isAgg169
 z54:=Tryz.sizeOf169
 g1:=by kernel_rfl }
def Tz(w:World):Prop:=TabAt 0 Lib.deBruijn64tab w
theorem afz(x:Nat)(w:World)(_hx:x<=18446744073709551615)(ht:Tz w) :
  Calls Tryz.prog 171 #[.int .u64 x] w fun e w'=>e = .returned (.int .i64 (tz x:Nat))/\w=w' :=
 (Any7.bits_TrailingZeros64 afx x af w (fun _=>ht)).mono fun e w' h=>⟨h.1,h.2.symm⟩
theorem cell_lt{w:World}{a:Addr}{v:Value}(h:w.cell? a=some v):a.block<w.heap.size:=by
 rcases aoM a.block w.heap.size with h1 | h1
 ·exact h1
 ·exfalso
  unfold World.cell? at h;grind
theorem Tz.next{w w':World}(h:Tz w)(hb:Below w.heap.size w w'):Tz w':=fun j hj=>(hb.cell (cell_lt (h j hj))).trans (h j hj)
theorem Tz.drewN{w:World}(h:Tz w)(n:Nat):Tz (w.drewN n):=h
set_option maxRecDepth 100000 in
set_option maxHeartbeats 3200000 in
theorem Yv(x y:Nat)(w:World)(hx:x<=18446744073709551615)(hy:y<=18446744073709551615)(hx0:x≠0)(hy0:y≠0)(ht:Tz w) :
  Calls Tryz.prog 133 #[.int .u64 x,.int .u64 y] w fun e w'=>e = .returned (.int .u64 (Nat.gcd x y:Nat)) /\ ∃ q,w'=w.drewN q:=by
 obtain ⟨g1,g2,g3,g4,g5⟩:=Y8 hx0 hy0 (show x<18446744073709551616 from af) (show y<18446744073709551616 from af);have hor:bits .or .u64 (x:Int) (y:Int)=((x ||| y:Nat):Int):=u64_or_nat x y af af;have hK:=Lib.hid (fun (z:Nat) (W:World) (h:z<=18446744073709551615) (hW:Tz W)=>afz z W h hW);have HT:=Lib.hid ht;obtain ⟨o,ho⟩ : ∃ o,o=x ||| y:=⟨_,rfl⟩
 rw [<- ho] at g1 g4 g5 hor;obtain ⟨t,hte⟩ : ∃ t,t=tz o:=⟨_,rfl⟩;rw [<- hte] at g1 g4;obtain ⟨X,hX⟩ : ∃ X,X=x/2^tz x:=⟨_,rfl⟩;rw [<- hX] at g1 g2;have Zy:X<=18446744073709551615:=by rw [hX];exact aoH (ao4 _ _) hx
 have zJ:(x:Int)/2^tz x=(X:Int):=by rw [hX];simp
 have HG:=Lib.hid g1;have yE:=Lib.hid g2;have Hte:=Lib.hid hte;have hol:o<=18446744073709551615:=af;obtain ⟨s,hs⟩ : ∃ s,s=tz x:=⟨_,rfl⟩;rw [<- hs] at zJ g3;have Hs:=Lib.hid hs;clear g1 g2 g5 ho hte hX hs ht
 go_enter Tryz.func133,Tryz.ntmps133
 go_wp2_with fail
 refine (hK.out o _ hol HT.out).mono ?_;rintro e w1 ⟨rfl,rfl⟩;rw [<- Hte.out]
 go_wp2_with fail
 refine (hK.out x _ hx HT.out).mono ?_;rintro e w1 ⟨rfl,rfl⟩;rw [<- Hs.out]
 go_wp2_with fail
 go_loopw [0,1] (fun a b wr => ∃ u v q:Nat,u<=18446744073709551615/\v<=18446744073709551615/\1<=u/\a = .int .u64 u/\b = .int .u64 v/\Hid (u%2=1)/\Hid (Nat.gcd u v=Nat.gcd X y)/\wr=w.drewN q) (fun a b _=>(intOf a).toNat+(intOf b).toNat)
 case atStart=>exact ⟨X,y,0,Zy,hy,by have:=yE.out;omega,rfl,rfl,yE,Lib.hid rfl,rfl⟩
 case round =>
  obtain ⟨u,v,q,hu,hv,hu1,rfl,rfl,hodd,hg,rfl⟩:=hrel
  have fin:Nat.gcd u v=u->IntKind.u64.wrap ((u:Int)*2^t)=((Nat.gcd x y:Nat):Int):=by
   intro h;have e:(u:Int)*2^t=((u*2^t:Nat):Int):=by simp
   have h2:u*2^t=Nat.gcd x y:=by rw [HG.out,<- hg.out,h]
   have h3:=ap3 y (show 0<x from af);rw [e,h2];exact IntWalk.u64_in _ af
  by_cases h1:u=1
  ·subst h1
   have hf:=fin (Nat.gcd_one_left _);have HF:=Lib.hid hf;clear fin hf
   go_wp2_with fail
   go_ret
   exact ⟨eP (by have:=HF.out;simpa using this),q,rfl⟩
  ·have hb1:((u:Int) != 1)=true:=by rw [bne_iff_ne];omega
   by_cases h2:v=0
   ·subst h2
    have hf:=fin (aqn _);have HF:=Lib.hid hf;clear fin hf h1
    go_wp2_with fail
    go_ret
    exact ⟨eP HF.out,q,rfl⟩
   ·have hb2:((v:Int) != 0)=true:=by rw [bne_iff_ne];omega
    obtain ⟨r1,r2,r3,r4⟩:=Y7 hodd.out h2 (show v<18446744073709551616 from af);obtain ⟨V,hV⟩ : ∃ V,V=v/2^tz v:=⟨_,rfl⟩;obtain ⟨k,hk⟩ : ∃ k,k=tz v:=⟨_,rfl⟩;have ai3:(v:Int)/2^k=(V:Int):=by rw [hV,hk];simp
    rw [<- hV] at r1 r2 r3;rw [<- hk] at r4;have Hr:=Lib.hid (And.intro r1 r2);have Hk:=Lib.hid hk;clear fin h1 h2 r1 r2 hV hk
    go_wp2_with fail
    refine (hK.out v _ hv (HT.out.drewN q)).mono ?_;rintro e w1 ⟨rfl,rfl⟩;rw [<- Hk.out]
    by_cases h3:V<u
    ·have hgs:Hid (Nat.gcd V (u-V)=Nat.gcd X y):=Lib.hid (by rw [NQ (aoZ h3),apm,Hr.out.1,hg.out])
     go_wp2_with fail
     go_roundw
     case rel=>exact ⟨V,u-V,q,af,af,by have:=Hr.out.2;omega,rfl,congrArg _ af,Lib.hid Hr.out.2,hgs,rfl⟩
     case measure=>simp [intOf];have:=Hr.out.2;omega
    ·have hgs:Hid (Nat.gcd u (V-u)=Nat.gcd X y):=Lib.hid (by rw [NQ af,Hr.out.1,hg.out])
     go_wp2_with fail
     go_roundw
     case rel=>exact ⟨u,V-u,q,af,af,af,rfl,congrArg _ af,hodd,hgs,rfl⟩
     case measure=>simp [intOf];omega
end Go.Proofs.BGQ
namespace Lw
open Go Go.RowKit
def rs(q:Rat):Bool:=decide (q.num<0)
def rn(q:Rat):List Nat:=bn q.num.natAbs
def rd(q:Rat):List Nat:=if q.num=0 then [] else bn q.den
def cO(w:World)(g:Nat)(t:TypeId)(a b c:Value):Prop:=w.heap[g]? = some (.cells #[a,b,c] t (0,0))
section
variable {w w':World} {g:Nat} {t:TypeId} {a b c:Value}
theorem cO.lt(h:cO w g t a b c):g<w.heap.size:=by
 rcases aoM g w.heap.size with hlt | hge
 ·exact hlt
 ·unfold cO at h;rw [aqa hge] at h;cases h
theorem cO.new(w:World)(t:TypeId)(a b c:Value):cO (w.alloc (.cells #[a,b,c] t)) w.heap.size t a b c:=heap_alloc_new w _
theorem cO.drew(h:cO w g t a b c):cO w.drew g t a b c:=h
theorem cO.drewN(h:cO w g t a b c)(n:Nat):cO (w.drewN n) g t a b c:=h
theorem cO.next(h:cO w g t a b c)(hb:Below w.heap.size w w'):cO w' g t a b c:=(hb.block g h.lt).trans h
theorem cO.cells(h:cO w g t a b c):w.cell? ⟨g,0,none⟩=some a/\w.cell? ⟨g,1,none⟩=some b/\w.cell? ⟨g,2,none⟩=some c/\w.frozen? ⟨g,0,none⟩=false/\w.frozen? ⟨g,1,none⟩=false/\w.frozen? ⟨g,2,none⟩=false:=by
 unfold cO at h;exact ⟨by rw [cell_of_row w g 0 _ t (0,0) h];rfl,by rw [cell_of_row w g 1 _ t (0,0) h];rfl,by rw [cell_of_row w g 2 _ t (0,0) h];rfl,by simp [World.frozen?,h],by simp [World.frozen?,h],by simp [World.frozen?,h]⟩
theorem cO.set0(h:cO w g t a b c)(x:Value):cO (w.setCell ⟨g,0,none⟩ x) g t x b c:=by unfold cO at h ⊢;simp [World.setCell,apE,h]
theorem cO.set1(h:cO w g t a b c)(x:Value):cO (w.setCell ⟨g,1,none⟩ x) g t a x c:=by unfold cO at h ⊢;simp [World.setCell,apE,h]
theorem Rd.abG{B n c n' c':Nat}{s:Bool}{A A' x9:Option Addr}{ns:List Nat}(h:Rd w B A ns)(h2:cO w g t (.bool s) (.slice A' n c) (.slice x9 n' c')){b off:Nat}(hn:0<ns.length)(hA:A=some ⟨b,off,none⟩):b≠g:=by
 rintro rfl;obtain ⟨b',off',hA',hb,hc⟩:=h.2 hn;rw [hA] at hA'
 injection hA' with e
 injection e with e1 e2;subst e1 e2;have h0:=hc 0 hn;unfold cO at h2;rw [cell_of_row w b _ _ t (0,0) h2] at h0;grind
theorem Rd.nS{B n c n' c' i:Nat}{s:Bool}{A A' x9:Option Addr}{ns:List Nat}(h:Rd w B A ns)(h2:cO w g t (.bool s) (.slice A' n c) (.slice x9 n' c'))(u:Value):Rd (w.setCell ⟨g,i,none⟩ u) B A ns :=
 ⟨h.1,fun hn=>by
  obtain ⟨b,off,hA,hb,hc⟩:=h.2 hn;have hne:=h.abG h2 hn hA;refine ⟨b,off,hA,hb,fun j hj => ?_⟩;rw [<- hc j hj];exact World.cell?_setCell_other w _ _ u (fun e=>hne (by injection e with e1;first | exact e1 | exact e1.symm))⟩
theorem Rd.uf{B n c n' c' m d:Nat}{s:Bool}{A A' x9 D:Option Addr}{ns:List Nat}(h:Rd w B A ns)(h2:cO w g t (.bool s) (.slice A' n c) (.slice x9 n' c'))(s':Bool)(v:Value) :
  Rd (((w.setCell ⟨g,0,none⟩ (.bool s')).setCell ⟨g,1,none⟩ (.slice D m d)).setCell ⟨g,2,none⟩ v) B A ns :=
 ((h.nS h2 _).nS (h2.set0 _) _).nS ((h2.set0 _).set1 _) _
end
theorem f_zero:rs 0=false/\rn 0=[]/\rd 0=[]:=⟨rfl,rfl,rfl⟩
theorem Nv{n d:Int}(hn:n≠0)(hd:d≠0) :
  rs (Rat.divInt n d)=(decide (n<0) != decide (d<0))/\rn (Rat.divInt n d)=bn (n.natAbs/Nat.gcd n.natAbs d.natAbs)/\rd (Rat.divInt n d)=bn (d.natAbs/Nat.gcd n.natAbs d.natAbs):=by
 have hg:Nat.gcd n.natAbs d.natAbs≠0:=by
  intro e;exact hn (Int.natAbs_eq_zero.1 (Nat.eq_zero_of_gcd_eq_zero_left e))
 have hdn:Nat.gcd n.natAbs d.natAbs ∣ n.natAbs:=ap4 _ _;have hdd:Nat.gcd n.natAbs d.natAbs ∣ d.natAbs:=ap5 _ _
 have e1:(Rat.divInt n d).num=d.sign*n/(Nat.gcd n.natAbs d.natAbs:Nat):=by
  rw [apH];congr 2;exact Int.gcd_comm d n
 have e2:(Rat.divInt n d).den=d.natAbs/Nat.gcd n.natAbs d.natAbs:=by
  rw [apJ,if_neg hd];congr 1;exact Int.gcd_comm d n
 obtain ⟨g,hge⟩ : ∃ g,g=Nat.gcd n.natAbs d.natAbs:=⟨_,rfl⟩;rw [<- hge] at hg hdn hdd e1 e2 ⊢;clear hge;have hgi:(g:Int) ∣ n:=Int.ofNat_dvd_left.2 hdn;obtain ⟨m,hm⟩:=hgi;have G6:(0:Int)<g:=af;have hm0:m≠0:=by intro e;rw [e] at hm;simp at hm;exact hn hm
 have e3:(Rat.divInt n d).num=d.sign*m:=by
  rw [e1,hm,Int.mul_left_comm,Int.mul_ediv_cancel_left _ af]
 have hab:n.natAbs/g=m.natAbs:=by
  rw [hm,apr,aoL,Nat.mul_div_cancel_left _ af]
 have hs:n<0↔m<0:=by
  rw [hm];constructor
  ·intro h
   refine Int.lt_of_not_ge fun h2 => ?_;have:=Int.mul_nonneg (Int.le_of_lt G6) h2;omega
  ·intro h
   exact Int.mul_neg_of_pos_of_neg G6 h
 have hd3:d.sign=1/\0<d\/d.sign = -1/\d<0:=by
  rcases aqo hd with h | h
  ·exact .inr ⟨Int.sign_eq_neg_one_of_neg h,h⟩
  ·exact .inl ⟨aqf h,h⟩
 unfold rs rn rd;rw [e3,e2,hab];rcases hd3 with ⟨hs1,hd1⟩ | ⟨hs1,hd1⟩
 ·rw [hs1,Int.one_mul,if_neg hm0]
  refine ⟨?_,rfl,rfl⟩;rw [decide_eq_false (show ¬ d<0 from af)];simp [hs]
 ·rw [hs1,Int.neg_mul,Int.one_mul,if_neg af,aqg]
  refine ⟨?_,rfl,rfl⟩;rw [decide_eq_true hd1];rcases aqo hm0 with h | h
  ·rw [decide_eq_true (hs.2 h),decide_eq_false af];rfl
  ·rw [decide_eq_false (show ¬ n<0 by rw [hs];omega),decide_eq_true af];rfl
end Lw
