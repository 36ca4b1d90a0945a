/- Part of a proof, said shortly. -/
import Derived.Deep.RegionHeld3
import Derived.Deep.DrawnRows
import Derived.Deep.RegionWith
import Derived.Deep.DeepCutAuto
import Derived.Lib.ItoaNum
import Derived.Test.YtkcpphebkmnonaaGreatDoorAlzc
import Derived.Test.YtkcpphebkmnonaaGreatDoorC2c
import Derived.Test.YtkcpphebkmnonaaGreatDoorC1c
namespace Lw
theorem Qe(z:Int) : -z=if (!sg z)=true then -(z.natAbs:Int) else (z.natAbs:Int):=by
 unfold sg;grind
end Lw
namespace Go.Proofs.BGQ
open Go Go.RowKit Lw
attribute [local go_sem ↓] Go.wp_at_zero Go.wp_at_succ
set_option maxHeartbeats 1600000 in
theorem abH(s:Bool)(A:Option Addr)(ns:List Nat)(n c B:Nat)(w:World)(h:Rd w B A ns)(hB:B<=w.heap.size)(hn:ns.length=n)(hl:n<=16777216)(hc:n<=c) :
  Calls Tryz.prog 89 #[.agg #[.bool s,.slice A n c]] w (jD w (- zv s ns)):=by
 go_enter Tryz.func89,Tryz.ntmps89
 go_wp2_with fail
 refine (pg s A ns n c B _ ((h.alloc hB _).alloc (by simp;omega) _) (by simp;omega) hn hl hc).mono ?_;rintro e w1 ⟨A1,c1,rfl,hc1,hr1,hb1⟩;obtain ⟨t1,t2,hs1,hb2⟩:=bV hb1;obtain ⟨c10,c11,f10,f11⟩:=t1.facts;obtain ⟨c20,c21,f20,f21⟩:=t2.facts;have hlz:=ji (s:=s) h.bQ;rw [hn] at hlz;generalize hz:zv s ns=z at *;clear hz
 go_wp2_with fail
 have T1:=t1.put (.bool (sg z)) (.slice A1 (mg z).length c1);have T2:=(t2.far (p:=⟨w.heap.size,0,none⟩) (by simp) (.bool (sg z))).far (p:=⟨w.heap.size,1,none⟩) (by simp) (.slice A1 (mg z).length c1);have hr2:=(hr1.setCell (p:=⟨w.heap.size,0,none⟩) hB (.bool (sg z))).setCell (p:=⟨w.heap.size,1,none⟩) hB (.slice A1 (mg z).length c1);have hb3:=(hb2.setCell (p:=⟨w.heap.size,0,none⟩) (aoG _) (.bool (sg z))).setCell (p:=⟨w.heap.size,1,none⟩) (aoG _) (.slice A1 (mg z).length c1);clear c10 c11 f10 f11 c20 c21 f20 f21 t1 t2 hr1 hb1 hs1 hb2;generalize ((w1.setCell ⟨w.heap.size,0,none⟩ (.bool (sg z))).setCell ⟨w.heap.size,1,none⟩ (.slice A1 (mg z).length c1))=W at *;obtain ⟨c10,c11,f10,f11⟩:=T1.facts;obtain ⟨c20,c21,f20,f21⟩:=T2.facts;have hl2:=T2.lt
 go_region_held3 (fun w'=>w'.cell? ⟨w.heap.size,0,none⟩=some (.bool (sg z))/\w'.cell? ⟨w.heap.size,1,none⟩=some (.slice A1 (mg z).length c1)) (go_keep)
  (first
   | (go_at_call 136;refine (clone_any A1 (mg z) _ c1 B _ (by first | exact hr2.drew | exact hr2.drewN _ | exact hr2) (by simp;omega) rfl af).mono ?_;rintro e w2 ⟨A2,c2,rfl,hc2,hg2,hr3,hb4⟩;have U1:=T1.drew.below hb4 T1.lt;have U2:=T2.drew.below hb4 T2.lt;obtain ⟨d10,d11,g10,g11⟩:=U1.facts)
   | (go_at_call 113;refine (jL (!sg z) A2 z.natAbs _ c2 _ (-z) _ (by first | exact hr3.drew | exact hr3.drewN _ | exact hr3) (by simp) rfl hc2 (Qe z)).mono ?_;rintro e w3 ⟨A3,c3,rfl,hc3,hr4,hb5⟩;have V1:=U1.below hb5 U1.lt;have V2:=U2.below hb5 U2.lt;obtain ⟨i10,i11,j10,j11⟩:=V1.facts;obtain ⟨i20,i21,j20,j21⟩:=V2.facts))
 go_wp2
 refine bodyPost_ret (v := .agg #[.bool (sg (-z)),.slice A3 (mg (-z)).length c3]) (by simp [results,Tryz.results89,go_sem,i20,i21]) rfl ?_;exact fZ V2 hr4 hb5.size hc3 (bK (bK hb3.drew hb4 (aoG _)) hb5 (aoG _)) (by simp)
end Go.Proofs.BGQ
namespace Lw
def sv(s:Bool)(N:Nat):Int:=if s then -(N:Int) else (N:Int)
theorem qj(z:Int):sv (sg z) z.natAbs=z:=by have:=ru z;rw [eX] at this;exact this.symm
theorem ae5(z:Int):sv (!sg z) z.natAbs = -z:=(Qe z).symm
theorem SN(s s':Bool)(h:(s==s')=true)(N M:Nat):sv s N+sv s' M=sv s (N+M):=by
 cases s <;> cases s' <;> simp [sv] at * <;> omega
theorem SQ(s s':Bool)(h:(s==s')=false){N M:Nat}(hle:M<=N):sv s N+sv s' M=sv s (N-M):=by
 cases s <;> cases s' <;> simp [sv] at * <;> omega
theorem SS(s s':Bool)(h:(s==s')=false){N M:Nat}(hle:N<=M):sv s N+sv s' M=sv s' (M-N):=by
 cases s <;> cases s' <;> simp [sv] at * <;> omega
theorem BZ{a b:Nat}(h:a<b):gZ a b<0:=by rw [uK h];omega
theorem Cb{a b:Nat}(h:b<=a):¬ gZ a b<0:=by unfold gZ;rw [if_neg af];split <;> omega
end Lw
namespace Go.Proofs.BGQ
open Go Go.RowKit Lw
set_option maxHeartbeats 1600000 in
theorem sum_any(s s':Bool)(A A':Option Addr)(N M:Nat)(n m c c' B B':Nat)(w:World)(h:Rd w B A (bn N))(h':Rd w B' A' (bn M))(hB:B<=w.heap.size)(hB':B'<=w.heap.size)(hn:(bn N).length=n)(hm:(bn M).length=m)(hl:n<=8388608)(hl':m<=8388608)(hc:n<=c)(hc':m<=c') :
  Calls Tryz.prog 115 #[.bool s,.slice A n c,.bool s',.slice A' m c'] w (jD w (sv s N+sv s' M)):=by
 have vN:=bM N;have vM:=bM M;have Hn:=Lib.hid hn;have Hm:=Lib.hid hm;have VN:=Lib.hid vN;have VM:=Lib.hid vM;clear hn hm vN vM
 cases hs:(s==s')
 ·rcases aoM N M with hlt | hge
  ·have HZ:Hid (sv s N+sv s' M=sv s' (M-N)):=Lib.hid (SS s s' hs (aoZ hlt))
   have hcm:=BZ hlt
   go_enter Tryz.func115,Tryz.ntmps115
   go_wp2_with fail
   refine (mW A A' (bn N) (bn M) _ _ _ _ B B' _ (h.alloc hB _) (h'.alloc hB' _) (fG _) (fG _) Hn.out Hm.out af af).mono ?_;rintro e w1 ⟨rfl,q,hw1⟩;rw [VN.out,VM.out]
   have hb0:Below (w.alloc (.cells #[.bool false,.slice none 0 0] 79)).heap.size (w.alloc (.cells #[.bool false,.slice none 0 0] 79)) w1:=by
    rw [hw1];exact below_drewN' _ _ _
   obtain ⟨t0,hs0,sN⟩:=box1 hb0;have h1:=h.below (sN.mono hB);have h1':=h'.below (sN.mono hB');clear hw1 hb0
   go_wp2_with fail
   refine (JB A' A (bn M) (bn N) _ _ _ _ B' B _ h1' h1 af af Hm.out Hn.out af af (by rw [VN.out,VM.out];omega)).mono ?_;rintro e w2 ⟨A1,c1,rfl,hc1,hr1,hb1⟩;rw [VN.out,VM.out] at *;have t1:=t0.below hb1 t0.lt;have hb2:=bK sN hb1 af
   go_wp2_with fail
   refine (jL s' A1 (M-N) _ c1 _ (sv s N+sv s' M) _ hr1 (aoG _) rfl hc1 HZ.out).mono ?_;rintro e w3 ⟨A2,c2,rfl,hc2,hr2,hb3⟩;have T2:=t1.below hb3 t1.lt;obtain ⟨d0,d1,g0,g1⟩:=T2.facts
   go_wp2_with fail
   refine bodyPost_ret (v := .agg #[.bool (sg (sv s N+sv s' M)),.slice A2 (mg (sv s N+sv s' M)).length c2]) (by simp [results,Tryz.results115,go_sem,d0,d1]) rfl ?_;exact fZ T2 hr2 hb3.size hc2 (bK hb2 hb3 af) (aoG _)
  ·have HZ:Hid (sv s N+sv s' M=sv s (N-M)):=Lib.hid (SQ s s' hs hge)
   have hcm:=Cb hge
   go_enter Tryz.func115,Tryz.ntmps115
   go_wp2_with fail
   refine (mW A A' (bn N) (bn M) _ _ _ _ B B' _ (h.alloc hB _) (h'.alloc hB' _) (fG _) (fG _) Hn.out Hm.out af af).mono ?_;rintro e w1 ⟨rfl,q,hw1⟩;rw [VN.out,VM.out]
   have hb0:Below (w.alloc (.cells #[.bool false,.slice none 0 0] 79)).heap.size (w.alloc (.cells #[.bool false,.slice none 0 0] 79)) w1:=by
    rw [hw1];exact below_drewN' _ _ _
   obtain ⟨t0,hs0,sN⟩:=box1 hb0;have h1:=h.below (sN.mono hB);have h1':=h'.below (sN.mono hB');clear hw1 hb0
   go_wp2_with fail
   refine (JB A A' (bn N) (bn M) _ _ _ _ B B' _ h1 h1' af af Hn.out Hm.out af af (by rw [VN.out,VM.out];omega)).mono ?_;rintro e w2 ⟨A1,c1,rfl,hc1,hr1,hb1⟩;rw [VN.out,VM.out] at *;have t1:=t0.below hb1 t0.lt;have hb2:=bK sN hb1 af
   go_wp2_with fail
   refine (jL s A1 (N-M) _ c1 _ (sv s N+sv s' M) _ hr1 (aoG _) rfl hc1 HZ.out).mono ?_;rintro e w3 ⟨A2,c2,rfl,hc2,hr2,hb3⟩;have T2:=t1.below hb3 t1.lt;obtain ⟨d0,d1,g0,g1⟩:=T2.facts
   go_wp2_with fail
   refine bodyPost_ret (v := .agg #[.bool (sg (sv s N+sv s' M)),.slice A2 (mg (sv s N+sv s' M)).length c2]) (by simp [results,Tryz.results115,go_sem,d0,d1]) rfl ?_;exact fZ T2 hr2 hb3.size hc2 (bK hb2 hb3 af) (aoG _)
 ·have HZ:Hid (sv s N+sv s' M=sv s (N+M)):=Lib.hid (SN s s' hs N M)
  go_enter Tryz.func115,Tryz.ntmps115
  go_wp2_with fail
  refine (add_any A A' (bn N) (bn M) _ _ _ _ B B' _ (h.alloc hB _) (h'.alloc hB' _) (by simp;omega) (by simp;omega) Hn.out Hm.out af af hc hc').mono ?_;rintro e w1 ⟨A1,c1,rfl,hc1,hr1,hb1⟩;rw [VN.out,VM.out] at *;obtain ⟨t1,hs1,hb2⟩:=box1 hb1
  go_wp2_with fail
  refine (jL s A1 (N+M) _ c1 _ (sv s N+sv s' M) _ hr1 (aoG _) rfl hc1 HZ.out).mono ?_;rintro e w2 ⟨A2,c2,rfl,hc2,hr2,hb3⟩;have T2:=t1.below hb3 t1.lt;obtain ⟨d0,d1,g0,g1⟩:=T2.facts
  go_wp2_with fail
  refine bodyPost_ret (v := .agg #[.bool (sg (sv s N+sv s' M)),.slice A2 (mg (sv s N+sv s' M)).length c2]) (by simp [results,Tryz.results115,go_sem,d0,d1]) rfl ?_;exact fZ T2 hr2 hb3.size hc2 (bK hb2 hb3 af) (aoG _)
attribute [local go_sem ↓] Go.wp_at_zero Go.wp_at_succ
theorem Ef{p:Prop}(h:p:=by
  go_region_with (first
   | (go_at_call_of 111 (Value.agg #[Value.bool s,Value.slice A n c]);refine (pg s A ns n c B _ (by first | exact R1.drew | exact R1.next K2 af) (by first | (simp;omega) | (have:=K2.size;omega)) hn af hc).mono ?_;rintro e w1 ⟨A1,c1,rfl,hc1,hr1,hb1⟩;have K1:Below W.heap.size W w1:=(by first | exact tV hb1 | exact tX K2 hb1);obtain ⟨d10,d11,g10,g11⟩:=(T1.next K1).facts;obtain ⟨d20,d21,g20,g21⟩:=(T2.next K1).facts)
   | (go_at_call_of 111 (Value.agg #[Value.bool s',Value.slice A' m c']);refine (pg s' A' ms m c' B' _ (by first | exact R2.drew | exact R2.next K1 af) (by first | (simp;omega) | (have:=K1.size;omega)) hm af hc').mono ?_;rintro e w2 ⟨A2,c2,rfl,hc2,hr2,hb2⟩;have K2:Below W.heap.size W w2:=(by first | exact tV hb2 | exact tX K1 hb2);obtain ⟨i10,i11,j10,j11⟩:=(T1.next K2).facts;obtain ⟨i20,i21,j20,j21⟩:=(T2.next K2).facts))
  all_goals
   obtain ⟨P1,P2,P3,P4,P5⟩:_/\_/\_/\_/\_:=by
    first
     | exact pK (sg (zv s ns)) (sg (zv s' ms)) (.slice A1 (mg (zv s ns)).length c1) (.slice A2 (mg (zv s' ms)).length c2) (T1.next K2) (T2.next K2) af (hr1.next hb2 (by have:=K1.size;omega)) hr2 (bK hb0 K2 af) (aoG _) af
     | exact pK (sg (zv s ns)) (sg (zv s' ms)) (.slice A1 (mg (zv s ns)).length c1) (.slice A2 (mg (zv s' ms)).length c2) (T1.next K1) (T2.next K1) af hr1 (hr2.next hb1 (by have:=K2.size;omega)) (bK hb0 K1 af) (aoG _) af
   clear d10 d11 g10 g11 d20 d21 g20 g21 i10 i11 i20 i21 j10 j11 j20 j21 c10 c11 c20 c21 f10 f11 f20 f21
   go_wp2_with fail
   go_meet
   have FO:=(T3.next K1);have FP:=(T3.next K2);exact ⟨A1,c1,A2,c2,P1,P2,by first | exact FP.lM af af _ _ _ _ | exact FO.lM af af _ _ _ _,P3,P4,P5,hc1,hc2⟩):p:=h
set_option maxHeartbeats 3200000 in
theorem V5(s s':Bool)(A A':Option Addr)(ns ms:List Nat)(n m c c' B B':Nat)(w:World)(h:Rd w B A ns)(h':Rd w B' A' ms)(hB:B<=w.heap.size)(hB':B'<=w.heap.size)(hn:ns.length=n)(hm:ms.length=m)(hl:n<=8388608)(hl':m<=8388608)(hc:n<=c)(hc':m<=c') :
  Calls Tryz.prog 70 #[.agg #[.bool s,.slice A n c],.agg #[.bool s',.slice A' m c']] w (jD w (zv s ns+zv s' ms)):=by
 have hlz:=ji (s:=s) h.bQ;have hlz':=ji (s:=s') h'.bQ;rw [hn] at hlz;rw [hm] at hlz'
 go_enter Tryz.func70,Tryz.ntmps70
 go_upto_region 1 with fail
 obtain ⟨T1,T2,T3,_,hb0⟩:=dF (Below.refl _ (((w.alloc (.cells #[.bool s,.slice A n c] 79)).alloc (.cells #[.bool s',.slice A' m c'] 79)).alloc (.cells #[.bool false,.slice none 0 0] 79)));have R1:=h.below (hb0.mono hB);have R2:=h'.below (hb0.mono hB');generalize hW:(((w.alloc (.cells #[.bool s,.slice A n c] 79)).alloc (.cells #[.bool s',.slice A' m c'] 79)).alloc (.cells #[.bool false,.slice none 0 0] 79))=W at *;clear hW;have l3:=T3.lt;obtain ⟨c10,c11,f10,f11⟩:=T1.facts;obtain ⟨c20,c21,f20,f21⟩:=T2.facts
 go_cut [] (fun wc => ∃ A1 c1 A2 c2,Two wc w.heap.size 79 (.bool (sg (zv s ns))) (.slice A1 (mg (zv s ns)).length c1)/\Two wc (w.heap.size+1) 79 (.bool (sg (zv s' ms))) (.slice A2 (mg (zv s' ms)).length c2) /\
  Two wc (w.heap.size+1+1) 79 (.bool false) (.slice none 0 0)/\Rd wc B A1 (mg (zv s ns))/\Rd wc B' A2 (mg (zv s' ms))/\Below w.heap.size w wc/\(mg (zv s ns)).length<=c1/\(mg (zv s' ms)).length<=c2)
 case first=>exact Ef
 case rest =>
  obtain ⟨A1,c1,A2,c2,Q1,Q2,Q3,r1,r2,hbc,hc1,hc2⟩:=hcut;clear T1 T2 T3 R1 R2 hb0 l3 c10 c11 c20 c21 f10 f11 f20 f21;obtain ⟨c10,c11,f10,f11⟩:=Q1.facts;obtain ⟨c20,c21,f20,f21⟩:=Q2.facts
  go_wp2_with fail
  refine (sum_any (sg (zv s ns)) (sg (zv s' ms)) A1 A2 (zv s ns).natAbs (zv s' ms).natAbs _ _ c1 c2 B B' _ r1 r2 (by have:=hbc.size;omega) (by have:=hbc.size;omega) rfl rfl (aoH hlz hl) (aoH hlz' hl') hc1 hc2).mono ?_;rw [qj,qj];rintro e w3 ⟨A3,c3,rfl,hc3,hr3,hb3⟩;have U3:=Q3.next hb3;obtain ⟨d0,d1,g0,g1⟩:=U3.facts
  go_wp2_with fail
  refine bodyPost_ret (v := .agg #[.bool (sg (zv s ns+zv s' ms)),.slice A3 (mg (zv s ns+zv s' ms)).length c3]) (by simp [results,Tryz.results70,go_sem,d0,d1]) rfl ?_;exact fZ U3 hr3 (aoG _) hc3 (bK hbc hb3 (aoG _)) af
attribute [local go_sem ↓] Go.wp_at_zero Go.wp_at_succ
set_option maxHeartbeats 3200000 in
theorem ae4(s s':Bool)(A A':Option Addr)(ns ms:List Nat)(n m c c' B B':Nat)(w:World)(h:Rd w B A ns)(h':Rd w B' A' ms)(hB:B<=w.heap.size)(hB':B'<=w.heap.size)(hn:ns.length=n)(hm:ms.length=m)(hl:n<=8388608)(hl':m<=8388608)(hc:n<=c)(hc':m<=c') :
  Calls Tryz.prog 128 #[.agg #[.bool s,.slice A n c],.agg #[.bool s',.slice A' m c']] w (jD w (zv s ns-zv s' ms)):=by
 have hlz:=ji (s:=s) h.bQ;have hlz':=ji (s:=s') h'.bQ;rw [hn] at hlz;rw [hm] at hlz'
 go_enter Tryz.func128,Tryz.ntmps128
 go_upto_region 1 with fail
 obtain ⟨T1,T2,T3,_,hb0⟩:=dF (Below.refl _ (((w.alloc (.cells #[.bool s,.slice A n c] 79)).alloc (.cells #[.bool s',.slice A' m c'] 79)).alloc (.cells #[.bool false,.slice none 0 0] 79)));have R1:=h.below (hb0.mono hB);have R2:=h'.below (hb0.mono hB');generalize hW:(((w.alloc (.cells #[.bool s,.slice A n c] 79)).alloc (.cells #[.bool s',.slice A' m c'] 79)).alloc (.cells #[.bool false,.slice none 0 0] 79))=W at *;clear hW;have l3:=T3.lt;obtain ⟨c10,c11,f10,f11⟩:=T1.facts;obtain ⟨c20,c21,f20,f21⟩:=T2.facts
 go_cut [] (fun wc => ∃ A1 c1 A2 c2,Two wc w.heap.size 79 (.bool (sg (zv s ns))) (.slice A1 (mg (zv s ns)).length c1)/\Two wc (w.heap.size+1) 79 (.bool (sg (zv s' ms))) (.slice A2 (mg (zv s' ms)).length c2) /\
  Two wc (w.heap.size+1+1) 79 (.bool false) (.slice none 0 0)/\Rd wc B A1 (mg (zv s ns))/\Rd wc B' A2 (mg (zv s' ms))/\Below w.heap.size w wc/\(mg (zv s ns)).length<=c1/\(mg (zv s' ms)).length<=c2)
 case first=>exact Ef
 case rest =>
  obtain ⟨A1,c1,A2,c2,Q1,Q2,Q3,r1,r2,hbc,hc1,hc2⟩:=hcut;clear T1 T2 T3 R1 R2 hb0 l3 c10 c11 c20 c21 f10 f11 f20 f21;obtain ⟨c10,c11,f10,f11⟩:=Q1.facts;obtain ⟨c20,c21,f20,f21⟩:=Q2.facts
  go_wp2_with fail
  refine (sum_any (sg (zv s ns)) (!sg (zv s' ms)) A1 A2 (zv s ns).natAbs (zv s' ms).natAbs _ _ c1 c2 B B' _ r1 r2 (by have:=hbc.size;omega) (by have:=hbc.size;omega) rfl rfl (aoH hlz hl) (aoH hlz' hl') hc1 hc2).mono ?_;rw [qj,ae5,<- Int.sub_eq_add_neg];rintro e w3 ⟨A3,c3,rfl,hc3,hr3,hb3⟩;have U3:=Q3.next hb3;obtain ⟨d0,d1,g0,g1⟩:=U3.facts
  go_wp2_with fail
  refine bodyPost_ret (v := .agg #[.bool (sg (zv s ns-zv s' ms)),.slice A3 (mg (zv s ns-zv s' ms)).length c3]) (by simp [results,Tryz.results128,go_sem,d0,d1]) rfl ?_;exact fZ U3 hr3 (aoG _) hc3 (bK hbc hb3 (aoG _)) af
end Go.Proofs.BGQ
namespace Lw
theorem PU(a b:Int):a*b=if (sg a != sg b)=true then -((a.natAbs*b.natAbs:Nat):Int) else ((a.natAbs*b.natAbs:Nat):Int):=by
 have ha:=ru a;have hb:=ru b;grind
end Lw
namespace Go.Proofs.BGQ
open Go Go.RowKit Lw
attribute [local go_sem ↓] Go.wp_at_zero Go.wp_at_succ
set_option maxHeartbeats 3200000 in
theorem abg(s s':Bool)(A A':Option Addr)(ns ms:List Nat)(n m c c' B B':Nat)(w:World)(h:Rd w B A ns)(h':Rd w B' A' ms)(hB:B<=w.heap.size)(hB':B'<=w.heap.size)(hn:ns.length=n)(hm:ms.length=m)(hl:n<=8388608)(hl':m<=8388608)(hc:n<=c)(hc':m<=c') :
  Calls Tryz.prog 69 #[.agg #[.bool s,.slice A n c],.agg #[.bool s',.slice A' m c']] w (jD w (zv s ns*zv s' ms)):=by
 have hlz:=ji (s:=s) h.bQ;have hlz':=ji (s:=s') h'.bQ;rw [hn] at hlz;rw [hm] at hlz'
 go_enter Tryz.func69,Tryz.ntmps69
 go_upto_region 1 with fail
 obtain ⟨T1,T2,T3,_,hb0⟩:=dF (Below.refl _ (((w.alloc (.cells #[.bool s,.slice A n c] 79)).alloc (.cells #[.bool s',.slice A' m c'] 79)).alloc (.cells #[.bool false,.slice none 0 0] 79)));have R1:=h.below (hb0.mono hB);have R2:=h'.below (hb0.mono hB');generalize hW:(((w.alloc (.cells #[.bool s,.slice A n c] 79)).alloc (.cells #[.bool s',.slice A' m c'] 79)).alloc (.cells #[.bool false,.slice none 0 0] 79))=W at *;clear hW;have l3:=T3.lt;obtain ⟨c10,c11,f10,f11⟩:=T1.facts;obtain ⟨c20,c21,f20,f21⟩:=T2.facts
 go_cut [] (fun wc => ∃ A1 c1 A2 c2,Two wc w.heap.size 79 (.bool (sg (zv s ns))) (.slice A1 (mg (zv s ns)).length c1)/\Two wc (w.heap.size+1) 79 (.bool (sg (zv s' ms))) (.slice A2 (mg (zv s' ms)).length c2) /\
  Two wc (w.heap.size+1+1) 79 (.bool false) (.slice none 0 0)/\Rd wc B A1 (mg (zv s ns))/\Rd wc B' A2 (mg (zv s' ms))/\Below w.heap.size w wc/\(mg (zv s ns)).length<=c1/\(mg (zv s' ms)).length<=c2)
 case first=>exact Ef
 case rest =>
  obtain ⟨A1,c1,A2,c2,Q1,Q2,Q3,r1,r2,hbc,hc1,hc2⟩:=hcut;clear T1 T2 T3 R1 R2 hb0 l3 c10 c11 c20 c21 f10 f11 f20 f21;obtain ⟨c10,c11,f10,f11⟩:=Q1.facts;obtain ⟨c20,c21,f20,f21⟩:=Q2.facts
  go_wp2_with fail
  have l3:=Q3.lt;have HM:Hid (val (mg (zv s ns))*val (mg (zv s' ms))=(zv s ns).natAbs*(zv s' ms).natAbs):=Lib.hid (by rw [eX,eX]);have HF:Hid (zv s ns*zv s' ms=if (sg (zv s ns) != sg (zv s' ms))=true then -(((zv s ns).natAbs*(zv s' ms).natAbs:Nat):Int) else (((zv s ns).natAbs*(zv s' ms).natAbs:Nat):Int)):=Lib.hid (PU _ _)
  go_region_held3 (fun w'=>w'.cell? ⟨w.heap.size,0,none⟩=some (.bool (sg (zv s ns)))/\w'.cell? ⟨w.heap.size,1,none⟩=some (.slice A1 (mg (zv s ns)).length c1)/\w'.cell? ⟨w.heap.size+1,0,none⟩=some (.bool (sg (zv s' ms)))/\w'.cell? ⟨w.heap.size+1,1,none⟩=some (.slice A2 (mg (zv s' ms)).length c2)) (first | go_keep | (go_split_ands;refine ⟨hq0 _ _,hq1 _ _,?_,?_⟩ <;> go_keep))
   (first
    | (go_at_call 114;refine (abh A1 A2 (mg (zv s ns)) (mg (zv s' ms)) _ _ c1 c2 B B' _ (by first | exact r1.drew | exact r1) (by first | exact r2.drew | exact r2) (by simp;omega) (by simp;omega) rfl rfl af af).mono ?_;rintro e w2 ⟨A3,c3,rfl,hc3,hr3,hb3⟩;rw [HM.out] at *;have K3:=tV hb3;obtain ⟨d10,d11,g10,g11⟩:=(Q1.next K3).facts;obtain ⟨d20,d21,g20,g21⟩:=(Q2.next K3).facts)
    | (go_at_call 113;refine (jL _ A3 _ _ c3 _ (zv s ns*zv s' ms) _ hr3 (aoG _) rfl hc3 HF.out).mono ?_;rintro e w3 ⟨A4,c4,rfl,hc4,hr4,hb4⟩;have K4:=tX K3 hb4;obtain ⟨i10,i11,j10,j11⟩:=(Q1.next K4).facts;obtain ⟨i20,i21,j20,j21⟩:=(Q2.next K4).facts;have U3:=Q3.next K4;obtain ⟨i30,i31,j30,j31⟩:=U3.facts;have hq0:=fun u v=>(((Q1.next K4).far (p:=⟨w.heap.size+1+1,0,none⟩) (by simp;omega) u).far (p:=⟨w.heap.size+1+1,1,none⟩) (by simp;omega) v).facts.1;have hq1:=fun u v=>(((Q1.next K4).far (p:=⟨w.heap.size+1+1,0,none⟩) (by simp;omega) u).far (p:=⟨w.heap.size+1+1,1,none⟩) (by simp;omega) v).facts.2.1))
  go_wp2
  refine bodyPost_ret (v := .agg #[.bool (sg (zv s ns*zv s' ms)),.slice A4 (mg (zv s ns*zv s' ms)).length c4]) (by simp [results,Tryz.results69,go_sem,i30,i31]) rfl ?_;exact fZ U3 hr4 hb4.size hc4 (bK hbc K4 (aoG _)) af
end Go.Proofs.BGQ
namespace Lw
def eY(a b:Int):Int:=if a<b then -1 else if a=b then 0 else 1
end Lw
namespace Lw
open Go Go.RowKit
theorem xY(l:List Nat){k:Nat}(h:k<l.length):val (l.drop k)=dg l k+4294967296*val (l.drop (k+1)):=by
 rw [aqb h,kR,mX h]
theorem Gj(l:List Nat){k j v:Nat}(h:k<j):(l.set k v).drop j=l.drop j:=by
 rw [List.drop_set,if_pos h]
theorem Nk{x r d H:Nat}(hx:0<x)(hr:r=H%x)(hd:d<4294967296) :
  (d+4294967296*r)/x<4294967296/\(d+4294967296*r)/x+4294967296*(H/x)=(d+4294967296*H)/x/\(d+4294967296*r)%x=(d+4294967296*H)%x:=by
 subst hr;have h1:=Nat.mod_add_div H x;have h2:=aoN H hx;generalize H%x=r at *;generalize H/x=q at *
 have h3:d+4294967296*H=(d+4294967296*r)+x*(4294967296*q):=by
  rw [<- h1,aoJ];have:4294967296*(x*q)=x*(4294967296*q):=by rw [<- aoV,aoR 4294967296 x,aoV]
  omega
 refine ⟨?_,?_,?_⟩
 ·rw [apy hx]
  omega
 ·rw [h3,apT _ _ hx]
 ·rw [h3,aqm]
end Lw
namespace Go.Proofs.BGQ
open Go Go.RowKit Lw
set_option maxHeartbeats 1600000 in
theorem Nj(g x:Nat)(ns:List Nat)(n c:Nat)(w:World)(hb:bF w g 113 ns)(hw:bJ ns)(hn:ns.length=n)(h1:1<=n)(hl:n<=16777216)(_hx:1<=x)(hx2:x<=4294967295) :
  Calls Tryz.prog 174 #[.slice (some ⟨g,0,none⟩) n c,.int .u32 x] w fun e w' => ∃ ds,e = .returned (.int .u32 ((val ns%x:Nat):Int))/\bF w' g 113 ds/\bJ ds/\ds.length=n/\val ds=val ns/x /\
   w.grownBy w' (some g)/\w'.heap.size=w.heap.size:=by
 have Hn:=Lib.hid hn;clear hn
 go_enter Tryz.func174,Tryz.ntmps174
 go_wp2_with fail
 go_loopw [5,6] (fun v i wr => ∃ (i':Int) (r:Nat) (ds:List Nat),-1<=i'/\i'<n/\r<=4294967294/\r<x/\i = .int .i64 i'/\v = .int .u64 r/\bF wr g 113 ds/\Hid (ds.length=n)/\bJ ds /\
   Hid (∀ j,j<(i'+1).toNat->dg ds j=dg ns j)/\Hid (val (ds.drop (i'+1).toNat)=val (ns.drop (i'+1).toNat)/x/\r=val (ns.drop (i'+1).toNat)%x)/\Hid (w.grownBy wr (some g)/\wr.heap.size=w.heap.size)) (fun _ i _=>(intOf i+1).toNat)
 case atStart=>exact ⟨(n:Int)-1,0,ns,af,af,af,af,rfl,rfl,hb,Hn,hw,Lib.hid (fun _ _=>rfl),Lib.hid (by rw [show ((n:Int)-1+1).toNat=n from af,apR (by rw [Hn.out];exact aoG _)];simp [val]),Lib.hid ⟨World.grownBy.refl w _,rfl⟩⟩
 case round =>
  obtain ⟨i',r,ds,hi,hin,hr,hrx,rfl,rfl,hb1,hdl,hdw,hsame,hv,hg⟩:=hrel;clear hb
  by_cases h0:i'<0
  ·have HV:Hid (val ds=val ns/x/\r=val ns%x):=Lib.hid (by have:=hv.out;rwa [show (i'+1).toNat=0 from af,apx,apx] at this)
   go_wp2_with fail
   go_ret
   exact ⟨ds,eP (by rw [HV.out.2]),hb1,hdw,hdl.out,HV.out.1,hg.out.1,hg.out.2⟩
  ·obtain ⟨j,rfl⟩:=apq (show 0<=i' from af)
   have hcc:=hb1.cell (i:=j) (by rw [hdl.out];omega);have hlt:=fA hdw j;have hfr:=hb1.frozen j;have HO:bits .or .u64 ((r:Int)*4294967296) (dg ds j:Int)=((dg ds j+4294967296*r:Nat):Int):=tY af hlt;have hst:=Nk (x:=x) (r:=r) (d:=dg ds j) (H:=val (ns.drop (j+1))) af (by have:=hv.out.2;rwa [show ((j:Int)+1).toNat=j+1 by omega] at this) hlt;have hm:=aoN (dg ds j+4294967296*r) (show 0<x from af);have HST:=Lib.hid hst;have HM:=Lib.hid hm;have iw:(dg ds j+4294967296*r)/x<=4294967295:=by have:=hst.1;omega
   clear hst hm;have hdj:Hid (dg ds j=dg ns j):=Lib.hid (hsame.out j af)
   go_wp2_with fail
   go_roundw
   case rel =>
    refine ⟨(j:Int)-1,(dg ds j+4294967296*r)%x,ds.set j ((dg ds j+4294967296*r)/x),af,af,by have:=HM.out;omega,HM.out,rfl,by go_num,hb1.kE (by rw [hdl.out];omega) ?_,Lib.hid (by rw [aoO];exact hdl.out),gB hdw _ af,Lib.hid ?_,Lib.hid ?_,Lib.hid ⟨mZ hg.out.1 _ _,by simp [hg.out.2]⟩⟩
    ·have h3:(((dg ds j+4294967296*r)/x:Nat):Int)=((dg ds j:Int)+4294967296*(r:Int))/(x:Int):=by simp
     rw [<- h3];generalize (dg ds j+4294967296*r)/x=q at iw ⊢;omega
    ·intro k hk
     rw [iR (l:=ds) (k:=j) _ (by rw [hdl.out];omega),if_neg af];exact hsame.out k af
    ·have hv1:=hv.out
     rw [show ((j:Int)+1).toNat=j+1 by omega] at hv1;rw [show ((j:Int)-1+1).toNat=j from af,xY (ds.set j ((dg ds j+4294967296*r)/x)) (k:=j) (by rw [aoO,hdl.out];omega),iR (l:=ds) (k:=j) _ (by rw [hdl.out];omega),if_pos rfl,Gj _ af,hv1.1,xY ns (k:=j) (by rw [Hn.out];omega),<- hdj.out];exact HST.out.2
   case measure=>simp [intOf]
end Go.Proofs.BGQ
namespace Lw
open Go Go.RowKit
def Rn:Nat->Nat->Nat
 | 0,_=>0
 | f+1,N=>if (f+1)*(f+1)<=N then f+1 else Rn f N
def rt(N:Nat):Nat:=Rn N N
theorem bitLen_spec{x:Nat}(h0:x≠0)(h:x<18446744073709551616):1<=Lib.bitLen x/\2^(Lib.bitLen x-1)<=x/\x<2^Lib.bitLen x/\Lib.bitLen x<=64:=by
 have h2:x<2^64:=af;obtain ⟨a,b,c⟩:=Lib.bitLenAux_bounds 64 x h2 h0;exact ⟨a,b,c,Lib.bitLen_le x 64 af h2⟩
end Lw
namespace Go.Proofs.BGQ
open Go Go.RowKit Lw
set_option maxHeartbeats 800000 in
theorem aeX(x y:Nat)(w:World)(hx:x<=18446744073709551615)(hy:y<=18446744073709551615) :
  Calls Tryz.prog 191 #[.int .u64 x,.int .u64 y] w fun e w'=>e = .returned (.int .u64 ((Nat.gcd x y:Nat):Int)) /\ ∃ q,w'=w.drewN q:=by
 go_enter Tryz.func191,Tryz.ntmps191
 go_wp2
 go_loopw [0,1] (fun a b wr => ∃ u v q:Nat,u<=18446744073709551615/\v<=18446744073709551615/\a = .int .u64 u/\b = .int .u64 v/\Hid (Nat.gcd u v=Nat.gcd x y)/\wr=w.drewN q) (fun _ b _=>(intOf b).toNat)
 case atStart=>exact ⟨x,y,0,hx,hy,rfl,rfl,Lib.hid rfl,rfl⟩
 case round =>
  obtain ⟨u,v,q,hu,hv,rfl,rfl,hg,rfl⟩:=hrel
  by_cases h0:v=0
  ·subst h0
   have HG:Hid (u=Nat.gcd x y):=Lib.hid (by rw [<- hg.out,aqn])
   go_wp2
   go_ret
   exact ⟨eP (by rw [<- HG.out]),q,rfl⟩
  ·have HG:Hid (Nat.gcd v (u%v)=Nat.gcd x y):=Lib.hid (by rw [<- hg.out,apm u v,Nat.gcd_rec v u,apm])
   have hm:=aoN u (show 0<v from af);have HM:=Lib.hid hm;clear hm;have hv1:1<=v:=af;have hbq:((v:Int) != 0)=true:=by rw [bne_iff_ne];omega
   clear h0
   go_wp2
   go_quiet (fail)
   go_wp2
   go_roundw
   case rel=>exact ⟨v,u%v,q+nq,hv,by have:=HM.out;omega,rfl,congrArg _ (aqd u v).symm,HG,by rw [World.drewN_drewN]⟩
   case measure =>
    show ((u:Int)%(v:Int)).toNat<((v:Int)).toNat;rw [<- aqd,apF,apF];exact HM.out
attribute [local go_sem ↓] Go.wp_at_zero Go.wp_at_succ
def uJ(w:World)(N M:Nat)(e:Ending)(w':World):Prop :=
 ∃ A c A' c',e = .returned (.tuple #[.slice A (bn N).length c,.slice A' (bn M).length c'])/\(bn N).length<=c/\(bn M).length<=c'/\Rd w' w'.heap.size A (bn N)/\Rd w' w'.heap.size A' (bn M)/\Below w.heap.size w w'
set_option maxRecDepth 100000 in
set_option maxHeartbeats 1600000 in
theorem X5(A A':Option Addr)(N M n m c c' B B':Nat)(w:World)(h:Rd w B A (bn N))(h':Rd w B' A' (bn M))(hB:B<=w.heap.size)(hB':B'<=w.heap.size)(hn:(bn N).length=n)(hm:(bn M).length=m)(hl:n<=8388608)(hl':m<=8388608)(_hc:n<=c)(hc':m<=c')(hM:M≠0)(HL:2<n->m≠1->M<=N -> ∀ W:World,Below w.heap.size w W->Calls Tryz.prog 203 #[.slice A n c,.slice A' m c'] W (uJ W (N/M) (N%M))) :
  Calls Tryz.prog 189 #[.slice A n c,.slice A' m c'] w (uJ w (N/M) (N%M)):=by
 have vN:=bM N;have vM:=bM M
 have hm1:1<=m:=by
  rcases aoT m with h0 | h0
  ·subst h0
   exact absurd (iL.1 (aoU hm)) hM
  ·exact h0
 have Hn:=Lib.hid hn;have Hm:=Lib.hid hm;have VN:=Lib.hid vN;have VM:=Lib.hid vM;have jO:=Lib.hid HL;clear hn hm vN vM HL;rcases aoM N M with hlt | hge
 ·have hcm:=BZ hlt
  have HD:Hid (N/M=0/\N%M=N):=Lib.hid ⟨ape hlt,apU hlt⟩
  go_enter aoo,aop
  go_wp2_with fail
  refine (mW A A' (bn N) (bn M) _ _ _ _ B B' _ h h' (fG _) (fG _) Hn.out Hm.out af af).mono ?_;rintro e w1 ⟨rfl,q,rfl⟩;rw [VN.out,VM.out]
  go_wp2_with fail
  refine (clone_any A (bn N) _ _ B _ (h.drewN q) (by simpa using hB) Hn.out af).mono ?_;rintro e w2 ⟨A1,c1,rfl,hc1,hg1,hr1,hb1⟩
  go_wp2_with fail
  go_ret2
  rw [HD.out.1,HD.out.2];exact ⟨none,0,A1,c1,by rw [Hn.out];rfl,aoG _,by rw [Hn.out];exact hc1,Rd.nil_ _ _ _,hr1,bK (below_drewN' _ _ _) hb1 (aoG _)⟩
 ·have hcm:=Cb hge
  by_cases h2:n<=2
  ·have NW:N<=18446744073709551615:=by have:=nH (n:=N) (k:=2) (by rw [Hn.out];exact h2);have h3:pw 2=18446744073709551616:=rfl;omega
   have Ve:Hid (lo (bn N) 2=N):=Lib.hid (by rw [di (by rw [Hn.out];exact h2),VN.out])
   have E5:Hid (lo (bn M) 2=M):=Lib.hid (by
    rw [di,VM.out];exact fD (by have h3:pw 2=18446744073709551616:=rfl;omega))
   have hq:IntKind.u64.wrap ((N:Int)/(M:Int))=((N/M:Nat):Int):=by
    rw [<- ap1];exact IntWalk.u64_in _ (by have:=ao4 N M;generalize N/M=Q at *;omega)
   have iw:N/M<=18446744073709551615:=aoH (ao4 N M) NW;have hrl:N%M<=18446744073709551615:=aoH (Nat.mod_le N M) NW;have hre:(N:Int).tmod (M:Int)=((N%M:Nat):Int):=by rw [Int.tmod_eq_emod_of_nonneg af];exact (aqd N M).symm
   obtain ⟨Q,hQ⟩ : ∃ Q,Q=N/M:=⟨_,rfl⟩;obtain ⟨R,hR⟩ : ∃ R,R=N%M:=⟨_,rfl⟩;rw [<- hQ] at hq iw ⊢;rw [<- hR] at hrl hre ⊢;clear hQ hR
   go_enter aoo,aop
   go_wp2_with fail
   refine (mW A A' (bn N) (bn M) _ _ _ _ B B' _ h h' (fG _) (fG _) Hn.out Hm.out af af).mono ?_;rintro e w1 ⟨rfl,q,rfl⟩;rw [VN.out,VM.out]
   go_wp2_with fail
   refine (Dq A (bn N) _ c B _ (h.drewN q) Hn.out af).mono ?_;rintro e w2 ⟨rfl,rfl⟩;rw [Ve.out]
   go_wp2_with fail
   refine (Dq A' (bn M) _ c' B' _ (h'.drewN q) Hm.out af).mono ?_;rintro e w2 ⟨rfl,rfl⟩;rw [E5.out]
   go_wp2_with fail
   go_region_with (first
    | (go_at_call_of 166 (Value.int IntKind.u64 (Q:Int));refine (xK Q _ iw).mono ?_;rintro e w3 ⟨A3,c3,rfl,hc3,hr3,hb3⟩)
    | (go_at_call_of 166 (Value.int IntKind.u64 (R:Int));refine (xK R _ hrl).mono ?_;rintro e w4 ⟨A4,c4,rfl,hc4,hr4,hb4⟩))
   go_wp2_with fail
   go_ret2
   have hb5:Below w.heap.size w w3:=by
    first
     | exact bK (below_drewN' _ _ (q+1)) hb3 (aoG _)
     | exact bK (below_drewN' _ _ q).drew hb3 (aoG _)
   exact ⟨A3,c3,A4,c4,rfl,hc3,hc4,(hr3.next hb4 (aoG _)).more hb4.size,hr4,bK hb5 hb4 (aoG _)⟩
  ·by_cases h1:m=1
   ·subst h1
    obtain ⟨b,off,rfl,hb,hcell,hlt⟩:=h'.at_ (k:=0) (by rw [Hm.out];omega)
    have hx:Hid (dg (bn M) 0=M):=Lib.hid (by
     have e1:=di (l:=bn M) (k:=1) (by rw [Hm.out];omega);rw [dh,fH,kY,VM.out] at e1;omega)
    rw [hx.out] at hcell hlt;rw [apv] at hcell
    go_enter aoo,aop
    go_wp2_with fail
    refine (mW A (some ⟨b,off,none⟩) (bn N) (bn M) _ _ _ _ B B' _ h h' (fG _) (fG _) Hn.out Hm.out af af).mono ?_;rintro e w1 ⟨rfl,q,rfl⟩;rw [VN.out,VM.out]
    go_wp2_with fail
    refine (clone_any A (bn N) _ _ B _ (h.drewN q) (by simpa using hB) Hn.out af).mono ?_;rintro e w2 ⟨A1,c1,rfl,hc1,hg1,hr1,hb1⟩;obtain ⟨g,rfl,hgl,hblk⟩:=hg1 af;have hcell2:=(hb1.cell (p:=⟨b,off,none⟩) (by simp;omega)).trans hcell;have hb2:=bK (below_drewN' w.heap.size w q) hb1 (aoG _);clear hb1
    go_wp2_with fail
    refine (Nj g M (bn N) _ c1 _ hblk (dK _) Hn.out af af af af).mono ?_;rintro e w3 ⟨ds,rfl,hblk3,hw3,hl3,hv3,hg3,hs3⟩;rw [VN.out] at hv3 ⊢;have Ox:=aoN N (show 0<M from af);obtain ⟨R,hR⟩ : ∃ R,R=N%M:=⟨_,rfl⟩;rw [<- hR] at Ox ⊢;have HR:=Lib.hid hR;clear hR;have hb4:=below_of_grown hb2 hg3 hb2.size hgl;have hr3:=hblk3.rd hw3
    go_wp2_with fail
    refine (mJ _ ds _ c1 _ _ hr3 hl3 af af).mono ?_;rintro e w4 ⟨rfl,rfl⟩;rw [hv3]
    go_wp2_with fail
    refine (xK R _ af).mono ?_;rintro e w5 ⟨A5,c5,rfl,hc5,iO,hb5⟩
    go_wp2_with fail
    go_ret2
    rw [<- HR.out];have hr4:=hr3.bn;rw [hv3] at hr4;have hc4:=jP hw3;rw [hv3,hl3] at hc4;exact ⟨_,_,A5,c5,rfl,aoH hc4 hc1,hc5,(hr4.next hb5 (aoG _)).more hb5.size,iO,bK hb4 hb5 (by have:=hb2.size;omega)⟩
   ·have hbq:((m:Int)==1)=false:=by rw [beq_eq_false_iff_ne];omega
    go_enter aoo,aop
    go_wp2_with fail
    refine (mW A A' (bn N) (bn M) _ _ _ _ B B' _ h h' (fG _) (fG _) Hn.out Hm.out af af).mono ?_;rintro e w1 ⟨rfl,q,rfl⟩;rw [VN.out,VM.out]
    go_wp2_with fail
    refine (jO.out af h1 hge _ (below_drewN' _ _ _)).mono ?_;rintro e w2 ⟨A1,c1,A2,c2,rfl,hc1,hc2,hr1,hr2,hb1⟩
    go_wp2_with fail
    go_ret2
    exact ⟨A1,c1,A2,c2,rfl,hc1,hc2,hr1,hr2,bK (below_drewN' _ _ _) hb1 (aoG _)⟩
def FN:Prop := ∀ (A A':Option Addr) (N M n m c c' B B':Nat) (w:World),Rd w B A (bn N)->Rd w B' A' (bn M)->B<=w.heap.size->B'<=w.heap.size->(bn N).length=n->(bn M).length=m->n<=8388608->m<=8388608->2<=m->M<=N ->
 Calls Tryz.prog 203 #[.slice A n c,.slice A' m c'] w (uJ w (N/M) (N%M))
theorem Gi(A A':Option Addr)(N M n m c c' B B':Nat)(w:World)(h:Rd w B A (bn N))(h':Rd w B' A' (bn M))(hB:B<=w.heap.size)(hB':B'<=w.heap.size)(hn:(bn N).length=n)(hm:(bn M).length=m)(hl:n<=8388608)(hl':m<=8388608)(hc:n<=c)(hc':m<=c')(hM:M≠0)(HL:n<=2\/FN) :
  Calls Tryz.prog 189 #[.slice A n c,.slice A' m c'] w (uJ w (N/M) (N%M)):=by
 refine X5 A A' N M n m c c' B B' w h h' hB hB' hn hm hl hl' hc hc' hM ?_;intro h2 h1 jR W hb;rcases HL with HL | HL
 ·omega
 ·have hm0:m≠0:=by
   intro e;subst e;exact hM (iL.1 (aoU hm))
  exact HL A A' N M n m c c' B B' W (h.below (hb.mono hB)) (h'.below (hb.mono hB')) (aoH hB hb.size) (aoH hB' hb.size) hn hm hl hl' af jR
end Go.Proofs.BGQ
