/- Part of a proof, said shortly. -/
import Derived.Deep.RegionHeld3
import Derived.Deep.DrawnRows
import Derived.Deep.RegionWith
import Derived.Deep.DeepCutAuto
import Derived.Lib.ItoaNum
import Derived.Test.YtbihljnjaondcaaGreatDoorAlz
import Derived.Test.YtbihljnjaondcaaGreatDoorC2
import Derived.Test.YtbihljnjaondcaaGreatDoorC1
namespace Lw
theorem aBq (z:Int) : -z=if (!sg z)=true then -(z.natAbs:Int) else (z.natAbs:Int):=by
 unfold sg
 by_cases hz:z < 0
 ·simp [hz]; omega
 ·simp [hz]; omega
end Lw
namespace Go.Proofs.YtbihljnjaondcaaGreatDoor
open Go Go.RowKit Lw
attribute [local go_sem ↓] Go.wp_at_zero Go.wp_at_succ
set_option maxHeartbeats 1600000 in
theorem aBo (s:Bool) (A:Option Addr) (ns:List Nat) (n c B:Nat) (w:World) (h:Rd w B A ns) (hB:B≤w.heap.size) (hn:ns.length=n) (hl:n≤16777216) (hc:n≤c) :
  Calls Tryz.prog 225 #[.agg #[.bool s,.slice A n c]] w (DX w (- zv s ns)):=by
 go_enter Tryz.func225,Tryz.ntmps225
 go_wp2_with fail
 refine (EQ s A ns n c B _ ((h.alloc hB _).alloc (by simp; omega) _) (by simp; omega) hn hl hc).mono ?_
 rintro e w1 ⟨A1,c1,rfl,hc1,hr1,hb1⟩
 obtain ⟨t1,t2,hs1,hb2⟩:=fF hb1
 obtain ⟨c10,c11,f10,f11⟩:=t1.facts
 obtain ⟨c20,c21,f20,f21⟩:=t2.facts
 have hlz:=Cc (s:=s) h.gW
 rw [hn] at hlz
 generalize hz:zv s ns=z at *
 have Hz:=Lib.hid hz
 clear hz
 go_wp2_with fail
 have T1:=t1.put (.bool (sg z)) (.slice A1 (mg z).length c1)
 have T2:=(t2.far (p:=⟨w.heap.size,0,none⟩) (by simp) (.bool (sg z))).far (p:=⟨w.heap.size,1,none⟩) (by simp) (.slice A1 (mg z).length c1)
 have hr2:=(hr1.setCell (p:=⟨w.heap.size,0,none⟩) hB (.bool (sg z))).setCell (p:=⟨w.heap.size,1,none⟩) hB (.slice A1 (mg z).length c1)
 have hb3:=(hb2.setCell (p:=⟨w.heap.size,0,none⟩) (Nat.le_refl _) (.bool (sg z))).setCell (p:=⟨w.heap.size,1,none⟩) (Nat.le_refl _) (.slice A1 (mg z).length c1)
 clear c10 c11 f10 f11 c20 c21 f20 f21 t1 t2 hr1 hb1 hs1 hb2
 generalize ((w1.setCell ⟨w.heap.size,0,none⟩ (.bool (sg z))).setCell ⟨w.heap.size,1,none⟩ (.slice A1 (mg z).length c1))=W at *
 obtain ⟨c10,c11,f10,f11⟩:=T1.facts
 obtain ⟨c20,c21,f20,f21⟩:=T2.facts
 have hl2:=T2.lt
 go_region_held3 (fun w'=>w'.cell? ⟨w.heap.size,0,none⟩=some (.bool (sg z))∧w'.cell? ⟨w.heap.size,1,none⟩=some (.slice A1 (mg z).length c1)) (go_keep)
  (first
   | (go_at_call 185; refine (clone_any A1 (mg z) _ c1 B _ (by first | exact hr2.drew | exact hr2.drewN _ | exact hr2) (by simp; omega) rfl (by omega)).mono ?_; rintro e w2 ⟨A2,c2,rfl,hc2,hg2,hr3,hb4⟩; have U1:=T1.drew.below hb4 T1.lt; have U2:=T2.drew.below hb4 T2.lt; obtain ⟨d10,d11,g10,g11⟩:=U1.facts)
   | (go_at_call 156; refine (Eh (!sg z) A2 z.natAbs _ c2 _ (-z) _ (by first | exact hr3.drew | exact hr3.drewN _ | exact hr3) (by simp) rfl hc2 (aBq z)).mono ?_; rintro e w3 ⟨A3,c3,rfl,hc3,hr4,hb5⟩; have V1:=U1.below hb5 U1.lt; have V2:=U2.below hb5 U2.lt; obtain ⟨i10,i11,j10,j11⟩:=V1.facts; obtain ⟨i20,i21,j20,j21⟩:=V2.facts))
 go_wp2
 refine bodyPost_ret (v := .agg #[.bool (sg (-z)),.slice A3 (mg (-z)).length c3]) (by simp [results,Tryz.results225,go_sem,i20,i21]) rfl ?_
 exact zX V2 hr4 hb5.size hc3 (fK (fK hb3.drew hb4 (Nat.le_refl _)) hb5 (Nat.le_refl _)) (by simp)
end Go.Proofs.YtbihljnjaondcaaGreatDoor
namespace Lw
def sv (s:Bool) (N:Nat):Int:=if s then -(N:Int) else (N:Int)
theorem Qp (z:Int):sv (sg z) z.natAbs=z:=by have:=Vw z; rw [vV] at this; exact this.symm
theorem sv_eq (s s':Bool) (h:(s==s')=true) (N M:Nat):sv s N+sv s' M=sv s (N+M):=by
 cases s <;> cases s' <;> simp [sv] at * <;> omega
theorem asc (s s':Bool) (h:(s==s')=false) {N M:Nat} (hle:M≤N):sv s N+sv s' M=sv s (N - M):=by
 cases s <;> cases s' <;> simp [sv] at * <;> omega
theorem ase (s s':Bool) (h:(s==s')=false) {N M:Nat} (hle:N≤M):sv s N+sv s' M=sv s' (M - N):=by
 cases s <;> cases s' <;> simp [sv] at * <;> omega
theorem XF {a b:Nat} (h:a < b):yB a b < 0:=by rw [Py h]; omega
theorem XG {a b:Nat} (h:b≤a):¬ yB a b < 0:=by unfold yB; rw [if_neg (by omega)]; split <;> omega
end Lw
namespace Go.Proofs.YtbihljnjaondcaaGreatDoor
open Go Go.RowKit Lw
set_option maxHeartbeats 1600000 in
theorem sum_any (s s':Bool) (A A':Option Addr) (N M:Nat) (n m c c' B B':Nat) (w:World) (h:Rd w B A (bg N)) (h':Rd w B' A' (bg M)) (hB:B≤w.heap.size) (hB':B'≤w.heap.size)
  (hn:(bg N).length=n) (hm:(bg M).length=m) (hl:n≤8388608) (hl':m≤8388608) (hc:n≤c) (hc':m≤c') :
  Calls Tryz.prog 224 #[.bool s,.slice A n c,.bool s',.slice A' m c'] w (DX w (sv s N+sv s' M)):=by
 have vN:=fA N
 have vM:=fA M
 have Hn:=Lib.hid hn
 have Hm:=Lib.hid hm
 have VN:=Lib.hid vN
 have VM:=Lib.hid vM
 clear hn hm vN vM
 cases hs:(s==s')
 ·rcases Nat.lt_or_ge N M with hlt | hge
  ·have HZ:Hid (sv s N+sv s' M=sv s' (M - N)):=Lib.hid (ase s s' hs (Nat.le_of_lt hlt))
   have hcm:=XF hlt
   go_enter Tryz.func224,Tryz.ntmps224
   go_wp2_with fail
   refine (IK A A' (bg N) (bg M) _ _ _ _ B B' _ (h.alloc hB _) (h'.alloc hB' _) (vU _) (vU _) Hn.out Hm.out (by omega) (by omega)).mono ?_
   rintro e w1 ⟨rfl,q,hw1⟩
   rw [VN.out,VM.out]
   have hb0:Below (w.alloc (.cells #[.bool false,.slice none 0 0] 39)).heap.size (w.alloc (.cells #[.bool false,.slice none 0 0] 39)) w1:=by
    rw [hw1]; exact below_drewN' _ _ _
   obtain ⟨t0,hs0,RN⟩:=box1 hb0
   have h1:=h.below (RN.mono hB)
   have h1':=h'.below (RN.mono hB')
   clear hw1 hb0
   go_wp2_with fail
   refine (ajF A' A (bg M) (bg N) _ _ _ _ B' B _ h1' h1 (by omega) (by omega) Hm.out Hn.out (by omega) (by omega) (by rw [VN.out,VM.out]; omega)).mono ?_
   rintro e w2 ⟨A1,c1,rfl,hc1,hr1,hb1⟩
   rw [VN.out,VM.out] at *
   have t1:=t0.below hb1 t0.lt
   have hb2:=fK RN hb1 (by omega)
   have hsz:=hb1.size
   go_wp2_with fail
   refine (Eh s' A1 (M - N) _ c1 _ (sv s N+sv s' M) _ hr1 (Nat.le_refl _) rfl hc1 HZ.out).mono ?_
   rintro e w3 ⟨A2,c2,rfl,hc2,hr2,hb3⟩
   have T2:=t1.below hb3 t1.lt
   obtain ⟨d0,d1,g0,g1⟩:=T2.facts
   go_wp2_with fail
   refine bodyPost_ret (v := .agg #[.bool (sg (sv s N+sv s' M)),.slice A2 (mg (sv s N+sv s' M)).length c2]) (by simp [results,Tryz.results224,go_sem,d0,d1]) rfl ?_
   exact zX T2 hr2 hb3.size hc2 (fK hb2 hb3 (by omega)) (Nat.le_refl _)
  ·have HZ:Hid (sv s N+sv s' M=sv s (N - M)):=Lib.hid (asc s s' hs hge)
   have hcm:=XG hge
   go_enter Tryz.func224,Tryz.ntmps224
   go_wp2_with fail
   refine (IK A A' (bg N) (bg M) _ _ _ _ B B' _ (h.alloc hB _) (h'.alloc hB' _) (vU _) (vU _) Hn.out Hm.out (by omega) (by omega)).mono ?_
   rintro e w1 ⟨rfl,q,hw1⟩
   rw [VN.out,VM.out]
   have hb0:Below (w.alloc (.cells #[.bool false,.slice none 0 0] 39)).heap.size (w.alloc (.cells #[.bool false,.slice none 0 0] 39)) w1:=by
    rw [hw1]; exact below_drewN' _ _ _
   obtain ⟨t0,hs0,RN⟩:=box1 hb0
   have h1:=h.below (RN.mono hB)
   have h1':=h'.below (RN.mono hB')
   clear hw1 hb0
   go_wp2_with fail
   refine (ajF A A' (bg N) (bg M) _ _ _ _ B B' _ h1 h1' (by omega) (by omega) Hn.out Hm.out (by omega) (by omega) (by rw [VN.out,VM.out]; omega)).mono ?_
   rintro e w2 ⟨A1,c1,rfl,hc1,hr1,hb1⟩
   rw [VN.out,VM.out] at *
   have t1:=t0.below hb1 t0.lt
   have hb2:=fK RN hb1 (by omega)
   have hsz:=hb1.size
   go_wp2_with fail
   refine (Eh s A1 (N - M) _ c1 _ (sv s N+sv s' M) _ hr1 (Nat.le_refl _) rfl hc1 HZ.out).mono ?_
   rintro e w3 ⟨A2,c2,rfl,hc2,hr2,hb3⟩
   have T2:=t1.below hb3 t1.lt
   obtain ⟨d0,d1,g0,g1⟩:=T2.facts
   go_wp2_with fail
   refine bodyPost_ret (v := .agg #[.bool (sg (sv s N+sv s' M)),.slice A2 (mg (sv s N+sv s' M)).length c2]) (by simp [results,Tryz.results224,go_sem,d0,d1]) rfl ?_
   exact zX T2 hr2 hb3.size hc2 (fK hb2 hb3 (by omega)) (Nat.le_refl _)
 ·have HZ:Hid (sv s N+sv s' M=sv s (N+M)):=Lib.hid (sv_eq s s' hs N M)
  have Hs:=Lib.hid hs
  go_enter Tryz.func224,Tryz.ntmps224
  go_wp2_with fail
  refine (add_any A A' (bg N) (bg M) _ _ _ _ B B' _ (h.alloc hB _) (h'.alloc hB' _) (by simp; omega) (by simp; omega) Hn.out Hm.out (by omega) (by omega) hc hc').mono ?_
  rintro e w1 ⟨A1,c1,rfl,hc1,hr1,hb1⟩
  rw [VN.out,VM.out] at *
  obtain ⟨t1,hs1,hb2⟩:=box1 hb1
  go_wp2_with fail
  refine (Eh s A1 (N+M) _ c1 _ (sv s N+sv s' M) _ hr1 (Nat.le_refl _) rfl hc1 HZ.out).mono ?_
  rintro e w2 ⟨A2,c2,rfl,hc2,hr2,hb3⟩
  have T2:=t1.below hb3 t1.lt
  obtain ⟨d0,d1,g0,g1⟩:=T2.facts
  go_wp2_with fail
  refine bodyPost_ret (v := .agg #[.bool (sg (sv s N+sv s' M)),.slice A2 (mg (sv s N+sv s' M)).length c2]) (by simp [results,Tryz.results224,go_sem,d0,d1]) rfl ?_
  exact zX T2 hr2 hb3.size hc2 (fK hb2 hb3 (by omega)) (Nat.le_refl _)
end Go.Proofs.YtbihljnjaondcaaGreatDoor
namespace Go.Proofs.YtbihljnjaondcaaGreatDoor
open Go Go.RowKit Lw
attribute [local go_sem ↓] Go.wp_at_zero Go.wp_at_succ
set_option maxHeartbeats 3200000 in
theorem axb (s s':Bool) (A A':Option Addr) (ns ms:List Nat) (n m c c' B B':Nat) (w:World) (h:Rd w B A ns) (h':Rd w B' A' ms) (hB:B≤w.heap.size) (hB':B'≤w.heap.size)
  (hn:ns.length=n) (hm:ms.length=m) (hl:n≤8388608) (hl':m≤8388608) (hc:n≤c) (hc':m≤c') :
  Calls Tryz.prog 192 #[.agg #[.bool s,.slice A n c],.agg #[.bool s',.slice A' m c']] w (DX w (zv s ns+zv s' ms)):=by
 have hlz:=Cc (s:=s) h.gW
 have hlz':=Cc (s:=s') h'.gW
 rw [hn] at hlz
 rw [hm] at hlz'
 go_enter Tryz.func192,Tryz.ntmps192
 go_upto_region 1 with fail
 obtain ⟨T1,T2,T3,_,hb0⟩:=gQ (Below.refl _ (((w.alloc (.cells #[.bool s,.slice A n c] 39)).alloc (.cells #[.bool s',.slice A' m c'] 39)).alloc (.cells #[.bool false,.slice none 0 0] 39)))
 have R1:=h.below (hb0.mono hB)
 have R2:=h'.below (hb0.mono hB')
 generalize hW:(((w.alloc (.cells #[.bool s,.slice A n c] 39)).alloc (.cells #[.bool s',.slice A' m c'] 39)).alloc (.cells #[.bool false,.slice none 0 0] 39))=W at *
 clear hW
 have l3:=T3.lt
 obtain ⟨c10,c11,f10,f11⟩:=T1.facts
 obtain ⟨c20,c21,f20,f21⟩:=T2.facts
 go_cut [] (fun wc => ∃ A1 c1 A2 c2,Two wc w.heap.size 39 (.bool (sg (zv s ns))) (.slice A1 (mg (zv s ns)).length c1)∧Two wc (w.heap.size+1) 39 (.bool (sg (zv s' ms))) (.slice A2 (mg (zv s' ms)).length c2) ∧
  Two wc (w.heap.size+1+1) 39 (.bool false) (.slice none 0 0)∧Rd wc B A1 (mg (zv s ns))∧Rd wc B' A2 (mg (zv s' ms))∧Below w.heap.size w wc∧(mg (zv s ns)).length≤c1∧(mg (zv s' ms)).length≤c2)
 case first =>
  go_region_with (first
   | (go_at_call_of 151 (Value.agg #[Value.bool s,Value.slice A n c]); refine (EQ s A ns n c B _ (by first | exact R1.drew | exact R1.next K2 (by omega)) (by first | (simp; omega) | (have:=K2.size; omega)) hn (by omega) hc).mono ?_; rintro e w1 ⟨A1,c1,rfl,hc1,hr1,hb1⟩; have K1:Below W.heap.size W w1:=(by first | exact F7 hb1 | exact Jn K2 hb1); obtain ⟨d10,d11,g10,g11⟩:=(T1.next K1).facts; obtain ⟨d20,d21,g20,g21⟩:=(T2.next K1).facts)
   | (go_at_call_of 151 (Value.agg #[Value.bool s',Value.slice A' m c']); refine (EQ s' A' ms m c' B' _ (by first | exact R2.drew | exact R2.next K1 (by omega)) (by first | (simp; omega) | (have:=K1.size; omega)) hm (by omega) hc').mono ?_; rintro e w2 ⟨A2,c2,rfl,hc2,hr2,hb2⟩; have K2:Below W.heap.size W w2:=(by first | exact F7 hb2 | exact Jn K1 hb2); obtain ⟨i10,i11,j10,j11⟩:=(T1.next K2).facts; obtain ⟨i20,i21,j20,j21⟩:=(T2.next K2).facts))
  all_goals
   obtain ⟨P1,P2,P3,P4,P5⟩:_∧_∧_∧_∧_:=by
    first
     | exact F9 (sg (zv s ns)) (sg (zv s' ms)) (.slice A1 (mg (zv s ns)).length c1) (.slice A2 (mg (zv s' ms)).length c2) (T1.next K2) (T2.next K2) (by omega) (hr1.next hb2 (by have:=K1.size; omega)) hr2 (fK hb0 K2 (by omega)) (Nat.le_refl _) (by omega)
     | exact F9 (sg (zv s ns)) (sg (zv s' ms)) (.slice A1 (mg (zv s ns)).length c1) (.slice A2 (mg (zv s' ms)).length c2) (T1.next K1) (T2.next K1) (by omega) hr1 (hr2.next hb1 (by have:=K2.size; omega)) (fK hb0 K1 (by omega)) (Nat.le_refl _) (by omega)
   clear d10 d11 g10 g11 d20 d21 g20 g21 i10 i11 i20 i21 j10 j11 j20 j21 c10 c11 c20 c21 f10 f11 f20 f21
   go_wp2_with fail
   go_meet
   have Rh:=(T3.next K1)
   have Ri:=(T3.next K2)
   exact ⟨A1,c1,A2,c2,P1,P2,by first | exact Ri.D9 (by omega) (by omega) _ _ _ _ | exact Rh.D9 (by omega) (by omega) _ _ _ _,P3,P4,P5,hc1,hc2⟩
 case rest =>
  obtain ⟨A1,c1,A2,c2,Q1,Q2,Q3,r1,r2,hbc,hc1,hc2⟩:=hcut
  clear T1 T2 T3 R1 R2 hb0 l3 c10 c11 c20 c21 f10 f11 f20 f21
  obtain ⟨c10,c11,f10,f11⟩:=Q1.facts
  obtain ⟨c20,c21,f20,f21⟩:=Q2.facts
  go_wp2_with fail
  refine (sum_any (sg (zv s ns)) (sg (zv s' ms)) A1 A2 (zv s ns).natAbs (zv s' ms).natAbs _ _ c1 c2 B B' _ r1 r2 (by have:=hbc.size; omega) (by have:=hbc.size; omega) rfl rfl (Nat.le_trans hlz hl) (Nat.le_trans hlz' hl') hc1 hc2).mono ?_
  rw [Qp,Qp]
  rintro e w3 ⟨A3,c3,rfl,hc3,hr3,hb3⟩
  have U3:=Q3.next hb3
  obtain ⟨d0,d1,g0,g1⟩:=U3.facts
  go_wp2_with fail
  refine bodyPost_ret (v := .agg #[.bool (sg (zv s ns+zv s' ms)),.slice A3 (mg (zv s ns+zv s' ms)).length c3]) (by simp [results,Tryz.results192,go_sem,d0,d1]) rfl ?_
  exact zX U3 hr3 (Nat.le_refl _) hc3 (fK hbc hb3 (Nat.le_refl _)) (by omega)
end Go.Proofs.YtbihljnjaondcaaGreatDoor
namespace Lw
theorem aoZ (a b:Int):a*b=if (sg a != sg b)=true then -((a.natAbs*b.natAbs:Nat):Int) else ((a.natAbs*b.natAbs:Nat):Int):=by
 have ha:=Vw a
 have hb:=Vw b
 rw [vV] at ha hb
 rw [Int.natCast_mul]
 generalize (a.natAbs:Int)=x at *
 generalize (b.natAbs:Int)=y at *
 cases h1:sg a <;> cases h2:sg b <;> rw [h1] at ha <;> rw [h2] at hb <;> simp at ha hb <;> rw [ha,hb] <;> simp [Int.neg_mul,Int.mul_neg]
end Lw
namespace Go.Proofs.YtbihljnjaondcaaGreatDoor
open Go Go.RowKit Lw
attribute [local go_sem ↓] Go.wp_at_zero Go.wp_at_succ
set_option maxHeartbeats 3200000 in
theorem aBh (s s':Bool) (A A':Option Addr) (ns ms:List Nat) (n m c c' B B':Nat) (w:World) (h:Rd w B A ns) (h':Rd w B' A' ms) (hB:B≤w.heap.size) (hB':B'≤w.heap.size)
  (hn:ns.length=n) (hm:ms.length=m) (hl:n≤8388608) (hl':m≤8388608) (hc:n≤c) (hc':m≤c') :
  Calls Tryz.prog 91 #[.agg #[.bool s,.slice A n c],.agg #[.bool s',.slice A' m c']] w (DX w (zv s ns*zv s' ms)):=by
 have hlz:=Cc (s:=s) h.gW
 have hlz':=Cc (s:=s') h'.gW
 rw [hn] at hlz
 rw [hm] at hlz'
 go_enter Tryz.func91,Tryz.ntmps91
 go_upto_region 1 with fail
 obtain ⟨T1,T2,T3,_,hb0⟩:=gQ (Below.refl _ (((w.alloc (.cells #[.bool s,.slice A n c] 39)).alloc (.cells #[.bool s',.slice A' m c'] 39)).alloc (.cells #[.bool false,.slice none 0 0] 39)))
 have R1:=h.below (hb0.mono hB)
 have R2:=h'.below (hb0.mono hB')
 generalize hW:(((w.alloc (.cells #[.bool s,.slice A n c] 39)).alloc (.cells #[.bool s',.slice A' m c'] 39)).alloc (.cells #[.bool false,.slice none 0 0] 39))=W at *
 clear hW
 have l3:=T3.lt
 obtain ⟨c10,c11,f10,f11⟩:=T1.facts
 obtain ⟨c20,c21,f20,f21⟩:=T2.facts
 go_cut [] (fun wc => ∃ A1 c1 A2 c2,Two wc w.heap.size 39 (.bool (sg (zv s ns))) (.slice A1 (mg (zv s ns)).length c1)∧Two wc (w.heap.size+1) 39 (.bool (sg (zv s' ms))) (.slice A2 (mg (zv s' ms)).length c2) ∧
  Two wc (w.heap.size+1+1) 39 (.bool false) (.slice none 0 0)∧Rd wc B A1 (mg (zv s ns))∧Rd wc B' A2 (mg (zv s' ms))∧Below w.heap.size w wc∧(mg (zv s ns)).length≤c1∧(mg (zv s' ms)).length≤c2)
 case first =>
  go_region_with (first
   | (go_at_call_of 151 (Value.agg #[Value.bool s,Value.slice A n c]); refine (EQ s A ns n c B _ (by first | exact R1.drew | exact R1.next K2 (by omega)) (by first | (simp; omega) | (have:=K2.size; omega)) hn (by omega) hc).mono ?_; rintro e w1 ⟨A1,c1,rfl,hc1,hr1,hb1⟩; have K1:Below W.heap.size W w1:=(by first | exact F7 hb1 | exact Jn K2 hb1); obtain ⟨d10,d11,g10,g11⟩:=(T1.next K1).facts; obtain ⟨d20,d21,g20,g21⟩:=(T2.next K1).facts)
   | (go_at_call_of 151 (Value.agg #[Value.bool s',Value.slice A' m c']); refine (EQ s' A' ms m c' B' _ (by first | exact R2.drew | exact R2.next K1 (by omega)) (by first | (simp; omega) | (have:=K1.size; omega)) hm (by omega) hc').mono ?_; rintro e w2 ⟨A2,c2,rfl,hc2,hr2,hb2⟩; have K2:Below W.heap.size W w2:=(by first | exact F7 hb2 | exact Jn K1 hb2); obtain ⟨i10,i11,j10,j11⟩:=(T1.next K2).facts; obtain ⟨i20,i21,j20,j21⟩:=(T2.next K2).facts))
  all_goals
   obtain ⟨P1,P2,P3,P4,P5⟩:_∧_∧_∧_∧_:=by
    first
     | exact F9 (sg (zv s ns)) (sg (zv s' ms)) (.slice A1 (mg (zv s ns)).length c1) (.slice A2 (mg (zv s' ms)).length c2) (T1.next K2) (T2.next K2) (by omega) (hr1.next hb2 (by have:=K1.size; omega)) hr2 (fK hb0 K2 (by omega)) (Nat.le_refl _) (by omega)
     | exact F9 (sg (zv s ns)) (sg (zv s' ms)) (.slice A1 (mg (zv s ns)).length c1) (.slice A2 (mg (zv s' ms)).length c2) (T1.next K1) (T2.next K1) (by omega) hr1 (hr2.next hb1 (by have:=K2.size; omega)) (fK hb0 K1 (by omega)) (Nat.le_refl _) (by omega)
   clear d10 d11 g10 g11 d20 d21 g20 g21 i10 i11 i20 i21 j10 j11 j20 j21 c10 c11 c20 c21 f10 f11 f20 f21
   go_wp2_with fail
   go_meet
   have Rh:=(T3.next K1)
   have Ri:=(T3.next K2)
   exact ⟨A1,c1,A2,c2,P1,P2,by first | exact Ri.D9 (by omega) (by omega) _ _ _ _ | exact Rh.D9 (by omega) (by omega) _ _ _ _,P3,P4,P5,hc1,hc2⟩
 case rest =>
  obtain ⟨A1,c1,A2,c2,Q1,Q2,Q3,r1,r2,hbc,hc1,hc2⟩:=hcut
  clear T1 T2 T3 R1 R2 hb0 l3 c10 c11 c20 c21 f10 f11 f20 f21
  obtain ⟨c10,c11,f10,f11⟩:=Q1.facts
  obtain ⟨c20,c21,f20,f21⟩:=Q2.facts
  go_wp2_with fail
  have l3:=Q3.lt
  have HM:Hid (val (mg (zv s ns))*val (mg (zv s' ms))=(zv s ns).natAbs*(zv s' ms).natAbs):=Lib.hid (by rw [vV,vV])
  have HF:Hid (zv s ns*zv s' ms=if (sg (zv s ns) != sg (zv s' ms))=true then -(((zv s ns).natAbs*(zv s' ms).natAbs:Nat):Int) else (((zv s ns).natAbs*(zv s' ms).natAbs:Nat):Int)):=Lib.hid (aoZ _ _)
  go_region_held3 (fun w'=>w'.cell? ⟨w.heap.size,0,none⟩=some (.bool (sg (zv s ns)))∧w'.cell? ⟨w.heap.size,1,none⟩=some (.slice A1 (mg (zv s ns)).length c1)∧w'.cell? ⟨w.heap.size+1,0,none⟩=some (.bool (sg (zv s' ms)))∧w'.cell? ⟨w.heap.size+1,1,none⟩=some (.slice A2 (mg (zv s' ms)).length c2)) (first | go_keep | (go_split_ands; refine ⟨hq0 _ _,hq1 _ _,?_,?_⟩ <;> go_keep))
   (first
    | (go_at_call 157; refine (aBj A1 A2 (mg (zv s ns)) (mg (zv s' ms)) _ _ c1 c2 B B' _ (by first | exact r1.drew | exact r1) (by first | exact r2.drew | exact r2) (by simp; omega) (by simp; omega) rfl rfl (by omega) (by omega)).mono ?_; rintro e w2 ⟨A3,c3,rfl,hc3,hr3,hb3⟩; rw [HM.out] at *; have K3:=F7 hb3; obtain ⟨d10,d11,g10,g11⟩:=(Q1.next K3).facts; obtain ⟨d20,d21,g20,g21⟩:=(Q2.next K3).facts)
    | (go_at_call 156; refine (Eh _ A3 _ _ c3 _ (zv s ns*zv s' ms) _ hr3 (Nat.le_refl _) rfl hc3 HF.out).mono ?_; rintro e w3 ⟨A4,c4,rfl,hc4,hr4,hb4⟩; have K4:=Jn K3 hb4; obtain ⟨i10,i11,j10,j11⟩:=(Q1.next K4).facts; obtain ⟨i20,i21,j20,j21⟩:=(Q2.next K4).facts; have U3:=Q3.next K4; obtain ⟨i30,i31,j30,j31⟩:=U3.facts; have hq0:=fun u v=>(((Q1.next K4).far (p:=⟨w.heap.size+1+1,0,none⟩) (by simp; omega) u).far (p:=⟨w.heap.size+1+1,1,none⟩) (by simp; omega) v).facts.1; have hq1:=fun u v=>(((Q1.next K4).far (p:=⟨w.heap.size+1+1,0,none⟩) (by simp; omega) u).far (p:=⟨w.heap.size+1+1,1,none⟩) (by simp; omega) v).facts.2.1))
  go_wp2
  refine bodyPost_ret (v := .agg #[.bool (sg (zv s ns*zv s' ms)),.slice A4 (mg (zv s ns*zv s' ms)).length c4]) (by simp [results,Tryz.results91,go_sem,i30,i31]) rfl ?_
  exact zX U3 hr4 hb4.size hc4 (fK hbc K4 (Nat.le_refl _)) (by omega)
end Go.Proofs.YtbihljnjaondcaaGreatDoor
namespace Lw
def vP (a b:Int):Int:=if a < b then -1 else if a=b then 0 else 1
theorem axK {a b:Int} (ha:sg a=false) (hb:sg b=false):yB a.natAbs b.natAbs=vP a b:=by
 unfold sg at *; simp at ha hb; unfold yB vP; split <;> split <;> (try split) <;> (try split) <;> omega
theorem axH {a b:Int} (ha:sg a=true) (hb:sg b=true):yB b.natAbs a.natAbs=vP a b:=by
 unfold sg at *; simp at ha hb; unfold yB vP; split <;> split <;> (try split) <;> (try split) <;> omega
theorem axJ {a b:Int} (ha:sg a=false) (hb:sg b=true):1=vP a b:=by
 unfold sg at *; simp at ha hb; unfold vP; rw [if_neg (by omega),if_neg (by omega)]
theorem axI {a b:Int} (ha:sg a=true) (hb:sg b=false) : -1=vP a b:=by
 unfold sg at *; simp at ha hb; unfold vP; rw [if_pos (by omega)]
end Lw
namespace Go.Proofs.YtbihljnjaondcaaGreatDoor
open Go Go.RowKit Lw
attribute [local go_sem ↓] Go.wp_at_zero Go.wp_at_succ
set_option maxHeartbeats 3200000 in
theorem axP (s s':Bool) (A A':Option Addr) (ns ms:List Nat) (n m c c' B B':Nat) (w:World) (h:Rd w B A ns) (h':Rd w B' A' ms) (hB:B≤w.heap.size) (hB':B'≤w.heap.size)
  (hn:ns.length=n) (hm:ms.length=m) (hl:n≤8388608) (hl':m≤8388608) (hc:n≤c) (hc':m≤c') :
  Calls Tryz.prog 112 #[.agg #[.bool s,.slice A n c],.agg #[.bool s',.slice A' m c']] w fun e w'=>e = .returned (.int .i64 (vP (zv s ns) (zv s' ms)))∧Below w.heap.size w w':=by
 have hlz:=Cc (s:=s) h.gW
 have hlz':=Cc (s:=s') h'.gW
 rw [hn] at hlz
 rw [hm] at hlz'
 go_enter Tryz.func112,Tryz.ntmps112
 go_upto_region 1 with fail
 obtain ⟨T1,T2,_,hb0⟩:=fF (Below.refl _ ((w.alloc (.cells #[.bool s,.slice A n c] 39)).alloc (.cells #[.bool s',.slice A' m c'] 39)))
 have R1:=h.below (hb0.mono hB)
 have R2:=h'.below (hb0.mono hB')
 generalize hW:((w.alloc (.cells #[.bool s,.slice A n c] 39)).alloc (.cells #[.bool s',.slice A' m c'] 39))=W at *
 clear hW
 have l3:=T2.lt
 obtain ⟨c10,c11,f10,f11⟩:=T1.facts
 obtain ⟨c20,c21,f20,f21⟩:=T2.facts
 go_cut [] (fun wc => ∃ A1 c1 A2 c2,Two wc w.heap.size 39 (.bool (sg (zv s ns))) (.slice A1 (mg (zv s ns)).length c1)∧Two wc (w.heap.size+1) 39 (.bool (sg (zv s' ms))) (.slice A2 (mg (zv s' ms)).length c2) ∧
  Rd wc B A1 (mg (zv s ns))∧Rd wc B' A2 (mg (zv s' ms))∧Below w.heap.size w wc∧(mg (zv s ns)).length≤c1∧(mg (zv s' ms)).length≤c2)
 case first =>
  go_region_with (first
   | (go_at_call_of 151 (Value.agg #[Value.bool s,Value.slice A n c]); refine (EQ s A ns n c B _ (by first | exact R1.drew | exact R1.next K2 (by omega)) (by first | (simp; omega) | (have:=K2.size; omega)) hn (by omega) hc).mono ?_; rintro e w1 ⟨A1,c1,rfl,hc1,hr1,hb1⟩; have K1:Below W.heap.size W w1:=(by first | exact F7 hb1 | exact Jn K2 hb1); obtain ⟨d10,d11,g10,g11⟩:=(T1.next K1).facts; obtain ⟨d20,d21,g20,g21⟩:=(T2.next K1).facts)
   | (go_at_call_of 151 (Value.agg #[Value.bool s',Value.slice A' m c']); refine (EQ s' A' ms m c' B' _ (by first | exact R2.drew | exact R2.next K1 (by omega)) (by first | (simp; omega) | (have:=K1.size; omega)) hm (by omega) hc').mono ?_; rintro e w2 ⟨A2,c2,rfl,hc2,hr2,hb2⟩; have K2:Below W.heap.size W w2:=(by first | exact F7 hb2 | exact Jn K1 hb2); obtain ⟨i10,i11,j10,j11⟩:=(T1.next K2).facts; obtain ⟨i20,i21,j20,j21⟩:=(T2.next K2).facts))
  all_goals
   obtain ⟨P1,P2,P3,P4,P5⟩:_∧_∧_∧_∧_:=by
    first
     | exact F9 (sg (zv s ns)) (sg (zv s' ms)) (.slice A1 (mg (zv s ns)).length c1) (.slice A2 (mg (zv s' ms)).length c2) (T1.next K2) (T2.next K2) (by omega) (hr1.next hb2 (by have:=K1.size; omega)) hr2 (fK hb0 K2 (by omega)) (Nat.le_refl _) (by omega)
     | exact F9 (sg (zv s ns)) (sg (zv s' ms)) (.slice A1 (mg (zv s ns)).length c1) (.slice A2 (mg (zv s' ms)).length c2) (T1.next K1) (T2.next K1) (by omega) hr1 (hr2.next hb1 (by have:=K2.size; omega)) (fK hb0 K1 (by omega)) (Nat.le_refl _) (by omega)
   clear d10 d11 g10 g11 d20 d21 g20 g21 i10 i11 i20 i21 j10 j11 j20 j21 c10 c11 c20 c21 f10 f11 f20 f21
   go_wp2_with fail
   go_meet
   exact ⟨A1,c1,A2,c2,P1,P2,P3,P4,P5,hc1,hc2⟩
 case rest =>
  obtain ⟨A1,c1,A2,c2,Q1,Q2,r1,r2,hbc,hc1,hc2⟩:=hcut
  clear T1 T2 R1 R2 hb0 l3 c10 c11 c20 c21 f10 f11 f20 f21
  obtain ⟨c10,c11,f10,f11⟩:=Q1.facts
  obtain ⟨c20,c21,f20,f21⟩:=Q2.facts
  have e1:=vV (zv s ns)
  have e2:=vV (zv s' ms)
  have E1:=Lib.hid e1
  have E2:=Lib.hid e2
  clear e1 e2
  have hsz:=hbc.size
  cases ha:sg (zv s ns) <;> cases hb:sg (zv s' ms)
  ·have HC:Hid (yB (zv s ns).natAbs (zv s' ms).natAbs=vP (zv s ns) (zv s' ms)):=Lib.hid (axK ha hb)
   go_wp2_with fail
   refine (IK A1 A2 (mg (zv s ns)) (mg (zv s' ms)) _ _ c1 c2 B B' _ r1 r2 (SG _) (SG _) rfl rfl (by omega) (by omega)).mono ?_
   rintro e w3 ⟨rfl,q,rfl⟩
   go_wp2_with fail
   go_ret
   exact ⟨rF (by rw [E1.out,E2.out,HC.out]),fK hbc (below_drewN' _ _ _) (Nat.le_refl _)⟩
  ·have HC:Hid (1=vP (zv s ns) (zv s' ms)):=Lib.hid (axJ ha hb)
   go_wp2_with fail
   go_ret
   exact ⟨rF HC.out,hbc⟩
  ·have HC:Hid (-1=vP (zv s ns) (zv s' ms)):=Lib.hid (axI ha hb)
   go_wp2_with fail
   go_ret
   exact ⟨rF HC.out,hbc⟩
  ·have HC:Hid (yB (zv s' ms).natAbs (zv s ns).natAbs=vP (zv s ns) (zv s' ms)):=Lib.hid (axH ha hb)
   go_wp2_with fail
   refine (IK A2 A1 (mg (zv s' ms)) (mg (zv s ns)) _ _ c2 c1 B' B _ r2 r1 (SG _) (SG _) rfl rfl (by omega) (by omega)).mono ?_
   rintro e w3 ⟨rfl,q,rfl⟩
   go_wp2_with fail
   go_ret
   exact ⟨rF (by rw [E1.out,E2.out,HC.out]),fK hbc (below_drewN' _ _ _) (Nat.le_refl _)⟩
end Go.Proofs.YtbihljnjaondcaaGreatDoor
namespace Lw
open Go Go.RowKit
theorem VE (l:List Nat) {k:Nat} (h:k < l.length):val (l.drop k)=dg l k+4294967296*val (l.drop (k+1)):=by
 rw [List.drop_eq_getElem_cons h,Gj,Kt h]
theorem ahk (l:List Nat) {k j v:Nat} (h:k < j):(l.set k v).drop j=l.drop j:=by
 rw [List.drop_set,if_pos h]
theorem amI {x r d H:Nat} (hx:0 < x) (hr:r=H % x) (hd:d < 4294967296) :
  (d+4294967296*r) / x < 4294967296∧(d+4294967296*r) / x+4294967296*(H / x)=(d+4294967296*H) / x∧(d+4294967296*r) % x=(d+4294967296*H) % x:=by
 subst hr
 have h1:=Nat.mod_add_div H x
 have h2:=Nat.mod_lt H hx
 generalize H % x=r at *
 generalize H / x=q at *
 have h3:d+4294967296*H=(d+4294967296*r)+x*(4294967296*q):=by
  rw [← h1,Nat.mul_add]
  have:4294967296*(x*q)=x*(4294967296*q):=by rw [← Nat.mul_assoc,Nat.mul_comm 4294967296 x,Nat.mul_assoc]
  omega
 refine ⟨?_,?_,?_⟩
 ·rw [Nat.div_lt_iff_lt_mul hx]
  have h4:(r+1)*4294967296≤x*4294967296:=Nat.mul_le_mul_right _ h2
  have h5:x*4294967296=4294967296*x:=Nat.mul_comm _ _
  omega
 ·rw [h3,Nat.add_mul_div_left _ _ hx]
 ·rw [h3,Nat.add_mul_mod_self_left]
end Lw
namespace Go.Proofs.YtbihljnjaondcaaGreatDoor
open Go Go.RowKit Lw
set_option maxHeartbeats 1600000 in
theorem amH (g x:Nat) (ns:List Nat) (n c:Nat) (w:World) (hb:fH w g 99 ns) (hw:fQ ns) (hn:ns.length=n) (h1:1≤n) (hl:n≤16777216) (hx:1≤x) (hx2:x≤4294967295) :
  Calls Tryz.prog 201 #[.slice (some ⟨g,0,none⟩) n c,.int .u32 x] w fun e w' => ∃ ds,e = .returned (.int .u32 ((val ns % x:Nat):Int))∧fH w' g 99 ds∧fQ ds∧ds.length=n∧val ds=val ns / x ∧
   w.grownBy w' (some g)∧w'.heap.size=w.heap.size:=by
 have Hn:=Lib.hid hn
 clear hn
 go_enter Tryz.func201,Tryz.ntmps201
 go_wp2_with fail
 go_loopw [5,6] (fun v i wr => ∃ (i':Int) (r:Nat) (ds:List Nat),-1≤i'∧i' < n∧r≤4294967294∧r < x∧i = .int .i64 i'∧v = .int .u64 r∧fH wr g 99 ds∧Hid (ds.length=n)∧fQ ds ∧
   Hid (∀ j,j < (i'+1).toNat→dg ds j=dg ns j)∧Hid (val (ds.drop (i'+1).toNat)=val (ns.drop (i'+1).toNat) / x∧r=val (ns.drop (i'+1).toNat) % x)∧Hid (w.grownBy wr (some g)∧wr.heap.size=w.heap.size)) (fun _ i _=>(intOf i+1).toNat)
 case atStart=>exact ⟨(n:Int) - 1,0,ns,by omega,by omega,by omega,by omega,rfl,rfl,hb,Hn,hw,Lib.hid (fun _ _=>rfl),Lib.hid (by rw [show ((n:Int) - 1+1).toNat=n by omega,List.drop_of_length_le (by rw [Hn.out]; exact Nat.le_refl _)]; simp [val]),Lib.hid ⟨World.grownBy.refl w _,rfl⟩⟩
 case round =>
  obtain ⟨i',r,ds,hi,hin,hr,hrx,rfl,rfl,hb1,hdl,hdw,hsame,hv,hg⟩:=hrel
  clear hb
  by_cases h0:i' < 0
  ·have HV:Hid (val ds=val ns / x∧r=val ns % x):=Lib.hid (by have:=hv.out; rwa [show (i'+1).toNat=0 by omega,List.drop_zero,List.drop_zero] at this)
   go_wp2_with fail
   go_ret
   exact ⟨ds,rF (by rw [HV.out.2]),hb1,hdw,hdl.out,HV.out.1,hg.out.1,hg.out.2⟩
  ·obtain ⟨j,rfl⟩:=Int.eq_ofNat_of_zero_le (show 0≤i' by omega)
   have hcc:=hb1.cell (i:=j) (by rw [hdl.out]; omega)
   have hlt:=ve hdw j
   have hfr:=hb1.frozen j
   have HO:bits .or .u64 ((r:Int)*4294967296) (dg ds j:Int)=((dg ds j+4294967296*r:Nat):Int):=SV (by omega) hlt
   have hst:=amI (x:=x) (r:=r) (d:=dg ds j) (H:=val (ns.drop (j+1))) (by omega) (by have:=hv.out.2; rwa [show ((j:Int)+1).toNat=j+1 by omega] at this) hlt
   have hm:=Nat.mod_lt (dg ds j+4294967296*r) (show 0 < x by omega)
   have HST:=Lib.hid hst
   have HM:=Lib.hid hm
   have zg:(dg ds j+4294967296*r) / x≤4294967295:=by have:=hst.1; omega
   clear hst hm
   have hdj:Hid (dg ds j=dg ns j):=Lib.hid (hsame.out j (by omega))
   go_wp2_with fail
   go_roundw
   case rel =>
    refine ⟨(j:Int) - 1,(dg ds j+4294967296*r) % x,ds.set j ((dg ds j+4294967296*r) / x),by omega,by omega,by have:=HM.out; omega,HM.out,rfl,by go_num,hb1.Fg (by rw [hdl.out]; omega) ?_,Lib.hid (by rw [List.length_set]; exact hdl.out),yP hdw _ (by omega),Lib.hid ?_,Lib.hid ?_,Lib.hid ⟨Ky hg.out.1 _ _,by simp [hg.out.2]⟩⟩
    ·have h3:(((dg ds j+4294967296*r) / x:Nat):Int)=((dg ds j:Int)+4294967296*(r:Int)) / (x:Int):=by simp
     rw [← h3]
     generalize (dg ds j+4294967296*r) / x=q at zg ⊢
     omega
    ·intro k hk
     rw [BG (l:=ds) (k:=j) _ (by rw [hdl.out]; omega),if_neg (by omega)]
     exact hsame.out k (by omega)
    ·have hv1:=hv.out
     rw [show ((j:Int)+1).toNat=j+1 by omega] at hv1
     rw [show ((j:Int) - 1+1).toNat=j by omega,VE (ds.set j ((dg ds j+4294967296*r) / x)) (k:=j) (by rw [List.length_set,hdl.out]; omega),BG (l:=ds) (k:=j) _ (by rw [hdl.out]; omega),if_pos rfl,ahk _ (by omega),hv1.1,VE ns (k:=j) (by rw [Hn.out]; omega),← hdj.out]
     exact HST.out.2
   case measure=>simp [intOf]
end Go.Proofs.YtbihljnjaondcaaGreatDoor
namespace Lw
open Go Go.RowKit
def Qe:Nat→Nat→Nat
 | 0,_=>0
 | f+1,N=>if (f+1)*(f+1)≤N then f+1 else Qe f N
def rt (N:Nat):Nat:=Qe N N
theorem aq7 (f N:Nat) (h:N < (f+1)*(f+1)):Qe f N*Qe f N≤N∧N < (Qe f N+1)*(Qe f N+1):=by
 induction f with
 | zero=>unfold Qe; omega
 | succ f ih =>
  unfold Qe
  split
  ·rename_i h1; exact ⟨h1,h⟩
  ·rename_i h1; exact ih (by omega)
theorem OG (N:Nat):rt N*rt N≤N:=(aq7 N N (by have:=Nat.le_mul_self (N+1); omega)).1
theorem Zm (N:Nat):N < (rt N+1)*(rt N+1):=(aq7 N N (by have:=Nat.le_mul_self (N+1); omega)).2
theorem Yt {N x:Nat} (h:x*x≤N):x≤rt N:=by
 have h4:=Zm N
 rcases Nat.lt_or_ge (rt N) x with h1 | h1
 ·have:(rt N+1)*(rt N+1)≤x*x:=Nat.mul_le_mul h1 h1
  omega
 ·exact h1
theorem apv {N x:Nat} (hx:0 < x):rt N≤(x+N / x) / 2:=by
 have h1:=OG N
 have h2:2*(x*rt N)≤x*x+rt N*rt N:=by
  rcases Nat.le_total x (rt N) with h | h
  ·obtain ⟨d,hd⟩:=Nat.exists_eq_add_of_le h
   rw [hd]; grind
  ·obtain ⟨d,hd⟩:=Nat.exists_eq_add_of_le h
   generalize rt N=r at *
   subst hd; grind
 have h3:x*(2*rt N - x)≤N:=by
  rw [Nat.mul_sub]
  have:x*(2*rt N)=2*(x*rt N):=by rw [Nat.mul_left_comm]
  omega
 have h4:2*rt N - x≤N / x:=by rw [Nat.le_div_iff_mul_le hx,Nat.mul_comm]; exact h3
 omega
theorem apu {N x:Nat} (hx:0 < x) (h:rt N≤x) (h2:x≤(x+N / x) / 2):x=rt N:=by
 have h3:x≤N / x:=by omega
 rw [Nat.le_div_iff_mul_le hx] at h3
 have:=Yt h3
 omega
theorem aDx {N x:Nat} (h:rt N≤x) (hx:0 < x):N / x≤x+2:=by
 have h1:=Zm N
 have h2:(rt N+1)*(rt N+1)≤(x+1)*(x+1):=Nat.mul_le_mul (by omega) (by omega)
 have h3:(x+1)*(x+1)=x*(x+2)+1:=by grind
 have h4:N / x < x+3:=by
  rw [Nat.div_lt_iff_lt_mul hx,Nat.mul_comm]
  have:x*(x+3)=x*(x+2)+x:=by grind
  omega
 omega
theorem aq9 {N:Nat} (h:N≠0):1≤rt N:=Yt (by omega)
theorem aq8 {N x:Nat} (h:N < x*x):rt N < x:=by
 have:=OG N
 rcases Nat.lt_or_ge (rt N) x with h1 | h1
 ·exact h1
 ·have:x*x≤rt N*rt N:=Nat.mul_le_mul h1 h1
  omega
theorem bitLen_spec {x:Nat} (h0:x≠0) (h:x < 18446744073709551616):1≤Lib.bitLen x∧2 ^ (Lib.bitLen x - 1)≤x∧x < 2 ^ Lib.bitLen x∧Lib.bitLen x≤64:=by
 have h2:x < 2 ^ 64:=by simpa using h
 obtain ⟨a,b,c⟩:=Lib.bitLenAux_bounds 64 x h2 h0
 exact ⟨a,b,c,Lib.bitLen_le x 64 (by omega) h2⟩
theorem aFF {x:Nat} (h0:x≠0) (h:x < 18446744073709551616):rt x≤2 ^ ((Lib.bitLen x+1) / 2)∧2 ^ ((Lib.bitLen x+1) / 2)≤4294967296∧1≤2 ^ ((Lib.bitLen x+1) / 2):=by
 obtain ⟨h1,h2,h3,h4⟩:=bitLen_spec h0 h
 refine ⟨Nat.le_of_lt (aq8 ?_),?_,Nat.pow_pos (by omega)⟩
 ·rw [← Nat.pow_add]
  exact Nat.lt_of_lt_of_le h3 (Nat.pow_le_pow_right (by omega) (by omega))
 ·have:2 ^ ((Lib.bitLen x+1) / 2)≤2 ^ 32:=Nat.pow_le_pow_right (by omega) (by omega)
  simpa using this
end Lw
namespace Go.Proofs.YtbihljnjaondcaaGreatDoor
open Go Go.RowKit Lw
set_option maxHeartbeats 800000 in
theorem asa (x y:Nat) (w:World) (hx:x≤18446744073709551615) (hy:y≤18446744073709551615) :
  Calls Tryz.prog 233 #[.int .u64 x,.int .u64 y] w fun e w'=>e = .returned (.int .u64 ((Nat.gcd x y:Nat):Int)) ∧ ∃ q,w'=w.drewN q:=by
 go_enter Tryz.func233,Tryz.ntmps233
 go_wp2
 go_loopw [0,1] (fun a b wr => ∃ u v q:Nat,u≤18446744073709551615∧v≤18446744073709551615∧a = .int .u64 u∧b = .int .u64 v∧Hid (Nat.gcd u v=Nat.gcd x y)∧wr=w.drewN q) (fun _ b _=>(intOf b).toNat)
 case atStart=>exact ⟨x,y,0,hx,hy,rfl,rfl,Lib.hid rfl,rfl⟩
 case round =>
  obtain ⟨u,v,q,hu,hv,rfl,rfl,hg,rfl⟩:=hrel
  by_cases h0:v=0
  ·subst h0
   have HG:Hid (u=Nat.gcd x y):=Lib.hid (by rw [← hg.out,Nat.gcd_zero_right])
   go_wp2
   go_ret
   exact ⟨rF (by rw [← HG.out]),q,rfl⟩
  ·have HG:Hid (Nat.gcd v (u % v)=Nat.gcd x y):=Lib.hid (by rw [← hg.out,Nat.gcd_comm u v,Nat.gcd_rec v u,Nat.gcd_comm])
   have hm:=Nat.mod_lt u (show 0 < v by omega)
   have HM:=Lib.hid hm
   clear hm
   have hv1:1≤v:=by omega
   have hbq:((v:Int) != 0)=true:=by rw [bne_iff_ne]; omega
   clear h0
   go_wp2
   go_quiet (fail)
   go_wp2
   go_roundw
   case rel=>exact ⟨v,u % v,q+nq,hv,by have:=HM.out; omega,rfl,congrArg _ (Int.natCast_emod u v).symm,HG,by rw [World.drewN_drewN]⟩
   case measure =>
    show ((u:Int) % (v:Int)).toNat < ((v:Int)).toNat
    rw [← Int.natCast_emod,Int.toNat_natCast,Int.toNat_natCast]
    exact HM.out
set_option maxHeartbeats 800000 in
theorem aFA (x:Nat) (w:World) (hx:x≤18446744073709551615) :
  Calls Tryz.prog 236 #[.int .u64 x] w fun e w'=>e = .returned (.int .u64 ((rt x:Nat):Int))∧w=w':=by
 by_cases h0:x=0
 ·subst h0
  go_enter Tryz.func236,Tryz.ntmps236
  go_wp2
  go_ret
  exact ⟨rfl,rfl⟩
 ·obtain ⟨s1,s2,s3⟩:=aFF h0 (by omega)
  have hbl:=(Lw.bitLen_spec h0 (by omega)).2.2.2
  have S1:=Lib.hid s1
  have hbq:((x:Int)==0)=false:=by rw [beq_eq_false_iff_ne]; omega
  have hk : ∀ w,Calls Tryz.prog 207 #[.int .u64 (x:Int)] w fun e w'=>e = .returned (.int .i64 ((Lib.bitLen x:Nat):Int))∧w=w':=fun w=>(Tryz.bits_Len64 x w (by omega) (by omega)).mono fun e w' h=>⟨by rw [h.1,Int.toNat_natCast],h.2.symm⟩
  have Hk:=Lib.hid hk
  clear hk s1
  generalize Lib.bitLen x=L at *
  obtain ⟨P,hP⟩ : ∃ P:Nat,P=2 ^ ((L+1) / 2):=⟨_,rfl⟩
  rw [← hP] at S1 s2 s3
  have hw:IntKind.u64.wrap (2 ^ ((L+1) / 2))=(P:Int):=by
   have e:((P:Nat):Int)=2 ^ ((L+1) / 2):=by rw [hP]; simp
   rw [← e]
   exact IntWalk.u64_in _ (by omega)
  clear hP
  go_enter Tryz.func236,Tryz.ntmps236
  go_wp2_with fail
  refine (Hk.out _).mono ?_
  rintro e w1 ⟨rfl,rfl⟩
  go_wp2_with fail
  go_loop [3,4] (fun v _ => ∃ u:Nat,1≤u∧u≤4294967296∧v = .int .u64 u∧Hid (rt x≤u)) (fun v _=>(intOf v).toNat)
  case atStart=>exact ⟨P,s3,s2,congrArg (Value.int .u64) hw,S1⟩
  case round =>
   obtain ⟨u,hu,hu2,rfl,hr⟩:=hrel
   have hge:=apv (N:=x) (x:=u) hu
   have hend:=apu (N:=x) (x:=u) hu hr.out
   have hq2:=aDx hr.out hu
   have hq:IntKind.u64.wrap ((x:Int) / (u:Int))=((x / u:Nat):Int):=by
    rw [← Int.natCast_ediv]
    exact IntWalk.u64_in _ (by have:=Nat.div_le_self x u; generalize x / u=Q at *; omega)
   obtain ⟨Q,hQ⟩ : ∃ Q,Q=x / u:=⟨_,rfl⟩
   rw [← hQ] at hge hend hq2 hq
   clear hQ
   have HE:=Lib.hid hend
   have HG:=Lib.hid hge
   clear hend hge hw
   by_cases hd:u≤(u+Q) / 2
   ·have HR:=Lib.hid (HE.out hd)
    go_wp2_with fail
    go_ret
    exact ⟨rF (by rw [← HR.out]),rfl⟩
   ·go_wp2_with fail
    go_round
    case rel=>exact ⟨(u+Q) / 2,by have:=HG.out; have:=aq9 h0; omega,by omega,by go_num,HG⟩
    case measure=>simp [intOf]; omega
end Go.Proofs.YtbihljnjaondcaaGreatDoor
namespace Go.Proofs.YtbihljnjaondcaaGreatDoor
open Go Go.RowKit Lw
attribute [local go_sem ↓] Go.wp_at_zero Go.wp_at_succ
def Ul (w:World) (N M:Nat) (e:Ending) (w':World):Prop :=
 ∃ A c A' c',e = .returned (.tuple #[.slice A (bg N).length c,.slice A' (bg M).length c'])∧(bg N).length≤c∧(bg M).length≤c'∧Rd w' w'.heap.size A (bg N)∧Rd w' w'.heap.size A' (bg M)∧Below w.heap.size w w'
set_option maxRecDepth 100000 in
set_option maxHeartbeats 1600000 in
theorem ax9 (A A':Option Addr) (N M n m c c' B B':Nat) (w:World) (h:Rd w B A (bg N)) (h':Rd w B' A' (bg M)) (hB:B≤w.heap.size) (hB':B'≤w.heap.size)
  (hn:(bg N).length=n) (hm:(bg M).length=m) (hl:n≤8388608) (hl':m≤8388608) (_hc:n≤c) (hc':m≤c') (hM:M≠0)
  (HL:2 < n→m≠1→M≤N → ∀ W:World,Below w.heap.size w W→Calls Tryz.prog 235 #[.slice A n c,.slice A' m c'] W (Ul W (N / M) (N % M))) :
  Calls Tryz.prog 209 #[.slice A n c,.slice A' m c'] w (Ul w (N / M) (N % M)):=by
 have vN:=fA N
 have vM:=fA M
 have hm1:1≤m:=by
  rcases Nat.eq_zero_or_pos m with h0 | h0
  ·subst h0
   exact absurd (xP.1 (List.eq_nil_of_length_eq_zero hm)) hM
  ·exact h0
 have Hn:=Lib.hid hn
 have Hm:=Lib.hid hm
 have VN:=Lib.hid vN
 have VM:=Lib.hid vM
 have HLL:=Lib.hid HL
 clear hn hm vN vM HL
 rcases Nat.lt_or_ge N M with hlt | hge
 ·have hcm:=XF hlt
  have HD:Hid (N / M=0∧N % M=N):=Lib.hid ⟨Nat.div_eq_of_lt hlt,Nat.mod_eq_of_lt hlt⟩
  go_enter aZT,aZU
  go_wp2_with fail
  refine (IK A A' (bg N) (bg M) _ _ _ _ B B' _ h h' (vU _) (vU _) Hn.out Hm.out (by omega) (by omega)).mono ?_
  rintro e w1 ⟨rfl,q,rfl⟩
  rw [VN.out,VM.out]
  go_wp2_with fail
  refine (clone_any A (bg N) _ _ B _ (h.drewN q) (by simpa using hB) Hn.out (by omega)).mono ?_
  rintro e w2 ⟨A1,c1,rfl,hc1,hg1,hr1,hb1⟩
  go_wp2_with fail
  go_ret2
  rw [HD.out.1,HD.out.2]
  exact ⟨none,0,A1,c1,by rw [Hn.out]; rfl,Nat.le_refl _,by rw [Hn.out]; exact hc1,Rd.nil_ _ _ _,hr1,fK (below_drewN' _ _ _) hb1 (Nat.le_refl _)⟩
 ·have hcm:=XG hge
  by_cases h2:n≤2
  ·have hN2:N≤18446744073709551615:=by have:=Dz (n:=N) (k:=2) (by rw [Hn.out]; exact h2); have h3:pw 2=18446744073709551616:=rfl; omega
   have HLo:Hid (lo (bg N) 2=N):=Lib.hid (by rw [lG (by rw [Hn.out]; exact h2),VN.out])
   have WR:Hid (lo (bg M) 2=M):=Lib.hid (by
    rw [lG,VM.out]
    exact xQ (by have h3:pw 2=18446744073709551616:=rfl; omega))
   have hq:IntKind.u64.wrap ((N:Int) / (M:Int))=((N / M:Nat):Int):=by
    rw [← Int.natCast_ediv]
    exact IntWalk.u64_in _ (by have:=Nat.div_le_self N M; generalize N / M=Q at *; omega)
   have zg:N / M≤18446744073709551615:=Nat.le_trans (Nat.div_le_self N M) hN2
   have hrl:N % M≤18446744073709551615:=Nat.le_trans (Nat.mod_le N M) hN2
   have hre:(N:Int).tmod (M:Int)=((N % M:Nat):Int):=by rw [Int.tmod_eq_emod_of_nonneg (by omega)]; exact (Int.natCast_emod N M).symm
   have hM1:1≤M:=by omega
   obtain ⟨Q,hQ⟩ : ∃ Q,Q=N / M:=⟨_,rfl⟩
   obtain ⟨R,hR⟩ : ∃ R,R=N % M:=⟨_,rfl⟩
   rw [← hQ] at hq zg ⊢
   rw [← hR] at hrl hre ⊢
   clear hQ hR
   go_enter aZT,aZU
   go_wp2_with fail
   refine (IK A A' (bg N) (bg M) _ _ _ _ B B' _ h h' (vU _) (vU _) Hn.out Hm.out (by omega) (by omega)).mono ?_
   rintro e w1 ⟨rfl,q,rfl⟩
   rw [VN.out,VM.out]
   go_wp2_with fail
   refine (SA A (bg N) _ c B _ (h.drewN q) Hn.out (by omega)).mono ?_
   rintro e w2 ⟨rfl,rfl⟩
   rw [HLo.out]
   go_wp2_with fail
   refine (SA A' (bg M) _ c' B' _ (h'.drewN q) Hm.out (by omega)).mono ?_
   rintro e w2 ⟨rfl,rfl⟩
   rw [WR.out]
   go_wp2_with fail
   go_region_with (first
    | (go_at_call_of 179 (Value.int IntKind.u64 (Q:Int)); refine (Qo Q _ zg).mono ?_; rintro e w3 ⟨A3,c3,rfl,hc3,hr3,hb3⟩)
    | (go_at_call_of 179 (Value.int IntKind.u64 (R:Int)); refine (Qo R _ hrl).mono ?_; rintro e w4 ⟨A4,c4,rfl,hc4,hr4,hb4⟩))
   go_wp2_with fail
   go_ret2
   have hb5:Below w.heap.size w w3:=by
    first
     | exact fK (below_drewN' _ _ (q+1)) hb3 (Nat.le_refl _)
     | exact fK (below_drewN' _ _ q).drew hb3 (Nat.le_refl _)
   exact ⟨A3,c3,A4,c4,rfl,hc3,hc4,(hr3.next hb4 (Nat.le_refl _)).more hb4.size,hr4,fK hb5 hb4 (Nat.le_refl _)⟩
  ·by_cases h1:m=1
   ·subst h1
    obtain ⟨b,off,rfl,hb,hcell,hlt⟩:=h'.at_ (k:=0) (by rw [Hm.out]; omega)
    have hx:Hid (dg (bg M) 0=M):=Lib.hid (by
     have e1:=lG (l:=bg M) (k:=1) (by rw [Hm.out]; omega)
     rw [lg,xM,Jo,VM.out] at e1
     omega)
    rw [hx.out] at hcell hlt
    rw [Nat.add_zero] at hcell
    go_enter aZT,aZU
    go_wp2_with fail
    refine (IK A (some ⟨b,off,none⟩) (bg N) (bg M) _ _ _ _ B B' _ h h' (vU _) (vU _) Hn.out Hm.out (by omega) (by omega)).mono ?_
    rintro e w1 ⟨rfl,q,rfl⟩
    rw [VN.out,VM.out]
    go_wp2_with fail
    refine (clone_any A (bg N) _ _ B _ (h.drewN q) (by simpa using hB) Hn.out (by omega)).mono ?_
    rintro e w2 ⟨A1,c1,rfl,hc1,hg1,hr1,hb1⟩
    obtain ⟨g,rfl,hgl,hblk⟩:=hg1 (by omega)
    have hcell2:=(hb1.cell (p:=⟨b,off,none⟩) (by simp; omega)).trans hcell
    have hb2:=fK (below_drewN' w.heap.size w q) hb1 (Nat.le_refl _)
    clear hb1
    go_wp2_with fail
    refine (amH g M (bg N) _ c1 _ hblk (mJ _) Hn.out (by omega) (by omega) (by omega) (by omega)).mono ?_
    rintro e w3 ⟨ds,rfl,hblk3,hw3,hl3,hv3,hg3,hs3⟩
    rw [VN.out] at hv3 ⊢
    have hm3:=Nat.mod_lt N (show 0 < M by omega)
    obtain ⟨R,hR⟩ : ∃ R,R=N % M:=⟨_,rfl⟩
    rw [← hR] at hm3 ⊢
    have HR:=Lib.hid hR
    clear hR
    have hb4:=below_of_grown hb2 hg3 hb2.size hgl
    have hr3:=hblk3.rd hw3
    go_wp2_with fail
    refine (H6 _ ds _ c1 _ _ hr3 hl3 (by omega) (by omega)).mono ?_
    rintro e w4 ⟨rfl,rfl⟩
    rw [hv3]
    go_wp2_with fail
    refine (Qo R _ (by omega)).mono ?_
    rintro e w5 ⟨A5,c5,rfl,hc5,yj,hb5⟩
    go_wp2_with fail
    go_ret2
    rw [← HR.out]
    have hr4:=hr3.bg
    rw [hv3] at hr4
    have hc4:=BI hw3
    rw [hv3,hl3] at hc4
    exact ⟨_,_,A5,c5,rfl,Nat.le_trans hc4 hc1,hc5,(hr4.next hb5 (Nat.le_refl _)).more hb5.size,yj,fK hb4 hb5 (by have:=hb2.size; omega)⟩
   ·have hbq:((m:Int)==1)=false:=by rw [beq_eq_false_iff_ne]; omega
    go_enter aZT,aZU
    go_wp2_with fail
    refine (IK A A' (bg N) (bg M) _ _ _ _ B B' _ h h' (vU _) (vU _) Hn.out Hm.out (by omega) (by omega)).mono ?_
    rintro e w1 ⟨rfl,q,rfl⟩
    rw [VN.out,VM.out]
    go_wp2_with fail
    refine (HLL.out (by omega) h1 hge _ (below_drewN' _ _ _)).mono ?_
    rintro e w2 ⟨A1,c1,A2,c2,rfl,hc1,hc2,hr1,hr2,hb1⟩
    go_wp2_with fail
    go_ret2
    exact ⟨A1,c1,A2,c2,rfl,hc1,hc2,hr1,hr2,fK (below_drewN' _ _ _) hb1 (Nat.le_refl _)⟩
def agQ:Prop := ∀ (A A':Option Addr) (N M n m c c' B B':Nat) (w:World),Rd w B A (bg N)→Rd w B' A' (bg M)→B≤w.heap.size→B'≤w.heap.size→(bg N).length=n→(bg M).length=m→n≤8388608→m≤8388608→2≤m→M≤N →
 Calls Tryz.prog 235 #[.slice A n c,.slice A' m c'] w (Ul w (N / M) (N % M))
theorem Ux (A A':Option Addr) (N M n m c c' B B':Nat) (w:World) (h:Rd w B A (bg N)) (h':Rd w B' A' (bg M)) (hB:B≤w.heap.size) (hB':B'≤w.heap.size)
  (hn:(bg N).length=n) (hm:(bg M).length=m) (hl:n≤8388608) (hl':m≤8388608) (hc:n≤c) (hc':m≤c') (hM:M≠0) (HL:n≤2∨agQ) :
  Calls Tryz.prog 209 #[.slice A n c,.slice A' m c'] w (Ul w (N / M) (N % M)):=by
 refine ax9 A A' N M n m c c' B B' w h h' hB hB' hn hm hl hl' hc hc' hM ?_
 intro h2 h1 Eb W hb
 rcases HL with HL | HL
 ·omega
 ·have hm0:m≠0:=by
   intro e; subst e
   exact hM (xP.1 (List.eq_nil_of_length_eq_zero hm))
  exact HL A A' N M n m c c' B B' W (h.below (hb.mono hB)) (h'.below (hb.mono hB')) (Nat.le_trans hB hb.size) (Nat.le_trans hB' hb.size) hn hm hl hl' (by omega) Eb
end Go.Proofs.YtbihljnjaondcaaGreatDoor
