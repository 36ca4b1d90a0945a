/- Part of a proof, said shortly. -/
import Derived.Deep.RegionHeld3
import Derived.Deep.DrawnRows
import Derived.Deep.RegionWith
import Derived.Deep.DeepCutAuto
import Derived.Test.YtbihljnjaondcaaGreatDoorAlt
import Derived.Test.YtbihljnjaondcaaGreatDoorT4
import Derived.Test.YtbihljnjaondcaaGreatDoorT3
import Derived.Test.YtbihljnjaondcaaGreatDoorT2
import Derived.Test.YtbihljnjaondcaaGreatDoorT1
namespace Lw
def sv (s:Bool) (N:Nat):Int:=if s then -(N:Int) else (N:Int)
theorem a2D (z:Int):sv (sg z) z.natAbs=z:=by have:=a2A z; rw [aiz] at this; exact this.symm
theorem sv_eq (s s':Bool) (h:(s==s')=true) (N M:Nat):sv s N+sv s' M=sv s (N+M):=by
 cases s <;> cases s' <;> simp [sv] at * <;> omega
theorem bfs (s s':Bool) (h:(s==s')=false) {N M:Nat} (hle:M≤N):sv s N+sv s' M=sv s (N - M):=by
 cases s <;> cases s' <;> simp [sv] at * <;> omega
theorem bft (s s':Bool) (h:(s==s')=false) {N M:Nat} (hle:N≤M):sv s N+sv s' M=sv s' (M - N):=by
 cases s <;> cases s' <;> simp [sv] at * <;> omega
theorem a6b {a b:Nat} (h:a < b):alg a b < 0:=by rw [a2V h]; omega
theorem a6c {a b:Nat} (h:b≤a):¬ alg a b < 0:=by unfold alg; rw [if_neg (by omega)]; split <;> omega
end Lw
namespace Go.Proofs.YtbihljnjaondcaaGreatDoor
open Go Go.RowKit Lw
set_option maxHeartbeats 1600000 in
theorem sum_any (s s':Bool) (A A':Option Addr) (N M:Nat) (n m c c' B B':Nat) (w:World) (h:Rd w B A (Uy N)) (h':Rd w B' A' (Uy M)) (hB:B≤w.heap.size) (hB':B'≤w.heap.size)
  (hn:(Uy N).length=n) (hm:(Uy M).length=m) (hl:n≤8388608) (hl':m≤8388608) (hc:n≤c) (hc':m≤c') :
  Calls Tryz.prog 224 #[.bool s,.slice A n c,.bool s',.slice A' m c'] w (atE w (sv s N+sv s' M)):=by
 have vN:=aar N
 have vM:=aar M
 have Hn:=Lib.hid hn
 have Hm:=Lib.hid hm
 have VN:=Lib.hid vN
 have VM:=Lib.hid vM
 clear hn hm vN vM
 cases hs:(s==s')
 ·rcases Nat.lt_or_ge N M with hlt | hge
  ·have HZ:Hid (sv s N+sv s' M=sv s' (M - N)):=Lib.hid (bft s s' hs (Nat.le_of_lt hlt))
   have hcm:=a6b hlt
   go_enter Tryz.func224,Tryz.ntmps224
   go_wp2_with fail
   refine (a0T A A' (Uy N) (Uy M) _ _ _ _ B B' _ (h.alloc hB _) (h'.alloc hB' _) (aj7 _) (aj7 _) Hn.out Hm.out (by omega) (by omega)).mono ?_
   rintro e w1 ⟨rfl,q,hw1⟩
   rw [VN.out,VM.out]
   have hb0:Below (w.alloc (.cells #[.bool false,.slice none 0 0] 39)).heap.size (w.alloc (.cells #[.bool false,.slice none 0 0] 39)) w1:=by
    rw [hw1]; exact below_drewN' _ _ _
   obtain ⟨t0,hs0,a3a⟩:=box1 hb0
   have h1:=h.below (a3a.mono hB)
   have h1':=h'.below (a3a.mono hB')
   clear hw1 hb0
   go_wp2_with fail
   refine (ba8 A' A (Uy M) (Uy N) _ _ _ _ B' B _ h1' h1 (by omega) (by omega) Hm.out Hn.out (by omega) (by omega) (by rw [VN.out,VM.out]; omega)).mono ?_
   rintro e w2 ⟨A1,c1,rfl,hc1,hr1,hb1⟩
   rw [VN.out,VM.out] at *
   have t1:=t0.below hb1 t0.lt
   have hb2:=aaR a3a hb1 (by omega)
   have hsz:=hb1.size
   go_wp2_with fail
   refine (atd s' A1 (M - N) _ c1 _ (sv s N+sv s' M) _ hr1 (Nat.le_refl _) rfl hc1 HZ.out).mono ?_
   rintro e w3 ⟨A2,c2,rfl,hc2,hr2,hb3⟩
   have T2:=t1.below hb3 t1.lt
   obtain ⟨d0,d1,g0,g1⟩:=T2.facts
   go_wp2_with fail
   refine bodyPost_ret (v := .agg #[.bool (sg (sv s N+sv s' M)),.slice A2 (mg (sv s N+sv s' M)).length c2]) (by simp [results,Tryz.results224,go_sem,d0,d1]) rfl ?_
   exact alf T2 hr2 hb3.size hc2 (aaR hb2 hb3 (by omega)) (Nat.le_refl _)
  ·have HZ:Hid (sv s N+sv s' M=sv s (N - M)):=Lib.hid (bfs s s' hs hge)
   have hcm:=a6c hge
   go_enter Tryz.func224,Tryz.ntmps224
   go_wp2_with fail
   refine (a0T A A' (Uy N) (Uy M) _ _ _ _ B B' _ (h.alloc hB _) (h'.alloc hB' _) (aj7 _) (aj7 _) Hn.out Hm.out (by omega) (by omega)).mono ?_
   rintro e w1 ⟨rfl,q,hw1⟩
   rw [VN.out,VM.out]
   have hb0:Below (w.alloc (.cells #[.bool false,.slice none 0 0] 39)).heap.size (w.alloc (.cells #[.bool false,.slice none 0 0] 39)) w1:=by
    rw [hw1]; exact below_drewN' _ _ _
   obtain ⟨t0,hs0,a3a⟩:=box1 hb0
   have h1:=h.below (a3a.mono hB)
   have h1':=h'.below (a3a.mono hB')
   clear hw1 hb0
   go_wp2_with fail
   refine (ba8 A A' (Uy N) (Uy M) _ _ _ _ B B' _ h1 h1' (by omega) (by omega) Hn.out Hm.out (by omega) (by omega) (by rw [VN.out,VM.out]; omega)).mono ?_
   rintro e w2 ⟨A1,c1,rfl,hc1,hr1,hb1⟩
   rw [VN.out,VM.out] at *
   have t1:=t0.below hb1 t0.lt
   have hb2:=aaR a3a hb1 (by omega)
   have hsz:=hb1.size
   go_wp2_with fail
   refine (atd s A1 (N - M) _ c1 _ (sv s N+sv s' M) _ hr1 (Nat.le_refl _) rfl hc1 HZ.out).mono ?_
   rintro e w3 ⟨A2,c2,rfl,hc2,hr2,hb3⟩
   have T2:=t1.below hb3 t1.lt
   obtain ⟨d0,d1,g0,g1⟩:=T2.facts
   go_wp2_with fail
   refine bodyPost_ret (v := .agg #[.bool (sg (sv s N+sv s' M)),.slice A2 (mg (sv s N+sv s' M)).length c2]) (by simp [results,Tryz.results224,go_sem,d0,d1]) rfl ?_
   exact alf T2 hr2 hb3.size hc2 (aaR hb2 hb3 (by omega)) (Nat.le_refl _)
 ·have HZ:Hid (sv s N+sv s' M=sv s (N+M)):=Lib.hid (sv_eq s s' hs N M)
  have Hs:=Lib.hid hs
  go_enter Tryz.func224,Tryz.ntmps224
  go_wp2_with fail
  refine (add_any A A' (Uy N) (Uy M) _ _ _ _ B B' _ (h.alloc hB _) (h'.alloc hB' _) (by simp; omega) (by simp; omega) Hn.out Hm.out (by omega) (by omega) hc hc').mono ?_
  rintro e w1 ⟨A1,c1,rfl,hc1,hr1,hb1⟩
  rw [VN.out,VM.out] at *
  obtain ⟨t1,hs1,hb2⟩:=box1 hb1
  go_wp2_with fail
  refine (atd s A1 (N+M) _ c1 _ (sv s N+sv s' M) _ hr1 (Nat.le_refl _) rfl hc1 HZ.out).mono ?_
  rintro e w2 ⟨A2,c2,rfl,hc2,hr2,hb3⟩
  have T2:=t1.below hb3 t1.lt
  obtain ⟨d0,d1,g0,g1⟩:=T2.facts
  go_wp2_with fail
  refine bodyPost_ret (v := .agg #[.bool (sg (sv s N+sv s' M)),.slice A2 (mg (sv s N+sv s' M)).length c2]) (by simp [results,Tryz.results224,go_sem,d0,d1]) rfl ?_
  exact alf T2 hr2 hb3.size hc2 (aaR hb2 hb3 (by omega)) (Nat.le_refl _)
end Go.Proofs.YtbihljnjaondcaaGreatDoor
namespace Go.Proofs.YtbihljnjaondcaaGreatDoor
open Go Go.RowKit Lw
attribute [local go_sem ↓] Go.wp_at_zero Go.wp_at_succ
set_option maxHeartbeats 3200000 in
theorem bg1 (s s':Bool) (A A':Option Addr) (ns ms:List Nat) (n m c c' B B':Nat) (w:World) (h:Rd w B A ns) (h':Rd w B' A' ms) (hB:B≤w.heap.size) (hB':B'≤w.heap.size)
  (hn:ns.length=n) (hm:ms.length=m) (hl:n≤8388608) (hl':m≤8388608) (hc:n≤c) (hc':m≤c') :
  Calls Tryz.prog 192 #[.agg #[.bool s,.slice A n c],.agg #[.bool s',.slice A' m c']] w (atE w (zv s ns+zv s' ms)):=by
 have hlz:=ate (s:=s) h.wds
 have hlz':=ate (s:=s') h'.wds
 rw [hn] at hlz
 rw [hm] at hlz'
 go_enter Tryz.func192,Tryz.ntmps192
 go_upto_region 1 with fail
 obtain ⟨T1,T2,T3,_,hb0⟩:=ae' (Below.refl _ (((w.alloc (.cells #[.bool s,.slice A n c] 39)).alloc (.cells #[.bool s',.slice A' m c'] 39)).alloc (.cells #[.bool false,.slice none 0 0] 39)))
 have R1:=h.below (hb0.mono hB)
 have R2:=h'.below (hb0.mono hB')
 generalize hW:(((w.alloc (.cells #[.bool s,.slice A n c] 39)).alloc (.cells #[.bool s',.slice A' m c'] 39)).alloc (.cells #[.bool false,.slice none 0 0] 39))=W at *
 clear hW
 have l3:=T3.lt
 obtain ⟨c10,c11,f10,f11⟩:=T1.facts
 obtain ⟨c20,c21,f20,f21⟩:=T2.facts
 go_cut [] (fun wc => ∃ A1 c1 A2 c2,Two wc w.heap.size 39 (.bool (sg (zv s ns))) (.slice A1 (mg (zv s ns)).length c1)∧Two wc (w.heap.size+1) 39 (.bool (sg (zv s' ms))) (.slice A2 (mg (zv s' ms)).length c2) ∧
  Two wc (w.heap.size+1+1) 39 (.bool false) (.slice none 0 0)∧Rd wc B A1 (mg (zv s ns))∧Rd wc B' A2 (mg (zv s' ms))∧Below w.heap.size w wc∧(mg (zv s ns)).length≤c1∧(mg (zv s' ms)).length≤c2)
 case first =>
  go_region_with (first
   | (go_at_call_of 151 (Value.agg #[Value.bool s,Value.slice A n c]); refine (azk s A ns n c B _ (by first | exact R1.drew | exact R1.next K2 (by omega)) (by first | (simp; omega) | (have:=K2.size; omega)) hn (by omega) hc).mono ?_; rintro e w1 ⟨A1,c1,rfl,hc1,hr1,hb1⟩; have K1:Below W.heap.size W w1:=(by first | exact azl hb1 | exact a01 K2 hb1); obtain ⟨d10,d11,g10,g11⟩:=(T1.next K1).facts; obtain ⟨d20,d21,g20,g21⟩:=(T2.next K1).facts)
   | (go_at_call_of 151 (Value.agg #[Value.bool s',Value.slice A' m c']); refine (azk s' A' ms m c' B' _ (by first | exact R2.drew | exact R2.next K1 (by omega)) (by first | (simp; omega) | (have:=K1.size; omega)) hm (by omega) hc').mono ?_; rintro e w2 ⟨A2,c2,rfl,hc2,hr2,hb2⟩; have K2:Below W.heap.size W w2:=(by first | exact azl hb2 | exact a01 K1 hb2); obtain ⟨i10,i11,j10,j11⟩:=(T1.next K2).facts; obtain ⟨i20,i21,j20,j21⟩:=(T2.next K2).facts))
  all_goals
   obtain ⟨P1,P2,P3,P4,P5⟩:_∧_∧_∧_∧_:=by
    first
     | exact azm (sg (zv s ns)) (sg (zv s' ms)) (.slice A1 (mg (zv s ns)).length c1) (.slice A2 (mg (zv s' ms)).length c2) (T1.next K2) (T2.next K2) (by omega) (hr1.next hb2 (by have:=K1.size; omega)) hr2 (aaR hb0 K2 (by omega)) (Nat.le_refl _) (by omega)
     | exact azm (sg (zv s ns)) (sg (zv s' ms)) (.slice A1 (mg (zv s ns)).length c1) (.slice A2 (mg (zv s' ms)).length c2) (T1.next K1) (T2.next K1) (by omega) hr1 (hr2.next hb1 (by have:=K2.size; omega)) (aaR hb0 K1 (by omega)) (Nat.le_refl _) (by omega)
   clear d10 d11 g10 g11 d20 d21 g20 g21 i10 i11 i20 i21 j10 j11 j20 j21 c10 c11 c20 c21 f10 f11 f20 f21
   go_wp2_with fail
   go_meet
   have N01:=(T3.next K1)
   have N02:=(T3.next K2)
   exact ⟨A1,c1,A2,c2,P1,P2,by first | exact N02.atz (by omega) (by omega) _ _ _ _ | exact N01.atz (by omega) (by omega) _ _ _ _,P3,P4,P5,hc1,hc2⟩
 case rest =>
  obtain ⟨A1,c1,A2,c2,Q1,Q2,Q3,r1,r2,hbc,hc1,hc2⟩:=hcut
  clear T1 T2 T3 R1 R2 hb0 l3 c10 c11 c20 c21 f10 f11 f20 f21
  obtain ⟨c10,c11,f10,f11⟩:=Q1.facts
  obtain ⟨c20,c21,f20,f21⟩:=Q2.facts
  go_wp2_with fail
  refine (sum_any (sg (zv s ns)) (sg (zv s' ms)) A1 A2 (zv s ns).natAbs (zv s' ms).natAbs _ _ c1 c2 B B' _ r1 r2 (by have:=hbc.size; omega) (by have:=hbc.size; omega) rfl rfl (Nat.le_trans hlz hl) (Nat.le_trans hlz' hl') hc1 hc2).mono ?_
  rw [a2D,a2D]
  rintro e w3 ⟨A3,c3,rfl,hc3,hr3,hb3⟩
  have U3:=Q3.next hb3
  obtain ⟨d0,d1,g0,g1⟩:=U3.facts
  go_wp2_with fail
  refine bodyPost_ret (v := .agg #[.bool (sg (zv s ns+zv s' ms)),.slice A3 (mg (zv s ns+zv s' ms)).length c3]) (by simp [results,Tryz.results192,go_sem,d0,d1]) rfl ?_
  exact alf U3 hr3 (Nat.le_refl _) hc3 (aaR hbc hb3 (Nat.le_refl _)) (by omega)
end Go.Proofs.YtbihljnjaondcaaGreatDoor
namespace Lw
theorem bdR (a b:Int):a*b=if (sg a != sg b)=true then -((a.natAbs*b.natAbs:Nat):Int) else ((a.natAbs*b.natAbs:Nat):Int):=by
 have ha:=a2A a
 have hb:=a2A b
 rw [aiz] at ha hb
 rw [Int.natCast_mul]
 generalize (a.natAbs:Int)=x at *
 generalize (b.natAbs:Int)=y at *
 cases h1:sg a <;> cases h2:sg b <;> rw [h1] at ha <;> rw [h2] at hb <;> simp at ha hb <;> rw [ha,hb] <;> simp [Int.neg_mul,Int.mul_neg]
end Lw
namespace Go.Proofs.YtbihljnjaondcaaGreatDoor
open Go Go.RowKit Lw
attribute [local go_sem ↓] Go.wp_at_zero Go.wp_at_succ
set_option maxHeartbeats 3200000 in
theorem bkP (s s':Bool) (A A':Option Addr) (ns ms:List Nat) (n m c c' B B':Nat) (w:World) (h:Rd w B A ns) (h':Rd w B' A' ms) (hB:B≤w.heap.size) (hB':B'≤w.heap.size)
  (hn:ns.length=n) (hm:ms.length=m) (hl:n≤8388608) (hl':m≤8388608) (hc:n≤c) (hc':m≤c') :
  Calls Tryz.prog 91 #[.agg #[.bool s,.slice A n c],.agg #[.bool s',.slice A' m c']] w (atE w (zv s ns*zv s' ms)):=by
 have hlz:=ate (s:=s) h.wds
 have hlz':=ate (s:=s') h'.wds
 rw [hn] at hlz
 rw [hm] at hlz'
 go_enter Tryz.func91,Tryz.ntmps91
 go_upto_region 1 with fail
 obtain ⟨T1,T2,T3,_,hb0⟩:=ae' (Below.refl _ (((w.alloc (.cells #[.bool s,.slice A n c] 39)).alloc (.cells #[.bool s',.slice A' m c'] 39)).alloc (.cells #[.bool false,.slice none 0 0] 39)))
 have R1:=h.below (hb0.mono hB)
 have R2:=h'.below (hb0.mono hB')
 generalize hW:(((w.alloc (.cells #[.bool s,.slice A n c] 39)).alloc (.cells #[.bool s',.slice A' m c'] 39)).alloc (.cells #[.bool false,.slice none 0 0] 39))=W at *
 clear hW
 have l3:=T3.lt
 obtain ⟨c10,c11,f10,f11⟩:=T1.facts
 obtain ⟨c20,c21,f20,f21⟩:=T2.facts
 go_cut [] (fun wc => ∃ A1 c1 A2 c2,Two wc w.heap.size 39 (.bool (sg (zv s ns))) (.slice A1 (mg (zv s ns)).length c1)∧Two wc (w.heap.size+1) 39 (.bool (sg (zv s' ms))) (.slice A2 (mg (zv s' ms)).length c2) ∧
  Two wc (w.heap.size+1+1) 39 (.bool false) (.slice none 0 0)∧Rd wc B A1 (mg (zv s ns))∧Rd wc B' A2 (mg (zv s' ms))∧Below w.heap.size w wc∧(mg (zv s ns)).length≤c1∧(mg (zv s' ms)).length≤c2)
 case first =>
  go_region_with (first
   | (go_at_call_of 151 (Value.agg #[Value.bool s,Value.slice A n c]); refine (azk s A ns n c B _ (by first | exact R1.drew | exact R1.next K2 (by omega)) (by first | (simp; omega) | (have:=K2.size; omega)) hn (by omega) hc).mono ?_; rintro e w1 ⟨A1,c1,rfl,hc1,hr1,hb1⟩; have K1:Below W.heap.size W w1:=(by first | exact azl hb1 | exact a01 K2 hb1); obtain ⟨d10,d11,g10,g11⟩:=(T1.next K1).facts; obtain ⟨d20,d21,g20,g21⟩:=(T2.next K1).facts)
   | (go_at_call_of 151 (Value.agg #[Value.bool s',Value.slice A' m c']); refine (azk s' A' ms m c' B' _ (by first | exact R2.drew | exact R2.next K1 (by omega)) (by first | (simp; omega) | (have:=K1.size; omega)) hm (by omega) hc').mono ?_; rintro e w2 ⟨A2,c2,rfl,hc2,hr2,hb2⟩; have K2:Below W.heap.size W w2:=(by first | exact azl hb2 | exact a01 K1 hb2); obtain ⟨i10,i11,j10,j11⟩:=(T1.next K2).facts; obtain ⟨i20,i21,j20,j21⟩:=(T2.next K2).facts))
  all_goals
   obtain ⟨P1,P2,P3,P4,P5⟩:_∧_∧_∧_∧_:=by
    first
     | exact azm (sg (zv s ns)) (sg (zv s' ms)) (.slice A1 (mg (zv s ns)).length c1) (.slice A2 (mg (zv s' ms)).length c2) (T1.next K2) (T2.next K2) (by omega) (hr1.next hb2 (by have:=K1.size; omega)) hr2 (aaR hb0 K2 (by omega)) (Nat.le_refl _) (by omega)
     | exact azm (sg (zv s ns)) (sg (zv s' ms)) (.slice A1 (mg (zv s ns)).length c1) (.slice A2 (mg (zv s' ms)).length c2) (T1.next K1) (T2.next K1) (by omega) hr1 (hr2.next hb1 (by have:=K2.size; omega)) (aaR hb0 K1 (by omega)) (Nat.le_refl _) (by omega)
   clear d10 d11 g10 g11 d20 d21 g20 g21 i10 i11 i20 i21 j10 j11 j20 j21 c10 c11 c20 c21 f10 f11 f20 f21
   go_wp2_with fail
   go_meet
   have N01:=(T3.next K1)
   have N02:=(T3.next K2)
   exact ⟨A1,c1,A2,c2,P1,P2,by first | exact N02.atz (by omega) (by omega) _ _ _ _ | exact N01.atz (by omega) (by omega) _ _ _ _,P3,P4,P5,hc1,hc2⟩
 case rest =>
  obtain ⟨A1,c1,A2,c2,Q1,Q2,Q3,r1,r2,hbc,hc1,hc2⟩:=hcut
  clear T1 T2 T3 R1 R2 hb0 l3 c10 c11 c20 c21 f10 f11 f20 f21
  obtain ⟨c10,c11,f10,f11⟩:=Q1.facts
  obtain ⟨c20,c21,f20,f21⟩:=Q2.facts
  go_wp2_with fail
  have l3:=Q3.lt
  have HM:Hid (val (mg (zv s ns))*val (mg (zv s' ms))=(zv s ns).natAbs*(zv s' ms).natAbs):=Lib.hid (by rw [aiz,aiz])
  have HF:Hid (zv s ns*zv s' ms=if (sg (zv s ns) != sg (zv s' ms))=true then -(((zv s ns).natAbs*(zv s' ms).natAbs:Nat):Int) else (((zv s ns).natAbs*(zv s' ms).natAbs:Nat):Int)):=Lib.hid (bdR _ _)
  go_region_held3 (fun w'=>w'.cell? ⟨w.heap.size,0,none⟩=some (.bool (sg (zv s ns)))∧w'.cell? ⟨w.heap.size,1,none⟩=some (.slice A1 (mg (zv s ns)).length c1)∧w'.cell? ⟨w.heap.size+1,0,none⟩=some (.bool (sg (zv s' ms)))∧w'.cell? ⟨w.heap.size+1,1,none⟩=some (.slice A2 (mg (zv s' ms)).length c2)) (first | go_keep | (go_split_ands; refine ⟨hq0 _ _,hq1 _ _,?_,?_⟩ <;> go_keep))
   (first
    | (go_at_call 157; refine (bkQ A1 A2 (mg (zv s ns)) (mg (zv s' ms)) _ _ c1 c2 B B' _ (by first | exact r1.drew | exact r1) (by first | exact r2.drew | exact r2) (by simp; omega) (by simp; omega) rfl rfl (by omega) (by omega)).mono ?_; rintro e w2 ⟨A3,c3,rfl,hc3,hr3,hb3⟩; rw [HM.out] at *; have K3:=azl hb3; obtain ⟨d10,d11,g10,g11⟩:=(Q1.next K3).facts; obtain ⟨d20,d21,g20,g21⟩:=(Q2.next K3).facts)
    | (go_at_call 156; refine (atd _ A3 _ _ c3 _ (zv s ns*zv s' ms) _ hr3 (Nat.le_refl _) rfl hc3 HF.out).mono ?_; rintro e w3 ⟨A4,c4,rfl,hc4,hr4,hb4⟩; have K4:=a01 K3 hb4; obtain ⟨i10,i11,j10,j11⟩:=(Q1.next K4).facts; obtain ⟨i20,i21,j20,j21⟩:=(Q2.next K4).facts; have U3:=Q3.next K4; obtain ⟨i30,i31,j30,j31⟩:=U3.facts; have hq0:=fun u v=>(((Q1.next K4).far (p:=⟨w.heap.size+1+1,0,none⟩) (by simp; omega) u).far (p:=⟨w.heap.size+1+1,1,none⟩) (by simp; omega) v).facts.1; have hq1:=fun u v=>(((Q1.next K4).far (p:=⟨w.heap.size+1+1,0,none⟩) (by simp; omega) u).far (p:=⟨w.heap.size+1+1,1,none⟩) (by simp; omega) v).facts.2.1))
  go_wp2
  refine bodyPost_ret (v := .agg #[.bool (sg (zv s ns*zv s' ms)),.slice A4 (mg (zv s ns*zv s' ms)).length c4]) (by simp [results,Tryz.results91,go_sem,i30,i31]) rfl ?_
  exact alf U3 hr4 hb4.size hc4 (aaR hbc K4 (Nat.le_refl _)) (by omega)
end Go.Proofs.YtbihljnjaondcaaGreatDoor
namespace Lw
def ahw (a b:Int):Int:=if a < b then -1 else if a=b then 0 else 1
theorem bhH {a b:Int} (ha:sg a=false) (hb:sg b=false):alg a.natAbs b.natAbs=ahw a b:=by
 unfold sg at *; simp at ha hb; unfold alg ahw; split <;> split <;> (try split) <;> (try split) <;> omega
theorem bhD {a b:Int} (ha:sg a=true) (hb:sg b=true):alg b.natAbs a.natAbs=ahw a b:=by
 unfold sg at *; simp at ha hb; unfold alg ahw; split <;> split <;> (try split) <;> (try split) <;> omega
theorem bhG {a b:Int} (ha:sg a=false) (hb:sg b=true):1=ahw a b:=by
 unfold sg at *; simp at ha hb; unfold ahw; rw [if_neg (by omega),if_neg (by omega)]
theorem bhE {a b:Int} (ha:sg a=true) (hb:sg b=false) : -1=ahw a b:=by
 unfold sg at *; simp at ha hb; unfold ahw; rw [if_pos (by omega)]
end Lw
namespace Go.Proofs.YtbihljnjaondcaaGreatDoor
open Go Go.RowKit Lw
attribute [local go_sem ↓] Go.wp_at_zero Go.wp_at_succ
set_option maxHeartbeats 3200000 in
theorem bhK (s s':Bool) (A A':Option Addr) (ns ms:List Nat) (n m c c' B B':Nat) (w:World) (h:Rd w B A ns) (h':Rd w B' A' ms) (hB:B≤w.heap.size) (hB':B'≤w.heap.size)
  (hn:ns.length=n) (hm:ms.length=m) (hl:n≤8388608) (hl':m≤8388608) (hc:n≤c) (hc':m≤c') :
  Calls Tryz.prog 112 #[.agg #[.bool s,.slice A n c],.agg #[.bool s',.slice A' m c']] w fun e w'=>e = .returned (.int .i64 (ahw (zv s ns) (zv s' ms)))∧Below w.heap.size w w':=by
 have hlz:=ate (s:=s) h.wds
 have hlz':=ate (s:=s') h'.wds
 rw [hn] at hlz
 rw [hm] at hlz'
 go_enter Tryz.func112,Tryz.ntmps112
 go_upto_region 1 with fail
 obtain ⟨T1,T2,_,hb0⟩:=abb (Below.refl _ ((w.alloc (.cells #[.bool s,.slice A n c] 39)).alloc (.cells #[.bool s',.slice A' m c'] 39)))
 have R1:=h.below (hb0.mono hB)
 have R2:=h'.below (hb0.mono hB')
 generalize hW:((w.alloc (.cells #[.bool s,.slice A n c] 39)).alloc (.cells #[.bool s',.slice A' m c'] 39))=W at *
 clear hW
 have l3:=T2.lt
 obtain ⟨c10,c11,f10,f11⟩:=T1.facts
 obtain ⟨c20,c21,f20,f21⟩:=T2.facts
 go_cut [] (fun wc => ∃ A1 c1 A2 c2,Two wc w.heap.size 39 (.bool (sg (zv s ns))) (.slice A1 (mg (zv s ns)).length c1)∧Two wc (w.heap.size+1) 39 (.bool (sg (zv s' ms))) (.slice A2 (mg (zv s' ms)).length c2) ∧
  Rd wc B A1 (mg (zv s ns))∧Rd wc B' A2 (mg (zv s' ms))∧Below w.heap.size w wc∧(mg (zv s ns)).length≤c1∧(mg (zv s' ms)).length≤c2)
 case first =>
  go_region_with (first
   | (go_at_call_of 151 (Value.agg #[Value.bool s,Value.slice A n c]); refine (azk s A ns n c B _ (by first | exact R1.drew | exact R1.next K2 (by omega)) (by first | (simp; omega) | (have:=K2.size; omega)) hn (by omega) hc).mono ?_; rintro e w1 ⟨A1,c1,rfl,hc1,hr1,hb1⟩; have K1:Below W.heap.size W w1:=(by first | exact azl hb1 | exact a01 K2 hb1); obtain ⟨d10,d11,g10,g11⟩:=(T1.next K1).facts; obtain ⟨d20,d21,g20,g21⟩:=(T2.next K1).facts)
   | (go_at_call_of 151 (Value.agg #[Value.bool s',Value.slice A' m c']); refine (azk s' A' ms m c' B' _ (by first | exact R2.drew | exact R2.next K1 (by omega)) (by first | (simp; omega) | (have:=K1.size; omega)) hm (by omega) hc').mono ?_; rintro e w2 ⟨A2,c2,rfl,hc2,hr2,hb2⟩; have K2:Below W.heap.size W w2:=(by first | exact azl hb2 | exact a01 K1 hb2); obtain ⟨i10,i11,j10,j11⟩:=(T1.next K2).facts; obtain ⟨i20,i21,j20,j21⟩:=(T2.next K2).facts))
  all_goals
   obtain ⟨P1,P2,P3,P4,P5⟩:_∧_∧_∧_∧_:=by
    first
     | exact azm (sg (zv s ns)) (sg (zv s' ms)) (.slice A1 (mg (zv s ns)).length c1) (.slice A2 (mg (zv s' ms)).length c2) (T1.next K2) (T2.next K2) (by omega) (hr1.next hb2 (by have:=K1.size; omega)) hr2 (aaR hb0 K2 (by omega)) (Nat.le_refl _) (by omega)
     | exact azm (sg (zv s ns)) (sg (zv s' ms)) (.slice A1 (mg (zv s ns)).length c1) (.slice A2 (mg (zv s' ms)).length c2) (T1.next K1) (T2.next K1) (by omega) hr1 (hr2.next hb1 (by have:=K2.size; omega)) (aaR hb0 K1 (by omega)) (Nat.le_refl _) (by omega)
   clear d10 d11 g10 g11 d20 d21 g20 g21 i10 i11 i20 i21 j10 j11 j20 j21 c10 c11 c20 c21 f10 f11 f20 f21
   go_wp2_with fail
   go_meet
   exact ⟨A1,c1,A2,c2,P1,P2,P3,P4,P5,hc1,hc2⟩
 case rest =>
  obtain ⟨A1,c1,A2,c2,Q1,Q2,r1,r2,hbc,hc1,hc2⟩:=hcut
  clear T1 T2 R1 R2 hb0 l3 c10 c11 c20 c21 f10 f11 f20 f21
  obtain ⟨c10,c11,f10,f11⟩:=Q1.facts
  obtain ⟨c20,c21,f20,f21⟩:=Q2.facts
  have e1:=aiz (zv s ns)
  have e2:=aiz (zv s' ms)
  have E1:=Lib.hid e1
  have E2:=Lib.hid e2
  clear e1 e2
  have hsz:=hbc.size
  cases ha:sg (zv s ns) <;> cases hb:sg (zv s' ms)
  ·have HC:Hid (alg (zv s ns).natAbs (zv s' ms).natAbs=ahw (zv s ns) (zv s' ms)):=Lib.hid (bhH ha hb)
   go_wp2_with fail
   refine (a0T A1 A2 (mg (zv s ns)) (mg (zv s' ms)) _ _ c1 c2 B B' _ r1 r2 (a3q _) (a3q _) rfl rfl (by omega) (by omega)).mono ?_
   rintro e w3 ⟨rfl,q,rfl⟩
   go_wp2_with fail
   go_ret
   exact ⟨ahy (by rw [E1.out,E2.out,HC.out]),aaR hbc (below_drewN' _ _ _) (Nat.le_refl _)⟩
  ·have HC:Hid (1=ahw (zv s ns) (zv s' ms)):=Lib.hid (bhG ha hb)
   go_wp2_with fail
   go_ret
   exact ⟨ahy HC.out,hbc⟩
  ·have HC:Hid (-1=ahw (zv s ns) (zv s' ms)):=Lib.hid (bhE ha hb)
   go_wp2_with fail
   go_ret
   exact ⟨ahy HC.out,hbc⟩
  ·have HC:Hid (alg (zv s' ms).natAbs (zv s ns).natAbs=ahw (zv s ns) (zv s' ms)):=Lib.hid (bhD ha hb)
   go_wp2_with fail
   refine (a0T A2 A1 (mg (zv s' ms)) (mg (zv s ns)) _ _ c2 c1 B' B _ r2 r1 (a3q _) (a3q _) rfl rfl (by omega) (by omega)).mono ?_
   rintro e w3 ⟨rfl,q,rfl⟩
   go_wp2_with fail
   go_ret
   exact ⟨ahy (by rw [E1.out,E2.out,HC.out]),aaR hbc (below_drewN' _ _ _) (Nat.le_refl _)⟩
end Go.Proofs.YtbihljnjaondcaaGreatDoor
