/- Part of a proof, said shortly. -/
import Derived.Deep.RegionWith
import Derived.Deep.DeepCutAuto
import Derived.Test.YtbihljnjaondcaaGreatDoorAlt
import Derived.Test.YtbihljnjaondcaaGreatDoorT8
import Derived.Test.YtbihljnjaondcaaGreatDoorT6
import Derived.Test.YtbihljnjaondcaaGreatDoorT4
import Derived.Test.YtbihljnjaondcaaGreatDoorT3
import Derived.Test.YtbihljnjaondcaaGreatDoorT2
import Derived.Test.YtbihljnjaondcaaGreatDoorT1
import Derived.Test.YtbihljnjaondcaaGreatDoorT5
import Derived.Test.YtbihljnjaondcaaGreatDoorT7
namespace Lw
theorem bcw {a b q r:Int} (hb:b≠0) (h:r+b*q=a) (h0:0≤r) (h1:r < b.natAbs):a / b=q∧a % b=r:=by
 rcases Int.lt_or_gt_of_ne hb with h2 | h2
 ·rw [Int.ediv_emod_unique' h2]; exact ⟨h,h0,by omega⟩
 ·rw [Int.ediv_emod_unique h2]; exact ⟨h,h0,by omega⟩
theorem bcv {z z':Int} (h:z'≠0) :
  z.natAbs % z'.natAbs < z'.natAbs ∧
  (sg z=true→z.natAbs % z'.natAbs≠0→z / z'=sv (sg z != sg z') (z.natAbs / z'.natAbs+1)∧z % z'=((z'.natAbs - z.natAbs % z'.natAbs:Nat):Int)) ∧
  ((sg z=false∨z.natAbs % z'.natAbs=0)→z / z'=sv (sg z != sg z') (z.natAbs / z'.natAbs)∧z % z'=((z.natAbs % z'.natAbs:Nat):Int)):=by
 have hpos:0 < z'.natAbs:=by omega
 have hR:=Nat.mod_lt z.natAbs hpos
 have hdm:=Nat.mod_add_div z.natAbs z'.natAbs
 have e1:=a2A z
 have e2:=a2A z'
 rw [aiz] at e1 e2
 generalize z.natAbs % z'.natAbs=R at *
 generalize z.natAbs / z'.natAbs=Q at *
 generalize hN:z.natAbs=N at *
 generalize hM:z'.natAbs=M at *
 have hc:(N:Int)=(R:Int)+(M:Int)*(Q:Int):=by rw [← hdm]; simp
 generalize hx:(M:Int)*(Q:Int)=x at hc
 refine ⟨hR,?_,?_⟩
 ·intro h1 h2
  rw [h1] at e1 ⊢
  cases hs:sg z' <;> rw [hs] at e2 <;> simp at e1 e2 <;> refine bcw h ?_ (by omega) (by omega)
  ·simp only [sv]; rw [e2]; simp only [Bool.true_bne,Bool.not_false,if_true]
   rw [Int.mul_neg,Int.natCast_add,Int.mul_add,hx]; simp; omega
  ·simp only [sv]; rw [e2]; simp
   rw [Int.neg_mul,Int.mul_add,hx]; omega
 ·intro h1
  cases hs:sg z' <;> rw [hs] at e2 <;> cases hs1:sg z <;> rw [hs1] at e1 h1 <;> simp at e1 e2 h1 <;> refine bcw h ?_ (by omega) (by omega) <;> simp [sv] <;> rw [e2] <;> simp only [Int.neg_mul,Int.mul_neg,hx] <;> omega
end Lw
namespace Go.Proofs.YtbihljnjaondcaaGreatDoor
open Go Go.RowKit Lw
theorem bhi (w:World) (t:TypeId):Blk (w.alloc (.cells #[.int .u32 1] t)) w.heap.size t [1]:=Blk.new w t [1]
theorem bpc:Wds [1]:=by rw [alb]; exact ⟨by omega,ak5⟩
def bf7 (w:World) (q r:Int) (e:Ending) (w':World):Prop :=
 ∃ A c A' c',e = .returned (.tuple #[.agg #[.bool (sg q),.slice A (mg q).length c],.agg #[.bool (sg r),.slice A' (mg r).length c'],.nilIface])∧(mg q).length≤c∧(mg r).length≤c'∧Rd w' w'.heap.size A (mg q)∧Rd w' w'.heap.size A' (mg r)∧Below w.heap.size w w'
end Go.Proofs.YtbihljnjaondcaaGreatDoor
namespace Go.Proofs.YtbihljnjaondcaaGreatDoor
open Go Go.RowKit Lw
attribute [local go_sem ↓] Go.wp_at_zero Go.wp_at_succ
set_option maxHeartbeats 3200000 in
theorem bij (s s':Bool) (A A':Option Addr) (ns ms:List Nat) (n m c c' B B':Nat) (w:World) (h:Rd w B A ns) (h':Rd w B' A' ms) (hB:B≤w.heap.size) (hB':B'≤w.heap.size)
  (hn:ns.length=n) (hm:ms.length=m) (hl:n≤8388608) (hl':m≤8388608) (hc:n≤c) (hc':m≤c') (hz:zv s' ms≠0) (HL:n≤2∨a9h) :
  Calls Tryz.prog 155 #[.agg #[.bool s,.slice A n c],.agg #[.bool s',.slice A' m c']] w (bf7 w (zv s ns / zv s' ms) (zv s ns % zv s' ms)):=by
 have hlz:=ate (s:=s) h.wds
 have hlz':=ate (s:=s') h'.wds
 rw [hn] at hlz
 rw [hm] at hlz'
 have HNZ:=Lib.hid hz
 have HLH:=Lib.hid HL
 clear hz HL
 go_enter Tryz.func155,Tryz.ntmps155
 go_upto_region 1 with fail
 obtain ⟨T1,T2,T3,T4,_,hb0⟩:=bhn (Below.refl _ ((((w.alloc (.cells #[.bool s,.slice A n c] 39)).alloc (.cells #[.bool s',.slice A' m c'] 39)).alloc (.cells #[.bool false,.slice none 0 0] 39)).alloc (.cells #[.bool false,.slice none 0 0] 39)))
 have R1:=h.below (hb0.mono hB)
 have R2:=h'.below (hb0.mono hB')
 generalize hW:((((w.alloc (.cells #[.bool s,.slice A n c] 39)).alloc (.cells #[.bool s',.slice A' m c'] 39)).alloc (.cells #[.bool false,.slice none 0 0] 39)).alloc (.cells #[.bool false,.slice none 0 0] 39))=W at *
 clear hW
 have l3:=T4.lt
 obtain ⟨c10,c11,f10,f11⟩:=T1.facts
 obtain ⟨c20,c21,f20,f21⟩:=T2.facts
 go_cut [] (fun wc => ∃ A1 c1 A2 c2,Two wc w.heap.size 39 (.bool (sg (zv s ns))) (.slice A1 (mg (zv s ns)).length c1)∧Two wc (w.heap.size+1) 39 (.bool (sg (zv s' ms))) (.slice A2 (mg (zv s' ms)).length c2) ∧
  Two wc (w.heap.size+1+1) 39 (.bool false) (.slice none 0 0)∧Two wc (w.heap.size+1+1+1) 39 (.bool false) (.slice none 0 0)∧Rd wc B A1 (mg (zv s ns))∧Rd wc B' A2 (mg (zv s' ms))∧Below w.heap.size w wc∧(mg (zv s ns)).length≤c1∧(mg (zv s' ms)).length≤c2)
 case first =>
  go_region_with (first
   | (go_at_call_of 151 (Value.agg #[Value.bool s,Value.slice A n c]); refine (azk s A ns n c B _ (by first | exact R1.drew | exact R1.next K2 (by omega)) (by first | (simp; omega) | (have:=K2.size; omega)) hn (by omega) hc).mono ?_; rintro e w1 ⟨A1,c1,rfl,hc1,hr1,hb1⟩; have K1:Below W.heap.size W w1:=(by first | exact azl hb1 | exact a01 K2 hb1); obtain ⟨d10,d11,g10,g11⟩:=(T1.next K1).facts; obtain ⟨d20,d21,g20,g21⟩:=(T2.next K1).facts)
   | (go_at_call_of 151 (Value.agg #[Value.bool s',Value.slice A' m c']); refine (azk s' A' ms m c' B' _ (by first | exact R2.drew | exact R2.next K1 (by omega)) (by first | (simp; omega) | (have:=K1.size; omega)) hm (by omega) hc').mono ?_; rintro e w2 ⟨A2,c2,rfl,hc2,hr2,hb2⟩; have K2:Below W.heap.size W w2:=(by first | exact azl hb2 | exact a01 K1 hb2); obtain ⟨i10,i11,j10,j11⟩:=(T1.next K2).facts; obtain ⟨i20,i21,j20,j21⟩:=(T2.next K2).facts))
  all_goals
   obtain ⟨P1,P2,P3,P4,P5⟩:_∧_∧_∧_∧_:=by
    first
     | exact azm (sg (zv s ns)) (sg (zv s' ms)) (.slice A1 (mg (zv s ns)).length c1) (.slice A2 (mg (zv s' ms)).length c2) (T1.next K2) (T2.next K2) (by omega) (hr1.next hb2 (by have:=K1.size; omega)) hr2 (aaR hb0 K2 (by omega)) (Nat.le_refl _) (by omega)
     | exact azm (sg (zv s ns)) (sg (zv s' ms)) (.slice A1 (mg (zv s ns)).length c1) (.slice A2 (mg (zv s' ms)).length c2) (T1.next K1) (T2.next K1) (by omega) hr1 (hr2.next hb1 (by have:=K2.size; omega)) (aaR hb0 K1 (by omega)) (Nat.le_refl _) (by omega)
   clear d10 d11 g10 g11 d20 d21 g20 g21 i10 i11 i20 i21 j10 j11 j20 j21 c10 c11 c20 c21 f10 f11 f20 f21
   go_wp2_with fail
   go_meet
   have N01:=(T3.next K1)
   have N02:=(T3.next K2)
   have N11:=(T4.next K1)
   have N12:=(T4.next K2)
   exact ⟨A1,c1,A2,c2,P1,P2,by first | exact N02.atz (by omega) (by omega) _ _ _ _ | exact N01.atz (by omega) (by omega) _ _ _ _,by first | exact N12.atz (by omega) (by omega) _ _ _ _ | exact N11.atz (by omega) (by omega) _ _ _ _,P3,P4,P5,hc1,hc2⟩
 case rest =>
  obtain ⟨A1,c1,A2,c2,Q1,Q2,Q3,Q4,r1,r2,hbc,hc1,hc2⟩:=hcut
  clear T1 T2 T3 T4 R1 R2 hb0 l3 c10 c11 c20 c21 f10 f11 f20 f21
  obtain ⟨c10,c11,f10,f11⟩:=Q1.facts
  obtain ⟨c20,c21,f20,f21⟩:=Q2.facts
  have hbq:(((mg (zv s' ms)).length:Int)==0)=false:=by
   rw [beq_eq_false_iff_ne]
   intro e
   exact HNZ.out (a1u.1 (by omega))
  go_wp2_with fail
  refine (a4q A1 A2 (zv s ns).natAbs (zv s' ms).natAbs _ _ c1 c2 B B' _ r1 r2 (by have:=hbc.size; omega) (by have:=hbc.size; omega) rfl rfl (Nat.le_trans hlz hl) (Nat.le_trans hlz' hl') hc1 hc2 (by have:=HNZ.out; omega) (HLH.out.imp (fun h=>Nat.le_trans hlz h) id)).mono ?_
  rintro e w3 ⟨A3,c3,A4,c4,rfl,hc3,hc4,hr3,hr4,hb3⟩
  have HE:=Lib.hid (bcv (z:=zv s ns) HNZ.out)
  have hQb:=a8G s ns
  have bjz:(Uy ((zv s ns).natAbs / (zv s' ms).natAbs)).length≤n:=Nat.le_trans (aj9 (Nat.lt_of_le_of_lt (Nat.le_trans (Nat.div_le_self _ _) hQb) (afS h.wds))) (by rw [hn]; exact Nat.le_refl _)
  have U1:=Q1.next hb3
  have U2:=Q2.next hb3
  have U3:=Q3.next hb3
  have U4:=Q4.next hb3
  have r2':=r2.next hb3 (by have:=hbc.size; omega)
  have hb4:=aaR hbc hb3 (Nat.le_refl _)
  obtain ⟨d10,d11,g10,g11⟩:=U1.facts
  obtain ⟨d20,d21,g20,g21⟩:=U2.facts
  obtain ⟨d30,d31,g30,g31⟩:=U3.facts
  obtain ⟨d40,d41,g40,g41⟩:=U4.facts
  obtain ⟨Q,hQ⟩ : ∃ Q,Q=(zv s ns).natAbs / (zv s' ms).natAbs:=⟨_,rfl⟩
  obtain ⟨R,hR⟩ : ∃ R,R=(zv s ns).natAbs % (zv s' ms).natAbs:=⟨_,rfl⟩
  rw [← hQ] at hr3 hc3 bjz HE ⊢
  rw [← hR] at hr4 hc4 HE ⊢
  clear hQ hR hQb c10 c11 c20 c21 f10 f11 f20 f21
  cases hsn:sg (zv s ns)
  ·have HF:Hid (zv s ns / zv s' ms=(if sg (zv s' ms)=true then -(Q:Int) else (Q:Int))∧zv s ns % zv s' ms=if false=true then -(R:Int) else (R:Int)):=Lib.hid (by obtain ⟨_,_,h3⟩:=HE.out; obtain ⟨h4,h5⟩:=h3 (.inl hsn); rw [hsn,Bool.false_bne] at h4; exact ⟨h4,h5⟩)
   clear HE
   go_wp2_with fail
   refine (atd (sg (zv s' ms)) A3 (Q) _ c3 _ (zv s ns / zv s' ms) _ hr3 (Nat.le_refl _) rfl hc3 HF.out.1).mono ?_
   rintro e w6 ⟨A6,c6,rfl,hc6,hr6,hb6⟩
   have V3:=(U3).next hb6
   have V4:=(U4).next hb6
   have rr:=(hr4).next hb6 (Nat.le_refl _)
   go_wp2_with fail
   refine (atd false A4 (R) _ c4 _ (zv s ns % zv s' ms) _ rr (Nat.le_trans (Nat.le_refl _) hb6.size) rfl hc4 HF.out.2).mono ?_
   rintro e w7 ⟨A7,c7,rfl,hc7,hr7,hb7⟩
   have X3:=V3.next hb7
   have X4:=V4.next hb7
   obtain ⟨k30,k31,l30,l31⟩:=X3.facts
   obtain ⟨k40,k41,l40,l41⟩:=X4.facts
   have hb8:=aaR (aaR hb4 hb6 (by have:=hb4.size; omega)) hb7 (by have:=hb4.size; have:=hb6.size; omega)
   have a6r:=(hr6.next hb7 hb6.size)
   go_wp2_with fail
   refine bodyPost_ret (v := .tuple #[.agg #[.bool (sg (zv s ns / zv s' ms)),.slice A6 (mg (zv s ns / zv s' ms)).length c6],.agg #[.bool (sg (zv s ns % zv s' ms)),.slice A7 (mg (zv s ns % zv s' ms)).length c7],.nilIface]) (by simp [results,Tryz.results155,go_sem,k30,k31,k40,k41]) rfl ?_
   have P3:=X3.put (.bool (sg (zv s ns / zv s' ms))) (.slice A6 (mg (zv s ns / zv s' ms)).length c6)
   have P4:=(X4.far (p:=⟨w.heap.size+1+1,0,none⟩) (by simp) (.bool (sg (zv s ns / zv s' ms)))).far (p:=⟨w.heap.size+1+1,1,none⟩) (by simp) (.slice A6 (mg (zv s ns / zv s' ms)).length c6)
   exact ⟨A6,c6,A7,c7,rfl,hc6,hc7,((a6r.ak' X3 _ _).ak' P4 _ _).more (by simp; exact Nat.le_trans hb6.size hb7.size),((hr7.ak' X3 _ _).ak' P4 _ _).more (by simp; exact Nat.le_trans (Nat.le_trans (Nat.le_refl _) hb6.size) hb7.size),(((hb8.setCell (by simp; omega) _).setCell (by simp; omega) _).setCell (by simp; omega) _).setCell (by simp; omega) _⟩
  ·by_cases hR0:R=0
   ·have HF:Hid (zv s ns / zv s' ms=(if (!sg (zv s' ms))=true then -(Q:Int) else (Q:Int))∧zv s ns % zv s' ms=if false=true then -(R:Int) else (R:Int)):=Lib.hid (by obtain ⟨_,_,h3⟩:=HE.out; obtain ⟨h4,h5⟩:=h3 (.inr hR0); rw [hsn,Bool.true_bne] at h4; exact ⟨h4,h5⟩)
    have hl0:Hid ((Uy R).length=0):=Lib.hid (by rw [hR0]; rfl)
    have hbr:(0 < (Uy R).length)=False:=eq_false (by rw [hl0.out]; omega)
    clear hR0 HE
    go_wp2_with fail
    refine (atd (!sg (zv s' ms)) A3 (Q) _ c3 _ (zv s ns / zv s' ms) _ hr3 (Nat.le_refl _) rfl hc3 HF.out.1).mono ?_
    rintro e w6 ⟨A6,c6,rfl,hc6,hr6,hb6⟩
    have V3:=(U3).next hb6
    have V4:=(U4).next hb6
    have rr:=(hr4).next hb6 (Nat.le_refl _)
    go_wp2_with fail
    refine (atd false A4 (R) _ c4 _ (zv s ns % zv s' ms) _ rr (Nat.le_trans (Nat.le_refl _) hb6.size) rfl hc4 HF.out.2).mono ?_
    rintro e w7 ⟨A7,c7,rfl,hc7,hr7,hb7⟩
    have X3:=V3.next hb7
    have X4:=V4.next hb7
    obtain ⟨k30,k31,l30,l31⟩:=X3.facts
    obtain ⟨k40,k41,l40,l41⟩:=X4.facts
    have hb8:=aaR (aaR hb4 hb6 (by have:=hb4.size; omega)) hb7 (by have:=hb4.size; have:=hb6.size; omega)
    have a6r:=(hr6.next hb7 hb6.size)
    go_wp2_with fail
    refine bodyPost_ret (v := .tuple #[.agg #[.bool (sg (zv s ns / zv s' ms)),.slice A6 (mg (zv s ns / zv s' ms)).length c6],.agg #[.bool (sg (zv s ns % zv s' ms)),.slice A7 (mg (zv s ns % zv s' ms)).length c7],.nilIface]) (by simp [results,Tryz.results155,go_sem,k30,k31,k40,k41]) rfl ?_
    have P3:=X3.put (.bool (sg (zv s ns / zv s' ms))) (.slice A6 (mg (zv s ns / zv s' ms)).length c6)
    have P4:=(X4.far (p:=⟨w.heap.size+1+1,0,none⟩) (by simp) (.bool (sg (zv s ns / zv s' ms)))).far (p:=⟨w.heap.size+1+1,1,none⟩) (by simp) (.slice A6 (mg (zv s ns / zv s' ms)).length c6)
    exact ⟨A6,c6,A7,c7,rfl,hc6,hc7,((a6r.ak' X3 _ _).ak' P4 _ _).more (by simp; exact Nat.le_trans hb6.size hb7.size),((hr7.ak' X3 _ _).ak' P4 _ _).more (by simp; exact Nat.le_trans (Nat.le_trans (Nat.le_refl _) hb6.size) hb7.size),(((hb8.setCell (by simp; omega) _).setCell (by simp; omega) _).setCell (by simp; omega) _).setCell (by simp; omega) _⟩
   ·have HF:Hid (zv s ns / zv s' ms=(if (!sg (zv s' ms))=true then -((Q+1:Nat):Int) else ((Q+1:Nat):Int))∧zv s ns % zv s' ms=if false=true then -(((zv s' ms).natAbs - R:Nat):Int) else (((zv s' ms).natAbs - R:Nat):Int)):=Lib.hid (by obtain ⟨_,h3,_⟩:=HE.out; obtain ⟨h4,h5⟩:=h3 hsn hR0; rw [hsn,Bool.true_bne] at h4; exact ⟨h4,h5⟩)
    have a9I:=HE.out.1
    have hbr:0 < (Uy R).length:=by
     rcases Nat.eq_zero_or_pos (Uy R).length with h0 | h0
     ·exact absurd (ak4.1 (List.eq_nil_of_length_eq_zero h0)) hR0
     ·omega
    have HRL:=Lib.hid a9I
    have vQ:=Lib.hid (aar Q)
    have vR:=Lib.hid (aar R)
    have hlR:(Uy R).length≤m:=Nat.le_trans (aj9 (Nat.lt_of_lt_of_le a9I (Nat.le_trans (a8G s' ms) (Nat.le_of_lt (afS h'.wds))))) (by rw [hm]; exact Nat.le_refl _)
    clear hR0 HE a9I
    have hone:=bhi w3 99
    have a7N:=hb4.size
    go_wp2_with fail
    refine (add_any A3 (some ⟨w3.heap.size,0,none⟩) (Uy Q) [1] _ 1 c3 1 w3.heap.size _ _ (hr3.alloc (Nat.le_refl _) _) (hone.rd bpc) (by simp) (Nat.le_refl _) rfl rfl (by omega) (by omega) hc3 (by omega)).mono ?_
    rintro e w4 ⟨A5,c5,rfl,hc5,hr5,hb5⟩
    rw [vQ.out,show val [1]=1 from rfl] at hr5 hc5 ⊢
    have a1I:=aaR ((Below.refl w3.heap.size w3).alloc (Nat.le_refl _) (.cells #[.int .u32 1] 99)) hb5 (by simp)
    have Z2:=U2.next a1I
    obtain ⟨i20,i21,j20,j21⟩:=Z2.facts
    have hsz5:=a1I.size
    go_wp2_with fail
    refine (ba8 A2 A4 (mg (zv s' ms)) (Uy R) _ _ c2 c4 B' w3.heap.size _ (r2'.next a1I (by omega)) (hr4.next a1I (Nat.le_refl _)) (by omega) (by omega) rfl rfl (by omega) (by omega) (by rw [aiz,vR.out]; exact Nat.le_of_lt HRL.out)).mono ?_
    rintro e w5 ⟨A8,c8,rfl,hc8,hr8,a1J⟩
    rw [aiz,vR.out] at hr8 hc8 ⊢
    have Y3:=(U3.next a1I).next a1J
    have Y4:=(U4.next a1I).next a1J
    have bjZ:=hr5.next a1J (Nat.le_refl _)
    obtain ⟨o10,o11,p10,p11⟩:=((U1.next a1I).next a1J).facts
    obtain ⟨o20,o21,p20,p21⟩:=((U2.next a1I).next a1J).facts
    have a9K:=aaR (aaR hb4 a1I (by omega)) a1J (by omega)
    go_wp2_with fail
    refine (atd (!sg (zv s' ms)) A5 (Q+1) _ c5 _ (zv s ns / zv s' ms) _ bjZ (by have:=hb5.size; have:=a1J.size; omega) rfl hc5 HF.out.1).mono ?_
    rintro e w6 ⟨A6,c6,rfl,hc6,hr6,hb6⟩
    have V3:=(Y3).next hb6
    have V4:=(Y4).next hb6
    have rr:=(hr8).next hb6 (Nat.le_refl _)
    go_wp2_with fail
    refine (atd false A8 ((zv s' ms).natAbs - R) _ c8 _ (zv s ns % zv s' ms) _ rr (Nat.le_trans (Nat.le_refl _) hb6.size) rfl hc8 HF.out.2).mono ?_
    rintro e w7 ⟨A7,c7,rfl,hc7,hr7,hb7⟩
    have X3:=V3.next hb7
    have X4:=V4.next hb7
    obtain ⟨k30,k31,l30,l31⟩:=X3.facts
    obtain ⟨k40,k41,l40,l41⟩:=X4.facts
    have hb8:=aaR (aaR a9K hb6 (by have:=a9K.size; omega)) hb7 (by have:=a9K.size; have:=hb6.size; omega)
    have a6r:=(hr6.next hb7 (by have:=hb5.size; have:=a1J.size; have:=hb6.size; omega))
    go_wp2_with fail
    refine bodyPost_ret (v := .tuple #[.agg #[.bool (sg (zv s ns / zv s' ms)),.slice A6 (mg (zv s ns / zv s' ms)).length c6],.agg #[.bool (sg (zv s ns % zv s' ms)),.slice A7 (mg (zv s ns % zv s' ms)).length c7],.nilIface]) (by simp [results,Tryz.results155,go_sem,k30,k31,k40,k41]) rfl ?_
    have P3:=X3.put (.bool (sg (zv s ns / zv s' ms))) (.slice A6 (mg (zv s ns / zv s' ms)).length c6)
    have P4:=(X4.far (p:=⟨w.heap.size+1+1,0,none⟩) (by simp) (.bool (sg (zv s ns / zv s' ms)))).far (p:=⟨w.heap.size+1+1,1,none⟩) (by simp) (.slice A6 (mg (zv s ns / zv s' ms)).length c6)
    exact ⟨A6,c6,A7,c7,rfl,hc6,hc7,((a6r.ak' X3 _ _).ak' P4 _ _).more (by simp; exact Nat.le_trans (by have:=hb5.size; have:=a1J.size; have:=hb6.size; omega) hb7.size),((hr7.ak' X3 _ _).ak' P4 _ _).more (by simp; exact Nat.le_trans (Nat.le_trans (Nat.le_refl _) hb6.size) hb7.size),(((hb8.setCell (by simp; omega) _).setCell (by simp; omega) _).setCell (by simp; omega) _).setCell (by simp; omega) _⟩
end Go.Proofs.YtbihljnjaondcaaGreatDoor
