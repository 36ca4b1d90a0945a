/- Part of a proof, said shortly. -/
import Derived.Deep.RegionWith
import Derived.Deep.DeepCutAuto
import Derived.Lib.TrailingZeros
import Derived.Test.YtkcpphebkmnonaaGreatDoorAlzb
import Derived.Test.YtkcpphebkmnonaaGreatDoorC3b
import Derived.Test.YtkcpphebkmnonaaGreatDoorC2b
import Derived.Test.YtkcpphebkmnonaaGreatDoorC1b
namespace Lw
theorem SA{a b q r:Int}(hb:b≠0)(h:r+b*q=a)(h0:0<=r)(h1:r<b.natAbs):a/b=q/\a%b=r:=by
 rcases axD hb with h2 | h2
 ·rw [Int.ediv_emod_unique' h2];exact ⟨h,h0,af⟩
 ·rw [Int.ediv_emod_unique h2];exact ⟨h,h0,af⟩
theorem Sz{z z':Int}(h:z'≠0) :
  z.natAbs%z'.natAbs<z'.natAbs /\
  (sg z=true->z.natAbs%z'.natAbs≠0->z/z'=sv (sg z != sg z') (z.natAbs/z'.natAbs+1)/\z%z'=((z'.natAbs-z.natAbs%z'.natAbs:Nat):Int)) /\
  ((sg z=false\/z.natAbs%z'.natAbs=0)->z/z'=sv (sg z != sg z') (z.natAbs/z'.natAbs)/\z%z'=((z.natAbs%z'.natAbs:Nat):Int)):=by
 have hpos:0<z'.natAbs:=af;have hR:=av6 z.natAbs hpos;have hdm:=Nat.mod_add_div z.natAbs z'.natAbs;have e1:=wG z;have e2:=wG z';rw [gX] at e1 e2;generalize z.natAbs%z'.natAbs=R at *;generalize z.natAbs/z'.natAbs=Q at *;generalize hN:z.natAbs=N at *;generalize hM:z'.natAbs=M at *;have hc:(N:Int)=(R:Int)+(M:Int)*(Q:Int):=by rw [<- hdm];simp
 generalize hx:(M:Int)*(Q:Int)=x at hc;refine ⟨hR,?_,?_⟩
 ·intro h1 h2
  rw [h1] at e1 ⊢
  cases hs:sg z' <;> rw [hs] at e2 <;> simp at e1 e2 <;> refine SA h ?_ af af
  ·simp only [sv];rw [e2];simp only [Bool.true_bne,Bool.not_false,if_true]
   rw [Int.mul_neg,awV,Int.mul_add,hx];simp;omega
  ·simp only [sv];rw [e2];simp
   rw [Int.neg_mul,Int.mul_add,hx];omega
 ·intro h1
  cases hs:sg z' <;> rw [hs] at e2 <;> cases hs1:sg z <;> rw [hs1] at e1 h1 <;> simp at e1 e2 h1 <;> refine SA h ?_ af af <;> simp [sv] <;> rw [e2] <;> simp only [Int.neg_mul,Int.mul_neg,hx] <;> omega
end Lw
namespace Go.Proofs.BGQ
open Go Go.RowKit Lw
theorem aa2(w:World)(t:TypeId):bH (w.alloc (.cells #[.int .u32 1] t)) w.heap.size t [1]:=bH.new w t [1]
theorem alx:bM [1]:=by rw [jP];exact ⟨af,jo⟩
def ZF(w:World)(q r:Int)(e:Ending)(w':World):Prop :=
 ∃ A c A' c',e = .returned (.tuple #[.agg #[.bool (sg q),.slice A (mg q).length c],.agg #[.bool (sg r),.slice A' (mg r).length c'],.nilIface])/\(mg q).length<=c/\(mg r).length<=c'/\Rd w' w'.heap.size A (mg q)/\Rd w' w'.heap.size A' (mg r)/\Below w.heap.size w w'
attribute [local go_sem ↓] Go.wp_at_zero Go.wp_at_succ
theorem ajS{p:Prop}(h:p:=by
  go_region_with (first
   | (go_at_call_of 111 (Value.agg #[Value.bool s,Value.slice A n c]);refine (vH s A ns n c B _ (by first | exact R1.drew | exact R1.next K2 af) (by first | (simp;omega) | (have:=K2.size;omega)) hn af hc).mono ?_;rintro e w1 ⟨A1,c1,rfl,hc1,hr1,hb1⟩;have K1:Below W.heap.size W w1:=(by first | exact sH hb1 | exact yc K2 hb1);obtain ⟨d10,d11,g10,g11⟩:=(T1.next K1).facts;obtain ⟨d20,d21,g20,g21⟩:=(T2.next K1).facts)
   | (go_at_call_of 111 (Value.agg #[Value.bool s',Value.slice A' m c']);refine (vH s' A' ms m c' B' _ (by first | exact R2.drew | exact R2.next K1 af) (by first | (simp;omega) | (have:=K1.size;omega)) hm af hc').mono ?_;rintro e w2 ⟨A2,c2,rfl,hc2,hr2,hb2⟩;have K2:Below W.heap.size W w2:=(by first | exact sH hb2 | exact yc K1 hb2);obtain ⟨i10,i11,j10,j11⟩:=(T1.next K2).facts;obtain ⟨i20,i21,j20,j21⟩:=(T2.next K2).facts))
  all_goals
   obtain ⟨P1,P2,P3,P4,P5⟩:_/\_/\_/\_/\_:=by
    first
     | exact sK (sg (zv s ns)) (sg (zv s' ms)) (.slice A1 (mg (zv s ns)).length c1) (.slice A2 (mg (zv s' ms)).length c2) (T1.next K2) (T2.next K2) af (hr1.next hb2 (by have:=K1.size;omega)) hr2 (bP hb0 K2 af) (avW _) af
     | exact sK (sg (zv s ns)) (sg (zv s' ms)) (.slice A1 (mg (zv s ns)).length c1) (.slice A2 (mg (zv s' ms)).length c2) (T1.next K1) (T2.next K1) af hr1 (hr2.next hb1 (by have:=K2.size;omega)) (bP hb0 K1 af) (avW _) af
   clear d10 d11 g10 g11 d20 d21 g20 g21 i10 i11 i20 i21 j10 j11 j20 j21 c10 c11 c20 c21 f10 f11 f20 f21
   go_wp2_with fail
   go_meet
   have JX:=(T3.next K1);have JY:=(T3.next K2);have N11:=(T4.next K1);have N12:=(T4.next K2);exact ⟨A1,c1,A2,c2,P1,P2,by first | exact JY.oJ af af _ _ _ _ | exact JX.oJ af af _ _ _ _,by first | exact N12.oJ af af _ _ _ _ | exact N11.oJ af af _ _ _ _,P3,P4,P5,hc1,hc2⟩):p:=h
attribute [local go_sem ↓] Go.wp_at_zero Go.wp_at_succ
set_option maxHeartbeats 3200000 in
theorem acr(s s':Bool)(A A':Option Addr)(ns ms:List Nat)(n m c c' B B':Nat)(w:World)(h:Rd w B A ns)(h':Rd w B' A' ms)(hB:B<=w.heap.size)(hB':B'<=w.heap.size)(hn:ns.length=n)(hm:ms.length=m)(hl:n<=8388608)(hl':m<=8388608)(hc:n<=c)(hc':m<=c')(hz:zv s' ms≠0)(HL:n<=2\/JW) :
  Calls Tryz.prog 173 #[.agg #[.bool s,.slice A n c],.agg #[.bool s',.slice A' m c']] w (ZF w (zv s ns/zv s' ms) (zv s ns%zv s' ms)):=by
 have hlz:=kX (s:=s) h.bU;have hlz':=kX (s:=s') h'.bU;rw [hn] at hlz;rw [hm] at hlz';have JD:=Lib.hid hz;have ZU:=Lib.hid HL;clear hz HL
 go_enter Tryz.func173,Tryz.ntmps173
 go_upto_region 1 with fail
 obtain ⟨T1,T2,T3,T4,_,hb0⟩:=aa6 (Below.refl _ ((((w.alloc (.cells #[.bool s,.slice A n c] 79)).alloc (.cells #[.bool s',.slice A' m c'] 79)).alloc (.cells #[.bool false,.slice none 0 0] 79)).alloc (.cells #[.bool false,.slice none 0 0] 79)));have R1:=h.below (hb0.mono hB);have R2:=h'.below (hb0.mono hB');generalize hW:((((w.alloc (.cells #[.bool s,.slice A n c] 79)).alloc (.cells #[.bool s',.slice A' m c'] 79)).alloc (.cells #[.bool false,.slice none 0 0] 79)).alloc (.cells #[.bool false,.slice none 0 0] 79))=W at *;clear hW;have l3:=T4.lt;obtain ⟨c10,c11,f10,f11⟩:=T1.facts;obtain ⟨c20,c21,f20,f21⟩:=T2.facts
 go_cut [] (fun wc => ∃ A1 c1 A2 c2,Two wc w.heap.size 79 (.bool (sg (zv s ns))) (.slice A1 (mg (zv s ns)).length c1)/\Two wc (w.heap.size+1) 79 (.bool (sg (zv s' ms))) (.slice A2 (mg (zv s' ms)).length c2) /\
  Two wc (w.heap.size+1+1) 79 (.bool false) (.slice none 0 0)/\Two wc (w.heap.size+1+1+1) 79 (.bool false) (.slice none 0 0)/\Rd wc B A1 (mg (zv s ns))/\Rd wc B' A2 (mg (zv s' ms))/\Below w.heap.size w wc/\(mg (zv s ns)).length<=c1/\(mg (zv s' ms)).length<=c2)
 case first=>exact ajS
 case rest =>
  obtain ⟨A1,c1,A2,c2,Q1,Q2,Q3,Q4,r1,r2,hbc,hc1,hc2⟩:=hcut;clear T1 T2 T3 T4 R1 R2 hb0 l3 c10 c11 c20 c21 f10 f11 f20 f21;obtain ⟨c10,c11,f10,f11⟩:=Q1.facts;obtain ⟨c20,c21,f20,f21⟩:=Q2.facts
  have hbq:(((mg (zv s' ms)).length:Int)==0)=false:=by
   rw [beq_eq_false_iff_ne];intro e;exact JD.out (nH.1 af)
  go_wp2_with fail
  refine (KD A1 A2 (zv s ns).natAbs (zv s' ms).natAbs _ _ c1 c2 B B' _ r1 r2 (by have:=hbc.size;omega) (by have:=hbc.size;omega) rfl rfl (avX hlz hl) (avX hlz' hl') hc1 hc2 (by have:=JD.out;omega) (ZU.out.imp (fun h=>avX hlz h) id)).mono ?_;rintro e w3 ⟨A3,c3,A4,c4,rfl,hc3,hc4,hr3,hr4,hb3⟩;have HE:=Lib.hid (Sz (z:=zv s ns) JD.out);have hQb:=IX s ns;have adX:(bn ((zv s ns).natAbs/(zv s' ms).natAbs)).length<=n:=avX (iy (awh (avX (awl _ _) hQb) (fG h.bU))) (by rw [hn];exact avW _);have U1:=Q1.next hb3;have U2:=Q2.next hb3;have U3:=Q3.next hb3;have U4:=Q4.next hb3;have r2':=r2.next hb3 (by have:=hbc.size;omega);have hb4:=bP hbc hb3 (avW _);obtain ⟨d10,d11,g10,g11⟩:=U1.facts;obtain ⟨d20,d21,g20,g21⟩:=U2.facts;obtain ⟨d30,d31,Td,Tf⟩:=U3.facts;obtain ⟨d40,d41,g40,g41⟩:=U4.facts;obtain ⟨Q,hQ⟩ : ∃ Q,Q=(zv s ns).natAbs/(zv s' ms).natAbs:=⟨_,rfl⟩;obtain ⟨R,hR⟩ : ∃ R,R=(zv s ns).natAbs%(zv s' ms).natAbs:=⟨_,rfl⟩;rw [<- hQ] at hr3 hc3 adX HE ⊢;rw [<- hR] at hr4 hc4 HE ⊢;clear hQ hR hQb c10 c11 c20 c21 f10 f11 f20 f21
  cases hsn:sg (zv s ns)
  ·have HF:Hid (zv s ns/zv s' ms=(if sg (zv s' ms)=true then -(Q:Int) else (Q:Int))/\zv s ns%zv s' ms=if false=true then -(R:Int) else (R:Int)):=Lib.hid (by obtain ⟨_,_,h3⟩:=HE.out;obtain ⟨h4,h5⟩:=h3 (.inl hsn);rw [hsn,Bool.false_bne] at h4;exact ⟨h4,h5⟩)
   clear HE
   go_wp2_with fail
   refine (lG (sg (zv s' ms)) A3 (Q) _ c3 _ (zv s ns/zv s' ms) _ hr3 (avW _) rfl hc3 HF.out.1).mono ?_;rintro e w6 ⟨A6,c6,rfl,hc6,CV,hb6⟩;have V3:=(U3).next hb6;have V4:=(U4).next hb6;have rr:=(hr4).next hb6 (avW _)
   go_wp2_with fail
   refine (lG false A4 (R) _ c4 _ (zv s ns%zv s' ms) _ rr (avX (avW _) hb6.size) rfl hc4 HF.out.2).mono ?_;rintro e w7 ⟨A7,c7,rfl,CQ,CX,hb7⟩;have X3:=V3.next hb7;have X4:=V4.next hb7;obtain ⟨k30,k31,UY,UZ⟩:=X3.facts;obtain ⟨Di,Dj,U5,U6⟩:=X4.facts;have hb8:=bP (bP hb4 hb6 (by have:=hb4.size;omega)) hb7 (by have:=hb4.size;have:=hb6.size;omega);have CW:=(CV.next hb7 hb6.size)
   go_wp2_with fail
   refine bodyPost_ret (v := .tuple #[.agg #[.bool (sg (zv s ns/zv s' ms)),.slice A6 (mg (zv s ns/zv s' ms)).length c6],.agg #[.bool (sg (zv s ns%zv s' ms)),.slice A7 (mg (zv s ns%zv s' ms)).length c7],.nilIface]) (by simp [results,Tryz.results173,go_sem,k30,k31,Di,Dj]) rfl ?_;have P3:=X3.put (.bool (sg (zv s ns/zv s' ms))) (.slice A6 (mg (zv s ns/zv s' ms)).length c6);have P4:=(X4.far (p:=⟨w.heap.size+1+1,0,none⟩) (by simp) (.bool (sg (zv s ns/zv s' ms)))).far (p:=⟨w.heap.size+1+1,1,none⟩) (by simp) (.slice A6 (mg (zv s ns/zv s' ms)).length c6);exact ⟨A6,c6,A7,c7,rfl,hc6,CQ,((CW.jI X3 _ _).jI P4 _ _).more (by simp;exact avX hb6.size hb7.size),((CX.jI X3 _ _).jI P4 _ _).more (by simp;exact avX (avX (avW _) hb6.size) hb7.size),(((hb8.setCell (by simp;omega) _).setCell (by simp;omega) _).setCell (by simp;omega) _).setCell (by simp;omega) _⟩
  ·by_cases hR0:R=0
   ·have HF:Hid (zv s ns/zv s' ms=(if (!sg (zv s' ms))=true then -(Q:Int) else (Q:Int))/\zv s ns%zv s' ms=if false=true then -(R:Int) else (R:Int)):=Lib.hid (by obtain ⟨_,_,h3⟩:=HE.out;obtain ⟨h4,h5⟩:=h3 (.inr hR0);rw [hsn,Bool.true_bne] at h4;exact ⟨h4,h5⟩)
    have hl0:Hid ((bn R).length=0):=Lib.hid (by rw [hR0];rfl);have hbr:(0<(bn R).length)=False:=eq_false (by rw [hl0.out];omega);clear hR0 HE
    go_wp2_with fail
    refine (lG (!sg (zv s' ms)) A3 (Q) _ c3 _ (zv s ns/zv s' ms) _ hr3 (avW _) rfl hc3 HF.out.1).mono ?_;rintro e w6 ⟨A6,c6,rfl,hc6,CV,hb6⟩;have V3:=(U3).next hb6;have V4:=(U4).next hb6;have rr:=(hr4).next hb6 (avW _)
    go_wp2_with fail
    refine (lG false A4 (R) _ c4 _ (zv s ns%zv s' ms) _ rr (avX (avW _) hb6.size) rfl hc4 HF.out.2).mono ?_;rintro e w7 ⟨A7,c7,rfl,CQ,CX,hb7⟩;have X3:=V3.next hb7;have X4:=V4.next hb7;obtain ⟨k30,k31,UY,UZ⟩:=X3.facts;obtain ⟨Di,Dj,U5,U6⟩:=X4.facts;have hb8:=bP (bP hb4 hb6 (by have:=hb4.size;omega)) hb7 (by have:=hb4.size;have:=hb6.size;omega);have CW:=(CV.next hb7 hb6.size)
    go_wp2_with fail
    refine bodyPost_ret (v := .tuple #[.agg #[.bool (sg (zv s ns/zv s' ms)),.slice A6 (mg (zv s ns/zv s' ms)).length c6],.agg #[.bool (sg (zv s ns%zv s' ms)),.slice A7 (mg (zv s ns%zv s' ms)).length c7],.nilIface]) (by simp [results,Tryz.results173,go_sem,k30,k31,Di,Dj]) rfl ?_;have P3:=X3.put (.bool (sg (zv s ns/zv s' ms))) (.slice A6 (mg (zv s ns/zv s' ms)).length c6);have P4:=(X4.far (p:=⟨w.heap.size+1+1,0,none⟩) (by simp) (.bool (sg (zv s ns/zv s' ms)))).far (p:=⟨w.heap.size+1+1,1,none⟩) (by simp) (.slice A6 (mg (zv s ns/zv s' ms)).length c6);exact ⟨A6,c6,A7,c7,rfl,hc6,CQ,((CW.jI X3 _ _).jI P4 _ _).more (by simp;exact avX hb6.size hb7.size),((CX.jI X3 _ _).jI P4 _ _).more (by simp;exact avX (avX (avW _) hb6.size) hb7.size),(((hb8.setCell (by simp;omega) _).setCell (by simp;omega) _).setCell (by simp;omega) _).setCell (by simp;omega) _⟩
   ·have HF:Hid (zv s ns/zv s' ms=(if (!sg (zv s' ms))=true then -((Q+1:Nat):Int) else ((Q+1:Nat):Int))/\zv s ns%zv s' ms=if false=true then -(((zv s' ms).natAbs-R:Nat):Int) else (((zv s' ms).natAbs-R:Nat):Int)):=Lib.hid (by obtain ⟨_,h3,_⟩:=HE.out;obtain ⟨h4,h5⟩:=h3 hsn hR0;rw [hsn,Bool.true_bne] at h4;exact ⟨h4,h5⟩)
    have KY:=HE.out.1
    have hbr:0<(bn R).length:=by
     rcases av' (bn R).length with h0 | h0
     ·exact absurd (jM.1 (awc h0)) hR0
     ·omega
    have JF:=Lib.hid KY;have vQ:=Lib.hid (bQ Q);have vR:=Lib.hid (bQ R);have LG:(bn R).length<=m:=avX (iy (av1 KY (avX (IX s' ms) (awg (fG h'.bU))))) (by rw [hm];exact avW _);clear hR0 HE KY;have hone:=aa2 w3 113;have aeP:=hb4.size
    go_wp2_with fail
    refine (add_any A3 (some ⟨w3.heap.size,0,none⟩) (bn Q) [1] _ 1 c3 1 w3.heap.size _ _ (hr3.alloc (avW _) _) (hone.rd alx) (by simp) (avW _) rfl rfl af af hc3 af).mono ?_;rintro e w4 ⟨A5,c5,rfl,hc5,kH,hb5⟩;rw [vQ.out,show val [1]=1 from rfl] at kH hc5 ⊢;have rE:=bP ((Below.refl w3.heap.size w3).alloc (avW _) (.cells #[.int .u32 1] 113)) hb5 (by simp);have Z2:=U2.next rE;obtain ⟨i20,i21,j20,j21⟩:=Z2.facts;have hsz5:=rE.size
    go_wp2_with fail
    refine (NT A2 A4 (mg (zv s' ms)) (bn R) _ _ c2 c4 B' w3.heap.size _ (r2'.next rE af) (hr4.next rE (avW _)) af af rfl rfl af af (by rw [gX,vR.out];exact awg JF.out)).mono ?_;rintro e w5 ⟨A8,c8,rfl,hc8,mO,rF⟩;rw [gX,vR.out] at mO hc8 ⊢;have Y3:=(U3.next rE).next rF;have Y4:=(U4.next rE).next rF;have aez:=kH.next rF (avW _);obtain ⟨o10,o11,p10,p11⟩:=((U1.next rE).next rF).facts;obtain ⟨o20,o21,p20,p21⟩:=((U2.next rE).next rF).facts;have Le:=bP (bP hb4 rE af) rF af
    go_wp2_with fail
    refine (lG (!sg (zv s' ms)) A5 (Q+1) _ c5 _ (zv s ns/zv s' ms) _ aez (by have:=hb5.size;have:=rF.size;omega) rfl hc5 HF.out.1).mono ?_;rintro e w6 ⟨A6,c6,rfl,hc6,CV,hb6⟩;have V3:=(Y3).next hb6;have V4:=(Y4).next hb6;have rr:=(mO).next hb6 (avW _)
    go_wp2_with fail
    refine (lG false A8 ((zv s' ms).natAbs-R) _ c8 _ (zv s ns%zv s' ms) _ rr (avX (avW _) hb6.size) rfl hc8 HF.out.2).mono ?_;rintro e w7 ⟨A7,c7,rfl,CQ,CX,hb7⟩;have X3:=V3.next hb7;have X4:=V4.next hb7;obtain ⟨k30,k31,UY,UZ⟩:=X3.facts;obtain ⟨Di,Dj,U5,U6⟩:=X4.facts;have hb8:=bP (bP Le hb6 (by have:=Le.size;omega)) hb7 (by have:=Le.size;have:=hb6.size;omega);have CW:=(CV.next hb7 (by have:=hb5.size;have:=rF.size;have:=hb6.size;omega))
    go_wp2_with fail
    refine bodyPost_ret (v := .tuple #[.agg #[.bool (sg (zv s ns/zv s' ms)),.slice A6 (mg (zv s ns/zv s' ms)).length c6],.agg #[.bool (sg (zv s ns%zv s' ms)),.slice A7 (mg (zv s ns%zv s' ms)).length c7],.nilIface]) (by simp [results,Tryz.results173,go_sem,k30,k31,Di,Dj]) rfl ?_;have P3:=X3.put (.bool (sg (zv s ns/zv s' ms))) (.slice A6 (mg (zv s ns/zv s' ms)).length c6);have P4:=(X4.far (p:=⟨w.heap.size+1+1,0,none⟩) (by simp) (.bool (sg (zv s ns/zv s' ms)))).far (p:=⟨w.heap.size+1+1,1,none⟩) (by simp) (.slice A6 (mg (zv s ns/zv s' ms)).length c6);exact ⟨A6,c6,A7,c7,rfl,hc6,CQ,((CW.jI X3 _ _).jI P4 _ _).more (by simp;exact avX (by have:=hb5.size;have:=rF.size;have:=hb6.size;omega) hb7.size),((CX.jI X3 _ _).jI P4 _ _).more (by simp;exact avX (avX (avW _) hb6.size) hb7.size),(((hb8.setCell (by simp;omega) _).setCell (by simp;omega) _).setCell (by simp;omega) _).setCell (by simp;omega) _⟩
set_option maxHeartbeats 800000 in
theorem He(s:Bool)(A:Option Addr)(ns:List Nat)(n c B:Nat)(w:World)(h:Rd w B A ns)(hB:B<=w.heap.size)(hn:ns.length=n)(hl:n<=16777216) :
  Calls Tryz.prog 181 #[.agg #[.bool s,.slice A n c]] w fun e w'=>e = .returned (.bool (vB s ns))/\Below w.heap.size w w':=by
 have Hn:=Lib.hid hn;clear hn
 by_cases h0:n=0
 ·subst h0
  go_enter Tryz.func181,Tryz.ntmps181
  go_wp2
  go_ret
  refine ⟨jY ?_,?_⟩
  ·unfold vB;rw [if_pos Hn.out]
  ·exact (Below.refl _ _).alloc (avW _) _
 ·obtain ⟨b,off,rfl,hb,hcell,hlt⟩:=h.at_ (k:=n-1) (by rw [Hn.out];omega)
  have hb1:((n:Int)==0)=false:=by simp;omega
  have hbs:b<w.heap.size:=af
  go_enter Tryz.func181,Tryz.ntmps181
  go_wp2
  go_ret
  refine ⟨jY ?_,(Below.refl _ _).alloc (avW _) _⟩;unfold vB;rw [if_neg (by rw [Hn.out];exact h0),Hn.out,Bool.eq_iff_iff,bne_iff_ne,bne_iff_ne];exact not_congr Int.ofNat_inj
set_option maxHeartbeats 800000 in
theorem MJ(s:Bool)(A:Option Addr)(ns:List Nat)(n c B:Nat)(w:World)(h:Rd w B A ns)(hB:B<=w.heap.size)(hn:ns.length=n)(hl:n<=16777216)(hc:n<=c) :
  Calls Tryz.prog 145 #[.agg #[.bool s,.slice A n c]] w fun e w' => ∃ A' c',e = .returned (.slice A' (mg (zv s ns)).length c')/\(mg (zv s ns)).length<=c'/\Rd w' B A' (mg (zv s ns))/\Below w.heap.size w w':=by
 cases hv:vB s ns
 ·have hz:Hid (zv s ns=0):=Lib.hid (by unfold zv;rw [hv];rfl)
  go_enter Tryz.func145,Tryz.ntmps145
  go_wp2_with fail
  refine (He s A ns n c B _ (h.alloc hB _) (by simp;omega) hn hl).mono ?_;rintro e w1 ⟨rfl,hb1⟩;obtain ⟨t1,hs1,hb2⟩:=box1 hb1;obtain ⟨c10,c11,f10,f11⟩:=t1.facts
  go_wp2_with fail
  go_ret
  rw [hz.out];exact ⟨none,0,rfl,avW _,Rd.nil_ _ _ _,hb2⟩
 ·have hz:Hid (zv s ns=if s then -(val ns:Int) else (val ns:Int)):=Lib.hid (by unfold zv;rw [hv];rfl)
  have Hv:=Lib.hid hv
  go_enter Tryz.func145,Tryz.ntmps145
  go_wp2_with fail
  refine (He s A ns n c B _ (h.alloc hB _) (by simp;omega) hn hl).mono ?_;rintro e w1 ⟨rfl,hb1⟩;obtain ⟨t1,hs1,hb2⟩:=box1 hb1;obtain ⟨c10,c11,f10,f11⟩:=t1.facts
  go_wp2_with fail
  go_ret
  obtain ⟨e1,e2,e3⟩:=wK Hv.out hz.out h.bU;rw [e2,hn];exact ⟨A,c,rfl,hc,h.below (hb2.mono hB),hb2⟩
set_option maxHeartbeats 800000 in
theorem NC(s:Bool)(A:Option Addr)(ns:List Nat)(n c B:Nat)(w:World)(h:Rd w B A ns)(hB:B<=w.heap.size)(hn:ns.length=n)(hl:n<=16777216) :
  Calls Tryz.prog 146 #[.agg #[.bool s,.slice A n c]] w fun e w'=>e = .returned (.bool (sg (zv s ns)))/\Below w.heap.size w w':=by
 cases hv:vB s ns
 ·have hz:Hid (zv s ns=0):=Lib.hid (by unfold zv;rw [hv];rfl)
  go_enter Tryz.func146,Tryz.ntmps146
  go_wp2_with fail
  refine (He s A ns n c B _ (h.alloc hB _) (by simp;omega) hn hl).mono ?_;rintro e w1 ⟨rfl,hb1⟩;obtain ⟨t1,hs1,hb2⟩:=box1 hb1;obtain ⟨c10,c11,f10,f11⟩:=t1.facts
  go_wp2_with fail
  go_ret
  rw [hz.out];exact ⟨rfl,hb2⟩
 ·have hz:Hid (zv s ns=if s then -(val ns:Int) else (val ns:Int)):=Lib.hid (by unfold zv;rw [hv];rfl)
  have Hv:=Lib.hid hv
  go_enter Tryz.func146,Tryz.ntmps146
  go_wp2_with fail
  refine (He s A ns n c B _ (h.alloc hB _) (by simp;omega) hn hl).mono ?_;rintro e w1 ⟨rfl,hb1⟩;obtain ⟨t1,hs1,hb2⟩:=box1 hb1;obtain ⟨c10,c11,f10,f11⟩:=t1.facts
  go_wp2_with fail
  go_ret
  obtain ⟨e1,e2,e3⟩:=wK Hv.out hz.out h.bU;exact ⟨jY e1.symm,hb2⟩
set_option maxHeartbeats 800000 in
theorem kG(A:Option Addr)(ns:List Nat)(n c B k:Nat)(w:World)(h:Rd w B A ns)(hn:ns.length=n)(_hl:n<=4294967296) :
  Calls Tryz.prog 183 #[.slice A n c,aj k] w fun e w'=>e = .returned (.int .u64 (dg ns k:Int))/\w=w':=by
 have Hn:=Lib.hid hn;clear hn
 by_cases h1:n<=k
 ·go_enter Tryz.func183,Tryz.ntmps183
  go_wp2
  go_ret
  exact ⟨fD (by rw [ru (by rw [Hn.out];exact h1)];rfl),rfl⟩
 ·obtain ⟨b,off,rfl,hb,hcell,hlt⟩:=h.at_ (k:=k) (by rw [Hn.out];omega)
  go_enter Tryz.func183,Tryz.ntmps183
  go_wp2
  go_ret
  exact ⟨rfl,rfl⟩
def xk(w:World)(N:Nat)(e:Ending)(w':World):Prop :=
 ∃ g c,e = .returned (.slice (some ⟨g,0,none⟩) (bn N).length c)/\(bn N).length<=c/\w.heap.size<=g/\bH w' g 113 (bn N)/\Below w.heap.size w w'
set_option maxHeartbeats 800000 in
theorem zN(A:Option Addr)(ns:List Nat)(n c B:Nat)(w:World)(h:Rd w B A ns)(hB:B<=w.heap.size)(hn:ns.length=n)(hl:n<=4294967296) :
  Calls Tryz.prog 153 #[.slice A n c] w (xk w (val ns)):=by
 have Hn:=Lib.hid hn;clear hn;have hown:(w.alloc (.cells #[] 113)).ownsRow w.heap.size 113 1 (.slice (some ⟨w.heap.size,0,none⟩) 0 0) 0 (arr []):=World.ownsRow_lit w #[] 0 (avW _) (by simp [maxLen]) (by simp)
 go_enter Tryz.func153,Tryz.ntmps153
 go_wp2_with (at_builtin;refine IV _ rfl _ _ 22 rfl w.heap.size 113 atV kJ _ 0 [] rfl hown B A ns n c rfl (h.alloc hB _) Hn.out af (by simp) ?_;intro v' w1 hown1 hgrow1 hnil)
 rw [awj,awR] at hown1;obtain ⟨g,cc,rfl,hg,hcc,hblk⟩:=J7 hown1 (by intro e;have h1:=(hnil.1 e).1;cases h1)
 have hb:Below w.heap.size w w1:=((Below.refl _ _).alloc (avW _) _).grown hgrow1 (by simp) (fun k hk=>by
  have e:some w.heap.size=some k:=hk
  injection e with e;exact Nat.le_of_eq e)
 have hw:=h.bU;clear hown hown1 hgrow1 hnil h
 go_loop [3] (fun v => ∃ k:Nat,k<=n/\v = .slice (some ⟨g,0,none⟩) k cc/\Hid (val (ns.take k)=val ns)) (fun v=>cnt v)
 case atStart=>exact ⟨n,avW _,rfl,Lib.hid (by rw [<- Hn.out,awm])⟩
 case round =>
  obtain ⟨k,hk,rfl,hv⟩:=hrel
  by_cases hk0:k=0
  ·subst hk0
   go_wp2
   go_ret
   have e:=Ai hw (avY _) hv.out (.inl rfl);exact ⟨g,cc,lF e,by rw [<- e];exact avY _,hg,hblk.bn hw,hb⟩
  ·have hcell:=hblk.cell (i:=k-1) (by rw [Hn.out];omega)
   by_cases hd:dg ns (k-1)=0
   ·have HV:Hid (val (ns.take (k-1))=val ns):=Lib.hid (NW (by rw [Hn.out];exact hk) hk0 hv.out hd)
    go_wp2
    go_round
    case rel=>exact ⟨k-1,af,rfl,HV⟩
    case measure=>simp [cnt];omega
   ·go_wp2
    go_ret
    have e:=Ai hw (by rw [Hn.out];exact hk) hv.out (.inr hd);exact ⟨g,cc,lF e,by rw [<- e];omega,hg,hblk.bn hw,hb⟩
set_option maxHeartbeats 800000 in
theorem zh(s:Bool)(A:Option Addr)(ns:List Nat)(n c B:Nat)(z:Int)(w:World)(h:Rd w B A ns)(hB:B<=w.heap.size)(hn:ns.length=n)(hl:n<=4294967296)(hz:z=if s then -(val ns:Int) else (val ns:Int)) :
  Calls Tryz.prog 143 #[.bool s,.slice A n c] w (kY w z):=by
 have HZ:=Lib.hid hz;clear hz
 go_enter Tryz.func143,Tryz.ntmps143
 go_wp2_with fail
 refine (zN A ns n c B _ (h.alloc hB _) (by simp;omega) hn hl).mono ?_;rintro e w1 ⟨g,c1,rfl,hc1,hg,hblk,hb1⟩;obtain ⟨t1,hs1,hb2⟩:=box1 hb1;obtain ⟨c10,c11,f10,f11⟩:=t1.facts;have hr:=hblk.rd (dY _);clear h
 by_cases h0:val ns=0
 ·have e0:(bn (val ns)).length=0:=by rw [h0];rfl
  have ez:z=0:=by rw [HZ.out,h0];split <;> rfl
  have hbq:(((bn (val ns)).length:Int)==0)=true:=by rw [e0];rfl
  clear e0 h0 HZ hn;subst ez
  go_wp2_with fail
  refine bodyPost_ret (v := .agg #[.bool (sg 0),.slice none 0 0]) (by simp [results,Tryz.results143,go_sem,c10,c11,ai5]) rfl ?_;exact ⟨none,0,rfl,avW _,Rd.nil_ _ _ _,(hb2.setCell (avW _) _).setCell (avW _) _⟩
 ·have hbq:(((bn (val ns)).length:Int)==0)=false:=by
   rw [beq_eq_false_iff_ne];intro e;exact h0 (jM.1 (awc af))
  have Hz:Hid (sg z=s/\mg z=bn (val ns)):=Lib.hid (Yd h0 HZ.out);clear h0 HZ hn
  go_wp2_with fail
  refine bodyPost_ret (v := .agg #[.bool s,.slice (some ⟨g,0,none⟩) (bn (val ns)).length c1]) (by simp [results,Tryz.results143,go_sem,c10,c11]) rfl ?_;have:=iY (z:=z) (c':=c1) t1 (by rw [Hz.out.2];exact hr) (avW _) (by rw [Hz.out.2];exact hc1) hb2 (avW _);rw [Hz.out.1,Hz.out.2] at this;exact this
theorem Qy(w:World)(t:TypeId){o:Obj}{a b:Int}{x y:Nat}(ha:a=x)(hb:b=y):bH ((w.alloc o).alloc (.cells #[.int .u32 a,.int .u32 b] t)) (w.heap.size+1) t [x,y]:=by
 have:=J8 (w.alloc o) t ha hb
 simp_all
set_option maxHeartbeats 800000 in
theorem ahW(z:Int)(w:World)(h1 : -9223372036854775808<=z)(h2:z<=9223372036854775807) :
  Calls Tryz.prog 104 #[.int .i64 z] w (kY w z):=by
 by_cases h0:z<0
 ·obtain ⟨D,N,hD,hN,xA,hNl,hDl⟩:=Oy h1 h0
  have HN:=Lib.hid xA;clear xA;have hblk:=Qy w 113 (o := .cells #[.bool false,.slice none 0 0] 79) (a:=(N:Int)%4294967296) (b:=(N:Int)/4294967296) (x:=N%4294967296) (y:=N/4294967296) af af;have hw:bM [N%4294967296,N/4294967296]:=Eu af af;have hz:Hid (z=if true then -(val [N%4294967296,N/4294967296]:Int) else (val [N%4294967296,N/4294967296]:Int)):=Lib.hid (by rw [HN.out,val_two];simp;omega)
  go_enter Tryz.func104,Tryz.ntmps104
  go_wp2_with fail
  refine (zh true _ [N%4294967296,N/4294967296] 2 2 _ z _ (hblk.rd hw) (avW _) rfl af hz.out).mono ?_;rintro e w2 ⟨A2,c2,rfl,hc2,hr2,hb3⟩;have t1:=((Two.new w 79 (.bool false) (.slice none 0 0)).alloc (.cells #[.int .u32 ((N:Int)%4294967296),.int .u32 ((N:Int)/4294967296)] 113)).next hb3;have hb2:=bP (((Below.refl w.heap.size w).alloc (avW _) (.cells #[.bool false,.slice none 0 0] 79)).alloc (by simp) (.cells #[.int .u32 ((N:Int)%4294967296),.int .u32 ((N:Int)/4294967296)] 113)) hb3 (by simp);obtain ⟨d0,d1,g0,g1⟩:=t1.facts
  go_wp2_with fail
  refine bodyPost_ret (v := .agg #[.bool (sg z),.slice A2 (mg z).length c2]) (by simp [results,Tryz.results104,go_sem,d0,d1]) rfl ?_;exact iY t1 hr2 (avW _) hc2 hb2 (avW _)
 ·obtain ⟨N,rfl⟩:=awK (show 0<=z from af)
  have hblk:=Qy w 113 (o := .cells #[.bool false,.slice none 0 0] 79) (a:=(N:Int)%4294967296) (b:=(N:Int)/4294967296) (x:=N%4294967296) (y:=N/4294967296) af af;have hw:bM [N%4294967296,N/4294967296]:=Eu af af;have hz:Hid ((N:Int)=if false then -(val [N%4294967296,N/4294967296]:Int) else (val [N%4294967296,N/4294967296]:Int)):=Lib.hid (by rw [val_two];simp;omega)
  go_enter Tryz.func104,Tryz.ntmps104
  go_wp2_with fail
  refine (zh false _ [N%4294967296,N/4294967296] 2 2 _ (N:Int) _ (hblk.rd hw) (avW _) rfl af hz.out).mono ?_;rintro e w2 ⟨A2,c2,rfl,hc2,hr2,hb3⟩;have t1:=((Two.new w 79 (.bool false) (.slice none 0 0)).alloc (.cells #[.int .u32 ((N:Int)%4294967296),.int .u32 ((N:Int)/4294967296)] 113)).next hb3;have hb2:=bP (((Below.refl w.heap.size w).alloc (avW _) (.cells #[.bool false,.slice none 0 0] 79)).alloc (by simp) (.cells #[.int .u32 ((N:Int)%4294967296),.int .u32 ((N:Int)/4294967296)] 113)) hb3 (by simp);obtain ⟨d0,d1,g0,g1⟩:=t1.facts
  go_wp2_with fail
  refine bodyPost_ret (v := .agg #[.bool (sg (N:Int)),.slice A2 (mg (N:Int)).length c2]) (by simp [results,Tryz.results104,go_sem,d0,d1]) rfl ?_;exact iY t1 hr2 (avW _) hc2 hb2 (avW _)
end Go.Proofs.BGQ
namespace Lw
open Go
def hv:Nat->Nat->Nat
 | 0,_=>0
 | f+1,x=>if x=0 then 0 else hv f (x/2)+1
theorem aeU(f x:Nat):hv f x=Lib.bitLenAux f x:=by
 induction f generalizing x with
 | zero=>rfl
 | succ f ih=>unfold hv Lib.bitLenAux;rw [ih];split <;> omega
theorem aeW(f:Nat):hv f 0=0:=by cases f <;> simp [hv]
theorem aeV{f x:Nat}(h:x<2^f)(h0:x≠0) : ∃ f',f=f'+1/\hv f x=hv f' (x/2)+1/\x/2<2^f':=by
 cases f with
 | zero=>simp at h;omega
 | succ f=>exact ⟨f,rfl,by rw [hv,if_neg h0],by rw [awi] at h;omega⟩
end Lw
namespace Go.Proofs.BGQ
open Go Go.RowKit Lw
set_option maxHeartbeats 1600000 in
theorem WV(s:Bool)(A:Option Addr)(ns:List Nat)(n c B:Nat)(w:World)(h:Rd w B A ns)(hB:B<=w.heap.size)(hn:ns.length=n)(hl:n<=16777216)(hc:n<=c) :
  Calls Tryz.prog 100 #[.agg #[.bool s,.slice A n c]] w fun e w'=>e = .returned (.int .i64 (dL (zv s ns)))/\Below w.heap.size w w':=by
 have hlz:=kX (s:=s) h.bU;rw [hn] at hlz;have hk:=fun W hR hB'=>MJ s A ns n c B W hR hB' hn hl hc;have hk':=fun W hR hB'=>NC s A ns n c B W hR hB' hn hl;generalize zv s ns=z at *;have Hk:=Lib.hid hk;have JQ:=Lib.hid hk';clear hk hk'
 go_enter Tryz.func100,Tryz.ntmps100
 go_wp2_with fail
 refine (Hk.out _ (h.alloc hB _) (by simp;omega)).mono ?_;rintro e w1 ⟨A1,c1,rfl,hc1,hr1,hb1⟩;obtain ⟨t1,hs1,hb2⟩:=box1 hb1;obtain ⟨c10,c11,f10,f11⟩:=t1.facts
 by_cases h0:(mg z).length=0
 ·have HZ:Hid (0=dL z):=Lib.hid (by rw [nH.1 h0];rfl)
  have hbq:(((mg z).length:Int)==0)=true:=by rw [beq_iff_eq];omega
  clear h0
  go_wp2_with fail
  go_ret
  exact ⟨fD HZ.out,hb2⟩
 ·have hne:z≠0:=fun e=>h0 (nH.2 e)
  have hbq:(((mg z).length:Int)==0)=false:=by rw [beq_eq_false_iff_ne];omega
  have H0:=Lib.hid hne;clear h0 hne
  go_wp2_with fail
  refine (JQ.out _ (h.below (hb2.mono hB)) af).mono ?_;rintro e w2 ⟨rfl,hb3⟩;have hb4:=bP hb2 hb3 af
  cases hsg:sg z
  ·have HZ:Hid (1=dL z):=Lib.hid (by have:=Eg hsg;have:=H0.out;unfold dL;rw [if_neg af,if_neg af])
   go_wp2_with fail
   go_ret
   exact ⟨fD HZ.out,hb4⟩
  ·have HZ:Hid (-1=dL z):=Lib.hid (by have:=yD hsg;unfold dL;rw [if_pos af])
   go_wp2_with fail
   go_ret
   exact ⟨fD HZ.out,hb4⟩
set_option maxHeartbeats 1600000 in
theorem ahP(A:Option Addr)(ns:List Nat)(n c B:Nat)(w:World)(h:Rd w B A ns)(hn:ns.length=n)(hl:n<=16777216) :
  Calls Tryz.prog 194 #[.slice A n c] w fun e w'=>e = .returned (.int .i64 (qw ns))/\w=w':=by
 have Hn:=Lib.hid hn;clear hn
 by_cases h0:n=0
 ·have HN:Hid (0=qw ns):=Lib.hid (by unfold qw;rw [if_pos (by rw [Hn.out];exact h0)])
  subst h0
  go_enter Tryz.func194,Tryz.ntmps194
  go_wp2_with fail
  go_ret
  exact ⟨fD (by rw [<- HN.out];rfl),rfl⟩
 ·obtain ⟨b,off,rfl,hb,hcell,hlt⟩:=h.at_ (k:=n-1) (by rw [Hn.out];omega)
  have hbq:((n:Int)==0)=false:=by rw [beq_eq_false_iff_ne];omega
  have hx0:=hlt;have HN:Hid ((n-1)*32+Lib.bitLen (dg ns (n-1))=qw ns):=Lib.hid (by unfold qw;rw [if_neg (by rw [Hn.out];exact h0),Hn.out]);generalize dg ns (n-1)=X at *;have hX:Hid (hv 64 X=Lib.bitLen X):=Lib.hid (aeU 64 X)
  go_enter Tryz.func194,Tryz.ntmps194
  go_wp2_with fail
  go_loop [3,4] (fun v i => ∃ f x k:Nat,Hid (x<2^f)/\x<4294967296/\i = .int .u32 x/\v = .int .i64 (32*((n:Int)-1)+(k:Int))/\k<=64/\Hid (k+hv f x=Lib.bitLen X)/\k+f=64) (fun _ i=>(intOf i).toNat)
  case atStart=>exact ⟨64,X,0,Lib.hid af,hx0,rfl,by go_num,af,Lib.hid (by rw [awR];exact hX.out),rfl⟩
  case round =>
   obtain ⟨f,x,k,UM,hx,rfl,rfl,hk,hv1,hkf⟩:=hrel
   by_cases hx1:x=0
   ·subst hx1
    have HE:Hid (k=Lib.bitLen X):=Lib.hid (by rw [<- hv1.out,aeW];rfl)
    go_wp2_with fail
    go_ret
    exact ⟨fD (by rw [<- HN.out,<- HE.out];omega),rfl⟩
   ·obtain ⟨f',rfl,hs,hs2⟩:=aeV UM.out hx1
    have HS:=Lib.hid hs;have HS2:Hid (x/2<2^f'):=Lib.hid hs2;clear hs hs2 UM
    go_wp2_with fail
    go_round
    case rel=>exact ⟨f',x/2,k+1,HS2,af,by go_num,by go_num,af,Lib.hid (by have:=hv1.out;rw [HS.out] at this;omega),af⟩
    case measure=>simp [intOf];omega
end Go.Proofs.BGQ
namespace Lw
open Go Go.RowKit
theorem ajN{l:List Nat}(h:eP l)(hl:0<l.length):dg l (l.length-1)≠0 :=
 h _ (by rw [axh,xu af])
theorem qN(z:Int):vB (sg z) (mg z)=true:=by
 unfold vB
 by_cases h:(mg z).length=0
 ·rw [if_pos h]
  have:=nH.1 h;subst this;rfl
 ·rw [if_neg h]
  have:=ajN (xY z) af;grind
theorem uK(z:Int):zv (sg z) (mg z)=z:=by
 unfold zv;rw [if_pos (qN z)];exact (wG z).symm
theorem qp{z:Int}{k:Nat}(h:z.natAbs<pw k):(mg z).length<=k:=iy h
end Lw
namespace Lw
open Go Go.RowKit
structure Wh where
 s:Bool
 A:Option Addr
 n:Nat
 c:Nat
def Wh.cells(a:Wh):List Value:=[.bool a.s,.slice a.A a.n a.c]
end Lw
namespace Lw
open Go Go.RowKit
structure En where
 v:Value
 z:Int
 k:Nat
 b:Bool
def dK(w:World)(e:En):Prop := ∃ (s:Bool) (A:Option Addr) (n c:Nat) (ns:List Nat) (B:Nat),e.v = .agg #[.bool s,.slice A n c]/\Rd w B A ns/\B<=w.heap.size/\ns.length=n/\n<=e.k/\n<=c/\zv s ns=e.z/\vB s ns=e.b
theorem dK.next{w w':World}{e:En}(h:dK w e)(hb:Below w.heap.size w w'):dK w' e:=by
 obtain ⟨s,A,n,c,ns,B,h1,h2,h3,h4⟩:=h;exact ⟨s,A,n,c,ns,B,h1,h2.next hb h3,avX h3 hb.size,h4⟩
theorem dK.lt{w:World}{e:En}(h:dK w e):e.z.natAbs<pw e.k:=by
 obtain ⟨s,A,n,c,ns,B,h1,h2,h3,h4,h5,h6,h7,h8⟩:=h;rw [<- h7];exact awh (IX s ns) (av1 (fG h2.bU) (fM af))
theorem zG{x y:Int}{k k':Nat}(h:x.natAbs<pw k)(h':y.natAbs<pw k'):(x+y).natAbs<pw (k+k'+1):=by
 have h1:pw k<=pw (k+k'):=fM af;have h2:pw k'<=pw (k+k'):=fM af;have h3:pw (k+k'+1)=pw (k+k')*4294967296:=by unfold pw;rw [awi]
 omega
theorem Vl{x y:Int}{k k':Nat}(h:x.natAbs<pw k)(h':y.natAbs<pw k'):(x-y).natAbs<pw (k+k'+1):=by
 have:=zG h (y := -y) (by simpa using h');omega
theorem lt_mul{x y:Int}{k k':Nat}(h:x.natAbs<pw k)(h':y.natAbs<pw k'):(x*y).natAbs<pw (k+k'+1):=by
 rw [awC];have h1:x.natAbs*y.natAbs<pw k*pw k':=Nat.mul_lt_mul_of_le_of_lt (awg h) h' af;have h2:pw k*pw k'=pw (k+k'):=by unfold pw;rw [awu]
 have h3:pw (k+k')<=pw (k+k'+1):=fM af;omega
structure Bx where
 g:Nat
 x:Value
 y:Value
structure Env(t:TypeId)(W0 w:World)(bs:List Bx)(L:List En):Prop where
 ops : ∀ e∈L,dK w e
 box : ∀ b∈bs,Two w b.g t b.x b.y
 below:Below W0.heap.size W0 w
variable {t:TypeId} {W0 w w':World} {bs:List Bx} {L:List En}
theorem Env.next(h:Env t W0 w bs L)(hb:Below w.heap.size w w'):Env t W0 w' bs L :=
 ⟨fun e he=>(h.ops e he).next hb,fun b hb'=>(h.box b hb').next hb,bP h.below hb (avW _)⟩
theorem Env.drew(h:Env t W0 w bs L):Env t W0 w.drew bs L:=h.next (Below.refl _ w).drew
theorem Env.cons(h:Env t W0 w bs L){e:En}(he:dK w e):Env t W0 w bs (e::L) :=
 ⟨fun e' h'=>by
  rcases List.mem_cons.1 h' with rfl | h'
  ·exact he
  ·exact h.ops e' h',h.box,h.below⟩
theorem Env.tail{e:En}(h:Env t W0 w bs (e::L)):Env t W0 w bs L:=⟨fun e' h'=>h.ops e' (.tail _ h'),h.box,h.below⟩
theorem Env.nil_(h:Env t W0 w bs L):Env t W0 w bs (⟨.agg #[.bool false,.slice none 0 0],0,0,true⟩::L) :=
 h.cons ⟨false,none,0,0,[],0,rfl,Rd.nil_ _ _ _,avY _,rfl,avW _,avW _,rfl,rfl⟩
theorem Env.cells3{g1 g2 g3:Nat}{x1 y1 x2 y2 x3 y3:Value}(h:Env t W0 w [⟨g1,x1,y1⟩,⟨g2,x2,y2⟩,⟨g3,x3,y3⟩] L) :
  w.cell? ⟨g1,0,none⟩=some x1/\w.cell? ⟨g1,1,none⟩=some y1/\w.cell? ⟨g2,0,none⟩=some x2/\w.cell? ⟨g2,1,none⟩=some y2/\w.cell? ⟨g3,0,none⟩=some x3/\w.cell? ⟨g3,1,none⟩=some y3:=by
 obtain ⟨a1,a2,_,_⟩:=(h.box _ ak).facts;obtain ⟨b1,b2,_,_⟩:=(h.box _ au).facts;obtain ⟨c1,c2,_,_⟩:=(h.box _ ay).facts;exact ⟨a1,a2,b1,b2,c1,c2⟩
theorem Env.cells2{g1 g2:Nat}{x1 y1 x2 y2:Value}(h:Env t W0 w [⟨g1,x1,y1⟩,⟨g2,x2,y2⟩] L) :
  w.cell? ⟨g1,0,none⟩=some x1/\w.cell? ⟨g1,1,none⟩=some y1/\w.cell? ⟨g2,0,none⟩=some x2/\w.cell? ⟨g2,1,none⟩=some y2:=by
 obtain ⟨a1,a2,_,_⟩:=(h.box _ ak).facts;obtain ⟨b1,b2,_,_⟩:=(h.box _ au).facts;exact ⟨a1,a2,b1,b2⟩
theorem dK.new{w W:World}{s:Bool}{A:Option Addr}{n c:Nat}{l:List Nat}(r:Rd w w.heap.size A l)(hb:Below w.heap.size w W)(h:l.length=n)(hn:n<=30)(hc:n<=c):dK W ⟨.agg #[.bool s,.slice A n c],zv s l,30,vB s l⟩ :=
 ⟨s,A,n,c,l,_,rfl,r.below hb,hb.size,h,hn,hc,rfl,rfl⟩
end Lw
namespace Go.Proofs.BGQ
open Go Go.RowKit Lw
section
variable {t:TypeId} {W0 w:World} {bs:List Bx} {L:List En} {v v':Value} {x y:Int} {k k':Nat} {b b':Bool}
theorem wP{z:Int}{K:Nat}{e:Ending}{w':World}(HE:Env t W0 w bs L)(h:kY w z e w')(hz:z.natAbs<pw K) : ∃ u,e = .returned u/\Env t W0 w' bs (⟨u,z,K,true⟩::L):=by
 obtain ⟨A,c,rfl,hc,hr,hb⟩:=h;exact ⟨_,rfl,(HE.next hb).cons ⟨sg z,A,_,c,mg z,_,rfl,hr,avW _,rfl,qp hz,hc,uK z,qN z⟩⟩
theorem aaI(HE:Env t W0 w bs L)(h:⟨v,x,k,b⟩∈L)(h':⟨v',y,k',b'⟩∈L)(hk:k+k'<=100000) :
  Calls Tryz.prog 70 #[v,v'] w fun e w' => ∃ u,e = .returned u/\Env t W0 w' bs (⟨u,x+y,k+k'+1,true⟩::L):=by
 have H1:=HE.ops _ h;have H2:=HE.ops _ h';have hz:=zG H1.lt H2.lt;obtain ⟨s,A,n,c,ns,B,e1,h2,h3,h4,h5,h6,e7,h8⟩:=H1;obtain ⟨s',A',n',c',ns',B',e1',h2',h3',h4',h5',h6',fK,h8'⟩:=H2;dsimp only at e1 e7 e1' fK h5 h5' hz;subst e1 e1' e7 fK;exact (aaM s s' A A' ns ns' n n' c c' B B' w h2 h2' h3 h3' h4 h4' af af h6 h6').mono fun e w' hh=>wP HE hh hz
theorem aji(HE:Env t W0 w bs L)(h:⟨v,x,k,b⟩∈L)(h':⟨v',y,k',b'⟩∈L)(hk:k+k'<=100000) :
  Calls Tryz.prog 128 #[v,v'] w fun e w' => ∃ u,e = .returned u/\Env t W0 w' bs (⟨u,x-y,k+k'+1,true⟩::L):=by
 have H1:=HE.ops _ h;have H2:=HE.ops _ h';have hz:=Vl H1.lt H2.lt;obtain ⟨s,A,n,c,ns,B,e1,h2,h3,h4,h5,h6,e7,h8⟩:=H1;obtain ⟨s',A',n',c',ns',B',e1',h2',h3',h4',h5',h6',fK,h8'⟩:=H2;dsimp only at e1 e7 e1' fK h5 h5' hz;subst e1 e1' e7 fK;exact (ajl s s' A A' ns ns' n n' c c' B B' w h2 h2' h3 h3' h4 h4' af af h6 h6').mono fun e w' hh=>wP HE hh hz
theorem afD(HE:Env t W0 w bs L)(h:⟨v,x,k,b⟩∈L)(h':⟨v',y,k',b'⟩∈L)(hk:k+k'<=100000) :
  Calls Tryz.prog 69 #[v,v'] w fun e w' => ∃ u,e = .returned u/\Env t W0 w' bs (⟨u,x*y,k+k'+1,true⟩::L):=by
 have H1:=HE.ops _ h;have H2:=HE.ops _ h';have hz:=lt_mul H1.lt H2.lt;obtain ⟨s,A,n,c,ns,B,e1,h2,h3,h4,h5,h6,e7,h8⟩:=H1;obtain ⟨s',A',n',c',ns',B',e1',h2',h3',h4',h5',h6',fK,h8'⟩:=H2;dsimp only at e1 e7 e1' fK h5 h5' hz;subst e1 e1' e7 fK;exact (afG s s' A A' ns ns' n n' c c' B B' w h2 h2' h3 h3' h4 h4' af af h6 h6').mono fun e w' hh=>wP HE hh hz
theorem abJ(HE:Env t W0 w bs L)(h:⟨v,x,k,b⟩∈L)(h':⟨v',y,k',b'⟩∈L)(hk:k+k'<=100000) :
  Calls Tryz.prog 67 #[v,v'] w fun e w'=>e = .returned (.int .i64 (dX x y))/\Env t W0 w' bs L:=by
 obtain ⟨s,A,n,c,ns,B,e1,h2,h3,h4,h5,h6,e7,h8⟩:=HE.ops _ h;obtain ⟨s',A',n',c',ns',B',e1',h2',h3',h4',h5',h6',fK,h8'⟩:=HE.ops _ h';dsimp only at e1 e7 e1' fK h5 h5';subst e1 e1' e7 fK;exact (abL s s' A A' ns ns' n n' c c' B B' w h2 h2' h3 h3' h4 h4' af af h6 h6').mono fun e w' hh=>⟨hh.1,HE.next hh.2⟩
theorem af6(HE:Env t W0 w bs L)(h:⟨v,x,k,b⟩∈L)(hk:k<=100000) :
  Calls Tryz.prog 89 #[v] w fun e w' => ∃ u,e = .returned u/\Env t W0 w' bs (⟨u,-x,k,true⟩::L):=by
 have H1:=HE.ops _ h;have hz:(-x).natAbs<pw k:=by have:=H1.lt;simpa using this
 obtain ⟨s,A,n,c,ns,B,e1,h2,h3,h4,h5,h6,e7,h8⟩:=H1;dsimp only at e1 e7 h5;subst e1 e7;exact (af4 s A ns n c B w h2 h3 h4 af h6).mono fun e w' hh=>wP HE hh hz
theorem ajd(HE:Env t W0 w bs L)(h:⟨v,x,k,b⟩∈L)(hk:k<=100000) :
  Calls Tryz.prog 72 #[v] w fun e w'=>e = .returned (.int .i64 (dL x))/\Env t W0 w' bs L:=by
 obtain ⟨s,A,n,c,ns,B,e1,h2,h3,h4,h5,h6,e7,h8⟩:=HE.ops _ h;dsimp only at e1 e7 h5;subst e1 e7;exact (ajb s A ns n c B w h2 h3 h4 af h6).mono fun e w' hh=>⟨hh.1,HE.next hh.2⟩
end
end Go.Proofs.BGQ
namespace Lw
open Go Go.RowKit
theorem Vj{z:Int}(h1 : -9223372036854775808<=z)(h2:z<=9223372036854775807):z.natAbs<pw 2:=by
 have:pw 2=18446744073709551616:=rfl;omega
end Lw
namespace Go.Proofs.BGQ
open Go Go.RowKit Lw
section
variable {t:TypeId} {W0 w:World} {bs:List Bx} {L:List En} {v v':Value} {x y:Int} {k k':Nat} {b b':Bool}
theorem WW(HE:Env t W0 w bs L)(h:⟨v,x,k,b⟩∈L)(hk:k<=100000) :
  Calls Tryz.prog 100 #[v] w fun e w'=>e = .returned (.int .i64 (dL x))/\Env t W0 w' bs L:=by
 obtain ⟨s,A,n,c,ns,B,e1,h2,h3,h4,h5,h6,e7,h8⟩:=HE.ops _ h;dsimp only at e1 e7 h5;subst e1 e7;exact (WV s A ns n c B w h2 h3 h4 af h6).mono fun e w' hh=>⟨hh.1,HE.next hh.2⟩
theorem agl{z:Int}(HE:Env t W0 w bs L)(h1 : -9223372036854775808<=z)(h2:z<=9223372036854775807) :
  Calls Tryz.prog 121 #[.int .i64 z] w fun e w' => ∃ u,e = .returned u/\Env t W0 w' bs (⟨u,z,2,true⟩::L) :=
 (agk z w h1 h2).mono fun _ _ hh=>wP HE hh (Vj h1 h2)
theorem ahX{z:Int}(HE:Env t W0 w bs L)(h1 : -9223372036854775808<=z)(h2:z<=9223372036854775807) :
  Calls Tryz.prog 104 #[.int .i64 z] w fun e w' => ∃ u,e = .returned u/\Env t W0 w' bs (⟨u,z,2,true⟩::L) :=
 (ahW z w h1 h2).mono fun _ _ hh=>wP HE hh (Vj h1 h2)
end
end Go.Proofs.BGQ
namespace Lw
open Go Go.RowKit
theorem Env.EZ{t:TypeId}{W0 w:World}{bs:List Bx}{L:List En}(h:Env t W0 w bs L)(x y:Value):Env t W0 (w.alloc (.cells #[x,y] t)) (⟨w.heap.size,x,y⟩::bs) L :=
 have h2:=h.next ((Below.refl _ w).alloc (avW _) (.cells #[x,y] t))
 ⟨h2.ops,fun b hb=>by
  rcases List.mem_cons.1 hb with rfl | hb
  ·exact Two.new w t x y
  ·exact h2.box b hb,h2.below⟩
theorem dK.put{t:TypeId}{w:World}{g n c:Nat}{s:Bool}{X:Option Addr}{e:En}(h:dK w e)(h2:Two w g t (.bool s) (.slice X n c))(s':Bool)(v:Value) :
  dK ((w.setCell ⟨g,0,none⟩ (.bool s')).setCell ⟨g,1,none⟩ v) e:=by
 obtain ⟨a,A,m,d,ns,B,e1,h3,h4,h5,h6,h7,e7,h8⟩:=h;exact ⟨a,A,m,d,ns,B,e1,h3.jI h2 s' v,by simpa using h4,h5,h6,h7,e7,h8⟩
theorem Env.put{t:TypeId}{W0 w:World}{bs:List Bx}{L:List En}{g n c:Nat}{s:Bool}{X:Option Addr}(h:Env t W0 w (⟨g,.bool s,.slice X n c⟩::bs) L)(hg:W0.heap.size<=g)(hd : ∀ b∈bs,b.g≠g)(s':Bool)(v:Value) :
  Env t W0 ((w.setCell ⟨g,0,none⟩ (.bool s')).setCell ⟨g,1,none⟩ v) (⟨g,.bool s',v⟩::bs) L :=
 ⟨fun e he=>(h.ops e he).put (h.box _ ak) s' v,fun b hb=>by
  rcases List.mem_cons.1 hb with rfl | hb
  ·exact (h.box _ ak).put _ _
  ·exact ((h.box b (.tail _ hb)).far (p:=⟨g,0,none⟩) (hd b hb) _).far (p:=⟨g,1,none⟩) (hd b hb) _,
  (h.below.setCell (p:=⟨g,0,none⟩) hg _).setCell (p:=⟨g,1,none⟩) hg _⟩
theorem Env.aj7{t:TypeId}{W0 w:World}{b:Bx}{bs:List Bx}{L:List En}(h:Env t W0 w (b::bs) L):Env t W0 w bs L:=⟨h.ops,fun b' hb=>h.box b' (.tail _ hb),h.below⟩
theorem Env.top{t:TypeId}{W0 w:World}{g:Nat}{x y:Value}{bs:List Bx}{L:List En}(h:Env t W0 w (⟨g,x,y⟩::bs) L) :
  w.cell? ⟨g,0,none⟩=some x/\w.cell? ⟨g,1,none⟩=some y/\w.frozen? ⟨g,0,none⟩=false/\w.frozen? ⟨g,1,none⟩=false:=(h.box _ ak).facts
end Lw
namespace Go.Proofs.BGQ
open Go Go.RowKit Lw
set_option maxRecDepth 100000 in
set_option maxHeartbeats 800000 in
theorem agi(w:World):Calls Tryz.prog 18 #[.nilIface] w fun e w'=>e = .returned (.int .i64 0)/\w=w':=by
 go_enter Tryz.func18,Tryz.ntmps18
 go_wp2
 go_ret
 exact ⟨rfl,rfl⟩
end Go.Proofs.BGQ
namespace Lw
theorem yj(a:Rat):(-a).num = -a.num/\(-a).den=a.den:=⟨rfl,rfl⟩
end Lw
namespace Lw
open Go
def tz(x:Nat):Nat:=Lib.ctz 64 x
theorem IA{x:Nat}(h0:x≠0)(h:x<18446744073709551616) : ∃ m,x=2^tz x*(2*m+1)/\tz x<64:=by
 unfold tz Lib.ctz;rw [if_neg h0];exact Lib.ctzFrom_spec 64 x af h
theorem DD(m k:Nat):Nat.Coprime (2^k) (2*m+1):=by
 apply Nat.Coprime.pow_left;unfold Nat.Coprime
 simp_all
theorem Nh{j k m:Nat}(h:2^j ∣ 2^k*(2*m+1)):j<=k:=by
 have h1:2^j ∣ 2^k:=Nat.Coprime.dvd_of_dvd_mul_right (DD m j) h;exact (Nat.pow_dvd_pow_iff_le_right af).1 h1
theorem V6{j x y:Nat} : 2^j ∣ (x ||| y)↔2^j ∣ x/\2^j ∣ y:=by
 rw [Nat.dvd_iff_mod_eq_zero,Nat.dvd_iff_mod_eq_zero,Nat.dvd_iff_mod_eq_zero,Nat.or_mod_two_pow,Nat.or_eq_zero_iff]
theorem Ym{x m:Nat}(h:x=2^tz x*(2*m+1)):x/2^tz x=2*m+1:=by
 have hp:0<2^tz x:=by grind
 generalize 2^tz x=P at *
 simp_all
theorem adz{x y:Nat}(hx:x≠0)(hy:y≠0)(hxl:x<18446744073709551616)(hyl:y<18446744073709551616) :
  Nat.gcd x y=Nat.gcd (x/2^tz x) y*2^tz (x ||| y)/\(x/2^tz x)%2=1/\tz x<64/\tz (x ||| y)<64/\x ||| y<18446744073709551616:=by
 have ho:x ||| y≠0:=fun e=>hx (Nat.or_eq_zero_iff.1 e).1
 have hol:x ||| y<18446744073709551616:=Nat.or_lt_two_pow (n:=64) hxl hyl
 obtain ⟨a,ha,hal⟩:=IA hx hxl;obtain ⟨b,hb,hbl⟩:=IA hy hyl;obtain ⟨c,hc,hcl⟩:=IA ho hol;have e1:=Ym ha;have hd:2^tz (x ||| y) ∣ (x ||| y):=⟨_,hc⟩;obtain ⟨d1,d2⟩:=V6.1 hd;have l1:tz (x ||| y)<=tz x:=Nh (m:=a) (by rw [<- ha];exact d1);have l2:tz (x ||| y)<=tz y:=Nh (m:=b) (by rw [<- hb];exact d2)
 have l3:¬ (tz (x ||| y)+1<=tz x/\tz (x ||| y)+1<=tz y):=by
  rintro ⟨k1,k2⟩;have f1:2^(tz (x ||| y)+1) ∣ x:=Nat.dvd_trans (Nat.pow_dvd_pow 2 k1) ⟨_,ha⟩;have f2:2^(tz (x ||| y)+1) ∣ y:=Nat.dvd_trans (Nat.pow_dvd_pow 2 k2) ⟨_,hb⟩;have:=Nh (m:=c) (j:=tz (x ||| y)+1) (k:=tz (x ||| y)) (by rw [<- hc];exact V6.2 ⟨f1,f2⟩);omega
 refine ⟨?_,by rw [e1];omega,hal,hcl,hol⟩;rw [e1];generalize tz (x ||| y)=t at *;clear hd d1 d2 e1 hc ho hol;generalize tz x=i at *;generalize tz y=j at *;subst ha hb;rw [Nat.Coprime.gcd_mul_left_cancel_right _ (DD a j)];rcases av3 t i with h1 | h1
 ·obtain rfl:j=t:=af
  obtain ⟨k,rfl⟩:=Nat.exists_eq_add_of_le l1;rw [awu,awd,Nat.gcd_mul_left,av7]
  congr 1
  exact Nat.Coprime.gcd_mul_left_cancel _ (DD b k)
 ·obtain rfl:i=t:=af
  obtain ⟨k,rfl⟩:=Nat.exists_eq_add_of_le l2;rw [awu,awd,Nat.gcd_mul_left,av7]
  congr 1
  exact Nat.Coprime.gcd_mul_left_cancel_right _ (DD a k)
theorem agj{x:Nat}(h:x%2=1):x=2*(x/2)+1:=af
theorem ady{x y:Nat}(hx:x%2=1)(hy:y≠0)(hyl:y<18446744073709551616) :
  Nat.gcd x (y/2^tz y)=Nat.gcd x y/\(y/2^tz y)%2=1/\y/2^tz y<=y/\tz y<64:=by
 obtain ⟨b,hb,hbl⟩:=IA hy hyl;have e:=Ym hb;refine ⟨?_,by rw [e];omega,awl _ _,hbl⟩;rw [e]
 conv=>rhs;rw [hb]
 rw [agj hx,Nat.Coprime.gcd_mul_left_cancel_right _ (DD _ _)]
theorem Tt{x y:Nat}(h:x<=y):Nat.gcd x (y-x)=Nat.gcd x y:=Nat.gcd_sub_self_right h
end Lw
namespace Lw
theorem BU{n d:Int}(hd:0<d):(Rat.divInt n d).num.natAbs<=n.natAbs/\(Rat.divInt n d).den<=d.natAbs:=by
 constructor
 ·rw [awL,axj hd,Int.one_mul];exact Int.natAbs_ediv_le_natAbs _ _
 ·rw [awM,if_neg af];exact awl _ _
theorem den_pos(a:Rat):(0:Int)<(a.den:Int):=by have:=a.den_pos;omega
theorem uX(a:Rat):(a.den:Int)≠0:=by have:=den_pos a;omega
theorem Qr(a b:Rat):a+b=Rat.divInt (a.num*b.den+b.num*a.den) (a.den*b.den):=by
 conv=>lhs;rw [<- awW a,<- awW b]
 rw [Rat.divInt_add_divInt _ _ (uX a) (uX b)]
theorem ML(a b:Rat):a*b=Rat.divInt (a.num*b.num) (a.den*b.den):=by
 conv=>lhs;rw [<- awW a,<- awW b]
 rw [Rat.divInt_mul_divInt]
theorem aaH(a b:Rat):(a+b).num.natAbs<=a.num.natAbs*b.den+b.num.natAbs*a.den/\(a+b).den<=a.den*b.den:=by
 have h:=BU (n:=a.num*b.den+b.num*a.den) (Int.mul_pos (den_pos a) (den_pos b));rw [<- Qr,awC,av2,av2] at h;refine ⟨avX h.1 (avX (Int.natAbs_add_le _ _) ?_),h.2⟩;rw [awC,awC,av2,av2];omega
theorem afC(a b:Rat):(a*b).num.natAbs<=a.num.natAbs*b.num.natAbs/\(a*b).den<=a.den*b.den:=by
 have h:=BU (n:=a.num*b.num) (Int.mul_pos (den_pos a) (den_pos b));rw [<- ML,awC,awC,av2,av2] at h;exact h
theorem Nw{n d g:Int}(hd:0<d)(hg:g=(Nat.gcd n.natAbs d.natAbs:Nat)):(Rat.divInt n d).num=n/g/\((Rat.divInt n d).den:Int)=d/g/\g≠0:=by
 have p1:0<Nat.gcd n.natAbs d.natAbs:=by grind
 have e:Int.gcd d n=Nat.gcd n.natAbs d.natAbs:=Int.gcd_comm d n;subst hg;refine ⟨?_,?_,af⟩
 ·rw [awL,axj hd,Int.one_mul,e]
 ·rw [awM,if_neg af,e,awU,Int.natAbs_of_nonneg af]
def eX(a b:Rat):Int:=if a<b then -1 else if b<a then 1 else 0
def iO(a:Rat):Int:=if a<0 then -1 else if 0<a then 1 else 0
end Lw
namespace Lw
theorem Kv{a b:Rat}(h:a<b):eX a b = -1:=by unfold eX;rw [if_pos h]
theorem Ku{a b:Rat}(h:b<a):eX a b=1:=by
 unfold eX;rw [if_neg (Rat.not_lt.2 (Rat.le_of_lt h)),if_pos h]
theorem Rk(a:Rat):eX a a=0:=by unfold eX;rw [if_neg axb,if_neg axb]
theorem tri(a b:Rat):a<b\/a=b\/b<a:=by
 grind
theorem abH{a b:Rat} : eX a b=0↔a=b:=by
 rcases tri a b with h | h | h
 ·rw [Kv h];exact ⟨fun e=>by simp at e,fun e=>by subst e;exact absurd h axb⟩
 ·subst h;exact ⟨fun _=>rfl,fun _=>Rk a⟩
 ·rw [Ku h];exact ⟨fun e=>by simp at e,fun e=>by subst e;exact absurd h axb⟩
theorem Ya{a:Rat}(h:a<0):iO a = -1:=by unfold iO;rw [if_pos h]
theorem NP:iO 0=0:=by unfold iO;rw [if_neg axb,if_neg axb]
theorem Yc{a:Rat}(h:0<a):iO a=1:=by unfold iO;rw [if_neg (Rat.not_lt.2 (Rat.le_of_lt h)),if_pos h]
theorem VY{a:Rat} : a.num<0↔a<0:=by
 have:=Rat.lt_iff a 0
 simp_all
theorem Yb(a:Rat):iO a=if a.num<0 then -1 else if a.num=0 then 0 else 1:=by
 rcases tri a 0 with h | h | h
 ·rw [Ya h,if_pos (VY.2 h)]
 ·subst h;rw [NP];rfl
 ·have h1:¬ a.num<0:=fun e=>absurd h (Rat.not_lt.2 (Rat.le_of_lt (VY.1 e)))
  have h2:a.num≠0:=fun e=>by rw [awo] at e;subst e;exact axb h
  rw [Yc h,if_neg h1,if_neg h2]
theorem ajk(a:Rat):iO (a + -a)=0:=by rw [Rat.add_neg_cancel,NP]
end Lw
