/- Part of a proof, said shortly. -/
import Derived.Test.YtbihljnjaondcaaGreatDoorAlt
import Derived.Test.YtbihljnjaondcaaGreatDoorT28
import Derived.Test.YtbihljnjaondcaaGreatDoorT26
import Derived.Test.YtbihljnjaondcaaGreatDoorT25
import Derived.Test.YtbihljnjaondcaaGreatDoorT24
import Derived.Test.YtbihljnjaondcaaGreatDoorT23
import Derived.Test.YtbihljnjaondcaaGreatDoorT22
import Derived.Test.YtbihljnjaondcaaGreatDoorT21
import Derived.Test.YtbihljnjaondcaaGreatDoorT20
import Derived.Test.YtbihljnjaondcaaGreatDoorT14
import Derived.Test.YtbihljnjaondcaaGreatDoorT4
import Derived.Test.YtbihljnjaondcaaGreatDoorT3
import Derived.Test.YtbihljnjaondcaaGreatDoorT2
import Derived.Test.YtbihljnjaondcaaGreatDoorT1
import Derived.Test.YtbihljnjaondcaaGreatDoorT13
import Derived.Test.YtbihljnjaondcaaGreatDoorT9
import Derived.Test.YtbihljnjaondcaaGreatDoorT8
import Derived.Test.YtbihljnjaondcaaGreatDoorT6
import Derived.Test.YtbihljnjaondcaaGreatDoorT5
import Derived.Test.YtbihljnjaondcaaGreatDoorT7
import Derived.Test.YtbihljnjaondcaaGreatDoorT19
import Derived.Test.YtbihljnjaondcaaGreatDoorT18
import Derived.Test.YtbihljnjaondcaaGreatDoorT16
import Derived.Test.YtbihljnjaondcaaGreatDoorT15
import Derived.Test.YtbihljnjaondcaaGreatDoorT17
import Derived.Test.YtbihljnjaondcaaGreatDoorT10
import Derived.Test.YtbihljnjaondcaaGreatDoorT11
import Derived.Test.YtbihljnjaondcaaGreatDoorT12
import Derived.Test.YtbihljnjaondcaaGreatDoorT27
namespace Lw
open Go Go.RowKit
theorem Opd.tight {w:World} {v:Value} {z:Int} {k K:Nat} (h:Opd w ⟨v,z,k,true⟩) (hz:z.natAbs < pw K):Opd w ⟨v,z,K,true⟩:=by
 obtain ⟨s,A,n,c,ns,B,e1,h2,h3,h4,h5,h6,e7,h8⟩:=h
 dsimp only at e1 e7 h5 h8
 obtain ⟨a1,a2,_⟩:=a2E (z:=z) h8 (by rw [← e7]; unfold zv; rw [if_pos h8]) h2.wds
 refine ⟨s,A,n,c,ns,B,e1,h2,h3,h4,?_,h6,e7,h8⟩
 dsimp only
 rw [← h4,← a2]
 exact a1t hz
theorem blR {z:Int} {k m:Nat} (h:z.natAbs < pw k):(z ^ m).natAbs < pw (k*m+1):=by
 rw [Int.natAbs_pow]
 have h1:z.natAbs ^ m≤pw k ^ m:=Nat.pow_le_pow_left (Nat.le_of_lt h) m
 have h2:pw k ^ m=pw (k*m):=by unfold pw; rw [← Nat.pow_mul]
 have:=anr (k*m)
 rw [afC]; omega
theorem bnP {n j:Nat} : n / 2 ^ j=2*(n / 2 ^ (j+1))+n / 2 ^ j % 2:=by
 have:n / 2 ^ (j+1)=n / 2 ^ j / 2:=by rw [Nat.pow_succ,Nat.div_div_eq_div_mul]
 omega
end Lw
namespace Go.Proofs.YtbihljnjaondcaaGreatDoor
open Go Go.RowKit Lw
section
variable {W0 w:World} {bs:List Bx} {L:List En} {ts:List Bt} {M:List Qn} {s s':Bool} {A A' B B':Option Addr} {n c n' c' m d m' d' k k':Nat} {x:Int}
set_option maxRecDepth 100000 in
set_option maxHeartbeats 3200000 in
theorem bex (HE:Uz W0 w bs L ts M) (h:⟨.agg #[.bool s,.slice A n c],x,k,true⟩∈L) (hk:k≤100) (hm:m≤100) (hx:x.natAbs < pw k) :
  Calls Tryz.prog 87 #[.agg #[.bool s,.slice A n c],.int .i64 m] w (ag6 W0 bs L ts M (x ^ m) (k*m+1)):=by
 refine Calls.mono (R:=ag6 w [] L [] M (x ^ m) (k*m+1)) ?_ fun _ _ hh=>ag6.of HE hh
 have HX:=Lib.hid hx
 have hbl:Lib.bitLen m≤7:=Lib.bitLen_le m 7 (by omega) (by omega)
 have hu:IntKind.u64.wrap (m:Int)=(m:Int):=IntWalk.u64_in _ (by omega)
 have HB:=Lib.hid (show Lib.bitLen ((m:Int)).toNat=Lib.bitLen m by rw [Int.toNat_natCast])
 replace HE:=(HE.here.abb (.bool s) (.slice A n c)).abb (.bool false) (.slice none 0 0)
 simp only [World.size_alloc] at HE
 obtain ⟨q0,q1,q2,q3⟩:=HE.c2 (.head _)
 obtain ⟨q4,q5,q6,q7⟩:=HE.c2 (.tail _ (.head _))
 clear hx
 go_enter Tryz.func87,Tryz.ntmps87
 go_wp2_with fail
 refine (a2o HE (by omega) (by omega)).mono ?_
 clear HE
 rintro e w1 ⟨s0,D0,m0,d0,rfl,HE⟩
 have hlA:=HE.lt2 (.head _)
 replace HE:=HE.abb (.bool s0) (.slice D0 m0 d0)
 clear q0 q1 q2 q3 q4 q5 q6 q7
 go_wp2_with fail
 refine (Tryz.bits_Len _ _ (by omega) (by omega)).mono ?_
 rw [HB.out]
 rintro e w2 ⟨rfl,rfl⟩
 obtain ⟨t,ht⟩ : ∃ t,t=Lib.bitLen m:=⟨_,rfl⟩
 have HT:=Lib.hid ht
 rw [← ht] at hbl ⊢
 clear ht
 have ht1:IntKind.i64.wrap ((t:Int) - 1)=(t:Int) - 1:=w64 (by omega) (by omega)
 replace HE:=HE.hdi (K:=k*m+1) (·.tight (by have:=afC (k*m); have:=anr (k*m); show 1 < _; omega))
 have HS:=Lib.hid (show m / 2 ^ t=0 from Nat.div_eq_of_lt (by rw [HT.out]; exact (show ∀ n:Fin 101,n.val < 2 ^ Lib.bitLen n.val by decide +kernel) ⟨m,by omega⟩))
 go_wp2_with fail
 go_loopw [6] (fun iv wr => ∃ (j:Nat) (s1:Bool) (D1:Option Addr) (m1 d1:Nat),j≤t∧iv = .int .i64 ((j:Int) - 1)∧Uz w wr [⟨w1.heap.size,.bool s1,.slice D1 m1 d1⟩,⟨w.heap.size+1,.bool false,.slice none 0 0⟩,⟨w.heap.size,.bool s,.slice A n c⟩] (⟨.agg #[.bool s1,.slice D1 m1 d1],x ^ (m / 2 ^ j),k*m+1,true⟩ :: L) [] M) (fun iv _=>(intOf iv+1).toNat)
 case atStart=>exact ⟨t,s0,D0,m0,d0,Nat.le_refl _,rfl,by rw [HS.out,Int.pow_zero]; exact HE⟩
 case round =>
  clear HE
  obtain ⟨j,s1,D1,m1,d1,hj,rfl,HE⟩:=hrel
  by_cases hj0:j=0
  ·subst hj0
   rw [Nat.pow_zero,Nat.div_one] at HE
   obtain ⟨q0,q1,q2,q3⟩:=HE.c2 (.head _)
   obtain ⟨q4,q5,q6,q7⟩:=HE.c2 (.tail _ (.head _))
   clear hlA
   go_wp2_with fail
   have HF:=HE.done2 (.tail _ (.head _)) s1 (.slice D1 m1 d1)
   refine bodyPost_ret (v := .agg #[.bool s1,.slice D1 m1 d1]) (by simp [results,Tryz.results87,go_sem,q4,q5]) rfl ?_
   exact ⟨_,_,_,_,rfl,HF⟩
  ·obtain ⟨i,rfl⟩ : ∃ i,j=i+1:=⟨j - 1,by omega⟩
   obtain ⟨q0,q1,q2,q3⟩:=HE.c2 (.head _)
   have hi1:((i+1:Nat):Int) - 1=(i:Int):=by omega
   rw [hi1]
   have HV:=Lib.hid (show x ^ (m / 2 ^ (i+1))*x ^ (m / 2 ^ (i+1))=x ^ (2*(m / 2 ^ (i+1))) by rw [← Int.pow_add]; congr 1; omega)
   have HKM:=Lib.hid (show k*m≤10000 from Nat.mul_le_mul hk hm)
   go_wp2_with fail
   refine (a2n HE (.head _) (.head _) (by have:=HKM.out; omega)).mono ?_
   rw [HV.out]
   clear HE
   rintro e w3 ⟨s2,D2,m2,d2,rfl,HE⟩
   clear q0 q1 q2 q3
   have HLA:=Lib.hid hlA
   have HE2:=HE.anq (.head _) [⟨w.heap.size+1,.bool false,.slice none 0 0⟩,⟨w.heap.size,.bool s,.slice A n c⟩] (fun b hb=>by simp only [List.mem_cons,List.not_mem_nil,or_false] at hb; rcases hb with rfl | rfl <;> exact ⟨(by repeat (first | exact .head _ | refine .tail _ ?_)),by dsimp only; omega⟩) s2 (.slice D2 m2 d2)
   obtain ⟨q0,q1,q2,q3⟩:=HE.c2 (.head _)
   obtain ⟨q4,q5,q6,q7⟩:=HE2.c2 (.head _)
   obtain ⟨q8,q9,q10,q11⟩:=HE2.c2 (.tail _ (.tail _ (.head _)))
   clear HE hlA
   have hdv:m / 2 ^ i≤m:=Nat.div_le_self _ _
   have HPW:=Lib.hid (show (x ^ (m / 2 ^ i)).natAbs < pw (k*m+1) from Nat.lt_of_lt_of_le (blR HX.out) (ajj (Nat.succ_le_succ (Nat.mul_le_mul_left k hdv))))
   have hsh:=bnP (n:=m) (j:=i)
   obtain ⟨P,hP⟩ : ∃ P,P=m / 2 ^ i:=⟨_,rfl⟩
   have hPI:(m:Int) / 2 ^ i=(P:Int):=by rw [hP,Int.natCast_ediv,Int.natCast_pow]; rfl
   rw [← hP] at hdv HPW hsh
   have HP:=Lib.hid hP
   have hbt:=(show ∀ n:Fin 101,bits BinOp.and IntKind.i64 (n.val:Int) 1=((n.val % 2:Nat):Int) by decide +kernel) ⟨P,by omega⟩
   dsimp only at hbt
   by_cases hb:P % 2=1
   ·rw [hb] at hbt hsh
    have hbi:bits BinOp.and IntKind.i64 (P:Int) 1=1:=hbt
    have HV2:=Lib.hid (show x ^ (2*(m / 2 ^ (i+1)))*x=x ^ P by rw [hsh,Int.pow_succ])
    clear hb hbt hsh hP hdv
    go_wp2_with fail
    refine (a2n HE2 (.head _) (.tail _ (.tail _ h)) (by have:=HKM.out; omega)).mono ?_
    rw [HV2.out]
    clear HE2
    rintro e w4 ⟨s3,D3,m3,d3,rfl,HE⟩
    clear q0 q1 q2 q3 q4 q5 q6 q7 q8 q9 q10 q11
    have HE3:=HE.anq (.head _) [⟨w.heap.size+1,.bool false,.slice none 0 0⟩,⟨w.heap.size,.bool s,.slice A n c⟩] (fun b hb=>by have:=HLA.out; simp only [List.mem_cons,List.not_mem_nil,or_false] at hb; rcases hb with rfl | rfl <;> exact ⟨(by repeat (first | exact .head _ | refine .tail _ ?_)),by dsimp only; omega⟩) s3 (.slice D3 m3 d3)
    obtain ⟨q0,q1,q2,q3⟩:=HE.c2 (.head _)
    clear HE
    go_wp2_with fail
    go_roundw
    case rel =>
     refine ⟨i,s3,D3,m3,d3,by omega,rfl,?_⟩
     rw [← HP.out]
     exact (HE3.hdi (·.tight HPW.out)).pick (fun _ he=>by rcases List.mem_cons.1 he with rfl | he; exact .head _; exact .tail _ (.tail _ (.tail _ he))) (fun _ he=>he)
    case measure=>simp [intOf]
   ·have hb0:P % 2=0:=by omega
    rw [hb0] at hbt hsh
    have hbi:bits BinOp.and IntKind.i64 (P:Int) 1=0:=hbt
    have HV2:=Lib.hid (show x ^ (2*(m / 2 ^ (i+1)))=x ^ P by rw [hsh]; rfl)
    clear hb hb0 hbt hsh hP hdv
    go_wp2_with fail
    rw [HV2.out] at HE2
    go_roundw
    case rel =>
     refine ⟨i,s2,D2,m2,d2,by omega,rfl,?_⟩
     rw [← HP.out]
     exact (HE2.hdi (·.tight HPW.out)).pick (fun _ he=>by rcases List.mem_cons.1 he with rfl | he; exact .head _; exact .tail _ (.tail _ he)) (fun _ he=>he)
    case measure=>simp [intOf]
end
end Go.Proofs.YtbihljnjaondcaaGreatDoor
namespace Go.Proofs.YtbihljnjaondcaaGreatDoor
open Go Go.RowKit Lw
def Mx (w:World):Prop := ∃ z:Int,w.cell? ⟨0,0,none⟩=some (.int .i64 z)
theorem Mx.next {w w':World} (h:Mx w) (hb:Below w.heap.size w w'):Mx w':=by
 obtain ⟨z,hz⟩:=h
 exact ⟨z,(hb.cell (cell_lt hz)).trans hz⟩
section
variable {W0 w:World} {bs:List Bx} {L:List En} {ts:List Bt} {M:List Qn}
set_option maxRecDepth 100000 in
set_option maxHeartbeats 3200000 in
theorem bhY (l t f b:List UInt8) (neg:Bool) (HE:Uz W0 w bs L ts M) (hx:Mx w) (hl:l.length≤64) (htl:t.length≤64)
  (h1:Lib.trimPrefix l [45]=t) (h2:Lib.hasPrefix l [45]=neg) (h3:Lib.cut t [46]=(f,b,true)) (hf:acz f) (hb:acz b) (hf0:0 < f.length) (hb0:0 < b.length) (hfl:f.length+b.length≤64) (hz:f=[48]) :
  Calls Tryz.prog 108 #[.string ⟨l.toArray⟩] w (atw W0 bs L ts M (if neg then -Rat.divInt (aan (f++b):Int) ((10:Int) ^ b.length) else Rat.divInt (aan (f++b):Int) ((10:Int) ^ b.length)) 2000):=by
 refine Calls.mono (R:=atw w [] L [] M (if neg then -Rat.divInt (aan (f++b):Int) ((10:Int) ^ b.length) else Rat.divInt (aan (f++b):Int) ((10:Int) ^ b.length)) 2000) ?_ fun _ _ hh=>atw.of HE hh
 obtain ⟨D,hD⟩ : ∃ D:Rat,D=Rat.divInt (aan (f++b):Int) ((10:Int) ^ b.length):=⟨_,rfl⟩
 rw [← hD]
 have HDD:=Lib.hid hD
 obtain ⟨Q,hQ⟩ : ∃ Q:Rat,Q=if neg then -D else D:=⟨_,rfl⟩
 rw [← hQ]
 have HQ:=Lib.hid hQ
 clear hD hQ
 replace HE:=HE.here.ae' (.bool false) (.slice none 0 0) (.slice none 0 0)
 have hx2:=hx.next ((Below.refl _ w).alloc (Nat.le_refl _) (.cells #[.bool false,.slice none 0 0,.slice none 0 0] 24))
 have C1:=Lib.hid (fun W=>Tryz.strings_CutPrefix ⟨l.toArray⟩ ⟨#[45]⟩ W)
 obtain ⟨z,hz1⟩:=hx2
 have C2:=Lib.hid (Tryz.strings_Cut ⟨t.toArray⟩ ⟨#[46]⟩ z _ (by simp [ByteArray.size]; omega) hz1)
 have C3:=Lib.hid (fun W=>baf f true W ⟨fun _=>⟨hf0,hf⟩,fun _=>rfl⟩ (by omega))
 have C4:=Lib.hid (fun W=>baf b true W ⟨fun _=>⟨hb0,hb⟩,fun _=>rfl⟩ (by omega))
 have H1:=Lib.hid h1
 have H2:=Lib.hid h2
 have H3:=Lib.hid h3
 have hsz:(⟨l.toArray⟩:ByteArray).size=l.length:=by simp [ByteArray.size]
 subst hz
 have bf':=Lib.hid (show ({ data := #[48] } : ByteArray) ++ { data:=b.toArray } = { data:=([48]++b).toArray } by apply ByteArray.ext; simp [ByteArray.data_append])
 have HDG:=Lib.hid (show acz ([48]++b) by
  intro c hc
  rcases List.mem_append.1 hc with hc | hc
  ·exact hf c hc
  ·exact hb c hc)
 have HLN:=Lib.hid (show ([48]++b).length≤1000 by simp only [List.length_append,List.length_cons,List.length_nil]; simp only [List.length_cons,List.length_nil] at hfl; omega)
 have HBL:=Lib.hid (show b.length≤100 by omega)
 have HPO:=Lib.hid (show (0:Int) < 10 ^ b.length from Int.pow_pos (by omega))
 clear h1 h2 h3 hx hz1 hf hb hf0 hb0
 go_enter bte,btf
 go_wp2_with fail
 refine (C1.out _).mono ?_
 rw [H1.out,H2.out]
 rintro e w1 ⟨rfl,rfl⟩
 go_wp2_with fail
 refine C2.out.mono ?_
 rw [H3.out]
 rintro e w2 ⟨rfl,p,rfl⟩
 go_wp2_with fail
 refine (C3.out _).mono ?_
 rintro e w3 ⟨rfl,rfl⟩
 go_wp2_with fail
 refine (C4.out _).mono ?_
 rintro e w4 ⟨rfl,rfl⟩
 go_wp2_with fail
 rw [bf'.out]
 replace HE:=HE.next (below_drewN' _ _ p)
 refine (bea ([48]++b) HE HDG.out HLN.out).mono ?_
 clear HE
 rintro e w5 ⟨s1,D1,m1,d1,rfl,HE⟩
 go_wp2_with fail
 refine (a2o HE (by omega) (by omega)).mono ?_
 clear HE
 rintro e w6 ⟨s2,D2,m2,d2,rfl,HE⟩
 go_wp2_with fail
 refine (bex HE (.head _) (by omega) HBL.out (by decide)).mono ?_
 clear HE
 rintro e w7 ⟨s3,D3,m3,d3,rfl,HE⟩
 go_wp2_with fail
 refine (baS HE (.tail _ (.tail _ (.head _))) (.head _) (by have:=HBL.out; have:=HLN.out; simp only [List.length_append,List.length_cons,List.length_nil] at *; omega) HPO.out).mono ?_
 rw [← HDD.out]
 clear HE
 rintro e w8 ⟨sx,Ax,nx,cx,Ay,ny,cy,rfl,HE⟩
 have HLA:=Lib.hid (show w.heap.size < w8.heap.size from (HE.aN9 (.head _)).lt)
 replace HE:=HE.ae' (.bool sx) (.slice Ax nx cx) (.slice Ay ny cy)
 obtain ⟨q0,q1,q2,q3,q4,q5⟩:=HE.c3 (.head _)
 obtain ⟨q6,q7,q8,q9,q10,q11⟩:=HE.c3 (.tail _ (.head _))
 cases neg
 ·go_wp2_with fail
  have HF:=(HE.as9 (D:=Ax) (m:=nx) (d:=cx) (.tail _ (.head _)) sx (.slice Ay ny cy)).bare
  have TF:=(HE.aN9 (.tail _ (.head _))).put (.bool sx) (.slice Ax nx cx) (.slice Ay ny cy)
  obtain ⟨z0,z1,z2,-,-,-⟩:=TF.cells
  refine bodyPost_ret (v := .tuple #[.agg #[.bool sx,.slice Ax nx cx,.slice Ay ny cy],.nilIface]) (by simp [results,Tryz.results108,go_sem,z0,z1,z2]) rfl ?_
  rw [HQ.out,if_neg (by simp)]
  exact ⟨_,_,_,_,_,_,_,rfl,(HF.hd (K:=2000) (·.weak (by have:=HBL.out; have:=HLN.out; simp only [List.length_append,List.length_cons,List.length_nil] at *; omega))).pick (fun _ he => .tail _ (.tail _ (.tail _ he))) (fun _ he=>he)⟩
 ·go_wp2_with fail
  refine (bd6 HE (.head _) (by have:=HBL.out; have:=HLN.out; simp only [List.length_append,List.length_cons,List.length_nil] at *; omega)).mono ?_
  clear HE
  rintro e w9 ⟨sy,Bx,mx,dx,By,my,dy,rfl,HE⟩
  clear q0 q1 q2 q3 q4 q5 q6 q7 q8 q9 q10 q11
  obtain ⟨q0,q1,q2,q3,q4,q5⟩:=HE.c3 (.head _)
  obtain ⟨q6,q7,q8,q9,q10,q11⟩:=HE.c3 (.tail _ (.head _))
  have HE2:=HE.blV (s':=sy) (D:=Bx) (m:=mx) (d:=dx) (v := .slice By my dy) (.head _) [⟨w.heap.size,.bool false,.slice none 0 0,.slice none 0 0⟩] (fun c hc=>by have:=HLA.out; simp only [List.mem_cons,List.not_mem_nil,or_false] at hc; subst hc; exact ⟨.tail _ (.head _),by dsimp only; omega⟩)
  obtain ⟨y0,y1,y2,y3,y4,y5⟩:=HE2.c3 (.head _)
  obtain ⟨y6,y7,y8,y9,y10,y11⟩:=HE2.c3 (.tail _ (.head _))
  have HF:=(HE2.as9 (D:=Bx) (m:=mx) (d:=dx) (.tail _ (.head _)) sy (.slice By my dy)).bare
  have TF:=(HE2.aN9 (.tail _ (.head _))).put (.bool sy) (.slice Bx mx dx) (.slice By my dy)
  clear HE HE2
  go_wp2_with fail
  obtain ⟨z0,z1,z2,-,-,-⟩:=TF.cells
  refine bodyPost_ret (v := .tuple #[.agg #[.bool sy,.slice Bx mx dx,.slice By my dy],.nilIface]) (by simp [results,Tryz.results108,go_sem,z0,z1,z2]) rfl ?_
  rw [HQ.out,if_pos (by trivial)]
  exact ⟨_,_,_,_,_,_,_,rfl,(HF.hd (K:=2000) (·.weak (by have:=HBL.out; have:=HLN.out; simp only [List.length_append,List.length_cons,List.length_nil] at *; omega))).pick (fun _ he => .tail _ (.tail _ (.tail _ he))) (fun _ he=>by rcases List.mem_cons.1 he with rfl | he; exact .head _; exact .tail _ (.tail _ he))⟩
set_option maxRecDepth 100000 in
set_option maxHeartbeats 3200000 in
theorem blw (l t f b:List UInt8) (neg:Bool) (HE:Uz W0 w bs L ts M) (hx:Mx w) (hl:l.length≤64) (htl:t.length≤64) (a1s:0≤Lib.indexByte l 46)
  (h1:Lib.trimPrefix l [45]=t) (h2:Lib.hasPrefix l [45]=neg) (h3:Lib.cut t [46]=(f,b,true)) (hf:acz f) (hb:acz b) (hf0:0 < f.length) (hb0:0 < b.length) (hfl:f.length+b.length≤64) (hz:f=[48]) :
  Calls Tryz.prog 27 #[.string ⟨l.toArray⟩] w (atw W0 bs L ts M (if neg then -Rat.divInt (aan (f++b):Int) ((10:Int) ^ b.length) else Rat.divInt (aan (f++b):Int) ((10:Int) ^ b.length)) 2000):=by
 refine Calls.mono (R:=atw w [] L [] M (if neg then -Rat.divInt (aan (f++b):Int) ((10:Int) ^ b.length) else Rat.divInt (aan (f++b):Int) ((10:Int) ^ b.length)) 2000) ?_ fun _ _ hh=>atw.of HE hh
 replace HE:=HE.here.ae' (.bool false) (.slice none 0 0) (.slice none 0 0)
 have hx2:=hx.next ((Below.refl _ w).alloc (Nat.le_refl _) (.cells #[.bool false,.slice none 0 0,.slice none 0 0] 24))
 have CD:=Lib.hid (bhY l t f b neg HE hx2 hl htl h1 h2 h3 hf hb hf0 hb0 hfl hz)
 have C1:=Lib.hid (fun W=>Tryz.strings_Contains_one ⟨l.toArray⟩ 46 W)
 have HI:=Lib.hid (show decide (0≤Lib.indexByte l 46)=true from decide_eq_true a1s)
 have hsz:(⟨l.toArray⟩:ByteArray).size=l.length:=by simp [ByteArray.size]
 obtain ⟨q0,q1,q2,q3,q4,q5⟩:=HE.c3 (.head _)
 generalize (if neg then -Rat.divInt (aan (f++b):Int) ((10:Int) ^ b.length) else Rat.divInt (aan (f++b):Int) ((10:Int) ^ b.length))=Q at *
 clear h1 h2 h3 hx hx2 hf hb hf0 hb0 hz a1s hfl htl HE
 go_enter bsL,bsM
 go_wp2_with fail
 refine (C1.out _).mono ?_
 rw [HI.out]
 rintro e w1 ⟨rfl,rfl⟩
 go_wp2_with fail
 refine CD.out.mono ?_
 rintro e w2 ⟨sx,Ax,nx,cx,Ay,ny,cy,rfl,HE⟩
 clear q0 q1 q2 q3 q4 q5
 obtain ⟨q0,q1,q2,q3,q4,q5⟩:=HE.c3 (.head _)
 go_wp2_with fail
 have HF:=(HE.as9 (D:=Ax) (m:=nx) (d:=cx) (.head _) sx (.slice Ay ny cy)).bare
 refine bodyPost_ret (v := .tuple #[.agg #[.bool sx,.slice Ax nx cx,.slice Ay ny cy],.nilIface]) (by simp [results,Tryz.results27,go_sem,q0,q1,q2]) rfl ?_
 exact ⟨_,_,_,_,_,_,_,rfl,HF⟩
end
end Go.Proofs.YtbihljnjaondcaaGreatDoor
