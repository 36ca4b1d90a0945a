/- Part of a proof, said shortly. -/
import Derived.Test.YtbihljnjaondcaaGreatDoorAlt
import Derived.Test.YtbihljnjaondcaaGreatDoorT25
import Derived.Test.YtbihljnjaondcaaGreatDoorT24
import Derived.Test.YtbihljnjaondcaaGreatDoorT23
import Derived.Test.YtbihljnjaondcaaGreatDoorT22
import Derived.Test.YtbihljnjaondcaaGreatDoorT21
import Derived.Test.YtbihljnjaondcaaGreatDoorT20
import Derived.Test.YtbihljnjaondcaaGreatDoorT14
import Derived.Test.YtbihljnjaondcaaGreatDoorT4
import Derived.Test.YtbihljnjaondcaaGreatDoorT3
import Derived.Test.YtbihljnjaondcaaGreatDoorT2
import Derived.Test.YtbihljnjaondcaaGreatDoorT1
import Derived.Test.YtbihljnjaondcaaGreatDoorT13
import Derived.Test.YtbihljnjaondcaaGreatDoorT9
import Derived.Test.YtbihljnjaondcaaGreatDoorT8
import Derived.Test.YtbihljnjaondcaaGreatDoorT6
import Derived.Test.YtbihljnjaondcaaGreatDoorT5
import Derived.Test.YtbihljnjaondcaaGreatDoorT7
import Derived.Test.YtbihljnjaondcaaGreatDoorT19
import Derived.Test.YtbihljnjaondcaaGreatDoorT18
import Derived.Test.YtbihljnjaondcaaGreatDoorT16
import Derived.Test.YtbihljnjaondcaaGreatDoorT15
import Derived.Test.YtbihljnjaondcaaGreatDoorT17
import Derived.Test.YtbihljnjaondcaaGreatDoorT10
import Derived.Test.YtbihljnjaondcaaGreatDoorT11
import Derived.Test.YtbihljnjaondcaaGreatDoorT12
namespace Lw
open Go
theorem bdC {z:Int} {k:Nat} (h:z.natAbs < pw k):(Lib.itoa z).length≤10*k+2:=by
 have h1:pw k≤(10 ^ 10) ^ k:=by unfold pw; exact Nat.pow_le_pow_left (by decide) k
 rw [← Nat.pow_mul] at h1
 have h2:10 ^ (10*k)≤10 ^ (10*k+1):=Nat.pow_le_pow_right (by omega) (by omega)
 have h3:=a7q (10*k) z.natAbs (by omega)
 cases hs:sg z
 ·rw [anm hs]; simp; omega
 ·rw [itoa_neg hs]; simp; omega
theorem bhr (a b:List UInt8):({ data:=a.toArray } : ByteArray) ++ { data := #[47] } ++ { data:=b.toArray } = { data:=(a++([47]++b)).toArray } := by
 apply ByteArray.ext
 simp [ByteArray.data_append]
def aka (q:Rat):List UInt8:=if q.den=1 then Lib.itoa q.num else Lib.itoa q.num++([47]++Lib.itoa (q.den:Int))
end Lw
namespace Go.Proofs.YtbihljnjaondcaaGreatDoor
open Go Go.RowKit Lw
section
variable {W0 w:World} {bs:List Bx} {L:List En} {ts:List Bt} {M:List Qn} {s s':Bool} {A A' B B':Option Addr} {n c n' c' m d m' d' k k' j:Nat} {q r:Rat} {x y:Int} {b b':Bool}
theorem bkp {v:Value} (HE:Uz W0 w bs L ts M) (h:⟨v,q,k,b⟩∈M):q.num.natAbs < pw k∧q.den < pw (k+1):=by
 have H:=HE.fr _ h
 cases b
 ·obtain ⟨s',A1,n1,c1,A2,n2,c2,ns,ms,h1,h2,h3,h4,h5,h6,h7,h8,h9,h10,h11⟩:=H
  dsimp only at h10 h11
  have h0:q=0:=by rw [← h10]; unfold qv; rw [h11]; rfl
  have:=anr k
  have:=afC k
  subst h0
  exact ⟨by show 0 < pw k; omega,by show 1 < pw (k+1); omega⟩
 ·exact H.lt
theorem Uz.r2 {g1 g2:Nat} {x1 y1 x2 y2:Value} (h:Uz W0 w (⟨g2,x2,y2⟩ :: ⟨g1,x1,y1⟩ :: bs) L ts M) :
  w.cell? ⟨g1,0,none⟩=some x1∧w.cell? ⟨g1,1,none⟩=some y1∧w.cell? ⟨g2,0,none⟩=some x2∧w.cell? ⟨g2,1,none⟩=some y2 :=
 ⟨(h.c2 (.tail _ (.head _))).1,(h.c2 (.tail _ (.head _))).2.1,(h.c2 (.head _)).1,(h.c2 (.head _)).2.1⟩
set_option maxRecDepth 100000 in
set_option maxHeartbeats 2400000 in
theorem a6i (HE:Uz W0 w bs L ts M) (h:⟨.agg #[.bool s,.slice A n c,.slice A' n' c'],q,k,b⟩∈M) (hk:k≤40000) :
  Calls Tryz.prog 29 #[.agg #[.bool s,.slice A n c,.slice A' n' c']] w (fun e w'=>e = .returned (.string ⟨(aka q).toArray⟩)∧Uz W0 w' bs L ts M):=by
 refine Calls.mono (R:=fun e w'=>e = .returned (.string ⟨(aka q).toArray⟩)∧Uz w w' [] L [] M) ?_ fun _ _ hh=>⟨hh.1,HE.back hh.2⟩
 have hl:=bkp HE h
 have l1:=bdC hl.1
 have l2:=bdC (z:=(q.den:Int)) (k:=k+1) (by rw [Int.natAbs_natCast]; exact hl.2)
 have e1:(9223372036854775807 < (Lib.itoa q.num).length+1)=False:=eq_false (by omega)
 have e2:(9223372036854775807 < (Lib.itoa q.num).length+1+(Lib.itoa (q.den:Int)).length)=False:=eq_false (by omega)
 have e3:(9223372036854775807 < (Lib.itoa q.num).length+(1+(Lib.itoa (q.den:Int)).length))=False:=eq_false (by omega)
 have e4:(9223372036854775807 < (Lib.itoa q.num).length+((Lib.itoa (q.den:Int)).length+1))=False:=eq_false (by omega)
 clear hl l1 l2
 by_cases hd:q.den=1
 ·have HD:=Lib.hid (show decide ((q.den:Int).natAbs=1)=true by rw [hd]; rfl)
  have HT:=Lib.hid (show aka q=Lib.itoa q.num by unfold aka; rw [if_pos hd])
  clear hd
  replace HE:=HE.here.ae' (.bool s) (.slice A n c) (.slice A' n' c')
  obtain ⟨q0,q1,q2,q3,q4,q5⟩:=HE.c3 (.head _)
  go_enter Tryz.func29,Tryz.ntmps29
  go_wp2_with fail
  refine (a3n HE h (by omega)).mono ?_
  clear HE
  rintro e w1 ⟨sx,Ax,nx,cx,Ay,ny,cy,rfl,HE⟩
  go_wp2_with fail
  refine (a2s HE (.head _)).mono ?_
  clear HE
  rintro e w2 ⟨s1,D1,m1,d1,s2,D2,m2,d2,rfl,HE⟩
  clear q0 q1 q2 q3 q4 q5
  replace HE:=(HE.abb (.bool s1) (.slice D1 m1 d1)).abb (.bool s2) (.slice D2 m2 d2)
  simp only [World.size_alloc] at HE
  obtain ⟨q6,q7,q8,q9⟩:=HE.c2 (.head _)
  obtain ⟨q10,q11,q12,q13⟩:=HE.c2 (.tail _ (.head _))
  obtain ⟨q14,q15,q16,q17,q18,q19⟩:=HE.c3 (.head _)
  go_wp2_with fail
  refine (a1Q HE (.tail _ (.head _)) (by omega)).mono ?_
  rw [HD.out]
  clear HE
  rintro e w3 ⟨rfl,HE⟩
  clear q6 q7 q8 q9 q10 q11 q12 q13 q14 q15 q16 q17 q18 q19
  obtain ⟨q20,q21,q22,q23⟩:=HE.c2 (.head _)
  obtain ⟨q24,q25,q26,q27⟩:=HE.c2 (.tail _ (.head _))
  obtain ⟨q28,q29,q30,q31,q32,q33⟩:=HE.c3 (.head _)
  go_wp2_with fail
  refine (bag HE (.head _) (by omega)).mono ?_
  clear HE
  rintro e w4 ⟨rfl,HE⟩
  clear q20 q21 q22 q23 q24 q25 q26 q27 q28 q29 q30 q31 q32 q33
  go_wp2_with fail
  go_ret
  exact ⟨by rw [HT.out]; rfl,HE.bare.pick (fun _ he => .tail _ (.tail _ (he))) (fun _ he => .tail _ he)⟩
 ·have HD:=Lib.hid (show decide ((q.den:Int).natAbs=1)=false by rw [Int.natAbs_natCast]; exact decide_eq_false hd)
  have HT:=Lib.hid (show aka q=Lib.itoa q.num++([47]++Lib.itoa (q.den:Int)) by unfold aka; rw [if_neg hd])
  clear hd
  replace HE:=HE.here.ae' (.bool s) (.slice A n c) (.slice A' n' c')
  obtain ⟨q0,q1,q2,q3,q4,q5⟩:=HE.c3 (.head _)
  go_enter Tryz.func29,Tryz.ntmps29
  go_wp2_with fail
  refine (a3n HE h (by omega)).mono ?_
  clear HE
  rintro e w1 ⟨sx,Ax,nx,cx,Ay,ny,cy,rfl,HE⟩
  go_wp2_with fail
  refine (a2s HE (.head _)).mono ?_
  clear HE
  rintro e w2 ⟨s1,D1,m1,d1,s2,D2,m2,d2,rfl,HE⟩
  clear q0 q1 q2 q3 q4 q5
  replace HE:=(HE.abb (.bool s1) (.slice D1 m1 d1)).abb (.bool s2) (.slice D2 m2 d2)
  simp only [World.size_alloc] at HE
  obtain ⟨q6,q7,q8,q9⟩:=HE.c2 (.head _)
  obtain ⟨q10,q11,q12,q13⟩:=HE.c2 (.tail _ (.head _))
  obtain ⟨q14,q15,q16,q17,q18,q19⟩:=HE.c3 (.head _)
  go_wp2_with fail
  refine (a1Q HE (.tail _ (.head _)) (by omega)).mono ?_
  rw [HD.out]
  clear HE
  rintro e w3 ⟨rfl,HE⟩
  clear q6 q7 q8 q9 q10 q11 q12 q13 q14 q15 q16 q17 q18 q19
  obtain ⟨q20,q21,q22,q23⟩:=HE.c2 (.head _)
  obtain ⟨q24,q25,q26,q27⟩:=HE.c2 (.tail _ (.head _))
  obtain ⟨q28,q29,q30,q31,q32,q33⟩:=HE.c3 (.head _)
  go_wp2_with fail
  go_region_held3 (fun w'=>w'.cell? ⟨w2.heap.size,0,none⟩=some (.bool s1)∧w'.cell? ⟨w2.heap.size,1,none⟩=some (.slice D1 m1 d1)∧w'.cell? ⟨w2.heap.size+1,0,none⟩=some (.bool s2)∧w'.cell? ⟨w2.heap.size+1,1,none⟩=some (.slice D2 m2 d2)) (with_reducible first | exact Uz.r2 HE | exact Uz.r2 HE.drew)
   (first
    | (go_at_call 82; refine (bag (by with_reducible first | exact HE | exact HE.drew) (by repeat (first | exact .head _ | assumption | refine .tail _ ?_)) (by omega)).mono ?_; rintro e wn ⟨rfl,HE⟩))
  go_wp2_with fail
  go_ret
  exact ⟨by rw [HT.out,← bhr]; rfl,HE.bare.pick (fun _ he => .tail _ (.tail _ (he))) (fun _ he => .tail _ he)⟩
end
end Go.Proofs.YtbihljnjaondcaaGreatDoor
