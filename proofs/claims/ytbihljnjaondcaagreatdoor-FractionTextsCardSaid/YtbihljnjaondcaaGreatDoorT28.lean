/- Part of a proof, said shortly. -/
import Derived.Test.YtbihljnjaondcaaGreatDoorAlt
import Derived.Test.YtbihljnjaondcaaGreatDoorT26
import Derived.Test.YtbihljnjaondcaaGreatDoorT25
import Derived.Test.YtbihljnjaondcaaGreatDoorT24
import Derived.Test.YtbihljnjaondcaaGreatDoorT23
import Derived.Test.YtbihljnjaondcaaGreatDoorT22
import Derived.Test.YtbihljnjaondcaaGreatDoorT21
import Derived.Test.YtbihljnjaondcaaGreatDoorT20
import Derived.Test.YtbihljnjaondcaaGreatDoorT14
import Derived.Test.YtbihljnjaondcaaGreatDoorT4
import Derived.Test.YtbihljnjaondcaaGreatDoorT3
import Derived.Test.YtbihljnjaondcaaGreatDoorT2
import Derived.Test.YtbihljnjaondcaaGreatDoorT1
import Derived.Test.YtbihljnjaondcaaGreatDoorT13
import Derived.Test.YtbihljnjaondcaaGreatDoorT9
import Derived.Test.YtbihljnjaondcaaGreatDoorT8
import Derived.Test.YtbihljnjaondcaaGreatDoorT6
import Derived.Test.YtbihljnjaondcaaGreatDoorT5
import Derived.Test.YtbihljnjaondcaaGreatDoorT7
import Derived.Test.YtbihljnjaondcaaGreatDoorT19
import Derived.Test.YtbihljnjaondcaaGreatDoorT18
import Derived.Test.YtbihljnjaondcaaGreatDoorT16
import Derived.Test.YtbihljnjaondcaaGreatDoorT15
import Derived.Test.YtbihljnjaondcaaGreatDoorT17
import Derived.Test.YtbihljnjaondcaaGreatDoorT10
import Derived.Test.YtbihljnjaondcaaGreatDoorT11
import Derived.Test.YtbihljnjaondcaaGreatDoorT12
import Derived.Test.YtbihljnjaondcaaGreatDoorT27
namespace Go.Proofs.YtbihljnjaondcaaGreatDoor
open Go Go.RowKit Lw
set_option maxRecDepth 100000 in
set_option maxHeartbeats 3200000 in
theorem baf (l:List UInt8) (r:Bool) (w:World) (hr:r=true↔0 < l.length∧acz l) (hl:l.length≤65536) :
  Calls Tryz.prog 174 #[.string ⟨l.toArray⟩] w fun e w'=>e = .returned (.bool r)∧w=w':=by
 obtain ⟨S,hS⟩ : ∃ S:ByteArray,S=⟨l.toArray⟩:=⟨_,rfl⟩
 have hsz:S.size=l.length:=by rw [hS]; simp [ByteArray.size]
 have hat : ∀ k (h:k < S.size),(S[k]'h).toNat=(l[k]'(by omega)).toNat:=by intro k h; subst hS; rfl
 have hne:S.toList.isEmpty=decide (l.length=0):=by
  rw [hS,ByteArray.toList_mk]
  cases l with
  | nil=>rfl
  | cons x l=>rfl
 have HR:=Lib.hid hr
 have HAT:=Lib.hid hat
 have HNE:=Lib.hid hne
 clear hr hat hne
 rw [← hS]
 clear hS
 go_enter Tryz.func174,Tryz.ntmps174
 go_wp2_with fail
 go_loopw [6] (fun iv wr => ∃ i:Nat,i≤l.length∧iv = .int .i64 i∧Hid (acz (l.take i))∧w=wr) (fun iv _=>l.length - (intOf iv).toNat)
 case atStart=>exact ⟨0,Nat.zero_le _,rfl,Lib.hid (by intro x hx; simp at hx),rfl⟩
 case round =>
  obtain ⟨i,hi,rfl,hdg,rfl⟩:=hrel
  by_cases hil:i < l.length
  ·have hks:i < S.size:=by omega
   obtain ⟨d,hdd⟩ : ∃ d,d=(l[i]'hil).toNat:=⟨_,rfl⟩
   have hsk:((S[i]'hks).toNat:Int)=(d:Int):=by rw [HAT.out i hks,hdd]
   have HNX:Hid (48≤d∧d≤57→acz (l.take (i+1))):=Lib.hid (fun hh=>a4o hil hdg.out (by rw [← hdd]; exact hh))
   have HNO:Hid (¬(48≤d∧d≤57)→false=r):=Lib.hid (fun hh=>by
    cases hrr:r
    ·rfl
    ·exfalso
     refine hh ?_
     rw [hdd]
     exact (HR.out.1 hrr).2 _ (List.getElem_mem hil))
   clear hdd
   by_cases hd1:d < 48
   ·go_wp2_with fail
    go_ret
    exact ⟨alj (HNO.out (by omega)),rfl⟩
   ·by_cases hd2:57 < d
    ·go_wp2_with fail
     go_ret
     exact ⟨alj (HNO.out (by omega)),rfl⟩
    ·go_wp2_with fail
     go_roundw
     case rel=>exact ⟨i+1,by omega,by go_num,Lib.hid (HNX.out ⟨by omega,by omega⟩),trivial⟩
     case measure=>simp [intOf]; omega
  ·obtain rfl:i=l.length:=by omega
   have hD:acz l:=by have:=hdg.out; rwa [List.take_length] at this
   by_cases h0:l.length=0
   ·have hne:=HNE.out
    rw [decide_eq_true h0] at hne
    have HF:Hid (false=r):=Lib.hid (by
     cases hrr:r
     ·rfl
     ·have:=(HR.out.1 hrr).1; omega)
    clear hD
    go_wp2_with fail
    go_ret
    exact ⟨alj HF.out,rfl⟩
   ·have hne:=HNE.out
    rw [decide_eq_false h0] at hne
    have HF:Hid (true=r):=Lib.hid (HR.out.2 ⟨by omega,hD⟩).symm
    clear hD
    go_wp2_with fail
    go_ret
    exact ⟨alj HF.out,rfl⟩
end Go.Proofs.YtbihljnjaondcaaGreatDoor
namespace Go.Proofs.YtbihljnjaondcaaGreatDoor
open Go Go.RowKit Lw
section
variable {W0 w:World} {bs:List Bx} {L:List En} {ts:List Bt} {M:List Qn}
set_option maxRecDepth 100000 in
set_option maxHeartbeats 3200000 in
theorem bea (l:List UInt8) (HE:Uz W0 w bs L ts M) (hd:acz l) (hl:l.length≤1000) :
  Calls Tryz.prog 175 #[.string ⟨l.toArray⟩] w (ag6 W0 bs L ts M (aan l:Int) (6*l.length+1)):=by
 refine Calls.mono (R:=ag6 w [] L [] M (aan l:Int) (6*l.length+1)) ?_ fun _ _ hh=>ag6.of HE hh
 obtain ⟨S,hS⟩ : ∃ S:ByteArray,S=⟨l.toArray⟩:=⟨_,rfl⟩
 have hsz:S.size=l.length:=by rw [hS]; simp [ByteArray.size]
 have hat : ∀ k (h:k < S.size),(S[k]'h).toNat=(l[k]'(by omega)).toNat:=by intro k h; subst hS; rfl
 have HAT:=Lib.hid hat
 have HD:=Lib.hid hd
 clear hat hd
 rw [← hS]
 clear hS
 replace HE:=HE.here.abb (.bool false) (.slice none 0 0)
 obtain ⟨q0,q1,q2,q3⟩:=HE.c2 (.head _)
 go_enter Tryz.func175,Tryz.ntmps175
 go_wp2_with fail
 refine (a2o HE (by omega) (by omega)).mono ?_
 clear HE
 rintro e w1 ⟨s0,D0,m0,d0,rfl,HE⟩
 have HLA:=Lib.hid (HE.lt2 (.head _))
 replace HE:=(HE.abb (.bool false) (.slice none 0 0)).abb (.bool s0) (.slice D0 m0 d0)
 simp only [World.size_alloc] at HE
 clear q0 q1 q2 q3
 go_wp2_with fail
 go_loopw [10] (fun iv wr => ∃ (i:Nat) (s1:Bool) (D1:Option Addr) (m1 d1:Nat),i≤l.length∧iv = .int .i64 i∧Uz w wr [⟨w1.heap.size+1,.bool s0,.slice D0 m0 d0⟩,⟨w1.heap.size,.bool s1,.slice D1 m1 d1⟩,⟨w.heap.size,.bool false,.slice none 0 0⟩] (⟨.agg #[.bool s1,.slice D1 m1 d1],(aan (l.take i):Int),6*i+1,true⟩ :: ⟨.agg #[.bool s0,.slice D0 m0 d0],10,2,true⟩ :: L) [] M) (fun iv _=>l.length - (intOf iv).toNat)
 case atStart=>exact ⟨0,false,none,0,0,Nat.zero_le _,rfl,HE.push ⟨false,none,0,0,[],0,rfl,Rd.nil_ _ _ _,Nat.zero_le _,rfl,Nat.zero_le _,Nat.le_refl _,rfl,rfl⟩⟩
 case round =>
  clear HE
  obtain ⟨i,s1,D1,m1,d1,hi,rfl,HE⟩:=hrel
  by_cases hil:i < l.length
  ·have hks:i < S.size:=by omega
   obtain ⟨d,hdd⟩ : ∃ d,d=(l[i]'hil).toNat:=⟨_,rfl⟩
   have hsk:((S[i]'hks).toNat:Int)=(d:Int):=by rw [HAT.out i hks,hdd]
   have hdb:=HD.out _ (List.getElem_mem hil)
   rw [← hdd] at hdb
   obtain ⟨c,hc⟩ : ∃ c:Nat,d=c+48:=⟨d - 48,by omega⟩
   have HV:=Lib.hid (show (aan (l.take i):Int)*10+(c:Int)=(aan (l.take (i+1)):Int) by
    rw [List.take_succ_eq_append_getElem hil,a7x,← hdd]
    omega)
   subst hc
   have e1:IntKind.u8.wrap (((c+48:Nat):Int) - 48)=(c:Int):=by rw [IntKind.wrap_u8]; omega
   have e2:IntKind.i64.wrap (c:Int)=(c:Int):=w64 (by omega) (by omega)
   have e3:IntKind.u8.wrap (c:Int)=(c:Int):=by rw [IntKind.wrap_u8]; omega
   have HC:=Lib.hid (show (-9223372036854775808:Int)≤c∧(c:Int)≤9223372036854775807∧6*i+1≤7000 from ⟨by omega,by omega,by omega⟩)
   clear hdd hdb
   obtain ⟨q0,q1,q2,q3⟩:=HE.c2 (.tail _ (.head _))
   obtain ⟨q4,q5,q6,q7⟩:=HE.c2 (.head _)
   go_wp2_with fail
   go_region_with
    (first
     | (go_at_call 91; refine (a2n (by with_reducible first | exact HE | exact HE.drew) (.head _) (.tail _ (.head _)) (by have:=HC.out; omega)).mono ?_; rintro e wm ⟨sa,Da,ma,da,rfl,HE⟩)
     | (go_at_call 111; refine (a2o (z:=(c:Int)) (by with_reducible first | exact HE | exact HE.drew) HC.out.1 HC.out.2.1).mono ?_; rintro e wo ⟨sb,Db,mb,db,rfl,HE⟩)
     | (go_at_call 192; refine (bke (by with_reducible first | exact HE | exact HE.drew) (.tail _ (.head _)) (.head _) (by have:=HC.out; omega)).mono ?_; rw [HV.out]; rintro e wn ⟨sx,Ax,nx,cx,rfl,HE⟩; obtain ⟨z0,z1,z2,z3⟩:=HE.c2 (.tail _ (.head _))))
   all_goals
    clear q0 q1 q2 q3 q4 q5 q6 q7
    have hA:=HLA.out
    replace HE:=HE.anq (.tail _ (.head _)) [⟨w1.heap.size+1,.bool s0,.slice D0 m0 d0⟩,⟨w.heap.size,.bool false,.slice none 0 0⟩] (fun b hb=>by simp only [List.mem_cons,List.not_mem_nil,or_false] at hb; rcases hb with rfl | rfl <;> exact ⟨(by repeat (first | exact .head _ | refine .tail _ ?_)),by dsimp only; omega⟩) sx (.slice Ax nx cx)
    clear hA z0 z1 z2 z3
    go_wp2_with fail
    go_roundw
    case rel =>
     refine ⟨i+1,sx,Ax,nx,cx,by omega,by go_num,?_⟩
     have HF:=(HE.hdi (K:=6*(i+1)+1) (·.weak (by omega))).pick (L':=_ :: _ :: L) (fun e he=>by
      rcases List.mem_cons.1 he with rfl | he
      ·exact .head _
      ·rcases List.mem_cons.1 he with rfl | he
       ·exact .tail _ (.tail _ (.tail _ (.tail _ (.head _))))
       ·exact .tail _ (.tail _ (.tail _ (.tail _ (.tail _ he))))) (fun _ he=>he)
     exact (((HF.a8x).a8x).a8x.bare.a4j (HF.two (.tail _ (.tail _ (.head _)))) (HF.lo _ (.tail _ (.tail _ (.head _))))).a4j (HF.two (.head _)) (HF.lo _ (.head _)) |>.a4j (HF.two (.tail _ (.head _))) (HF.lo _ (.tail _ (.head _)))
    case measure=>simp [intOf]; omega
  ·obtain rfl:i=l.length:=by omega
   rw [List.take_length] at HE
   obtain ⟨q0,q1,q2,q3⟩:=HE.c2 (.tail _ (.head _))
   obtain ⟨q4,q5,q6,q7⟩:=HE.c2 (.tail _ (.tail _ (.head _)))
   go_wp2_with fail
   have HF:=HE.done2 (.tail _ (.tail _ (.head _))) s1 (.slice D1 m1 d1)
   refine bodyPost_ret (v := .agg #[.bool s1,.slice D1 m1 d1]) (by simp [results,Tryz.results175,go_sem,q4,q5]) rfl ?_
   exact ⟨_,_,_,_,rfl,HF.pick (fun _ he=>by rcases List.mem_cons.1 he with rfl | he; exact .head _; exact .tail _ (.tail _ he)) (fun _ he=>he)⟩
end
end Go.Proofs.YtbihljnjaondcaaGreatDoor
