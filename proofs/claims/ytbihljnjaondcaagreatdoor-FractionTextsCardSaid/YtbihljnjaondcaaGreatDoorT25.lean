/- Part of a proof, said shortly. -/
import Derived.Test.YtbihljnjaondcaaGreatDoorAlt
import Derived.Test.YtbihljnjaondcaaGreatDoorT24
import Derived.Test.YtbihljnjaondcaaGreatDoorT23
import Derived.Test.YtbihljnjaondcaaGreatDoorT22
import Derived.Test.YtbihljnjaondcaaGreatDoorT21
import Derived.Test.YtbihljnjaondcaaGreatDoorT20
import Derived.Test.YtbihljnjaondcaaGreatDoorT14
import Derived.Test.YtbihljnjaondcaaGreatDoorT4
import Derived.Test.YtbihljnjaondcaaGreatDoorT3
import Derived.Test.YtbihljnjaondcaaGreatDoorT2
import Derived.Test.YtbihljnjaondcaaGreatDoorT1
import Derived.Test.YtbihljnjaondcaaGreatDoorT13
import Derived.Test.YtbihljnjaondcaaGreatDoorT9
import Derived.Test.YtbihljnjaondcaaGreatDoorT8
import Derived.Test.YtbihljnjaondcaaGreatDoorT6
import Derived.Test.YtbihljnjaondcaaGreatDoorT5
import Derived.Test.YtbihljnjaondcaaGreatDoorT7
import Derived.Test.YtbihljnjaondcaaGreatDoorT19
import Derived.Test.YtbihljnjaondcaaGreatDoorT18
import Derived.Test.YtbihljnjaondcaaGreatDoorT16
import Derived.Test.YtbihljnjaondcaaGreatDoorT15
import Derived.Test.YtbihljnjaondcaaGreatDoorT17
import Derived.Test.YtbihljnjaondcaaGreatDoorT10
import Derived.Test.YtbihljnjaondcaaGreatDoorT11
import Derived.Test.YtbihljnjaondcaaGreatDoorT12
namespace Lw
def Sq (x:Int):Prop:=0≤x∧((rt x.natAbs:Nat):Int)*((rt x.natAbs:Nat):Int)=x
end Lw
namespace Go.Proofs.YtbihljnjaondcaaGreatDoor
open Go Go.RowKit Lw
section
variable {W0 w:World} {bs:List Bx} {L:List En} {ts:List Bt} {M:List Qn} {s s':Bool} {A A' B B':Option Addr} {n c n' c' m d m' d' k k':Nat} {q r:Rat} {x y:Int} {b b':Bool}
theorem bnZ (HE:Uz W0 w bs L ts M) (h:⟨.agg #[.bool s,.slice A n c],x,k,true⟩∈L) (hk:k≤30000) (hx:¬ Sq x) :
  Calls Tryz.prog 92 #[.agg #[.bool s,.slice A n c]] w (fun e w'=>e = .returned (.tuple #[.agg #[.bool false,.slice none 0 0],.bool false])∧Uz W0 w' bs L ts M):=by
 by_cases h0:x < 0
 ·exact bnX HE h hk h0
 ·exact bnY HE h hk (by omega) (fun e=>hx ⟨by omega,e⟩)
def noV:Value := .tuple #[.agg #[.bool false,.slice none 0 0,.slice none 0 0],.bool false]
set_option maxRecDepth 100000 in
set_option maxHeartbeats 2400000 in
theorem bi9 (HE:Uz W0 w bs L ts M) (h:⟨.agg #[.bool s,.slice A n c,.slice A' n' c'],q,k,b⟩∈M) (hk:k≤20000) (hn:¬ Sq q.num) :
  Calls Tryz.prog 16 #[.agg #[.bool s,.slice A n c,.slice A' n' c']] w (fun e w'=>e = .returned noV∧Uz W0 w' bs L ts M):=by
 refine Calls.mono (R:=fun e w'=>e = .returned noV∧Uz w w' [] L [] M) ?_ fun _ _ hh=>⟨hh.1,HE.back hh.2⟩
 have HN:=Lib.hid hn
 clear hn
 replace HE:=(HE.here.ae' (.bool s) (.slice A n c) (.slice A' n' c')).ae' (.bool false) (.slice none 0 0) (.slice none 0 0)
 simp only [World.size_alloc] at HE
 obtain ⟨q0,q1,q2,q3,q4,q5⟩:=HE.c3 (.head _)
 obtain ⟨q6,q7,q8,q9,q10,q11⟩:=HE.c3 (.tail _ (.head _))
 go_enter Tryz.func16,Tryz.ntmps16
 go_wp2_with fail
 refine (a3n HE h (by omega)).mono ?_
 clear HE
 rintro e w1 ⟨sx,Ax,nx,cx,Ay,ny,cy,rfl,HE⟩
 go_wp2_with fail
 refine (a2s HE (.head _)).mono ?_
 clear HE
 rintro e w2 ⟨s1,D1,m1,d1,s2,D2,m2,d2,rfl,HE⟩
 clear q0 q1 q2 q3 q4 q5 q6 q7 q8 q9 q10 q11
 replace HE:=(HE.abb (.bool s1) (.slice D1 m1 d1)).abb (.bool s2) (.slice D2 m2 d2)
 simp only [World.size_alloc] at HE
 obtain ⟨q12,q13,q14,q15⟩:=HE.c2 (.head _)
 obtain ⟨q16,q17,q18,q19⟩:=HE.c2 (.tail _ (.head _))
 obtain ⟨q20,q21,q22,q23,q24,q25⟩:=HE.c3 (.head _)
 obtain ⟨q26,q27,q28,q29,q30,q31⟩:=HE.c3 (.tail _ (.head _))
 go_wp2_with fail
 refine (bnZ HE (.head _) (by omega) HN.out).mono ?_
 clear HE
 rintro e w3 ⟨rfl,HE⟩
 replace HE:=HE.abb (.bool false) (.slice none 0 0)
 clear q12 q13 q14 q15 q16 q17 q18 q19 q20 q21 q22 q23 q24 q25 q26 q27 q28 q29 q30 q31
 obtain ⟨z0,z1,z2,z3,z4,z5⟩:=HE.c3 (.head _)
 go_wp2_with fail
 have HF:=(HE.as9 (D:=none) (m:=0) (d:=0) (.head _) false (.slice none 0 0)).bare
 refine bodyPost_ret (v:=noV) (by simp [noV,results,Tryz.results16,go_sem,z0,z1,z2]) rfl ?_
 exact ⟨rfl,HF.pick (fun _ he => .tail _ (.tail _ (he))) (fun _ he => .tail _ he)⟩
set_option maxRecDepth 100000 in
set_option maxHeartbeats 2400000 in
theorem bja (HE:Uz W0 w bs L ts M) (h:⟨.agg #[.bool s,.slice A n c,.slice A' n' c'],q,k,b⟩∈M) (hk:k≤20000) (hn:Sq q.num) (hd:Sq (q.den:Int)) (h1:r.num=((rt q.num.natAbs:Nat):Int)) (h2:(r.den:Int)=((rt (q.den:Int).natAbs:Nat):Int)) :
  Calls Tryz.prog 16 #[.agg #[.bool s,.slice A n c,.slice A' n' c']] w (fun e w' => ∃ (s:Bool) (A:Option Addr) (n c:Nat) (A':Option Addr) (n' c':Nat),e = .returned (.tuple #[.agg #[.bool s,.slice A n c,.slice A' n' c'],.bool true])∧Uz W0 w' bs L ts (⟨.agg #[.bool s,.slice A n c,.slice A' n' c'],r,k+2+(k+2),true⟩ :: M)):=by
 refine Calls.mono (R:=fun e w' => ∃ (s:Bool) (A:Option Addr) (n c:Nat) (A':Option Addr) (n' c':Nat),e = .returned (.tuple #[.agg #[.bool s,.slice A n c,.slice A' n' c'],.bool true])∧Uz w w' [] L [] (⟨.agg #[.bool s,.slice A n c,.slice A' n' c'],r,k+2+(k+2),true⟩ :: M)) ?_ fun _ _ ⟨s,A,n,c,A',n',c',e1,he⟩=>⟨s,A,n,c,A',n',c',e1,HE.back he⟩
 have HN:=Lib.hid hn
 have HD:=Lib.hid hd
 have HQ:=Lib.hid (show r.num=_∧(r.den:Int)=_ from ⟨h1,h2⟩)
 clear hn hd h1 h2
 replace HE:=(HE.here.ae' (.bool s) (.slice A n c) (.slice A' n' c')).ae' (.bool false) (.slice none 0 0) (.slice none 0 0)
 simp only [World.size_alloc] at HE
 obtain ⟨q0,q1,q2,q3,q4,q5⟩:=HE.c3 (.head _)
 obtain ⟨q6,q7,q8,q9,q10,q11⟩:=HE.c3 (.tail _ (.head _))
 go_enter Tryz.func16,Tryz.ntmps16
 go_wp2_with fail
 refine (a3n HE h (by omega)).mono ?_
 clear HE
 rintro e w1 ⟨sx,Ax,nx,cx,Ay,ny,cy,rfl,HE⟩
 go_wp2_with fail
 refine (a2s HE (.head _)).mono ?_
 clear HE
 rintro e w2 ⟨s1,D1,m1,d1,s2,D2,m2,d2,rfl,HE⟩
 clear q0 q1 q2 q3 q4 q5 q6 q7 q8 q9 q10 q11
 replace HE:=(HE.abb (.bool s1) (.slice D1 m1 d1)).abb (.bool s2) (.slice D2 m2 d2)
 simp only [World.size_alloc] at HE
 obtain ⟨q12,q13,q14,q15⟩:=HE.c2 (.head _)
 obtain ⟨q16,q17,q18,q19⟩:=HE.c2 (.tail _ (.head _))
 obtain ⟨q20,q21,q22,q23,q24,q25⟩:=HE.c3 (.head _)
 obtain ⟨q26,q27,q28,q29,q30,q31⟩:=HE.c3 (.tail _ (.head _))
 go_wp2_with fail
 refine (bfr HE (.head _) (by omega) HN.out.1 HN.out.2).mono ?_
 clear HE
 rintro e w3 ⟨s3,D3,m3,d3,rfl,HE⟩
 clear q12 q13 q14 q15 q16 q17 q18 q19 q20 q21 q22 q23 q24 q25 q26 q27 q28 q29 q30 q31
 replace HE:=HE.abb (.bool s3) (.slice D3 m3 d3)
 obtain ⟨q32,q33,q34,q35⟩:=HE.c2 (.head _)
 obtain ⟨q36,q37,q38,q39⟩:=HE.c2 (.tail _ (.head _))
 obtain ⟨q40,q41,q42,q43⟩:=HE.c2 (.tail _ (.tail _ (.head _)))
 obtain ⟨q44,q45,q46,q47,q48,q49⟩:=HE.c3 (.head _)
 obtain ⟨q50,q51,q52,q53,q54,q55⟩:=HE.c3 (.tail _ (.head _))
 go_wp2_with fail
 refine (bfr HE (.tail _ (.tail _ (.head _))) (by omega) HD.out.1 HD.out.2).mono ?_
 clear HE
 rintro e w4 ⟨s4,D4,m4,d4,rfl,HE⟩
 clear q32 q33 q34 q35 q36 q37 q38 q39 q40 q41 q42 q43 q44 q45 q46 q47 q48 q49 q50 q51 q52 q53 q54 q55
 replace HE:=HE.abb (.bool s4) (.slice D4 m4 d4)
 obtain ⟨q56,q57,q58,q59⟩:=HE.c2 (.head _)
 obtain ⟨q60,q61,q62,q63⟩:=HE.c2 (.tail _ (.head _))
 obtain ⟨q64,q65,q66,q67⟩:=HE.c2 (.tail _ (.tail _ (.head _)))
 obtain ⟨q68,q69,q70,q71⟩:=HE.c2 (.tail _ (.tail _ (.tail _ (.head _))))
 obtain ⟨q72,q73,q74,q75,q76,q77⟩:=HE.c3 (.head _)
 obtain ⟨q78,q79,q80,q81,q82,q83⟩:=HE.c3 (.tail _ (.head _))
 go_wp2_with fail
 refine (a7Q HE (.tail _ (.head _)) (.head _) HQ.out.1 HQ.out.2).mono ?_
 clear HE
 rintro e w5 ⟨sz,Az,nz,cz,Au,nu,cu,rfl,HE⟩
 clear q56 q57 q58 q59 q60 q61 q62 q63 q64 q65 q66 q67 q68 q69 q70 q71 q72 q73 q74 q75 q76 q77 q78 q79 q80 q81 q82 q83
 obtain ⟨z0,z1,z2,z3,z4,z5⟩:=HE.c3 (.head _)
 go_wp2_with fail
 have HF:=(HE.as9 (D:=Az) (m:=nz) (d:=cz) (.head _) sz (.slice Au nu cu)).bare
 refine bodyPost_ret (v := .tuple #[.agg #[.bool sz,.slice Az nz cz,.slice Au nu cu],.bool true]) (by simp [results,Tryz.results16,go_sem,z0,z1,z2]) rfl ?_
 exact ⟨_,_,_,_,_,_,_,rfl,HF.pick (fun _ he => .tail _ (.tail _ (.tail _ (.tail _ (he))))) (fun _ he=>by rcases List.mem_cons.1 he with rfl | he; exact .head _; exact .tail _ (.tail _ he))⟩
end
end Go.Proofs.YtbihljnjaondcaaGreatDoor
namespace Lw
open Go Go.RowKit
theorem bh5 {k j:Nat} (hj:j < 32):Uy (2 ^ (32*k+j))=(List.replicate (k+1) 0).set k (2 ^ j):=by
 have hp:2 ^ j < 4294967296:=by
  have:2 ^ j < 2 ^ 32:=Nat.pow_lt_pow_right (by omega) hj
  omega
 have e:(List.replicate (k+1) 0).set k (2 ^ j)=List.replicate k 0++[2 ^ j]:=by
  rw [List.replicate_succ',List.set_append_right _ _ (by simp)]
  simp
 rw [e]
 have hw:Wds (List.replicate k 0++[2 ^ j]):=a8F.2 ⟨az8 k,alb.2 ⟨hp,ak5⟩⟩
 have hv:val (List.replicate k 0++[2 ^ j])=2 ^ (32*k+j):=by
  rw [a8A,a8z,List.length_replicate,Nat.zero_add]
  unfold pw
  rw [show (4294967296:Nat)=2 ^ 32 from rfl,← Nat.pow_mul,← Nat.pow_add]
 rw [← hv]
 refine a7u hw ?_
 have:(List.replicate k 0++[2 ^ j]).length - 1=k:=by simp
 rw [this]
 unfold dg
 simp
end Lw
namespace Go.Proofs.YtbihljnjaondcaaGreatDoor
open Go Go.RowKit Lw
section
variable {W0 w:World} {bs:List Bx} {L:List En} {ts:List Bt} {M:List Qn} {s s':Bool} {A A' B B':Option Addr} {n c n' c' m d m' d' k k' j:Nat} {q r:Rat} {x y:Int} {b b':Bool}
set_option maxRecDepth 100000 in
set_option maxHeartbeats 2400000 in
theorem blS (HE:Uz W0 w bs L ts M) (hn:n=32*k+j) (hj:j < 32) (hk:k≤100) :
  Calls Tryz.prog 88 #[.int .i64 n] w (ag6 W0 bs L ts M ((2 ^ n:Nat):Int) (k+1)):=by
 refine Calls.mono (R:=ag6 w [] L [] M ((2 ^ n:Nat):Int) (k+1)) ?_ fun _ _ hh=>ag6.of HE hh
 have HD:=Lib.hid (bh5 (k:=k) hj)
 have HN:=Lib.hid hn
 have hp:2 ^ j < 4294967296:=by
  have:2 ^ j < 2 ^ 32:=Nat.pow_lt_pow_right (by omega) hj
  omega
 have h1:(n:Int) / 32=(k:Int):=by omega
 have h2:(n:Int).tdiv 32=(k:Int):=by rw [Int.tdiv_eq_ediv_of_nonneg (by omega)]; exact h1
 have h3:(n:Int) % 32=(j:Int):=by omega
 have h4:(n:Int).tmod 32=(j:Int):=by rw [Int.tmod_eq_emod_of_nonneg (by omega)]; exact h3
 have h5:IntKind.i64.wrap ((k:Int)+1)=((k+1:Nat):Int):=by rw [w64 (by omega) (by omega)]; omega
 have h6:IntKind.i64.wrap (k:Int)=(k:Int):=w64 (by omega) (by omega)
 have H0:=HE.here
 replace HE:=HE.here.abb (.bool false) (.slice none 0 0)
 obtain ⟨P,hP⟩ : ∃ P:Nat,P=2 ^ j:=⟨_,rfl⟩
 have h7:(2:Int) ^ j % 4294967296=(P:Int):=by
  rw [show (2:Int) ^ j=(P:Int) by rw [hP]; exact (Int.natCast_pow 2 j).symm]
  rw [← hP] at hp
  omega
 rw [← hP] at HD hp
 clear hP
 have hg:(IntKind.i64.wrap ((k:Int)+1))=(k:Int)+1:=by rw [h5]; omega
 clear hn
 go_enter Tryz.func88,Tryz.ntmps88
 go_wp2_with (at_make; refine aAN _ rfl _ _ _ rfl 99 bsw ami _ _ _ _ (k+1) rfl rfl (by omega) (by omega) (by omega) ?_; intro w1 hblk hbel hsz; have HB:=HE.next hbel; obtain ⟨z0,z1,z2,z3⟩:=HB.c2 (.head _); have hb1:=((Below.refl w.heap.size w).alloc (Nat.le_refl _) (.cells #[.bool false,.slice none 0 0] 39)).trans (hbel.mono (by simp)); clear hsz; simp only [World.size_alloc] at hblk; have x0:=hblk.cell (i:=k) (by simp); have x1:=hblk.frozen k)
 have HK:=hblk.a1c (i:=k) P (by simp)
 have T1:=(HB.two (.head _)).far (p:=⟨w.heap.size+1,k,none⟩) (by simp) (.int .u32 (P:Int))
 obtain ⟨y0,y1,y2,y3⟩:=(T1.put (.bool false) (.slice (some ⟨w.heap.size+1,0,none⟩) (k+1) (k+1))).facts
 refine bodyPost_ret (v := .agg #[.bool false,.slice (some ⟨w.heap.size+1,0,none⟩) (k+1) (k+1)]) (by simp [results,Tryz.results88,go_sem,y0,y1]) rfl ?_
 have hbF:=((hb1.setCell (p:=⟨w.heap.size+1,k,none⟩) (by simp) (.int .u32 (P:Int))).setCell (p:=⟨w.heap.size,0,none⟩) (by simp) (.bool false)).setCell (p:=⟨w.heap.size,1,none⟩) (by simp) (.slice (some ⟨w.heap.size+1,0,none⟩) (k+1) (k+1))
 have HK2:=(HK.far (p:=⟨w.heap.size,0,none⟩) (by simp) (.bool false)).far (p:=⟨w.heap.size,1,none⟩) (by simp) (.slice (some ⟨w.heap.size+1,0,none⟩) (k+1) (k+1))
 have hm:mg ((2 ^ n:Nat):Int)=(List.replicate (k+1) 0).set k P:=by unfold mg; rw [Int.natAbs_natCast,HN.out]; exact HD.out
 rw [← hm] at HK2
 have hl:(mg ((2 ^ n:Nat):Int)).length=k+1:=by rw [hm]; simp
 have hs:sg ((2 ^ n:Nat):Int)=false:=by unfold sg; exact decide_eq_false (Int.not_lt.2 (Int.natCast_nonneg _))
 have HF:=H0.next hbF
 exact ⟨_,_,_,_,rfl,HF.push ⟨false,_,_,_,mg ((2 ^ n:Nat):Int),_,rfl,HK2.rd (bkH _),Nat.le_refl _,hl,Nat.le_refl _,Nat.le_refl _,by rw [← hs]; exact a1k _,by rw [← hs]; exact a1f _⟩⟩
set_option maxRecDepth 100000 in
set_option maxHeartbeats 2400000 in
theorem biP (HE:Uz W0 w bs L ts M) (h:⟨.agg #[.bool s,.slice A n c,.slice A' n' c'],q,k,b⟩∈M) (hk:k≤8000) (hm:m≤256) :
  Calls Tryz.prog 15 #[.agg #[.bool s,.slice A n c,.slice A' n' c'],.int .i64 m] w (atw W0 bs L ts M (Rat.divInt (q.num*((2 ^ m:Nat):Int) / (q.den:Int)) ((2 ^ m:Nat):Int)) (2*k+60)):=by
 refine Calls.mono (R:=atw w [] L [] M (Rat.divInt (q.num*((2 ^ m:Nat):Int) / (q.den:Int)) ((2 ^ m:Nat):Int)) (2*k+60)) ?_ fun _ _ hh=>atw.of HE hh
 have HN:=Lib.hid (show m=32*(m / 32)+m % 32∧m % 32 < 32∧m / 32≤100 from ⟨by omega,by omega,by omega⟩)
 obtain ⟨U,hU⟩ : ∃ U:Int,U=((2 ^ m:Nat):Int):=⟨_,rfl⟩
 have hpos:0 < 2 ^ m:=Nat.pow_pos (by omega)
 rw [← hU]
 have HU:=Lib.hid hU.symm
 have HP:=Lib.hid (show 0 < U by rw [hU]; exact Int.natCast_pos.2 hpos)
 have hd1:decide ((m:Int) < 0)=false:=decide_eq_false (by omega)
 have hd2:decide ((256:Int) < (m:Int))=false:=decide_eq_false (by omega)
 have hd3:decide ((m:Int) > (256:Int))=false:=decide_eq_false (by omega)
 have hmk:m / 32≤8:=by omega
 clear hU hpos hm
 replace HE:=(HE.here.ae' (.bool s) (.slice A n c) (.slice A' n' c')).ae' (.bool false) (.slice none 0 0) (.slice none 0 0)
 simp only [World.size_alloc] at HE
 obtain ⟨q0,q1,q2,q3,q4,q5⟩:=HE.c3 (.head _)
 obtain ⟨q6,q7,q8,q9,q10,q11⟩:=HE.c3 (.tail _ (.head _))
 go_enter Tryz.func15,Tryz.ntmps15
 go_wp2_with fail
 refine (a3n HE h (by omega)).mono ?_
 clear HE
 rintro e w1 ⟨sx,Ax,nx,cx,Ay,ny,cy,rfl,HE⟩
 go_wp2_with fail
 refine (a2s HE (.head _)).mono ?_
 clear HE
 rintro e w2 ⟨s1,D1,m1,d1,s2,D2,m2,d2,rfl,HE⟩
 clear q0 q1 q2 q3 q4 q5 q6 q7 q8 q9 q10 q11
 replace HE:=(HE.abb (.bool s1) (.slice D1 m1 d1)).abb (.bool s2) (.slice D2 m2 d2)
 simp only [World.size_alloc] at HE
 obtain ⟨q12,q13,q14,q15⟩:=HE.c2 (.head _)
 obtain ⟨q16,q17,q18,q19⟩:=HE.c2 (.tail _ (.head _))
 obtain ⟨q20,q21,q22,q23,q24,q25⟩:=HE.c3 (.head _)
 obtain ⟨q26,q27,q28,q29,q30,q31⟩:=HE.c3 (.tail _ (.head _))
 go_wp2_with fail
 refine (blS HE HN.out.1 HN.out.2.1 HN.out.2.2).mono ?_
 rw [HU.out]
 clear HE
 rintro e w3 ⟨s3,D3,m3,d3,rfl,HE⟩
 clear q12 q13 q14 q15 q16 q17 q18 q19 q20 q21 q22 q23 q24 q25 q26 q27 q28 q29 q30 q31
 replace HE:=HE.abb (.bool s3) (.slice D3 m3 d3)
 obtain ⟨q32,q33,q34,q35⟩:=HE.c2 (.head _)
 obtain ⟨q36,q37,q38,q39⟩:=HE.c2 (.tail _ (.head _))
 obtain ⟨q40,q41,q42,q43⟩:=HE.c2 (.tail _ (.tail _ (.head _)))
 obtain ⟨q44,q45,q46,q47,q48,q49⟩:=HE.c3 (.head _)
 obtain ⟨q50,q51,q52,q53,q54,q55⟩:=HE.c3 (.tail _ (.head _))
 go_wp2_with fail
 go_region_held3 (fun w'=>w'.cell? ⟨w2.heap.size,0,none⟩=some (.bool s1)∧w'.cell? ⟨w2.heap.size,1,none⟩=some (.slice D1 m1 d1)∧w'.cell? ⟨w2.heap.size+1,0,none⟩=some (.bool s2)∧w'.cell? ⟨w2.heap.size+1,1,none⟩=some (.slice D2 m2 d2)∧w'.cell? ⟨w3.heap.size,0,none⟩=some (.bool s3)∧w'.cell? ⟨w3.heap.size,1,none⟩=some (.slice D3 m3 d3)) (with_reducible first | exact Uz.r3 HE | exact Uz.r3 HE.drew | exact Uz.r3 HK)
  (first
   | (go_at_call 91; refine (a2n (by with_reducible first | exact HE | exact HE.drew) (by repeat (first | exact .head _ | assumption | refine .tail _ ?_)) (by repeat (first | exact .head _ | assumption | refine .tail _ ?_)) (by omega)).mono ?_; rintro e wn ⟨sx,Ax,nx,cx,rfl,HE⟩)
   | (go_at_call 90; refine (a7z (by with_reducible first | exact HE | exact HE.drew) (by repeat (first | exact .head _ | assumption | refine .tail _ ?_)) (by repeat (first | exact .head _ | assumption | refine .tail _ ?_)) (by omega) (bch q)).mono ?_; rintro e wn ⟨sx,Ax,nx,cx,rfl,HE⟩)
   | (go_at_call 89; refine (baS (by with_reducible first | exact HE | exact HE.drew) (by repeat (first | exact .head _ | assumption | refine .tail _ ?_)) (by repeat (first | exact .head _ | assumption | refine .tail _ ?_)) (by omega) HP.out).mono ?_; rintro e wn ⟨sx,Ax,nx,cx,Ay,ny,cy,rfl,HE⟩; have HK:=HE.as9 (D:=Ax) (m:=nx) (d:=cx) (.head _) sx (.slice Ay ny cy); obtain ⟨z0,z1,z2,z3,z4,z5⟩:=HE.c3 (.head _)))
 go_wp2_with fail
 refine bodyPost_ret (v := .tuple #[.agg #[.bool sx,.slice Ax nx cx,.slice Ay ny cy],.nilIface]) (by simp [results,Tryz.results15,go_sem,z0,z1,z2]) rfl ?_
 exact ⟨_,_,_,_,_,_,_,rfl,(HK.bare.hd (K:=2*k+60) (·.weak (by omega))).pick (fun _ he => .tail _ (.tail _ (.tail _ (.tail _ (.tail _ (he)))))) (fun _ he=>by rcases List.mem_cons.1 he with rfl | he; exact .head _; exact .tail _ (.tail _ he))⟩
end
end Go.Proofs.YtbihljnjaondcaaGreatDoor
namespace Lw
open Go Go.RowKit
theorem Opd.a1w {w:World} {e:En} {g n c n' c' i:Nat} {s:Bool} {t:TypeId} {X X':Option Addr} (h:Opd w e) (h2:Tri w g t (.bool s) (.slice X n c) (.slice X' n' c')) (u:Value):Opd (w.setCell ⟨g,i,none⟩ u) e:=by
 obtain ⟨a,A,m,d,ns,B,e1,h3,h4,h5⟩:=h
 exact ⟨a,A,m,d,ns,B,e1,h3.a1w h2 u,by simpa using h4,h5⟩
theorem Fop.a1w {w:World} {e:Qn} {g n c n' c' i:Nat} {s:Bool} {t:TypeId} {X X':Option Addr} (h:Fop w e) (h2:Tri w g t (.bool s) (.slice X n c) (.slice X' n' c')) (u:Value):Fop (w.setCell ⟨g,i,none⟩ u) e:=by
 obtain ⟨a,A,m,d,A',m',d',ns,ms,e1,r1,r2,e2⟩:=h
 exact ⟨a,A,m,d,A',m',d',ns,ms,e1,(r1.a1w h2 u).more (by simp),(r2.a1w h2 u).more (by simp),e2⟩
end Lw
namespace Go.Proofs.YtbihljnjaondcaaGreatDoor
open Go Go.RowKit Lw
section
variable {W0 w:World} {bs:List Bx} {L:List En} {ts:List Bt} {M:List Qn} {s s':Bool} {A A' B B':Option Addr} {n c n' c' m d m' d' k k':Nat} {q r:Rat} {b b':Bool}
theorem Uz.set0 {g:Nat} {X X':Option Addr} (h:Uz W0 w bs L ts M) (hm:⟨g,.bool s,.slice X n c,.slice X' n' c'⟩∈ts) (ts':List Bt) (hs : ∀ b∈ts',b∈ts∧b.g≠g) (s':Bool) :
  Uz W0 (w.setCell ⟨g,0,none⟩ (.bool s')) bs L (⟨g,.bool s',.slice X n c,.slice X' n' c'⟩ :: ts') M :=
 have h2:=h.tri _ hm
 have hg:W0.heap.size≤g:=h.lot _ hm
 ⟨⟨fun e he=>(h.env.ops e he).a1w h2 _,fun b hb =>
  (h.env.box b hb).far (p:=⟨g,0,none⟩) (fun e=>h2.a2q (h.env.box b hb) e.symm) _,h.below.setCell hg _⟩,fun e he=>(h.fr e he).a1w h2 _,fun b hb=>by
  rcases List.mem_cons.1 hb with rfl | hb
  ·exact h2.set0 _
  ·exact (h.tri b (hs b hb).1).far (p:=⟨g,0,none⟩) (hs b hb).2 _,h.tz,h.tab,h.lo,fun b hb=>by
  rcases List.mem_cons.1 hb with rfl | hb
  ·exact hg
  ·exact h.lot b (hs b hb).1⟩
end
end Go.Proofs.YtbihljnjaondcaaGreatDoor
