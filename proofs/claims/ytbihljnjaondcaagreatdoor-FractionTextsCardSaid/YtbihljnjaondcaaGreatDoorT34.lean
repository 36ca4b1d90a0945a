/- Part of a proof, said shortly. -/
import Derived.Test.YtbihljnjaondcaaGreatDoorAlt
import Derived.Test.YtbihljnjaondcaaGreatDoorT29
import Derived.Test.YtbihljnjaondcaaGreatDoorT28
import Derived.Test.YtbihljnjaondcaaGreatDoorT26
import Derived.Test.YtbihljnjaondcaaGreatDoorT25
import Derived.Test.YtbihljnjaondcaaGreatDoorT24
import Derived.Test.YtbihljnjaondcaaGreatDoorT23
import Derived.Test.YtbihljnjaondcaaGreatDoorT22
import Derived.Test.YtbihljnjaondcaaGreatDoorT21
import Derived.Test.YtbihljnjaondcaaGreatDoorT20
import Derived.Test.YtbihljnjaondcaaGreatDoorT14
import Derived.Test.YtbihljnjaondcaaGreatDoorT4
import Derived.Test.YtbihljnjaondcaaGreatDoorT3
import Derived.Test.YtbihljnjaondcaaGreatDoorT2
import Derived.Test.YtbihljnjaondcaaGreatDoorT1
import Derived.Test.YtbihljnjaondcaaGreatDoorT13
import Derived.Test.YtbihljnjaondcaaGreatDoorT9
import Derived.Test.YtbihljnjaondcaaGreatDoorT8
import Derived.Test.YtbihljnjaondcaaGreatDoorT6
import Derived.Test.YtbihljnjaondcaaGreatDoorT5
import Derived.Test.YtbihljnjaondcaaGreatDoorT7
import Derived.Test.YtbihljnjaondcaaGreatDoorT19
import Derived.Test.YtbihljnjaondcaaGreatDoorT18
import Derived.Test.YtbihljnjaondcaaGreatDoorT16
import Derived.Test.YtbihljnjaondcaaGreatDoorT15
import Derived.Test.YtbihljnjaondcaaGreatDoorT17
import Derived.Test.YtbihljnjaondcaaGreatDoorT10
import Derived.Test.YtbihljnjaondcaaGreatDoorT11
import Derived.Test.YtbihljnjaondcaaGreatDoorT12
import Derived.Test.YtbihljnjaondcaaGreatDoorT27
namespace Lw
open Go Go.RowKit
theorem a18 {z:Int} {d:Nat} (h:z.natAbs=d) (hd:d < 10):Lib.itoa z=(if z < 0 then [45] else [])++[UInt8.ofNat (48+d)]:=by
 by_cases hz:z < 0
 ·rw [itoa_neg (by unfold sg; exact decide_eq_true hz),h,Lib.decDigits_one hd,if_pos hz]
 ·rw [anm (by unfold sg; exact decide_eq_false hz),h,Lib.decDigits_one hd,if_neg hz]
theorem a8e {q:Rat} {n:Int} {d:Nat} (hn:q.num=n) (hd:q.den=d) (h1:d≠1):aka q=Lib.itoa n++([47]++Lib.itoa (d:Int)):=by
 unfold aka; rw [if_neg (by omega),hn,hd]
theorem rt9:rt 9=3:=(rt_eq (N:=9) (r:=3) (by decide) (by decide)).symm
theorem rt4:rt 4=2:=(rt_eq (N:=4) (r:=2) (by decide) (by decide)).symm
theorem rt2:rt 2=1:=(rt_eq (N:=2) (r:=1) (by decide) (by decide)).symm
theorem sq9:Sq 9:=⟨by omega,by rw [show (9:Int).natAbs=9 from rfl,rt9]; rfl⟩
theorem sq4:Sq 4:=⟨by omega,by rw [show (4:Int).natAbs=4 from rfl,rt4]; rfl⟩
theorem blh:¬ Sq 2:=by
 rintro ⟨_,h⟩
 rw [show (2:Int).natAbs=2 from rfl,rt2] at h
 exact absurd h (by decide)
def qA:Rat:=Rat.divInt 6 (-4)
def qG:Rat:=Rat.divInt ((Rat.divInt 1 3).num*((2 ^ 3:Nat):Int) / ((Rat.divInt 1 3).den:Int)) ((2 ^ 3:Nat):Int)
def qR:Rat:=Rat.divInt 3 2
def qP:Rat:=if true then -Rat.divInt (aan ([48]++[50,53]):Int) ((10:Int) ^ [50,53].length) else Rat.divInt (aan ([48]++[50,53]):Int) ((10:Int) ^ [50,53].length)
theorem txA:aka qA=[45,51,47,50]:=by
 rw [a8e (q:=qA) (n := -3) (d:=2) (by decide +kernel) (by decide +kernel) (by decide),a18 (z := -3) (d:=3) rfl (by omega),a18 (z:=((2:Nat):Int)) (d:=2) rfl (by omega)]
 rfl
theorem txG:aka qG=[49,47,52]:=by
 rw [a8e (q:=qG) (n:=1) (d:=4) (by decide +kernel) (by decide +kernel) (by decide),a18 (z:=1) (d:=1) rfl (by omega),a18 (z:=((4:Nat):Int)) (d:=4) rfl (by omega)]
 rfl
theorem txR:aka qR=[51,47,50]:=by
 rw [a8e (q:=qR) (n:=3) (d:=2) (by decide +kernel) (by decide +kernel) (by decide),a18 (z:=3) (d:=3) rfl (by omega),a18 (z:=((2:Nat):Int)) (d:=2) rfl (by omega)]
 rfl
theorem txP:aka qP=[45,49,47,52]:=by
 rw [a8e (q:=qP) (n := -1) (d:=4) (by decide +kernel) (by decide +kernel) (by decide),a18 (z := -1) (d:=1) rfl (by omega),a18 (z:=((4:Nat):Int)) (d:=4) rfl (by omega)]
 rfl
theorem txF:Lib.itoa qA.floor=[45,50]:=by
 rw [show qA.floor = -2 by decide +kernel,a18 (z := -2) (d:=2) rfl (by omega)]
 rfl
end Lw
namespace Go.Proofs.YtbihljnjaondcaaGreatDoor
open Go Go.RowKit Lw
theorem Uz.start {w:World} (ht:Tz w) (hb:Tab w):Uz w w [] [] [] []:=⟨⟨fun _ h=>by simp at h,fun _ h=>by simp at h,Below.refl _ _⟩,fun _ h=>by simp at h,fun _ h=>by simp at h,ht,hb,fun _ h=>by simp at h,fun _ h=>by simp at h⟩
set_option maxRecDepth 100000 in
set_option maxHeartbeats 3200000 in
theorem biH (w:World) (ht:Tz w) (hb:Tab w) (hx:Mx w) :
  Calls Tryz.prog 13 #[] w fun e w'=>e = .returned (.bool true)∧Below w.heap.size w w':=by
 have HE:=Uz.start ht hb
 have HX:=Lib.hid hx
 clear ht hb hx
 go_enter Tryz.func13,Tryz.ntmps13
 go_wp2_with fail
 refine (bcB (x:=6) (y := -4) HE (by omega) (by omega) (by omega) (by omega) (by omega)).mono ?_
 rw [show Rat.divInt 6 (-4)=qA from rfl]
 clear HE
 rintro e w1 ⟨s1,A1,n1,c1,B1,m1,d1,rfl,HE⟩
 replace HE:=HE.ae' (.bool s1) (.slice A1 n1 c1) (.slice B1 m1 d1)
 go_wp2_with fail
 refine (bcB (x:=1) (y:=3) HE (by omega) (by omega) (by omega) (by omega) (by omega)).mono ?_
 clear HE
 rintro e w2 ⟨s2,A2,n2,c2,B2,m2,d2,rfl,HE⟩
 replace HE:=HE.ae' (.bool s2) (.slice A2 n2 c2) (.slice B2 m2 d2)
 obtain ⟨q0,q1,q2,q3,q4,q5⟩:=HE.c3 (.head _)
 go_wp2_with fail
 refine (biP (m:=3) HE (.head _) (by omega) (by omega)).mono ?_
 rw [show Rat.divInt ((Rat.divInt 1 3).num*((2 ^ 3:Nat):Int) / ((Rat.divInt 1 3).den:Int)) ((2 ^ 3:Nat):Int)=qG from rfl]
 clear HE
 rintro e w3 ⟨s3,A3,n3,c3,B3,m3,d3,rfl,HE⟩
 clear q0 q1 q2 q3 q4 q5
 replace HE:=HE.ae' (.bool s3) (.slice A3 n3 c3) (.slice B3 m3 d3)
 obtain ⟨q0,q1,q2,q3,q4,q5⟩:=HE.c3 (.tail _ (.tail _ (.head _)))
 go_wp2_with fail
 refine (biW HE (.tail _ (.tail _ (.head _))) (.tail _ (.tail _ (.head _))) (by omega)).mono ?_
 clear HE
 rintro e w4 ⟨s4,A4,n4,c4,B4,m4,d4,rfl,HE⟩
 clear q0 q1 q2 q3 q4 q5
 go_wp2_with fail
 refine (bja (r:=qR) HE (.head _) (by omega) (by rw [show (qA*qA).num=9 by decide +kernel]; exact sq9) (by rw [show (((qA*qA).den:Nat):Int)=4 by decide +kernel]; exact sq4) (by rw [show (qA*qA).num=9 by decide +kernel,show (9:Int).natAbs=9 from rfl,rt9]; decide +kernel) (by rw [show (((qA*qA).den:Nat):Int)=4 by decide +kernel,show (4:Int).natAbs=4 from rfl,rt4]; decide +kernel)).mono ?_
 clear HE
 rintro e w5 ⟨s5,A5,n5,c5,B5,m5,d5,rfl,HE⟩
 replace HE:=HE.ae' (.bool s5) (.slice A5 n5 c5) (.slice B5 m5 d5)
 go_wp2_with fail
 refine (biY (x:=2) HE (by omega) (by omega)).mono ?_
 clear HE
 rintro e w6 ⟨s6,A6,n6,c6,B6,m6,d6,rfl,HE⟩
 go_wp2_with fail
 refine (bi9 HE (.head _) (by omega) blh).mono ?_
 clear HE
 unfold noV
 rintro e w7 ⟨rfl,HE⟩
 replace HE:=HE.ae' (.bool false) (.slice none 0 0) (.slice none 0 0)
 go_wp2_with fail
 refine (blw [45,48,46,50,53] [48,46,50,53] [48] [50,53] true HE (HX.out.next HE.below) (by decide) (by decide) (by decide) (by decide) (by decide) (by decide) (by intro c hc; simp at hc; subst hc; decide) (by intro c hc; simp at hc; rcases hc with rfl | rfl <;> decide) (by decide) (by decide) (by decide) rfl).mono ?_
 clear HE
 rintro e w8 ⟨s8,A8,n8,c8,B8,m8,d8,rfl,HE⟩
 replace HE:=HE.ae' (.bool s8) (.slice A8 n8 c8) (.slice B8 m8 d8)
 obtain ⟨q0,q1,q2,q3,q4,q5⟩:=HE.c3 (.tail _ (.tail _ (.tail _ (.tail _ (.tail _ (.head _))))))
 go_wp2_with fail
 refine (a6i (q:=qA) HE (.tail _ (.tail _ (.tail _ (.tail _ (.tail _ (.tail _ (.head _))))))) (by omega)).mono ?_
 rw [txA]
 clear HE
 rintro e w9 ⟨rfl,HE⟩
 clear q0 q1 q2 q3 q4 q5
 obtain ⟨q0,q1,q2,q3,q4,q5⟩:=HE.c3 (.tail _ (.tail _ (.tail _ (.tail _ (.tail _ (.head _))))))
 go_wp2_with fail
 refine (biO (q:=qA) HE (.tail _ (.tail _ (.tail _ (.tail _ (.tail _ (.tail _ (.head _))))))) (by omega)).mono ?_
 clear HE
 rintro e w10 ⟨s10,A10,n10,c10,rfl,HE⟩
 go_wp2_with fail
 refine (bag HE (.head _) (by omega)).mono ?_
 rw [txF]
 clear HE
 rintro e w11 ⟨rfl,HE⟩
 clear q0 q1 q2 q3 q4 q5
 obtain ⟨q0,q1,q2,q3,q4,q5⟩:=HE.c3 (.tail _ (.tail _ (.tail _ (.head _))))
 go_wp2_with fail
 refine (a6i (q:=qG) HE (.tail _ (.tail _ (.tail _ (.tail _ (.head _))))) (by omega)).mono ?_
 rw [txG]
 clear HE
 rintro e w12 ⟨rfl,HE⟩
 clear q0 q1 q2 q3 q4 q5
 obtain ⟨q0,q1,q2,q3,q4,q5⟩:=HE.c3 (.tail _ (.tail _ (.head _)))
 go_wp2_with fail
 refine (a6i (q:=qR) HE (.tail _ (.tail _ (.head _))) (by omega)).mono ?_
 rw [txR]
 clear HE
 rintro e w13 ⟨rfl,HE⟩
 clear q0 q1 q2 q3 q4 q5
 obtain ⟨q0,q1,q2,q3,q4,q5⟩:=HE.c3 (.head _)
 go_wp2_with fail
 refine (a6i (q:=qP) HE (.head _) (by omega)).mono ?_
 rw [txP]
 clear HE
 rintro e w14 ⟨rfl,HE⟩
 go_wp2_with fail
 go_ret
 exact ⟨rfl,HE.below⟩
end Go.Proofs.YtbihljnjaondcaaGreatDoor
namespace Lw
open Go Go.RowKit
structure Fh where
 s:Bool
 A:Option Addr
 n:Nat
 c:Nat
 A':Option Addr
 n':Nat
 c':Nat
def Fh.cells (a:Fh):List Value:=[.bool a.s,.slice a.A a.n a.c,.slice a.A' a.n' a.c']
def fhs (l:List Fh):List Value:=(l.map Fh.cells).flatten
theorem a9C (l:List Fh) (i:Nat) (h:i < l.length):(fhs l)[i*3]? = some (.bool l[i].s)∧(fhs l)[i*3+1]? = some (.slice l[i].A l[i].n l[i].c)∧(fhs l)[i*3+2]? = some (.slice l[i].A' l[i].n' l[i].c'):=by
 induction l generalizing i with
 | nil=>simp at h
 | cons a l ih =>
  have e:fhs (a :: l) = .bool a.s :: .slice a.A a.n a.c :: .slice a.A' a.n' a.c' :: fhs l:=rfl
  rw [e]
  cases i with
  | zero=>exact ⟨rfl,rfl,rfl⟩
  | succ i =>
   have:=ih i (by simpa using h)
   rw [show (i+1)*3=i*3+1+1+1 by omega,show i*3+1+1+1+1=(i*3+1)+1+1+1 by omega,show i*3+1+1+1+2=(i*3+2)+1+1+1 by omega]
   simpa using this
def aNp (l:List Fh):Bool:=l.all fun a=>decide (a.n≤12∧a.n'≤12)
theorem biM {l:List Fh} (h : ∀ j,(hj:j < l.length)→l[j].n≤12∧l[j].n'≤12):aNp l=true:=by
 unfold aNp
 rw [List.all_eq_true]
 intro a ha
 obtain ⟨j,hj,rfl⟩:=List.getElem_of_mem ha
 exact decide_eq_true (h j hj)
theorem biL {l:List Fh} {j:Nat} (hj:j < l.length) (h:¬ (l[j].n≤12∧l[j].n'≤12)):aNp l=false:=by
 unfold aNp
 rw [Bool.eq_false_iff]
 intro ha
 rw [List.all_eq_true] at ha
 exact h (of_decide_eq_true (ha _ (List.getElem_mem hj)))
end Lw
namespace Go.Proofs.YtbihljnjaondcaaGreatDoor
open Go Go.RowKit Lw
set_option maxRecDepth 100000 in
set_option maxHeartbeats 1600000 in
theorem bje (L:List Fh) (g k:Nat) (t:TypeId) (w:World) (hg:w.heap[g]? = some (.cells (fhs L).toArray t (0,0))) (hk:L.length=k) (hs:k≤16) :
  Calls Tryz.prog 12 #[.slice (some ⟨g,0,none⟩) k k] w fun e w'=>e = .returned (.bool (aNp L))∧Below w.heap.size w w':=by
 have Hg:=Lib.hid hg
 have Hk:=Lib.hid hk
 have hlt:g < w.heap.size:=by
  rcases Nat.lt_or_ge g w.heap.size with hlt | hge
  ·exact hlt
  ·rw [Array.getElem?_eq_none hge] at hg; cases hg
 clear hg hk
 go_enter Tryz.func12,Tryz.ntmps12
 go_wp2_with fail
 go_loopw [7] (fun iv wr => ∃ i:Nat,i≤k∧iv = .int .i64 i∧Hid (∀ j,(h:j < L.length)→j < i→L[j].n≤12∧L[j].n'≤12)∧Below w.heap.size w wr) (fun iv _=>k - (intOf iv).toNat)
 case atStart=>exact ⟨0,by omega,rfl,Lib.hid (fun j h h0=>absurd h0 (by omega)),Below.refl _ _⟩
 case round =>
  obtain ⟨i,hi,rfl,hall,hb⟩:=hrel
  by_cases h:i < k
  ·have hL:i < L.length:=by rw [Hk.out]; exact h
   have hgw:wr.heap[g]? = some (.cells (fhs L).toArray t (0,0)):=(hb.block g hlt).trans Hg.out
   have hc0:wr.cell? ⟨g,i*3,none⟩=some (.bool L[i].s):=by rw [cell_of_row wr g _ _ t (0,0) hgw,List.getElem?_toArray]; exact (a9C L i hL).1
   have hc1:wr.cell? ⟨g,i*3+1,none⟩=some (.slice L[i].A L[i].n L[i].c):=by rw [cell_of_row wr g _ _ t (0,0) hgw,List.getElem?_toArray]; exact (a9C L i hL).2.1
   have hc2:wr.cell? ⟨g,i*3+2,none⟩=some (.slice L[i].A' L[i].n' L[i].c'):=by rw [cell_of_row wr g _ _ t (0,0) hgw,List.getElem?_toArray]; exact (a9C L i hL).2.2
   have HN:Hid (L[i].n≤12∧L[i].n'≤12 → ∀ j,(h:j < L.length)→j < i+1→L[j].n≤12∧L[j].n'≤12):=Lib.hid (fun hi j hj hji=>by
    rcases Nat.lt_or_ge j i with h1 | h1
    ·exact hall.out j hj h1
    ·obtain rfl:j=i:=by omega
     exact hi)
   have HF:Hid (¬ (L[i].n≤12∧L[i].n'≤12)→aNp L=false):=Lib.hid (fun h=>biL hL h)
   generalize L[i]=a at *
   clear hgw hL hall
   obtain ⟨s,A,n,c,A',n',c'⟩:=a
   have hbb:=hb.alloc hb.size (.cells #[.bool s,.slice A n c,.slice A' n' c'] 24)
   by_cases hn:n≤12
   ·by_cases hn':n'≤12
    ·have HR:=Lib.hid (HN.out ⟨hn,hn'⟩)
     clear HN HF
     go_wp2_with fail
     go_roundw
     case rel=>exact ⟨i+1,by omega,by simp,HR,hbb⟩
     case measure=>simp [intOf]; omega
    ·have HR:=Lib.hid (HF.out (fun e=>hn' e.2))
     clear HN HF
     go_wp2_with fail
     go_ret
     exact ⟨alj HR.out.symm,hbb⟩
   ·have HR:=Lib.hid (HF.out (fun e=>hn e.1))
    clear HN HF
    go_wp2_with fail
    go_ret
    exact ⟨alj HR.out.symm,hbb⟩
  ·have HR:Hid (aNp L=true):=Lib.hid (biM fun j hj=>hall.out j hj (by have:=Hk.out; omega))
   clear hall
   go_wp2_with fail
   go_ret
   exact ⟨alj HR.out.symm,hb⟩
end Go.Proofs.YtbihljnjaondcaaGreatDoor
namespace Lw
theorem bks {a b:List Nat} (hl:a.length=b.length) (h : ∀ j,j < a.length→dg a j=dg b j):a=b:=by
 refine List.ext_getElem hl fun j h1 h2 => ?_
 rw [← a1p h1,← a1p h2]
 exact h j h1
theorem fields_eq {q r:Rat} : q=r↔rs q=rs r∧rn q=rn r∧rd q=rd r:=by
 constructor
 ·rintro rfl; exact ⟨rfl,rfl,rfl⟩
 ·rintro ⟨h1,h2,h3⟩
  rw [← a4X q,← a4X r,h1,h2,h3]
end Lw
namespace Go.Proofs.YtbihljnjaondcaaGreatDoor
open Go Go.RowKit Lw
set_option maxRecDepth 100000 in
set_option maxHeartbeats 1600000 in
theorem bfS (A A':Option Addr) (ns ms:List Nat) (n m c c' B B':Nat) (w:World) (h:Rd w B A ns) (h':Rd w B' A' ms) (hn:ns.length=n) (hm:ms.length=m) (hl:n≤4294967296) (hl':m≤4294967296) :
  Calls Tryz.prog 169 #[.slice A n c,.slice A' m c'] w fun e w'=>e = .returned (.bool (decide (ns=ms))) ∧ ∃ q,w'=w.drewN q:=by
 have Hn:=Lib.hid hn
 have Hm:=Lib.hid hm
 clear hn hm
 by_cases hnm:n=m
 ·subst hnm
  have hb0:((n:Int) != (n:Int))=false:=by simp
  go_enter Tryz.func169,Tryz.ntmps169
  go_wp2_with fail
  go_loopw [5] (fun i wr => ∃ (k q:Nat),k≤n∧i = .int .i64 k∧wr=w.drewN q∧Hid (∀ j,j < k→dg ns j=dg ms j)) (fun i _=>n - (intOf i).toNat)
  case atStart=>exact ⟨0,0,Nat.zero_le _,rfl,rfl,Lib.hid (fun j hj=>absurd hj (by omega))⟩
  case round =>
   obtain ⟨k,q,hk,rfl,rfl,hall⟩:=hrel
   by_cases hkn:k < n
   ·obtain ⟨b,off,rfl,hbb,hcell,hlt⟩:=h.at_ (k:=k) (by rw [Hn.out]; omega)
    obtain ⟨b',off',rfl,bpR,hcell',hlt'⟩:=h'.at_ (k:=k) (by rw [Hm.out]; omega)
    by_cases he:dg ns k=dg ms k
    ·have hbq:((dg ns k:Int) != (dg ms k:Int))=false:=by simp [he]
     have HA2:=Lib.hid (fun j (hj:j < k+1)=>show dg ns j=dg ms j by
      rcases Nat.lt_or_ge j k with h1 | h1
      ·exact hall.out j h1
      ·obtain rfl:j=k:=by omega
       exact he)
     clear he
     go_wp2
     go_quiet (fail)
     go_wp2
     go_roundw
     case rel=>exact ⟨k+1,q+nq,by omega,by go_num,rfl,HA2⟩
     case measure=>simp [intOf]; omega
    ·have hbq:((dg ns k:Int) != (dg ms k:Int))=true:=by rw [bne_iff_ne]; omega
     have HF:=Lib.hid (show decide (ns=ms)=false from decide_eq_false (fun e=>he (by rw [e])))
     clear he
     go_wp2
     go_quiet (fail)
     go_wp2
     go_ret
     exact ⟨alj HF.out.symm,q+nq,by first | rfl | (rw [World.drewN_drewN])⟩
   ·obtain rfl:k=n:=by omega
    have HF:=Lib.hid (show decide (ns=ms)=true from decide_eq_true (bks (Hn.out.trans Hm.out.symm) (fun j hj=>hall.out j (by rw [← Hn.out]; exact hj))))
    go_wp2
    go_ret
    exact ⟨alj HF.out.symm,_,rfl⟩
 ·have hb0:((n:Int) != (m:Int))=true:=by rw [bne_iff_ne]; omega
  have HF:=Lib.hid (show decide (ns=ms)=false from decide_eq_false (fun e=>hnm (by rw [← Hn.out,← Hm.out,e])))
  clear hnm
  go_enter Tryz.func169,Tryz.ntmps169
  go_wp2_with fail
  go_ret
  exact ⟨alj HF.out.symm,0,rfl⟩
section
variable {W0 w:World} {bs:List Bx} {L:List En} {ts:List Bt} {M:List Qn} {s s':Bool} {A A' B B':Option Addr} {n c n' c' m d m' d' k k':Nat} {q r:Rat}
set_option maxRecDepth 100000 in
set_option maxHeartbeats 1600000 in
theorem bho (HE:Uz W0 w bs L ts M) (h:⟨.agg #[.bool s,.slice A n c,.slice A' n' c'],q,k,true⟩∈M) (h':⟨.agg #[.bool s',.slice B m d,.slice B' m' d'],r,k',true⟩∈M) (hk:k+k'≤100000) :
  Calls Tryz.prog 104 #[.agg #[.bool s,.slice A n c,.slice A' n' c'],.agg #[.bool s',.slice B m d,.slice B' m' d']] w fun e w'=>e = .returned (.bool (decide (q=r)))∧Uz W0 w' bs L ts M:=by
 refine Calls.mono (R:=fun e w'=>e = .returned (.bool (decide (q=r)))∧Uz w w' [] L [] M) ?_ fun _ _ hh=>⟨hh.1,HE.back hh.2⟩
 replace HE:=(HE.here.ae' (.bool s) (.slice A n c) (.slice A' n' c')).ae' (.bool s') (.slice B m d) (.slice B' m' d')
 simp only [World.size_alloc] at HE
 obtain ⟨g1,g2,g3,r1,r2,l1,l2,-⟩:=(HE.fr _ h).own
 obtain ⟨f1,f2,f3,r3,r4,l3,l4,-⟩:=(HE.fr _ h').own
 have C1:=Lib.hid (bfS A B (rn q) (rn r) n m c d _ _ _ r1 r3 g2.symm f2.symm (by omega) (by omega))
 have C2:=Lib.hid (fun W (hb:Below _ _ W)=>bfS A' B' (rd q) (rd r) n' m' c' d' _ _ W (r2.next hb (Nat.le_refl _)) (r4.next hb (Nat.le_refl _)) g3.symm f3.symm (by omega) (by omega))
 obtain ⟨q0,q1,q2,q3,q4,q5⟩:=HE.c3 (.tail _ (.head _))
 obtain ⟨q6,q7,q8,q9,q10,q11⟩:=HE.c3 (.head _)
 by_cases hs:s=s'
 ·have hb0:(s==s')=true:=by rw [hs]; simp
  by_cases hn:rn q=rn r
  ·have H1:=Lib.hid (decide_eq_true hn)
   have H2:=Lib.hid (show decide (rd q=rd r)=decide (q=r) by
    rw [decide_eq_decide,fields_eq]
    exact ⟨fun e=>⟨by rw [← g1,← f1,hs],hn,e⟩,fun e=>e.2.2⟩)
   clear hs hn g1 g2 g3 f1 f2 f3 r1 r2 r3 r4 l1 l2 l3 l4
   go_enter Tryz.func104,Tryz.ntmps104
   go_wp2_with fail
   refine C1.out.mono ?_
   rw [H1.out]
   rintro e w1 ⟨rfl,p,rfl⟩
   go_wp2_with fail
   refine (C2.out _ (below_drewN' _ _ p)).mono ?_
   rw [H2.out]
   rintro e w2 ⟨rfl,p2,rfl⟩
   go_wp2_with fail
   go_ret
   first | exact ⟨rfl,(HE.next (below_drewN' _ _ (p+p2))).bare⟩ | exact ⟨rfl,((HE.next (below_drewN' _ _ p)).next (below_drewN' _ _ p2)).bare⟩
  ·have H1:=Lib.hid (decide_eq_false hn)
   have HF:=Lib.hid (show decide (q=r)=false from decide_eq_false (fun e=>hn (by rw [e])))
   clear hs hn g1 g2 g3 f1 f2 f3 r1 r2 r3 r4 l1 l2 l3 l4
   go_enter Tryz.func104,Tryz.ntmps104
   go_wp2_with fail
   refine C1.out.mono ?_
   rw [H1.out]
   rintro e w1 ⟨rfl,p,rfl⟩
   go_wp2_with fail
   go_ret
   exact ⟨alj HF.out.symm,(HE.next (below_drewN' _ _ p)).bare⟩
 ·have hb0:(s==s')=false:=by simpa using hs
  have HF:=Lib.hid (show decide (q=r)=false from decide_eq_false (fun e=>hs (by rw [g1,f1,e])))
  clear hs g1 g2 g3 f1 f2 f3 r1 r2 r3 r4 l1 l2 l3 l4
  go_enter Tryz.func104,Tryz.ntmps104
  go_wp2_with fail
  go_ret
  exact ⟨alj HF.out.symm,HE.bare⟩
set_option maxRecDepth 100000 in
set_option maxHeartbeats 1600000 in
theorem bjb (HE:Uz W0 w bs L ts M) (h:⟨.agg #[.bool s,.slice A n c,.slice A' n' c'],q,k,true⟩∈M) (h':⟨.agg #[.bool s',.slice B m d,.slice B' m' d'],r,k',true⟩∈M) (hk:k+k'≤100000) :
  Calls Tryz.prog 21 #[.agg #[.bool s,.slice A n c,.slice A' n' c'],.agg #[.bool s',.slice B m d,.slice B' m' d']] w fun e w'=>e = .returned (.bool (decide (q=r)))∧Uz W0 w' bs L ts M:=by
 refine Calls.mono (R:=fun e w'=>e = .returned (.bool (decide (q=r)))∧Uz w w' [] L [] M) ?_ fun _ _ hh=>⟨hh.1,HE.back hh.2⟩
 replace HE:=(HE.here.ae' (.bool s) (.slice A n c) (.slice A' n' c')).ae' (.bool s') (.slice B m d) (.slice B' m' d')
 simp only [World.size_alloc] at HE
 obtain ⟨q0,q1,q2,q3,q4,q5⟩:=HE.c3 (.tail _ (.head _))
 obtain ⟨q6,q7,q8,q9,q10,q11⟩:=HE.c3 (.head _)
 obtain ⟨e,he⟩ : ∃ e,e=decide (q=r):=⟨_,rfl⟩
 have HD:=Lib.hid he
 rw [← he]
 clear he
 go_enter Tryz.func21,Tryz.ntmps21
 go_wp2_with fail
 refine (bho HE h h' hk).mono ?_
 rw [← HD.out]
 rintro e w1 ⟨rfl,HE⟩
 go_wp2_with fail
 go_ret
 exact ⟨rfl,HE.bare⟩
end
end Go.Proofs.YtbihljnjaondcaaGreatDoor
namespace Lw
open Go Go.RowKit
theorem Fop.shape {w:World} {e:Qn} (h:Fop w e) : ∃ (s:Bool) (A:Option Addr) (n c:Nat) (A':Option Addr) (n' c':Nat),e.v = .agg #[.bool s,.slice A n c,.slice A' n' c']:=by
 obtain ⟨s,A,n,c,A',n',c',_,_,h1,_⟩:=h
 exact ⟨s,A,n,c,A',n',c',h1⟩
theorem Fop.cut {w:World} {s b:Bool} {A A':Option Addr} {n c n' c' k K:Nat} {q:Rat} (h:Fop w ⟨.agg #[.bool s,.slice A n c,.slice A' n' c'],q,k,b⟩) (hn:n≤K) (hn':n'≤K) :
  Fop w ⟨.agg #[.bool s,.slice A n c,.slice A' n' c'],q,K,b⟩:=by
 obtain ⟨s',A1,n1,c1,A2,n2,c2,ns,ms,h1,h2,h3,h4,h5,h6,h7,h8⟩:=h
 dsimp only at h1
 injection h1 with h1
 injection h1 with h1
 simp only [List.cons.injEq,Value.bool.injEq,Value.slice.injEq,and_true] at h1
 obtain ⟨rfl,⟨rfl,rfl,rfl⟩,rfl,rfl,rfl⟩:=h1
 exact ⟨s,A,n,c,A',n',c',ns,ms,rfl,h2,h3,h4,h5,hn,hn',h8⟩
theorem biK {a:Fh} {l:List Fh} (h:aNp (a :: l)=true):(a.n≤12∧a.n'≤12)∧aNp l=true:=by
 unfold aNp at h ⊢
 rw [List.all_cons,Bool.and_eq_true] at h
 exact ⟨of_decide_eq_true h.1,h.2⟩
end Lw
namespace Go.Proofs.YtbihljnjaondcaaGreatDoor
open Go Go.RowKit Lw
section
variable {W0 w:World} {bs:List Bx} {L:List En} {ts:List Bt} {M:List Qn} {v v':Value} {q r:Rat} {k k':Nat} {b b':Bool}
def bbz (W0:World) (bs:List Bx) (L:List En) (ts:List Bt) (M:List Qn) (q:Rat) (k:Nat) (e:Ending) (w':World):Prop :=
 ∃ u,e = .returned u∧Uz W0 w' bs L ts (⟨u,q,k,true⟩ :: M)
theorem bbz.of {e:Ending} (hh:akn W0 bs L ts M q k e w):bbz W0 bs L ts M q k e w:=by
 obtain ⟨s,A,n,c,A',n',c',rfl,he⟩:=hh
 exact ⟨_,rfl,he⟩
theorem bjd (HE:Uz W0 w bs L ts M) (h:⟨v,q,k,true⟩∈M) (h':⟨v',r,k',true⟩∈M) (hk:k+k'≤100000) :
  Calls Tryz.prog 21 #[v,v'] w fun e w'=>e = .returned (.bool (decide (q=r)))∧Uz W0 w' bs L ts M:=by
 obtain ⟨s,A,n,c,A',n',c',e1⟩:=(HE.fr _ h).shape
 obtain ⟨t,B,m,d,B',m',d',e2⟩:=(HE.fr _ h').shape
 dsimp only at e1 e2
 subst e1 e2
 exact bjb HE h h' hk
theorem bjc (HE:Uz W0 w bs L ts M) (h:⟨v,q,k,true⟩∈M) (h':⟨v',r,k',true⟩∈M) (hk:k+k'≤100000) (e:q=r) :
  Calls Tryz.prog 21 #[v,v'] w fun e w'=>e = .returned (.bool true)∧Uz W0 w' bs L ts M:=by
 have:=bjd HE h h' hk
 rwa [decide_eq_true e] at this
theorem bji (HE:Uz W0 w bs L ts M) (h:⟨v,q,k,b⟩∈M) (hk:k≤100000) :
  Calls Tryz.prog 113 #[v] w fun e w'=>e = .returned (.bool b)∧Uz W0 w' bs L ts M:=by
 obtain ⟨s,A,n,c,A',n',c',ns,ms,e1,r1,r2,e2,e3,e4,e5,e6,e7,e8,e9⟩:=HE.fr _ h
 dsimp only at e1 e4 e5 e9
 subst e1 e9
 exact (bcL s A A' ns ms n n' c c' _ _ w r1 r2 (Nat.le_refl _) (Nat.le_refl _) e2 e3 (by omega) (by omega) e6 e7 (HE.tz.next HE.below)).mono fun e w' hh=>⟨hh.1,HE.next hh.2⟩
theorem Uz.c9 {g1 g2 g3:Nat} {x1 y1 z1 x2 y2 z2 x3 y3 z3:Value} (h:Uz W0 w bs L ts M) (h1:⟨g1,x1,y1,z1⟩∈ts) (h2:⟨g2,x2,y2,z2⟩∈ts) (h3:⟨g3,x3,y3,z3⟩∈ts) :
  w.cell? ⟨g1,0,none⟩=some x1∧w.cell? ⟨g1,1,none⟩=some y1∧w.cell? ⟨g1,2,none⟩=some z1∧w.cell? ⟨g2,0,none⟩=some x2∧w.cell? ⟨g2,1,none⟩=some y2∧w.cell? ⟨g2,2,none⟩=some z2∧w.cell? ⟨g3,0,none⟩=some x3∧w.cell? ⟨g3,1,none⟩=some y3∧w.cell? ⟨g3,2,none⟩=some z3 :=
 ⟨(h.c3 h1).1,(h.c3 h1).2.1,(h.c3 h1).2.2.1,(h.c3 h2).1,(h.c3 h2).2.1,(h.c3 h2).2.2.1,(h.c3 h3).1,(h.c3 h3).2.1,(h.c3 h3).2.2.1⟩
end
end Go.Proofs.YtbihljnjaondcaaGreatDoor
