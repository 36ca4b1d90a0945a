/- Part of a proof, said shortly. -/
import Derived.Test.YtbihljnjaondcaaGreatDoorAlt
import Derived.Test.YtbihljnjaondcaaGreatDoorT14
import Derived.Test.YtbihljnjaondcaaGreatDoorT4
import Derived.Test.YtbihljnjaondcaaGreatDoorT3
import Derived.Test.YtbihljnjaondcaaGreatDoorT2
import Derived.Test.YtbihljnjaondcaaGreatDoorT1
import Derived.Test.YtbihljnjaondcaaGreatDoorT13
import Derived.Test.YtbihljnjaondcaaGreatDoorT9
import Derived.Test.YtbihljnjaondcaaGreatDoorT8
import Derived.Test.YtbihljnjaondcaaGreatDoorT6
import Derived.Test.YtbihljnjaondcaaGreatDoorT5
import Derived.Test.YtbihljnjaondcaaGreatDoorT7
import Derived.Test.YtbihljnjaondcaaGreatDoorT19
import Derived.Test.YtbihljnjaondcaaGreatDoorT18
import Derived.Test.YtbihljnjaondcaaGreatDoorT16
import Derived.Test.YtbihljnjaondcaaGreatDoorT15
import Derived.Test.YtbihljnjaondcaaGreatDoorT17
import Derived.Test.YtbihljnjaondcaaGreatDoorT10
import Derived.Test.YtbihljnjaondcaaGreatDoorT11
import Derived.Test.YtbihljnjaondcaaGreatDoorT12
namespace Lw
open Go Go.RowKit
def cp (ns ms:List Nat):Bool:=Nat.gcd (val ns) (val ms)==1
def fV (s:Bool) (ns ms:List Nat):Bool:=if ns.length=0∨ms.length=0 then decide (ns.length=ms.length) && !s else vB false ns&&(vB false ms&&cp ns ms)
theorem bhN {ns ms:List Nat} (h:ns=[1]):cp ns ms=true:=by
 subst h; unfold cp; rw [show val [1]=1 from rfl,Nat.gcd_one_left]; rfl
theorem bhO {ns ms:List Nat} (h:ms=[1]):cp ns ms=true:=by
 subst h; unfold cp; rw [show val [1]=1 from rfl,Nat.gcd_one_right]; rfl
theorem a6W {l:List Nat} {n:Nat} (t:Trm l) (hn:l.length=n) (h:1≤n):val l≠0:=by
 have:=a8u t (by intro e; rw [e] at hn; simp at hn; omega)
 omega
theorem bfH {l:List Nat} {n:Nat} (t:Trm l) (hn:l.length=n) (h:1≤n):vB false l=true:=by
 unfold vB
 rw [if_neg (by omega),bne_iff_ne]
 refine t _ ?_
 rw [List.getLast?_eq_getElem?,a1G (by omega)]
theorem bfX {l:List Nat} {n:Nat} (t:Trm l) (hn:l.length=n) (h:1≤n):zv false l=(val l:Int):=by
 unfold zv; rw [bfH t hn h]; rfl
theorem bcm {g:Nat} : Uy g=[1]↔g=1:=by
 constructor
 ·intro h
  have:=aar g
  rw [h] at this
  exact this.symm
 ·intro h
  subst h
  exact a7v (by omega) (by omega)
end Lw
namespace Go.Proofs.YtbihljnjaondcaaGreatDoor
open Go Go.RowKit Lw
theorem a9D (s:Bool) (A:Option Addr) (n c:Nat) (w:World):Sem.run Tryz.prog (Instr.field 39 (.agg #[.bool s,.slice A n c]) 1) w = .ok (.slice A n c) w:=by kernel_rfl
theorem a4J (A:Option Addr) (ns:List Nat) (n c B:Nat) (w:World) (h:Rd w B A ns) (hn:ns.length=n) (hl:n≤16777216) :
  Calls Tryz.prog 117 #[.slice A n c] w fun e w'=>e = .returned (.bool (decide (ns=[1])))∧Below w.heap.size w w':=by
 refine (bkj A ns n c B w h hn hl).mono ?_
 rintro e w' ⟨rfl,q,rfl⟩
 exact ⟨rfl,below_drewN' _ _ q⟩
theorem bdE (A:Option Addr) (ns:List Nat) (n c B:Nat) (w:World) (h:Rd w B A ns) (hn:ns.length=n) (h1:1≤n) (h2:n≤2) :
  Calls Tryz.prog 221 #[.slice A n c] w fun e w'=>e = .returned (.int .u64 (val ns:Int))∧Below w.heap.size w w':=by
 refine (bkn A ns n c B w h hn h1 h2).mono ?_
 rintro e w' ⟨rfl,q,rfl⟩
 exact ⟨rfl,below_drewN' _ _ q⟩
theorem biJ (x y:Nat) (w:World) (hx:x≤18446744073709551615) (hy:y≤18446744073709551615) (hx0:x≠0) (hy0:y≠0) (ht:Tz w) :
  Calls Tryz.prog 199 #[.int .u64 x,.int .u64 y] w fun e w'=>e = .returned (.int .u64 (Nat.gcd x y:Nat))∧Below w.heap.size w w':=by
 refine (bcy x y w hx hy hx0 hy0 ht).mono ?_
 rintro e w' ⟨rfl,q,rfl⟩
 exact ⟨rfl,below_drewN' _ _ q⟩
set_option maxRecDepth 100000 in
set_option maxHeartbeats 3200000 in
theorem bhM (A A':Option Addr) (ns ms:List Nat) (n m c c' B B':Nat) (w:World) (h:Rd w B A ns) (h':Rd w B' A' ms) (hB:B≤w.heap.size) (hB':B'≤w.heap.size) (hn:ns.length=n) (hm:ms.length=m) (hl:n≤8388608) (hl':m≤8388608) (hc:n≤c) (hc':m≤c')
  (ht:Tz w) (tn:Trm ns) (tm:Trm ms) (h1:1≤n) (h2:1≤m) :
  Calls Tryz.prog 182 #[.slice A n c,.slice A' m c'] w fun e w'=>e = .returned (.bool (cp ns ms))∧Below w.heap.size w w':=by
 have hone:=fun W hR=>a4J A ns n c B W hR hn (by omega)
 have hone':=fun W hR=>a4J A' ms m c' B' W hR hm (by omega)
 by_cases e1:ns=[1]
 ·have HC:=Lib.hid (bhN (ms:=ms) e1)
  rw [decide_eq_true e1] at hone
  have HO:=Lib.hid hone
  clear hone hone' e1 hn hm
  go_enter btk,btl
  go_wp2_with fail
  refine (HO.out _ h).mono ?_
  rintro e w1 ⟨rfl,hb1⟩
  go_wp2_with fail
  go_ret
  exact ⟨by rw [HC.out]; rfl,hb1⟩
 by_cases e2:ms=[1]
 ·have HC:=Lib.hid (bhO (ns:=ns) e2)
  rw [decide_eq_false e1] at hone
  rw [decide_eq_true e2] at hone'
  have HO:=Lib.hid hone
  have HO':=Lib.hid hone'
  clear hone hone' e1 e2 hn hm
  go_enter btk,btl
  go_wp2_with fail
  refine (HO.out _ h).mono ?_
  rintro e w1 ⟨rfl,hb1⟩
  go_wp2_with fail
  refine (HO'.out _ (h'.next hb1 hB')).mono ?_
  rintro e w2 ⟨rfl,hb2⟩
  have akA:=aaR hb1 hb2 (Nat.le_refl _)
  go_wp2_with fail
  go_ret
  exact ⟨by rw [HC.out]; rfl,akA⟩
 rw [decide_eq_false e1] at hone
 rw [decide_eq_false e2] at hone'
 have HO:=Lib.hid hone
 have HO':=Lib.hid hone'
 have HT:=Lib.hid ht
 by_cases hs:n≤2∧m≤2
 ·obtain ⟨hs1,hs2⟩:=hs
  have hj:=fun W hR=>bdE A ns n c B W hR hn h1 hs1
  have hj':=fun W hR=>bdE A' ms m c' B' W hR hm h2 hs2
  have hx:=a6W tn hn h1
  have hy:=a6W tm hm h2
  have hxl:val ns≤18446744073709551615:=by
   have h3:=afS h.wds
   have h4:pw ns.length≤pw 2:=ajj (by omega)
   have h5:pw 2=18446744073709551616:=rfl
   omega
  have hyl:val ms≤18446744073709551615:=by
   have h3:=afS h'.wds
   have h4:pw ms.length≤pw 2:=ajj (by omega)
   have h5:pw 2=18446744073709551616:=rfl
   omega
  have hd:=fun W hW=>biJ (val ns) (val ms) W hxl hyl hx hy hW
  obtain ⟨g,hg⟩ : ∃ g,g=Nat.gcd (val ns) (val ms):=⟨_,rfl⟩
  rw [← hg] at hd
  have HC:Hid (((g:Int)==1)=cp ns ms):=Lib.hid (by unfold cp; rw [← hg,Bool.eq_iff_iff,beq_iff_eq,beq_iff_eq]; omega)
  have HJ:=Lib.hid hj
  have HJ':=Lib.hid hj'
  have HD:=Lib.hid hd
  clear hone hone' e1 e2 hn hm hj hj' hd hg hx hy hxl hyl ht
  go_enter btk,btl
  go_wp2_with fail
  refine (HO.out _ h).mono ?_
  rintro e w1 ⟨rfl,hb1⟩
  go_wp2_with fail
  refine (HO'.out _ (h'.next hb1 hB')).mono ?_
  rintro e w2 ⟨rfl,hb2⟩
  have akA:=aaR hb1 hb2 (Nat.le_refl _)
  go_wp2_with fail
  refine (HJ.out _ (h.next akA hB)).mono ?_
  rintro e w3 ⟨rfl,hb3⟩
  have a6o:=aaR akA hb3 (Nat.le_refl _)
  go_wp2_with fail
  refine (HJ'.out _ (h'.next a6o hB')).mono ?_
  rintro e w4 ⟨rfl,hb4⟩
  have bc5:=aaR a6o hb4 (Nat.le_refl _)
  go_wp2_with fail
  refine (HD.out _ (HT.out.next bc5)).mono ?_
  rintro e w5 ⟨rfl,hb5⟩
  go_wp2_with fail
  go_ret
  exact ⟨congrArg (fun b=>Ending.returned (Value.bool b)) HC.out,aaR bc5 hb5 (Nat.le_refl _)⟩
 ·have hgc:=fun W hR hR' hb hb'=>bcQ false false A A' ns ms n m c c' B B' W hR hR' hb hb' hn hm hl hl' hc hc'
  rw [bfX tn hn h1,bfX tm hm h2,Int.natAbs_natCast,Int.natAbs_natCast] at hgc
  obtain ⟨g,hg⟩ : ∃ g,g=Nat.gcd (val ns) (val ms):=⟨_,rfl⟩
  rw [← hg] at hgc
  have HC:Hid (decide (mg (g:Int)=[1])=cp ns ms):=Lib.hid (by unfold cp mg; rw [← hg,Int.natAbs_natCast,Bool.eq_iff_iff,decide_eq_true_iff,beq_iff_eq,bcm])
  have hgl:(mg (g:Int)).length≤16777216:=by
   unfold mg; rw [Int.natAbs_natCast,hg]
   refine Nat.le_trans (aj9 (k:=n) ?_) (by omega)
   exact Nat.lt_of_le_of_lt (Nat.gcd_le_left _ (Nat.pos_of_ne_zero (a6W tn hn h1))) (by rw [← hn]; exact afS h.wds)
  have HG:=Lib.hid hgc
  clear hone hone' e1 e2 hn hm hgc hg ht
  have hs':2 < n∨2 < m:=by omega
  clear hs
  rcases hs' with hs | hs
  ·go_enter btk,btl
   go_wp2_with fail
   refine (HO.out _ h).mono ?_
   rintro e w1 ⟨rfl,hb1⟩
   go_wp2_with fail
   refine (HO'.out _ (h'.next hb1 hB')).mono ?_
   rintro e w2 ⟨rfl,hb2⟩
   have akA:=aaR hb1 hb2 (Nat.le_refl _)
   go_wp2_with fail
   refine (HG.out _ (h.next akA hB) (h'.next akA hB') (Nat.le_trans hB akA.size) (Nat.le_trans hB' akA.size)).mono ?_
   rintro e w3 ⟨A9,c9,rfl,hc9,hr9,hb9⟩
   have hfld:=a9D (sg (g:Int)) A9 (mg (g:Int)).length c9 w3
   go_wp2_with fail
   refine (a4J A9 (mg (g:Int)) _ c9 _ _ hr9 rfl hgl).mono ?_
   rintro e w4 ⟨rfl,hb4⟩
   go_wp2_with fail
   go_ret
   exact ⟨congrArg (fun b=>Ending.returned (Value.bool b)) HC.out,aaR (aaR akA hb9 (Nat.le_refl _)) hb4 (Nat.le_refl _)⟩
  ·by_cases hn2:n≤2
   ·go_enter btk,btl
    go_wp2_with fail
    refine (HO.out _ h).mono ?_
    rintro e w1 ⟨rfl,hb1⟩
    go_wp2_with fail
    refine (HO'.out _ (h'.next hb1 hB')).mono ?_
    rintro e w2 ⟨rfl,hb2⟩
    have akA:=aaR hb1 hb2 (Nat.le_refl _)
    go_wp2_with fail
    refine (HG.out _ (h.next akA hB) (h'.next akA hB') (Nat.le_trans hB akA.size) (Nat.le_trans hB' akA.size)).mono ?_
    rintro e w3 ⟨A9,c9,rfl,hc9,hr9,hb9⟩
    have hfld:=a9D (sg (g:Int)) A9 (mg (g:Int)).length c9 w3
    go_wp2_with fail
    refine (a4J A9 (mg (g:Int)) _ c9 _ _ hr9 rfl hgl).mono ?_
    rintro e w4 ⟨rfl,hb4⟩
    go_wp2_with fail
    go_ret
    exact ⟨congrArg (fun b=>Ending.returned (Value.bool b)) HC.out,aaR (aaR akA hb9 (Nat.le_refl _)) hb4 (Nat.le_refl _)⟩
   ·have hn3:2 < n:=by omega
    go_enter btk,btl
    go_wp2_with fail
    refine (HO.out _ h).mono ?_
    rintro e w1 ⟨rfl,hb1⟩
    go_wp2_with fail
    refine (HO'.out _ (h'.next hb1 hB')).mono ?_
    rintro e w2 ⟨rfl,hb2⟩
    have akA:=aaR hb1 hb2 (Nat.le_refl _)
    go_wp2_with fail
    refine (HG.out _ (h.next akA hB) (h'.next akA hB') (Nat.le_trans hB akA.size) (Nat.le_trans hB' akA.size)).mono ?_
    rintro e w3 ⟨A9,c9,rfl,hc9,hr9,hb9⟩
    have hfld:=a9D (sg (g:Int)) A9 (mg (g:Int)).length c9 w3
    go_wp2_with fail
    refine (a4J A9 (mg (g:Int)) _ c9 _ _ hr9 rfl hgl).mono ?_
    rintro e w4 ⟨rfl,hb4⟩
    go_wp2_with fail
    go_ret
    exact ⟨congrArg (fun b=>Ending.returned (Value.bool b)) HC.out,aaR (aaR akA hb9 (Nat.le_refl _)) hb4 (Nat.le_refl _)⟩
end Go.Proofs.YtbihljnjaondcaaGreatDoor
namespace Lw
open Go Go.RowKit
theorem biE {s:Bool} {ns ms:List Nat} {n m:Nat} (hn:ns.length=n) (hm:ms.length=m) (h:n=0) (h':m=0):fV s ns ms = !s:=by
 unfold fV; rw [if_pos (.inl (by omega)),decide_eq_true (by omega)]; rfl
theorem a9z {s:Bool} {ns ms:List Nat} {n m:Nat} (hn:ns.length=n) (hm:ms.length=m) (h:n=0∨m=0) (h':n≠m):fV s ns ms=false:=by
 unfold fV; rw [if_pos (by omega),decide_eq_false (by omega)]; rfl
theorem a9x {s:Bool} {ns ms:List Nat} {n m:Nat} (hn:ns.length=n) (hm:ms.length=m) (h:1≤n) (h':1≤m):fV s ns ms=(vB false ns&&(vB false ms&&cp ns ms)):=by
 unfold fV; rw [if_neg (by omega)]
theorem a8v {l:List Nat} (h:vB false l=true):Trm l:=bfJ h
end Lw
namespace Go.Proofs.YtbihljnjaondcaaGreatDoor
open Go Go.RowKit Lw
set_option maxRecDepth 100000 in
set_option maxHeartbeats 3200000 in
theorem bcL (s:Bool) (A A':Option Addr) (ns ms:List Nat) (n m c c' B B':Nat) (w:World) (h:Rd w B A ns) (h':Rd w B' A' ms) (hB:B≤w.heap.size) (hB':B'≤w.heap.size) (hn:ns.length=n) (hm:ms.length=m) (hl:n≤8388608) (hl':m≤8388608) (hc:n≤c) (hc':m≤c') (ht:Tz w) :
  Calls Tryz.prog 113 #[.agg #[.bool s,.slice A n c,.slice A' m c']] w fun e w'=>e = .returned (.bool (fV s ns ms))∧Below w.heap.size w w':=by
 have hb1:=(Below.refl w.heap.size w).alloc (Nat.le_refl _) (.cells #[.bool s,.slice A n c,.slice A' m c'] 24)
 obtain ⟨e0,e1,e2,e3,e4,e5⟩:=(Tri.new w 24 (.bool s) (.slice A n c) (.slice A' m c')).cells
 by_cases h0:n=0
 ·by_cases h0':m=0
  ·have HV:=Lib.hid (biE (s:=s) hn hm h0 h0')
   subst h0 h0'
   clear hn hm ht
   go_enter btP,btQ
   go_wp2_with fail
   go_ret
   exact ⟨congrArg (fun b=>Ending.returned (Value.bool b)) HV.out.symm,hb1⟩
  ·have HV:=Lib.hid (a9z (s:=s) hn hm (.inl h0) (by omega))
   have hq:((0:Int)==(m:Int))=false:=by rw [beq_eq_false_iff_ne]; omega
   subst h0
   clear hn hm ht
   go_enter btP,btQ
   go_wp2_with fail
   go_ret
   exact ⟨congrArg (fun b=>Ending.returned (Value.bool b)) HV.out.symm,hb1⟩
 have hqn:((n:Int)==0)=false:=by rw [beq_eq_false_iff_ne]; omega
 by_cases h0':m=0
 ·have HV:=Lib.hid (a9z (s:=s) hn hm (.inr h0') (by omega))
  subst h0'
  clear hn hm ht
  go_enter btP,btQ
  go_wp2_with fail
  go_ret
  exact ⟨congrArg (fun b=>Ending.returned (Value.bool b)) HV.out.symm,hb1⟩
 have hqm:((m:Int)==0)=false:=by rw [beq_eq_false_iff_ne]; omega
 have HV:=Lib.hid (a9x (s:=s) hn hm (by omega) (by omega))
 have hv:=fun W hR hb=>a8D false A ns n c B W hR hb hn (by omega)
 have hv':=fun W hR hb=>a8D false A' ms m c' B' W hR hb hm (by omega)
 have hcp:=fun W hR hR' hb hb' hT t1 t2=>bhM A A' ns ms n m c c' B B' W hR hR' hb hb' hn hm hl hl' hc hc' hT t1 t2 (by omega) (by omega)
 have HTN:Hid (vB false ns=true→Trm ns):=Lib.hid a8v
 have HTM:Hid (vB false ms=true→Trm ms):=Lib.hid a8v
 have HT:=Lib.hid ht
 obtain ⟨v1,hv1⟩ : ∃ v,v=vB false ns:=⟨_,rfl⟩
 obtain ⟨v2,hv2⟩ : ∃ v,v=vB false ms:=⟨_,rfl⟩
 rw [← hv1] at hv HV HTN
 rw [← hv2] at hv' HV HTM
 have HA:=Lib.hid hv
 have HA':=Lib.hid hv'
 have HC:=Lib.hid hcp
 clear hv hv' hcp hn hm ht h0 h0' hv1 hv2
 go_enter btP,btQ
 go_wp2_with fail
 go_region
 ·have hB1:Below w.heap.size w (((w.alloc (.cells #[.bool s,.slice A n c,.slice A' m c'] 24)).alloc (.cells #[.bool false,.slice A n c] 39)).alloc (.cells #[.bool false,.slice A' m c'] 39)).drew:=((hb1.alloc (by simp) _).alloc (by simp; omega) _).drew
  have T0:Tri (((w.alloc (.cells #[.bool s,.slice A n c,.slice A' m c'] 24)).alloc (.cells #[.bool false,.slice A n c] 39)).alloc (.cells #[.bool false,.slice A' m c'] 39)).drew w.heap.size 24 (.bool s) (.slice A n c) (.slice A' m c'):=(((Tri.new w 24 (.bool s) (.slice A n c) (.slice A' m c')).next ((Below.refl _ _).alloc (Nat.le_refl _) (.cells #[.bool false,.slice A n c] 39))).next ((Below.refl _ _).alloc (Nat.le_refl _) (.cells #[.bool false,.slice A' m c'] 39))).drew
  have Ta:Two (((w.alloc (.cells #[.bool s,.slice A n c,.slice A' m c'] 24)).alloc (.cells #[.bool false,.slice A n c] 39)).alloc (.cells #[.bool false,.slice A' m c'] 39)).drew (w.heap.size+1) 39 (.bool false) (.slice A n c):=by
   have h9:=(Two.new (w.alloc (.cells #[.bool s,.slice A n c,.slice A' m c'] 24)) 39 (.bool false) (.slice A n c)).alloc (.cells #[.bool false,.slice A' m c'] 39)
   rw [World.size_alloc] at h9
   exact h9
  have Tb:Two (((w.alloc (.cells #[.bool s,.slice A n c,.slice A' m c'] 24)).alloc (.cells #[.bool false,.slice A n c] 39)).alloc (.cells #[.bool false,.slice A' m c'] 39)).drew (w.heap.size+1+1) 39 (.bool false) (.slice A' m c'):=by
   have h9:=Two.new ((w.alloc (.cells #[.bool s,.slice A n c,.slice A' m c'] 24)).alloc (.cells #[.bool false,.slice A n c] 39)) 39 (.bool false) (.slice A' m c')
   rw [World.size_alloc,World.size_alloc] at h9
   exact h9
  have R1:=h.next hB1 hB
  have R2:=h'.next hB1 hB'
  generalize (((w.alloc (.cells #[.bool s,.slice A n c,.slice A' m c'] 24)).alloc (.cells #[.bool false,.slice A n c] 39)).alloc (.cells #[.bool false,.slice A' m c'] 39)).drew=W at *
  obtain ⟨p0,p1,_,_⟩:=Ta.facts
  clear e0 e1 e2 e3 e4 e5
  go_wp2_with fail
  refine (HA.out _ R1 (Nat.le_trans hB hB1.size)).mono ?_
  rintro e w1 ⟨rfl,hb2⟩
  have hB2:=aaR hB1 hb2 (Nat.le_refl _)
  obtain ⟨p2,p3,_,_⟩:=(Tb.next hb2).facts
  clear p0 p1
  cases v1
  ·go_wp2_with fail
   go_ret
   exact ⟨congrArg (fun b=>Ending.returned (Value.bool b)) HV.out.symm,hB2⟩
  ·go_wp2_with fail
   refine (HA'.out _ (R2.next hb2 (Nat.le_trans hB' hB1.size)) (Nat.le_trans hB' hB2.size)).mono ?_
   rintro e w2 ⟨rfl,hb3⟩
   have hB3:=aaR hB2 hb3 (Nat.le_refl _)
   have T3:=(T0.next hb2).next hb3
   obtain ⟨f0,f1,f2,f3,f4,f5⟩:=T3.cells
   clear p2 p3
   cases v2
   ·go_wp2_with fail
    go_ret
    exact ⟨congrArg (fun b=>Ending.returned (Value.bool b)) HV.out.symm,hB3⟩
   ·go_wp2_with fail
    refine (HC.out _ (h.next hB3 hB) (h'.next hB3 hB') (Nat.le_trans hB hB3.size) (Nat.le_trans hB' hB3.size) (HT.out.next hB3) (HTN.out (by first | rfl | trivial)) (HTM.out (by first | rfl | trivial))).mono ?_
    rintro e w3 ⟨rfl,hb4⟩
    go_wp2_with fail
    go_ret
    exact ⟨congrArg (fun b=>Ending.returned (Value.bool b)) HV.out.symm,aaR hB3 hb4 (Nat.le_refl _)⟩
 ·have hB1:Below w.heap.size w (((w.alloc (.cells #[.bool s,.slice A n c,.slice A' m c'] 24)).alloc (.cells #[.bool false,.slice A' m c'] 39)).alloc (.cells #[.bool false,.slice A n c] 39)).drew:=((hb1.alloc (by simp) _).alloc (by simp; omega) _).drew
  have T0:Tri (((w.alloc (.cells #[.bool s,.slice A n c,.slice A' m c'] 24)).alloc (.cells #[.bool false,.slice A' m c'] 39)).alloc (.cells #[.bool false,.slice A n c] 39)).drew w.heap.size 24 (.bool s) (.slice A n c) (.slice A' m c'):=(((Tri.new w 24 (.bool s) (.slice A n c) (.slice A' m c')).next ((Below.refl _ _).alloc (Nat.le_refl _) (.cells #[.bool false,.slice A' m c'] 39))).next ((Below.refl _ _).alloc (Nat.le_refl _) (.cells #[.bool false,.slice A n c] 39))).drew
  have Ta:Two (((w.alloc (.cells #[.bool s,.slice A n c,.slice A' m c'] 24)).alloc (.cells #[.bool false,.slice A' m c'] 39)).alloc (.cells #[.bool false,.slice A n c] 39)).drew (w.heap.size+1) 39 (.bool false) (.slice A' m c'):=by
   have h9:=(Two.new (w.alloc (.cells #[.bool s,.slice A n c,.slice A' m c'] 24)) 39 (.bool false) (.slice A' m c')).alloc (.cells #[.bool false,.slice A n c] 39)
   rw [World.size_alloc] at h9
   exact h9
  have Tb:Two (((w.alloc (.cells #[.bool s,.slice A n c,.slice A' m c'] 24)).alloc (.cells #[.bool false,.slice A' m c'] 39)).alloc (.cells #[.bool false,.slice A n c] 39)).drew (w.heap.size+1+1) 39 (.bool false) (.slice A n c):=by
   have h9:=Two.new ((w.alloc (.cells #[.bool s,.slice A n c,.slice A' m c'] 24)).alloc (.cells #[.bool false,.slice A' m c'] 39)) 39 (.bool false) (.slice A n c)
   rw [World.size_alloc,World.size_alloc] at h9
   exact h9
  have R1:=h.next hB1 hB
  have R2:=h'.next hB1 hB'
  generalize (((w.alloc (.cells #[.bool s,.slice A n c,.slice A' m c'] 24)).alloc (.cells #[.bool false,.slice A' m c'] 39)).alloc (.cells #[.bool false,.slice A n c] 39)).drew=W at *
  obtain ⟨p0,p1,_,_⟩:=Tb.facts
  clear e0 e1 e2 e3 e4 e5
  go_wp2_with fail
  refine (HA.out _ R1 (Nat.le_trans hB hB1.size)).mono ?_
  rintro e w1 ⟨rfl,hb2⟩
  have hB2:=aaR hB1 hb2 (Nat.le_refl _)
  obtain ⟨p2,p3,_,_⟩:=(Ta.next hb2).facts
  clear p0 p1
  cases v1
  ·go_wp2_with fail
   go_ret
   exact ⟨congrArg (fun b=>Ending.returned (Value.bool b)) HV.out.symm,hB2⟩
  ·go_wp2_with fail
   refine (HA'.out _ (R2.next hb2 (Nat.le_trans hB' hB1.size)) (Nat.le_trans hB' hB2.size)).mono ?_
   rintro e w2 ⟨rfl,hb3⟩
   have hB3:=aaR hB2 hb3 (Nat.le_refl _)
   have T3:=(T0.next hb2).next hb3
   obtain ⟨f0,f1,f2,f3,f4,f5⟩:=T3.cells
   clear p2 p3
   cases v2
   ·go_wp2_with fail
    go_ret
    exact ⟨congrArg (fun b=>Ending.returned (Value.bool b)) HV.out.symm,hB3⟩
   ·go_wp2_with fail
    refine (HC.out _ (h.next hB3 hB) (h'.next hB3 hB') (Nat.le_trans hB hB3.size) (Nat.le_trans hB' hB3.size) (HT.out.next hB3) (HTN.out (by first | rfl | trivial)) (HTM.out (by first | rfl | trivial))).mono ?_
    rintro e w3 ⟨rfl,hb4⟩
    go_wp2_with fail
    go_ret
    exact ⟨congrArg (fun b=>Ending.returned (Value.bool b)) HV.out.symm,aaR hB3 hb4 (Nat.le_refl _)⟩
def kn (b:Bool) (s:Bool) (A A':Option Addr) (n m c c':Nat):Value:=if b then .agg #[.bool s,.slice A n c,.slice A' m c'] else .agg #[.bool false,.slice none 0 0,.slice none 0 0]
set_option maxRecDepth 100000 in
set_option maxHeartbeats 3200000 in
theorem biU (s:Bool) (A A':Option Addr) (ns ms:List Nat) (n m c c' B B':Nat) (w:World) (h:Rd w B A ns) (h':Rd w B' A' ms) (hB:B≤w.heap.size) (hB':B'≤w.heap.size) (hn:ns.length=n) (hm:ms.length=m) (hl:n≤8388608) (hl':m≤8388608) (hc:n≤c) (hc':m≤c') (ht:Tz w) :
  Calls Tryz.prog 83 #[.agg #[.bool s,.slice A n c,.slice A' m c']] w fun e w'=>e = .returned (kn (n != 0&&fV s ns ms) s A A' n m c c')∧Below w.heap.size w w':=by
 have hb1:=((Below.refl w.heap.size w).alloc (Nat.le_refl _) (.cells #[.bool s,.slice A n c,.slice A' m c'] 24)).alloc (by simp) (.cells #[.bool false,.slice none 0 0,.slice none 0 0] 24)
 have T0:Tri ((w.alloc (.cells #[.bool s,.slice A n c,.slice A' m c'] 24)).alloc (.cells #[.bool false,.slice none 0 0,.slice none 0 0] 24)) w.heap.size 24 (.bool s) (.slice A n c) (.slice A' m c'):=(Tri.new w 24 (.bool s) (.slice A n c) (.slice A' m c')).next ((Below.refl _ _).alloc (Nat.le_refl _) (.cells #[.bool false,.slice none 0 0,.slice none 0 0] 24))
 have T1:Tri ((w.alloc (.cells #[.bool s,.slice A n c,.slice A' m c'] 24)).alloc (.cells #[.bool false,.slice none 0 0,.slice none 0 0] 24)) (w.heap.size+1) 24 (.bool false) (.slice none 0 0) (.slice none 0 0):=by
  have h9:=Tri.new (w.alloc (.cells #[.bool s,.slice A n c,.slice A' m c'] 24)) 24 (.bool false) (.slice none 0 0) (.slice none 0 0)
  rw [World.size_alloc] at h9
  exact h9
 obtain ⟨e0,e1,e2,e3,e4,e5⟩:=T0.cells
 obtain ⟨f0,f1,f2,f3,f4,f5⟩:=T1.cells
 by_cases h0:n=0
 ·have HV:Hid ((n != 0&&fV s ns ms)=false):=Lib.hid (by rw [h0]; rfl)
  rw [HV.out]
  subst h0
  clear hn hm ht HV
  go_enter Tryz.func83,Tryz.ntmps83
  go_wp2_with fail
  refine bodyPost_ret (v := .agg #[.bool false,.slice none 0 0,.slice none 0 0]) (by simp [results,Tryz.results83,go_sem,f0,f1,f2]) rfl ?_
  exact ⟨rfl,hb1⟩
 ·have HV:Hid ((n != 0&&fV s ns ms)=fV s ns ms):=Lib.hid (by rw [bne_iff_ne.2 h0]; rfl)
  rw [HV.out]
  have hqn:((n:Int)==0)=false:=by rw [beq_eq_false_iff_ne]; omega
  have hv:=fun W hR hR' hb hb' hT=>bcL s A A' ns ms n m c c' B B' W hR hR' hb hb' hn hm hl hl' hc hc' hT
  obtain ⟨b,hb⟩ : ∃ b,b=fV s ns ms:=⟨_,rfl⟩
  rw [← hb] at hv ⊢
  have HF:=Lib.hid hv
  have HT:=Lib.hid ht
  clear hv hb hn hm ht h0 HV
  go_enter Tryz.func83,Tryz.ntmps83
  go_wp2_with fail
  refine (HF.out _ (h.next hb1 hB) (h'.next hb1 hB') (Nat.le_trans hB hb1.size) (Nat.le_trans hB' hb1.size) (HT.out.next hb1)).mono ?_
  rintro e w1 ⟨rfl,hb2⟩
  have hb3:=aaR hb1 hb2 (Nat.le_refl _)
  have K0:=T0.next hb2
  have K1:=T1.next hb2
  clear e0 e1 e2 e3 e4 e5 f0 f1 f2 f3 f4 f5
  obtain ⟨e0,e1,e2,e3,e4,e5⟩:=K0.cells
  obtain ⟨f0,f1,f2,f3,f4,f5⟩:=K1.cells
  cases b
  ·go_wp2_with fail
   refine bodyPost_ret (v := .agg #[.bool false,.slice none 0 0,.slice none 0 0]) (by simp [results,Tryz.results83,go_sem,f0,f1,f2]) rfl ?_
   exact ⟨rfl,((hb3.setCell (by simp) _).setCell (by simp) _).setCell (by simp) _⟩
  ·go_wp2_with fail
   refine bodyPost_ret (v := .agg #[.bool s,.slice A n c,.slice A' m c']) (by simp [results,Tryz.results83,go_sem,f0,f1,f2]) rfl ?_
   exact ⟨rfl,((hb3.setCell (by simp) _).setCell (by simp) _).setCell (by simp) _⟩
end Go.Proofs.YtbihljnjaondcaaGreatDoor
namespace Go.Proofs.YtbihljnjaondcaaGreatDoor
open Go Go.RowKit Lw
set_option maxRecDepth 100000 in
set_option maxHeartbeats 3200000 in
theorem biX (s:Bool) (A A':Option Addr) (n m c c':Nat) (w:World) (hl:n≤8388608) :
  Calls Tryz.prog 145 #[.agg #[.bool s,.slice A n c,.slice A' m c']] w fun e w'=>e = .returned (.agg #[.bool (decide (0 < n) && !s),.slice A n c,.slice A' m c'])∧Below w.heap.size w w':=by
 have hb1:=((Below.refl w.heap.size w).alloc (Nat.le_refl _) (.cells #[.bool s,.slice A n c,.slice A' m c'] 24)).alloc (by simp) (.cells #[.bool false,.slice none 0 0,.slice none 0 0] 24)
 have T0:Tri ((w.alloc (.cells #[.bool s,.slice A n c,.slice A' m c'] 24)).alloc (.cells #[.bool false,.slice none 0 0,.slice none 0 0] 24)) w.heap.size 24 (.bool s) (.slice A n c) (.slice A' m c'):=(Tri.new w 24 (.bool s) (.slice A n c) (.slice A' m c')).next ((Below.refl _ _).alloc (Nat.le_refl _) (.cells #[.bool false,.slice none 0 0,.slice none 0 0] 24))
 have T1:Tri ((w.alloc (.cells #[.bool s,.slice A n c,.slice A' m c'] 24)).alloc (.cells #[.bool false,.slice none 0 0,.slice none 0 0] 24)) (w.heap.size+1) 24 (.bool false) (.slice none 0 0) (.slice none 0 0):=by
  have h9:=Tri.new (w.alloc (.cells #[.bool s,.slice A n c,.slice A' m c'] 24)) 24 (.bool false) (.slice none 0 0) (.slice none 0 0)
  rw [World.size_alloc] at h9
  exact h9
 obtain ⟨e0,e1,e2,e3,e4,e5⟩:=T0.cells
 obtain ⟨f0,f1,f2,f3,f4,f5⟩:=T1.cells
 by_cases h0:n=0
 ·subst h0
  go_enter Tryz.func145,Tryz.ntmps145
  go_wp2_with fail
  refine bodyPost_ret (v := .agg #[.bool false,.slice A 0 c,.slice A' m c']) (by simp [results,Tryz.results145,go_sem]) rfl ?_
  refine ⟨rfl,?_⟩
  repeat' (first | exact hb1 | refine Below.setCell ?_ ?_ _ | refine Below.alloc ?_ ?_ _ | exact Nat.le_refl _ | exact Below.refl _ _ | simp)
 ·have h1:0 < n:=by omega
  have HD:Hid ((decide (0 < n) && !s) = !s):=Lib.hid (by rw [decide_eq_true h1]; rfl)
  rw [HD.out]
  go_enter Tryz.func145,Tryz.ntmps145
  go_wp2_with fail
  refine bodyPost_ret (v := .agg #[.bool (!s),.slice A n c,.slice A' m c']) (by simp [results,Tryz.results145,go_sem]) rfl ?_
  refine ⟨rfl,?_⟩
  repeat' (first | exact hb1 | refine Below.setCell ?_ ?_ _ | refine Below.alloc ?_ ?_ _ | exact Nat.le_refl _ | exact Below.refl _ _ | simp)
end Go.Proofs.YtbihljnjaondcaaGreatDoor
