/- Part of a proof, said shortly. -/
import Derived.Deep.RegionHeld3
import Derived.Test.YtmmgoghiiionfaaGreatDoorAlz
import Derived.Test.YtmmgoghiiionfaaGreatDoorC4
import Derived.Test.YtmmgoghiiionfaaGreatDoorC2
import Derived.Test.YtmmgoghiiionfaaGreatDoorC1
import Derived.Test.YtmmgoghiiionfaaGreatDoorC3
import Derived.Test.YtmmgoghiiionfaaGreatDoorC6
import Derived.Test.YtmmgoghiiionfaaGreatDoorC5
set_option linter.unusedVariables false
set_option linter.unusedSimpArgs false
namespace Lw
open Go Go.RowKit
def cp(ns ms:List Nat):Bool:=Nat.gcd (val ns) (val ms)==1
def fV(s:Bool)(ns ms:List Nat):Bool:=if ns.length=0\/ms.length=0 then decide (ns.length=ms.length) && !s else vB false ns&&(vB false ms&&cp ns ms)
theorem WQ{ns ms:List Nat}(h:ns=[1]):cp ns ms=true:=by
 subst h;unfold cp;rw [show val [1]=1 from rfl,Nat.gcd_one_left];rfl
theorem WR{ns ms:List Nat}(h:ms=[1]):cp ns ms=true:=by
 subst h;unfold cp;rw [show val [1]=1 from rfl,Nat.gcd_one_right];rfl
theorem yz{l:List Nat}{n:Nat}(t:ed l)(hn:l.length=n)(h:1<=n):val l≠0:=by
 have:=C9 t (by intro e;rw [e] at hn;simp at hn;omega);omega
theorem Ti{l:List Nat}{n:Nat}(t:ed l)(hn:l.length=n)(h:1<=n):vB false l=true:=by
 unfold vB;rw [if_neg af,bne_iff_ne];refine t _ ?_;rw [aiJ,qP af]
theorem Uc{l:List Nat}{n:Nat}(t:ed l)(hn:l.length=n)(h:1<=n):zv false l=(val l:Int):=by
 unfold zv;rw [Ti t hn h];rfl
theorem LZ{g:Nat} : bg g=[1]↔g=1:=by
 constructor
 ·intro h
  have:=bG g;rw [h] at this;exact this.symm
 ·intro h
  subst h;exact Xd af af
end Lw
namespace Go.Proofs.AZQ
open Go Go.RowKit Lw
theorem Fj(s:Bool)(A:Option Addr)(n c:Nat)(w:World):Sem.run Tryz.prog (Instr.field 109 (.agg #[.bool s,.slice A n c]) 1) w = .ok (.slice A n c) w:=ah
theorem uq(A:Option Addr)(ns:List Nat)(n c B:Nat)(w:World)(h:Rd w B A ns)(hn:ns.length=n)(hl:n<=16777216) :
  Calls Tryz.prog 127 #[.slice A n c] w fun e w'=>e = .returned (.bool (decide (ns=[1])))/\Below w.heap.size w w':=by
 refine (ZK A ns n c B w h hn hl).mono ?_;rintro e w' ⟨rfl,q,rfl⟩;exact ⟨rfl,below_drewN' _ _ q⟩
theorem O8(A:Option Addr)(ns:List Nat)(n c B:Nat)(w:World)(h:Rd w B A ns)(hn:ns.length=n)(h1:1<=n)(h2:n<=2) :
  Calls Tryz.prog 246 #[.slice A n c] w fun e w'=>e = .returned (.int .u64 (val ns:Int))/\Below w.heap.size w w':=by
 refine (ZL A ns n c B w h hn h1 h2).mono ?_;rintro e w' ⟨rfl,q,rfl⟩;exact ⟨rfl,below_drewN' _ _ q⟩
theorem XQ(x y:Nat)(w:World)(hx:x<=18446744073709551615)(hy:y<=18446744073709551615)(hx0:x≠0)(hy0:y≠0)(ht:Tz w) :
  Calls Tryz.prog 188 #[.int .u64 x,.int .u64 y] w fun e w'=>e = .returned (.int .u64 (Nat.gcd x y:Nat))/\Below w.heap.size w w':=by
 refine (XR x y w hx hy hx0 hy0 ht).mono ?_;rintro e w' ⟨rfl,q,rfl⟩;exact ⟨rfl,below_drewN' _ _ q⟩
set_option maxRecDepth 100000 in
set_option maxHeartbeats 3200000 in
theorem WN(A A':Option Addr)(ns ms:List Nat)(n m c c' B B':Nat)(w:World)(h:Rd w B A ns)(h':Rd w B' A' ms)(hB:B<=w.heap.size)(hB':B'<=w.heap.size)(hn:ns.length=n)(hm:ms.length=m)(hl:n<=8388608)(hl':m<=8388608)(hc:n<=c)(hc':m<=c')(ht:Tz w)(tn:ed ns)(tm:ed ms)(h1:1<=n)(h2:1<=m) :
  Calls Tryz.prog 201 #[.slice A n c,.slice A' m c'] w fun e w'=>e = .returned (.bool (cp ns ms))/\Below w.heap.size w w':=by
 have hone:=fun W hR=>uq A ns n c B W hR hn af;have hone':=fun W hR=>uq A' ms m c' B' W hR hm af
 by_cases e1:ns=[1]
 ·have HC:=Lib.hid (WQ (ms:=ms) e1)
  rw [decide_eq_true e1] at hone;have HO:=Lib.hid hone;clear hone hone' e1 hn hm
  go_enter agH,agI
  go_wp2_with fail
  refine (HO.out _ h).mono ?_;rintro e w1 ⟨rfl,hb1⟩
  go_wp2_with fail
  go_ret
  exact ⟨by rw [HC.out];rfl,hb1⟩
 by_cases e2:ms=[1]
 ·have HC:=Lib.hid (WR (ns:=ns) e2)
  rw [decide_eq_false e1] at hone;rw [decide_eq_true e2] at hone';have HO:=Lib.hid hone;have sN:=Lib.hid hone';clear hone hone' e1 e2 hn hm
  go_enter agH,agI
  go_wp2_with fail
  refine (HO.out _ h).mono ?_;rintro e w1 ⟨rfl,hb1⟩
  go_wp2_with fail
  refine (sN.out _ (h'.next hb1 hB')).mono ?_;rintro e w2 ⟨rfl,hb2⟩;have gu:=bQ hb1 hb2 (ahj _)
  go_wp2_with fail
  go_ret
  exact ⟨by rw [HC.out];rfl,gu⟩
 rw [decide_eq_false e1] at hone;rw [decide_eq_false e2] at hone';have HO:=Lib.hid hone;have sN:=Lib.hid hone';have HT:=Lib.hid ht
 by_cases hs:n<=2/\m<=2
 ·obtain ⟨hs1,hs2⟩:=hs
  have hj:=fun W hR=>O8 A ns n c B W hR hn h1 hs1;have hj':=fun W hR=>O8 A' ms m c' B' W hR hm h2 hs2;have hx:=yz tn hn h1;have hy:=yz tm hm h2
  have hxl:val ns<=18446744073709551615:=by
   have h3:=dQ h.bI;have h4:pw ns.length<=pw 2:=dY af;have h5:pw 2=18446744073709551616:=rfl;omega
  have hyl:val ms<=18446744073709551615:=by
   have h3:=dQ h'.bI;have h4:pw ms.length<=pw 2:=dY af;have h5:pw 2=18446744073709551616:=rfl;omega
  have hd:=fun W hW=>XQ (val ns) (val ms) W hxl hyl hx hy hW;obtain ⟨g,hg⟩ : ∃ g,g=Nat.gcd (val ns) (val ms):=⟨_,rfl⟩;rw [<- hg] at hd;have HC:Hid (((g:Int)==1)=cp ns ms):=Lib.hid (by unfold cp;rw [<- hg,Bool.eq_iff_iff,beq_iff_eq,beq_iff_eq];omega);have HJ:=Lib.hid hj;have Uy:=Lib.hid hj';have HD:=Lib.hid hd;clear hone hone' e1 e2 hn hm hj hj' hd hg hx hy hxl hyl ht
  go_enter agH,agI
  go_wp2_with fail
  refine (HO.out _ h).mono ?_;rintro e w1 ⟨rfl,hb1⟩
  go_wp2_with fail
  refine (sN.out _ (h'.next hb1 hB')).mono ?_;rintro e w2 ⟨rfl,hb2⟩;have gu:=bQ hb1 hb2 (ahj _)
  go_wp2_with fail
  refine (HJ.out _ (h.next gu hB)).mono ?_;rintro e w3 ⟨rfl,hb3⟩;have NL:=bQ gu hb3 (ahj _)
  go_wp2_with fail
  refine (Uy.out _ (h'.next NL hB')).mono ?_;rintro e w4 ⟨rfl,hb4⟩;have NM:=bQ NL hb4 (ahj _)
  go_wp2_with fail
  refine (HD.out _ (HT.out.next NM)).mono ?_;rintro e w5 ⟨rfl,hb5⟩
  go_wp2_with fail
  go_ret
  exact ⟨congrArg (fun b=>Ending.returned (Value.bool b)) HC.out,bQ NM hb5 (ahj _)⟩
 ·have hgc:=fun W hR hR' hb hb'=>Ya false false A A' ns ms n m c c' B B' W hR hR' hb hb' hn hm hl hl' hc hc'
  rw [Uc tn hn h1,Uc tm hm h2,ahx,ahx] at hgc;obtain ⟨g,hg⟩ : ∃ g,g=Nat.gcd (val ns) (val ms):=⟨_,rfl⟩;rw [<- hg] at hgc;have HC:Hid (decide (mg (g:Int)=[1])=cp ns ms):=Lib.hid (by unfold cp mg;rw [<- hg,ahx,Bool.eq_iff_iff,decide_eq_true_iff,beq_iff_eq,LZ])
  have hgl:(mg (g:Int)).length<=16777216:=by
   unfold mg;rw [ahx,hg];refine ahk (gQ (k:=n) ?_) af;exact ahO (ai1 _ (aii (yz tn hn h1))) (by rw [<- hn];exact dQ h.bI)
  have HG:=Lib.hid hgc;clear hone hone' e1 e2 hn hm hgc hg ht;have hs':2<n\/2<m:=af;clear hs;rcases hs' with hs | hs
  ·go_enter agH,agI
   go_wp2_with fail
   refine (HO.out _ h).mono ?_;rintro e w1 ⟨rfl,hb1⟩
   go_wp2_with fail
   refine (sN.out _ (h'.next hb1 hB')).mono ?_;rintro e w2 ⟨rfl,hb2⟩;have gu:=bQ hb1 hb2 (ahj _)
   go_wp2_with fail
   refine (HG.out _ (h.next gu hB) (h'.next gu hB') (ahk hB gu.size) (ahk hB' gu.size)).mono ?_;rintro e w3 ⟨A9,c9,rfl,dM,dG,jG⟩;have hfld:=Fj (sg (g:Int)) A9 (mg (g:Int)).length c9 w3
   go_wp2_with fail
   refine (uq A9 (mg (g:Int)) _ c9 _ _ dG rfl hgl).mono ?_;rintro e w4 ⟨rfl,hb4⟩
   go_wp2_with fail
   go_ret
   exact ⟨congrArg (fun b=>Ending.returned (Value.bool b)) HC.out,bQ (bQ gu jG (ahj _)) hb4 (ahj _)⟩
  ·by_cases hn2:n<=2
   ·go_enter agH,agI
    go_wp2_with fail
    refine (HO.out _ h).mono ?_;rintro e w1 ⟨rfl,hb1⟩
    go_wp2_with fail
    refine (sN.out _ (h'.next hb1 hB')).mono ?_;rintro e w2 ⟨rfl,hb2⟩;have gu:=bQ hb1 hb2 (ahj _)
    go_wp2_with fail
    refine (HG.out _ (h.next gu hB) (h'.next gu hB') (ahk hB gu.size) (ahk hB' gu.size)).mono ?_;rintro e w3 ⟨A9,c9,rfl,dM,dG,jG⟩;have hfld:=Fj (sg (g:Int)) A9 (mg (g:Int)).length c9 w3
    go_wp2_with fail
    refine (uq A9 (mg (g:Int)) _ c9 _ _ dG rfl hgl).mono ?_;rintro e w4 ⟨rfl,hb4⟩
    go_wp2_with fail
    go_ret
    exact ⟨congrArg (fun b=>Ending.returned (Value.bool b)) HC.out,bQ (bQ gu jG (ahj _)) hb4 (ahj _)⟩
   ·have hn3:2<n:=af
    go_enter agH,agI
    go_wp2_with fail
    refine (HO.out _ h).mono ?_;rintro e w1 ⟨rfl,hb1⟩
    go_wp2_with fail
    refine (sN.out _ (h'.next hb1 hB')).mono ?_;rintro e w2 ⟨rfl,hb2⟩;have gu:=bQ hb1 hb2 (ahj _)
    go_wp2_with fail
    refine (HG.out _ (h.next gu hB) (h'.next gu hB') (ahk hB gu.size) (ahk hB' gu.size)).mono ?_;rintro e w3 ⟨A9,c9,rfl,dM,dG,jG⟩;have hfld:=Fj (sg (g:Int)) A9 (mg (g:Int)).length c9 w3
    go_wp2_with fail
    refine (uq A9 (mg (g:Int)) _ c9 _ _ dG rfl hgl).mono ?_;rintro e w4 ⟨rfl,hb4⟩
    go_wp2_with fail
    go_ret
    exact ⟨congrArg (fun b=>Ending.returned (Value.bool b)) HC.out,bQ (bQ gu jG (ahj _)) hb4 (ahj _)⟩
end Go.Proofs.AZQ
namespace Lw
open Go Go.RowKit
theorem XO{s:Bool}{ns ms:List Nat}{n m:Nat}(hn:ns.length=n)(hm:ms.length=m)(h:n=0)(h':m=0):fV s ns ms = !s:=by
 unfold fV;rw [if_pos (.inl af),decide_eq_true af];rfl
theorem MV{s:Bool}{ns ms:List Nat}{n m:Nat}(hn:ns.length=n)(hm:ms.length=m)(h:n=0\/m=0)(h':n≠m):fV s ns ms=false:=by
 unfold fV;rw [if_pos af,decide_eq_false af];rfl
theorem MS{s:Bool}{ns ms:List Nat}{n m:Nat}(hn:ns.length=n)(hm:ms.length=m)(h:1<=n)(h':1<=m):fV s ns ms=(vB false ns&&(vB false ms&&cp ns ms)):=by
 unfold fV;rw [if_neg af]
theorem Dc{l:List Nat}(h:vB false l=true):ed l:=Tq h
end Lw
namespace Go.Proofs.AZQ
open Go Go.RowKit Lw
set_option maxRecDepth 100000 in
set_option maxHeartbeats 3200000 in
theorem Nh(s:Bool)(A A':Option Addr)(ns ms:List Nat)(n m c c' B B':Nat)(w:World)(h:Rd w B A ns)(h':Rd w B' A' ms)(hB:B<=w.heap.size)(hB':B'<=w.heap.size)(hn:ns.length=n)(hm:ms.length=m)(hl:n<=8388608)(hl':m<=8388608)(hc:n<=c)(hc':m<=c')(ht:Tz w) :
  Calls Tryz.prog 137 #[.agg #[.bool s,.slice A n c,.slice A' m c']] w fun e w'=>e = .returned (.bool (fV s ns ms))/\Below w.heap.size w w':=by
 have hb1:=(Below.refl w.heap.size w).alloc (ahj _) (.cells #[.bool s,.slice A n c,.slice A' m c'] 40);obtain ⟨e0,e1,e2,e3,e4,e5⟩:=(bT.new w 40 (.bool s) (.slice A n c) (.slice A' m c')).cells
 by_cases h0:n=0
 ·by_cases h0':m=0
  ·have HV:=Lib.hid (XO (s:=s) hn hm h0 h0')
   subst h0 h0';clear hn hm ht
   go_enter ag9,ag'
   go_wp2_with fail
   go_ret
   exact ⟨congrArg (fun b=>Ending.returned (Value.bool b)) HV.out.symm,hb1⟩
  ·have HV:=Lib.hid (MV (s:=s) hn hm (.inl h0) af)
   have hq:((0:Int)==(m:Int))=false:=by rw [beq_eq_false_iff_ne];omega
   subst h0;clear hn hm ht
   go_enter ag9,ag'
   go_wp2_with fail
   go_ret
   exact ⟨congrArg (fun b=>Ending.returned (Value.bool b)) HV.out.symm,hb1⟩
 have pF:((n:Int)==0)=false:=by rw [beq_eq_false_iff_ne];omega
 by_cases h0':m=0
 ·have HV:=Lib.hid (MV (s:=s) hn hm (.inr h0') af)
  subst h0';clear hn hm ht
  go_enter ag9,ag'
  go_wp2_with fail
  go_ret
  exact ⟨congrArg (fun b=>Ending.returned (Value.bool b)) HV.out.symm,hb1⟩
 have hqm:((m:Int)==0)=false:=by rw [beq_eq_false_iff_ne];omega
 have HV:=Lib.hid (MS (s:=s) hn hm af af);have hv:=fun W hR hb=>Dp false A ns n c B W hR hb hn af;have hv':=fun W hR hb=>Dp false A' ms m c' B' W hR hb hm af;have hcp:=fun W hR hR' hb hb' hT t1 t2=>WN A A' ns ms n m c c' B B' W hR hR' hb hb' hn hm hl hl' hc hc' hT t1 t2 af af;have Eo:Hid (vB false ns=true->ed ns):=Lib.hid Dc;have Em:Hid (vB false ms=true->ed ms):=Lib.hid Dc;have HT:=Lib.hid ht;obtain ⟨v1,hv1⟩ : ∃ v,v=vB false ns:=⟨_,rfl⟩;obtain ⟨v2,hv2⟩ : ∃ v,v=vB false ms:=⟨_,rfl⟩;rw [<- hv1] at hv HV Eo;rw [<- hv2] at hv' HV Em;have HA:=Lib.hid hv;have HA':=Lib.hid hv';have HC:=Lib.hid hcp;clear hv hv' hcp hn hm ht h0 h0' hv1 hv2
 go_enter ag9,ag'
 go_wp2_with fail
 go_region
 ·have hB1:Below w.heap.size w (((w.alloc (.cells #[.bool s,.slice A n c,.slice A' m c'] 40)).alloc (.cells #[.bool false,.slice A n c] 109)).alloc (.cells #[.bool false,.slice A' m c'] 109)).drew:=((hb1.alloc (by simp) _).alloc (by simp;omega) _).drew
  have T0:bT (((w.alloc (.cells #[.bool s,.slice A n c,.slice A' m c'] 40)).alloc (.cells #[.bool false,.slice A n c] 109)).alloc (.cells #[.bool false,.slice A' m c'] 109)).drew w.heap.size 40 (.bool s) (.slice A n c) (.slice A' m c'):=(((bT.new w 40 (.bool s) (.slice A n c) (.slice A' m c')).next ((Below.refl _ _).alloc (ahj _) (.cells #[.bool false,.slice A n c] 109))).next ((Below.refl _ _).alloc (ahj _) (.cells #[.bool false,.slice A' m c'] 109))).drew
  have Ta:Two (((w.alloc (.cells #[.bool s,.slice A n c,.slice A' m c'] 40)).alloc (.cells #[.bool false,.slice A n c] 109)).alloc (.cells #[.bool false,.slice A' m c'] 109)).drew (w.heap.size+1) 109 (.bool false) (.slice A n c):=by
   have h9:=(Two.new (w.alloc (.cells #[.bool s,.slice A n c,.slice A' m c'] 40)) 109 (.bool false) (.slice A n c)).alloc (.cells #[.bool false,.slice A' m c'] 109);rw [World.size_alloc] at h9;exact h9
  have Tb:Two (((w.alloc (.cells #[.bool s,.slice A n c,.slice A' m c'] 40)).alloc (.cells #[.bool false,.slice A n c] 109)).alloc (.cells #[.bool false,.slice A' m c'] 109)).drew (w.heap.size+1+1) 109 (.bool false) (.slice A' m c'):=by
   have h9:=Two.new ((w.alloc (.cells #[.bool s,.slice A n c,.slice A' m c'] 40)).alloc (.cells #[.bool false,.slice A n c] 109)) 109 (.bool false) (.slice A' m c');rw [World.size_alloc,World.size_alloc] at h9;exact h9
  have R1:=h.next hB1 hB;have R2:=h'.next hB1 hB';generalize (((w.alloc (.cells #[.bool s,.slice A n c,.slice A' m c'] 40)).alloc (.cells #[.bool false,.slice A n c] 109)).alloc (.cells #[.bool false,.slice A' m c'] 109)).drew=W at *;obtain ⟨p0,p1,_,_⟩:=Ta.facts;clear e0 e1 e2 e3 e4 e5
  go_wp2_with fail
  refine (HA.out _ R1 (ahk hB hB1.size)).mono ?_;rintro e w1 ⟨rfl,hb2⟩;have hB2:=bQ hB1 hb2 (ahj _);obtain ⟨p2,p3,_,_⟩:=(Tb.next hb2).facts;clear p0 p1
  cases v1
  ·go_wp2_with fail
   go_ret
   exact ⟨congrArg (fun b=>Ending.returned (Value.bool b)) HV.out.symm,hB2⟩
  ·go_wp2_with fail
   refine (HA'.out _ (R2.next hb2 (ahk hB' hB1.size)) (ahk hB' hB2.size)).mono ?_;rintro e w2 ⟨rfl,hb3⟩;have hB3:=bQ hB2 hb3 (ahj _);have T3:=(T0.next hb2).next hb3;obtain ⟨f0,f1,f2,f3,f4,f5⟩:=T3.cells;clear p2 p3
   cases v2
   ·go_wp2_with fail
    go_ret
    exact ⟨congrArg (fun b=>Ending.returned (Value.bool b)) HV.out.symm,hB3⟩
   ·go_wp2_with fail
    refine (HC.out _ (h.next hB3 hB) (h'.next hB3 hB') (ahk hB hB3.size) (ahk hB' hB3.size) (HT.out.next hB3) (Eo.out (by first | rfl | trivial)) (Em.out (by first | rfl | trivial))).mono ?_;rintro e w3 ⟨rfl,hb4⟩
    go_wp2_with fail
    go_ret
    exact ⟨congrArg (fun b=>Ending.returned (Value.bool b)) HV.out.symm,bQ hB3 hb4 (ahj _)⟩
 ·have hB1:Below w.heap.size w (((w.alloc (.cells #[.bool s,.slice A n c,.slice A' m c'] 40)).alloc (.cells #[.bool false,.slice A' m c'] 109)).alloc (.cells #[.bool false,.slice A n c] 109)).drew:=((hb1.alloc (by simp) _).alloc (by simp;omega) _).drew
  have T0:bT (((w.alloc (.cells #[.bool s,.slice A n c,.slice A' m c'] 40)).alloc (.cells #[.bool false,.slice A' m c'] 109)).alloc (.cells #[.bool false,.slice A n c] 109)).drew w.heap.size 40 (.bool s) (.slice A n c) (.slice A' m c'):=(((bT.new w 40 (.bool s) (.slice A n c) (.slice A' m c')).next ((Below.refl _ _).alloc (ahj _) (.cells #[.bool false,.slice A' m c'] 109))).next ((Below.refl _ _).alloc (ahj _) (.cells #[.bool false,.slice A n c] 109))).drew
  have Ta:Two (((w.alloc (.cells #[.bool s,.slice A n c,.slice A' m c'] 40)).alloc (.cells #[.bool false,.slice A' m c'] 109)).alloc (.cells #[.bool false,.slice A n c] 109)).drew (w.heap.size+1) 109 (.bool false) (.slice A' m c'):=by
   have h9:=(Two.new (w.alloc (.cells #[.bool s,.slice A n c,.slice A' m c'] 40)) 109 (.bool false) (.slice A' m c')).alloc (.cells #[.bool false,.slice A n c] 109);rw [World.size_alloc] at h9;exact h9
  have Tb:Two (((w.alloc (.cells #[.bool s,.slice A n c,.slice A' m c'] 40)).alloc (.cells #[.bool false,.slice A' m c'] 109)).alloc (.cells #[.bool false,.slice A n c] 109)).drew (w.heap.size+1+1) 109 (.bool false) (.slice A n c):=by
   have h9:=Two.new ((w.alloc (.cells #[.bool s,.slice A n c,.slice A' m c'] 40)).alloc (.cells #[.bool false,.slice A' m c'] 109)) 109 (.bool false) (.slice A n c);rw [World.size_alloc,World.size_alloc] at h9;exact h9
  have R1:=h.next hB1 hB;have R2:=h'.next hB1 hB';generalize (((w.alloc (.cells #[.bool s,.slice A n c,.slice A' m c'] 40)).alloc (.cells #[.bool false,.slice A' m c'] 109)).alloc (.cells #[.bool false,.slice A n c] 109)).drew=W at *;obtain ⟨p0,p1,_,_⟩:=Tb.facts;clear e0 e1 e2 e3 e4 e5
  go_wp2_with fail
  refine (HA.out _ R1 (ahk hB hB1.size)).mono ?_;rintro e w1 ⟨rfl,hb2⟩;have hB2:=bQ hB1 hb2 (ahj _);obtain ⟨p2,p3,_,_⟩:=(Ta.next hb2).facts;clear p0 p1
  cases v1
  ·go_wp2_with fail
   go_ret
   exact ⟨congrArg (fun b=>Ending.returned (Value.bool b)) HV.out.symm,hB2⟩
  ·go_wp2_with fail
   refine (HA'.out _ (R2.next hb2 (ahk hB' hB1.size)) (ahk hB' hB2.size)).mono ?_;rintro e w2 ⟨rfl,hb3⟩;have hB3:=bQ hB2 hb3 (ahj _);have T3:=(T0.next hb2).next hb3;obtain ⟨f0,f1,f2,f3,f4,f5⟩:=T3.cells;clear p2 p3
   cases v2
   ·go_wp2_with fail
    go_ret
    exact ⟨congrArg (fun b=>Ending.returned (Value.bool b)) HV.out.symm,hB3⟩
   ·go_wp2_with fail
    refine (HC.out _ (h.next hB3 hB) (h'.next hB3 hB') (ahk hB hB3.size) (ahk hB' hB3.size) (HT.out.next hB3) (Eo.out (by first | rfl | trivial)) (Em.out (by first | rfl | trivial))).mono ?_;rintro e w3 ⟨rfl,hb4⟩
    go_wp2_with fail
    go_ret
    exact ⟨congrArg (fun b=>Ending.returned (Value.bool b)) HV.out.symm,bQ hB3 hb4 (ahj _)⟩
def kn(b:Bool)(s:Bool)(A A':Option Addr)(n m c c':Nat):Value:=if b then .agg #[.bool s,.slice A n c,.slice A' m c'] else .agg #[.bool false,.slice none 0 0,.slice none 0 0]
set_option maxRecDepth 100000 in
set_option maxHeartbeats 3200000 in
theorem XV(s:Bool)(A A':Option Addr)(ns ms:List Nat)(n m c c' B B':Nat)(w:World)(h:Rd w B A ns)(h':Rd w B' A' ms)(hB:B<=w.heap.size)(hB':B'<=w.heap.size)(hn:ns.length=n)(hm:ms.length=m)(hl:n<=8388608)(hl':m<=8388608)(hc:n<=c)(hc':m<=c')(ht:Tz w) :
  Calls Tryz.prog 116 #[.agg #[.bool s,.slice A n c,.slice A' m c']] w fun e w'=>e = .returned (kn (n != 0&&fV s ns ms) s A A' n m c c')/\Below w.heap.size w w':=by
 have hb1:=((Below.refl w.heap.size w).alloc (ahj _) (.cells #[.bool s,.slice A n c,.slice A' m c'] 40)).alloc (by simp) (.cells #[.bool false,.slice none 0 0,.slice none 0 0] 40);have T0:bT ((w.alloc (.cells #[.bool s,.slice A n c,.slice A' m c'] 40)).alloc (.cells #[.bool false,.slice none 0 0,.slice none 0 0] 40)) w.heap.size 40 (.bool s) (.slice A n c) (.slice A' m c'):=(bT.new w 40 (.bool s) (.slice A n c) (.slice A' m c')).next ((Below.refl _ _).alloc (ahj _) (.cells #[.bool false,.slice none 0 0,.slice none 0 0] 40))
 have T1:bT ((w.alloc (.cells #[.bool s,.slice A n c,.slice A' m c'] 40)).alloc (.cells #[.bool false,.slice none 0 0,.slice none 0 0] 40)) (w.heap.size+1) 40 (.bool false) (.slice none 0 0) (.slice none 0 0):=by
  have h9:=bT.new (w.alloc (.cells #[.bool s,.slice A n c,.slice A' m c'] 40)) 40 (.bool false) (.slice none 0 0) (.slice none 0 0);rw [World.size_alloc] at h9;exact h9
 obtain ⟨e0,e1,e2,e3,e4,e5⟩:=T0.cells;obtain ⟨f0,f1,f2,f3,f4,f5⟩:=T1.cells
 by_cases h0:n=0
 ·have HV:Hid ((n != 0&&fV s ns ms)=false):=Lib.hid (by rw [h0];rfl)
  rw [HV.out];subst h0;clear hn hm ht HV
  go_enter Tryz.func116,Tryz.ntmps116
  go_wp2_with fail
  refine bodyPost_ret (v := .agg #[.bool false,.slice none 0 0,.slice none 0 0]) (by simp [results,Tryz.results116,go_sem,f0,f1,f2]) rfl ?_;exact ⟨rfl,hb1⟩
 ·have HV:Hid ((n != 0&&fV s ns ms)=fV s ns ms):=Lib.hid (by rw [bne_iff_ne.2 h0];rfl)
  rw [HV.out];have pF:((n:Int)==0)=false:=by rw [beq_eq_false_iff_ne];omega
  have hv:=fun W hR hR' hb hb' hT=>Nh s A A' ns ms n m c c' B B' W hR hR' hb hb' hn hm hl hl' hc hc' hT;obtain ⟨b,hb⟩ : ∃ b,b=fV s ns ms:=⟨_,rfl⟩;rw [<- hb] at hv ⊢;have HF:=Lib.hid hv;have HT:=Lib.hid ht;clear hv hb hn hm ht h0 HV
  go_enter Tryz.func116,Tryz.ntmps116
  go_wp2_with fail
  refine (HF.out _ (h.next hb1 hB) (h'.next hb1 hB') (ahk hB hb1.size) (ahk hB' hb1.size) (HT.out.next hb1)).mono ?_;rintro e w1 ⟨rfl,hb2⟩;have hb3:=bQ hb1 hb2 (ahj _);have K0:=T0.next hb2;have K1:=T1.next hb2;clear e0 e1 e2 e3 e4 e5 f0 f1 f2 f3 f4 f5;obtain ⟨e0,e1,e2,e3,e4,e5⟩:=K0.cells;obtain ⟨f0,f1,f2,f3,f4,f5⟩:=K1.cells
  cases b
  ·go_wp2_with fail
   refine bodyPost_ret (v := .agg #[.bool false,.slice none 0 0,.slice none 0 0]) (by simp [results,Tryz.results116,go_sem,f0,f1,f2]) rfl ?_;exact ⟨rfl,((hb3.setCell (by simp) _).setCell (by simp) _).setCell (by simp) _⟩
  ·go_wp2_with fail
   refine bodyPost_ret (v := .agg #[.bool s,.slice A n c,.slice A' m c']) (by simp [results,Tryz.results116,go_sem,f0,f1,f2]) rfl ?_;exact ⟨rfl,((hb3.setCell (by simp) _).setCell (by simp) _).setCell (by simp) _⟩
end Go.Proofs.AZQ
namespace Lw
open Go Go.RowKit
def qv(s:Bool)(ns ms:List Nat):Rat:=if fV s ns ms then Rat.divInt (if s then -(val ns:Int) else (val ns:Int)) (val ms:Int) else 0
theorem Fg{s:Bool}{ns ms:List Nat}(h:fV s ns ms=true)(hw:bF ns)(hw':bF ms):rs (qv s ns ms)=s/\rn (qv s ns ms)=ns/\rd (qv s ns ms)=ms:=by
 have hq:qv s ns ms=Rat.divInt (if s then -(val ns:Int) else (val ns:Int)) (val ms:Int):=by unfold qv;rw [if_pos h]
 unfold fV at h
 split at h
 ·rename_i h0
  have h2:ns.length=ms.length/\s=false:=by grind
  have e1:ns=[]:=by grind
  have e2:ms=[]:=by grind
  obtain ⟨_,h2⟩:=h2;subst e1 e2 h2;rw [hq,show Rat.divInt (if false=true then -(val []:Int) else (val []:Int)) (val []:Int)=0 from Rat.zero_divInt _];exact f_zero
 ·rename_i h0
  have h4:vB false ns=true/\vB false ms=true/\cp ns ms=true:=by grind
  obtain ⟨h1,h2,h3⟩:=h4;have t1:=Dc h1;have t2:=Dc h2;have v1:val ns≠0:=yz t1 rfl af;have v2:val ms≠0:=yz t2 rfl af;have hg:Nat.gcd (val ns) (val ms)=1:=by unfold cp at h3;simpa using h3
  have hz:(if s then -(val ns:Int) else (val ns:Int)).natAbs=val ns:=af;have hf:=MW (n:=if s then -(val ns:Int) else (val ns:Int)) (d:=(val ms:Int)) (by split <;> omega) af;rw [hz,ahx,hg,Nat.div_one,Nat.div_one,wJ hw t1,wJ hw' t2] at hf;grind
theorem Rf{q:Rat} : rn q=[]↔q=0:=by
 unfold rn;rw [ig,Int.natAbs_eq_zero,ai0]
theorem abH{q:Rat} : rd q=[]↔q=0:=by
 unfold rd
 split
 ·simp_all
 ·rename_i h
  rw [ig];constructor
  ·intro e;exact absurd e q.den_nz
  ·simp_all
theorem Cc{q:Rat}(h:q≠0):rd q=bg q.den:=by
 unfold rd;rw [if_neg (fun e=>h (ai0.1 e))]
theorem Jf{N:Nat}(h:N≠0):vB false (bg N)=true:=by
 refine Ti (fB N) rfl ?_;rcases ahE (bg N).length with e | e
 ·exact absurd (ig.1 (ahB e)) h
 ·exact e
theorem zC(q:Rat):fV (rs q) (rn q) (rd q)=true:=by
 by_cases h:q=0
 ·subst h;rfl
 ·have h1:q.num.natAbs≠0:=fun e=>h (ai0.1 (Int.natAbs_eq_zero.1 e))
  have l1:rn q≠[]:=fun e=>h (Rf.1 e);have l2:rd q≠[]:=fun e=>h (abH.1 e);have l3:(rn q).length≠0:=by grind
  have l4:(rd q).length≠0:=by grind
  rw [MS rfl rfl af af,Cc h];unfold rn;rw [Jf h1,Jf q.den_nz];unfold cp;rw [bG,bG,show Nat.gcd q.num.natAbs q.den=1 from q.reduced]
  rfl
theorem adt(q:Rat):(if rs q then -(val (rn q):Int) else (val (rn q):Int))=q.num:=by
 unfold rs rn;rw [bG];grind
theorem x9(q:Rat):qv (rs q) (rn q) (rd q)=q:=by
 unfold qv;rw [if_pos (zC q),adt]
 by_cases h:q=0
 ·simp_all
 ·rw [Cc h,bG]
  simp_all
theorem PY(q:Rat):zv (rs q) (rn q)=q.num/\vB (rs q) (rn q)=true:=⟨sG q.num,qw q.num⟩
theorem LX{q:Rat}(h:q≠0):zv false (rd q)=(q.den:Int)/\vB false (rd q)=true:=by
 rw [Cc h];have h1:=Jf q.den_nz;refine ⟨?_,h1⟩;unfold zv;rw [h1,bG];rfl
structure Qn where
 v:Value
 q:Rat
 k:Nat
 b:Bool
def dn(w:World)(e:Qn):Prop := ∃ (s:Bool) (A:Option Addr) (n c:Nat) (A':Option Addr) (n' c':Nat) (ns ms:List Nat),e.v = .agg #[.bool s,.slice A n c,.slice A' n' c']/\Rd w w.heap.size A ns/\Rd w w.heap.size A' ms/\ns.length=n/\ms.length=n'/\n<=e.k/\n'<=e.k/\n<=c/\n'<=c'/\qv s ns ms=e.q/\fV s ns ms=e.b
theorem dn.next{w w':World}{e:Qn}(h:dn w e)(hb:Below w.heap.size w w'):dn w' e:=by
 obtain ⟨s,A,n,c,A',n',c',ns,ms,h1,h2,h3,h4⟩:=h;exact ⟨s,A,n,c,A',n',c',ns,ms,h1,(h2.next hb (ahj _)).more hb.size,(h3.next hb (ahj _)).more hb.size,h4⟩
theorem dn.own{w:World}{s:Bool}{A A':Option Addr}{n c n' c' k:Nat}{q:Rat}(h:dn w ⟨.agg #[.bool s,.slice A n c,.slice A' n' c'],q,k,true⟩) :
  s=rs q/\n=(rn q).length/\n'=(rd q).length/\Rd w w.heap.size A (rn q)/\Rd w w.heap.size A' (rd q)/\n<=k/\n'<=k/\n<=c/\n'<=c':=by
 obtain ⟨s',A1,n1,c1,A2,n2,c2,ns,ms,h1,h2,h3,h4,h5,h6,h7,h8,h9,h10,h11⟩:=h;dsimp only at h1 h6 h7 h10 h11
 injection h1 with h1
 injection h1 with h1;simp only [List.cons.injEq,Value.bool.injEq,Value.slice.injEq,and_true] at h1;obtain ⟨rfl,⟨rfl,rfl,rfl⟩,rfl,rfl,rfl⟩:=h1;have:=Fg h11 h2.bI h3.bI;rw [h10] at this;obtain ⟨g1,g2,g3⟩:=this;rw [g1,g2,g3];exact ⟨rfl,h4.symm,h5.symm,h2,h3,h6,h7,h8,h9⟩
theorem dn.lt{w:World}{v:Value}{k:Nat}{q:Rat}(h:dn w ⟨v,q,k,true⟩):q.num.natAbs<pw k/\q.den<pw (k+1):=by
 obtain ⟨s',A1,n1,c1,A2,n2,c2,ns,ms,h1,h2,h3,h4,h5,h6,h7,h8,h9,h10,h11⟩:=h;dsimp only at h6 h7 h10 h11;have:=Fg h11 h2.bI h3.bI;rw [h10] at this;obtain ⟨g1,g2,g3⟩:=this;constructor
 ·have e:=dQ h2.bI
  rw [<- g2] at e h4;unfold rn at e h4;rw [bG] at e;exact ahr e (dY af)
 ·by_cases hq:q=0
  ·subst hq
   show 1<pw (k+1);have:=iV k;rw [dS];omega
  ·have e:=dQ h3.bI
   rw [<- g3] at e h5;rw [Cc hq] at e h5;rw [bG] at e;exact ahr e (dY af)
structure Bt where
 g:Nat
 x:Value
 y:Value
 z:Value
end Lw
namespace Go.Proofs.AZQ
open Go Go.RowKit Lw
structure bu(W0 w:World)(bs:List Bx)(L:List En)(ts:List Bt)(M:List Qn):Prop where
 env:Env 109 W0 w bs L
 fr : ∀ e∈M,dn w e
 tri : ∀ b∈ts,bT w b.g 40 b.x b.y b.z
 tz:Tz W0
 tab:Tab W0
 lo : ∀ b∈bs,W0.heap.size<=b.g
 lot : ∀ b∈ts,W0.heap.size<=b.g
section
variable {W0 w w':World} {bs:List Bx} {L:List En} {ts:List Bt} {M:List Qn}
theorem bu.next(h:bu W0 w bs L ts M)(hb:Below w.heap.size w w'):bu W0 w' bs L ts M :=
 ⟨h.env.next hb,fun e he=>(h.fr e he).next hb,fun b hb'=>(h.tri b hb').next hb,h.tz,h.tab,h.lo,h.lot⟩
theorem bu.drew(h:bu W0 w bs L ts M):bu W0 w.drew bs L ts M:=h.next (Below.refl _ w).drew
theorem bu.below(h:bu W0 w bs L ts M):Below W0.heap.size W0 w:=h.env.below
theorem bu.alloc(h:bu W0 w bs L ts M)(o:Obj):bu W0 (w.alloc o) bs L ts M:=h.next ((Below.refl _ w).alloc (ahj _) o)
theorem bu.here(h:bu W0 w bs L ts M):bu w w [] L [] M:=⟨⟨h.env.ops,fun _ hb=>by simp at hb,Below.refl _ _⟩,h.fr,fun _ hb=>by simp at hb,h.tz.next h.env.below,h.tab.next h.env.below,fun _ hb=>by simp at hb,fun _ hb=>by simp at hb⟩
theorem bu.back{L':List En}{M':List Qn}(h:bu W0 w bs L ts M)(h':bu w w' [] L' [] M'):bu W0 w' bs L' ts M' :=
 ⟨⟨h'.env.ops,(h.env.next h'.below).box,bQ h.below h'.below (ahj _)⟩,h'.fr,(h.next h'.below).tri,h.tz,h.tab,h.lo,h.lot⟩
theorem bu.cons(h:bu W0 w bs L ts M){e:Qn}(he:dn w e):bu W0 w bs L ts (e::M) :=
 ⟨h.env,fun e' h'=>by
  rcases List.mem_cons.1 h' with rfl | h'
  ·exact he
  ·exact h.fr e' h',h.tri,h.tz,h.tab,h.lo,h.lot⟩
theorem bu.push(h:bu W0 w bs L ts M){e:En}(he:cZ w e):bu W0 w bs (e::L) ts M:=⟨h.env.cons he,h.fr,h.tri,h.tz,h.tab,h.lo,h.lot⟩
theorem bu.pick{L':List En}{M':List Qn}(h:bu W0 w bs L ts M)(h1 : ∀ e∈L',e∈L)(h2 : ∀ e∈M',e∈M):bu W0 w bs L' ts M' :=
 ⟨⟨fun e he=>h.env.ops e (h1 e he),h.env.box,h.env.below⟩,fun e he=>h.fr e (h2 e he),h.tri,h.tz,h.tab,h.lo,h.lot⟩
variable {s s':Bool} {A A':Option Addr} {n c n' c' k k':Nat} {q:Rat} {v:Value}
theorem bu.parts(h:bu W0 w bs L ts M)(hm:⟨.agg #[.bool s,.slice A n c,.slice A' n' c'],q,k,true⟩∈M)(hq:q≠0) :
  bu W0 w bs (⟨.agg #[.bool s,.slice A n c],q.num,k,true⟩::⟨.agg #[.bool false,.slice A' n' c'],(q.den:Int),k,true⟩::L) ts M:=by
 obtain ⟨rfl,rfl,rfl,r1,r2,k1,k2,k3,k4⟩:=(h.fr _ hm).own;refine (h.push ⟨false,A',_,c',rd q,_,rfl,r2,ahj _,rfl,k2,k4,(LX hq).1,(LX hq).2⟩).push ⟨rs q,A,_,c,rn q,_,rfl,r1,ahj _,rfl,k1,k3,(PY q).1,(PY q).2⟩
theorem bu.one(h:bu W0 w bs L ts M):bu W0 w bs (⟨.agg #[.bool false,.slice none 0 0],0,0,true⟩::L) ts M:=⟨h.env.nil_,h.fr,h.tri,h.tz,h.tab,h.lo,h.lot⟩
theorem bu.zero(h:bu W0 w bs L ts M)(k:Nat):bu W0 w bs L ts (⟨.agg #[.bool false,.slice none 0 0,.slice none 0 0],0,k,true⟩::M) :=
 h.cons ⟨false,none,0,0,none,0,0,[],[],rfl,Rd.nil_ _ _ _,Rd.nil_ _ _ _,rfl,rfl,ahl _,ahl _,ahj _,ahj _,x9 0,zC 0⟩
theorem aaC{w:World}{q:Rat}{A A':Option Addr}{c c' k:Nat}(r:Rd w w.heap.size A (rn q))(r':Rd w w.heap.size A' (rd q))(hk:(rn q).length<=k)(hk':(rd q).length<=k)(hc:(rn q).length<=c)(hc':(rd q).length<=c') :
  dn w ⟨.agg #[.bool (rs q),.slice A (rn q).length c,.slice A' (rd q).length c'],q,k,true⟩ :=
 ⟨rs q,A,_,c,A',_,c',rn q,rd q,rfl,r,r',rfl,rfl,hk,hk',hc,hc',x9 q,zC q⟩
theorem ZT{q:Rat}{k:Nat}(h:q.den<pw k):(rd q).length<=k:=by
 unfold rd;split
 ·exact ahl _
 ·exact gQ h
theorem dn.tight{w:World}{v:Value}{q:Rat}{k K:Nat}(h:dn w ⟨v,q,k,true⟩)(h1:q.num.natAbs<pw K)(h2:q.den<pw K):dn w ⟨v,q,K,true⟩:=by
 obtain ⟨s,A,n,c,A',n',c',ns,ms,e1,r1,r2,e2,e3,e4,e5,e6,e7,e8,e9⟩:=h;have hf:=Fg e9 r1.bI r2.bI;rw [e8] at hf;obtain ⟨g1,g2,g3⟩:=hf;refine ⟨s,A,n,c,A',n',c',ns,ms,e1,r1,r2,e2,e3,?_,?_,e6,e7,e8,e9⟩
 ·rw [<- e2,<- g2];exact rC h1
 ·rw [<- e3,<- g3];exact ZT h2
theorem bu.XY{x y:Int}(h:bu W0 w bs L ts M)(hm:⟨.agg #[.bool s,.slice A n c],x,k,true⟩∈L)(hm':⟨.agg #[.bool s',.slice A' n' c'],y,k',true⟩∈L)(hx:x≠0)(hy:0<y)(hg:Nat.gcd x.natAbs y.natAbs=1) :
  bu W0 w bs L ts (⟨.agg #[.bool s,.slice A n c,.slice A' n' c'],Rat.divInt x y,k+k',true⟩::M):=by
 have H1:=h.env.ops _ hm;have H2:=h.env.ops _ hm';obtain ⟨a,A1,n1,c1,ns,B,e1,h2,h3,h4,h5,h6,e7,h8⟩:=H1;obtain ⟨a',A2,n2,c2,ms,B',e1',h2',h3',h4',h5',h6',gV,h8'⟩:=H2;dsimp only at e1 e7 e1' gV h5 h5' h8 h8';obtain ⟨a1,a2,_⟩:=qy (z:=x) h8 (by rw [<- e7];unfold zv;rw [if_pos h8]) h2.bI;obtain ⟨b1,b2,_⟩:=qy (z:=y) h8' (by rw [<- gV];unfold zv;rw [if_pos h8']) h2'.bI
 injection e1 with e1
 injection e1 with e1;simp only [List.cons.injEq,Value.bool.injEq,Value.slice.injEq,and_true] at e1
 injection e1' with e1'
 injection e1' with e1';simp only [List.cons.injEq,Value.bool.injEq,Value.slice.injEq,and_true] at e1';obtain ⟨rfl,rfl,rfl,rfl⟩:=e1;obtain ⟨rfl,rfl,rfl,rfl⟩:=e1';have hf:=MW hx (show y≠0 from af);rw [hg,Nat.div_one,Nat.div_one] at hf;obtain ⟨f1,f2,f3⟩:=hf
 have g1:rs (Rat.divInt x y)=s:=by
  rw [f1,decide_eq_false (show ¬ y<0 from af),<- a1];unfold sg
  cases decide (x<0) <;> rfl
 have g2:rn (Rat.divInt x y)=ns:=by rw [f2];exact a2
 have g3:rd (Rat.divInt x y)=ms:=by rw [f3];exact b2
 refine h.cons ⟨s,A,n,c,A',n',c',ns,ms,rfl,h2.more h3,h2'.more h3',h4,h4',by dsimp only;omega,by dsimp only;omega,h6,h6',?_,?_⟩
 ·rw [<- g1,<- g2,<- g3];exact x9 _
 ·rw [<- g1,<- g2,<- g3];exact zC _
end
end Go.Proofs.AZQ
namespace Lw
open Go Go.RowKit
theorem Env.here{t:TypeId}{W0 w:World}{bs:List Bx}{L:List En}(h:Env t W0 w bs L):Env t w w [] L:=⟨h.ops,fun _ hb=>by simp at hb,Below.refl _ _⟩
theorem Env.shape{t:TypeId}{W0 w:World}{bs:List Bx}{L:List En}{e:En}(h:Env t W0 w bs L)(he:e∈L) : ∃ (s:Bool) (A:Option Addr) (n c:Nat),e.v = .agg #[.bool s,.slice A n c]:=by
 obtain ⟨s,A,n,c,_,_,h1,_⟩:=h.ops e he;grind
section
variable {w:World}
theorem cZ.rH{e:En}{g n c n' c' m d:Nat}{s:Bool}{t:TypeId}{X X' D:Option Addr}(h:cZ w e)(h2:bT w g t (.bool s) (.slice X n c) (.slice X' n' c'))(s':Bool)(v:Value):cZ (((w.setCell ⟨g,0,none⟩ (.bool s')).setCell ⟨g,1,none⟩ (.slice D m d)).setCell ⟨g,2,none⟩ v) e:=by
 obtain ⟨a,A,m,d,ns,B,e1,h3,h4,h5⟩:=h;exact ⟨a,A,m,d,ns,B,e1,h3.rH h2 s' v,by simpa using h4,h5⟩
theorem dn.rH{e:Qn}{g n c n' c' m d:Nat}{s:Bool}{t:TypeId}{X X' D:Option Addr}(h:dn w e)(h2:bT w g t (.bool s) (.slice X n c) (.slice X' n' c'))(s':Bool)(v:Value):dn (((w.setCell ⟨g,0,none⟩ (.bool s')).setCell ⟨g,1,none⟩ (.slice D m d)).setCell ⟨g,2,none⟩ v) e:=by
 obtain ⟨a,A,m,d,A',m',d',ns,ms,e1,r1,r2,e2⟩:=h;exact ⟨a,A,m,d,A',m',d',ns,ms,e1,(r1.rH h2 s' v).more (by simp),(r2.rH h2 s' v).more (by simp),e2⟩
theorem dn.lF{e:Qn}{g n c:Nat}{s:Bool}{t:TypeId}{X:Option Addr}(h:dn w e)(h2:Two w g t (.bool s) (.slice X n c))(s':Bool)(v:Value):dn ((w.setCell ⟨g,0,none⟩ (.bool s')).setCell ⟨g,1,none⟩ v) e:=by
 obtain ⟨a,A,m,d,A',m',d',ns,ms,e1,r1,r2,e2⟩:=h;exact ⟨a,A,m,d,A',m',d',ns,ms,e1,(r1.lF h2 s' v).more (by simp),(r2.lF h2 s' v).more (by simp),e2⟩
theorem bT.uF{g g':Nat}{t t':TypeId}{a b c x y:Value}(h:bT w g t a b c)(h':Two w g' t' x y):g≠g':=by
 rintro rfl;unfold bT at h;unfold Two at h';grind
theorem bT.far{g:Nat}{t:TypeId}{a b c:Value}(h:bT w g t a b c){p:Addr}(hp:g≠p.block)(u:Value):bT (w.setCell p u) g t a b c:=(Below.heap_setCell w p u g hp).trans h
end
end Lw
namespace Go.Proofs.AZQ
open Go Go.RowKit Lw
def jo(W0:World)(bs:List Bx)(L:List En)(ts:List Bt)(M:List Qn)(z:Int)(k:Nat)(e:Ending)(w':World):Prop :=
 ∃ (s:Bool) (A:Option Addr) (n c:Nat),e = .returned (.agg #[.bool s,.slice A n c])/\bu W0 w' bs (⟨.agg #[.bool s,.slice A n c],z,k,true⟩::L) ts M
def kJ(W0:World)(bs:List Bx)(L:List En)(ts:List Bt)(M:List Qn)(q:Rat)(k:Nat)(e:Ending)(w':World):Prop :=
 ∃ (s:Bool) (A:Option Addr) (n c:Nat) (A':Option Addr) (n' c':Nat),e = .returned (.agg #[.bool s,.slice A n c,.slice A' n' c'])/\bu W0 w' bs L ts (⟨.agg #[.bool s,.slice A n c,.slice A' n' c'],q,k,true⟩::M)
section
variable {W0 w w':World} {bs:List Bx} {L L':List En} {ts:List Bt} {M M':List Qn}
theorem bu.step(h:bu W0 w bs L ts M)(he:Env 109 w w' [] L'):bu W0 w' bs L' ts M :=
 h.back ⟨he,(h.here.next he.below).fr,fun _ hb=>by simp at hb,h.here.tz,h.here.tab,fun _ hb=>by simp at hb,fun _ hb=>by simp at hb⟩
theorem bu.zH{z:Int}{k:Nat}{e:Ending}(h:bu W0 w bs L ts M)(hh : ∃ u,e = .returned u/\Env 109 w w' [] (⟨u,z,k,true⟩::L)):jo W0 bs L ts M z k e w':=by
 obtain ⟨u,rfl,he⟩:=hh;obtain ⟨s,A,n,c,e1⟩:=he.shape ak;subst e1;exact ⟨s,A,n,c,rfl,h.step he⟩
theorem jo.of{z:Int}{k:Nat}{e:Ending}(h:bu W0 w bs L ts M)(hh:jo w [] L [] M z k e w'):jo W0 bs L ts M z k e w':=by
 obtain ⟨s,A,n,c,rfl,he⟩:=hh;exact ⟨s,A,n,c,rfl,h.back he⟩
theorem kJ.of{q:Rat}{k:Nat}{e:Ending}(h:bu W0 w bs L ts M)(hh:kJ w [] L [] M q k e w'):kJ W0 bs L ts M q k e w':=by
 obtain ⟨s,A,n,c,A',n',c',rfl,he⟩:=hh;exact ⟨s,A,n,c,A',n',c',rfl,h.back he⟩
theorem bu.dR(h:bu W0 w bs L ts M)(x y:Value):bu W0 (w.alloc (.cells #[x,y] 109)) (⟨w.heap.size,x,y⟩::bs) L ts M :=
 have h2:=h.alloc (.cells #[x,y] 109)
 ⟨h.env.yR x y,h2.fr,h2.tri,h2.tz,h2.tab,fun b hb=>by
  rcases List.mem_cons.1 hb with rfl | hb
  ·exact h.below.size
  ·exact h.lo b hb,h.lot⟩
theorem bu.jc(h:bu W0 w bs L ts M)(x y z:Value):bu W0 (w.alloc (.cells #[x,y,z] 40)) bs L (⟨w.heap.size,x,y,z⟩::ts) M :=
 have h2:=h.alloc (.cells #[x,y,z] 40)
 ⟨h2.env,h2.fr,fun b hb=>by
  rcases List.mem_cons.1 hb with rfl | hb
  ·exact bT.new w _ x y z
  ·exact h2.tri b hb,h2.tz,h2.tab,h.lo,fun b hb=>by
  rcases List.mem_cons.1 hb with rfl | hb
  ·exact h.below.size
  ·exact h.lot b hb⟩
theorem bu.zg{g n c n' c' m d:Nat}{s:Bool}{X X' D:Option Addr}(h:bu W0 w bs L ts M)(hm:⟨g,.bool s,.slice X n c,.slice X' n' c'⟩∈ts)(s':Bool)(v:Value) :
  bu W0 (((w.setCell ⟨g,0,none⟩ (.bool s')).setCell ⟨g,1,none⟩ (.slice D m d)).setCell ⟨g,2,none⟩ v) bs L [] M :=
 have h2:=h.tri _ hm;have hg:W0.heap.size<=g:=h.lot _ hm
 ⟨⟨fun e he=>(h.env.ops e he).rH h2 s' v,fun b hb =>
  have h3:=h.env.box b hb;have hne:b.g≠g:=fun e=>h2.uF h3 e.symm
  ((h3.far (p:=⟨g,0,none⟩) hne _).far (p:=⟨g,1,none⟩) hne _).far (p:=⟨g,2,none⟩) hne _,((h.below.setCell hg _).setCell hg _).setCell hg _⟩,fun e he=>(h.fr e he).rH h2 s' v,fun _ hb=>by simp at hb,h.tz,h.tab,h.lo,fun _ hb=>by simp at hb⟩
theorem bu.ji{g n c:Nat}{s:Bool}{X:Option Addr}(h:bu W0 w bs L ts M)(hm:⟨g,.bool s,.slice X n c⟩∈bs)(bs':List Bx)(hs : ∀ b∈bs',b∈bs/\b.g≠g)(s':Bool)(v:Value) :
  bu W0 ((w.setCell ⟨g,0,none⟩ (.bool s')).setCell ⟨g,1,none⟩ v) (⟨g,.bool s',v⟩::bs') L ts M :=
 have h2:=h.env.box _ hm;have hg:W0.heap.size<=g:=h.lo _ hm
 ⟨⟨fun e he=>(h.env.ops e he).put h2 s' v,fun b hb=>by
  rcases List.mem_cons.1 hb with rfl | hb
  ·exact h2.put _ _
  ·exact ((h.env.box b (hs b hb).1).far (p:=⟨g,0,none⟩) (hs b hb).2 _).far (p:=⟨g,1,none⟩) (hs b hb).2 _,(h.below.setCell hg _).setCell hg _⟩,
  fun e he=>(h.fr e he).lF h2 s' v,fun b hb=>((h.tri b hb).far (p:=⟨g,0,none⟩) ((h.tri b hb).uF h2) _).far (p:=⟨g,1,none⟩) ((h.tri b hb).uF h2) _,h.tz,h.tab,fun b hb=>by
  rcases List.mem_cons.1 hb with rfl | hb
  ·exact hg
  ·exact h.lo b (hs b hb).1,h.lot⟩
theorem bu.done2{g n c:Nat}{s:Bool}{X:Option Addr}(h:bu W0 w bs L ts M)(hm:⟨g,.bool s,.slice X n c⟩∈bs)(s':Bool)(v:Value) :
  bu W0 ((w.setCell ⟨g,0,none⟩ (.bool s')).setCell ⟨g,1,none⟩ v) [] L [] M :=
 have h2:=h.ji hm [] (fun _ hb=>by simp at hb) s' v
 ⟨⟨h2.env.ops,fun _ hb=>by simp at hb,h2.env.below⟩,h2.fr,fun _ hb=>by simp at hb,h2.tz,h2.tab,fun _ hb=>by simp at hb,fun _ hb=>by simp at hb⟩
theorem bu.c2{g:Nat}{x y:Value}(h:bu W0 w bs L ts M)(hm:⟨g,x,y⟩∈bs):w.cell? ⟨g,0,none⟩=some x/\w.cell? ⟨g,1,none⟩=some y/\w.frozen? ⟨g,0,none⟩=false/\w.frozen? ⟨g,1,none⟩=false:=(h.env.box _ hm).facts
theorem bu.c3{g:Nat}{x y z:Value}(h:bu W0 w bs L ts M)(hm:⟨g,x,y,z⟩∈ts):w.cell? ⟨g,0,none⟩=some x/\w.cell? ⟨g,1,none⟩=some y/\w.cell? ⟨g,2,none⟩=some z/\w.frozen? ⟨g,0,none⟩=false/\w.frozen? ⟨g,1,none⟩=false/\w.frozen? ⟨g,2,none⟩=false:=(h.tri _ hm).cells
theorem bu.tl{e:En}(h:bu W0 w bs (e::L) ts M):bu W0 w bs L ts M:=⟨h.env.tail,h.fr,h.tri,h.tz,h.tab,h.lo,h.lot⟩
theorem bu.t2{g1 g2:Nat}{x1 y1 z1 x2 y2 z2:Value}(h:bu W0 w bs L (⟨g2,x2,y2,z2⟩::⟨g1,x1,y1,z1⟩::ts) M) :
  w.cell? ⟨g1,0,none⟩=some x1/\w.cell? ⟨g1,1,none⟩=some y1/\w.cell? ⟨g1,2,none⟩=some z1/\w.cell? ⟨g2,0,none⟩=some x2/\w.cell? ⟨g2,1,none⟩=some y2/\w.cell? ⟨g2,2,none⟩=some z2 :=
 ⟨(h.c3 au).1,(h.c3 au).2.1,(h.c3 au).2.2.1,(h.c3 ak).1,(h.c3 ak).2.1,(h.c3 ak).2.2.1⟩
theorem bu.c4{g1 g2 g3 g4:Nat}{x1 y1 x2 y2 x3 y3 x4 y4:Value}(h:bu W0 w (⟨g4,x4,y4⟩::⟨g3,x3,y3⟩::⟨g2,x2,y2⟩::⟨g1,x1,y1⟩::bs) L ts M) :
  w.cell? ⟨g1,0,none⟩=some x1/\w.cell? ⟨g1,1,none⟩=some y1/\w.cell? ⟨g2,0,none⟩=some x2/\w.cell? ⟨g2,1,none⟩=some y2/\w.cell? ⟨g3,0,none⟩=some x3/\w.cell? ⟨g3,1,none⟩=some y3/\w.cell? ⟨g4,0,none⟩=some x4/\w.cell? ⟨g4,1,none⟩=some y4 :=
 ⟨(h.c2 ay).1,(h.c2 ay).2.1,(h.c2 ax).1,(h.c2 ax).2.1,(h.c2 au).1,(h.c2 au).2.1,(h.c2 ak).1,(h.c2 ak).2.1⟩
theorem bu.c5{g1 g2 g3 g4 g5:Nat}{x1 y1 x2 y2 x3 y3 x4 y4 x5 y5:Value}(h:bu W0 w (⟨g5,x5,y5⟩::⟨g4,x4,y4⟩::⟨g3,x3,y3⟩::⟨g2,x2,y2⟩::⟨g1,x1,y1⟩::bs) L ts M) :
  w.cell? ⟨g1,0,none⟩=some x1/\w.cell? ⟨g1,1,none⟩=some y1/\w.cell? ⟨g2,0,none⟩=some x2/\w.cell? ⟨g2,1,none⟩=some y2/\w.cell? ⟨g3,0,none⟩=some x3/\w.cell? ⟨g3,1,none⟩=some y3/\w.cell? ⟨g4,0,none⟩=some x4/\w.cell? ⟨g4,1,none⟩=some y4/\w.cell? ⟨g5,0,none⟩=some x5/\w.cell? ⟨g5,1,none⟩=some y5 :=
 ⟨(h.c2 az).1,(h.c2 az).2.1,(h.c2 ay).1,(h.c2 ay).2.1,(h.c2 ax).1,(h.c2 ax).2.1,(h.c2 au).1,(h.c2 au).2.1,(h.c2 ak).1,(h.c2 ak).2.1⟩
theorem bu.c6{g1 g2 g3 g4 g5 g6:Nat}{x1 y1 x2 y2 x3 y3 x4 y4 x5 y5 x6 y6:Value}(h:bu W0 w (⟨g6,x6,y6⟩::⟨g5,x5,y5⟩::⟨g4,x4,y4⟩::⟨g3,x3,y3⟩::⟨g2,x2,y2⟩::⟨g1,x1,y1⟩::bs) L ts M) :
  w.cell? ⟨g1,0,none⟩=some x1/\w.cell? ⟨g1,1,none⟩=some y1/\w.cell? ⟨g2,0,none⟩=some x2/\w.cell? ⟨g2,1,none⟩=some y2/\w.cell? ⟨g3,0,none⟩=some x3/\w.cell? ⟨g3,1,none⟩=some y3/\w.cell? ⟨g4,0,none⟩=some x4/\w.cell? ⟨g4,1,none⟩=some y4/\w.cell? ⟨g5,0,none⟩=some x5/\w.cell? ⟨g5,1,none⟩=some y5/\w.cell? ⟨g6,0,none⟩=some x6/\w.cell? ⟨g6,1,none⟩=some y6 :=
 ⟨(h.c2 aA).1,(h.c2 aA).2.1,(h.c2 az).1,(h.c2 az).2.1,(h.c2 ay).1,(h.c2 ay).2.1,(h.c2 ax).1,(h.c2 ax).2.1,(h.c2 au).1,(h.c2 au).2.1,(h.c2 ak).1,(h.c2 ak).2.1⟩
theorem bu.aef{b:Bx}(h:bu W0 w (b::bs) L ts M):bu W0 w bs L ts M:=⟨h.env.aee,h.fr,h.tri,h.tz,h.tab,fun b hb=>h.lo b (.tail _ hb),h.lot⟩
theorem bu.hdi{v:Value}{z:Int}{k K:Nat}{b:Bool}(h:bu W0 w bs (⟨v,z,k,b⟩::L) ts M)(hk:cZ w ⟨v,z,k,b⟩->cZ w ⟨v,z,K,b⟩):bu W0 w bs (⟨v,z,K,b⟩::L) ts M:=h.tl.push (hk (h.env.ops _ ak))
theorem bu.b1(h:bu W0 w bs L ts M):bu W0 (w.alloc (.cells #[.bool false,.slice none 0 0] 109)) (⟨w.heap.size,.bool false,.slice none 0 0⟩::bs) L ts M:=h.dR _ _
theorem bu.b2(h:bu W0 w bs L ts M):bu W0 ((w.alloc (.cells #[.bool false,.slice none 0 0] 109)).alloc (.cells #[.bool false,.slice none 0 0] 109)) (⟨w.heap.size+1,.bool false,.slice none 0 0⟩::⟨w.heap.size,.bool false,.slice none 0 0⟩::bs) L ts M:=by
 have:=h.b1.b1
 simp_all
theorem bu.two{g:Nat}{x y:Value}(h:bu W0 w bs L ts M)(hm:⟨g,x,y⟩∈bs):Two w g 109 x y:=h.env.box _ hm
theorem bu.Ve{g:Nat}{x y:Value}(h:bu W0 w bs L ts M)(h2:Two w g 109 x y)(hg:W0.heap.size<=g):bu W0 w (⟨g,x,y⟩::bs) L ts M :=
 ⟨⟨h.env.ops,fun b hb=>by
  rcases List.mem_cons.1 hb with rfl | hb
  ·exact h2
  ·exact h.env.box b hb,h.env.below⟩,h.fr,h.tri,h.tz,h.tab,fun b hb=>by
  rcases List.mem_cons.1 hb with rfl | hb
  ·exact hg
  ·exact h.lo b hb,h.lot⟩
theorem bu.IM{g n c:Nat}{s:Bool}{X:Option Addr}(h:bu W0 w [] L ts M)(h2:Two w g 109 (.bool s) (.slice X n c))(hg:W0.heap.size<=g)(s':Bool)(v:Value) :
  bu W0 ((w.setCell ⟨g,0,none⟩ (.bool s')).setCell ⟨g,1,none⟩ v) [] L ts M :=
 ((h.Ve h2 hg).ji ak [] (fun _ hb=>by simp at hb) s' v).aef
theorem bu.bare(h:bu W0 w bs L ts M):bu W0 w [] L [] M:=⟨⟨h.env.ops,fun _ hb=>by simp at hb,h.env.below⟩,h.fr,fun _ hb=>by simp at hb,h.tz,h.tab,fun _ hb=>by simp at hb,fun _ hb=>by simp at hb⟩
theorem bu.join{bs':List Bx}{L':List En}{M':List Qn}(h:bu W0 w bs L ts M)(h':bu w w' bs' L' [] M'):bu W0 w' (bs'++bs) L' ts M' :=
 ⟨⟨h'.env.ops,fun b hb=>by
  rcases aio.1 hb with hb | hb
  ·exact h'.env.box b hb
  ·exact (h.env.next h'.below).box b hb,bQ h.below h'.below (ahj _)⟩,h'.fr,(h.next h'.below).tri,h.tz,h.tab,fun b hb=>by
  rcases aio.1 hb with hb | hb
  ·exact ahk h.below.size (h'.lo b hb)
  ·exact h.lo b hb,h.lot⟩
end
section
variable {W0 w:World} {bs:List Bx} {L:List En} {ts:List Bt} {M:List Qn} {v v':Value} {x y:Int} {k k':Nat} {b b':Bool}
theorem ZJ{z:Int}(HE:bu W0 w bs L ts M)(h1 : -9223372036854775808<=z)(h2:z<=9223372036854775807) :
  Calls Tryz.prog 88 #[.int .i64 z] w (jo W0 bs L ts M z 2):=(aax HE.env.here h1 h2).mono fun _ _ hh=>HE.zH hh
theorem O6(HE:bu W0 w bs L ts M)(h:⟨v,x,k,b⟩∈L)(hk:k<=100000) :
  Calls Tryz.prog 128 #[v] w fun e w'=>e = .returned (.string ⟨(Lib.itoa x).toArray⟩)/\bu W0 w' bs L ts M:=by
 obtain ⟨s,A,n,c,ns,B,e1,h2,h3,h4,h5,h6,e7,h8⟩:=HE.env.ops _ h;dsimp only at e1 e7 h5;subst e1 e7;exact (adU s A ns n c B w h2 h3 h4 af h6 (HE.tab.next HE.below)).mono fun e w' hh=>⟨hh.1,HE.next hh.2⟩
end
end Go.Proofs.AZQ
namespace Lw
open Go Go.RowKit
theorem cZ.weak{w:World}{v:Value}{z:Int}{k k':Nat}{b:Bool}(h:cZ w ⟨v,z,k,b⟩)(hk:k<=k'):cZ w ⟨v,z,k',b⟩:=by
 obtain ⟨s,A,n,c,ns,B,h1,h2,h3,h4,h5,h6⟩:=h;exact ⟨s,A,n,c,ns,B,h1,h2,h3,h4,ahk h5 hk,h6⟩
theorem cZ.len{w:World}{s:Bool}{A:Option Addr}{n c k:Nat}{z:Int}(h:cZ w ⟨.agg #[.bool s,.slice A n c],z,k,true⟩) :
  s=sg z/\n=(mg z).length/\Rd w w.heap.size A (mg z)/\n<=k/\n<=c:=by
 obtain ⟨s',A1,n1,c1,ns,B,e1,h2,h3,h4,h5,h6,e7,h8⟩:=h;dsimp only at e1 e7 h5 h8;obtain ⟨a1,a2,_⟩:=qy (z:=z) h8 (by rw [<- e7];unfold zv;rw [if_pos h8]) h2.bI
 injection e1 with e1
 injection e1 with e1;simp only [List.cons.injEq,Value.bool.injEq,Value.slice.injEq,and_true] at e1;obtain ⟨rfl,rfl,rfl,rfl⟩:=e1;rw [a1,a2];exact ⟨rfl,h4.symm,h2.more h3,h5,h6⟩
theorem AA{q:Rat}{n:Nat}(h:n=(rn q).length):n=0↔q=0:=by
 rw [<- Rf,<- ahT,h]
end Lw
namespace Go.Proofs.AZQ
open Go Go.RowKit Lw
section
variable {W0 w:World} {bs:List Bx} {L:List En} {ts:List Bt} {M:List Qn} {s s':Bool} {A A':Option Addr} {n c n' c' k k':Nat} {q:Rat} {x y:Int}
theorem bu.r3{g1 g2 g3:Nat}{x1 y1 x2 y2 x3 y3:Value}(h:bu W0 w (⟨g3,x3,y3⟩::⟨g2,x2,y2⟩::⟨g1,x1,y1⟩::bs) L ts M) :
  w.cell? ⟨g1,0,none⟩=some x1/\w.cell? ⟨g1,1,none⟩=some y1/\w.cell? ⟨g2,0,none⟩=some x2/\w.cell? ⟨g2,1,none⟩=some y2/\w.cell? ⟨g3,0,none⟩=some x3/\w.cell? ⟨g3,1,none⟩=some y3 :=
 ⟨(h.c2 ax).1,(h.c2 ax).2.1,(h.c2 au).1,(h.c2 au).2.1,(h.c2 ak).1,(h.c2 ak).2.1⟩
def lN(W0:World)(bs:List Bx)(L:List En)(ts:List Bt)(M:List Qn)(x y:Int)(k:Nat)(e:Ending)(w':World):Prop :=
 ∃ (s:Bool) (A:Option Addr) (n c:Nat) (s':Bool) (A':Option Addr) (n' c':Nat),e = .returned (.tuple #[.agg #[.bool s,.slice A n c],.agg #[.bool s',.slice A' n' c']])/\bu W0 w' bs (⟨.agg #[.bool s,.slice A n c],x,k,true⟩::⟨.agg #[.bool s',.slice A' n' c'],y,k,true⟩::L) ts M
theorem lN.of{w':World}{e:Ending}(h:bu W0 w bs L ts M)(hh:lN w [] L [] M x y k e w'):lN W0 bs L ts M x y k e w':=by
 obtain ⟨s,A,n,c,s',A',n',c',rfl,he⟩:=hh;exact ⟨s,A,n,c,s',A',n',c',rfl,h.back he⟩
set_option maxRecDepth 100000 in
set_option maxHeartbeats 1600000 in
theorem Qg(HE:bu W0 w bs L ts M)(h:⟨.agg #[.bool s,.slice A n c,.slice A' n' c'],q,k,true⟩∈M) :
  Calls Tryz.prog 126 #[.agg #[.bool s,.slice A n c,.slice A' n' c']] w (lN W0 bs L ts M q.num (q.den:Int) (k+2)):=by
 suffices hs:Calls Tryz.prog 126 #[.agg #[.bool s,.slice A n c,.slice A' n' c']] w (lN w [] L [] M q.num (q.den:Int) (k+2)) from hs.mono fun _ _ hh=>lN.of HE hh
 have hn:=AA (HE.fr _ h).own.2.1;have H1:=((HE.here.jc (.bool s) (.slice A n c) (.slice A' n' c')).dR (.bool false) (.slice none 0 0)).dR (.bool false) (.slice none 0 0);simp only [World.size_alloc] at H1
 by_cases hq:q=0
 ·obtain rfl:=hn.2 hq
  have HQ:=Lib.hid hq;obtain ⟨e0,e1,e2,e3,e4,e5⟩:=H1.c3 ak;clear hn hq
  go_enter Tryz.func126,Tryz.ntmps126
  go_wp2_with fail
  refine (ZJ H1 af af).mono ?_;rintro e w1 ⟨s1,A1,n1,c1,rfl,H2⟩;obtain ⟨a0,a1,a2,a3⟩:=H2.c2 ak;obtain ⟨b0,b1,b2,b3⟩:=H2.c2 au;clear e0 e1 e2 e3 e4 e5
  go_wp2_with fail
  refine bodyPost_ret (v := .tuple #[.agg #[.bool false,.slice none 0 0],.agg #[.bool s1,.slice A1 n1 c1]]) (by simp [results,Tryz.results126,go_sem,a0,a1,b0,b1]) rfl ?_;have H3:=(H2.ji au [⟨w.heap.size+1+1,.bool false,.slice none 0 0⟩] (fun b hb=>by simp only [List.mem_cons,List.not_mem_nil,or_false] at hb;subst hb;exact ⟨ak,by dsimp only;omega⟩) false (.slice none 0 0)).done2 au s1 (.slice A1 n1 c1);have hq:=HQ.out;subst hq;have h1:=H3.env.ops _ ak;exact ⟨_,_,_,_,_,_,_,_,rfl,(H3.tl.push (h1.weak af)).push ⟨false,none,0,0,[],0,rfl,Rd.nil_ _ _ _,ahl _,rfl,ahl _,ahj _,rfl,rfl⟩⟩
 ·have hn0:((n:Int)==0)=false:=by rw [beq_eq_false_iff_ne];have:=mt hn.1 hq;omega
  have HQ:=Lib.hid hq;clear hn hq;obtain ⟨e0,e1,e2,e3,e4,e5⟩:=H1.c3 ak
  go_enter Tryz.func126,Tryz.ntmps126
  go_wp2_with fail
  go_region
  go_wp2_with fail
  have H2:=(((HE.here.jc (.bool s) (.slice A n c) (.slice A' n' c')).dR (.bool s) (.slice A n c)).dR (.bool false) (.slice A' n' c')).drew;simp only [World.size_alloc] at H2;obtain ⟨a0,a1,a2,a3⟩:=H2.c2 ak;obtain ⟨b0,b1,b2,b3⟩:=H2.c2 au;refine bodyPost_ret (v := .tuple #[.agg #[.bool s,.slice A n c],.agg #[.bool false,.slice A' n' c']]) (by simp [results,Tryz.results126,go_sem]) rfl ?_;have H3:=H2.bare.parts h HQ.out;exact ⟨_,_,_,_,_,_,_,_,rfl,(H3.tl.tl.push ((H3.env.ops _ au).weak af)).push ((H3.env.ops _ ak).weak af)⟩
end
end Go.Proofs.AZQ
namespace Lw
open Go Go.RowKit
theorem aai{x:Int} : mg x=[1]↔x.natAbs=1:=by unfold mg;exact LZ
end Lw
namespace Go.Proofs.AZQ
open Go Go.RowKit Lw
section
variable {W0 w:World} {bs:List Bx} {L:List En} {ts:List Bt} {M:List Qn} {s s':Bool} {A A':Option Addr} {n c n' c' k k':Nat} {q:Rat} {x y:Int}
theorem O5(HE:bu W0 w bs L ts M)(h:⟨.agg #[.bool s,.slice A n c],x,k,true⟩∈L)(hk:k<=100000) :
  Calls Tryz.prog 127 #[.slice A n c] w fun e w'=>e = .returned (.bool (decide (x.natAbs=1)))/\bu W0 w' bs L ts M:=by
 obtain ⟨_,hn,hr,h1,h2⟩:=(HE.env.ops _ h).len;refine (uq A (mg x) n c _ w hr hn.symm af).mono fun e w' ⟨h3,h4⟩=>⟨?_,HE.next h4⟩;rw [h3]
 congr 2
 rw [decide_eq_decide];exact aai
end
end Go.Proofs.AZQ
namespace Lw
open Go
theorem Vj{q r:Rat}{k k':Nat}(h1:q.num.natAbs<pw k/\q.den<pw (k+1))(h2:r.num.natAbs<pw k'/\r.den<pw (k'+1)):(q+r).num.natAbs<pw (k+k'+2)/\(q+r).den<pw (k+k'+2):=by
 have hb:=Vf q r;have e1:=Nat.mul_lt_mul'' h1.1 h2.2;have e2:=Nat.mul_lt_mul'' h2.1 h1.2;have e3:=Nat.mul_lt_mul'' h1.2 h2.2;rw [<- pU] at e1 e2 e3;rw [show k+(k'+1)=k+k'+1 by omega] at e1;rw [show k'+(k+1)=k+k'+1 by omega] at e2;rw [show k+1+(k'+1)=k+k'+2 by omega] at e3;have e4:pw (k+k'+2)=pw (k+k'+1)*4294967296:=by unfold pw;rw [ahL]
 omega
theorem dn.weak{w:World}{v:Value}{q:Rat}{k K:Nat}{b:Bool}(h:dn w ⟨v,q,k,b⟩)(hk:k<=K):dn w ⟨v,q,K,b⟩:=by
 obtain ⟨s,A,n,c,A',n',c',ns,ms,e1,r1,r2,e2,e3,e4,e5,e6⟩:=h;exact ⟨s,A,n,c,A',n',c',ns,ms,e1,r1,r2,e2,e3,ahk e4 hk,ahk e5 hk,e6⟩
end Lw
namespace Go.Proofs.AZQ
open Go Go.RowKit Lw
section
variable {W0 w:World} {bs:List Bx} {L:List En} {ts:List Bt} {M:List Qn} {s s':Bool} {A A' B B':Option Addr} {n c n' c' m d m' d' k k':Nat} {q r:Rat} {x y:Int}
theorem bu.tlq{e:Qn}(h:bu W0 w bs L ts (e::M)):bu W0 w bs L ts M:=⟨h.env,fun e' he=>h.fr e' (.tail _ he),h.tri,h.tz,h.tab,h.lo,h.lot⟩
theorem bu.hd{v:Value}{q:Rat}{k K:Nat}{b:Bool}(h:bu W0 w bs L ts (⟨v,q,k,b⟩::M))(hk:dn w ⟨v,q,k,b⟩->dn w ⟨v,q,K,b⟩):bu W0 w bs L ts (⟨v,q,K,b⟩::M):=h.tlq.cons (hk (h.fr _ ak))
end
end Go.Proofs.AZQ
