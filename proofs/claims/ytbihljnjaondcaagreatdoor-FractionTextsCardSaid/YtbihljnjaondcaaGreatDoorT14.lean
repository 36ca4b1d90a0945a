/- Part of a proof, said shortly. -/
import Derived.Shelf.Spec.TrailingZeros
import Derived.Deep.RegionHeld3
import Derived.Deep.RegionWith
import Derived.Test.YtbihljnjaondcaaGreatDoorAlt
import Derived.Test.YtbihljnjaondcaaGreatDoorT4
import Derived.Test.YtbihljnjaondcaaGreatDoorT3
import Derived.Test.YtbihljnjaondcaaGreatDoorT2
import Derived.Test.YtbihljnjaondcaaGreatDoorT1
import Derived.Test.YtbihljnjaondcaaGreatDoorT13
import Derived.Test.YtbihljnjaondcaaGreatDoorT9
import Derived.Test.YtbihljnjaondcaaGreatDoorT8
import Derived.Test.YtbihljnjaondcaaGreatDoorT6
import Derived.Test.YtbihljnjaondcaaGreatDoorT5
import Derived.Test.YtbihljnjaondcaaGreatDoorT7
namespace Lw
open Go Go.RowKit
theorem a7v {x:Nat} (h0:x≠0) (h:x < 4294967296):Uy x=[x]:=by
 have:=a7u (l:=[x]) (by rw [alb]; exact ⟨h,ak5⟩) (by simpa [dg] using h0)
 simpa [val] using this
theorem bh8 {x:Nat} (h0:4294967296≤x) (h:x < 18446744073709551616):Uy x=[x % 4294967296,x / 4294967296]:=by
 have:=a7u (l:=[x % 4294967296,x / 4294967296]) (a6Z (by omega) (by omega)) (by simp [dg]; omega)
 rw [val_two] at this
 rwa [show x % 4294967296+4294967296*(x / 4294967296)=x by omega] at this
end Lw
namespace Go.Proofs.YtbihljnjaondcaaGreatDoor
open Go Go.RowKit Lw
theorem biI (w:World) (t:TypeId) {a:Int} {x:Nat} (ha:a=x):Blk (w.alloc (.cells #[.int .u32 a] t)) w.heap.size t [x]:=by
 subst ha; exact Blk.new w t [x]
set_option maxRecDepth 100000 in
set_option maxHeartbeats 800000 in
theorem bkj (A:Option Addr) (ns:List Nat) (n c B:Nat) (w:World) (h:Rd w B A ns) (hn:ns.length=n) (hl:n≤16777216) :
  Calls Tryz.prog 117 #[.slice A n c] w fun e w'=>e = .returned (.bool (decide (ns=[1]))) ∧ ∃ q,w'=w.drewN q:=by
 have Hn:=Lib.hid hn
 clear hn
 by_cases h1:n=1
 ·subst h1
  obtain ⟨b,off,rfl,hb,hcell,hlt⟩:=h.at_ (k:=0) (by rw [Hn.out]; omega)
  rw [Nat.add_zero] at hcell
  have HE:Hid (decide (ns=[1])=decide (dg ns 0=1)):=Lib.hid (by
   obtain ⟨x,rfl⟩ : ∃ x,ns=[x]:=List.length_eq_one_iff.1 Hn.out
   simp [dg])
  by_cases h2:dg ns 0=1
  ·have h3:((dg ns 0:Int)==1)=true:=by rw [beq_iff_eq]; omega
   go_enter Tryz.func117,Tryz.ntmps117
   go_wp2_with fail
   go_ret
   exact ⟨by rw [HE.out,decide_eq_true h2]; rfl,0,rfl⟩
  ·have h3:((dg ns 0:Int)==1)=false:=by rw [beq_eq_false_iff_ne]; omega
   go_enter Tryz.func117,Tryz.ntmps117
   go_wp2_with fail
   go_ret
   exact ⟨by rw [HE.out,decide_eq_false h2]; rfl,0,rfl⟩
 ·have h3:((n:Int)==1)=false:=by rw [beq_eq_false_iff_ne]; omega
  have HE:Hid (decide (ns=[1])=false):=Lib.hid (decide_eq_false (by intro e; subst e; exact h1 Hn.out.symm))
  go_enter Tryz.func117,Tryz.ntmps117
  go_wp2_with fail
  go_ret
  exact ⟨by rw [HE.out]; rfl,0,rfl⟩
set_option maxRecDepth 100000 in
set_option maxHeartbeats 800000 in
theorem bcJ (x:Nat) (w:World) (hx:x≤18446744073709551615) (h0:x≠0) :
  Calls Tryz.prog 200 #[.int .u64 x] w (as8 w x):=by
 by_cases h1:x < 4294967296
 ·have hd:=a7v h0 h1
  have hb:=biI w 99 (a:=(x:Int)) (x:=x) rfl
  have hm:(x:Int) % 4294967296=(x:Int):=by omega
  have hz:(x:Int) / 4294967296=0:=by omega
  have HD:=Lib.hid hd
  clear hd
  go_enter Tryz.func200,Tryz.ntmps200
  go_wp2_with fail
  go_ret
  refine ⟨_,_,aor (by rw [HD.out]; rfl),by rw [HD.out]; exact Nat.le_refl _,?_,(Below.refl _ _).alloc (Nat.le_refl _) _⟩
  rw [HD.out]
  exact hb.rd (by rw [alb]; exact ⟨h1,ak5⟩)
 ·have hd:=bh8 (x:=x) (by omega) (by omega)
  have hb:=a9o w 99 (a:=(x:Int) % 4294967296) (b:=(x:Int) / 4294967296) (x:=x % 4294967296) (y:=x / 4294967296) (by omega) (by omega)
  have hz:((x:Int) / 4294967296==0)=false:=by rw [beq_eq_false_iff_ne]; omega
  have HD:=Lib.hid hd
  clear hd
  go_enter Tryz.func200,Tryz.ntmps200
  go_wp2_with fail
  go_ret
  refine ⟨_,_,aor (by rw [HD.out]; rfl),by rw [HD.out]; exact Nat.le_refl _,?_,(Below.refl _ _).alloc (Nat.le_refl _) _⟩
  rw [HD.out]
  exact hb.rd (a6Z (by omega) (by omega))
set_option maxRecDepth 100000 in
set_option maxHeartbeats 800000 in
theorem bkn (A:Option Addr) (ns:List Nat) (n c B:Nat) (w:World) (h:Rd w B A ns) (hn:ns.length=n) (h1:1≤n) (h2:n≤2) :
  Calls Tryz.prog 221 #[.slice A n c] w fun e w'=>e = .returned (.int .u64 (val ns:Int)) ∧ ∃ q,w'=w.drewN q:=by
 have Hn:=Lib.hid hn
 clear hn
 by_cases h3:n=1
 ·subst h3
  obtain ⟨b,off,rfl,hb,hcell,hlt⟩:=h.at_ (k:=0) (by rw [Hn.out]; omega)
  rw [Nat.add_zero] at hcell
  have HE:Hid (dg ns 0=val ns):=Lib.hid (by
   obtain ⟨x,rfl⟩ : ∃ x,ns=[x]:=List.length_eq_one_iff.1 Hn.out
   simp [dg,val])
  go_enter Tryz.func221,Tryz.ntmps221
  go_wp2_with fail
  go_ret
  exact ⟨ahy (by rw [HE.out]),0,rfl⟩
 ·obtain rfl:n=2:=by omega
  obtain ⟨b,off,rfl,hb,hcell,hlt⟩:=h.at_ (k:=0) (by rw [Hn.out]; omega)
  obtain ⟨b_,bay,he,_,hcell2,hlt2⟩:=h.at_ (k:=1) (by rw [Hn.out]; omega)
  injection he with he; injection he with e1 e2; subst e1 e2
  rw [Nat.add_zero] at hcell
  have HE:Hid (dg ns 0+4294967296*dg ns 1=val ns):=Lib.hid (by
   have e:=acm (l:=ns) (k:=2) (by rw [Hn.out]; exact Nat.le_refl _)
   rw [acw,acw,akf,aNP,show pw 1=4294967296 from rfl] at e
   omega)
  have hor:=a3s hlt2 hlt
  go_enter Tryz.func221,Tryz.ntmps221
  go_wp2_with fail
  go_quiet (fail)
  go_wp2_with fail
  go_ret
  exact ⟨ahy (by rw [← HE.out]; omega),_,rfl⟩
set_option maxRecDepth 100000 in
set_option maxHeartbeats 800000 in
theorem size_any (z:Int) (w:World) (h1 : -9223372036854775808≤z) (h2:z≤9223372036854775807) :
  Calls Tryz.prog 198 #[.int .i64 z] w fun e w'=>e = .returned (.int .u64 (z.natAbs:Int))∧w=w':=by
 by_cases h0:z < 0
 ·obtain ⟨D,N,hD,hN,hNz,hNl,hDl⟩:=bbj h1 h0
  have HN:=Lib.hid (show N=z.natAbs by omega)
  clear hNz
  go_enter Tryz.func198,Tryz.ntmps198
  go_wp2_with fail
  go_ret
  exact ⟨ahy (by rw [← HN.out]),rfl⟩
 ·obtain ⟨N,rfl⟩:=Int.eq_ofNat_of_zero_le (show 0≤z by omega)
  go_enter Tryz.func198,Tryz.ntmps198
  go_wp2_with fail
  go_ret
  exact ⟨rfl,rfl⟩
set_option maxRecDepth 100000 in
set_option maxHeartbeats 800000 in
theorem bkk (A:Option Addr) (ns:List Nat) (n c B:Nat) (w:World) (h:Rd w B A ns) (hn:ns.length=n) (hl:n≤16777216) :
  Calls Tryz.prog 226 #[.slice A n c] w fun e w' => ∃ b:Bool,e = .returned (.bool b)∧(b=true↔(n=0∨n=1∧dg ns 0 < 2147483648))∧w=w':=by
 have Hn:=Lib.hid hn
 clear hn
 by_cases h0:n=0
 ·subst h0
  go_enter btN,btO
  go_wp2_with fail
  go_ret
  exact ⟨true,rfl,by simp,rfl⟩
 ·have hb0:((n:Int)==0)=false:=by rw [beq_eq_false_iff_ne]; omega
  by_cases h1:n=1
  ·subst h1
   obtain ⟨b,off,rfl,hb,hcell,hlt⟩:=h.at_ (k:=0) (by rw [Hn.out]; omega)
   rw [Nat.add_zero] at hcell
   by_cases h2:dg ns 0 < 2147483648
   ·have h3:decide ((dg ns 0:Int) < 2147483648)=true:=decide_eq_true (by omega)
    go_enter btN,btO
    go_wp2_with fail
    go_ret
    exact ⟨true,rfl,⟨fun _ => .inr ⟨trivial,h2⟩,fun _=>rfl⟩,rfl⟩
   ·have h3:decide ((dg ns 0:Int) < 2147483648)=false:=decide_eq_false (by omega)
    go_enter btN,btO
    go_wp2_with fail
    go_ret
    exact ⟨false,rfl,by simp; omega,rfl⟩
  ·have hb1:((n:Int)==1)=false:=by rw [beq_eq_false_iff_ne]; omega
   go_enter btN,btO
   go_wp2_with fail
   go_ret
   exact ⟨false,rfl,by simp; omega,rfl⟩
end Go.Proofs.YtbihljnjaondcaaGreatDoor
namespace Go.Proofs.YtbihljnjaondcaaGreatDoor
open Go Go.RowKit Go.Shelf Lw
def boy:Ren:=⟨fun | 29=>229 | n=>n,fun | 0=>0 | 3=>3 | 4=>4 | 5=>5 | 22=>144 | 25=>125 | 54=>176 | n=>n,fun | 1=>1 | n=>n⟩
theorem bow:Lays7.n29 Tryz.prog boy := {
 mixed:=by kernel_rfl
 f29:=Tryz.func229.trans (congrArg some (by kernel_rfl))
 t0:=Tryz.underlying0
 a0:=Tryz.isAgg0
 z0:=Tryz.sizeOf0
 v0:=Tryz.zeroValue0
 i0:=by kernel_rfl
 t3:=bsJ
 a3:=bsO
 z3:=bsP
 v3:=bsQ
 i3:=by kernel_rfl
 t4:=bsF
 a4:=bsC
 z4:=bsD
 v4:=bsR
 i4:=by kernel_rfl
 t5:=bsU
 a5:=bsY
 z5:=bsZ
 v5:=bs0
 i5:=by kernel_rfl
 t22:=btA
 a22:=btI
 z22:=btJ
 v22:=btK
 i22:=by kernel_rfl
 t25:=bs4
 a25:=bs5
 z25:=bs6
 v25:=bs7
 i25:=by kernel_rfl
 t54:=Tryz.underlying176
 a54:=Tryz.isAgg176
 z54:=Tryz.sizeOf176
 g1:=by kernel_rfl }
end Go.Proofs.YtbihljnjaondcaaGreatDoor
namespace Go.Proofs.YtbihljnjaondcaaGreatDoor
open Go Go.RowKit Go.Shelf Lw
def Tz (w:World):Prop:=TabAt 1 Lib.deBruijn64tab w
theorem boz (x:Nat) (w:World) (hx:x≤18446744073709551615) (ht:Tz w) :
  Calls Tryz.prog 229 #[.int .u64 x] w fun e w'=>e = .returned (.int .i64 (tz x:Nat))∧w=w' :=
 (Any7.bits_TrailingZeros64 bow x (by omega) w (fun _=>ht)).mono fun e w' h=>⟨h.1,h.2.symm⟩
theorem cell_lt {w:World} {a:Addr} {v:Value} (h:w.cell? a=some v):a.block < w.heap.size:=by
 rcases Nat.lt_or_ge a.block w.heap.size with h1 | h1
 ·exact h1
 ·exfalso
  unfold World.cell? at h
  simp [Array.getElem?_eq_none h1] at h
theorem Tz.next {w w':World} (h:Tz w) (hb:Below w.heap.size w w'):Tz w':=fun j hj=>(hb.cell (cell_lt (h j hj))).trans (h j hj)
theorem Tz.drewN {w:World} (h:Tz w) (n:Nat):Tz (w.drewN n):=h
set_option maxRecDepth 100000 in
set_option maxHeartbeats 3200000 in
theorem bcy (x y:Nat) (w:World) (hx:x≤18446744073709551615) (hy:y≤18446744073709551615) (hx0:x≠0) (hy0:y≠0) (ht:Tz w) :
  Calls Tryz.prog 199 #[.int .u64 x,.int .u64 y] w fun e w'=>e = .returned (.int .u64 (Nat.gcd x y:Nat)) ∧ ∃ q,w'=w.drewN q:=by
 obtain ⟨g1,g2,g3,g4,g5⟩:=bjo hx0 hy0 (show x < 18446744073709551616 by omega) (show y < 18446744073709551616 by omega)
 have hor:bits .or .u64 (x:Int) (y:Int)=((x ||| y:Nat):Int):=u64_or_nat x y (by omega) (by omega)
 have hK:=Lib.hid (fun (z:Nat) (W:World) (h:z≤18446744073709551615) (hW:Tz W)=>boz z W h hW)
 have HT:=Lib.hid ht
 obtain ⟨o,ho⟩ : ∃ o,o=x ||| y:=⟨_,rfl⟩
 rw [← ho] at g1 g4 g5 hor
 obtain ⟨t,hte⟩ : ∃ t,t=tz o:=⟨_,rfl⟩
 rw [← hte] at g1 g4
 obtain ⟨X,hX⟩ : ∃ X,X=x / 2 ^ tz x:=⟨_,rfl⟩
 rw [← hX] at g1 g2
 have hXl:X≤18446744073709551615:=by rw [hX]; exact Nat.le_trans (Nat.div_le_self _ _) hx
 have a6s:(x:Int) / 2 ^ tz x=(X:Int):=by rw [hX]; simp
 have HG:=Lib.hid g1
 have HX2:=Lib.hid g2
 have Hte:=Lib.hid hte
 have hol:o≤18446744073709551615:=by omega
 obtain ⟨s,hs⟩ : ∃ s,s=tz x:=⟨_,rfl⟩
 rw [← hs] at a6s g3
 have Hs:=Lib.hid hs
 clear g1 g2 g5 ho hte hX hs ht
 go_enter Tryz.func199,Tryz.ntmps199
 go_wp2_with fail
 refine (hK.out o _ hol HT.out).mono ?_
 rintro e w1 ⟨rfl,rfl⟩
 rw [← Hte.out]
 go_wp2_with fail
 refine (hK.out x _ hx HT.out).mono ?_
 rintro e w1 ⟨rfl,rfl⟩
 rw [← Hs.out]
 go_wp2_with fail
 go_loopw [0,1] (fun a b wr => ∃ u v q:Nat,u≤18446744073709551615∧v≤18446744073709551615∧1≤u∧a = .int .u64 u∧b = .int .u64 v∧Hid (u % 2=1)∧Hid (Nat.gcd u v=Nat.gcd X y)∧wr=w.drewN q) (fun a b _=>(intOf a).toNat+(intOf b).toNat)
 case atStart=>exact ⟨X,y,0,hXl,hy,by have:=HX2.out; omega,rfl,rfl,HX2,Lib.hid rfl,rfl⟩
 case round =>
  obtain ⟨u,v,q,hu,hv,hu1,rfl,rfl,hodd,hg,rfl⟩:=hrel
  have fin:Nat.gcd u v=u→IntKind.u64.wrap ((u:Int)*2 ^ t)=((Nat.gcd x y:Nat):Int):=by
   intro h
   have e:(u:Int)*2 ^ t=((u*2 ^ t:Nat):Int):=by simp
   have h2:u*2 ^ t=Nat.gcd x y:=by rw [HG.out,← hg.out,h]
   have h3:=Nat.gcd_le_left y (show 0 < x by omega)
   rw [e,h2]
   exact IntWalk.u64_in _ (by omega)
  by_cases h1:u=1
  ·subst h1
   have hf:=fin (Nat.gcd_one_left _)
   have HF:=Lib.hid hf
   clear fin hf
   go_wp2_with fail
   go_ret
   exact ⟨ahy (by have:=HF.out; simpa using this),q,rfl⟩
  ·have hb1:((u:Int) != 1)=true:=by rw [bne_iff_ne]; omega
   by_cases h2:v=0
   ·subst h2
    have hf:=fin (Nat.gcd_zero_right _)
    have HF:=Lib.hid hf
    clear fin hf h1
    go_wp2_with fail
    go_ret
    exact ⟨ahy HF.out,q,rfl⟩
   ·have hb2:((v:Int) != 0)=true:=by rw [bne_iff_ne]; omega
    obtain ⟨r1,r2,r3,r4⟩:=bjn hodd.out h2 (show v < 18446744073709551616 by omega)
    obtain ⟨V,hV⟩ : ∃ V,V=v / 2 ^ tz v:=⟨_,rfl⟩
    obtain ⟨k,hk⟩ : ∃ k,k=tz v:=⟨_,rfl⟩
    have bpV:(v:Int) / 2 ^ k=(V:Int):=by rw [hV,hk]; simp
    rw [← hV] at r1 r2 r3
    rw [← hk] at r4
    have Hr:=Lib.hid (And.intro r1 r2)
    have Hk:=Lib.hid hk
    clear fin h1 h2 r1 r2 hV hk
    go_wp2_with fail
    refine (hK.out v _ hv (HT.out.drewN q)).mono ?_
    rintro e w1 ⟨rfl,rfl⟩
    rw [← Hk.out]
    by_cases h3:V < u
    ·have hgs:Hid (Nat.gcd V (u - V)=Nat.gcd X y):=Lib.hid (by rw [bcP (Nat.le_of_lt h3),Nat.gcd_comm,Hr.out.1,hg.out])
     go_wp2_with fail
     go_roundw
     case rel=>exact ⟨V,u - V,q,by omega,by omega,by have:=Hr.out.2; omega,rfl,congrArg _ (by omega),Lib.hid Hr.out.2,hgs,rfl⟩
     case measure=>simp [intOf]; have:=Hr.out.2; omega
    ·have hgs:Hid (Nat.gcd u (V - u)=Nat.gcd X y):=Lib.hid (by rw [bcP (by omega),Hr.out.1,hg.out])
     go_wp2_with fail
     go_roundw
     case rel=>exact ⟨u,V - u,q,by omega,by omega,by omega,rfl,congrArg _ (by omega),hodd,hgs,rfl⟩
     case measure=>simp [intOf]; omega
end Go.Proofs.YtbihljnjaondcaaGreatDoor
namespace Lw
open Go Go.RowKit
def rs (q:Rat):Bool:=decide (q.num < 0)
def rn (q:Rat):List Nat:=Uy q.num.natAbs
def rd (q:Rat):List Nat:=if q.num=0 then [] else Uy q.den
def bf8 (w:World) (q:Rat) (e:Ending) (w':World):Prop :=
 ∃ A c A' c',e = .returned (.agg #[.bool (rs q),.slice A (rn q).length c,.slice A' (rd q).length c'])∧(rn q).length≤c∧(rd q).length≤c'∧Rd w' w'.heap.size A (rn q)∧Rd w' w'.heap.size A' (rd q)∧Below w.heap.size w w'
def Tri (w:World) (g:Nat) (t:TypeId) (a b c:Value):Prop:=w.heap[g]? = some (.cells #[a,b,c] t (0,0))
section
variable {w w':World} {g:Nat} {t:TypeId} {a b c:Value}
theorem Tri.lt (h:Tri w g t a b c):g < w.heap.size:=by
 rcases Nat.lt_or_ge g w.heap.size with hlt | hge
 ·exact hlt
 ·unfold Tri at h; rw [Array.getElem?_eq_none hge] at h; cases h
theorem Tri.new (w:World) (t:TypeId) (a b c:Value):Tri (w.alloc (.cells #[a,b,c] t)) w.heap.size t a b c:=heap_alloc_new w _
theorem Tri.drew (h:Tri w g t a b c):Tri w.drew g t a b c:=h
theorem Tri.drewN (h:Tri w g t a b c) (n:Nat):Tri (w.drewN n) g t a b c:=h
theorem Tri.next (h:Tri w g t a b c) (hb:Below w.heap.size w w'):Tri w' g t a b c:=(hb.block g h.lt).trans h
theorem Tri.cells (h:Tri w g t a b c):w.cell? ⟨g,0,none⟩=some a∧w.cell? ⟨g,1,none⟩=some b∧w.cell? ⟨g,2,none⟩=some c∧w.frozen? ⟨g,0,none⟩=false∧w.frozen? ⟨g,1,none⟩=false∧w.frozen? ⟨g,2,none⟩=false:=by
 unfold Tri at h
 exact ⟨by rw [cell_of_row w g 0 _ t (0,0) h]; rfl,by rw [cell_of_row w g 1 _ t (0,0) h]; rfl,by rw [cell_of_row w g 2 _ t (0,0) h]; rfl,by simp [World.frozen?,h],by simp [World.frozen?,h],by simp [World.frozen?,h]⟩
theorem Tri.set0 (h:Tri w g t a b c) (x:Value):Tri (w.setCell ⟨g,0,none⟩ x) g t x b c:=by unfold Tri at h ⊢; simp [World.setCell,Array.getElem?_modify,h]
theorem Tri.set1 (h:Tri w g t a b c) (x:Value):Tri (w.setCell ⟨g,1,none⟩ x) g t a x c:=by unfold Tri at h ⊢; simp [World.setCell,Array.getElem?_modify,h]
theorem Rd.bk7 {B n c n' c':Nat} {s:Bool} {A A' A'':Option Addr} {ns:List Nat} (h:Rd w B A ns) (h2:Tri w g t (.bool s) (.slice A' n c) (.slice A'' n' c')) {b off:Nat} (hn:0 < ns.length) (hA:A=some ⟨b,off,none⟩):b≠g:=by
 rintro rfl
 obtain ⟨b',off',hA',hb,hc⟩:=h.2 hn
 rw [hA] at hA'
 injection hA' with e
 injection e with e1 e2
 subst e1 e2
 have h0:=hc 0 hn
 unfold Tri at h2
 rw [cell_of_row w b _ _ t (0,0) h2] at h0
 match off,h0 with
 | 0,h0=>simp at h0
 | 1,h0=>simp at h0
 | 2,h0=>simp at h0
 | k+3,h0=>simp at h0
theorem Rd.a1w {B n c n' c' i:Nat} {s:Bool} {A A' A'':Option Addr} {ns:List Nat} (h:Rd w B A ns) (h2:Tri w g t (.bool s) (.slice A' n c) (.slice A'' n' c')) (u:Value):Rd (w.setCell ⟨g,i,none⟩ u) B A ns :=
 ⟨h.1,fun hn=>by
  obtain ⟨b,off,hA,hb,hc⟩:=h.2 hn
  have hne:=h.bk7 h2 hn hA
  refine ⟨b,off,hA,hb,fun j hj => ?_⟩
  rw [← hc j hj]
  exact World.cell?_setCell_other w _ _ u (fun e=>hne (by injection e with e1; first | exact e1 | exact e1.symm))⟩
theorem Rd.a1T {B n c n' c' m d:Nat} {s:Bool} {A A' A'' D:Option Addr} {ns:List Nat} (h:Rd w B A ns) (h2:Tri w g t (.bool s) (.slice A' n c) (.slice A'' n' c')) (s':Bool) (v:Value) :
  Rd (((w.setCell ⟨g,0,none⟩ (.bool s')).setCell ⟨g,1,none⟩ (.slice D m d)).setCell ⟨g,2,none⟩ v) B A ns :=
 ((h.a1w h2 _).a1w (h2.set0 _) _).a1w ((h2.set0 _).set1 _) _
end
def bbF (w:World) (N:Nat) (e:Ending) (w':World):Prop :=
 ∃ A n c,e = .returned (.slice A n c)∧Hid (n=(Uy N).length∧n≤c∧Rd w' w'.heap.size A (Uy N))∧Below w.heap.size w w'
theorem f_zero:rs 0=false∧rn 0=[]∧rd 0=[]:=⟨rfl,rfl,rfl⟩
theorem a9A {n d:Int} (hn:n≠0) (hd:d≠0) :
  rs (Rat.divInt n d)=(decide (n < 0) != decide (d < 0))∧rn (Rat.divInt n d)=Uy (n.natAbs / Nat.gcd n.natAbs d.natAbs)∧rd (Rat.divInt n d)=Uy (d.natAbs / Nat.gcd n.natAbs d.natAbs):=by
 have hg:Nat.gcd n.natAbs d.natAbs≠0:=by
  intro e; exact hn (Int.natAbs_eq_zero.1 (Nat.eq_zero_of_gcd_eq_zero_left e))
 have hdn:Nat.gcd n.natAbs d.natAbs ∣ n.natAbs:=Nat.gcd_dvd_left _ _
 have hdd:Nat.gcd n.natAbs d.natAbs ∣ d.natAbs:=Nat.gcd_dvd_right _ _
 have e1:(Rat.divInt n d).num=d.sign*n / (Nat.gcd n.natAbs d.natAbs:Nat):=by
  rw [Rat.num_divInt]; congr 2; exact Int.gcd_comm d n
 have e2:(Rat.divInt n d).den=d.natAbs / Nat.gcd n.natAbs d.natAbs:=by
  rw [Rat.den_divInt,if_neg hd]; congr 1; exact Int.gcd_comm d n
 obtain ⟨g,hge⟩ : ∃ g,g=Nat.gcd n.natAbs d.natAbs:=⟨_,rfl⟩
 rw [← hge] at hg hdn hdd e1 e2 ⊢
 clear hge
 have hgi:(g:Int) ∣ n:=Int.ofNat_dvd_left.2 hdn
 obtain ⟨m,hm⟩:=hgi
 have hgp:(0:Int) < g:=by omega
 have hm0:m≠0:=by intro e; rw [e] at hm; simp at hm; exact hn hm
 have e3:(Rat.divInt n d).num=d.sign*m:=by
  rw [e1,hm,Int.mul_left_comm,Int.mul_ediv_cancel_left _ (by omega)]
 have hab:n.natAbs / g=m.natAbs:=by
  rw [hm,Int.natAbs_mul,Int.natAbs_natCast,Nat.mul_div_cancel_left _ (by omega)]
 have hs:n < 0↔m < 0:=by
  rw [hm]
  constructor
  ·intro h
   refine Int.lt_of_not_ge fun h2 => ?_
   have:=Int.mul_nonneg (Int.le_of_lt hgp) h2
   omega
  ·intro h
   exact Int.mul_neg_of_pos_of_neg hgp h
 have hd3:d.sign=1∧0 < d∨d.sign = -1∧d < 0:=by
  rcases Int.lt_or_gt_of_ne hd with h | h
  ·exact .inr ⟨Int.sign_eq_neg_one_of_neg h,h⟩
  ·exact .inl ⟨Int.sign_eq_one_of_pos h,h⟩
 unfold rs rn rd
 rw [e3,e2,hab]
 rcases hd3 with ⟨hs1,hd1⟩ | ⟨hs1,hd1⟩
 ·rw [hs1,Int.one_mul,if_neg hm0]
  refine ⟨?_,rfl,rfl⟩
  rw [decide_eq_false (show ¬ d < 0 by omega)]
  simp [hs]
 ·rw [hs1,Int.neg_mul,Int.one_mul,if_neg (by omega),Int.natAbs_neg]
  refine ⟨?_,rfl,rfl⟩
  rw [decide_eq_true hd1]
  rcases Int.lt_or_gt_of_ne hm0 with h | h
  ·rw [decide_eq_true (hs.2 h),decide_eq_false (by omega)]; rfl
  ·rw [decide_eq_false (show ¬ n < 0 by rw [hs]; omega),decide_eq_true (by omega)]; rfl
end Lw
namespace Go.Proofs.YtbihljnjaondcaaGreatDoor
open Go Go.RowKit Lw
set_option maxRecDepth 100000 in
set_option maxHeartbeats 3200000 in
theorem bey (n d:Int) (w:World) (n1 : -9223372036854775808≤n) (n2:n≤9223372036854775807) (d1 : -9223372036854775808≤d) (d2:d≤9223372036854775807) (hd:d≠0) (ht:Tz w) :
  Calls Tryz.prog 150 #[.int .i64 n,.int .i64 d] w (bf8 w (Rat.divInt n d)):=by
 by_cases h0:n=0
 ·subst h0
  have hz:Hid (Rat.divInt 0 d=0):=Lib.hid (Rat.zero_divInt d)
  go_enter Tryz.func150,Tryz.ntmps150
  go_wp2_with fail
  refine bodyPost_ret (v := .agg #[.bool false,.slice none 0 0,.slice none 0 0]) (by simp [results,Tryz.results150,go_sem]) rfl ?_
  rw [hz.out]
  exact ⟨none,0,none,0,rfl,Nat.le_refl _,Nat.le_refl _,Rd.nil_ _ _ _,Rd.nil_ _ _ _,(Below.refl _ _).alloc (Nat.le_refl _) _⟩
 ·have hf:=Lib.hid (a9A h0 hd)
  have hb0:(n==0)=false:=by rw [beq_eq_false_iff_ne]; exact h0
  have hs1:=fun W=>size_any n W n1 n2
  have hs2:=fun W=>size_any d W d1 d2
  obtain ⟨x,hx⟩ : ∃ x,x=n.natAbs:=⟨_,rfl⟩
  obtain ⟨y,hy⟩ : ∃ y,y=d.natAbs:=⟨_,rfl⟩
  rw [← hx] at hs1 hf
  rw [← hy] at hs2 hf
  have hx0:x≠0:=by omega
  have hy0:y≠0:=by omega
  have hxl:x≤9223372036854775808:=by omega
  have hyl:y≤9223372036854775808:=by omega
  have hdv:=fun W hW=>bcy x y W (by omega) (by omega) hx0 hy0 hW
  have hgp:=Nat.gcd_pos_of_pos_left y (show 0 < x by omega)
  have hgx:=Nat.div_pos (Nat.le_of_dvd (by omega) (Nat.gcd_dvd_left x y)) hgp
  have hgy:=Nat.div_pos (Nat.le_of_dvd (by omega) (Nat.gcd_dvd_right x y)) hgp
  have a9O:=Nat.div_le_self x (Nat.gcd x y)
  have a9P:=Nat.div_le_self y (Nat.gcd x y)
  obtain ⟨g,hg⟩ : ∃ g,g=Nat.gcd x y:=⟨_,rfl⟩
  rw [← hg] at hdv hf hgp hgx hgy a9O a9P
  obtain ⟨X,hX⟩ : ∃ X,X=x / g:=⟨_,rfl⟩
  obtain ⟨Y,hY⟩ : ∃ Y,Y=y / g:=⟨_,rfl⟩
  have qx:(x:Int) / (g:Int)=(X:Int):=by rw [hX]; exact (Int.natCast_ediv x g).symm
  have qy:(y:Int) / (g:Int)=(Y:Int):=by rw [hY]; exact (Int.natCast_ediv y g).symm
  rw [← hX] at hf hgx a9O
  rw [← hY] at hf hgy a9P
  have qx2:IntKind.u64.wrap ((x:Int) / (g:Int))=(X:Int):=by rw [qx]; exact IntWalk.u64_in _ (by omega)
  have qy2:IntKind.u64.wrap ((y:Int) / (g:Int))=(Y:Int):=by rw [qy]; exact IntWalk.u64_in _ (by omega)
  have qx3:IntKind.u64.wrap (X:Int)=(X:Int):=IntWalk.u64_in _ (by omega)
  have qy3:IntKind.u64.wrap (Y:Int)=(Y:Int):=IntWalk.u64_in _ (by omega)
  have qx4:(x:Int).tdiv (g:Int)=(X:Int):=by rw [Int.tdiv_eq_ediv_of_nonneg (by omega)]; exact qx
  have qy4:(y:Int).tdiv (g:Int)=(Y:Int):=by rw [Int.tdiv_eq_ediv_of_nonneg (by omega)]; exact qy
  have qx5:IntKind.u64.wrap ((x:Int).tdiv (g:Int))=(X:Int):=by rw [qx4]; exact qx3
  have qy5:IntKind.u64.wrap ((y:Int).tdiv (g:Int))=(Y:Int):=by rw [qy4]; exact qy3
  have hg1:¬ ((g:Int)=0):=by omega
  have hg2:(1:Int)≤(g:Int):=by omega
  have hg0:((g:Int)==0)=false:=by rw [beq_eq_false_iff_ne]; omega
  have HS1:=Lib.hid hs1
  have HS2:=Lib.hid hs2
  have HDV:=Lib.hid hdv
  have HT:=Lib.hid ht
  have HX:=Lib.hid (show ∀ W,Calls Tryz.prog 200 #[.int .u64 X] W (bbF W X) from fun W=>(bcJ X W (by omega) (by omega)).mono fun e w' ⟨A,c,he,hc,hr,hb⟩=>⟨A,_,c,he,Lib.hid ⟨rfl,hc,hr⟩,hb⟩)
  have HY:=Lib.hid (show ∀ W,Calls Tryz.prog 200 #[.int .u64 Y] W (bbF W Y) from fun W=>(bcJ Y W (by omega) (by omega)).mono fun e w' ⟨A,c,he,hc,hr,hb⟩=>⟨A,_,c,he,Lib.hid ⟨rfl,hc,hr⟩,hb⟩)
  clear hs1 hs2 hdv hx hy hg hX hY hgx hgy a9O a9P ht hx0 hy0
  go_enter Tryz.func150,Tryz.ntmps150
  have hb1:=(Below.refl w.heap.size w).alloc (Nat.le_refl _) (.cells #[.bool false,.slice none 0 0,.slice none 0 0] 24)
  go_wp2_with fail
  refine (HS1.out _).mono ?_
  rintro e w1 ⟨rfl,rfl⟩
  go_wp2_with fail
  refine (HS2.out _).mono ?_
  rintro e w1 ⟨rfl,rfl⟩
  go_wp2_with fail
  refine (HDV.out _ (HT.out.next hb1)).mono ?_
  rintro e w1 ⟨rfl,q,rfl⟩
  have hT:=(Tri.new w 24 (.bool false) (.slice none 0 0) (.slice none 0 0)).drewN q
  have hW:=hb1.trans (below_drewN' w.heap.size _ q)
  clear hb1
  generalize (w.alloc (.cells #[.bool false,.slice none 0 0,.slice none 0 0] 24)).drewN q=W0 at *
  go_wp2_with fail
  go_region_with
   (first
    | (go_at_call 200; refine ((fun (_:Below w.heap.size w W2)=>HY.out W2) hW2).mono ?_; rintro e w3 ⟨A2,m2,c2,rfl,hr2,hb2⟩; have hT:=hT.next hb2; have hW3:=aaR hW2 hb2 (Nat.le_refl _); obtain ⟨e0,e1,e2,e3,e4,e5⟩:=hT.cells)
    | (go_at_call 200; refine (HX.out _).mono ?_; rintro e W2 ⟨A1,m1,c1,rfl,hr1,hb1⟩; have hT:=hT.drew.next hb1; have hW2:=aaR hW.drew hb1 (Nat.le_refl _)))
  all_goals
   go_wp2_with fail
   refine bodyPost_ret (v := .agg #[.bool (!decide (n < 0)==decide (d < 0)),.slice A1 m1 c1,.slice A2 m2 c2]) (by simp [results,Tryz.results150,go_sem,e0,e1,e2]) rfl ?_
   obtain ⟨rfl,hc1,hr1⟩:=hr1.out
   obtain ⟨rfl,hc2,hr2⟩:=hr2.out
   have hR1:=(hr1.next hb2 (Nat.le_refl _)).a1T (D:=A1) (m:=(Uy X).length) (d:=c1) hT (!decide (n < 0)==decide (d < 0)) (.slice A2 (Uy Y).length c2)
   have hR2:=hr2.a1T (D:=A1) (m:=(Uy X).length) (d:=c1) hT (!decide (n < 0)==decide (d < 0)) (.slice A2 (Uy Y).length c2)
   refine ⟨A1,c1,A2,c2,?_,?_,?_,?_,?_,((hW3.setCell (Nat.le_refl _) _).setCell (Nat.le_refl _) _).setCell (Nat.le_refl _) _⟩
   ·rw [hf.out.1,hf.out.2.1,hf.out.2.2]; cases decide (n < 0) <;> cases decide (d < 0) <;> rfl
   ·rw [hf.out.2.1]; exact hc1
   ·rw [hf.out.2.2]; exact hc2
   ·rw [hf.out.2.1]; exact hR1.more (by simpa using hb2.size)
   ·rw [hf.out.2.2]; exact hR2.more (by simp)
end Go.Proofs.YtbihljnjaondcaaGreatDoor
