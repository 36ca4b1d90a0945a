/- Part of a proof, said shortly. -/
import Derived.Deep.AppendLies
import Derived.Shelf.Strings.Builder1
import Derived.Shelf.Strings.Builder2
import Derived.Shelf.Strings.OnBuilder
import Derived.Shelf.Small.Bits
import Derived.Shelf.Small.Wraps
import Derived.Shelf.Strconv.Itoa0
import Derived.Shelf.Strconv.Itoa1
import Derived.Shelf.LaysM
import Derived.Shelf.Strconv.Itoa2
import Derived.Shelf.Strconv.AppendUint10
import Derived.Test.YtmmgoghiiionfaaGreatDoorProg
import Derived.Lib.BitFns
import Derived.Laws.AppendOwnNone
import Derived.Deep.RegionHeld3
import Derived.Deep.DrawnRows
import Derived.Deep.RegionWith
import Derived.Deep.DeepCutAuto
import Derived.Lib.ItoaNum
import Derived.Test.YtmmgoghiiionfaaGreatDoorAlz
import Derived.Test.YtmmgoghiiionfaaGreatDoorC1
namespace Lw
open Go Go.RowKit
def sg(z:Int):Bool:=decide (z<0)
def mg(z:Int):List Nat:=bg z.natAbs
theorem GX(z:Int):ed (mg z):=fB _
theorem fU(z:Int):val (mg z)=z.natAbs:=bG _
theorem ads:sg 0=false:=rfl
theorem uS(z:Int):z=if sg z then -(val (mg z):Int) else (val (mg z):Int):=by
 rw [fU];unfold sg;grind
theorem Si{s:Bool}{N:Nat}{z:Int}(h0:N≠0)(hz:z=if s then -(N:Int) else (N:Int)):sg z=s/\mg z=bg N:=by
 unfold sg mg;grind
def vB(s:Bool)(ns:List Nat):Bool:=if ns.length=0 then !s else dg ns (ns.length-1) != 0
def zv(s:Bool)(ns:List Nat):Int:=if vB s ns then (if s then -(val ns:Int) else (val ns:Int)) else 0
theorem TY(s:Bool)(ns:List Nat):(zv s ns).natAbs<=val ns:=by
 unfold zv;split
 ·split <;> omega
 ·simp
theorem vK{s:Bool}{ns:List Nat}(h:bF ns):(mg (zv s ns)).length<=ns.length :=
 gQ (ahO (TY s ns) (dQ h))
theorem Tq{s:Bool}{ns:List Nat}(h:vB s ns=true):ed ns:=by
 unfold vB at h
 split at h
 ·rename_i h0
  rw [ahB h0];exact Jd
 ·exact SQ (by simpa using h)
theorem qy{s:Bool}{ns:List Nat}{z:Int}(h:vB s ns=true)(hz:z=if s then -(val ns:Int) else (val ns:Int))(hw:bF ns) :
  sg z=s/\mg z=ns/\ed ns:=by
 unfold sg mg;have ht:=Tq h;have hn:z.natAbs=val ns:=by rw [hz];split <;> omega
 refine ⟨?_,by rw [hn];exact wJ hw ht,ht⟩;rw [hz]
 cases s
 ·simp
 ·have h0:ns≠[]:=by
   intro e;subst e;simp [vB] at h
  have:=C9 ht h0;simp;omega
end Lw
namespace Go.Proofs.AZQ
open Go Go.RowKit Lw
theorem iW{a b:Bool}(h:a=b):Ending.returned (.bool a)=Ending.returned (.bool b):=by rw [h]
set_option maxHeartbeats 800000 in
theorem Dp(s:Bool)(A:Option Addr)(ns:List Nat)(n c B:Nat)(w:World)(h:Rd w B A ns)(hB:B<=w.heap.size)(hn:ns.length=n)(hl:n<=16777216) :
  Calls Tryz.prog 200 #[.agg #[.bool s,.slice A n c]] w fun e w'=>e = .returned (.bool (vB s ns))/\Below w.heap.size w w':=by
 have Hn:=Lib.hid hn;clear hn
 by_cases h0:n=0
 ·subst h0
  go_enter Tryz.func200,Tryz.ntmps200
  go_wp2
  go_ret
  refine ⟨iW ?_,?_⟩
  ·unfold vB;rw [if_pos Hn.out]
  ·exact (Below.refl _ _).alloc (ahj _) _
 ·obtain ⟨b,off,rfl,hb,hcell,hlt⟩:=h.at_ (k:=n-1) (by rw [Hn.out];omega)
  have hb1:((n:Int)==0)=false:=by simp;omega
  have hbs:b<w.heap.size:=af
  go_enter Tryz.func200,Tryz.ntmps200
  go_wp2
  go_ret
  refine ⟨iW ?_,(Below.refl _ _).alloc (ahj _) _⟩;unfold vB;rw [if_neg (by rw [Hn.out];exact h0),Hn.out,Bool.eq_iff_iff,bne_iff_ne,bne_iff_ne];exact not_congr aiX
def KH(w:World)(B:Nat)(z:Int)(e:Ending)(w':World):Prop :=
 ∃ A c,e = .returned (.agg #[.bool (sg z),.slice A (mg z).length c])/\(mg z).length<=c/\Rd w' B A (mg z)/\Below w.heap.size w w'
def kQ(w:World)(z:Int)(e:Ending)(w':World):Prop :=
 ∃ A c,e = .returned (.agg #[.bool (sg z),.slice A (mg z).length c])/\(mg z).length<=c/\Rd w' w'.heap.size A (mg z)/\Below w.heap.size w w'
theorem jW{w W:World}{B g n c c':Nat}{t:TypeId}{s:Bool}{A A':Option Addr}{z:Int}(h2:Two W g t (.bool s) (.slice A' n c))(hr:Rd W B A (mg z))(hB:B<=W.heap.size)(hc:(mg z).length<=c')(hb:Below w.heap.size w W)(hg:w.heap.size<=g) :
  kQ w z (.returned (.agg #[.bool (sg z),.slice A (mg z).length c'])) ((W.setCell ⟨g,0,none⟩ (.bool (sg z))).setCell ⟨g,1,none⟩ (.slice A (mg z).length c')) :=
 ⟨A,c',rfl,hc,(hr.lF h2 _ _).more (by simpa using hB),(hb.setCell hg _).setCell hg _⟩
set_option maxHeartbeats 800000 in
theorem GL(s:Bool)(A:Option Addr)(ns:List Nat)(n c B:Nat)(w:World)(h:Rd w B A ns)(hB:B<=w.heap.size)(hn:ns.length=n)(hl:n<=16777216)(hc:n<=c) :
  Calls Tryz.prog 191 #[.agg #[.bool s,.slice A n c]] w (KH w B (zv s ns)):=by
 cases hv:vB s ns
 ·have hz:Hid (zv s ns=0):=Lib.hid (by unfold zv;rw [hv];rfl)
  go_enter Tryz.func191,Tryz.ntmps191
  go_wp2_with fail
  refine (Dp s A ns n c B _ ((h.alloc hB _).alloc (by simp;omega) _) (by simp;omega) hn hl).mono ?_;rintro e w1 ⟨rfl,hb1⟩;obtain ⟨t1,t2,hs1,hb2⟩:=dR hb1;obtain ⟨c10,c11,f10,f11⟩:=t1.facts;obtain ⟨c20,c21,f20,f21⟩:=t2.facts
  go_wp2_with fail
  refine bodyPost_ret (v := .agg #[.bool false,.slice none 0 0]) (by simp [results,Tryz.results191,go_sem,c20,c21]) rfl ?_;rw [hz.out];exact ⟨none,0,rfl,ahj _,Rd.nil_ _ _ _,(hb2.setCell (by simp) _).setCell (by simp) _⟩
 ·have hz:Hid (zv s ns=if s then -(val ns:Int) else (val ns:Int)):=Lib.hid (by unfold zv;rw [hv];rfl)
  have Hv:=Lib.hid hv
  go_enter Tryz.func191,Tryz.ntmps191
  go_wp2_with fail
  refine (Dp s A ns n c B _ ((h.alloc hB _).alloc (by simp;omega) _) (by simp;omega) hn hl).mono ?_;rintro e w1 ⟨rfl,hb1⟩;obtain ⟨t1,t2,hs1,hb2⟩:=dR hb1;obtain ⟨c10,c11,f10,f11⟩:=t1.facts;obtain ⟨c20,c21,f20,f21⟩:=t2.facts
  go_wp2_with fail
  refine bodyPost_ret (v := .agg #[.bool s,.slice A n c]) (by simp [results,Tryz.results191,go_sem,c20,c21]) rfl ?_;obtain ⟨e1,e2,e3⟩:=qy Hv.out hz.out h.bI;refine ⟨A,c,?_,by rw [e2,hn];exact hc,?_,(hb2.setCell (by simp) _).setCell (by simp) _⟩
  ·rw [e1,e2,hn]
  ·rw [e2]
   exact (((h.below (hb2.mono hB)).setCell (by simp;omega) _).setCell (by simp;omega) _)
end Go.Proofs.AZQ
namespace Lw
open Go Go.RowKit
theorem yV{w:World}{base:Nat}{e:TypeId}{v:Value}{n:Nat}{ns:List Nat}(h:w.ownsRow base e 1 v n (arr ns))(hv:v ≠ .slice none 0 0) :
  ∃ g c,v = .slice (some ⟨g,0,none⟩) n c/\base<=g/\n<=c/\bD w g e ns:=by
 rcases h.2 with ⟨h0,_⟩ | ⟨g,cap,cur,hv',hb,hg,hnc,hcm,hcs,htake⟩
 ·exact absurd h0 hv
 ·refine ⟨g,cap,hv',hb,hnc,cur.toList.drop (n*1),?_⟩
  rw [hg,<- htake,ai9]
end Lw
namespace Go.Proofs.AZQ
open Go Go.RowKit Lw
def Uf(w:World)(ns:List Nat)(n:Nat)(e:Ending)(w':World):Prop :=
 ∃ A c,e = .returned (.slice A n c)/\n<=c/\(0<n -> ∃ g,A=some ⟨g,0,none⟩/\w.heap.size<=g/\bD w' g 82 ns)/\Rd w' w'.heap.size A ns/\Below w.heap.size w w'
set_option maxRecDepth 100000 in
set_option maxHeartbeats 800000 in
theorem clone_any(A:Option Addr)(ns:List Nat)(n c B:Nat)(w:World)(h:Rd w B A ns)(hB:B<=w.heap.size)(hn:ns.length=n)(hl:n<=16777216) :
  Calls Tryz.prog 140 #[.slice A n c] w (Uf w ns n):=by
 have hq:=fun (W:World) (A:Option Addr)=>Lib.run_eql_slice_nil (P:=Tryz.prog) W 38 82 A n c 0 0 agv;rcases A with _ | ad
 ·have h0:n=0:=by
   rcases ahE n with h0 | h0
   ·exact h0
   ·obtain ⟨b,off,hA,_⟩:=h.2 af
    cases hA
  subst h0;have e0:ns=[]:=ahB hn;subst e0;clear hn
  go_enter Tryz.func140,Tryz.ntmps140
  go_wp2
  go_ret
  exact ⟨none,0,rfl,ahj _,fun h=>absurd h af,Rd.nil_ _ _ _,Below.refl _ _⟩
 ·obtain ⟨i0,hi0,hz0,hz1,hz2⟩:=info_parts jI
  have Hn:=Lib.hid hn;clear hn
  go_enter Tryz.func140,Tryz.ntmps140
  have hown:(w.alloc (.cells #[] 82)).ownsRow w.heap.size 82 1 (.slice (some ⟨w.heap.size,0,none⟩) 0 0) 0 []:=World.ownsRow_lit w #[] 0 (ahj _) (by simp [maxLen]) (by simp)
  have hnews : ∀ j u,(arr ns)[j]? = some u->(w.alloc (.cells #[] 82)).cell? (ad.add j)=some u:=by
   intro j u hu
   have hj:j<ns.length:=by
    rcases ahs j ns.length with h1 | h1
    ·exact h1
    ·rw [ahX (by rw [jJ];exact h1)] at hu;cases hu
   obtain ⟨b,off,hA,hb,hcell⟩:=(h.alloc hB (.cells #[] 82)).2 af;rw [yS ns j hj] at hu
   injection hA with hA;subst hA;rw [<- hu,<- hcell j hj]
   congr 1
   unfold Addr.add
   split
   ·rename_i h0;subst h0;rfl
   ·rfl
  have h1 : ∀ u∈arr ns,u.oneCell'=true:=by
   intro u hu;unfold arr at hu;rw [ahZ] at hu;obtain ⟨x,_,rfl⟩:=hu
   rfl
  have hl1:(arr ns).length=n*1:=by rw [jJ,Hn.out,ahJ]
  have UT:=Lib.hid hnews;have H1:=Lib.hid h1;have UR:=Lib.hid hl1;clear hnews h1 hl1
  go_wp2_with (at_builtin;refine wpList_append_own _ rfl _ _ 38 rfl w.heap.size 82 i0 _ 1 4 agv hi0 hz0 hz1 hz2 rfl ai _ 0 [] rfl hown ad n c (arr ns) rfl UR.out UT.out H1.out (by unfold maxLen;omega) af (by simp) ?_;intro v' w1 hown1 hgrow1 hnil)
  go_ret
  rw [ahC,air] at hown1;obtain ⟨g,c',rfl,hg,hc',hblk⟩:=yV hown1 (by intro e;have h1:=(hnil.1 e).1;cases h1);have hgl:=hblk.lt;refine ⟨some ⟨g,0,none⟩,c',rfl,hc',fun _=>⟨g,rfl,hg,hblk⟩,hblk.rd h.bI,((Below.refl _ _).alloc (ahj _) _).grown hgrow1 (by simp) (fun k hk => ?_)⟩;have e:some w.heap.size=some k:=hk
  injection e with e;exact Nat.le_of_eq e
set_option maxHeartbeats 800000 in
theorem IY(s:Bool)(A:Option Addr)(N:Nat)(n c B:Nat)(z:Int)(w:World)(h:Rd w B A (bg N))(hB:B<=w.heap.size)(hn:(bg N).length=n)(hc:n<=c)(hz:z=if s then -(N:Int) else (N:Int)) :
  Calls Tryz.prog 156 #[.bool s,.slice A n c] w (KH w B z):=by
 by_cases h0:N=0
 ·subst h0
  have e0:n=0:=by rw [<- hn];rfl
  have ez:z=0:=by rw [hz];split <;> rfl
  subst e0;subst ez;clear hn hz
  go_enter Tryz.func156,Tryz.ntmps156
  go_wp2
  refine bodyPost_ret (v := .agg #[.bool false,.slice none 0 0]) (by simp [results,Tryz.results156,go_sem]) rfl ?_;exact ⟨none,0,rfl,ahj _,Rd.nil_ _ _ _,(Below.refl _ _).alloc (ahj _) _⟩
 ·have hb:((n:Int)==0)=false:=by
   rw [beq_eq_false_iff_ne];intro e;exact h0 (ig.1 (ahB af))
  have Hz:Hid (sg z=s/\mg z=bg N):=Lib.hid (Si h0 hz);clear hz
  go_enter Tryz.func156,Tryz.ntmps156
  go_wp2
  refine bodyPost_ret (v := .agg #[.bool s,.slice A n c]) (by simp [results,Tryz.results156,go_sem]) rfl ?_;refine ⟨A,c,by rw [Hz.out.1,Hz.out.2,hn],by rw [Hz.out.2,hn];exact hc,by rw [Hz.out.2];exact h.alloc hB _,(Below.refl _ _).alloc (ahj _) _⟩
end Go.Proofs.AZQ
namespace Lw
theorem val_two(a b:Nat):val [a,b]=a+4294967296*b:=by simp [val]
theorem Jy{a b:Nat}(ha:a<4294967296)(hb:b<4294967296):bF [a,b]:=by rw [kF,kF];exact ⟨ha,hb,jV⟩
open Go
theorem TQ{z:Int}(h1 : -9223372036854775808<=z)(h0:z<0) : ∃ D N:Nat,IntKind.u64.wrap z=(D:Int)/\IntKind.u64.wrap (-(D:Int))=(N:Int)/\z = -(N:Int)/\N<=9223372036854775808/\D<=18446744073709551615:=by
 refine ⟨(z+18446744073709551616).toNat,z.natAbs,?_,?_,af,af,af⟩
 ·rw [IntKind.wrap_u64];omega
 ·rw [IntKind.wrap_u64];omega
end Lw
namespace Go.Proofs.AZQ
open Go Go.RowKit Lw
theorem Lj(w:World)(t:TypeId){a b:Int}{x y:Nat}(ha:a=x)(hb:b=y):bD (w.alloc (.cells #[.int .u32 a,.int .u32 b] t)) w.heap.size t [x,y]:=by
 subst ha hb;exact bD.new w t [x,y]
set_option maxHeartbeats 800000 in
theorem uX(x:Nat)(w:World)(_hx:x<=18446744073709551615) :
  Calls Tryz.prog 157 #[.int .u64 x] w (sO w x):=by
 have hb:=Lj w 82 (a:=(x:Int)%4294967296) (b:=(x:Int)/4294967296) (x:=x%4294967296) (y:=x/4294967296) af af;have hw:bF [x%4294967296,x/4294967296]:=Jy af af;have hv:Hid (val [x%4294967296,x/4294967296]=x):=Lib.hid (by rw [val_two];omega);have hl:Hid ((bg x).length<=2):=Lib.hid (gQ (k:=2) (by show x<18446744073709551616;omega))
 go_enter Tryz.func157,Tryz.ntmps157
 go_wp2_with fail
 refine (rX _ [x%4294967296,x/4294967296] 2 2 _ _ (hb.rd hw) rfl af af).mono ?_;rintro e w' ⟨rfl,rfl⟩
 go_wp2_with fail
 go_ret
 refine ⟨_,_,mW (by rw [hv.out]),hl.out,?_,(Below.refl _ _).alloc (ahj _) _⟩;have:=(hb.rd hw).bg;rw [hv.out] at this;exact this
set_option maxHeartbeats 800000 in
theorem aaw(z:Int)(w:World)(h1 : -9223372036854775808<=z)(h2:z<=9223372036854775807) :
  Calls Tryz.prog 88 #[.int .i64 z] w (kQ w z):=by
 by_cases h0:z<0
 ·obtain ⟨D,N,hD,hN,wX,hNl,hDl⟩:=TQ h1 h0
  have HN:=Lib.hid wX;clear wX;have hz:Hid (z=if true then -(N:Int) else (N:Int)):=Lib.hid (by rw [HN.out];rfl)
  go_enter Tryz.func88,Tryz.ntmps88
  go_wp2_with fail
  refine (uX N _ af).mono ?_;rintro e w1 ⟨A1,c1,rfl,hc1,hr1,hb1⟩;obtain ⟨t1,hs1,hb2⟩:=box1 hb1
  go_wp2_with fail
  refine (IY true A1 N _ c1 _ z _ hr1 (ahj _) rfl hc1 hz.out).mono ?_;rintro e w2 ⟨A2,c2,rfl,hc2,hr2,hb3⟩;have T2:=t1.next hb3;obtain ⟨d0,d1,g0,g1⟩:=T2.facts
  go_wp2_with fail
  refine bodyPost_ret (v := .agg #[.bool (sg z),.slice A2 (mg z).length c2]) (by simp [results,Tryz.results88,go_sem,d0,d1]) rfl ?_;exact jW T2 hr2 hb3.size hc2 (bQ hb2 hb3 af) (ahj _)
 ·obtain ⟨N,rfl⟩:=aif (show 0<=z from af)
  go_enter Tryz.func88,Tryz.ntmps88
  go_wp2_with fail
  refine (uX N _ af).mono ?_;rintro e w1 ⟨A1,c1,rfl,hc1,hr1,hb1⟩;obtain ⟨t1,hs1,hb2⟩:=box1 hb1
  go_wp2_with fail
  refine (IY false A1 N _ c1 _ (N:Int) _ hr1 (ahj _) rfl hc1 rfl).mono ?_;rintro e w2 ⟨A2,c2,rfl,hc2,hr2,hb3⟩;have T2:=t1.next hb3;obtain ⟨d0,d1,g0,g1⟩:=T2.facts
  go_wp2_with fail
  refine bodyPost_ret (v := .agg #[.bool (sg (N:Int)),.slice A2 (mg (N:Int)).length c2]) (by simp [results,Tryz.results88,go_sem,d0,d1]) rfl ?_;exact jW T2 hr2 hb3.size hc2 (bQ hb2 hb3 af) (ahj _)
end Go.Proofs.AZQ
namespace Lw
open Go
def fits(z:Int):Bool:=decide (-9223372036854775808<=z/\z<=9223372036854775807)
theorem RZ{z:Int}(h:sg z=true):z = -(z.natAbs:Int)/\0<z.natAbs:=by unfold sg at h;simp at h;omega
theorem RU{z:Int}(h:sg z=false):z=(z.natAbs:Int):=by unfold sg at h;simp at h;omega
end Lw
namespace Go.Proofs
open Go.Shelf AZQ
def Tryz.lays156_ren:Go.Shelf.Ren:=⟨fun | 156=>64 | 165=>130 | 166=>131 | 169=>132 | 240=>194 | 241=>195 | 276=>243 | 277=>244 | n=>n,fun | 31=>83 | 9=>9 | 3=>3 | 4=>4 | 0=>0 | 20=>20 | 72=>142 | 76=>144 | 70=>139 | 37=>140 | 75=>27 | 127=>190 | 164=>213 | 5=>5 | 80=>146 | n=>n,fun | n=>n⟩
theorem Tryz.lays156:Go.Proofs.Lays.n156 Tryz.prog Tryz.lays156_ren := {
 mixed:=ah
 f156:=Tryz.func64.trans (congrArg some ah)
 f165:=Tryz.func130.trans (congrArg some ah)
 f166:=Tryz.func131.trans (congrArg some ah)
 f169:=Tryz.func132.trans (congrArg some ah)
 f240:=Tryz.func194.trans (congrArg some ah)
 f241:=Tryz.func195.trans (congrArg some ah)
 f276:=Tryz.func243.trans (congrArg some ah)
 f277:=Tryz.func244.trans (congrArg some ah)
 t0:=Tryz.underlying0
 a0:=Tryz.isAgg0
 z0:=Tryz.sizeOf0
 v0:=Tryz.zeroValue0
 t3:=agL
 a3:=agM
 z3:=agN
 v3:=agP
 t4:=agB
 a4:=agE
 z4:=agF
 v4:=agQ
 t9:=ag1
 a9:=ag2
 z9:=agR
 v9:=agS
 t20:=Tryz.underlying20
 a20:=Tryz.isAgg20
 z20:=Tryz.sizeOf20
 v20:=Tryz.zeroValue20
 t31:=Tryz.underlying83
 a31:=Tryz.isAgg83
 z31:=Tryz.sizeOf83
 v31:=Tryz.zeroValue83
 t37:=ag3
 a37:=Tryz.isAgg140
 z37:=Tryz.sizeOf140
 v37:=Tryz.zeroValue140
 t70:=Tryz.underlying139
 a70:=Tryz.isAgg139
 z70:=Tryz.sizeOf139
 v70:=Tryz.zeroValue139
 t72:=Tryz.underlying142
 a72:=Tryz.isAgg142
 z72:=Tryz.sizeOf142
 v72:=Tryz.zeroValue142
 t75:=Tryz.underlying27
 a75:=Tryz.isAgg27
 z75:=Tryz.sizeOf27
 v75:=Tryz.zeroValue27
 t76:=Tryz.underlying144
 a76:=Tryz.isAgg144
 z76:=Tryz.sizeOf144
 v76:=Tryz.zeroValue144
 t127:=Tryz.underlying190
 a127:=Tryz.isAgg190
 z127:=Tryz.sizeOf190
 v127:=Tryz.zeroValue190
 t164:=Tryz.underlying213
 a164:=Tryz.isAgg213
 z164:=Tryz.sizeOf213
 v164:=Tryz.zeroValue213 }
theorem Tryz.Builder_Extra_156:Builder.Extra Tryz.prog Tryz.lays156_ren := {
 sizeBuilder:=ah
 liesBuilder:=ah
 t5:=agT
 a5:=ag4
 z5:=ag5
 v5:=ag6
 infoByte:=ah
 cellsByte:=ah
 sizeByte:=ah
 neB5:=by decide }
open Go.RowKit in
theorem Tryz.strings_Join_none(a:Option Addr)(c:Nat)(sep:ByteArray)(w:World) :
  Calls Tryz.prog 64 #[.slice a 0 c,.string sep] w fun e w'=>e = .returned (.string ⟨#[]⟩)/\w'=w:=Any.strings_Join_none Tryz.lays156 Tryz.Builder_Extra_156 a c sep w
open Go.RowKit in
theorem Tryz.strings_Join(bk o c:Nat)(xs:List ByteArray)(sep:ByteArray)(w:World)(hcells : ∀ (j:Nat) x,xs[j]? = some x->w.cell? ⟨bk,o+j,none⟩=some (.string x))(hbk:bk<w.heap.size)(hN:xs.length<=140737488355328)(hcap:xs.length<=c)(hlen:(Lib.join (xs.map (·.data.toList)) sep.data.toList).length<=140737488355328) :
  Calls Tryz.prog 64 #[.slice (some ⟨bk,o,none⟩) xs.length c,.string sep] w fun e w'=>e = .returned (.string ⟨(Lib.join (xs.map (·.data.toList)) sep.data.toList).toArray⟩)/\Below w.heap.size w w':=Any.strings_Join Tryz.lays156 Tryz.Builder_Extra_156 bk o c xs sep w hcells hbk hN hcap hlen
def Tryz.lays133_ren:Go.Shelf.Ren:=⟨fun | 133=>276 | 128=>282 | n=>n,fun | 51=>82 | 3=>3 | 4=>4 | 46=>186 | 5=>5 | 9=>9 | n=>n,fun | n=>n⟩
theorem Tryz.lays133:Go.Proofs.Lays.n133 Tryz.prog Tryz.lays133_ren := {
 mixed:=ah
 f128:=Tryz.func282.trans (congrArg some ah)
 f133:=Tryz.func276.trans (congrArg some ah)
 t3:=agL
 a3:=agM
 z3:=agN
 v3:=agP
 t4:=agB
 a4:=agE
 z4:=agF
 v4:=agQ
 t5:=agT
 a5:=ag4
 z5:=ag5
 v5:=ag6
 t9:=ag1
 a9:=ag2
 z9:=agR
 v9:=agS
 t46:=Tryz.underlying186
 a46:=Tryz.isAgg186
 z46:=Tryz.sizeOf186
 v46:=Tryz.zeroValue186
 t51:=Tryz.underlying82
 a51:=agU
 z51:=agV
 v51:=Tryz.zeroValue82 }
theorem Tryz.bits_LeadingZeros32(x:Int)(w:World)(h0:0<=x)(h1:x<=4294967295) :
  Calls Tryz.prog 276 #[.int .u32 x] w fun e w'=>e = .returned (.int .i64 (32-(Lib.bitLen x.toNat:Int)))/\w'=w:=Any.bits_LeadingZeros32 Tryz.lays133 x w h0 h1
def Tryz.lays283_ren:Go.Shelf.Ren:=⟨fun | 283=>264 | n=>n,fun | 3=>3 | 9=>9 | 4=>4 | n=>n,fun | n=>n⟩
theorem Tryz.lays283:Go.Proofs.Lays.n283 Tryz.prog Tryz.lays283_ren := {
 mixed:=ah
 f283:=Tryz.func264.trans (congrArg some ah)
 t3:=agL
 a3:=agM
 z3:=agN
 v3:=agP
 t4:=agB
 a4:=agE
 z4:=agF
 v4:=agQ
 t9:=ag1
 a9:=ag2
 z9:=agR
 v9:=agS }
open Go.Lib in
theorem Tryz.internal_strconv_small(i:Nat)(h:i<100)(w:World) :
  Calls Tryz.prog 264 #[.int .i64 i] w fun e w'=>e = .returned (.string ⟨(Lib.decDigits i).toArray⟩)/\w'=w:=Any.internal_strconv_small Tryz.lays283 i h w
def Tryz.laysM288_ren:Go.Shelf.Ren:=⟨fun | 288=>263 | 283=>264 | 284=>265 | 285=>266 | 286=>267 | 129=>272 | 317=>271 | 318=>273 | 319=>274 | 320=>275 | 337=>281 | 338=>236 | n=>n,fun | 37=>140 | 53=>160 | 3=>3 | 4=>4 | 9=>9 | 171=>226 | 0=>0 | 173=>228 | 212=>234 | 51=>82 | 5=>5 | 20=>20 | 213=>235 | 46=>186 | 232=>240 | 233=>225 | n=>n,fun | 17=>2 | 18=>3 | 19=>0 | n=>n⟩
theorem Tryz.laysM288:Go.Proofs.LaysM.n288 Tryz.prog Tryz.laysM288_ren := {
 mixed:=ah
 f129:=Tryz.func272.trans (congrArg some ah)
 f283:=Tryz.func264.trans (congrArg some ah)
 f284:=Tryz.func265.trans (congrArg some ah)
 f285:=Tryz.func266.trans (congrArg some ah)
 f286:=Tryz.func267.trans (congrArg some ah)
 f288:=Tryz.func263.trans (congrArg some ah)
 f317:=Tryz.func271.trans (congrArg some ah)
 f318:=Tryz.func273.trans (congrArg some ah)
 f319:=Tryz.func274.trans (congrArg some ah)
 f320:=Tryz.func275.trans (congrArg some ah)
 f337:=Tryz.func281.trans (congrArg some ah)
 f338:=Tryz.func236.trans (congrArg some ah)
 t0:=Tryz.underlying0
 a0:=Tryz.isAgg0
 z0:=Tryz.sizeOf0
 v0:=Tryz.zeroValue0
 t3:=agL
 a3:=agM
 z3:=agN
 v3:=agP
 t4:=agB
 a4:=agE
 z4:=agF
 v4:=agQ
 t5:=agT
 a5:=ag4
 z5:=ag5
 v5:=ag6
 t9:=ag1
 a9:=ag2
 z9:=agR
 v9:=agS
 t20:=Tryz.underlying20
 a20:=Tryz.isAgg20
 z20:=Tryz.sizeOf20
 v20:=Tryz.zeroValue20
 t37:=ag3
 a37:=Tryz.isAgg140
 z37:=Tryz.sizeOf140
 v37:=Tryz.zeroValue140
 t46:=Tryz.underlying186
 a46:=Tryz.isAgg186
 z46:=Tryz.sizeOf186
 v46:=Tryz.zeroValue186
 t51:=Tryz.underlying82
 a51:=agU
 z51:=agV
 v51:=Tryz.zeroValue82
 t53:=Tryz.underlying160
 a53:=Tryz.isAgg160
 z53:=Tryz.sizeOf160
 v53:=Tryz.zeroValue160
 t171:=Tryz.underlying226
 a171:=Tryz.isAgg226
 z171:=Tryz.sizeOf226
 v171:=Tryz.zeroValue226
 t173:=Tryz.underlying228
 a173:=Tryz.isAgg228
 z173:=Tryz.sizeOf228
 v173:=Tryz.zeroValue228
 t212:=Tryz.underlying234
 a212:=Tryz.isAgg234
 z212:=Tryz.sizeOf234
 v212:=Tryz.zeroValue234
 t213:=Tryz.underlying235
 a213:=Tryz.isAgg235
 z213:=Tryz.sizeOf235
 t232:=Tryz.underlying240
 a232:=Tryz.isAgg240
 z232:=Tryz.sizeOf240
 v232:=Tryz.zeroValue240
 t233:=Tryz.underlying225
 a233:=Tryz.isAgg225
 z233:=Tryz.sizeOf225
 v233:=Tryz.zeroValue225
 g17:=ah
 g18:=ah
 g19:=ah
 i0:=ah
 i3:=ah
 i4:=ah
 i5:=ah
 i9:=ah
 i20:=ah
 i37:=ah
 i46:=ah
 i51:=ah
 i53:=ah
 i171:=ah
 i173:=ah
 i212:=ah
 i232:=ah
 i233:=ah
 m17:=ah
 m18:=ah
 m19:=by kernel_rfl }
open Go.RowKit Go.Sort Go.Lib in
theorem Tryz.internal_strconv_AppendUint_10_small(B n u:Nat)(hu:u<100)(sv:Value)(xs:List Value)(w:World)(hown:w.ownsRow B 5 1 sv n xs)(hBw:B<=w.heap.size)(hlim:n+20<=140737488355328) :
  Calls Tryz.prog 263 #[sv,.int .u64 u,.int .i64 10] w fun e w' => ∃ v',e = .returned v'/\w'.ownsRow B 5 1 v' (n+(Lib.decDigits u).length) (xs++Lib.byteCells (Lib.decDigits u))/\Below B w w'/\Lib.OthersKept 5 none w w':=Any.internal_strconv_AppendUint_10_small Tryz.laysM288 B n u hu sv xs w hown hBw hlim
open Go.RowKit Go.Sort Go.Lib in
theorem Tryz.internal_strconv_AppendUint_10_big(B n u:Nat)(hu:100<=u)(hu64:u<18446744073709551616)(sv:Value)(xs:List Value)(w:World)(hown:w.ownsRow B 5 1 sv n xs)(hBw:B<=w.heap.size)(hlim:n+20<=140737488355328)(htab:Lib.TabIs Tryz.prog w "internal/strconv.uint64pow10" .u64 Lib.pow10Tab) :
  Calls Tryz.prog 263 #[sv,.int .u64 u,.int .i64 10] w fun e w' => ∃ v',e = .returned v'/\w'.ownsRow B 5 1 v' (n+(Lib.decDigits u).length) (xs++Lib.byteCells (Lib.decDigits u))/\Below B w w'/\Lib.OthersKept 5 none w w':=Any.internal_strconv_AppendUint_10_big Tryz.laysM288 B n u hu hu64 sv xs w hown hBw hlim htab
end Go.Proofs
namespace Lw
open Go
def fG(z:Int):Int:=if z<0 then -1 else if z=0 then 0 else 1
def mJ(l:List Nat):Nat:=if l.length=0 then 0 else (l.length-1)*32+Lib.bitLen (dg l (l.length-1))
theorem VP{x:Nat}(h:x<4294967296):Lib.bitLen x<=32:=Lib.bitLen_le x 32 af (by simpa using h)
theorem Az{z:Int} : (mg z).length=0↔z=0:=by
 rw [ahT];unfold mg;rw [ig];omega
end Lw
namespace Lw
open Go Go.RowKit
theorem addr_add(b off j:Nat):(⟨b,off,none⟩:Addr).add j=⟨b,off+j,none⟩:=by
 unfold Addr.add;split
 ·grind
 ·rfl
theorem acG{P:Program}(w:World)(base:Nat)(t ty e:TypeId)(i:TypeInfo)(ht:P.underlying t=some (.slice e))(hi:P.info? e=some i)(v:Value)(n:Nat)(xs:List Value)(hown:w.ownsRow base e 1 v n xs)(c:Nat):(Builtin.append_ #[t,t] ty #[v,.slice none 0 c]).run P w = .ok v w:=by
 rcases hown.2 with ⟨rfl,rfl⟩ | ⟨g,cap,cur,rfl,_,_,hnc,_⟩
 ·simp [Builtin.append_,run_underlying ht,Go.sizeOf,typeInfo,hi,Builtin.lenOf,Builtin.firstCells]
 ·simp [Builtin.append_,run_underlying ht,Go.sizeOf,typeInfo,hi,Builtin.lenOf,Builtin.firstCells,hnc,storeCells]
theorem KT(a b:List Nat):arr (a++b)=arr a++arr b:=by simp [arr]
theorem bD.take{w:World}{g:Nat}{t:TypeId}{ns:List Nat}(h:bD w g t ns)(k:Nat):bD w g t (ns.take k):=by
 obtain ⟨rest,h⟩:=h;refine ⟨arr (ns.drop k)++rest,?_⟩;rw [h,<- ail,<- KT,ai9]
theorem bD.bg{w:World}{g:Nat}{t:TypeId}{ns:List Nat}(h:bD w g t ns)(hw:bF ns):bD w g t (bg (val ns)):=by
 rw [L9 hw];exact h.take _
theorem KU(ns:List Nat) : ∀ u∈arr ns,u.oneCell'=true:=by
 intro u hu;unfold arr at hu;rw [ahZ] at hu;obtain ⟨x,_,rfl⟩:=hu
 rfl
theorem Rd.cells{w:World}{B:Nat}{ad:Addr}{ms:List Nat}(h:Rd w B (some ad) ms) : ∀ j u,(arr ms)[j]? = some u->w.cell? (ad.add j)=some u:=by
 intro j u hu
 have hj:j<ms.length:=by
  rcases ahs j ms.length with h1 | h1
  ·exact h1
  ·rw [ahX (by rw [jJ];exact h1)] at hu;cases hu
 obtain ⟨b,off,hA,hb,hcell⟩:=h.2 af;rw [yS ms j hj] at hu
 injection hA with hA;subst hA;rw [<- hu,<- hcell j hj,addr_add]
theorem Dy{P:Program}(w:World){ops:Array Oper}{rest:List Oper}{o:Oper}{a:Act}{Q:Exit->Act->World->Prop}(hgd:o.guard=none)(s x:Operand)(t:TypeId)(ho:o.op = .call { callee := .builtin .append,args := #[s,x],argTypes := #[t,t] })(base:Nat)(e:TypeId)(ht:P.underlying t=some (.slice e))(hinfo:(P.info? e).map (fun i=>(i.zero,i.size,i.bytes))=some (some (.int .u32 0),1,4))(v:Value)(n:Nat)(ns:List Nat)(hs:a.eval s=v)(hown:w.ownsRow base e 1 v n (arr ns))(B:Nat)(A:Option Addr)(ms:List Nat)(m c:Nat)(hx:a.eval x = .slice A m c)(hr:Rd w B A ms)(hm:ms.length=m)(hlim:n+m<=1099511627776)(hbase:base<=w.heap.size)(h : ∀ v' w',w'.ownsRow base e 1 v' (n+m) (arr (ns++ms))->w.grownBy w' v.ownBlock->(v' = .slice none 0 0↔v = .slice none 0 0/\m=0)->wpList P ops Q rest (a.put o.dst v') w'):wpList P ops Q (o::rest) a w:=by
 obtain ⟨i,h2,h3,h4,h5⟩:=info_parts hinfo;rcases A with _ | ad
 ·have h0:m=0:=by
   rcases ahE m with h0 | h0
   ·exact h0
   ·obtain ⟨b,off,hA,_⟩:=hr.2 af
    cases hA
  subst h0;have e0:ms=[]:=ahB hm;subst e0;refine wpList_plain hgd fun K hK => ?_;have hrun:=acG (P:=P) w base t o.type e i ht h2 v n (arr ns) hown c;unfold Oper.wp;simp [execOp,ho,resolve,invoke,builtin,hs,hx,hrun,Result.andThen];refine hK _ _ (h v w ?_ (World.grownBy.refl w _) ⟨fun hv=>⟨hv,rfl⟩,fun hv=>hv.1⟩);rw [aiW];exact hown
 ·refine wpList_append_own w hgd s x t ho base e i _ 1 4 ht h2 h3 h4 h5 rfl ai v n (arr ns) hs hown ad m c (arr ms) hx (by rw [jJ,hm,ahJ]) hr.cells (KU ms) (by unfold maxLen;omega) af hbase ?_
  intro v' w' h1 h2 h3;rw [<- KT] at h1;exact h v' w' h1 h2 h3
end Lw
namespace Lw
def sv(s:Bool)(N:Nat):Int:=if s then -(N:Int) else (N:Int)
theorem uY(z:Int):sv (sg z) z.natAbs=z:=by have:=uS z;rw [fU] at this;exact this.symm
theorem adL(s s':Bool)(h:(s==s')=true)(N M:Nat):sv s N+sv s' M=sv s (N+M):=by
 cases s <;> cases s' <;> simp [sv] at * <;> omega
theorem adM(s s':Bool)(h:(s==s')=false){N M:Nat}(hle:M<=N):sv s N+sv s' M=sv s (N-M):=by
 cases s <;> cases s' <;> simp [sv] at * <;> omega
theorem adN(s s':Bool)(h:(s==s')=false){N M:Nat}(hle:N<=M):sv s N+sv s' M=sv s' (M-N):=by
 cases s <;> cases s' <;> simp [sv] at * <;> omega
theorem ES{a b:Nat}(h:a<b):iQ a b<0:=by rw [tq h];omega
theorem ET{a b:Nat}(h:b<=a):¬ iQ a b<0:=by unfold iQ;rw [if_neg af];split <;> omega
end Lw
namespace Go.Proofs.AZQ
open Go Go.RowKit Lw
attribute [local go_sem ↓] Go.wp_at_zero Go.wp_at_succ
theorem ad7{p:Prop}(h:p:=by
  go_region_with (first
   | (go_at_call_of 191 (Value.agg #[Value.bool s,Value.slice A n c]);refine (GL s A ns n c B _ (by first | exact R1.drew | exact R1.next K2 af) (by first | (simp;omega) | (have:=K2.size;omega)) hn af hc).mono ?_;rintro e w1 ⟨A1,c1,rfl,hc1,hr1,hb1⟩;have K1:Below W.heap.size W w1:=(by first | exact PU hb1 | exact PV K2 hb1);obtain ⟨d10,d11,g10,g11⟩:=(T1.next K1).facts;obtain ⟨d20,d21,g20,g21⟩:=(T2.next K1).facts)
   | (go_at_call_of 191 (Value.agg #[Value.bool s',Value.slice A' m c']);refine (GL s' A' ms m c' B' _ (by first | exact R2.drew | exact R2.next K1 af) (by first | (simp;omega) | (have:=K1.size;omega)) hm af hc').mono ?_;rintro e w2 ⟨A2,c2,rfl,hc2,hr2,hb2⟩;have K2:Below W.heap.size W w2:=(by first | exact PU hb2 | exact PV K1 hb2);obtain ⟨i10,i11,j10,j11⟩:=(T1.next K2).facts;obtain ⟨i20,i21,j20,j21⟩:=(T2.next K2).facts))
  all_goals
   obtain ⟨P1,P2,P3,P4,P5⟩:_/\_/\_/\_/\_:=by
    first
     | exact xN (sg (zv s ns)) (sg (zv s' ms)) (.slice A1 (mg (zv s ns)).length c1) (.slice A2 (mg (zv s' ms)).length c2) (T1.next K2) (T2.next K2) af (hr1.next hb2 (by have:=K1.size;omega)) hr2 (bQ hb0 K2 af) (ahj _) af
     | exact xN (sg (zv s ns)) (sg (zv s' ms)) (.slice A1 (mg (zv s ns)).length c1) (.slice A2 (mg (zv s' ms)).length c2) (T1.next K1) (T2.next K1) af hr1 (hr2.next hb1 (by have:=K2.size;omega)) (bQ hb0 K1 af) (ahj _) af
   clear d10 d11 g10 g11 d20 d21 g20 g21 i10 i11 i20 i21 j10 j11 j20 j21 c10 c11 c20 c21 f10 f11 f20 f21
   go_wp2_with fail
   go_meet
   have U7:=(T3.next K1);have U8:=(T3.next K2);exact ⟨A1,c1,A2,c2,P1,P2,by first | exact U8.qV af af _ _ _ _ | exact U7.qV af af _ _ _ _,P3,P4,P5,hc1,hc2⟩):p:=h
end Go.Proofs.AZQ
namespace Lw
theorem aak(a b:Int):a*b=if (sg a != sg b)=true then -((a.natAbs*b.natAbs:Nat):Int) else ((a.natAbs*b.natAbs:Nat):Int):=by
 have ha:=uS a;have hb:=uS b;grind
end Lw
namespace Lw
def kT(a b:Int):Int:=if a<b then -1 else if a=b then 0 else 1
end Lw
namespace Lw
open Go Go.RowKit
theorem vk(l:List Nat){k:Nat}(h:k<l.length):val (l.drop k)=dg l k+4294967296*val (l.drop (k+1)):=by
 rw [aiq h,jT,lU h]
theorem EY(l:List Nat){k j v:Nat}(h:k<j):(l.set k v).drop j=l.drop j:=by
 rw [List.drop_set,if_pos h]
theorem MB{x r d H:Nat}(hx:0<x)(hr:r=H%x)(hd:d<4294967296) :
  (d+4294967296*r)/x<4294967296/\(d+4294967296*r)/x+4294967296*(H/x)=(d+4294967296*H)/x/\(d+4294967296*r)%x=(d+4294967296*H)%x:=by
 subst hr;have h1:=Nat.mod_add_div H x;have h2:=aht H hx;generalize H%x=r at *;generalize H/x=q at *
 have h3:d+4294967296*H=(d+4294967296*r)+x*(4294967296*q):=by
  rw [<- h1,ahn];have:4294967296*(x*q)=x*(4294967296*q):=by rw [<- ahA,ahu 4294967296 x,ahA]
  omega
 refine ⟨?_,?_,?_⟩
 ·rw [aim hx]
  omega
 ·rw [h3,aiB _ _ hx]
 ·rw [h3,ai']
end Lw
namespace Go.Proofs.AZQ
open Go Go.RowKit Lw
set_option maxHeartbeats 1600000 in
theorem Md(g x:Nat)(ns:List Nat)(n c:Nat)(w:World)(hb:bD w g 82 ns)(hw:bF ns)(hn:ns.length=n)(h1:1<=n)(hl:n<=16777216)(_hx:1<=x)(hx2:x<=4294967295) :
  Calls Tryz.prog 238 #[.slice (some ⟨g,0,none⟩) n c,.int .u32 x] w fun e w' => ∃ ds,e = .returned (.int .u32 ((val ns%x:Nat):Int))/\bD w' g 82 ds/\bF ds/\ds.length=n/\val ds=val ns/x /\
   w.grownBy w' (some g)/\w'.heap.size=w.heap.size:=by
 have Hn:=Lib.hid hn;clear hn
 go_enter Tryz.func238,Tryz.ntmps238
 go_wp2_with fail
 go_loopw [5,6] (fun v i wr => ∃ (i':Int) (r:Nat) (ds:List Nat),-1<=i'/\i'<n/\r<=4294967294/\r<x/\i = .int .i64 i'/\v = .int .u64 r/\bD wr g 82 ds/\Hid (ds.length=n)/\bF ds /\
   Hid (∀ j,j<(i'+1).toNat->dg ds j=dg ns j)/\Hid (val (ds.drop (i'+1).toNat)=val (ns.drop (i'+1).toNat)/x/\r=val (ns.drop (i'+1).toNat)%x)/\Hid (w.grownBy wr (some g)/\wr.heap.size=w.heap.size)) (fun _ i _=>(intOf i+1).toNat)
 case atStart=>exact ⟨(n:Int)-1,0,ns,af,af,af,af,rfl,rfl,hb,Hn,hw,Lib.hid (fun _ _=>rfl),Lib.hid (by rw [show ((n:Int)-1+1).toNat=n from af,aiA (by rw [Hn.out];exact ahj _)];simp [val]),Lib.hid ⟨World.grownBy.refl w _,rfl⟩⟩
 case round =>
  obtain ⟨i',r,ds,hi,hin,hr,hrx,rfl,rfl,hb1,hdl,hdw,hsame,hv,hg⟩:=hrel;clear hb
  by_cases h0:i'<0
  ·have HV:Hid (val ds=val ns/x/\r=val ns%x):=Lib.hid (by have:=hv.out;rwa [show (i'+1).toNat=0 from af,ah5,ah5] at this)
   go_wp2_with fail
   go_ret
   exact ⟨ds,eF (by rw [HV.out.2]),hb1,hdw,hdl.out,HV.out.1,hg.out.1,hg.out.2⟩
  ·obtain ⟨j,rfl⟩:=aif (show 0<=i' from af)
   have hcc:=hb1.cell (i:=j) (by rw [hdl.out];omega);have hlt:=dV hdw j;have hfr:=hb1.frozen j;have HO:bits .or .u64 ((r:Int)*4294967296) (dg ds j:Int)=((dg ds j+4294967296*r:Nat):Int):=rF af hlt;have hst:=MB (x:=x) (r:=r) (d:=dg ds j) (H:=val (ns.drop (j+1))) af (by have:=hv.out.2;rwa [show ((j:Int)+1).toNat=j+1 by omega] at this) hlt;have hm:=aht (dg ds j+4294967296*r) (show 0<x from af);have HST:=Lib.hid hst;have HM:=Lib.hid hm;have gB:(dg ds j+4294967296*r)/x<=4294967295:=by have:=hst.1;omega
   clear hst hm;have hdj:Hid (dg ds j=dg ns j):=Lib.hid (hsame.out j af)
   go_wp2_with fail
   go_roundw
   case rel =>
    refine ⟨(j:Int)-1,(dg ds j+4294967296*r)%x,ds.set j ((dg ds j+4294967296*r)/x),af,af,by have:=HM.out;omega,HM.out,rfl,by go_num,hb1.oM (by rw [hdl.out];omega) ?_,Lib.hid (by rw [ahv];exact hdl.out),iO hdw _ af,Lib.hid ?_,Lib.hid ?_,Lib.hid ⟨lY hg.out.1 _ _,by simp [hg.out.2]⟩⟩
    ·have h3:(((dg ds j+4294967296*r)/x:Nat):Int)=((dg ds j:Int)+4294967296*(r:Int))/(x:Int):=by simp
     rw [<- h3];generalize (dg ds j+4294967296*r)/x=q at gB ⊢;omega
    ·intro k hk
     rw [iJ (l:=ds) (k:=j) _ (by rw [hdl.out];omega),if_neg af];exact hsame.out k af
    ·have hv1:=hv.out
     rw [show ((j:Int)+1).toNat=j+1 by omega] at hv1;rw [show ((j:Int)-1+1).toNat=j from af,vk (ds.set j ((dg ds j+4294967296*r)/x)) (k:=j) (by rw [ahv,hdl.out];omega),iJ (l:=ds) (k:=j) _ (by rw [hdl.out];omega),if_pos rfl,EY _ af,hv1.1,vk ns (k:=j) (by rw [Hn.out];omega),<- hdj.out];exact HST.out.2
   case measure=>simp [intOf]
end Go.Proofs.AZQ
namespace Lw
open Go Go.RowKit
def Rn:Nat->Nat->Nat
 | 0,_=>0
 | f+1,N=>if (f+1)*(f+1)<=N then f+1 else Rn f N
def rt(N:Nat):Nat:=Rn N N
theorem bitLen_spec{x:Nat}(h0:x≠0)(h:x<18446744073709551616):1<=Lib.bitLen x/\2^(Lib.bitLen x-1)<=x/\x<2^Lib.bitLen x/\Lib.bitLen x<=64:=by
 have h2:x<2^64:=af;obtain ⟨a,b,c⟩:=Lib.bitLenAux_bounds 64 x h2 h0;exact ⟨a,b,c,Lib.bitLen_le x 64 af h2⟩
end Lw
namespace Go.Proofs.AZQ
open Go Go.RowKit Lw
set_option maxHeartbeats 800000 in
theorem adB(x y:Nat)(w:World)(hx:x<=18446744073709551615)(hy:y<=18446744073709551615) :
  Calls Tryz.prog 254 #[.int .u64 x,.int .u64 y] w fun e w'=>e = .returned (.int .u64 ((Nat.gcd x y:Nat):Int)) /\ ∃ q,w'=w.drewN q:=by
 go_enter Tryz.func254,Tryz.ntmps254
 go_wp2
 go_loopw [0,1] (fun a b wr => ∃ u v q:Nat,u<=18446744073709551615/\v<=18446744073709551615/\a = .int .u64 u/\b = .int .u64 v/\Hid (Nat.gcd u v=Nat.gcd x y)/\wr=w.drewN q) (fun _ b _=>(intOf b).toNat)
 case atStart=>exact ⟨x,y,0,hx,hy,rfl,rfl,Lib.hid rfl,rfl⟩
 case round =>
  obtain ⟨u,v,q,hu,hv,rfl,rfl,hg,rfl⟩:=hrel
  by_cases h0:v=0
  ·subst h0
   have HG:Hid (u=Nat.gcd x y):=Lib.hid (by rw [<- hg.out,aja])
   go_wp2
   go_ret
   exact ⟨eF (by rw [<- HG.out]),q,rfl⟩
  ·have HG:Hid (Nat.gcd v (u%v)=Nat.gcd x y):=Lib.hid (by rw [<- hg.out,ah6 u v,Nat.gcd_rec v u,ah6])
   have hm:=aht u (show 0<v from af);have HM:=Lib.hid hm;clear hm;have hv1:1<=v:=af;have hbq:((v:Int) != 0)=true:=by rw [bne_iff_ne];omega
   clear h0
   go_wp2
   go_quiet (fail)
   go_wp2
   go_roundw
   case rel=>exact ⟨v,u%v,q+nq,hv,by have:=HM.out;omega,rfl,congrArg _ (aiY u v).symm,HG,by rw [World.drewN_drewN]⟩
   case measure =>
    show ((u:Int)%(v:Int)).toNat<((v:Int)).toNat;rw [<- aiY,aie,aie];exact HM.out
attribute [local go_sem ↓] Go.wp_at_zero Go.wp_at_succ
def sQ(w:World)(N M:Nat)(e:Ending)(w':World):Prop :=
 ∃ A c A' c',e = .returned (.tuple #[.slice A (bg N).length c,.slice A' (bg M).length c'])/\(bg N).length<=c/\(bg M).length<=c'/\Rd w' w'.heap.size A (bg N)/\Rd w' w'.heap.size A' (bg M)/\Below w.heap.size w w'
set_option maxRecDepth 100000 in
set_option maxHeartbeats 1600000 in
theorem Xg(A A':Option Addr)(N M n m c c' B B':Nat)(w:World)(h:Rd w B A (bg N))(h':Rd w B' A' (bg M))(hB:B<=w.heap.size)(hB':B'<=w.heap.size)(hn:(bg N).length=n)(hm:(bg M).length=m)(hl:n<=8388608)(hl':m<=8388608)(_hc:n<=c)(hc':m<=c')(hM:M≠0)(HL:2<n->m≠1->M<=N -> ∀ W:World,Below w.heap.size w W->Calls Tryz.prog 269 #[.slice A n c,.slice A' m c'] W (sQ W (N/M) (N%M))) :
  Calls Tryz.prog 252 #[.slice A n c,.slice A' m c'] w (sQ w (N/M) (N%M)):=by
 have vN:=bG N;have vM:=bG M
 have hm1:1<=m:=by
  rcases ahE m with h0 | h0
  ·subst h0
   exact absurd (ig.1 (ahB hm)) hM
  ·exact h0
 have Hn:=Lib.hid hn;have Hm:=Lib.hid hm;have VN:=Lib.hid vN;have VM:=Lib.hid vM;have UB:=Lib.hid HL;clear hn hm vN vM HL;rcases ahs N M with hlt | hge
 ·have hcm:=ES hlt
  have HD:Hid (N/M=0/\N%M=N):=Lib.hid ⟨ah7 hlt,aih hlt⟩
  go_enter ag7,ag8
  go_wp2_with fail
  refine (tC A A' (bg N) (bg M) _ _ _ _ B B' _ h h' (fB _) (fB _) Hn.out Hm.out af af).mono ?_;rintro e w1 ⟨rfl,q,rfl⟩;rw [VN.out,VM.out]
  go_wp2_with fail
  refine (clone_any A (bg N) _ _ B _ (h.drewN q) (by simpa using hB) Hn.out af).mono ?_;rintro e w2 ⟨A1,c1,rfl,hc1,hg1,hr1,hb1⟩
  go_wp2_with fail
  go_ret2
  rw [HD.out.1,HD.out.2];exact ⟨none,0,A1,c1,by rw [Hn.out];rfl,ahj _,by rw [Hn.out];exact hc1,Rd.nil_ _ _ _,hr1,bQ (below_drewN' _ _ _) hb1 (ahj _)⟩
 ·have hcm:=ET hge
  by_cases h2:n<=2
  ·have NC:N<=18446744073709551615:=by have:=mG (n:=N) (k:=2) (by rw [Hn.out];exact h2);have h3:pw 2=18446744073709551616:=rfl;omega
   have UC:Hid (lo (bg N) 2=N):=Lib.hid (by rw [di (by rw [Hn.out];exact h2),VN.out])
   have Ef:Hid (lo (bg M) 2=M):=Lib.hid (by
    rw [di,VM.out];exact gQ (by have h3:pw 2=18446744073709551616:=rfl;omega))
   have hq:IntKind.u64.wrap ((N:Int)/(M:Int))=((N/M:Nat):Int):=by
    rw [<- aiZ];exact IntWalk.u64_in _ (by have:=ah0 N M;generalize N/M=Q at *;omega)
   have gB:N/M<=18446744073709551615:=ahk (ah0 N M) NC;have hrl:N%M<=18446744073709551615:=ahk (Nat.mod_le N M) NC;have hre:(N:Int).tmod (M:Int)=((N%M:Nat):Int):=by rw [Int.tmod_eq_emod_of_nonneg af];exact (aiY N M).symm
   obtain ⟨Q,hQ⟩ : ∃ Q,Q=N/M:=⟨_,rfl⟩;obtain ⟨R,hR⟩ : ∃ R,R=N%M:=⟨_,rfl⟩;rw [<- hQ] at hq gB ⊢;rw [<- hR] at hrl hre ⊢;clear hQ hR
   go_enter ag7,ag8
   go_wp2_with fail
   refine (tC A A' (bg N) (bg M) _ _ _ _ B B' _ h h' (fB _) (fB _) Hn.out Hm.out af af).mono ?_;rintro e w1 ⟨rfl,q,rfl⟩;rw [VN.out,VM.out]
   go_wp2_with fail
   refine (Ak A (bg N) _ c B _ (h.drewN q) Hn.out af).mono ?_;rintro e w2 ⟨rfl,rfl⟩;rw [UC.out]
   go_wp2_with fail
   refine (Ak A' (bg M) _ c' B' _ (h'.drewN q) Hm.out af).mono ?_;rintro e w2 ⟨rfl,rfl⟩;rw [Ef.out]
   go_wp2_with fail
   go_region_with (first
    | (go_at_call_of 157 (Value.int IntKind.u64 (Q:Int));refine (uX Q _ gB).mono ?_;rintro e w3 ⟨A3,c3,rfl,hc3,hr3,hb3⟩)
    | (go_at_call_of 157 (Value.int IntKind.u64 (R:Int));refine (uX R _ hrl).mono ?_;rintro e w4 ⟨A4,c4,rfl,hc4,hr4,hb4⟩))
   go_wp2_with fail
   go_ret2
   have hb5:Below w.heap.size w w3:=by
    first
     | exact bQ (below_drewN' _ _ (q+1)) hb3 (ahj _)
     | exact bQ (below_drewN' _ _ q).drew hb3 (ahj _)
   exact ⟨A3,c3,A4,c4,rfl,hc3,hc4,(hr3.next hb4 (ahj _)).more hb4.size,hr4,bQ hb5 hb4 (ahj _)⟩
  ·by_cases h1:m=1
   ·subst h1
    obtain ⟨b,off,rfl,hb,hcell,hlt⟩:=h'.at_ (k:=0) (by rw [Hm.out];omega)
    have hx:Hid (dg (bg M) 0=M):=Lib.hid (by
     have e1:=di (l:=bg M) (k:=1) (by rw [Hm.out];omega);rw [bV,fM,lG,VM.out] at e1;omega)
    rw [hx.out] at hcell hlt;rw [ahF] at hcell
    go_enter ag7,ag8
    go_wp2_with fail
    refine (tC A (some ⟨b,off,none⟩) (bg N) (bg M) _ _ _ _ B B' _ h h' (fB _) (fB _) Hn.out Hm.out af af).mono ?_;rintro e w1 ⟨rfl,q,rfl⟩;rw [VN.out,VM.out]
    go_wp2_with fail
    refine (clone_any A (bg N) _ _ B _ (h.drewN q) (by simpa using hB) Hn.out af).mono ?_;rintro e w2 ⟨A1,c1,rfl,hc1,hg1,hr1,hb1⟩;obtain ⟨g,rfl,hgl,hblk⟩:=hg1 af;have hcell2:=(hb1.cell (p:=⟨b,off,none⟩) (by simp;omega)).trans hcell;have hb2:=bQ (below_drewN' w.heap.size w q) hb1 (ahj _);clear hb1
    go_wp2_with fail
    refine (Md g M (bg N) _ c1 _ hblk (dD _) Hn.out af af af af).mono ?_;rintro e w3 ⟨ds,rfl,hblk3,hw3,hl3,hv3,hg3,hs3⟩;rw [VN.out] at hv3 ⊢;have Gh:=aht N (show 0<M from af);obtain ⟨R,hR⟩ : ∃ R,R=N%M:=⟨_,rfl⟩;rw [<- hR] at Gh ⊢;have HR:=Lib.hid hR;clear hR;have hb4:=below_of_grown hb2 hg3 hb2.size hgl;have hr3:=hblk3.rd hw3
    go_wp2_with fail
    refine (rX _ ds _ c1 _ _ hr3 hl3 af af).mono ?_;rintro e w4 ⟨rfl,rfl⟩;rw [hv3]
    go_wp2_with fail
    refine (uX R _ af).mono ?_;rintro e w5 ⟨A5,c5,rfl,hc5,lg,hb5⟩
    go_wp2_with fail
    go_ret2
    rw [<- HR.out];have hr4:=hr3.bg;rw [hv3] at hr4;have hc4:=kU hw3;rw [hv3,hl3] at hc4;exact ⟨_,_,A5,c5,rfl,ahk hc4 hc1,hc5,(hr4.next hb5 (ahj _)).more hb5.size,lg,bQ hb4 hb5 (by have:=hb2.size;omega)⟩
   ·have hbq:((m:Int)==1)=false:=by rw [beq_eq_false_iff_ne];omega
    go_enter ag7,ag8
    go_wp2_with fail
    refine (tC A A' (bg N) (bg M) _ _ _ _ B B' _ h h' (fB _) (fB _) Hn.out Hm.out af af).mono ?_;rintro e w1 ⟨rfl,q,rfl⟩;rw [VN.out,VM.out]
    go_wp2_with fail
    refine (UB.out af h1 hge _ (below_drewN' _ _ _)).mono ?_;rintro e w2 ⟨A1,c1,A2,c2,rfl,hc1,hc2,hr1,hr2,hb1⟩
    go_wp2_with fail
    go_ret2
    exact ⟨A1,c1,A2,c2,rfl,hc1,hc2,hr1,hr2,bQ (below_drewN' _ _ _) hb1 (ahj _)⟩
def Kz:Prop := ∀ (A A':Option Addr) (N M n m c c' B B':Nat) (w:World),Rd w B A (bg N)->Rd w B' A' (bg M)->B<=w.heap.size->B'<=w.heap.size->(bg N).length=n->(bg M).length=m->n<=8388608->m<=8388608->2<=m->M<=N ->
 Calls Tryz.prog 269 #[.slice A n c,.slice A' m c'] w (sQ w (N/M) (N%M))
theorem Me(A A':Option Addr)(N M n m c c' B B':Nat)(w:World)(h:Rd w B A (bg N))(h':Rd w B' A' (bg M))(hB:B<=w.heap.size)(hB':B'<=w.heap.size)(hn:(bg N).length=n)(hm:(bg M).length=m)(hl:n<=8388608)(hl':m<=8388608)(hc:n<=c)(hc':m<=c')(hM:M≠0)(HL:n<=2\/Kz) :
  Calls Tryz.prog 252 #[.slice A n c,.slice A' m c'] w (sQ w (N/M) (N%M)):=by
 refine Xg A A' N M n m c c' B B' w h h' hB hB' hn hm hl hl' hc hc' hM ?_;intro h2 h1 jg W hb;rcases HL with HL | HL
 ·omega
 ·have hm0:m≠0:=by
   intro e;subst e;exact hM (ig.1 (ahB hm))
  exact HL A A' N M n m c c' B B' W (h.below (hb.mono hB)) (h'.below (hb.mono hB')) (ahk hB hb.size) (ahk hB' hb.size) hn hm hl hl' af jg
end Go.Proofs.AZQ
