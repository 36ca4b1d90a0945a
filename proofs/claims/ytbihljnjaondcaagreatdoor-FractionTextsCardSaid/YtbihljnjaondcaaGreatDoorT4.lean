/- Part of a proof, said shortly. -/
import Derived.Deep.AppendLies
import Derived.Test.YtbihljnjaondcaaGreatDoorAlt
import Derived.Test.YtbihljnjaondcaaGreatDoorT3
import Derived.Test.YtbihljnjaondcaaGreatDoorT2
import Derived.Test.YtbihljnjaondcaaGreatDoorT1
namespace Lw
open Go Go.RowKit
def sg (z:Int):Bool:=decide (z < 0)
def mg (z:Int):List Nat:=Uy z.natAbs
theorem bkH (z:Int):Wds (mg z):=acy _
theorem a3q (z:Int):Trm (mg z):=aj7 _
theorem aiz (z:Int):val (mg z)=z.natAbs:=aar _
theorem bnL:sg 0=false:=rfl
theorem a2A (z:Int):z=if sg z then -(val (mg z):Int) else (val (mg z):Int):=by
 rw [aiz]; unfold sg
 by_cases h:z < 0
 ·simp [h]; omega
 ·simp [h]; omega
theorem bfk {s:Bool} {N:Nat} {z:Int} (h0:N≠0) (hz:z=if s then -(N:Int) else (N:Int)):sg z=s∧mg z=Uy N:=by
 unfold sg mg
 have hn:z.natAbs=N:=by rw [hz]; split <;> omega
 rw [hn]
 refine ⟨?_,rfl⟩
 rw [hz]
 cases s <;> simp <;> omega
def vB (s:Bool) (ns:List Nat):Bool:=if ns.length=0 then !s else dg ns (ns.length - 1) != 0
def zv (s:Bool) (ns:List Nat):Int:=if vB s ns then (if s then -(val ns:Int) else (val ns:Int)) else 0
theorem a8G (s:Bool) (ns:List Nat):(zv s ns).natAbs≤val ns:=by
 unfold zv; split
 ·split <;> omega
 ·simp
theorem ate {s:Bool} {ns:List Nat} (h:Wds ns):(mg (zv s ns)).length≤ns.length :=
 aj9 (Nat.lt_of_le_of_lt (a8G s ns) (afS h))
theorem bfJ {s:Bool} {ns:List Nat} (h:vB s ns=true):Trm ns:=by
 unfold vB at h
 split at h
 ·rename_i h0
  rw [List.eq_nil_of_length_eq_zero h0]; exact a5l
 ·exact bbc (by simpa using h)
theorem a2E {s:Bool} {ns:List Nat} {z:Int} (h:vB s ns=true) (hz:z=if s then -(val ns:Int) else (val ns:Int)) (hw:Wds ns) :
  sg z=s∧mg z=ns∧Trm ns:=by
 unfold sg mg
 have ht:=bfJ h
 have hn:z.natAbs=val ns:=by rw [hz]; split <;> omega
 refine ⟨?_,by rw [hn]; exact a4p hw ht,ht⟩
 rw [hz]
 cases s
 ·simp
 ·have h0:ns≠[]:=by
   intro e; subst e
   simp [vB] at h
  have:=a8u ht h0
  simp; omega
end Lw
namespace Go.Proofs.YtbihljnjaondcaaGreatDoor
open Go Go.RowKit Lw
theorem alj {a b:Bool} (h:a=b):Ending.returned (.bool a)=Ending.returned (.bool b):=by rw [h]
set_option maxHeartbeats 800000 in
theorem a8D (s:Bool) (A:Option Addr) (ns:List Nat) (n c B:Nat) (w:World) (h:Rd w B A ns) (hB:B≤w.heap.size) (hn:ns.length=n) (hl:n≤16777216) :
  Calls Tryz.prog 181 #[.agg #[.bool s,.slice A n c]] w fun e w'=>e = .returned (.bool (vB s ns))∧Below w.heap.size w w':=by
 have Hn:=Lib.hid hn
 clear hn
 by_cases h0:n=0
 ·subst h0
  go_enter Tryz.func181,Tryz.ntmps181
  go_wp2
  go_ret
  refine ⟨alj ?_,?_⟩
  ·unfold vB; rw [if_pos Hn.out]
  ·exact (Below.refl _ _).alloc (Nat.le_refl _) _
 ·obtain ⟨b,off,rfl,hb,hcell,hlt⟩:=h.at_ (k:=n - 1) (by rw [Hn.out]; omega)
  have hb1:((n:Int)==0)=false:=by simp; omega
  have hbs:b < w.heap.size:=by omega
  go_enter Tryz.func181,Tryz.ntmps181
  go_wp2
  go_ret
  refine ⟨alj ?_,(Below.refl _ _).alloc (Nat.le_refl _) _⟩
  unfold vB
  rw [if_neg (by rw [Hn.out]; exact h0),Hn.out,Bool.eq_iff_iff,bne_iff_ne,bne_iff_ne]
  exact not_congr Int.ofNat_inj
def bbG (w:World) (B:Nat) (z:Int) (e:Ending) (w':World):Prop :=
 ∃ A c,e = .returned (.agg #[.bool (sg z),.slice A (mg z).length c])∧(mg z).length≤c∧Rd w' B A (mg z)∧Below w.heap.size w w'
def atE (w:World) (z:Int) (e:Ending) (w':World):Prop :=
 ∃ A c,e = .returned (.agg #[.bool (sg z),.slice A (mg z).length c])∧(mg z).length≤c∧Rd w' w'.heap.size A (mg z)∧Below w.heap.size w w'
theorem alf {w W:World} {B g n c c':Nat} {t:TypeId} {s:Bool} {A A':Option Addr} {z:Int} (h2:Two W g t (.bool s) (.slice A' n c)) (hr:Rd W B A (mg z)) (hB:B≤W.heap.size) (hc:(mg z).length≤c')
  (hb:Below w.heap.size w W) (hg:w.heap.size≤g) :
  atE w z (.returned (.agg #[.bool (sg z),.slice A (mg z).length c'])) ((W.setCell ⟨g,0,none⟩ (.bool (sg z))).setCell ⟨g,1,none⟩ (.slice A (mg z).length c')) :=
 ⟨A,c',rfl,hc,(hr.ak' h2 _ _).more (by simpa using hB),(hb.setCell hg _).setCell hg _⟩
set_option maxHeartbeats 800000 in
theorem azk (s:Bool) (A:Option Addr) (ns:List Nat) (n c B:Nat) (w:World) (h:Rd w B A ns) (hB:B≤w.heap.size) (hn:ns.length=n) (hl:n≤16777216) (hc:n≤c) :
  Calls Tryz.prog 151 #[.agg #[.bool s,.slice A n c]] w (bbG w B (zv s ns)):=by
 cases hv:vB s ns
 ·have hz:Hid (zv s ns=0):=Lib.hid (by unfold zv; rw [hv]; rfl)
  go_enter Tryz.func151,Tryz.ntmps151
  go_wp2_with fail
  refine (a8D s A ns n c B _ ((h.alloc hB _).alloc (by simp; omega) _) (by simp; omega) hn hl).mono ?_
  rintro e w1 ⟨rfl,hb1⟩
  obtain ⟨t1,t2,hs1,hb2⟩:=abb hb1
  obtain ⟨c10,c11,f10,f11⟩:=t1.facts
  obtain ⟨c20,c21,f20,f21⟩:=t2.facts
  go_wp2_with fail
  refine bodyPost_ret (v := .agg #[.bool false,.slice none 0 0]) (by simp [results,Tryz.results151,go_sem,c20,c21]) rfl ?_
  rw [hz.out]
  exact ⟨none,0,rfl,Nat.le_refl _,Rd.nil_ _ _ _,(hb2.setCell (by simp) _).setCell (by simp) _⟩
 ·have hz:Hid (zv s ns=if s then -(val ns:Int) else (val ns:Int)):=Lib.hid (by unfold zv; rw [hv]; rfl)
  have Hv:=Lib.hid hv
  go_enter Tryz.func151,Tryz.ntmps151
  go_wp2_with fail
  refine (a8D s A ns n c B _ ((h.alloc hB _).alloc (by simp; omega) _) (by simp; omega) hn hl).mono ?_
  rintro e w1 ⟨rfl,hb1⟩
  obtain ⟨t1,t2,hs1,hb2⟩:=abb hb1
  obtain ⟨c10,c11,f10,f11⟩:=t1.facts
  obtain ⟨c20,c21,f20,f21⟩:=t2.facts
  go_wp2_with fail
  refine bodyPost_ret (v := .agg #[.bool s,.slice A n c]) (by simp [results,Tryz.results151,go_sem,c20,c21]) rfl ?_
  obtain ⟨e1,e2,e3⟩:=a2E Hv.out hz.out h.wds
  refine ⟨A,c,?_,by rw [e2,hn]; exact hc,?_,(hb2.setCell (by simp) _).setCell (by simp) _⟩
  ·rw [e1,e2,hn]
  ·rw [e2]
   exact (((h.below (hb2.mono hB)).setCell (by simp; omega) _).setCell (by simp; omega) _)
end Go.Proofs.YtbihljnjaondcaaGreatDoor
namespace Lw
open Go Go.RowKit
theorem a7p {w:World} {base:Nat} {e:TypeId} {v:Value} {n:Nat} {ns:List Nat} (h:w.ownsRow base e 1 v n (arr ns)) (hv:v ≠ .slice none 0 0) :
  ∃ g c,v = .slice (some ⟨g,0,none⟩) n c∧base≤g∧n≤c∧Blk w g e ns:=by
 rcases h.2 with ⟨h0,_⟩ | ⟨g,cap,cur,hv',hb,hg,hnc,hcm,hcs,htake⟩
 ·exact absurd h0 hv
 ·refine ⟨g,cap,hv',hb,hnc,cur.toList.drop (n*1),?_⟩
  rw [hg,← htake,List.take_append_drop]
end Lw
namespace Go.Proofs.YtbihljnjaondcaaGreatDoor
open Go Go.RowKit Lw
def bf4 (w:World) (ns:List Nat) (n:Nat) (e:Ending) (w':World):Prop :=
 ∃ A c,e = .returned (.slice A n c)∧n≤c∧(0 < n → ∃ g,A=some ⟨g,0,none⟩∧w.heap.size≤g∧Blk w' g 99 ns)∧Rd w' w'.heap.size A ns∧Below w.heap.size w w'
set_option maxRecDepth 100000 in
set_option maxHeartbeats 800000 in
theorem clone_any (A:Option Addr) (ns:List Nat) (n c B:Nat) (w:World) (h:Rd w B A ns) (hB:B≤w.heap.size) (hn:ns.length=n) (hl:n≤16777216) :
  Calls Tryz.prog 185 #[.slice A n c] w (bf4 w ns n):=by
 have hq:=fun (W:World) (A:Option Addr)=>Lib.run_eql_slice_nil (P:=Tryz.prog) W 22 99 A n c 0 0 bsw
 rcases A with _ | ad
 ·have h0:n=0:=by
   rcases Nat.eq_zero_or_pos n with h0 | h0
   ·exact h0
   ·obtain ⟨b,off,hA,_⟩:=h.2 (by omega)
    cases hA
  subst h0
  have e0:ns=[]:=List.eq_nil_of_length_eq_zero hn
  subst e0
  clear hn
  go_enter Tryz.func185,Tryz.ntmps185
  go_wp2
  go_ret
  exact ⟨none,0,rfl,Nat.le_refl _,fun h=>absurd h (by omega),Rd.nil_ _ _ _,Below.refl _ _⟩
 ·obtain ⟨i0,hi0,hz0,hz1,hz2⟩:=info_parts ami
  have Hn:=Lib.hid hn
  clear hn
  go_enter Tryz.func185,Tryz.ntmps185
  have hown:(w.alloc (.cells #[] 99)).ownsRow w.heap.size 99 1 (.slice (some ⟨w.heap.size,0,none⟩) 0 0) 0 []:=World.ownsRow_lit w #[] 0 (Nat.le_refl _) (by simp [maxLen]) (by simp)
  have hnews : ∀ j u,(arr ns)[j]? = some u→(w.alloc (.cells #[] 99)).cell? (ad.add j)=some u:=by
   intro j u hu
   have hj:j < ns.length:=by
    rcases Nat.lt_or_ge j ns.length with h1 | h1
    ·exact h1
    ·rw [List.getElem?_eq_none (by rw [atC]; exact h1)] at hu; cases hu
   obtain ⟨b,off,hA,hb,hcell⟩:=(h.alloc hB (.cells #[] 99)).2 (by omega)
   rw [a7n ns j hj] at hu
   injection hA with hA
   subst hA
   rw [← hu,← hcell j hj]
   congr 1
   unfold Addr.add
   split
   ·rename_i h0; subst h0; rfl
   ·rfl
  have h1 : ∀ u∈arr ns,u.oneCell'=true:=by
   intro u hu
   unfold arr at hu
   rw [List.mem_map] at hu
   obtain ⟨x,_,rfl⟩:=hu
   rfl
  have hl1:(arr ns).length=n*1:=by rw [atC,Hn.out,Nat.mul_one]
  have bgT:=Lib.hid hnews
  have H1:=Lib.hid h1
  have Hl1:=Lib.hid hl1
  clear hnews h1 hl1
  go_wp2_with (at_builtin; refine wpList_append_own _ rfl _ _ 22 rfl w.heap.size 99 i0 _ 1 4 bsw hi0 hz0 hz1 hz2 rfl (by decide) _ 0 [] rfl hown ad n c (arr ns) rfl Hl1.out bgT.out H1.out (by unfold maxLen; omega) (by omega) (by simp) ?_; intro v' w1 hown1 hgrow1 hnil)
  go_ret
  rw [Nat.zero_add,List.nil_append] at hown1
  obtain ⟨g,c',rfl,hg,hc',hblk⟩:=a7p hown1 (by intro e; have h1:=(hnil.1 e).1; cases h1)
  have hgl:=hblk.lt
  refine ⟨some ⟨g,0,none⟩,c',rfl,hc',fun _=>⟨g,rfl,hg,hblk⟩,hblk.rd h.wds,((Below.refl _ _).alloc (Nat.le_refl _) _).grown hgrow1 (by simp) (fun k hk => ?_)⟩
  have e:some w.heap.size=some k:=hk
  injection e with e
  exact Nat.le_of_eq e
set_option maxHeartbeats 800000 in
theorem atd (s:Bool) (A:Option Addr) (N:Nat) (n c B:Nat) (z:Int) (w:World) (h:Rd w B A (Uy N)) (hB:B≤w.heap.size) (hn:(Uy N).length=n) (hc:n≤c) (hz:z=if s then -(N:Int) else (N:Int)) :
  Calls Tryz.prog 156 #[.bool s,.slice A n c] w (bbG w B z):=by
 by_cases h0:N=0
 ·subst h0
  have e0:n=0:=by rw [← hn]; rfl
  have ez:z=0:=by rw [hz]; split <;> rfl
  subst e0
  subst ez
  clear hn hz
  go_enter Tryz.func156,Tryz.ntmps156
  go_wp2
  refine bodyPost_ret (v := .agg #[.bool false,.slice none 0 0]) (by simp [results,Tryz.results156,go_sem]) rfl ?_
  exact ⟨none,0,rfl,Nat.le_refl _,Rd.nil_ _ _ _,(Below.refl _ _).alloc (Nat.le_refl _) _⟩
 ·have hb:((n:Int)==0)=false:=by
   rw [beq_eq_false_iff_ne]
   intro e
   exact h0 (ak4.1 (List.eq_nil_of_length_eq_zero (by omega)))
  have Hz:Hid (sg z=s∧mg z=Uy N):=Lib.hid (bfk h0 hz)
  clear hz
  go_enter Tryz.func156,Tryz.ntmps156
  go_wp2
  refine bodyPost_ret (v := .agg #[.bool s,.slice A n c]) (by simp [results,Tryz.results156,go_sem]) rfl ?_
  refine ⟨A,c,by rw [Hz.out.1,Hz.out.2,hn],by rw [Hz.out.2,hn]; exact hc,by rw [Hz.out.2]; exact h.alloc hB _,(Below.refl _ _).alloc (Nat.le_refl _) _⟩
end Go.Proofs.YtbihljnjaondcaaGreatDoor
namespace Lw
theorem val_two (a b:Nat):val [a,b]=a+4294967296*b:=by simp [val]
theorem a6Z {a b:Nat} (ha:a < 4294967296) (hb:b < 4294967296):Wds [a,b]:=by rw [alb,alb]; exact ⟨ha,hb,ak5⟩
open Go
theorem bbj {z:Int} (h1 : -9223372036854775808≤z) (h0:z < 0) : ∃ D N:Nat,IntKind.u64.wrap z=(D:Int)∧IntKind.u64.wrap (-(D:Int))=(N:Int)∧z = -(N:Int)∧N≤9223372036854775808∧D≤18446744073709551615:=by
 refine ⟨(z+18446744073709551616).toNat,z.natAbs,?_,?_,by omega,by omega,by omega⟩
 ·rw [IntKind.wrap_u64]; omega
 ·rw [IntKind.wrap_u64]; omega
end Lw
namespace Go.Proofs.YtbihljnjaondcaaGreatDoor
open Go Go.RowKit Lw
theorem a9o (w:World) (t:TypeId) {a b:Int} {x y:Nat} (ha:a=x) (hb:b=y):Blk (w.alloc (.cells #[.int .u32 a,.int .u32 b] t)) w.heap.size t [x,y]:=by
 subst ha hb; exact Blk.new w t [x,y]
set_option maxHeartbeats 800000 in
theorem a2C (x:Nat) (w:World) (hx:x≤18446744073709551615) :
  Calls Tryz.prog 179 #[.int .u64 x] w (as8 w x):=by
 have hb:=a9o w 99 (a:=(x:Int) % 4294967296) (b:=(x:Int) / 4294967296) (x:=x % 4294967296) (y:=x / 4294967296) (by omega) (by omega)
 have hw:Wds [x % 4294967296,x / 4294967296]:=a6Z (by omega) (by omega)
 have hv:Hid (val [x % 4294967296,x / 4294967296]=x):=Lib.hid (by rw [val_two]; omega)
 have hl:Hid ((Uy x).length≤2):=Lib.hid (aj9 (k:=2) (by show x < 18446744073709551616; omega))
 go_enter Tryz.func179,Tryz.ntmps179
 go_wp2_with fail
 refine (aOs _ [x % 4294967296,x / 4294967296] 2 2 _ _ (hb.rd hw) rfl (by omega) (by omega)).mono ?_
 rintro e w' ⟨rfl,rfl⟩
 go_wp2_with fail
 go_ret
 refine ⟨_,_,aor (by rw [hv.out]),hl.out,?_,(Below.refl _ _).alloc (Nat.le_refl _) _⟩
 have:=(hb.rd hw).Uy
 rw [hv.out] at this; exact this
set_option maxHeartbeats 800000 in
theorem blo (z:Int) (w:World) (h1 : -9223372036854775808≤z) (h2:z≤9223372036854775807) :
  Calls Tryz.prog 111 #[.int .i64 z] w (atE w z):=by
 by_cases h0:z < 0
 ·obtain ⟨D,N,hD,hN,hNz,hNl,hDl⟩:=bbj h1 h0
  have HN:=Lib.hid hNz
  clear hNz
  have hz:Hid (z=if true then -(N:Int) else (N:Int)):=Lib.hid (by rw [HN.out]; rfl)
  go_enter Tryz.func111,Tryz.ntmps111
  go_wp2_with fail
  refine (a2C N _ (by omega)).mono ?_
  rintro e w1 ⟨A1,c1,rfl,hc1,hr1,hb1⟩
  obtain ⟨t1,hs1,hb2⟩:=box1 hb1
  go_wp2_with fail
  refine (atd true A1 N _ c1 _ z _ hr1 (Nat.le_refl _) rfl hc1 hz.out).mono ?_
  rintro e w2 ⟨A2,c2,rfl,hc2,hr2,hb3⟩
  have T2:=t1.next hb3
  obtain ⟨d0,d1,g0,g1⟩:=T2.facts
  go_wp2_with fail
  refine bodyPost_ret (v := .agg #[.bool (sg z),.slice A2 (mg z).length c2]) (by simp [results,Tryz.results111,go_sem,d0,d1]) rfl ?_
  exact alf T2 hr2 hb3.size hc2 (aaR hb2 hb3 (by omega)) (Nat.le_refl _)
 ·obtain ⟨N,rfl⟩:=Int.eq_ofNat_of_zero_le (show 0≤z by omega)
  go_enter Tryz.func111,Tryz.ntmps111
  go_wp2_with fail
  refine (a2C N _ (by omega)).mono ?_
  rintro e w1 ⟨A1,c1,rfl,hc1,hr1,hb1⟩
  obtain ⟨t1,hs1,hb2⟩:=box1 hb1
  go_wp2_with fail
  refine (atd false A1 N _ c1 _ (N:Int) _ hr1 (Nat.le_refl _) rfl hc1 rfl).mono ?_
  rintro e w2 ⟨A2,c2,rfl,hc2,hr2,hb3⟩
  have T2:=t1.next hb3
  obtain ⟨d0,d1,g0,g1⟩:=T2.facts
  go_wp2_with fail
  refine bodyPost_ret (v := .agg #[.bool (sg (N:Int)),.slice A2 (mg (N:Int)).length c2]) (by simp [results,Tryz.results111,go_sem,d0,d1]) rfl ?_
  exact alf T2 hr2 hb3.size hc2 (aaR hb2 hb3 (by omega)) (Nat.le_refl _)
end Go.Proofs.YtbihljnjaondcaaGreatDoor
namespace Lw
open Go
def fits (z:Int):Bool:=decide (-9223372036854775808≤z∧z≤9223372036854775807)
theorem a5h {z:Int} (h:sg z=true):z = -(z.natAbs:Int)∧0 < z.natAbs:=by unfold sg at h; simp at h; omega
theorem a8q {z:Int} (h:sg z=false):z=(z.natAbs:Int):=by unfold sg at h; simp at h; omega
end Lw
