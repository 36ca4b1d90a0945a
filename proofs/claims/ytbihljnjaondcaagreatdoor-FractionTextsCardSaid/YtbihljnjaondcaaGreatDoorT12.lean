/- Part of a proof, said shortly. -/
import Derived.Test.YtbihljnjaondcaaGreatDoorAlt
import Derived.Test.YtbihljnjaondcaaGreatDoorT6
import Derived.Test.YtbihljnjaondcaaGreatDoorT4
import Derived.Test.YtbihljnjaondcaaGreatDoorT3
import Derived.Test.YtbihljnjaondcaaGreatDoorT2
import Derived.Test.YtbihljnjaondcaaGreatDoorT1
import Derived.Test.YtbihljnjaondcaaGreatDoorT5
namespace Go.Proofs.YtbihljnjaondcaaGreatDoor
open Go Go.RowKit Lw
set_option maxHeartbeats 800000 in
theorem a8g (s:Bool) (A:Option Addr) (ns:List Nat) (n c B:Nat) (w:World) (h:Rd w B A ns) (hB:B≤w.heap.size) (hn:ns.length=n) (hl:n≤16777216) :
  Calls Tryz.prog 214 #[.agg #[.bool s,.slice A n c]] w fun e w'=>e = .returned (.bool (vB s ns))∧Below w.heap.size w w':=by
 have Hn:=Lib.hid hn
 clear hn
 by_cases h0:n=0
 ·subst h0
  go_enter Tryz.func214,Tryz.ntmps214
  go_wp2
  go_ret
  refine ⟨alj ?_,?_⟩
  ·unfold vB; rw [if_pos Hn.out]
  ·exact (Below.refl _ _).alloc (Nat.le_refl _) _
 ·obtain ⟨b,off,rfl,hb,hcell,hlt⟩:=h.at_ (k:=n - 1) (by rw [Hn.out]; omega)
  have hb1:((n:Int)==0)=false:=by simp; omega
  have hbs:b < w.heap.size:=by omega
  go_enter Tryz.func214,Tryz.ntmps214
  go_wp2
  go_ret
  refine ⟨alj ?_,(Below.refl _ _).alloc (Nat.le_refl _) _⟩
  unfold vB
  rw [if_neg (by rw [Hn.out]; exact h0),Hn.out,Bool.eq_iff_iff,bne_iff_ne,bne_iff_ne]
  exact not_congr Int.ofNat_inj
set_option maxHeartbeats 800000 in
theorem bas (s:Bool) (A:Option Addr) (ns:List Nat) (n c B:Nat) (w:World) (h:Rd w B A ns) (hB:B≤w.heap.size) (hn:ns.length=n) (hl:n≤16777216) (hc:n≤c) :
  Calls Tryz.prog 159 #[.agg #[.bool s,.slice A n c]] w fun e w' => ∃ A' c',e = .returned (.slice A' (mg (zv s ns)).length c')∧(mg (zv s ns)).length≤c'∧Rd w' B A' (mg (zv s ns))∧Below w.heap.size w w':=by
 cases hv:vB s ns
 ·have hz:Hid (zv s ns=0):=Lib.hid (by unfold zv; rw [hv]; rfl)
  go_enter Tryz.func159,Tryz.ntmps159
  go_wp2_with fail
  refine (a8g s A ns n c B _ (h.alloc hB _) (by simp; omega) hn hl).mono ?_
  rintro e w1 ⟨rfl,hb1⟩
  obtain ⟨t1,hs1,hb2⟩:=box1 hb1
  obtain ⟨c10,c11,f10,f11⟩:=t1.facts
  go_wp2_with fail
  go_ret
  rw [hz.out]
  exact ⟨none,0,rfl,Nat.le_refl _,Rd.nil_ _ _ _,hb2⟩
 ·have hz:Hid (zv s ns=if s then -(val ns:Int) else (val ns:Int)):=Lib.hid (by unfold zv; rw [hv]; rfl)
  have Hv:=Lib.hid hv
  go_enter Tryz.func159,Tryz.ntmps159
  go_wp2_with fail
  refine (a8g s A ns n c B _ (h.alloc hB _) (by simp; omega) hn hl).mono ?_
  rintro e w1 ⟨rfl,hb1⟩
  obtain ⟨t1,hs1,hb2⟩:=box1 hb1
  obtain ⟨c10,c11,f10,f11⟩:=t1.facts
  go_wp2_with fail
  go_ret
  obtain ⟨e1,e2,e3⟩:=a2E Hv.out hz.out h.wds
  rw [e2,hn]
  exact ⟨A,c,rfl,hc,h.below (hb2.mono hB),hb2⟩
set_option maxHeartbeats 800000 in
theorem baT (s:Bool) (A:Option Addr) (ns:List Nat) (n c B:Nat) (w:World) (h:Rd w B A ns) (hB:B≤w.heap.size) (hn:ns.length=n) (hl:n≤16777216) :
  Calls Tryz.prog 160 #[.agg #[.bool s,.slice A n c]] w fun e w'=>e = .returned (.bool (sg (zv s ns)))∧Below w.heap.size w w':=by
 cases hv:vB s ns
 ·have hz:Hid (zv s ns=0):=Lib.hid (by unfold zv; rw [hv]; rfl)
  go_enter Tryz.func160,Tryz.ntmps160
  go_wp2_with fail
  refine (a8g s A ns n c B _ (h.alloc hB _) (by simp; omega) hn hl).mono ?_
  rintro e w1 ⟨rfl,hb1⟩
  obtain ⟨t1,hs1,hb2⟩:=box1 hb1
  obtain ⟨c10,c11,f10,f11⟩:=t1.facts
  go_wp2_with fail
  go_ret
  rw [hz.out]
  exact ⟨rfl,hb2⟩
 ·have hz:Hid (zv s ns=if s then -(val ns:Int) else (val ns:Int)):=Lib.hid (by unfold zv; rw [hv]; rfl)
  have Hv:=Lib.hid hv
  go_enter Tryz.func160,Tryz.ntmps160
  go_wp2_with fail
  refine (a8g s A ns n c B _ (h.alloc hB _) (by simp; omega) hn hl).mono ?_
  rintro e w1 ⟨rfl,hb1⟩
  obtain ⟨t1,hs1,hb2⟩:=box1 hb1
  obtain ⟨c10,c11,f10,f11⟩:=t1.facts
  go_wp2_with fail
  go_ret
  obtain ⟨e1,e2,e3⟩:=a2E Hv.out hz.out h.wds
  exact ⟨alj e1.symm,hb2⟩
set_option maxHeartbeats 800000 in
theorem aom (A:Option Addr) (ns:List Nat) (n c B k:Nat) (w:World) (h:Rd w B A ns) (hn:ns.length=n) (_hl:n≤4294967296) :
  Calls Tryz.prog 215 #[.slice A n c,.int .i64 (k:Int)] w fun e w'=>e = .returned (.int .u64 (dg ns k:Int))∧w=w':=by
 have Hn:=Lib.hid hn
 clear hn
 by_cases h1:n≤k
 ·go_enter Tryz.func215,Tryz.ntmps215
  go_wp2
  go_ret
  exact ⟨ahy (by rw [a1F (by rw [Hn.out]; exact h1)]; rfl),rfl⟩
 ·obtain ⟨b,off,rfl,hb,hcell,hlt⟩:=h.at_ (k:=k) (by rw [Hn.out]; omega)
  go_enter Tryz.func215,Tryz.ntmps215
  go_wp2
  go_ret
  exact ⟨rfl,rfl⟩
def a2T (w:World) (N:Nat) (e:Ending) (w':World):Prop :=
 ∃ g c,e = .returned (.slice (some ⟨g,0,none⟩) (Uy N).length c)∧(Uy N).length≤c∧w.heap.size≤g∧Blk w' g 99 (Uy N)∧Below w.heap.size w w'
set_option maxHeartbeats 800000 in
theorem a4Z (A:Option Addr) (ns:List Nat) (n c B:Nat) (w:World) (h:Rd w B A ns) (hB:B≤w.heap.size) (hn:ns.length=n) (hl:n≤4294967296) :
  Calls Tryz.prog 184 #[.slice A n c] w (a2T w (val ns)):=by
 have Hn:=Lib.hid hn
 clear hn
 have hown:(w.alloc (.cells #[] 99)).ownsRow w.heap.size 99 1 (.slice (some ⟨w.heap.size,0,none⟩) 0 0) 0 (arr []):=World.ownsRow_lit w #[] 0 (Nat.le_refl _) (by simp [maxLen]) (by simp)
 go_enter Tryz.func184,Tryz.ntmps184
 go_wp2_with (at_builtin; refine a7a _ rfl _ _ 22 rfl w.heap.size 99 bsw ami _ 0 [] rfl hown B A ns n c rfl (h.alloc hB _) Hn.out (by omega) (by simp) ?_; intro v' w1 hown1 hgrow1 hnil)
 rw [List.nil_append,Nat.zero_add] at hown1
 obtain ⟨g,cc,rfl,hg,hcc,hblk⟩:=a7p hown1 (by intro e; have h1:=(hnil.1 e).1; cases h1)
 have hb:Below w.heap.size w w1:=((Below.refl _ _).alloc (Nat.le_refl _) _).grown hgrow1 (by simp) (fun k hk=>by
  have e:some w.heap.size=some k:=hk
  injection e with e
  exact Nat.le_of_eq e)
 have hw:=h.wds
 clear hown hown1 hgrow1 hnil h
 have hgl:=hblk.lt
 go_loop [3] (fun v => ∃ k:Nat,k≤n∧v = .slice (some ⟨g,0,none⟩) k cc∧Hid (val (ns.take k)=val ns)) (fun v=>cnt v)
 case atStart=>exact ⟨n,Nat.le_refl _,rfl,Lib.hid (by rw [← Hn.out,List.take_length])⟩
 case round =>
  obtain ⟨k,hk,rfl,hv⟩:=hrel
  by_cases hk0:k=0
  ·subst hk0
   go_wp2
   go_ret
   have e:=a5j hw (Nat.zero_le _) hv.out (.inl rfl)
   exact ⟨g,cc,aor e,by rw [← e]; exact Nat.zero_le _,hg,hblk.Uy hw,hb⟩
  ·have hcell:=hblk.cell (i:=k - 1) (by rw [Hn.out]; omega)
   by_cases hd:dg ns (k - 1)=0
   ·have HV:Hid (val (ns.take (k - 1))=val ns):=Lib.hid (ba9 (by rw [Hn.out]; exact hk) hk0 hv.out hd)
    go_wp2
    go_round
    case rel=>exact ⟨k - 1,by omega,rfl,HV⟩
    case measure=>simp [cnt]; omega
   ·go_wp2
    go_ret
    have e:=a5j hw (by rw [Hn.out]; exact hk) hv.out (.inr hd)
    exact ⟨g,cc,aor e,by rw [← e]; omega,hg,hblk.Uy hw,hb⟩
set_option maxHeartbeats 800000 in
theorem a4v (s:Bool) (A:Option Addr) (ns:List Nat) (n c B:Nat) (z:Int) (w:World) (h:Rd w B A ns) (hB:B≤w.heap.size) (hn:ns.length=n) (hl:n≤4294967296) (hz:z=if s then -(val ns:Int) else (val ns:Int)) :
  Calls Tryz.prog 161 #[.bool s,.slice A n c] w (atE w z):=by
 have HZ:=Lib.hid hz
 clear hz
 go_enter Tryz.func161,Tryz.ntmps161
 go_wp2_with fail
 refine (a4Z A ns n c B _ (h.alloc hB _) (by simp; omega) hn hl).mono ?_
 rintro e w1 ⟨g,c1,rfl,hc1,hg,hblk,hb1⟩
 obtain ⟨t1,hs1,hb2⟩:=box1 hb1
 obtain ⟨c10,c11,f10,f11⟩:=t1.facts
 have hr:=hblk.rd (acy _)
 clear h
 by_cases h0:val ns=0
 ·have e0:(Uy (val ns)).length=0:=by rw [h0]; rfl
  have ez:z=0:=by rw [HZ.out,h0]; split <;> rfl
  have hbq:(((Uy (val ns)).length:Int)==0)=true:=by rw [e0]; rfl
  have E0:=Lib.hid e0
  clear e0 h0 HZ hn
  subst ez
  go_wp2_with fail
  refine bodyPost_ret (v := .agg #[.bool (sg 0),.slice none 0 0]) (by simp [results,Tryz.results161,go_sem,c10,c11,bnL]) rfl ?_
  exact ⟨none,0,rfl,Nat.le_refl _,Rd.nil_ _ _ _,(hb2.setCell (Nat.le_refl _) _).setCell (Nat.le_refl _) _⟩
 ·have hbq:(((Uy (val ns)).length:Int)==0)=false:=by
   rw [beq_eq_false_iff_ne]
   intro e
   exact h0 (ak4.1 (List.eq_nil_of_length_eq_zero (by omega)))
  have Hz:Hid (sg z=s∧mg z=Uy (val ns)):=Lib.hid (bfk h0 HZ.out)
  clear h0 HZ hn
  go_wp2_with fail
  refine bodyPost_ret (v := .agg #[.bool s,.slice (some ⟨g,0,none⟩) (Uy (val ns)).length c1]) (by simp [results,Tryz.results161,go_sem,c10,c11]) rfl ?_
  have:=alf (z:=z) (c':=c1) t1 (by rw [Hz.out.2]; exact hr) (Nat.le_refl _) (by rw [Hz.out.2]; exact hc1) hb2 (Nat.le_refl _)
  rw [Hz.out.1,Hz.out.2] at this
  exact this
end Go.Proofs.YtbihljnjaondcaaGreatDoor
namespace Go.Proofs.YtbihljnjaondcaaGreatDoor
open Go Go.RowKit Lw
theorem bbR (w:World) (t:TypeId) {o:Obj} {a b:Int} {x y:Nat} (ha:a=x) (hb:b=y):Blk ((w.alloc o).alloc (.cells #[.int .u32 a,.int .u32 b] t)) (w.heap.size+1) t [x,y]:=by
 have:=a9o (w.alloc o) t ha hb
 simpa using this
set_option maxHeartbeats 800000 in
theorem bm5 (z:Int) (w:World) (h1 : -9223372036854775808≤z) (h2:z≤9223372036854775807) :
  Calls Tryz.prog 143 #[.int .i64 z] w (atE w z):=by
 by_cases h0:z < 0
 ·obtain ⟨D,N,hD,hN,hNz,hNl,hDl⟩:=bbj h1 h0
  have HN:=Lib.hid hNz
  clear hNz
  have hblk:=bbR w 99 (o := .cells #[.bool false,.slice none 0 0] 39) (a:=(N:Int) % 4294967296) (b:=(N:Int) / 4294967296) (x:=N % 4294967296) (y:=N / 4294967296) (by omega) (by omega)
  have hw:Wds [N % 4294967296,N / 4294967296]:=a6Z (by omega) (by omega)
  have hz:Hid (z=if true then -(val [N % 4294967296,N / 4294967296]:Int) else (val [N % 4294967296,N / 4294967296]:Int)):=Lib.hid (by rw [HN.out,val_two]; simp; omega)
  go_enter Tryz.func143,Tryz.ntmps143
  go_wp2_with fail
  refine (a4v true _ [N % 4294967296,N / 4294967296] 2 2 _ z _ (hblk.rd hw) (Nat.le_refl _) rfl (by omega) hz.out).mono ?_
  rintro e w2 ⟨A2,c2,rfl,hc2,hr2,hb3⟩
  have t1:=((Two.new w 39 (.bool false) (.slice none 0 0)).alloc (.cells #[.int .u32 ((N:Int) % 4294967296),.int .u32 ((N:Int) / 4294967296)] 99)).next hb3
  have hb2:=aaR (((Below.refl w.heap.size w).alloc (Nat.le_refl _) (.cells #[.bool false,.slice none 0 0] 39)).alloc (by simp) (.cells #[.int .u32 ((N:Int) % 4294967296),.int .u32 ((N:Int) / 4294967296)] 99)) hb3 (by simp)
  obtain ⟨d0,d1,g0,g1⟩:=t1.facts
  go_wp2_with fail
  refine bodyPost_ret (v := .agg #[.bool (sg z),.slice A2 (mg z).length c2]) (by simp [results,Tryz.results143,go_sem,d0,d1]) rfl ?_
  exact alf t1 hr2 (Nat.le_refl _) hc2 hb2 (Nat.le_refl _)
 ·obtain ⟨N,rfl⟩:=Int.eq_ofNat_of_zero_le (show 0≤z by omega)
  have hblk:=bbR w 99 (o := .cells #[.bool false,.slice none 0 0] 39) (a:=(N:Int) % 4294967296) (b:=(N:Int) / 4294967296) (x:=N % 4294967296) (y:=N / 4294967296) (by omega) (by omega)
  have hw:Wds [N % 4294967296,N / 4294967296]:=a6Z (by omega) (by omega)
  have hz:Hid ((N:Int)=if false then -(val [N % 4294967296,N / 4294967296]:Int) else (val [N % 4294967296,N / 4294967296]:Int)):=Lib.hid (by rw [val_two]; simp; omega)
  go_enter Tryz.func143,Tryz.ntmps143
  go_wp2_with fail
  refine (a4v false _ [N % 4294967296,N / 4294967296] 2 2 _ (N:Int) _ (hblk.rd hw) (Nat.le_refl _) rfl (by omega) hz.out).mono ?_
  rintro e w2 ⟨A2,c2,rfl,hc2,hr2,hb3⟩
  have t1:=((Two.new w 39 (.bool false) (.slice none 0 0)).alloc (.cells #[.int .u32 ((N:Int) % 4294967296),.int .u32 ((N:Int) / 4294967296)] 99)).next hb3
  have hb2:=aaR (((Below.refl w.heap.size w).alloc (Nat.le_refl _) (.cells #[.bool false,.slice none 0 0] 39)).alloc (by simp) (.cells #[.int .u32 ((N:Int) % 4294967296),.int .u32 ((N:Int) / 4294967296)] 99)) hb3 (by simp)
  obtain ⟨d0,d1,g0,g1⟩:=t1.facts
  go_wp2_with fail
  refine bodyPost_ret (v := .agg #[.bool (sg (N:Int)),.slice A2 (mg (N:Int)).length c2]) (by simp [results,Tryz.results143,go_sem,d0,d1]) rfl ?_
  exact alf t1 hr2 (Nat.le_refl _) hc2 hb2 (Nat.le_refl _)
end Go.Proofs.YtbihljnjaondcaaGreatDoor
namespace Lw
open Go
def hv:Nat→Nat→Nat
 | 0,_=>0
 | f+1,x=>if x=0 then 0 else hv f (x / 2)+1
theorem bj' (f x:Nat):hv f x=Lib.bitLenAux f x:=by
 induction f generalizing x with
 | zero=>rfl
 | succ f ih=>unfold hv Lib.bitLenAux; rw [ih]; split <;> omega
theorem bkb (f:Nat):hv f 0=0:=by cases f <;> simp [hv]
theorem bka {f x:Nat} (h:x < 2 ^ f) (h0:x≠0) : ∃ f',f=f'+1∧hv f x=hv f' (x / 2)+1∧x / 2 < 2 ^ f':=by
 cases f with
 | zero=>simp at h; omega
 | succ f=>exact ⟨f,rfl,by rw [hv,if_neg h0],by rw [Nat.pow_succ] at h; omega⟩
end Lw
namespace Go.Proofs.YtbihljnjaondcaaGreatDoor
open Go Go.RowKit Lw
set_option maxHeartbeats 1600000 in
theorem beI (s:Bool) (A:Option Addr) (ns:List Nat) (n c B:Nat) (w:World) (h:Rd w B A ns) (hB:B≤w.heap.size) (hn:ns.length=n) (hl:n≤16777216) (hc:n≤c) :
  Calls Tryz.prog 115 #[.agg #[.bool s,.slice A n c]] w fun e w'=>e = .returned (.int .i64 (afm (zv s ns)))∧Below w.heap.size w w':=by
 have hlz:=ate (s:=s) h.wds
 rw [hn] at hlz
 have hk:=fun W hR hB'=>bas s A ns n c B W hR hB' hn hl hc
 have hk':=fun W hR hB'=>baT s A ns n c B W hR hB' hn hl
 generalize zv s ns=z at *
 have Hk:=Lib.hid hk
 have Hk':=Lib.hid hk'
 clear hk hk'
 go_enter Tryz.func115,Tryz.ntmps115
 go_wp2_with fail
 refine (Hk.out _ (h.alloc hB _) (by simp; omega)).mono ?_
 rintro e w1 ⟨A1,c1,rfl,hc1,hr1,hb1⟩
 obtain ⟨t1,hs1,hb2⟩:=box1 hb1
 obtain ⟨c10,c11,f10,f11⟩:=t1.facts
 by_cases h0:(mg z).length=0
 ·have HZ:Hid (0=afm z):=Lib.hid (by rw [a1u.1 h0]; rfl)
  have hbq:(((mg z).length:Int)==0)=true:=by rw [beq_iff_eq]; omega
  clear h0
  go_wp2_with fail
  go_ret
  exact ⟨ahy HZ.out,hb2⟩
 ·have hne:z≠0:=fun e=>h0 (a1u.2 e)
  have hbq:(((mg z).length:Int)==0)=false:=by rw [beq_eq_false_iff_ne]; omega
  have H0:=Lib.hid hne
  clear h0 hne
  go_wp2_with fail
  refine (Hk'.out _ (h.below (hb2.mono hB)) (by omega)).mono ?_
  rintro e w2 ⟨rfl,hb3⟩
  have hb4:=aaR hb2 hb3 (by omega)
  cases hsg:sg z
  ·have HZ:Hid (1=afm z):=Lib.hid (by have:=a8q hsg; have:=H0.out; unfold afm; rw [if_neg (by omega),if_neg (by omega)])
   go_wp2_with fail
   go_ret
   exact ⟨ahy HZ.out,hb4⟩
  ·have HZ:Hid (-1=afm z):=Lib.hid (by have:=a5h hsg; unfold afm; rw [if_pos (by omega)])
   go_wp2_with fail
   go_ret
   exact ⟨ahy HZ.out,hb4⟩
set_option maxHeartbeats 1600000 in
theorem bmY (A:Option Addr) (ns:List Nat) (n c B:Nat) (w:World) (h:Rd w B A ns) (hn:ns.length=n) (hl:n≤16777216) :
  Calls Tryz.prog 171 #[.slice A n c] w fun e w'=>e = .returned (.int .i64 (alQ ns))∧w=w':=by
 have Hn:=Lib.hid hn
 clear hn
 by_cases h0:n=0
 ·have HN:Hid (0=alQ ns):=Lib.hid (by unfold alQ; rw [if_pos (by rw [Hn.out]; exact h0)])
  subst h0
  go_enter Tryz.func171,Tryz.ntmps171
  go_wp2_with fail
  go_ret
  exact ⟨ahy (by rw [← HN.out]; rfl),rfl⟩
 ·obtain ⟨b,off,rfl,hb,hcell,hlt⟩:=h.at_ (k:=n - 1) (by rw [Hn.out]; omega)
  have hbq:((n:Int)==0)=false:=by rw [beq_eq_false_iff_ne]; omega
  have hx0:=hlt
  have hbl:=a7o hlt
  have HN:Hid ((n - 1)*32+Lib.bitLen (dg ns (n - 1))=alQ ns):=Lib.hid (by unfold alQ; rw [if_neg (by rw [Hn.out]; exact h0),Hn.out])
  generalize dg ns (n - 1)=X at *
  have hX:Hid (hv 64 X=Lib.bitLen X):=Lib.hid (bj' 64 X)
  go_enter Tryz.func171,Tryz.ntmps171
  go_wp2_with fail
  go_loop [3,4] (fun v i => ∃ f x k:Nat,Hid (x < 2 ^ f)∧x < 4294967296∧i = .int .u32 x∧v = .int .i64 (32*((n:Int) - 1)+(k:Int))∧k≤64∧Hid (k+hv f x=Lib.bitLen X)∧k+f=64) (fun _ i=>(intOf i).toNat)
  case atStart=>exact ⟨64,X,0,Lib.hid (by omega),hx0,rfl,by go_num,by omega,Lib.hid (by rw [Nat.zero_add]; exact hX.out),rfl⟩
  case round =>
   obtain ⟨f,x,k,hxf,hx,rfl,rfl,hk,hv1,hkf⟩:=hrel
   by_cases hx1:x=0
   ·subst hx1
    have HE:Hid (k=Lib.bitLen X):=Lib.hid (by rw [← hv1.out,bkb]; rfl)
    go_wp2_with fail
    go_ret
    exact ⟨ahy (by rw [← HN.out,← HE.out]; omega),rfl⟩
   ·obtain ⟨f',rfl,hs,hs2⟩:=bka hxf.out hx1
    have HS:=Lib.hid hs
    have HS2:Hid (x / 2 < 2 ^ f'):=Lib.hid hs2
    clear hs hs2 hxf
    go_wp2_with fail
    go_round
    case rel=>exact ⟨f',x / 2,k+1,HS2,by omega,by go_num,by go_num,by omega,Lib.hid (by have:=hv1.out; rw [HS.out] at this; omega),by omega⟩
    case measure=>simp [intOf]; omega
end Go.Proofs.YtbihljnjaondcaaGreatDoor
