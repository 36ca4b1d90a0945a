/- Part of a proof, said shortly. -/
import Derived.Lib.TrailingZeros
import Derived.Test.YtbihljnjaondcaaGreatDoorAlz
import Derived.Test.YtbihljnjaondcaaGreatDoorC2
import Derived.Test.YtbihljnjaondcaaGreatDoorC1
import Derived.Test.YtbihljnjaondcaaGreatDoorC4
import Derived.Test.YtbihljnjaondcaaGreatDoorC3
namespace Go.Proofs.YtbihljnjaondcaaGreatDoor
open Go Go.RowKit Lw
set_option maxHeartbeats 800000 in
theorem ad7 (s:Bool) (A:Option Addr) (ns:List Nat) (n c B:Nat) (w:World) (h:Rd w B A ns) (hB:B≤w.heap.size) (hn:ns.length=n) (hl:n≤16777216) :
  Calls Tryz.prog 214 #[.agg #[.bool s,.slice A n c]] w fun e w'=>e = .returned (.bool (vB s ns))∧Below w.heap.size w w':=by
 have Hn:=Lib.hid hn
 clear hn
 by_cases h0:n=0
 ·subst h0
  go_enter Tryz.func214,Tryz.ntmps214
  go_wp2
  go_ret
  refine ⟨DI ?_,?_⟩
  ·unfold vB; rw [if_pos Hn.out]
  ·exact (Below.refl _ _).alloc (Nat.le_refl _) _
 ·obtain ⟨b,off,rfl,hb,hcell,hlt⟩:=h.at_ (k:=n - 1) (by rw [Hn.out]; omega)
  have hb1:((n:Int)==0)=false:=by simp; omega
  have hbs:b < w.heap.size:=by omega
  go_enter Tryz.func214,Tryz.ntmps214
  go_wp2
  go_ret
  refine ⟨DI ?_,(Below.refl _ _).alloc (Nat.le_refl _) _⟩
  unfold vB
  rw [if_neg (by rw [Hn.out]; exact h0),Hn.out,Bool.eq_iff_iff,bne_iff_ne,bne_iff_ne]
  exact not_congr Int.ofNat_inj
set_option maxHeartbeats 800000 in
theorem adv (s:Bool) (A:Option Addr) (ns:List Nat) (n c B:Nat) (w:World) (h:Rd w B A ns) (hB:B≤w.heap.size) (hn:ns.length=n) (hl:n≤16777216) (hc:n≤c) :
  Calls Tryz.prog 159 #[.agg #[.bool s,.slice A n c]] w fun e w' => ∃ A' c',e = .returned (.slice A' (mg (zv s ns)).length c')∧(mg (zv s ns)).length≤c'∧Rd w' B A' (mg (zv s ns))∧Below w.heap.size w w':=by
 cases hv:vB s ns
 ·have hz:Hid (zv s ns=0):=Lib.hid (by unfold zv; rw [hv]; rfl)
  go_enter Tryz.func159,Tryz.ntmps159
  go_wp2_with fail
  refine (ad7 s A ns n c B _ (h.alloc hB _) (by simp; omega) hn hl).mono ?_
  rintro e w1 ⟨rfl,hb1⟩
  obtain ⟨t1,hs1,hb2⟩:=box1 hb1
  obtain ⟨c10,c11,f10,f11⟩:=t1.facts
  go_wp2_with fail
  go_ret
  rw [hz.out]
  exact ⟨none,0,rfl,Nat.le_refl _,Rd.nil_ _ _ _,hb2⟩
 ·have hz:Hid (zv s ns=if s then -(val ns:Int) else (val ns:Int)):=Lib.hid (by unfold zv; rw [hv]; rfl)
  have Hv:=Lib.hid hv
  go_enter Tryz.func159,Tryz.ntmps159
  go_wp2_with fail
  refine (ad7 s A ns n c B _ (h.alloc hB _) (by simp; omega) hn hl).mono ?_
  rintro e w1 ⟨rfl,hb1⟩
  obtain ⟨t1,hs1,hb2⟩:=box1 hb1
  obtain ⟨c10,c11,f10,f11⟩:=t1.facts
  go_wp2_with fail
  go_ret
  obtain ⟨e1,e2,e3⟩:=Qw Hv.out hz.out h.gW
  rw [e2,hn]
  exact ⟨A,c,rfl,hc,h.below (hb2.mono hB),hb2⟩
set_option maxHeartbeats 800000 in
theorem ad8 (s:Bool) (A:Option Addr) (ns:List Nat) (n c B:Nat) (w:World) (h:Rd w B A ns) (hB:B≤w.heap.size) (hn:ns.length=n) (hl:n≤16777216) :
  Calls Tryz.prog 160 #[.agg #[.bool s,.slice A n c]] w fun e w'=>e = .returned (.bool (sg (zv s ns)))∧Below w.heap.size w w':=by
 cases hv:vB s ns
 ·have hz:Hid (zv s ns=0):=Lib.hid (by unfold zv; rw [hv]; rfl)
  go_enter Tryz.func160,Tryz.ntmps160
  go_wp2_with fail
  refine (ad7 s A ns n c B _ (h.alloc hB _) (by simp; omega) hn hl).mono ?_
  rintro e w1 ⟨rfl,hb1⟩
  obtain ⟨t1,hs1,hb2⟩:=box1 hb1
  obtain ⟨c10,c11,f10,f11⟩:=t1.facts
  go_wp2_with fail
  go_ret
  rw [hz.out]
  exact ⟨rfl,hb2⟩
 ·have hz:Hid (zv s ns=if s then -(val ns:Int) else (val ns:Int)):=Lib.hid (by unfold zv; rw [hv]; rfl)
  have Hv:=Lib.hid hv
  go_enter Tryz.func160,Tryz.ntmps160
  go_wp2_with fail
  refine (ad7 s A ns n c B _ (h.alloc hB _) (by simp; omega) hn hl).mono ?_
  rintro e w1 ⟨rfl,hb1⟩
  obtain ⟨t1,hs1,hb2⟩:=box1 hb1
  obtain ⟨c10,c11,f10,f11⟩:=t1.facts
  go_wp2_with fail
  go_ret
  obtain ⟨e1,e2,e3⟩:=Qw Hv.out hz.out h.gW
  exact ⟨DI e1.symm,hb2⟩
set_option maxHeartbeats 800000 in
theorem BB (A:Option Addr) (ns:List Nat) (n c B k:Nat) (w:World) (h:Rd w B A ns) (hn:ns.length=n) (_hl:n≤4294967296) :
  Calls Tryz.prog 215 #[.slice A n c,.int .i64 (k:Int)] w fun e w'=>e = .returned (.int .u64 (dg ns k:Int))∧w=w':=by
 have Hn:=Lib.hid hn
 clear hn
 by_cases h1:n≤k
 ·go_enter Tryz.func215,Tryz.ntmps215
  go_wp2
  go_ret
  exact ⟨rF (by rw [NK (by rw [Hn.out]; exact h1)]; rfl),rfl⟩
 ·obtain ⟨b,off,rfl,hb,hcell,hlt⟩:=h.at_ (k:=k) (by rw [Hn.out]; omega)
  go_enter Tryz.func215,Tryz.ntmps215
  go_wp2
  go_ret
  exact ⟨rfl,rfl⟩
def Um (w:World) (N:Nat) (e:Ending) (w':World):Prop :=
 ∃ g c,e = .returned (.slice (some ⟨g,0,none⟩) (bg N).length c)∧(bg N).length≤c∧w.heap.size≤g∧fH w' g 99 (bg N)∧Below w.heap.size w w'
set_option maxHeartbeats 800000 in
theorem Vk (A:Option Addr) (ns:List Nat) (n c B:Nat) (w:World) (h:Rd w B A ns) (hB:B≤w.heap.size) (hn:ns.length=n) (hl:n≤4294967296) :
  Calls Tryz.prog 184 #[.slice A n c] w (Um w (val ns)):=by
 have Hn:=Lib.hid hn
 clear hn
 have hown:(w.alloc (.cells #[] 99)).ownsRow w.heap.size 99 1 (.slice (some ⟨w.heap.size,0,none⟩) 0 0) 0 (arr []):=World.ownsRow_lit w #[] 0 (Nat.le_refl _) (by simp [maxLen]) (by simp)
 go_enter Tryz.func184,Tryz.ntmps184
 go_wp2_with (at_builtin; refine afk _ rfl _ _ 22 rfl w.heap.size 99 aYN Az _ 0 [] rfl hown B A ns n c rfl (h.alloc hB _) Hn.out (by omega) (by simp) ?_; intro v' w1 hown1 hgrow1 hnil)
 rw [List.nil_append,Nat.zero_add] at hown1
 obtain ⟨g,cc,rfl,hg,hcc,hblk⟩:=abk hown1 (by intro e; have h1:=(hnil.1 e).1; cases h1)
 have hb:Below w.heap.size w w1:=((Below.refl _ _).alloc (Nat.le_refl _) _).grown hgrow1 (by simp) (fun k hk=>by
  have e:some w.heap.size=some k:=hk
  injection e with e
  exact Nat.le_of_eq e)
 have hw:=h.gW
 clear hown hown1 hgrow1 hnil h
 have hgl:=hblk.lt
 go_loop [3] (fun v => ∃ k:Nat,k≤n∧v = .slice (some ⟨g,0,none⟩) k cc∧Hid (val (ns.take k)=val ns)) (fun v=>cnt v)
 case atStart=>exact ⟨n,Nat.le_refl _,rfl,Lib.hid (by rw [← Hn.out,List.take_length])⟩
 case round =>
  obtain ⟨k,hk,rfl,hv⟩:=hrel
  by_cases hk0:k=0
  ·subst hk0
   go_wp2
   go_ret
   have e:=VA hw (Nat.zero_le _) hv.out (.inl rfl)
   exact ⟨g,cc,BV e,by rw [← e]; exact Nat.zero_le _,hg,hblk.bg hw,hb⟩
  ·have hcell:=hblk.cell (i:=k - 1) (by rw [Hn.out]; omega)
   by_cases hd:dg ns (k - 1)=0
   ·have HV:Hid (val (ns.take (k - 1))=val ns):=Lib.hid (ajG (by rw [Hn.out]; exact hk) hk0 hv.out hd)
    go_wp2
    go_round
    case rel=>exact ⟨k - 1,by omega,rfl,HV⟩
    case measure=>simp [cnt]; omega
   ·go_wp2
    go_ret
    have e:=VA hw (by rw [Hn.out]; exact hk) hv.out (.inr hd)
    exact ⟨g,cc,BV e,by rw [← e]; omega,hg,hblk.bg hw,hb⟩
set_option maxHeartbeats 800000 in
theorem acs (s:Bool) (A:Option Addr) (ns:List Nat) (n c B:Nat) (z:Int) (w:World) (h:Rd w B A ns) (hB:B≤w.heap.size) (hn:ns.length=n) (hl:n≤4294967296) (hz:z=if s then -(val ns:Int) else (val ns:Int)) :
  Calls Tryz.prog 161 #[.bool s,.slice A n c] w (DX w z):=by
 have HZ:=Lib.hid hz
 clear hz
 go_enter Tryz.func161,Tryz.ntmps161
 go_wp2_with fail
 refine (Vk A ns n c B _ (h.alloc hB _) (by simp; omega) hn hl).mono ?_
 rintro e w1 ⟨g,c1,rfl,hc1,hg,hblk,hb1⟩
 obtain ⟨t1,hs1,hb2⟩:=box1 hb1
 obtain ⟨c10,c11,f10,f11⟩:=t1.facts
 have hr:=hblk.rd (mJ _)
 clear h
 by_cases h0:val ns=0
 ·have e0:(bg (val ns)).length=0:=by rw [h0]; rfl
  have ez:z=0:=by rw [HZ.out,h0]; split <;> rfl
  have hbq:(((bg (val ns)).length:Int)==0)=true:=by rw [e0]; rfl
  have E0:=Lib.hid e0
  clear e0 h0 HZ hn
  subst ez
  go_wp2_with fail
  refine bodyPost_ret (v := .agg #[.bool (sg 0),.slice none 0 0]) (by simp [results,Tryz.results161,go_sem,c10,c11,aFr]) rfl ?_
  exact ⟨none,0,rfl,Nat.le_refl _,Rd.nil_ _ _ _,(hb2.setCell (Nat.le_refl _) _).setCell (Nat.le_refl _) _⟩
 ·have hbq:(((bg (val ns)).length:Int)==0)=false:=by
   rw [beq_eq_false_iff_ne]
   intro e
   exact h0 (xP.1 (List.eq_nil_of_length_eq_zero (by omega)))
  have Hz:Hid (sg z=s∧mg z=bg (val ns)):=Lib.hid (arY h0 HZ.out)
  clear h0 HZ hn
  go_wp2_with fail
  refine bodyPost_ret (v := .agg #[.bool s,.slice (some ⟨g,0,none⟩) (bg (val ns)).length c1]) (by simp [results,Tryz.results161,go_sem,c10,c11]) rfl ?_
  have:=zX (z:=z) (c':=c1) t1 (by rw [Hz.out.2]; exact hr) (Nat.le_refl _) (by rw [Hz.out.2]; exact hc1) hb2 (Nat.le_refl _)
  rw [Hz.out.1,Hz.out.2] at this
  exact this
end Go.Proofs.YtbihljnjaondcaaGreatDoor
namespace Go.Proofs.YtbihljnjaondcaaGreatDoor
open Go Go.RowKit Lw
theorem alG (w:World) (t:TypeId) {o:Obj} {a b:Int} {x y:Nat} (ha:a=x) (hb:b=y):fH ((w.alloc o).alloc (.cells #[.int .u32 a,.int .u32 b] t)) (w.heap.size+1) t [x,y]:=by
 have:=agY (w.alloc o) t ha hb
 simpa using this
set_option maxHeartbeats 800000 in
theorem aEc (z:Int) (w:World) (h1 : -9223372036854775808≤z) (h2:z≤9223372036854775807) :
  Calls Tryz.prog 143 #[.int .i64 z] w (DX w z):=by
 by_cases h0:z < 0
 ·obtain ⟨D,N,hD,hN,RJ,hNl,hDl⟩:=akq h1 h0
  have HN:=Lib.hid RJ
  clear RJ
  have hblk:=alG w 99 (o := .cells #[.bool false,.slice none 0 0] 39) (a:=(N:Int) % 4294967296) (b:=(N:Int) / 4294967296) (x:=N % 4294967296) (y:=N / 4294967296) (by omega) (by omega)
  have hw:fQ [N % 4294967296,N / 4294967296]:=aah (by omega) (by omega)
  have hz:Hid (z=if true then -(val [N % 4294967296,N / 4294967296]:Int) else (val [N % 4294967296,N / 4294967296]:Int)):=Lib.hid (by rw [HN.out,val_two]; simp; omega)
  go_enter Tryz.func143,Tryz.ntmps143
  go_wp2_with fail
  refine (acs true _ [N % 4294967296,N / 4294967296] 2 2 _ z _ (hblk.rd hw) (Nat.le_refl _) rfl (by omega) hz.out).mono ?_
  rintro e w2 ⟨A2,c2,rfl,hc2,hr2,hb3⟩
  have t1:=((Two.new w 39 (.bool false) (.slice none 0 0)).alloc (.cells #[.int .u32 ((N:Int) % 4294967296),.int .u32 ((N:Int) / 4294967296)] 99)).next hb3
  have hb2:=fK (((Below.refl w.heap.size w).alloc (Nat.le_refl _) (.cells #[.bool false,.slice none 0 0] 39)).alloc (by simp) (.cells #[.int .u32 ((N:Int) % 4294967296),.int .u32 ((N:Int) / 4294967296)] 99)) hb3 (by simp)
  obtain ⟨d0,d1,g0,g1⟩:=t1.facts
  go_wp2_with fail
  refine bodyPost_ret (v := .agg #[.bool (sg z),.slice A2 (mg z).length c2]) (by simp [results,Tryz.results143,go_sem,d0,d1]) rfl ?_
  exact zX t1 hr2 (Nat.le_refl _) hc2 hb2 (Nat.le_refl _)
 ·obtain ⟨N,rfl⟩:=Int.eq_ofNat_of_zero_le (show 0≤z by omega)
  have hblk:=alG w 99 (o := .cells #[.bool false,.slice none 0 0] 39) (a:=(N:Int) % 4294967296) (b:=(N:Int) / 4294967296) (x:=N % 4294967296) (y:=N / 4294967296) (by omega) (by omega)
  have hw:fQ [N % 4294967296,N / 4294967296]:=aah (by omega) (by omega)
  have hz:Hid ((N:Int)=if false then -(val [N % 4294967296,N / 4294967296]:Int) else (val [N % 4294967296,N / 4294967296]:Int)):=Lib.hid (by rw [val_two]; simp; omega)
  go_enter Tryz.func143,Tryz.ntmps143
  go_wp2_with fail
  refine (acs false _ [N % 4294967296,N / 4294967296] 2 2 _ (N:Int) _ (hblk.rd hw) (Nat.le_refl _) rfl (by omega) hz.out).mono ?_
  rintro e w2 ⟨A2,c2,rfl,hc2,hr2,hb3⟩
  have t1:=((Two.new w 39 (.bool false) (.slice none 0 0)).alloc (.cells #[.int .u32 ((N:Int) % 4294967296),.int .u32 ((N:Int) / 4294967296)] 99)).next hb3
  have hb2:=fK (((Below.refl w.heap.size w).alloc (Nat.le_refl _) (.cells #[.bool false,.slice none 0 0] 39)).alloc (by simp) (.cells #[.int .u32 ((N:Int) % 4294967296),.int .u32 ((N:Int) / 4294967296)] 99)) hb3 (by simp)
  obtain ⟨d0,d1,g0,g1⟩:=t1.facts
  go_wp2_with fail
  refine bodyPost_ret (v := .agg #[.bool (sg (N:Int)),.slice A2 (mg (N:Int)).length c2]) (by simp [results,Tryz.results143,go_sem,d0,d1]) rfl ?_
  exact zX t1 hr2 (Nat.le_refl _) hc2 hb2 (Nat.le_refl _)
end Go.Proofs.YtbihljnjaondcaaGreatDoor
namespace Lw
open Go
def hv:Nat→Nat→Nat
 | 0,_=>0
 | f+1,x=>if x=0 then 0 else hv f (x / 2)+1
theorem az3 (f x:Nat):hv f x=Lib.bitLenAux f x:=by
 induction f generalizing x with
 | zero=>rfl
 | succ f ih=>unfold hv Lib.bitLenAux; rw [ih]; split <;> omega
theorem az5 (f:Nat):hv f 0=0:=by cases f <;> simp [hv]
theorem az4 {f x:Nat} (h:x < 2 ^ f) (h0:x≠0) : ∃ f',f=f'+1∧hv f x=hv f' (x / 2)+1∧x / 2 < 2 ^ f':=by
 cases f with
 | zero=>simp at h; omega
 | succ f=>exact ⟨f,rfl,by rw [hv,if_neg h0],by rw [Nat.pow_succ] at h; omega⟩
end Lw
namespace Go.Proofs.YtbihljnjaondcaaGreatDoor
open Go Go.RowKit Lw
set_option maxHeartbeats 1600000 in
theorem aqH (s:Bool) (A:Option Addr) (ns:List Nat) (n c B:Nat) (w:World) (h:Rd w B A ns) (hB:B≤w.heap.size) (hn:ns.length=n) (hl:n≤16777216) (hc:n≤c) :
  Calls Tryz.prog 115 #[.agg #[.bool s,.slice A n c]] w fun e w'=>e = .returned (.int .i64 (sV (zv s ns)))∧Below w.heap.size w w':=by
 have hlz:=Cc (s:=s) h.gW
 rw [hn] at hlz
 have hk:=fun W hR hB'=>adv s A ns n c B W hR hB' hn hl hc
 have hk':=fun W hR hB'=>ad8 s A ns n c B W hR hB' hn hl
 generalize zv s ns=z at *
 have Hk:=Lib.hid hk
 have Xg:=Lib.hid hk'
 clear hk hk'
 go_enter Tryz.func115,Tryz.ntmps115
 go_wp2_with fail
 refine (Hk.out _ (h.alloc hB _) (by simp; omega)).mono ?_
 rintro e w1 ⟨A1,c1,rfl,hc1,hr1,hb1⟩
 obtain ⟨t1,hs1,hb2⟩:=box1 hb1
 obtain ⟨c10,c11,f10,f11⟩:=t1.facts
 by_cases h0:(mg z).length=0
 ·have HZ:Hid (0=sV z):=Lib.hid (by rw [PX.1 h0]; rfl)
  have hbq:(((mg z).length:Int)==0)=true:=by rw [beq_iff_eq]; omega
  clear h0
  go_wp2_with fail
  go_ret
  exact ⟨rF HZ.out,hb2⟩
 ·have hne:z≠0:=fun e=>h0 (PX.2 e)
  have hbq:(((mg z).length:Int)==0)=false:=by rw [beq_eq_false_iff_ne]; omega
  have H0:=Lib.hid hne
  clear h0 hne
  go_wp2_with fail
  refine (Xg.out _ (h.below (hb2.mono hB)) (by omega)).mono ?_
  rintro e w2 ⟨rfl,hb3⟩
  have hb4:=fK hb2 hb3 (by omega)
  cases hsg:sg z
  ·have HZ:Hid (1=sV z):=Lib.hid (by have:=ajt hsg; have:=H0.out; unfold sV; rw [if_neg (by omega),if_neg (by omega)])
   go_wp2_with fail
   go_ret
   exact ⟨rF HZ.out,hb4⟩
  ·have HZ:Hid (-1=sV z):=Lib.hid (by have:=aju hsg; unfold sV; rw [if_pos (by omega)])
   go_wp2_with fail
   go_ret
   exact ⟨rF HZ.out,hb4⟩
set_option maxHeartbeats 1600000 in
theorem aqE (A:Option Addr) (ns:List Nat) (n c B:Nat) (w:World) (h:Rd w B A ns) (hn:ns.length=n) (hl:n≤16777216) :
  Calls Tryz.prog 171 #[.slice A n c] w fun e w'=>e = .returned (.int .i64 (zl ns))∧w=w':=by
 have Hn:=Lib.hid hn
 clear hn
 by_cases h0:n=0
 ·have HN:Hid (0=zl ns):=Lib.hid (by unfold zl; rw [if_pos (by rw [Hn.out]; exact h0)])
  subst h0
  go_enter Tryz.func171,Tryz.ntmps171
  go_wp2_with fail
  go_ret
  exact ⟨rF (by rw [← HN.out]; rfl),rfl⟩
 ·obtain ⟨b,off,rfl,hb,hcell,hlt⟩:=h.at_ (k:=n - 1) (by rw [Hn.out]; omega)
  have hbq:((n:Int)==0)=false:=by rw [beq_eq_false_iff_ne]; omega
  have hx0:=hlt
  have hbl:=abj hlt
  have HN:Hid ((n - 1)*32+Lib.bitLen (dg ns (n - 1))=zl ns):=Lib.hid (by unfold zl; rw [if_neg (by rw [Hn.out]; exact h0),Hn.out])
  generalize dg ns (n - 1)=X at *
  have hX:Hid (hv 64 X=Lib.bitLen X):=Lib.hid (az3 64 X)
  go_enter Tryz.func171,Tryz.ntmps171
  go_wp2_with fail
  go_loop [3,4] (fun v i => ∃ f x k:Nat,Hid (x < 2 ^ f)∧x < 4294967296∧i = .int .u32 x∧v = .int .i64 (32*((n:Int) - 1)+(k:Int))∧k≤64∧Hid (k+hv f x=Lib.bitLen X)∧k+f=64) (fun _ i=>(intOf i).toNat)
  case atStart=>exact ⟨64,X,0,Lib.hid (by omega),hx0,rfl,by go_num,by omega,Lib.hid (by rw [Nat.zero_add]; exact hX.out),rfl⟩
  case round =>
   obtain ⟨f,x,k,hxf,hx,rfl,rfl,hk,hv1,hkf⟩:=hrel
   by_cases hx1:x=0
   ·subst hx1
    have HE:Hid (k=Lib.bitLen X):=Lib.hid (by rw [← hv1.out,az5]; rfl)
    go_wp2_with fail
    go_ret
    exact ⟨rF (by rw [← HN.out,← HE.out]; omega),rfl⟩
   ·obtain ⟨f',rfl,hs,hs2⟩:=az4 hxf.out hx1
    have HS:=Lib.hid hs
    have HS2:Hid (x / 2 < 2 ^ f'):=Lib.hid hs2
    clear hs hs2 hxf
    go_wp2_with fail
    go_round
    case rel=>exact ⟨f',x / 2,k+1,HS2,by omega,by go_num,by go_num,by omega,Lib.hid (by have:=hv1.out; rw [HS.out] at this; omega),by omega⟩
    case measure=>simp [intOf]; omega
end Go.Proofs.YtbihljnjaondcaaGreatDoor
namespace Lw
open Go Go.RowKit
theorem aFY {l:List Nat} (h:wP l) (hl:0 < l.length):dg l (l.length - 1)≠0 :=
 h _ (by rw [List.getLast?_eq_getElem?,NL (by omega)])
theorem Lt (z:Int):vB (sg z) (mg z)=true:=by
 unfold vB
 by_cases h:(mg z).length=0
 ·rw [if_pos h]
  have:=PX.1 h
  subst this; rfl
 ·rw [if_neg h]
  have:=aFY (SG z) (by omega)
  simpa using this
theorem Ph (z:Int):zv (sg z) (mg z)=z:=by
 unfold zv; rw [if_pos (Lt z)]; exact (Vw z).symm
theorem N9 {z:Int} {k:Nat} (h:z.natAbs < pw k):(mg z).length≤k:=xQ h
end Lw
namespace Lw
open Go Go.RowKit
structure Wh where
 s:Bool
 A:Option Addr
 n:Nat
 c:Nat
def Wh.cells (a:Wh):List Value:=[.bool a.s,.slice a.A a.n a.c]
end Lw
namespace Lw
open Go Go.RowKit
structure En where
 v:Value
 z:Int
 k:Nat
 b:Bool
def pF (w:World) (e:En):Prop := ∃ (s:Bool) (A:Option Addr) (n c:Nat) (ns:List Nat) (B:Nat),e.v = .agg #[.bool s,.slice A n c]∧Rd w B A ns∧B≤w.heap.size∧ns.length=n∧n≤e.k∧n≤c∧zv s ns=e.z∧vB s ns=e.b
theorem pF.next {w w':World} {e:En} (h:pF w e) (hb:Below w.heap.size w w'):pF w' e:=by
 obtain ⟨s,A,n,c,ns,B,h1,h2,h3,h4⟩:=h
 exact ⟨s,A,n,c,ns,B,h1,h2.next hb h3,Nat.le_trans h3 hb.size,h4⟩
theorem pF.lt {w:World} {e:En} (h:pF w e):e.z.natAbs < pw e.k:=by
 obtain ⟨s,A,n,c,ns,B,h1,h2,h3,h4,h5,h6,h7,h8⟩:=h
 rw [← h7]
 exact Nat.lt_of_le_of_lt (afl s ns) (Nat.lt_of_lt_of_le (sW h2.gW) (uX (by omega)))
theorem SB {x y:Int} {k k':Nat} (h:x.natAbs < pw k) (h':y.natAbs < pw k'):(x+y).natAbs < pw (k+k'+1):=by
 have h1:pw k≤pw (k+k'):=uX (by omega)
 have h2:pw k'≤pw (k+k'):=uX (by omega)
 have h3:pw (k+k'+1)=pw (k+k')*4294967296:=by unfold pw; rw [Nat.pow_succ]
 omega
theorem aA0 {x y:Int} {k k':Nat} (h:x.natAbs < pw k) (h':y.natAbs < pw k'):(x - y).natAbs < pw (k+k'+1):=by
 have:=SB h (y := -y) (by simpa using h')
 rwa [← Int.sub_eq_add_neg] at this
theorem lt_mul {x y:Int} {k k':Nat} (h:x.natAbs < pw k) (h':y.natAbs < pw k'):(x*y).natAbs < pw (k+k'+1):=by
 rw [Int.natAbs_mul]
 have h1:x.natAbs*y.natAbs < pw k*pw k':=Nat.mul_lt_mul_of_le_of_lt (Nat.le_of_lt h) h' (by omega)
 have h2:pw k*pw k'=pw (k+k'):=by unfold pw; rw [Nat.pow_add]
 have h3:pw (k+k')≤pw (k+k'+1):=uX (by omega)
 omega
structure Bx where
 g:Nat
 x:Value
 y:Value
structure Env (t:TypeId) (W0 w:World) (bs:List Bx) (L:List En):Prop where
 ops : ∀ e∈L,pF w e
 box : ∀ b∈bs,Two w b.g t b.x b.y
 below:Below W0.heap.size W0 w
variable {t:TypeId} {W0 w w':World} {bs:List Bx} {L:List En}
theorem Env.next (h:Env t W0 w bs L) (hb:Below w.heap.size w w'):Env t W0 w' bs L :=
 ⟨fun e he=>(h.ops e he).next hb,fun b hb'=>(h.box b hb').next hb,fK h.below hb (Nat.le_refl _)⟩
theorem Env.drew (h:Env t W0 w bs L):Env t W0 w.drew bs L:=h.next (Below.refl _ w).drew
theorem Env.cons (h:Env t W0 w bs L) {e:En} (he:pF w e):Env t W0 w bs (e :: L) :=
 ⟨fun e' h'=>by
  rcases List.mem_cons.1 h' with rfl | h'
  ·exact he
  ·exact h.ops e' h',h.box,h.below⟩
theorem Env.tail {e:En} (h:Env t W0 w bs (e :: L)):Env t W0 w bs L:=⟨fun e' h'=>h.ops e' (.tail _ h'),h.box,h.below⟩
theorem Env.nil_ (h:Env t W0 w bs L):Env t W0 w bs (⟨.agg #[.bool false,.slice none 0 0],0,0,true⟩ :: L) :=
 h.cons ⟨false,none,0,0,[],0,rfl,Rd.nil_ _ _ _,Nat.zero_le _,rfl,Nat.le_refl _,Nat.le_refl _,rfl,rfl⟩
theorem Env.cells3 {g1 g2 g3:Nat} {x1 y1 x2 y2 x3 y3:Value} (h:Env t W0 w [⟨g1,x1,y1⟩,⟨g2,x2,y2⟩,⟨g3,x3,y3⟩] L) :
  w.cell? ⟨g1,0,none⟩=some x1∧w.cell? ⟨g1,1,none⟩=some y1∧w.cell? ⟨g2,0,none⟩=some x2∧w.cell? ⟨g2,1,none⟩=some y2∧w.cell? ⟨g3,0,none⟩=some x3∧w.cell? ⟨g3,1,none⟩=some y3:=by
 obtain ⟨a1,a2,_,_⟩:=(h.box _ (.head _)).facts
 obtain ⟨b1,b2,_,_⟩:=(h.box _ (.tail _ (.head _))).facts
 obtain ⟨c1,c2,_,_⟩:=(h.box _ (.tail _ (.tail _ (.head _)))).facts
 exact ⟨a1,a2,b1,b2,c1,c2⟩
theorem Env.cells2 {g1 g2:Nat} {x1 y1 x2 y2:Value} (h:Env t W0 w [⟨g1,x1,y1⟩,⟨g2,x2,y2⟩] L) :
  w.cell? ⟨g1,0,none⟩=some x1∧w.cell? ⟨g1,1,none⟩=some y1∧w.cell? ⟨g2,0,none⟩=some x2∧w.cell? ⟨g2,1,none⟩=some y2:=by
 obtain ⟨a1,a2,_,_⟩:=(h.box _ (.head _)).facts
 obtain ⟨b1,b2,_,_⟩:=(h.box _ (.tail _ (.head _))).facts
 exact ⟨a1,a2,b1,b2⟩
theorem pF.new {w W:World} {s:Bool} {A:Option Addr} {n c:Nat} {l:List Nat} (r:Rd w w.heap.size A l) (hb:Below w.heap.size w W) (h:l.length=n) (hn:n≤30) (hc:n≤c):pF W ⟨.agg #[.bool s,.slice A n c],zv s l,30,vB s l⟩ :=
 ⟨s,A,n,c,l,_,rfl,r.below hb,hb.size,h,hn,hc,rfl,rfl⟩
end Lw
namespace Go.Proofs.YtbihljnjaondcaaGreatDoor
open Go Go.RowKit Lw
section
variable {t:TypeId} {W0 w:World} {bs:List Bx} {L:List En} {v v':Value} {x y:Int} {k k':Nat} {b b':Bool}
theorem Ub {z:Int} {K:Nat} {e:Ending} {w':World} (HE:Env t W0 w bs L) (h:DX w z e w') (hz:z.natAbs < pw K) : ∃ u,e = .returned u∧Env t W0 w' bs (⟨u,z,K,true⟩ :: L):=by
 obtain ⟨A,c,rfl,hc,hr,hb⟩:=h
 exact ⟨_,rfl,(HE.next hb).cons ⟨sg z,A,_,c,mg z,_,rfl,hr,Nat.le_refl _,rfl,N9 hz,hc,Ph z,Lt z⟩⟩
theorem aw7 (HE:Env t W0 w bs L) (h:⟨v,x,k,b⟩∈L) (h':⟨v',y,k',b'⟩∈L) (hk:k+k'≤100000) :
  Calls Tryz.prog 192 #[v,v'] w fun e w' => ∃ u,e = .returned u∧Env t W0 w' bs (⟨u,x+y,k+k'+1,true⟩ :: L):=by
 have H1:=HE.ops _ h
 have H2:=HE.ops _ h'
 have hz:=SB H1.lt H2.lt
 obtain ⟨s,A,n,c,ns,B,e1,h2,h3,h4,h5,h6,e7,h8⟩:=H1
 obtain ⟨s',A',n',c',ns',B',e1',h2',h3',h4',h5',h6',vw,h8'⟩:=H2
 dsimp only at e1 e7 e1' vw h5 h5' hz
 subst e1 e1' e7 vw
 exact (axb s s' A A' ns ns' n n' c c' B B' w h2 h2' h3 h3' h4 h4' (by omega) (by omega) h6 h6').mono fun e w' hh=>Ub HE hh hz
theorem aBe (HE:Env t W0 w bs L) (h:⟨v,x,k,b⟩∈L) (h':⟨v',y,k',b'⟩∈L) (hk:k+k'≤100000) :
  Calls Tryz.prog 91 #[v,v'] w fun e w' => ∃ u,e = .returned u∧Env t W0 w' bs (⟨u,x*y,k+k'+1,true⟩ :: L):=by
 have H1:=HE.ops _ h
 have H2:=HE.ops _ h'
 have hz:=lt_mul H1.lt H2.lt
 obtain ⟨s,A,n,c,ns,B,e1,h2,h3,h4,h5,h6,e7,h8⟩:=H1
 obtain ⟨s',A',n',c',ns',B',e1',h2',h3',h4',h5',h6',vw,h8'⟩:=H2
 dsimp only at e1 e7 e1' vw h5 h5' hz
 subst e1 e1' e7 vw
 exact (aBh s s' A A' ns ns' n n' c c' B B' w h2 h2' h3 h3' h4 h4' (by omega) (by omega) h6 h6').mono fun e w' hh=>Ub HE hh hz
theorem axN (HE:Env t W0 w bs L) (h:⟨v,x,k,b⟩∈L) (h':⟨v',y,k',b'⟩∈L) (hk:k+k'≤100000) :
  Calls Tryz.prog 112 #[v,v'] w fun e w'=>e = .returned (.int .i64 (vP x y))∧Env t W0 w' bs L:=by
 obtain ⟨s,A,n,c,ns,B,e1,h2,h3,h4,h5,h6,e7,h8⟩:=HE.ops _ h
 obtain ⟨s',A',n',c',ns',B',e1',h2',h3',h4',h5',h6',vw,h8'⟩:=HE.ops _ h'
 dsimp only at e1 e7 e1' vw h5 h5'
 subst e1 e1' e7 vw
 exact (axP s s' A A' ns ns' n n' c c' B B' w h2 h2' h3 h3' h4 h4' (by omega) (by omega) h6 h6').mono fun e w' hh=>⟨hh.1,HE.next hh.2⟩
theorem aBp (HE:Env t W0 w bs L) (h:⟨v,x,k,b⟩∈L) (hk:k≤100000) :
  Calls Tryz.prog 225 #[v] w fun e w' => ∃ u,e = .returned u∧Env t W0 w' bs (⟨u,-x,k,true⟩ :: L):=by
 have H1:=HE.ops _ h
 have hz:(-x).natAbs < pw k:=by have:=H1.lt; simpa using this
 obtain ⟨s,A,n,c,ns,B,e1,h2,h3,h4,h5,h6,e7,h8⟩:=H1
 dsimp only at e1 e7 h5
 subst e1 e7
 exact (aBo s A ns n c B w h2 h3 h4 (by omega) h6).mono fun e w' hh=>Ub HE hh hz
theorem aFz (HE:Env t W0 w bs L) (h:⟨v,x,k,b⟩∈L) (hk:k≤100000) :
  Calls Tryz.prog 223 #[v] w fun e w'=>e = .returned (.int .i64 (sV x))∧Env t W0 w' bs L:=by
 obtain ⟨s,A,n,c,ns,B,e1,h2,h3,h4,h5,h6,e7,h8⟩:=HE.ops _ h
 dsimp only at e1 e7 h5
 subst e1 e7
 exact (aFx s A ns n c B w h2 h3 h4 (by omega) h6).mono fun e w' hh=>⟨hh.1,HE.next hh.2⟩
end
end Go.Proofs.YtbihljnjaondcaaGreatDoor
namespace Lw
open Go Go.RowKit
theorem aoy {z:Int} (h1 : -9223372036854775808≤z) (h2:z≤9223372036854775807):z.natAbs < pw 2:=by
 have:pw 2=18446744073709551616:=rfl
 omega
end Lw
namespace Go.Proofs.YtbihljnjaondcaaGreatDoor
open Go Go.RowKit Lw
section
variable {t:TypeId} {W0 w:World} {bs:List Bx} {L:List En} {v v':Value} {x y:Int} {k k':Nat} {b b':Bool}
theorem aqI (HE:Env t W0 w bs L) (h:⟨v,x,k,b⟩∈L) (hk:k≤100000) :
  Calls Tryz.prog 115 #[v] w fun e w'=>e = .returned (.int .i64 (sV x))∧Env t W0 w' bs L:=by
 obtain ⟨s,A,n,c,ns,B,e1,h2,h3,h4,h5,h6,e7,h8⟩:=HE.ops _ h
 dsimp only at e1 e7 h5
 subst e1 e7
 exact (aqH s A ns n c B w h2 h3 h4 (by omega) h6).mono fun e w' hh=>⟨hh.1,HE.next hh.2⟩
theorem aBD {z:Int} (HE:Env t W0 w bs L) (h1 : -9223372036854775808≤z) (h2:z≤9223372036854775807) :
  Calls Tryz.prog 111 #[.int .i64 z] w fun e w' => ∃ u,e = .returned u∧Env t W0 w' bs (⟨u,z,2,true⟩ :: L) :=
 (aBB z w h1 h2).mono fun _ _ hh=>Ub HE hh (aoy h1 h2)
theorem aEd {z:Int} (HE:Env t W0 w bs L) (h1 : -9223372036854775808≤z) (h2:z≤9223372036854775807) :
  Calls Tryz.prog 143 #[.int .i64 z] w fun e w' => ∃ u,e = .returned u∧Env t W0 w' bs (⟨u,z,2,true⟩ :: L) :=
 (aEc z w h1 h2).mono fun _ _ hh=>Ub HE hh (aoy h1 h2)
end
end Go.Proofs.YtbihljnjaondcaaGreatDoor
namespace Lw
open Go Go.RowKit
theorem Env.abh {t:TypeId} {W0 w:World} {bs:List Bx} {L:List En} (h:Env t W0 w bs L) (x y:Value):Env t W0 (w.alloc (.cells #[x,y] t)) (⟨w.heap.size,x,y⟩ :: bs) L :=
 have h2:=h.next ((Below.refl _ w).alloc (Nat.le_refl _) (.cells #[x,y] t))
 ⟨h2.ops,fun b hb=>by
  rcases List.mem_cons.1 hb with rfl | hb
  ·exact Two.new w t x y
  ·exact h2.box b hb,h2.below⟩
theorem pF.put {t:TypeId} {w:World} {g n c:Nat} {s:Bool} {X:Option Addr} {e:En} (h:pF w e) (h2:Two w g t (.bool s) (.slice X n c)) (s':Bool) (v:Value) :
  pF ((w.setCell ⟨g,0,none⟩ (.bool s')).setCell ⟨g,1,none⟩ v) e:=by
 obtain ⟨a,A,m,d,ns,B,e1,h3,h4,h5,h6,h7,e7,h8⟩:=h
 exact ⟨a,A,m,d,ns,B,e1,h3.yF h2 s' v,by simpa using h4,h5,h6,h7,e7,h8⟩
theorem Env.put {t:TypeId} {W0 w:World} {bs:List Bx} {L:List En} {g n c:Nat} {s:Bool} {X:Option Addr} (h:Env t W0 w (⟨g,.bool s,.slice X n c⟩ :: bs) L) (hg:W0.heap.size≤g) (hd : ∀ b∈bs,b.g≠g) (s':Bool) (v:Value) :
  Env t W0 ((w.setCell ⟨g,0,none⟩ (.bool s')).setCell ⟨g,1,none⟩ v) (⟨g,.bool s',v⟩ :: bs) L :=
 ⟨fun e he=>(h.ops e he).put (h.box _ (.head _)) s' v,fun b hb=>by
  rcases List.mem_cons.1 hb with rfl | hb
  ·exact (h.box _ (.head _)).put _ _
  ·exact ((h.box b (.tail _ hb)).far (p:=⟨g,0,none⟩) (hd b hb) _).far (p:=⟨g,1,none⟩) (hd b hb) _,
  (h.below.setCell (p:=⟨g,0,none⟩) hg _).setCell (p:=⟨g,1,none⟩) hg _⟩
theorem Env.swap {t:TypeId} {W0 w:World} {b1 b2:Bx} {bs:List Bx} {L:List En} (h:Env t W0 w (b1 :: b2 :: bs) L):Env t W0 w (b2 :: b1 :: bs) L :=
 ⟨h.ops,fun b hb=>h.box b (by
  rcases List.mem_cons.1 hb with rfl | hb
  ·exact .tail _ (.head _)
  ·rcases List.mem_cons.1 hb with rfl | hb
   ·exact .head _
   ·exact .tail _ (.tail _ hb)),h.below⟩
theorem Env.aGb {t:TypeId} {W0 w:World} {b:Bx} {bs:List Bx} {L:List En} (h:Env t W0 w (b :: bs) L):Env t W0 w bs L:=⟨h.ops,fun b' hb=>h.box b' (.tail _ hb),h.below⟩
theorem Env.top {t:TypeId} {W0 w:World} {g:Nat} {x y:Value} {bs:List Bx} {L:List En} (h:Env t W0 w (⟨g,x,y⟩ :: bs) L) :
  w.cell? ⟨g,0,none⟩=some x∧w.cell? ⟨g,1,none⟩=some y∧w.frozen? ⟨g,0,none⟩=false∧w.frozen? ⟨g,1,none⟩=false:=(h.box _ (.head _)).facts
end Lw
namespace Go.Proofs.YtbihljnjaondcaaGreatDoor
open Go Go.RowKit Lw
set_option maxRecDepth 100000 in
set_option maxHeartbeats 800000 in
theorem aBy (w:World):Calls Tryz.prog 20 #[.nilIface] w fun e w'=>e = .returned (.int .i64 0)∧w=w':=by
 go_enter Tryz.func20,Tryz.ntmps20
 go_wp2
 go_ret
 exact ⟨rfl,rfl⟩
end Go.Proofs.YtbihljnjaondcaaGreatDoor
namespace Lw
theorem Zf (a:Rat):(-a).num = -a.num∧(-a).den=a.den:=⟨rfl,rfl⟩
theorem aDK {n:Int} {d g:Nat} (h1 h2 h3 h4):(Rat.maybeNormalize n d g h1 h2 h3 h4).num=n / (g:Int)∧(Rat.maybeNormalize n d g h1 h2 h3 h4).den=d / g:=by
 unfold Rat.maybeNormalize
 split
 ·rename_i h
  subst h
  exact ⟨(Int.ediv_one _).symm,(Nat.div_one _).symm⟩
 ·exact ⟨Int.divExact_eq_ediv h1,Nat.divExact_eq_div h2⟩
theorem aDG (a b:Rat) (g g1:Nat) (hg:g=a.den.gcd b.den) (hg1:g1=(a.num*((b.den / g:Nat):Int)+b.num*((a.den / g:Nat):Int)).natAbs.gcd g) :
  (a+b).num=(a.num*((b.den / g:Nat):Int)+b.num*((a.den / g:Nat):Int)) / (g1:Int)∧(a+b).den=(a.den / g)*(b.den / g1):=by
 show (Rat.add a b).num=_∧(Rat.add a b).den=_
 unfold Rat.add
 simp only []
 split
 ·rename_i h
  rw [← hg] at h
  rw [h] at hg1 ⊢
  rw [Nat.gcd_one_right] at hg1
  subst hg1
  simp only [Nat.div_one]
  exact ⟨by simp,trivial⟩
 ·rename_i h
  have hm:=aDK (n:=a.num*((b.den / a.den.gcd b.den:Nat):Int)+b.num*((a.den / a.den.gcd b.den:Nat):Int)) (d:=a.den / a.den.gcd b.den*b.den)
   (g:=(a.num*((b.den / a.den.gcd b.den:Nat):Int)+b.num*((a.den / a.den.gcd b.den:Nat):Int)).natAbs.gcd (a.den.gcd b.den))
  subst hg
  subst hg1
  have hd : ∀ t:Nat,(t.gcd (a.den.gcd b.den)) ∣ b.den:=fun t=>Nat.dvd_trans (Nat.gcd_dvd_right t _) (Nat.gcd_dvd_right _ _)
  refine ⟨(hm _ _ _ _).1,?_⟩
  rw [(hm _ _ _ _).2,Nat.mul_div_assoc _ (hd _)]
theorem aDL (a b:Rat) (g h:Nat) (hg:g=a.num.natAbs.gcd b.den) (hh:h=b.num.natAbs.gcd a.den) :
  (a*b).num=(a.num / (g:Int))*(b.num / (h:Int))∧(a*b).den=(a.den / h)*(b.den / g):=by
 show (Rat.mul a b).num=_∧(Rat.mul a b).den=_
 unfold Rat.mul
 subst hg hh
 simp only [Int.divExact_eq_ediv,Nat.divExact_eq_div]
 exact ⟨trivial,trivial⟩
end Lw
namespace Lw
open Go
def tz (x:Nat):Nat:=Lib.ctz 64 x
theorem aeO {x:Nat} (h0:x≠0) (h:x < 18446744073709551616) : ∃ m,x=2 ^ tz x*(2*m+1)∧tz x < 64:=by
 unfold tz Lib.ctz
 rw [if_neg h0]
 exact Lib.ctzFrom_spec 64 x (by omega) h
theorem Y6 (m k:Nat):Nat.Coprime (2 ^ k) (2*m+1):=by
 apply Nat.Coprime.pow_left
 unfold Nat.Coprime
 rw [Nat.gcd_rec,show (2*m+1) % 2=1 by omega]
 rfl
theorem aiC {j k m:Nat} (h:2 ^ j ∣ 2 ^ k*(2*m+1)):j≤k:=by
 have h1:2 ^ j ∣ 2 ^ k:=Nat.Coprime.dvd_of_dvd_mul_right (Y6 m j) h
 exact (Nat.pow_dvd_pow_iff_le_right (by omega)).1 h1
theorem apB {j x y:Nat} : 2 ^ j ∣ (x ||| y)↔2 ^ j ∣ x∧2 ^ j ∣ y:=by
 rw [Nat.dvd_iff_mod_eq_zero,Nat.dvd_iff_mod_eq_zero,Nat.dvd_iff_mod_eq_zero,Nat.or_mod_two_pow,Nat.or_eq_zero_iff]
theorem ar5 {x m:Nat} (h:x=2 ^ tz x*(2*m+1)):x / 2 ^ tz x=2*m+1:=by
 have hp:0 < 2 ^ tz x:=Nat.pow_pos (by omega)
 generalize 2 ^ tz x=P at *
 rw [h,Nat.mul_div_cancel_left _ hp]
theorem azc {x y:Nat} (hx:x≠0) (hy:y≠0) (hxl:x < 18446744073709551616) (hyl:y < 18446744073709551616) :
  Nat.gcd x y=Nat.gcd (x / 2 ^ tz x) y*2 ^ tz (x ||| y)∧(x / 2 ^ tz x) % 2=1∧tz x < 64∧tz (x ||| y) < 64∧x ||| y < 18446744073709551616:=by
 have ho:x ||| y≠0:=fun e=>hx (Nat.or_eq_zero_iff.1 e).1
 have hol:x ||| y < 18446744073709551616:=Nat.or_lt_two_pow (n:=64) hxl hyl
 obtain ⟨a,ha,hal⟩:=aeO hx hxl
 obtain ⟨b,hb,hbl⟩:=aeO hy hyl
 obtain ⟨c,hc,hcl⟩:=aeO ho hol
 have e1:=ar5 ha
 have hd:2 ^ tz (x ||| y) ∣ (x ||| y):=⟨_,hc⟩
 obtain ⟨d1,d2⟩:=apB.1 hd
 have l1:tz (x ||| y)≤tz x:=aiC (m:=a) (by rw [← ha]; exact d1)
 have l2:tz (x ||| y)≤tz y:=aiC (m:=b) (by rw [← hb]; exact d2)
 have l3:¬ (tz (x ||| y)+1≤tz x∧tz (x ||| y)+1≤tz y):=by
  rintro ⟨k1,k2⟩
  have f1:2 ^ (tz (x ||| y)+1) ∣ x:=Nat.dvd_trans (Nat.pow_dvd_pow 2 k1) ⟨_,ha⟩
  have f2:2 ^ (tz (x ||| y)+1) ∣ y:=Nat.dvd_trans (Nat.pow_dvd_pow 2 k2) ⟨_,hb⟩
  have:=aiC (m:=c) (j:=tz (x ||| y)+1) (k:=tz (x ||| y)) (by rw [← hc]; exact apB.2 ⟨f1,f2⟩)
  omega
 refine ⟨?_,by rw [e1]; omega,hal,hcl,hol⟩
 rw [e1]
 generalize tz (x ||| y)=t at *
 clear hd d1 d2 e1 hc ho hol
 generalize tz x=i at *
 generalize tz y=j at *
 subst ha hb
 rw [Nat.Coprime.gcd_mul_left_cancel_right _ (Y6 a j)]
 rcases Nat.lt_or_ge t i with h1 | h1
 ·obtain rfl:j=t:=by omega
  obtain ⟨k,rfl⟩:=Nat.exists_eq_add_of_le l1
  rw [Nat.pow_add,Nat.mul_assoc,Nat.gcd_mul_left,Nat.mul_comm]
  congr 1
  exact Nat.Coprime.gcd_mul_left_cancel _ (Y6 b k)
 ·obtain rfl:i=t:=by omega
  obtain ⟨k,rfl⟩:=Nat.exists_eq_add_of_le l2
  rw [Nat.pow_add,Nat.mul_assoc,Nat.gcd_mul_left,Nat.mul_comm]
  congr 1
  exact Nat.Coprime.gcd_mul_left_cancel_right _ (Y6 a k)
theorem aBA {x:Nat} (h:x % 2=1):x=2*(x / 2)+1:=by omega
theorem azb {x y:Nat} (hx:x % 2=1) (hy:y≠0) (hyl:y < 18446744073709551616) :
  Nat.gcd x (y / 2 ^ tz y)=Nat.gcd x y∧(y / 2 ^ tz y) % 2=1∧y / 2 ^ tz y≤y∧tz y < 64:=by
 obtain ⟨b,hb,hbl⟩:=aeO hy hyl
 have e:=ar5 hb
 refine ⟨?_,by rw [e]; omega,Nat.div_le_self _ _,hbl⟩
 rw [e]
 conv=>rhs; rw [hb]
 rw [aBA hx,Nat.Coprime.gcd_mul_left_cancel_right _ (Y6 _ _)]
theorem am5 {x y:Nat} (h:x≤y):Nat.gcd x (y - x)=Nat.gcd x y:=Nat.gcd_sub_self_right h
end Lw
namespace Lw
theorem ahj {n d:Int} (hd:0 < d):(Rat.divInt n d).num.natAbs≤n.natAbs∧(Rat.divInt n d).den≤d.natAbs:=by
 constructor
 ·rw [Rat.num_divInt,Int.sign_eq_one_of_pos hd,Int.one_mul]; exact Int.natAbs_ediv_le_natAbs _ _
 ·rw [Rat.den_divInt,if_neg (by omega)]; exact Nat.div_le_self _ _
theorem den_pos (a:Rat):(0:Int) < (a.den:Int):=by have:=a.den_pos; omega
theorem tJ (a:Rat):(a.den:Int)≠0:=by have:=den_pos a; omega
theorem agU (a b:Rat):a+b=Rat.divInt (a.num*b.den+b.num*a.den) (a.den*b.den):=by
 conv=>lhs; rw [← Rat.num_divInt_den a,← Rat.num_divInt_den b]
 rw [Rat.divInt_add_divInt _ _ (tJ a) (tJ b)]
theorem ais (a b:Rat):a*b=Rat.divInt (a.num*b.num) (a.den*b.den):=by
 conv=>lhs; rw [← Rat.num_divInt_den a,← Rat.num_divInt_den b]
 rw [Rat.divInt_mul_divInt]
theorem aw6 (a b:Rat):(a+b).num.natAbs≤a.num.natAbs*b.den+b.num.natAbs*a.den∧(a+b).den≤a.den*b.den:=by
 have h:=ahj (n:=a.num*b.den+b.num*a.den) (Int.mul_pos (den_pos a) (den_pos b))
 rw [← agU,Int.natAbs_mul,Int.natAbs_natCast,Int.natAbs_natCast] at h
 refine ⟨Nat.le_trans h.1 (Nat.le_trans (Int.natAbs_add_le _ _) ?_),h.2⟩
 rw [Int.natAbs_mul,Int.natAbs_mul,Int.natAbs_natCast,Int.natAbs_natCast]
 exact Nat.le_refl _
theorem aBd (a b:Rat):(a*b).num.natAbs≤a.num.natAbs*b.num.natAbs∧(a*b).den≤a.den*b.den:=by
 have h:=ahj (n:=a.num*b.num) (Int.mul_pos (den_pos a) (den_pos b))
 rw [← ais,Int.natAbs_mul,Int.natAbs_mul,Int.natAbs_natCast,Int.natAbs_natCast] at h
 exact h
theorem aw9 (a b:Rat) {g D E S g1:Int} (hg:g=(Nat.gcd a.den b.den:Nat)) (hD:D=(a.den:Int) / g) (hE:E=(b.den:Int) / g) (hS:S=a.num*E+b.num*D) (hg1:g1=(Nat.gcd S.natAbs g.natAbs:Nat)) :
  (a+b).num=S / g1∧((a+b).den:Int)=D*((b.den:Int) / g1)∧g≠0∧g1≠0:=by
 have I8:0 < Nat.gcd a.den b.den:=Nat.gcd_pos_of_pos_left _ a.den_pos
 have h:=aDG a b _ _ rfl rfl
 obtain ⟨G,hG⟩ : ∃ G,G=Nat.gcd a.den b.den:=⟨_,rfl⟩
 rw [← hG] at h hg I8
 subst hg
 rw [← Int.natCast_ediv] at hD hE
 subst hD hE hS
 rw [Int.natAbs_natCast] at hg1
 subst hg1
 refine ⟨h.1,?_,by omega,?_⟩
 ·rw [h.2,Int.natCast_mul,Int.natCast_ediv,Int.natCast_ediv]
 ·have:=Nat.gcd_pos_of_pos_right (a.num*((b.den / G:Nat):Int)+b.num*((a.den / G:Nat):Int)).natAbs I8
  omega
theorem aBf (a b:Rat) {g h:Int} (hg:g=(Nat.gcd a.num.natAbs b.den:Nat)) (hh:h=(Nat.gcd b.num.natAbs a.den:Nat)) :
  (a*b).num=(a.num / g)*(b.num / h)∧((a*b).den:Int)=((a.den:Int) / h)*((b.den:Int) / g)∧g≠0∧h≠0:=by
 have h1:=aDL a b _ _ rfl rfl
 have p1:0 < Nat.gcd a.num.natAbs b.den:=Nat.gcd_pos_of_pos_right _ b.den_pos
 have p2:0 < Nat.gcd b.num.natAbs a.den:=Nat.gcd_pos_of_pos_right _ a.den_pos
 subst hg hh
 refine ⟨h1.1,?_,by omega,by omega⟩
 rw [h1.2,Int.natCast_mul,Int.natCast_ediv,Int.natCast_ediv]
theorem aja {n d g:Int} (hd:0 < d) (hg:g=(Nat.gcd n.natAbs d.natAbs:Nat)):(Rat.divInt n d).num=n / g∧((Rat.divInt n d).den:Int)=d / g∧g≠0:=by
 have p1:0 < Nat.gcd n.natAbs d.natAbs:=Nat.gcd_pos_of_pos_right _ (by omega)
 have e:Int.gcd d n=Nat.gcd n.natAbs d.natAbs:=Int.gcd_comm d n
 subst hg
 refine ⟨?_,?_,by omega⟩
 ·rw [Rat.num_divInt,Int.sign_eq_one_of_pos hd,Int.one_mul,e]
 ·rw [Rat.den_divInt,if_neg (by omega),e,Int.natCast_ediv,Int.natAbs_of_nonneg (by omega)]
def qF (a b:Rat):Int:=if a < b then -1 else if b < a then 1 else 0
def nM (a:Rat):Int:=if a < 0 then -1 else if 0 < a then 1 else 0
end Lw
namespace Lw
theorem Ut {a b:Rat} (h:a < b):qF a b = -1:=by unfold qF; rw [if_pos h]
theorem Us {a b:Rat} (h:b < a):qF a b=1:=by
 unfold qF; rw [if_neg (Rat.not_lt.2 (Rat.le_of_lt h)),if_pos h]
theorem ag9 (a:Rat):qF a a=0:=by unfold qF; rw [if_neg Rat.lt_irrefl,if_neg Rat.lt_irrefl]
theorem tri (a b:Rat):a < b∨a=b∨b < a:=by
 by_cases h1:a < b
 ·exact .inl h1
 ·by_cases h2:b < a
  ·exact .inr (.inr h2)
  ·exact .inr (.inl (Rat.le_antisymm (Rat.not_lt.1 h2) (Rat.not_lt.1 h1)))
theorem al9 {a b:Rat} : qF a b=0↔a=b:=by
 rcases tri a b with h | h | h
 ·rw [Ut h]; exact ⟨fun e=>by simp at e,fun e=>by subst e; exact absurd h Rat.lt_irrefl⟩
 ·subst h; exact ⟨fun _=>rfl,fun _=>ag9 a⟩
 ·rw [Us h]; exact ⟨fun e=>by simp at e,fun e=>by subst e; exact absurd h Rat.lt_irrefl⟩
theorem arV {a:Rat} (h:a < 0):nM a = -1:=by unfold nM; rw [if_pos h]
theorem ajs:nM 0=0:=by unfold nM; rw [if_neg Rat.lt_irrefl,if_neg Rat.lt_irrefl]
theorem arX {a:Rat} (h:0 < a):nM a=1:=by unfold nM; rw [if_neg (Rat.not_lt.2 (Rat.le_of_lt h)),if_pos h]
theorem axL (a b:Rat):qF a b=if a.num*b.den < b.num*a.den then -1 else if a.num*b.den=b.num*a.den then 0 else 1:=by
 rcases tri a b with h | h | h
 ·rw [Ut h,if_pos ((Rat.lt_iff a b).1 h)]
 ·subst h; rw [ag9,if_neg (by omega),if_pos rfl]
 ·have h2:=(Rat.lt_iff b a).1 h
  rw [Us h,if_neg (by omega),if_neg (by omega)]
theorem adT {a:Rat} : a.num < 0↔a < 0:=by
 have:=Rat.lt_iff a 0
 rw [show (0:Rat).num=0 from rfl,show (0:Rat).den=1 from rfl] at this
 rw [this]; simp
theorem arW (a:Rat):nM a=if a.num < 0 then -1 else if a.num=0 then 0 else 1:=by
 rcases tri a 0 with h | h | h
 ·rw [arV h,if_pos (adT.2 h)]
 ·subst h; rw [ajs]; rfl
 ·have h1:¬ a.num < 0:=fun e=>absurd h (Rat.not_lt.2 (Rat.le_of_lt (adT.1 e)))
  have h2:a.num≠0:=fun e=>by rw [Rat.num_eq_zero] at e; subst e; exact Rat.lt_irrefl h
  rw [arX h,if_neg h1,if_neg h2]
theorem aFK (a:Rat):nM (a + -a)=0:=by rw [Rat.add_neg_cancel,ajs]
end Lw
