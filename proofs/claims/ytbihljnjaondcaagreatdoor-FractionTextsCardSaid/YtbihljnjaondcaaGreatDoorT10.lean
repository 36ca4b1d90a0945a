/- Part of a proof, said shortly. -/
import Derived.Deep.RegionWith
import Derived.Deep.DeepCutAuto
import Derived.Test.YtbihljnjaondcaaGreatDoorAlt
import Derived.Test.YtbihljnjaondcaaGreatDoorT8
import Derived.Test.YtbihljnjaondcaaGreatDoorT6
import Derived.Test.YtbihljnjaondcaaGreatDoorT4
import Derived.Test.YtbihljnjaondcaaGreatDoorT3
import Derived.Test.YtbihljnjaondcaaGreatDoorT2
import Derived.Test.YtbihljnjaondcaaGreatDoorT1
import Derived.Test.YtbihljnjaondcaaGreatDoorT5
import Derived.Test.YtbihljnjaondcaaGreatDoorT7
namespace Go.Proofs.YtbihljnjaondcaaGreatDoor
open Go Go.RowKit Lw
set_option maxHeartbeats 1600000 in
theorem beO (A:Option Addr) (N n c B:Nat) (w:World) (h:Rd w B A (Uy N)) (_hB:B≤w.heap.size) (hn:(Uy N).length=n) (hl:n≤2) :
  Calls Tryz.prog 213 #[.slice A n c] w (as8 w (rt N)):=by
 have HL:Hid (lo (Uy N) 2=N):=Lib.hid (by rw [acm (by rw [hn]; exact hl),aar])
 have hN2:N≤18446744073709551615:=by have:=awx (n:=N) (k:=2) (by rw [hn]; exact hl); have h3:pw 2=18446744073709551616:=rfl; omega
 have Hn:=Lib.hid hn
 clear hn
 have hrl:rt N≤18446744073709551615:=by
  have:=a3Y N
  rcases Nat.eq_zero_or_pos (rt N) with h0 | h0
  ·omega
  ·have:=Nat.mul_le_mul_left (rt N) h0; omega
 have HRL:=Lib.hid hrl
 clear hrl
 go_enter Tryz.func213,Tryz.ntmps213
 go_wp2_with fail
 refine (a3o A (Uy N) _ c B _ h Hn.out (by omega)).mono ?_
 rintro e w2 ⟨rfl,rfl⟩
 rw [HL.out]
 go_wp2_with fail
 refine (bnT N _ hN2).mono ?_
 rintro e w3 ⟨rfl,rfl⟩
 go_wp2_with fail
 refine (a2C (rt N) _ HRL.out).mono ?_
 rintro e w5 ⟨A5,c5,rfl,hc5,hr5,hb5⟩
 go_wp2_with fail
 go_ret
 exact ⟨A5,c5,rfl,hc5,hr5,hb5⟩
end Go.Proofs.YtbihljnjaondcaaGreatDoor
namespace Go.Proofs.YtbihljnjaondcaaGreatDoor
open Go Go.RowKit Lw
def a9k:Prop := ∀ (A:Option Addr) (N n c B:Nat) (w:World),Rd w B A (Uy N)→B≤w.heap.size→(Uy N).length=n→n≤8388608→n≤c →
 Calls Tryz.prog 213 #[.slice A n c] w (as8 w (rt N))
theorem bng (A:Option Addr) (N n c B:Nat) (w:World) (h:Rd w B A (Uy N)) (hB:B≤w.heap.size) (hn:(Uy N).length=n) (hl:n≤8388608) (hc:n≤c) (HR:n≤2∨a9k) :
  Calls Tryz.prog 213 #[.slice A n c] w (as8 w (rt N)):=by
 rcases HR with HR | HR
 ·exact beO A N n c B w h hB hn HR
 ·exact HR A N n c B w h hB hn hl hc
set_option maxHeartbeats 1600000 in
theorem bni (s:Bool) (A:Option Addr) (ns:List Nat) (n c B:Nat) (w:World) (h:Rd w B A ns) (hB:B≤w.heap.size) (hn:ns.length=n) (hl:n≤8388608) (hc:n≤c) (hz:zv s ns < 0) :
  Calls Tryz.prog 158 #[.agg #[.bool s,.slice A n c]] w fun e w'=>e = .returned (.tuple #[.agg #[.bool false,.slice none 0 0],.iface 74 (.int .i64 3)])∧Below w.heap.size w w':=by
 have hlz:=ate (s:=s) h.wds
 rw [hn] at hlz
 have hsg:sg (zv s ns)=true:=by unfold sg; simpa using hz
 have hk:=fun W hR hB'=>azk s A ns n c B W hR hB' hn (by omega) hc
 generalize zv s ns=z at *
 have Hk:=Lib.hid hk
 clear hk hz
 go_enter Tryz.func158,Tryz.ntmps158
 go_wp2_with fail
 refine (Hk.out _ ((h.alloc hB _).alloc (by simp; omega) _) (by simp; omega)).mono ?_
 rintro e w1 ⟨A1,c1,rfl,hc1,hr1,hb1⟩
 obtain ⟨t1,t2,hs1,hb2⟩:=abb hb1
 obtain ⟨c10,c11,f10,f11⟩:=t1.facts
 obtain ⟨c20,c21,f20,f21⟩:=t2.facts
 go_wp2_with fail
 refine bodyPost_ret (v := .tuple #[.agg #[.bool false,.slice none 0 0],.iface 74 (.int .i64 3)]) (by simp [results,Tryz.results158,go_sem,c20,c21]) rfl ?_
 exact ⟨rfl,(((hb2.setCell (by simp) _).setCell (by simp) _).setCell (by simp) _).setCell (by simp) _⟩
def a5S (w:World) (z:Int) (e:Ending) (w':World):Prop :=
 ∃ A c,e = .returned (.tuple #[.agg #[.bool (sg z),.slice A (mg z).length c],.nilIface])∧(mg z).length≤c∧Rd w' w'.heap.size A (mg z)∧Below w.heap.size w w'
set_option maxHeartbeats 1600000 in
theorem bnj (s:Bool) (A:Option Addr) (ns:List Nat) (n c B:Nat) (w:World) (h:Rd w B A ns) (hB:B≤w.heap.size) (hn:ns.length=n) (hl:n≤8388608) (hc:n≤c) (hz:0≤zv s ns) (HR:n≤2∨a9k) :
  Calls Tryz.prog 158 #[.agg #[.bool s,.slice A n c]] w (a5S w ((rt (zv s ns).natAbs:Nat):Int)):=by
 have hlz:=ate (s:=s) h.wds
 rw [hn] at hlz
 have hsg:sg (zv s ns)=false:=by unfold sg; simpa using hz
 have hk:=fun W hR hB'=>azk s A ns n c B W hR hB' hn (by omega) hc
 generalize zv s ns=z at *
 have Hk:=Lib.hid hk
 have HRH:=Lib.hid HR
 clear hk hz HR
 go_enter Tryz.func158,Tryz.ntmps158
 go_wp2_with fail
 refine (Hk.out _ ((h.alloc hB _).alloc (by simp; omega) _) (by simp; omega)).mono ?_
 rintro e w1 ⟨A1,c1,rfl,hc1,hr1,hb1⟩
 obtain ⟨t1,t2,hs1,hb2⟩:=abb hb1
 have T2:=(t2.far (p:=⟨w.heap.size,0,none⟩) (by simp) (.bool (sg z))).far (p:=⟨w.heap.size,1,none⟩) (by simp) (.slice A1 (mg z).length c1)
 have R1:=hr1.ak' t1 (sg z) (.slice A1 (mg z).length c1)
 have hb3:=(hb2.setCell (p:=⟨w.heap.size,0,none⟩) (Nat.le_refl _) (.bool (sg z))).setCell (p:=⟨w.heap.size,1,none⟩) (Nat.le_refl _) (.slice A1 (mg z).length c1)
 obtain ⟨c10,c11,f10,f11⟩:=t1.facts
 obtain ⟨c20,c21,f20,f21⟩:=t2.facts
 rw [hsg] at T2 R1 hb3
 go_wp2_with fail
 refine (bng A1 z.natAbs _ c1 B _ R1 (by have:=hb3.size; omega) rfl (Nat.le_trans hlz hl) hc1 (HRH.out.imp (fun h=>Nat.le_trans hlz h) id)).mono ?_
 rintro e w2 ⟨A2,c2,rfl,hc2,hr2,hb4⟩
 have U2:=T2.next hb4
 generalize rt z.natAbs=G at *
 go_wp2_with fail
 refine (atd false A2 G _ c2 _ (G:Int) _ hr2 (Nat.le_refl _) rfl hc2 rfl).mono ?_
 rintro e w4 ⟨A4,c4,rfl,hc4,hr4,hb5⟩
 have V2:=U2.next hb5
 obtain ⟨d0,d1,g0,g1⟩:=V2.facts
 have hsz3:=hb3.size
 have a7N:=hb4.size
 go_wp2_with fail
 refine bodyPost_ret (v := .tuple #[.agg #[.bool (sg (G:Int)),.slice A4 (mg (G:Int)).length c4],.nilIface]) (by simp [results,Tryz.results158,go_sem,d0,d1]) rfl ?_
 obtain ⟨A5,c5,he,h1,h2,h3⟩:=alf V2 hr4 hb5.size hc4 (aaR (aaR hb3 hb4 (Nat.le_refl _)) hb5 (Nat.le_refl _)) (by omega)
 injection he with he
 injection he with he
 simp at he
 obtain ⟨rfl,rfl⟩:=he
 exact ⟨A4,c4,rfl,h1,h2,h3⟩
end Go.Proofs.YtbihljnjaondcaaGreatDoor
