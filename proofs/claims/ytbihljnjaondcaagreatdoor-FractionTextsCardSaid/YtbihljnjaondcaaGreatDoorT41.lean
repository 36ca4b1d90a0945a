/- Part of a proof, said shortly. -/
import Derived.Deep.RegionWith
import Derived.Test.YtbihljnjaondcaaGreatDoorAlt
import Derived.Test.YtbihljnjaondcaaGreatDoorT40
import Derived.Test.YtbihljnjaondcaaGreatDoorT31
import Derived.Test.YtbihljnjaondcaaGreatDoorT34
import Derived.Test.YtbihljnjaondcaaGreatDoorT29
import Derived.Test.YtbihljnjaondcaaGreatDoorT28
import Derived.Test.YtbihljnjaondcaaGreatDoorT26
import Derived.Test.YtbihljnjaondcaaGreatDoorT25
import Derived.Test.YtbihljnjaondcaaGreatDoorT24
import Derived.Test.YtbihljnjaondcaaGreatDoorT23
import Derived.Test.YtbihljnjaondcaaGreatDoorT22
import Derived.Test.YtbihljnjaondcaaGreatDoorT21
import Derived.Test.YtbihljnjaondcaaGreatDoorT20
import Derived.Test.YtbihljnjaondcaaGreatDoorT14
import Derived.Test.YtbihljnjaondcaaGreatDoorT4
import Derived.Test.YtbihljnjaondcaaGreatDoorT3
import Derived.Test.YtbihljnjaondcaaGreatDoorT2
import Derived.Test.YtbihljnjaondcaaGreatDoorT1
import Derived.Test.YtbihljnjaondcaaGreatDoorT13
import Derived.Test.YtbihljnjaondcaaGreatDoorT9
import Derived.Test.YtbihljnjaondcaaGreatDoorT8
import Derived.Test.YtbihljnjaondcaaGreatDoorT6
import Derived.Test.YtbihljnjaondcaaGreatDoorT5
import Derived.Test.YtbihljnjaondcaaGreatDoorT7
import Derived.Test.YtbihljnjaondcaaGreatDoorT19
import Derived.Test.YtbihljnjaondcaaGreatDoorT18
import Derived.Test.YtbihljnjaondcaaGreatDoorT16
import Derived.Test.YtbihljnjaondcaaGreatDoorT15
import Derived.Test.YtbihljnjaondcaaGreatDoorT17
import Derived.Test.YtbihljnjaondcaaGreatDoorT10
import Derived.Test.YtbihljnjaondcaaGreatDoorT11
import Derived.Test.YtbihljnjaondcaaGreatDoorT12
import Derived.Test.YtbihljnjaondcaaGreatDoorT27
import Derived.Test.YtbihljnjaondcaaGreatDoorT39
import Derived.Test.YtbihljnjaondcaaGreatDoorT38
import Derived.Test.YtbihljnjaondcaaGreatDoorT35
import Derived.Test.YtbihljnjaondcaaGreatDoorT37
import Derived.Test.YtbihljnjaondcaaGreatDoorT36
import Derived.Test.YtbihljnjaondcaaGreatDoorT32
set_option maxRecDepth 100000
open Go.Proofs.YtbihljnjaondcaaGreatDoor (btT btU btV btW abe abd bq6 bq5 iy0)
set_option linter.unusedVariables false
set_option linter.unusedSimpArgs false
namespace acY
open Go Go.RowKit
theorem St.alm {W0 w:World} {U U':List Box} {Ps Ps':List (World→Prop)} {P:World→Prop} (HS:St W0 U' (P :: Ps') w) (n m:Nat) (hU:U'.drop n=U) (hP:Ps'.drop m=Ps):St W0 U (P :: Ps) w:=HS.out n (m+1) 0 hU (by simpa using hP) rfl (fun _ h=>h)
end acY
namespace Lw
open Go Go.RowKit acY
def FW (v:Value) (ns:List Nat) (w:World):Prop := ∃ (A:Option Addr) (n c:Nat),v = .slice A n c∧Rd w w.heap.size A ns∧ns.length=n∧n≤c
theorem FW.stable (v:Value) (ns:List Nat):Stable (FW v ns):=fun gs w w' ha h=>by
 obtain ⟨A,n,c,h1,h2,h3⟩:=h
 exact ⟨A,n,c,h1,h2.keeps ha,h3⟩
theorem FW.rd {A:Option Addr} {n c:Nat} {ns:List Nat} {w:World} (h:FW (.slice A n c) ns w):Rd w w.heap.size A ns∧ns.length=n∧n≤c:=by
 obtain ⟨A',n',c',h1,h2⟩:=h
 injection h1 with e1 e2 e3
 subst e1 e2 e3
 exact h2
section
variable {s:Bool} {A B:Option Addr} {n c m d k:Nat} {q:Rat} {w:World}
theorem FV.neg (h:FV (btT s A n c B m d) q k true w):s=rs q:=(Fop.own h).1
theorem FV.nz (h:FV (btT s A n c B m d) q k true w):n=0↔q=0:=a3r (Fop.own h).2.1
theorem FV.num (h:FV (btT s A n c B m d) q k true w):FW (.slice A n c) (rn q) w:=by
 obtain ⟨_,h2,_,h4,_,_,_,h8,_⟩:=Fop.own h
 exact ⟨A,n,c,rfl,h4,h2.symm,h8⟩
theorem FV.den (h:FV (btT s A n c B m d) q k true w):FW (.slice B m d) (rd q) w:=by
 obtain ⟨_,_,h3,_,h5,_,_,_,h9⟩:=Fop.own h
 exact ⟨B,m,d,rfl,h5,h3.symm,h9⟩
theorem FV.mk (hs:s=rs q) (h1:FW (.slice A n c) (rn q) w) (h2:FW (.slice B m d) (rd q) w) (hn:n≤k) (hm:m≤k):FV (btT s A n c B m d) q k true w:=by
 obtain ⟨a1,a2,a3⟩:=h1.rd
 obtain ⟨b1,b2,b3⟩:=h2.rd
 subst hs a2 b2
 exact Go.Proofs.YtbihljnjaondcaaGreatDoor.baB a1 b1 hn hm a3 b3
theorem FV.bad {b:Bool} (h:FV (btT s A n c B m d) q k b w) (hb:b=false):q=0:=by
 obtain ⟨s',A1,n1,c1,A2,n2,c2,ns,ms,h1,h2,h3,h4,h5,h6,h7,h8,h9,h10,h11⟩:=h
 dsimp only at h10 h11
 subst hb
 unfold qv at h10
 rw [h11] at h10
 simpa using h10.symm
end
theorem bhC {x y:Int} : ahw x y≤0↔x≤y:=by
 unfold ahw
 split
 ·constructor <;> intro <;> omega
 ·split <;> constructor <;> intro <;> omega
theorem a9s (x y:Int):decide (ahw x y≤0)=decide (x≤y):=by rw [decide_eq_decide]; exact bhC
theorem bhJ (x y:Int):(ahw x y==0)=decide (x=y):=by
 rw [Bool.eq_iff_iff,beq_iff_eq,decide_eq_true_iff]; unfold ahw
 split
 ·constructor <;> intro <;> omega
 ·split <;> constructor <;> intro <;> omega
section
variable {P:Program} {ops:Array Oper} {Q:Exit→Act→World→Prop} {N d:Nat} {T:List (Nat×Value)} {W0 w:World} {U:List Box} {Ps:List (World→Prop)} {rest:List Oper}
theorem JL.words {t e:TypeId} {len:Nat} {l:List (Nat×Operand)} {ps:List (Nat×Value)} {z:Value} {ns:List Nat} {ty:TypeId} {pos:String} {aft:Array Edge} (HS:St W0 U Ps w) (hN:Nat.ble (d+1) N=true) (hl : ∀ a,Kn a N T→l.map (fun p=>(p.1,a.eval p.2))=ps)
  (hu : ∀ w,(underlying t).run P w = .ok (.slice e) w) (hs : ∀ w,(Go.sizeOf e).run P w = .ok 1 w) (hz : ∀ w,(zeroValue e).run P w = .ok z w) (hb:Nat.ble (len*1) (2 ^ 24)=true) (h0:(len*1==0)=false)
  (hf:Instr.fill (fun i=>some (i*1,1)) ((Array.range (len*1)).map (z.cells[· % z.cells.size]!)) ps=some (arr ns).toArray) (hw:Wds ns) (hn:ns.length=len)
  (h : ∀ g w',St W0 U (FW (.slice (some ⟨g,0,none⟩) len len) ns :: Ps) w'→JL P ops Q rest N ((d,.slice (some ⟨g,0,none⟩) len len) :: T) w'):JL P ops Q (⟨some d,.buildSlice t len l.toArray,ty,pos,aft,none⟩ :: rest) N T w :=
 JL.val rfl rfl hN (fun a ha=>run_buildSlice (hl a ha) hu hs hz hb h0 hf) (h _ _ ((HS.next ((Below.refl _ w).alloc (Nat.le_refl _) _)).add (FW.stable _ _) ⟨_,_,_,rfl,(Blk.new w e ns).rd hw,hn,Nat.le_refl _⟩))
end
end Lw
namespace Go.Proofs.YtbihljnjaondcaaGreatDoor
open Go Go.RowKit Lw acY
section
variable {W0 w:World} {U:List Box} {Ps:List (World→Prop)}
theorem ahx (w:World):Sem.run Tryz.prog (Array.mapM (fun (f:Go.Field)=>Prod.mk f.offset <$> Go.sizeOf f.type) #[{ name := "Neg",type:=4,offset:=0,embedded:=false,tag := "",pkgPath := "",byteOffset:=0 },{ name := "Num",type:=22,offset:=1,embedded:=false,tag := "",pkgPath := "",byteOffset:=8 },{ name := "Den",type:=22,offset:=2,embedded:=false,tag := "",pkgPath := "",byteOffset:=32 }]) w = .ok #[(0,1),(1,1),(2,1)] w:=by kernel_rfl
end
end Go.Proofs.YtbihljnjaondcaaGreatDoor
