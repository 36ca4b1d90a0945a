/- Part of a proof, said shortly. -/
import Derived.Test.YtbihljnjaondcaaGreatDoorCards
import Derived.Test.YtbihljnjaondcaaGreatDoorTie
import Derived.WalkKit
import Derived.ProofKit
import Derived.OpenShut
import Derived.Carry
import Derived.Deep.DeepHandedRow
import Derived.Deep.DeepLaidRun
import Derived.Lib.LaidTab
import Derived.Lib.SmallJoins
import Derived.LaidSub
import Derived.LaidMore
import Derived.Shelf.Vars
import Derived.Test.YtbihljnjaondcaaGreatDoorAlt
import Derived.Test.YtbihljnjaondcaaGreatDoorT13
import Derived.Test.YtbihljnjaondcaaGreatDoorT9
import Derived.Test.YtbihljnjaondcaaGreatDoorT8
import Derived.Test.YtbihljnjaondcaaGreatDoorT6
import Derived.Test.YtbihljnjaondcaaGreatDoorT4
import Derived.Test.YtbihljnjaondcaaGreatDoorT3
import Derived.Test.YtbihljnjaondcaaGreatDoorT2
import Derived.Test.YtbihljnjaondcaaGreatDoorT1
import Derived.Test.YtbihljnjaondcaaGreatDoorT5
import Derived.Test.YtbihljnjaondcaaGreatDoorT7
import Derived.Test.YtbihljnjaondcaaGreatDoorT10
import Derived.Test.YtbihljnjaondcaaGreatDoorT11
import Derived.Test.YtbihljnjaondcaaGreatDoorT12
import Derived.Test.YtbihljnjaondcaaGreatDoorT29
import Derived.Test.YtbihljnjaondcaaGreatDoorT28
import Derived.Test.YtbihljnjaondcaaGreatDoorT26
import Derived.Test.YtbihljnjaondcaaGreatDoorT25
import Derived.Test.YtbihljnjaondcaaGreatDoorT24
import Derived.Test.YtbihljnjaondcaaGreatDoorT23
import Derived.Test.YtbihljnjaondcaaGreatDoorT22
import Derived.Test.YtbihljnjaondcaaGreatDoorT21
import Derived.Test.YtbihljnjaondcaaGreatDoorT20
import Derived.Test.YtbihljnjaondcaaGreatDoorT14
import Derived.Test.YtbihljnjaondcaaGreatDoorT19
import Derived.Test.YtbihljnjaondcaaGreatDoorT18
import Derived.Test.YtbihljnjaondcaaGreatDoorT16
import Derived.Test.YtbihljnjaondcaaGreatDoorT15
import Derived.Test.YtbihljnjaondcaaGreatDoorT17
import Derived.Test.YtbihljnjaondcaaGreatDoorT27
namespace Go.Proofs.YtbihljnjaondcaaGreatDoor
open Go Go.ChangeShapes Go.WideShapes Go.ChangeAt Go.RowKit Go.Joins Lw
theorem own:ownKnob Tryz.prog.godebug=none:=by kernel_rfl
theorem laidOut:laidOutB Tryz.prog=true:=by kernel_rfl
theorem cells32:Tryz.prog.cellsOf 99=1:=by kernel_rfl
theorem bhy:Tryz.prog.cellsOf 144=1:=by kernel_rfl
def a6A:List (String×DataW Unit):=[("math/bits.deBruijn32tab",Rows.laid_math_bits_deBruijn32tab),("math/bits.deBruijn64tab",Rows.laid_math_bits_deBruijn64tab),("internal/strconv.uint64pow10",Rows.laid_internal_strconv_uint64pow10)]
theorem bjj:Tryz.prog.globalNamed "internal/strconv.uint64pow10" = some 2:=by kernel_rfl
theorem bn4 {W:World} (h:laidMetH Tryz.prog a6A W):Tab W:=by
 have h1:=h.filter (fun x=>x.1 == "internal/strconv.uint64pow10")
 have e:a6A.filter (fun x=>x.1 == "internal/strconv.uint64pow10")=[("internal/strconv.uint64pow10",Lib.tabData .u64 Lib.pow10Tab)]:=by kernel_rfl
 rw [e] at h1
 exact Lib.tabIs_of_head (rest:=[]) bjj (by kernel_rfl) Tryz.underlying188 btA bhy (by kernel_rfl) h1
theorem bfT {H:Type} {enc:TypeId×Value→H} {W:World} {fuel:Nat} {v:Value} {y:DataW H×List MemPlace}
  (h:DataW.trod enc Tryz.prog W 0 (fun _=>true) true fuel 22 [v]=some y) : ∃ A n c l,v = .slice A n c∧Rd W W.heap.size A l∧l.length=n∧n≤c:=by
 rcases open_ints bsw btd cells32 h with ⟨hcs,_⟩ | ⟨a,len,cap,zs,hcs,_,hl,_,hz,_,hcell,hwz⟩
 ·obtain rfl:v = .slice none 0 0:=by simpa using hcs
  exact ⟨none,0,0,[],rfl,Rd.nil_ _ _ _,rfl,Nat.le_refl _⟩
 ·obtain rfl:v = .slice (some a) len cap:=by simpa using hcs
  simp only [if_true] at hz
  have hw : ∀ i,i < zs.length→0≤zs.getD i 0∧zs.getD i 0 < 4294967296:=by
   intro i hi
   have h1:=hwz (zs.getD i 0) (by simp [List.getD,hi])
   have h2:IntKind.u32.min≤zs.getD i 0∧zs.getD i 0≤IntKind.u32.max:=by simpa [Lit.wf] using h1
   have e1:IntKind.u32.min=0:=by decide
   have e2:IntKind.u32.max=4294967295:=by decide
   rw [e1,e2] at h2
   omega
  refine ⟨some a,len,cap,(zs.take len).map Int.toNat,rfl,⟨?_,fun h0 => ?_⟩,by simp; omega,hl⟩
  ·intro x hx
   simp only [List.mem_map] at hx
   obtain ⟨z,hz1,rfl⟩:=hx
   obtain ⟨i,hi,rfl⟩:=List.getElem_of_mem (List.mem_of_mem_take hz1)
   have:=hw i hi
   simp [List.getD,hi] at this
   omega
  ·have hlen:0 < len:=by simp at h0; omega
   have h00:=hcell 0 (by omega)
   obtain ⟨b,off,spot⟩:=a
   have hspot:spot=none:=by simpa [Addr.add] using World.cell?_spot h00
   subst hspot
   have hadd : ∀ i,(⟨b,off,none⟩:Addr).add i=⟨b,off+i,none⟩:=fun i=>by unfold Addr.add; split <;> simp_all
   refine ⟨b,off,rfl,?_,fun j hj => ?_⟩
   ·rw [hadd] at h00
    exact World.block_lt_of_cell? (w:=W) (a:=⟨b,off+0,none⟩) (h:=h00)
   ·have hj':j < len:=by simp at hj; omega
    have h1:=hcell j (by omega)
    rw [hadd] at h1
    rw [h1]
    have h2:=hw j (by omega)
    have h3:dg ((zs.take len).map Int.toNat) j=(zs.getD j 0).toNat:=by
     unfold dg
     simp [List.getD,hj',show j < zs.length by omega]
    rw [h3]
    congr 2
    omega
noncomputable def laidWorld (os:Os):World:=World.doorLaid Tryz.prog 200 os
set_option maxRecDepth 100000 in
theorem laid_met (os:Os) (args:Array Value):laidMet Tryz.prog a6A ((laidWorld os).forCall (fun _ _=>0) ⟨#[],args,[]⟩).memory :=
 laidMet_of_run3 8 (by kernel_rfl) (by kernel_rfl) (by kernel_rfl)
end Go.Proofs.YtbihljnjaondcaaGreatDoor
namespace Go.Proofs.YtbihljnjaondcaaGreatDoor
open Go Go.ChangeShapes Go.WideShapes Go.ChangeAt Go.RowKit Go.Joins Lw
theorem bhz:Tryz.prog.cellsOf 24=3:=by kernel_rfl
theorem bb8:Tryz.prog.cellsOf 5=1:=by kernel_rfl
theorem gTz:Tryz.prog.globalNamed "math/bits.deBruijn64tab" = some 1:=by kernel_rfl
theorem boA {W:World} (h:laidMetH Tryz.prog a6A W):Tz W:=by
 have h1:=h.filter (fun x=>x.1 == "math/bits.deBruijn64tab")
 have e:a6A.filter (fun x=>x.1 == "math/bits.deBruijn64tab")=[("math/bits.deBruijn64tab",Lib.tabData .u8 (Lib.deBruijn64tab.map Int.ofNat))]:=by kernel_rfl
 rw [e] at h1
 have h2:=Lib.tabIs_of_head (rest:=[]) gTz (by kernel_rfl) Tryz.underlying176 bsU bb8 (by kernel_rfl) h1
 intro j hj
 have h3:=h2.cell gTz j (by simpa using hj)
 rw [h3,List.getD_eq_getElem?_getD,List.getElem?_map,List.getD_eq_getElem?_getD,List.getElem?_eq_getElem hj]
 rfl
theorem bkS {W:World} (h:W.ShapedOpen Tryz.prog):Mx W :=
 Go.Proofs.cell_of_shapedOpen_int (zero := #[.int .i64 0]) (t:=3) h (of_decide_eq_true (by kernel_rfl)) (by kernel_rfl) rfl (by kernel_rfl) (by kernel_rfl) bsJ
set_option maxRecDepth 100000 in
theorem bmA {H:Type} {enc:TypeId×Value→H} {W:World} {base:Nat} {v:Value} {d:DataW H} {p:List MemPlace}
  (hv:Value.okWide Tryz.prog W .any base 24 v) (h:DataW.Trod enc Tryz.prog W 0 (fun _=>true) true 24 v d p) :
  ∃ s A n c B m c' k q b,v = .agg #[.bool s,.slice A n c,.slice B m c']∧Fop W ⟨.agg #[.bool s,.slice A n c,.slice B m c'],q,k,b⟩:=by
 obtain ⟨c0,c1,c2,y0,y1,y2,_,rfl,rfl,rfl,hy0,hy1,hy2⟩:=open_agg3 Tryz.underlying24 (by kernel_rfl) bhz hv h
 obtain ⟨s,e0,rfl⟩:=DataW.trod_bool bsF hy0
 obtain rfl:c0 = .bool s:=by simpa using e0
 obtain ⟨A,n,c,l,rfl,h1,h2,h3⟩:=bfT hy1
 obtain ⟨B,m,c',l',rfl,g1,g2,g3⟩:=bfT hy2
 exact ⟨s,A,n,c,B,m,c',max n m,qv s l l',fV s l l',rfl,s,A,n,c,B,m,c',l,l',rfl,h1,g1,h2,g2,Nat.le_max_left _ _,Nat.le_max_right _ _,h3,g3,rfl,rfl⟩
end Go.Proofs.YtbihljnjaondcaaGreatDoor
