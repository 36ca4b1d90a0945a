/- Part of a proof, said shortly. -/
import Derived.Test.YtkcpphebkmnonaaGreatDoorCards
import Derived.Test.YtkcpphebkmnonaaGreatDoorTie
import Derived.WalkKit
import Derived.ProofKit
import Derived.OpenShut
import Derived.Carry
import Derived.Deep.DeepHandedRow
import Derived.Deep.DeepLaidRun
import Derived.Lib.LaidTab
import Derived.Lib.SmallJoins
import Derived.LaidSub
import Derived.LaidMore
import Derived.Shelf.Vars
import Derived.Test.YtkcpphebkmnonaaGreatDoorAlzb
import Derived.Test.YtkcpphebkmnonaaGreatDoorC4b
import Derived.Test.YtkcpphebkmnonaaGreatDoorC3b
import Derived.Test.YtkcpphebkmnonaaGreatDoorC2b
import Derived.Test.YtkcpphebkmnonaaGreatDoorC1b
import Derived.Test.YtkcpphebkmnonaaGreatDoorC9b
import Derived.Test.YtkcpphebkmnonaaGreatDoorC8b
import Derived.Test.YtkcpphebkmnonaaGreatDoorC5b
import Derived.Test.YtkcpphebkmnonaaGreatDoorC7b
import Derived.Test.YtkcpphebkmnonaaGreatDoorC6b
namespace Go.Proofs.BGQ
open Go Go.ChangeShapes Go.WideShapes Go.ChangeAt Go.RowKit Go.Joins Lw
theorem own:ownKnob Tryz.prog.godebug=none:=ah
theorem laidOut:laidOutB Tryz.prog=true:=ah
theorem cells32:Tryz.prog.cellsOf 113=1:=ah
theorem IU{H:Type}{enc:TypeId×Value->H}{W:World}{fuel:Nat}{v:Value}{y:DataW H×List MemPlace}(h:DataW.trod enc Tryz.prog W 0 (fun _=>true) true fuel 22 [v]=some y) : ∃ A n c l,v = .slice A n c/\Rd W W.heap.size A l/\l.length=n/\n<=c:=by
 rcases open_ints atV avg cells32 h with ⟨hcs,_⟩ | ⟨a,len,cap,zs,hcs,_,hl,_,hz,_,hcell,hwz⟩
 ·obtain rfl:v = .slice none 0 0:=by simpa using hcs
  exact ⟨none,0,0,[],rfl,Rd.nil_ _ _ _,rfl,avW _⟩
 ·obtain rfl:v = .slice (some a) len cap:=by simpa using hcs
  simp only [if_true] at hz
  have hw : ∀ i,i<zs.length->0<=zs.getD i 0/\zs.getD i 0<4294967296:=by
   intro i hi;have h1:=hwz (zs.getD i 0) (by simp [List.getD,hi]);have h2:IntKind.u32.min<=zs.getD i 0/\zs.getD i 0<=IntKind.u32.max:=by simpa [Lit.wf] using h1
   have e1:IntKind.u32.min=0:=ai;have e2:IntKind.u32.max=4294967295:=ai;rw [e1,e2] at h2;omega
  refine ⟨some a,len,cap,(zs.take len).map Int.toNat,rfl,⟨?_,fun h0 => ?_⟩,by simp;omega,hl⟩
  ·intro x hx
   simp only [aw9] at hx;obtain ⟨z,hz1,rfl⟩:=hx;obtain ⟨i,hi,rfl⟩:=List.getElem_of_mem (List.mem_of_mem_take hz1);have:=hw i hi;simp [List.getD,hi] at this;omega
  ·have hlen:0<len:=by simp at h0;omega
   have h00:=hcell 0 af;obtain ⟨b,off,spot⟩:=a;have hspot:spot=none:=by simpa [Addr.add] using World.cell?_spot h00
   subst hspot;have hadd : ∀ i,(⟨b,off,none⟩:Addr).add i=⟨b,off+i,none⟩:=fun i=>by unfold Addr.add;split <;> simp_all
   refine ⟨b,off,rfl,?_,fun j hj => ?_⟩
   ·rw [hadd] at h00
    exact World.block_lt_of_cell? (w:=W) (a:=⟨b,off+0,none⟩) (h:=h00)
   ·have hj':j<len:=by simp at hj;omega
    have h1:=hcell j af;rw [hadd] at h1;rw [h1];have h2:=hw j af
    have h3:dg ((zs.take len).map Int.toNat) j=(zs.getD j 0).toNat:=by
     unfold dg;simp [List.getD,hj',show j<zs.length by omega]
    rw [h3]
    congr 2
    omega
noncomputable def laidWorld (os:Os):World:=World.doorLaid Tryz.prog 200 os
theorem Rf:Tryz.prog.cellsOf 24=3:=ah
theorem Q9:Tryz.prog.cellsOf 5=1:=ah
theorem Tj:Tryz.prog.globalNamed "math/bits.deBruijn64tab"=some 0:=ah
theorem VE{W:World}(h:W.ShapedOpen Tryz.prog):Mx W :=
 Go.Proofs.cell_of_shapedOpen_int (zero := #[.int .i64 0]) (t:=3) h (of_decide_eq_true ah) ah rfl ah ah auw
end Go.Proofs.BGQ
