/- Part of a proof, said shortly. -/
import Derived.Test.YtbihljnjaondcaaGreatDoorCards
import Derived.Test.YtbihljnjaondcaaGreatDoorTie
import Derived.WalkKit
import Derived.ProofKit
import Derived.OpenShut
import Derived.Carry
import Derived.Deep.DeepHandedRow
import Derived.Deep.DeepLaidRun
import Derived.Lib.LaidTab
import Derived.Lib.SmallJoins
import Derived.LaidSub
import Derived.LaidMore
import Derived.Shelf.Vars
import Derived.Test.YtbihljnjaondcaaGreatDoorAlz
import Derived.Test.YtbihljnjaondcaaGreatDoorC13
import Derived.Test.YtbihljnjaondcaaGreatDoorC12
import Derived.Test.YtbihljnjaondcaaGreatDoorC11
import Derived.Test.YtbihljnjaondcaaGreatDoorC10
import Derived.Test.YtbihljnjaondcaaGreatDoorC6
import Derived.Test.YtbihljnjaondcaaGreatDoorC2
import Derived.Test.YtbihljnjaondcaaGreatDoorC1
import Derived.Test.YtbihljnjaondcaaGreatDoorC5
import Derived.Test.YtbihljnjaondcaaGreatDoorC4
import Derived.Test.YtbihljnjaondcaaGreatDoorC3
import Derived.Test.YtbihljnjaondcaaGreatDoorC9
import Derived.Test.YtbihljnjaondcaaGreatDoorC8
import Derived.Test.YtbihljnjaondcaaGreatDoorC7
namespace Lw
open Go
theorem ac2 {z:Int} {k:Nat} (h:z.natAbs < pw k):(Lib.itoa z).length≤10*k+2:=by
 have h1:pw k≤(10 ^ 10) ^ k:=by unfold pw; exact Nat.pow_le_pow_left (by decide) k
 rw [← Nat.pow_mul] at h1
 have h2:10 ^ (10*k)≤10 ^ (10*k+1):=Nat.pow_le_pow_right (by omega) (by omega)
 have h3:=ace (10*k) z.natAbs (by omega)
 cases hs:sg z
 ·rw [Yn hs]; simp; omega
 ·rw [itoa_neg hs]; simp; omega
theorem axz (a b:List UInt8):({ data:=a.toArray } : ByteArray) ++ { data := #[47] } ++ { data:=b.toArray } = { data:=(a++([47]++b)).toArray } := by
 apply ByteArray.ext
 simp [ByteArray.data_append]
def wJ (q:Rat):List UInt8:=if q.den=1 then Lib.itoa q.num else Lib.itoa q.num++([47]++Lib.itoa (q.den:Int))
end Lw
namespace Go.Proofs.YtbihljnjaondcaaGreatDoor
open Go Go.RowKit Lw
section
variable {W0 w:World} {bs:List Bx} {L:List En} {ts:List Bt} {M:List Qn} {s s':Bool} {A A' B B':Option Addr} {n c n' c' m d m' d' k k' j:Nat} {q r:Rat} {x y:Int} {b b':Bool}
theorem UQ {v:Value} (HE:bG W0 w bs L ts M) (h:⟨v,q,k,b⟩∈M):q.num.natAbs < pw k∧q.den < pw (k+1):=by
 have H:=HE.fr _ h
 cases b
 ·obtain ⟨s',A1,n1,c1,A2,n2,c2,ns,ms,h1,h2,h3,h4,h5,h6,h7,h8,h9,h10,h11⟩:=H
  dsimp only at h10 h11
  have h0:q=0:=by rw [← h10]; unfold qv; rw [h11]; rfl
  have:=Di k
  have:=vH k
  subst h0
  exact ⟨by show 0 < pw k; omega,by show 1 < pw (k+1); omega⟩
 ·exact H.lt
theorem bG.r2 {g1 g2:Nat} {x1 y1 x2 y2:Value} (h:bG W0 w (⟨g2,x2,y2⟩ :: ⟨g1,x1,y1⟩ :: bs) L ts M) :
  w.cell? ⟨g1,0,none⟩=some x1∧w.cell? ⟨g1,1,none⟩=some y1∧w.cell? ⟨g2,0,none⟩=some x2∧w.cell? ⟨g2,1,none⟩=some y2 :=
 ⟨(h.c2 (.tail _ (.head _))).1,(h.c2 (.tail _ (.head _))).2.1,(h.c2 (.head _)).1,(h.c2 (.head _)).2.1⟩
set_option maxRecDepth 100000 in
set_option maxHeartbeats 2400000 in
theorem ay5 (HE:bG W0 w bs L ts M) (h:⟨.agg #[.bool s,.slice A n c,.slice A' n' c'],q,k,b⟩∈M) (hk:k≤40000) :
  Calls Tryz.prog 29 #[.agg #[.bool s,.slice A n c,.slice A' n' c']] w (fun e w'=>e = .returned (.string ⟨(wJ q).toArray⟩)∧bG W0 w' bs L ts M):=by
 refine Calls.mono (R:=fun e w'=>e = .returned (.string ⟨(wJ q).toArray⟩)∧bG w w' [] L [] M) ?_ fun _ _ hh=>⟨hh.1,HE.back hh.2⟩
 have hl:=UQ HE h
 have l1:=ac2 hl.1
 have l2:=ac2 (z:=(q.den:Int)) (k:=k+1) (by rw [Int.natAbs_natCast]; exact hl.2)
 have e1:(9223372036854775807 < (Lib.itoa q.num).length+1)=False:=eq_false (by omega)
 have e2:(9223372036854775807 < (Lib.itoa q.num).length+1+(Lib.itoa (q.den:Int)).length)=False:=eq_false (by omega)
 have e3:(9223372036854775807 < (Lib.itoa q.num).length+(1+(Lib.itoa (q.den:Int)).length))=False:=eq_false (by omega)
 have e4:(9223372036854775807 < (Lib.itoa q.num).length+((Lib.itoa (q.den:Int)).length+1))=False:=eq_false (by omega)
 clear hl l1 l2
 by_cases hd:q.den=1
 ·have HD:=Lib.hid (show decide ((q.den:Int).natAbs=1)=true by rw [hd]; rfl)
  have HT:=Lib.hid (show wJ q=Lib.itoa q.num by unfold wJ; rw [if_pos hd])
  clear hd
  replace HE:=HE.here.gQ (.bool s) (.slice A n c) (.slice A' n' c')
  obtain ⟨q0,q1,q2,q3,q4,q5⟩:=HE.c3 (.head _)
  go_enter Tryz.func29,Tryz.ntmps29
  go_wp2_with fail
  refine (zT HE h (by omega)).mono ?_
  clear HE
  rintro e w1 ⟨sx,Ax,nx,cx,Ay,ny,cy,rfl,HE⟩
  go_wp2_with fail
  refine (KO HE (.head _)).mono ?_
  clear HE
  rintro e w2 ⟨s1,D1,m1,d1,s2,D2,m2,d2,rfl,HE⟩
  clear q0 q1 q2 q3 q4 q5
  replace HE:=(HE.fF (.bool s1) (.slice D1 m1 d1)).fF (.bool s2) (.slice D2 m2 d2)
  simp only [World.size_alloc] at HE
  obtain ⟨q6,q7,q8,q9⟩:=HE.c2 (.head _)
  obtain ⟨q10,q11,q12,q13⟩:=HE.c2 (.tail _ (.head _))
  obtain ⟨jC,jD,q16,jE,kL,kM⟩:=HE.c3 (.head _)
  go_wp2_with fail
  refine (N8 HE (.tail _ (.head _)) (by omega)).mono ?_
  rw [HD.out]
  clear HE
  rintro e w3 ⟨rfl,HE⟩
  clear q6 q7 q8 q9 q10 q11 q12 q13 jC jD q16 jE kL kM
  obtain ⟨lH,lI,q22,q23⟩:=HE.c2 (.head _)
  obtain ⟨q24,mG,mX,mY⟩:=HE.c2 (.tail _ (.head _))
  obtain ⟨nV,nX,q30,nY,q32,og⟩:=HE.c3 (.head _)
  go_wp2_with fail
  refine (aol HE (.head _) (by omega)).mono ?_
  clear HE
  rintro e w4 ⟨rfl,HE⟩
  clear lH lI q22 q23 q24 mG mX mY nV nX q30 nY q32 og
  go_wp2_with fail
  go_ret
  exact ⟨by rw [HT.out]; rfl,HE.bare.pick (fun _ he => .tail _ (.tail _ (he))) (fun _ he => .tail _ he)⟩
 ·have HD:=Lib.hid (show decide ((q.den:Int).natAbs=1)=false by rw [Int.natAbs_natCast]; exact decide_eq_false hd)
  have HT:=Lib.hid (show wJ q=Lib.itoa q.num++([47]++Lib.itoa (q.den:Int)) by unfold wJ; rw [if_neg hd])
  clear hd
  replace HE:=HE.here.gQ (.bool s) (.slice A n c) (.slice A' n' c')
  obtain ⟨q0,q1,q2,q3,q4,q5⟩:=HE.c3 (.head _)
  go_enter Tryz.func29,Tryz.ntmps29
  go_wp2_with fail
  refine (zT HE h (by omega)).mono ?_
  clear HE
  rintro e w1 ⟨sx,Ax,nx,cx,Ay,ny,cy,rfl,HE⟩
  go_wp2_with fail
  refine (KO HE (.head _)).mono ?_
  clear HE
  rintro e w2 ⟨s1,D1,m1,d1,s2,D2,m2,d2,rfl,HE⟩
  clear q0 q1 q2 q3 q4 q5
  replace HE:=(HE.fF (.bool s1) (.slice D1 m1 d1)).fF (.bool s2) (.slice D2 m2 d2)
  simp only [World.size_alloc] at HE
  obtain ⟨q6,q7,q8,q9⟩:=HE.c2 (.head _)
  obtain ⟨q10,q11,q12,q13⟩:=HE.c2 (.tail _ (.head _))
  obtain ⟨jC,jD,q16,jE,kL,kM⟩:=HE.c3 (.head _)
  go_wp2_with fail
  refine (N8 HE (.tail _ (.head _)) (by omega)).mono ?_
  rw [HD.out]
  clear HE
  rintro e w3 ⟨rfl,HE⟩
  clear q6 q7 q8 q9 q10 q11 q12 q13 jC jD q16 jE kL kM
  obtain ⟨lH,lI,q22,q23⟩:=HE.c2 (.head _)
  obtain ⟨q24,mG,mX,mY⟩:=HE.c2 (.tail _ (.head _))
  obtain ⟨nV,nX,q30,nY,q32,og⟩:=HE.c3 (.head _)
  go_wp2_with fail
  go_region_held3 (fun w'=>w'.cell? ⟨w2.heap.size,0,none⟩=some (.bool s1)∧w'.cell? ⟨w2.heap.size,1,none⟩=some (.slice D1 m1 d1)∧w'.cell? ⟨w2.heap.size+1,0,none⟩=some (.bool s2)∧w'.cell? ⟨w2.heap.size+1,1,none⟩=some (.slice D2 m2 d2)) (with_reducible first | exact bG.r2 HE | exact bG.r2 HE.drew)
   (first
    | (go_at_call 82; refine (aol (by with_reducible first | exact HE | exact HE.drew) (by repeat (first | exact .head _ | assumption | refine .tail _ ?_)) (by omega)).mono ?_; rintro e wn ⟨rfl,HE⟩))
  go_wp2_with fail
  go_ret
  exact ⟨by rw [HT.out,← axz]; rfl,HE.bare.pick (fun _ he => .tail _ (.tail _ (he))) (fun _ he => .tail _ he)⟩
end
end Go.Proofs.YtbihljnjaondcaaGreatDoor
namespace Lw
open Go Go.RowKit
theorem pF.tight {w:World} {v:Value} {z:Int} {k K:Nat} (h:pF w ⟨v,z,k,true⟩) (hz:z.natAbs < pw K):pF w ⟨v,z,K,true⟩:=by
 obtain ⟨s,A,n,c,ns,B,e1,h2,h3,h4,h5,h6,e7,h8⟩:=h
 dsimp only at e1 e7 h5 h8
 obtain ⟨a1,a2,_⟩:=Qw (z:=z) h8 (by rw [← e7]; unfold zv; rw [if_pos h8]) h2.gW
 refine ⟨s,A,n,c,ns,B,e1,h2,h3,h4,?_,h6,e7,h8⟩
 dsimp only
 rw [← h4,← a2]
 exact N9 hz
end Lw
namespace Go.Proofs.YtbihljnjaondcaaGreatDoor
open Go Go.RowKit Lw
def Mx (w:World):Prop := ∃ z:Int,w.cell? ⟨0,0,none⟩=some (.int .i64 z)
theorem Mx.next {w w':World} (h:Mx w) (hb:Below w.heap.size w w'):Mx w':=by
 obtain ⟨z,hz⟩:=h
 exact ⟨z,(hb.cell (cell_lt hz)).trans hz⟩
end Go.Proofs.YtbihljnjaondcaaGreatDoor
namespace Go.Proofs.YtbihljnjaondcaaGreatDoor
open Go Go.ChangeShapes Go.WideShapes Go.ChangeAt Go.RowKit Go.Joins Lw
theorem own:ownKnob Tryz.prog.godebug=none:=by kernel_rfl
theorem laidOut:laidOutB Tryz.prog=true:=by kernel_rfl
theorem cells32:Tryz.prog.cellsOf 99=1:=by kernel_rfl
theorem axA:Tryz.prog.cellsOf 144=1:=by kernel_rfl
def Yr:List (String×DataW Unit):=[("math/bits.deBruijn32tab",Rows.laid_math_bits_deBruijn32tab),("math/bits.deBruijn64tab",Rows.laid_math_bits_deBruijn64tab),("internal/strconv.uint64pow10",Rows.laid_internal_strconv_uint64pow10)]
theorem ay8:Tryz.prog.globalNamed "internal/strconv.uint64pow10" = some 2:=by kernel_rfl
theorem TI {W:World} (h:laidMetH Tryz.prog Yr W):Tab W:=by
 have h1:=h.filter (fun x=>x.1 == "internal/strconv.uint64pow10")
 have e:Yr.filter (fun x=>x.1 == "internal/strconv.uint64pow10")=[("internal/strconv.uint64pow10",Lib.tabData .u64 Lib.pow10Tab)]:=by kernel_rfl
 rw [e] at h1
 exact Lib.tabIs_of_head (rest:=[]) ay8 (by kernel_rfl) Tryz.underlying188 aZS axA (by kernel_rfl) h1
theorem afj {H:Type} {enc:TypeId×Value→H} {W:World} {fuel:Nat} {v:Value} {y:DataW H×List MemPlace}
  (h:DataW.trod enc Tryz.prog W 0 (fun _=>true) true fuel 22 [v]=some y) : ∃ A n c l,v = .slice A n c∧Rd W W.heap.size A l∧l.length=n∧n≤c:=by
 rcases open_ints aYN aZR cells32 h with ⟨hcs,_⟩ | ⟨a,len,cap,zs,hcs,_,hl,_,hz,_,hcell,hwz⟩
 ·obtain rfl:v = .slice none 0 0:=by simpa using hcs
  exact ⟨none,0,0,[],rfl,Rd.nil_ _ _ _,rfl,Nat.le_refl _⟩
 ·obtain rfl:v = .slice (some a) len cap:=by simpa using hcs
  simp only [if_true] at hz
  have hw : ∀ i,i < zs.length→0≤zs.getD i 0∧zs.getD i 0 < 4294967296:=by
   intro i hi
   have h1:=hwz (zs.getD i 0) (by simp [List.getD,hi])
   have h2:IntKind.u32.min≤zs.getD i 0∧zs.getD i 0≤IntKind.u32.max:=by simpa [Lit.wf] using h1
   have e1:IntKind.u32.min=0:=by decide
   have e2:IntKind.u32.max=4294967295:=by decide
   rw [e1,e2] at h2
   omega
  refine ⟨some a,len,cap,(zs.take len).map Int.toNat,rfl,⟨?_,fun h0 => ?_⟩,by simp; omega,hl⟩
  ·intro x hx
   simp only [List.mem_map] at hx
   obtain ⟨z,hz1,rfl⟩:=hx
   obtain ⟨i,hi,rfl⟩:=List.getElem_of_mem (List.mem_of_mem_take hz1)
   have:=hw i hi
   simp [List.getD,hi] at this
   omega
  ·have hlen:0 < len:=by simp at h0; omega
   have h00:=hcell 0 (by omega)
   obtain ⟨b,off,spot⟩:=a
   have hspot:spot=none:=by simpa [Addr.add] using World.cell?_spot h00
   subst hspot
   have hadd : ∀ i,(⟨b,off,none⟩:Addr).add i=⟨b,off+i,none⟩:=fun i=>by unfold Addr.add; split <;> simp_all
   refine ⟨b,off,rfl,?_,fun j hj => ?_⟩
   ·rw [hadd] at h00
    exact World.block_lt_of_cell? (w:=W) (a:=⟨b,off+0,none⟩) (h:=h00)
   ·have hj':j < len:=by simp at hj; omega
    have h1:=hcell j (by omega)
    rw [hadd] at h1
    rw [h1]
    have h2:=hw j (by omega)
    have h3:dg ((zs.take len).map Int.toNat) j=(zs.getD j 0).toNat:=by
     unfold dg
     simp [List.getD,hj',show j < zs.length by omega]
    rw [h3]
    congr 2
    omega
noncomputable def laidWorld (os:Os):World:=World.doorLaid Tryz.prog 200 os
set_option maxRecDepth 100000 in
theorem laid_met (os:Os) (args:Array Value):laidMet Tryz.prog Yr ((laidWorld os).forCall (fun _ _=>0) ⟨#[],args,[]⟩).memory :=
 laidMet_of_run3 8 (by kernel_rfl) (by kernel_rfl) (by kernel_rfl)
end Go.Proofs.YtbihljnjaondcaaGreatDoor
namespace Go.Proofs.YtbihljnjaondcaaGreatDoor
open Go Go.ChangeShapes Go.WideShapes Go.ChangeAt Go.RowKit Go.Joins Lw
theorem al4:Tryz.prog.cellsOf 24=3:=by kernel_rfl
theorem al3:Tryz.prog.cellsOf 5=1:=by kernel_rfl
theorem gTz:Tryz.prog.globalNamed "math/bits.deBruijn64tab" = some 1:=by kernel_rfl
theorem TJ {W:World} (h:laidMetH Tryz.prog Yr W):Tz W:=by
 have h1:=h.filter (fun x=>x.1 == "math/bits.deBruijn64tab")
 have e:Yr.filter (fun x=>x.1 == "math/bits.deBruijn64tab")=[("math/bits.deBruijn64tab",Lib.tabData .u8 (Lib.deBruijn64tab.map Int.ofNat))]:=by kernel_rfl
 rw [e] at h1
 have h2:=Lib.tabIs_of_head (rest:=[]) gTz (by kernel_rfl) Tryz.underlying176 aYZ al3 (by kernel_rfl) h1
 intro j hj
 have h3:=h2.cell gTz j (by simpa using hj)
 rw [h3,List.getD_eq_getElem?_getD,List.getElem?_map,List.getD_eq_getElem?_getD,List.getElem?_eq_getElem hj]
 rfl
theorem SL {W:World} (h:W.ShapedOpen Tryz.prog):Mx W :=
 Go.Proofs.cell_of_shapedOpen_int (zero := #[.int .i64 0]) (t:=3) h (of_decide_eq_true (by kernel_rfl)) (by kernel_rfl) rfl (by kernel_rfl) (by kernel_rfl) aZb
end Go.Proofs.YtbihljnjaondcaaGreatDoor
