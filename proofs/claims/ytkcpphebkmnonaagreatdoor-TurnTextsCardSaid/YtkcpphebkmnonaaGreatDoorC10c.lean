/- Part of a proof, said shortly. -/
import Derived.Deep.RegionWith
import Derived.Deep.DeepCutAuto
import Derived.Test.YtkcpphebkmnonaaGreatDoorCards
import Derived.Test.YtkcpphebkmnonaaGreatDoorTie
import Derived.WalkKit
import Derived.ProofKit
import Derived.OpenShut
import Derived.Carry
import Derived.Deep.DeepHandedRow
import Derived.Deep.DeepLaidRun
import Derived.Lib.LaidTab
import Derived.Lib.SmallJoins
import Derived.LaidSub
import Derived.LaidMore
import Derived.Shelf.Vars
import Derived.Test.YtkcpphebkmnonaaGreatDoorAlzc
import Derived.Test.YtkcpphebkmnonaaGreatDoorC9c
import Derived.Test.YtkcpphebkmnonaaGreatDoorC8c
import Derived.Test.YtkcpphebkmnonaaGreatDoorC5c
import Derived.Test.YtkcpphebkmnonaaGreatDoorC2c
import Derived.Test.YtkcpphebkmnonaaGreatDoorC1c
import Derived.Test.YtkcpphebkmnonaaGreatDoorC4c
import Derived.Test.YtkcpphebkmnonaaGreatDoorC3c
import Derived.Test.YtkcpphebkmnonaaGreatDoorC7c
import Derived.Test.YtkcpphebkmnonaaGreatDoorC6c
namespace Lw
open Go
theorem Pj{z:Int}{k:Nat}(h:z.natAbs<pw k):(Lib.itoa z).length<=10*k+2:=by
 have h1:pw k<=(10^10)^k:=by unfold pw;exact aqh ai k
 rw [<- apn] at h1;have h2:10^(10*k)<=10^(10*k+1):=ao8 af af;have h3:=Cc (10*k) z.natAbs af
 cases hs:sg z
 ·rw [je hs];simp;omega
 ·rw [itoa_neg hs];simp;omega
theorem WQ(a b:List UInt8):({ data:=a.toArray } : ByteArray) ++ { data := #[47] } ++ { data:=b.toArray } = { data:=(a++([47]++b)).toArray } := by
 apply ByteArray.ext;simp [ByteArray.data_append]
def fE(q:Rat):List UInt8:=if q.den=1 then Lib.itoa q.num else Lib.itoa q.num++([47]++Lib.itoa (q.den:Int))
end Lw
namespace Go.Proofs.BGQ
open Go Go.RowKit Lw
section
variable {W0 w:World} {bs:List Bx} {L:List En} {ts:List Bt} {M:List Qn} {s s':Bool} {A A' B B':Option Addr} {n c n' c' m d m' d' k k' j:Nat} {q r:Rat} {x y:Int} {b b':Bool}
theorem vH{v:Value}(HE:bu W0 w bs L ts M)(h:⟨v,q,k,b⟩∈M):q.num.natAbs<pw k/\q.den<pw (k+1):=by
 have H:=HE.fr _ h
 cases b
 ·obtain ⟨s',A1,n1,c1,A2,n2,c2,ns,ms,h1,h2,h3,h4,h5,h6,h7,h8,h9,h10,h11⟩:=H
  dsimp only at h10 h11;have h0:q=0:=by rw [<- h10];unfold qv;rw [h11];rfl
  have:=jf k;have:=dV k;subst h0;exact ⟨by show 0<pw k;omega,by show 1<pw (k+1);omega⟩
 ·exact H.lt
theorem bu.r2{g1 g2:Nat}{x1 y1 x2 y2:Value}(h:bu W0 w (⟨g2,x2,y2⟩::⟨g1,x1,y1⟩::bs) L ts M) :
  w.cell? ⟨g1,0,none⟩=some x1/\w.cell? ⟨g1,1,none⟩=some y1/\w.cell? ⟨g2,0,none⟩=some x2/\w.cell? ⟨g2,1,none⟩=some y2 :=
 ⟨(h.c2 au).1,(h.c2 au).2.1,(h.c2 ak).1,(h.c2 ak).2.1⟩
set_option maxRecDepth 100000 in
set_option maxHeartbeats 2400000 in
theorem YX(HE:bu W0 w bs L ts M)(h:⟨.agg #[.bool s,.slice A n c,.slice A' n' c'],q,k,b⟩∈M)(hk:k<=40000) :
  Calls Tryz.prog 53 #[.agg #[.bool s,.slice A n c,.slice A' n' c']] w (fun e w'=>e = .returned (.string ⟨(fE q).toArray⟩)/\bu W0 w' bs L ts M):=by
 refine Calls.mono (R:=fun e w'=>e = .returned (.string ⟨(fE q).toArray⟩)/\bu w w' [] L [] M) ?_ fun _ _ hh=>⟨hh.1,HE.back hh.2⟩;have hl:=vH HE h;have l1:=Pj hl.1;have l2:=Pj (z:=(q.den:Int)) (k:=k+1) (by rw [aoL];exact hl.2);have e1:(9223372036854775807<(Lib.itoa q.num).length+1)=False:=eq_false af;have e2:(9223372036854775807<(Lib.itoa q.num).length+1+(Lib.itoa (q.den:Int)).length)=False:=eq_false af;have e3:(9223372036854775807<(Lib.itoa q.num).length+(1+(Lib.itoa (q.den:Int)).length))=False:=eq_false af;have e4:(9223372036854775807<(Lib.itoa q.num).length+((Lib.itoa (q.den:Int)).length+1))=False:=eq_false af;clear hl l1 l2
 by_cases hd:q.den=1
 ·have HD:=Lib.hid (show decide ((q.den:Int).natAbs=1)=true by rw [hd];rfl)
  have HT:=Lib.hid (show fE q=Lib.itoa q.num by unfold fE;rw [if_pos hd]);clear hd;replace HE:=HE.here.dF (.bool s) (.slice A n c) (.slice A' n' c');obtain ⟨q0,q1,q2,q3,q4,q5⟩:=HE.c3 ak
  go_enter Tryz.func53,Tryz.ntmps53
  go_wp2_with fail
  refine (Dp HE h af).mono ?_;clear HE;rintro e w1 ⟨sx,Ax,nx,cx,Ay,ny,cy,rfl,HE⟩
  go_wp2_with fail
  refine (IJ HE ak).mono ?_;clear HE;rintro e w2 ⟨s1,D1,m1,d1,s2,D2,m2,d2,rfl,HE⟩;clear q0 q1 q2 q3 q4 q5;replace HE:=(HE.bV (.bool s1) (.slice D1 m1 d1)).bV (.bool s2) (.slice D2 m2 d2);simp only [World.size_alloc] at HE;obtain ⟨q6,q7,q8,q9⟩:=HE.c2 ak;obtain ⟨q10,q11,q12,q13⟩:=HE.c2 au;obtain ⟨gI,gJ,q16,gK,iy,iC⟩:=HE.c3 ak
  go_wp2_with fail
  refine (O8 HE au af).mono ?_;rw [HD.out];clear HE;rintro e w3 ⟨rfl,HE⟩;clear q6 q7 q8 q9 q10 q11 q12 q13 gI gJ q16 gK iy iC;obtain ⟨jm,jo,q22,q23⟩:=HE.c2 ak;obtain ⟨q24,jq,jr,jw⟩:=HE.c2 au;obtain ⟨jU,jV,q30,jW,q32,ku⟩:=HE.c3 ak
  go_wp2_with fail
  refine (Pg HE ak af).mono ?_;clear HE;rintro e w4 ⟨rfl,HE⟩;clear jm jo q22 q23 q24 jq jr jw jU jV q30 jW q32 ku
  go_wp2_with fail
  go_ret
  exact ⟨by rw [HT.out];rfl,HE.bare.pick (fun _ he => .tail _ (.tail _ (he))) (fun _ he => .tail _ he)⟩
 ·have HD:=Lib.hid (show decide ((q.den:Int).natAbs=1)=false by rw [aoL];exact decide_eq_false hd)
  have HT:=Lib.hid (show fE q=Lib.itoa q.num++([47]++Lib.itoa (q.den:Int)) by unfold fE;rw [if_neg hd]);clear hd;replace HE:=HE.here.dF (.bool s) (.slice A n c) (.slice A' n' c');obtain ⟨q0,q1,q2,q3,q4,q5⟩:=HE.c3 ak
  go_enter Tryz.func53,Tryz.ntmps53
  go_wp2_with fail
  refine (Dp HE h af).mono ?_;clear HE;rintro e w1 ⟨sx,Ax,nx,cx,Ay,ny,cy,rfl,HE⟩
  go_wp2_with fail
  refine (IJ HE ak).mono ?_;clear HE;rintro e w2 ⟨s1,D1,m1,d1,s2,D2,m2,d2,rfl,HE⟩;clear q0 q1 q2 q3 q4 q5;replace HE:=(HE.bV (.bool s1) (.slice D1 m1 d1)).bV (.bool s2) (.slice D2 m2 d2);simp only [World.size_alloc] at HE;obtain ⟨q6,q7,q8,q9⟩:=HE.c2 ak;obtain ⟨q10,q11,q12,q13⟩:=HE.c2 au;obtain ⟨gI,gJ,q16,gK,iy,iC⟩:=HE.c3 ak
  go_wp2_with fail
  refine (O8 HE au af).mono ?_;rw [HD.out];clear HE;rintro e w3 ⟨rfl,HE⟩;clear q6 q7 q8 q9 q10 q11 q12 q13 gI gJ q16 gK iy iC;obtain ⟨jm,jo,q22,q23⟩:=HE.c2 ak;obtain ⟨q24,jq,jr,jw⟩:=HE.c2 au;obtain ⟨jU,jV,q30,jW,q32,ku⟩:=HE.c3 ak
  go_wp2_with fail
  go_region_held3 (fun w'=>w'.cell? ⟨w2.heap.size,0,none⟩=some (.bool s1)/\w'.cell? ⟨w2.heap.size,1,none⟩=some (.slice D1 m1 d1)/\w'.cell? ⟨w2.heap.size+1,0,none⟩=some (.bool s2)/\w'.cell? ⟨w2.heap.size+1,1,none⟩=some (.slice D2 m2 d2)) (with_reducible first | exact bu.r2 HE | exact bu.r2 HE.drew)
   (first
    | (go_at_call 94;refine (Pg (by with_reducible first | exact HE | exact HE.drew) (by repeat (first | exact aZ | assumption | refine .tail _ ?_)) af).mono ?_;rintro e wn ⟨rfl,HE⟩))
  go_wp2_with fail
  go_ret
  exact ⟨by rw [HT.out,<- WQ];rfl,HE.bare.pick (fun _ he => .tail _ (.tail _ (he))) (fun _ he => .tail _ he)⟩
end
end Go.Proofs.BGQ
namespace Lw
open Go Go.RowKit
theorem dB.tight{w:World}{v:Value}{z:Int}{k K:Nat}(h:dB w ⟨v,z,k,true⟩)(hz:z.natAbs<pw K):dB w ⟨v,z,K,true⟩:=by
 obtain ⟨s,A,n,c,ns,B,e1,h2,h3,h4,h5,h6,e7,h8⟩:=h;dsimp only at e1 e7 h5 h8;obtain ⟨a1,a2,_⟩:=rD (z:=z) h8 (by rw [<- e7];unfold zv;rw [if_pos h8]) h2.bQ;refine ⟨s,A,n,c,ns,B,e1,h2,h3,h4,?_,h6,e7,h8⟩;dsimp only;rw [<- h4,<- a2];exact pq hz
end Lw
namespace Go.Proofs.BGQ
open Go Go.RowKit Lw
def Mx(w:World):Prop := ∃ z:Int,w.cell? ⟨1,0,none⟩=some (.int .i64 z)
theorem Mx.next{w w':World}(h:Mx w)(hb:Below w.heap.size w w'):Mx w':=by
 obtain ⟨z,hz⟩:=h;exact ⟨z,(hb.cell (cell_lt hz)).trans hz⟩
open Go.ChangeShapes Go.WideShapes Go.ChangeAt Go.Joins
theorem own:ownKnob Tryz.prog.godebug=none:=ah
theorem laidOut:laidOutB Tryz.prog=true:=ah
theorem cells32:Tryz.prog.cellsOf 113=1:=ah
theorem Xh:Tryz.prog.cellsOf 134=1:=ah
def zT:List (String×DataW Unit):=[("math/bits.deBruijn32tab",Go.Proofs.YtkcpphebkmnonaaGreatDoor.Rows.laid_math_bits_deBruijn32tab),("math/bits.deBruijn64tab",Go.Proofs.YtkcpphebkmnonaaGreatDoor.Rows.laid_math_bits_deBruijn64tab),("internal/strconv.uint64pow10",Go.Proofs.YtkcpphebkmnonaaGreatDoor.Rows.laid_internal_strconv_uint64pow10)]
theorem Y1:Tryz.prog.globalNamed "internal/strconv.uint64pow10"=some 2:=ah
theorem SX{W:World}(h:laidMetH Tryz.prog zT W):Tab W:=by
 have h1:=h.filter (fun x=>x.1== "internal/strconv.uint64pow10");have e:zT.filter (fun x=>x.1== "internal/strconv.uint64pow10")=[("internal/strconv.uint64pow10",Lib.tabData .u64 Lib.pow10Tab)]:=ah;rw [e] at h1;exact Lib.tabIs_of_head (rest:=[]) Y1 ah Tryz.underlying189 aon Xh ah h1
theorem Uf{H:Type}{enc:TypeId×Value->H}{W:World}{fuel:Nat}{v:Value}{y:DataW H×List MemPlace}(h:DataW.trod enc Tryz.prog W 0 (fun _=>true) true fuel 22 [v]=some y) : ∃ A n c l,v = .slice A n c/\Rd W W.heap.size A l/\l.length=n/\n<=c:=by
 rcases open_ints amZ anU cells32 h with ⟨hcs,_⟩ | ⟨a,len,cap,zs,hcs,_,hl,_,hz,_,hcell,hwz⟩
 ·obtain rfl:v = .slice none 0 0:=by simpa using hcs
  exact ⟨none,0,0,[],rfl,Rd.nil_ _ _ _,rfl,aoG _⟩
 ·obtain rfl:v = .slice (some a) len cap:=by simpa using hcs
  simp only [if_true] at hz
  have hw : ∀ i,i<zs.length->0<=zs.getD i 0/\zs.getD i 0<4294967296:=by
   intro i hi;have h1:=hwz (zs.getD i 0) (by simp [List.getD,hi]);have h2:IntKind.u32.min<=zs.getD i 0/\zs.getD i 0<=IntKind.u32.max:=by simpa [Lit.wf] using h1
   have e1:IntKind.u32.min=0:=ai;have e2:IntKind.u32.max=4294967295:=ai;rw [e1,e2] at h2;omega
  refine ⟨some a,len,cap,(zs.take len).map Int.toNat,rfl,⟨?_,fun h0 => ?_⟩,by simp;omega,hl⟩
  ·intro x hx
   simp only [apS] at hx;obtain ⟨z,hz1,rfl⟩:=hx;obtain ⟨i,hi,rfl⟩:=List.getElem_of_mem (List.mem_of_mem_take hz1);have:=hw i hi;simp [List.getD,hi] at this;omega
  ·have hlen:0<len:=by simp at h0;omega
   have h00:=hcell 0 af;obtain ⟨b,off,spot⟩:=a;have hspot:spot=none:=by simpa [Addr.add] using World.cell?_spot h00
   subst hspot;have hadd : ∀ i,(⟨b,off,none⟩:Addr).add i=⟨b,off+i,none⟩:=fun i=>by unfold Addr.add;split <;> simp_all
   refine ⟨b,off,rfl,?_,fun j hj => ?_⟩
   ·rw [hadd] at h00
    exact World.block_lt_of_cell? (w:=W) (a:=⟨b,off+0,none⟩) (h:=h00)
   ·have hj':j<len:=by simp at hj;omega
    have h1:=hcell j af;rw [hadd] at h1;rw [h1];have h2:=hw j af
    have h3:dg ((zs.take len).map Int.toNat) j=(zs.getD j 0).toNat:=by
     unfold dg;simp [List.getD,hj',show j<zs.length by omega]
    rw [h3]
    congr 2
    omega
noncomputable def laidWorld (os:Os):World:=World.doorLaid Tryz.prog 200 os
set_option maxRecDepth 100000 in
theorem laid_met(os:Os)(args:Array Value):laidMet Tryz.prog zT ((laidWorld os).forCall (fun _ _=>0) ⟨#[],args,[]⟩).memory :=
 laidMet_of_run3 8 ah ah ah
theorem Xj:Tryz.prog.cellsOf 24=3:=ah
theorem MB:Tryz.prog.cellsOf 5=1:=ah
theorem NL:Tryz.prog.globalNamed "math/bits.deBruijn64tab"=some 0:=ah
theorem Tm{W:World}(h:laidMetH Tryz.prog zT W):Tz W:=by
 have h1:=h.filter (fun x=>x.1== "math/bits.deBruijn64tab");have e:zT.filter (fun x=>x.1== "math/bits.deBruijn64tab")=[("math/bits.deBruijn64tab",Lib.tabData .u8 (Lib.deBruijn64tab.map Int.ofNat))]:=ah;rw [e] at h1;have h2:=Lib.tabIs_of_head (rest:=[]) NL ah Tryz.underlying169 anC MB ah h1;intro j hj;have h3:=h2.cell NL j (by simpa using hj);rw [h3,apo,List.getElem?_map,apo,aoX hj]
 rfl
theorem PX{W:World}(h:W.ShapedOpen Tryz.prog):Mx W :=
 Go.Proofs.cell_of_shapedOpen_int (zero := #[.int .i64 0]) (t:=3) h (of_decide_eq_true ah) ah rfl ah ah anl
end Go.Proofs.BGQ
