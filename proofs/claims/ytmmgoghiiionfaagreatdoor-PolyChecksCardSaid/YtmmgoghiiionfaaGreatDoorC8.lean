/- Part of a proof, said shortly. -/
import Derived.Deep.RegionWith
import Derived.Deep.DeepCutAuto
import Derived.Test.YtmmgoghiiionfaaGreatDoorCards
import Derived.Test.YtmmgoghiiionfaaGreatDoorTie
import Derived.WalkKit
import Derived.ProofKit
import Derived.OpenShut
import Derived.Carry
import Derived.Deep.DeepHandedRow
import Derived.Deep.DeepLaidRun
import Derived.Lib.LaidTab
import Derived.Lib.SmallJoins
import Derived.LaidSub
import Derived.LaidMore
import Derived.Shelf.Vars
import Derived.Test.YtmmgoghiiionfaaGreatDoorAlz
import Derived.Test.YtmmgoghiiionfaaGreatDoorC7
import Derived.Test.YtmmgoghiiionfaaGreatDoorC4
import Derived.Test.YtmmgoghiiionfaaGreatDoorC2
import Derived.Test.YtmmgoghiiionfaaGreatDoorC1
import Derived.Test.YtmmgoghiiionfaaGreatDoorC3
import Derived.Test.YtmmgoghiiionfaaGreatDoorC6
import Derived.Test.YtmmgoghiiionfaaGreatDoorC5
set_option linter.unusedVariables false
set_option linter.unusedSimpArgs false
namespace Lw
open Go Go.RowKit
theorem abx{s:Bool}{ns ms:List Nat}(h:(ns.length != 0&&fV s ns ms)=false):qv s ns ms=0:=by
 unfold qv
 split
 ·rename_i hf
  have h0:ns.length=0:=by grind
  have e:ns=[]:=by grind
  subst e
  cases s <;> exact Rat.zero_divInt _
 ·rfl
theorem bT.c3{w:World}{g:Nat}{t:TypeId}{a b c:Value}(h:bT w g t a b c):w.cell? ⟨g,0,none⟩=some a/\w.cell? ⟨g,1,none⟩=some b/\w.cell? ⟨g,2,none⟩=some c:=⟨h.cells.1,h.cells.2.1,h.cells.2.2.1⟩
theorem bT.cc{w:World}{g g':Nat}{t:TypeId}{a b c a' b' c':Value}(h:bT w g t a b c)(h':bT w g' t a' b' c'):w.cell? ⟨g,0,none⟩=some a/\w.cell? ⟨g,1,none⟩=some b/\w.cell? ⟨g,2,none⟩=some c/\w.cell? ⟨g',0,none⟩=some a'/\w.cell? ⟨g',1,none⟩=some b'/\w.cell? ⟨g',2,none⟩=some c':=⟨h.cells.1,h.cells.2.1,h.cells.2.2.1,h'.cells.1,h'.cells.2.1,h'.cells.2.2.1⟩
theorem bT.put{w:World}{g:Nat}{t:TypeId}{a b c:Value}(h:bT w g t a b c)(u v z:Value):bT (((w.setCell ⟨g,0,none⟩ u).setCell ⟨g,1,none⟩ v).setCell ⟨g,2,none⟩ z) g t u v z:=by
 have h3:=(h.set0 u).set1 v;unfold bT at h3 ⊢;generalize (w.setCell ⟨g,0,none⟩ u).setCell ⟨g,1,none⟩ v=W at *;simp [World.setCell,aip,h3]
end Lw
namespace Go.Proofs.AZQ
open Go Go.RowKit Lw
section
variable {W0 w:World} {bs:List Bx} {L:List En} {ts:List Bt} {M:List Qn} {s s':Bool} {A A':Option Addr} {n c n' c' k k':Nat} {q:Rat} {v:Value} {b:Bool}
theorem bu.I8{g:Nat}{x y z:Value}{w:World}(h:bu W0 w bs L ts M)(hm:⟨g,x,y,z⟩∈ts):bT w g 40 x y z:=h.tri _ hm
theorem O9(HE:bu W0 w bs L ts M)(h:⟨v,q,k,b⟩∈M)(hk:k<=100000) :
  Calls Tryz.prog 116 #[v] w (kJ W0 bs L ts M q k):=by
 obtain ⟨s,A,n,c,A',n',c',ns,ms,e1,r1,r2,e2,e3,e4,e5,e6,e7,e8,e9⟩:=HE.fr _ h;dsimp only at e1 e4 e5 e8 e9;subst e1;refine (XV s A A' ns ms n n' c c' _ _ w r1 r2 (ahj _) (ahj _) e2 e3 af af e6 e7 (HE.tz.next HE.below)).mono fun e w' ⟨h1,h2⟩ => ?_;have HF:=HE.next h2
 cases hb:(n != 0&&fV s ns ms)
 ·rw [hb] at h1
  have h0:q=0:=by rw [<- e8];exact abx (by rw [e2];exact hb)
  rw [h0];exact ⟨_,_,_,_,_,_,_,h1,HF.zero k⟩
 ·rw [hb] at h1
  have hv:fV s ns ms=true:=by
   cases hf:fV s ns ms
   ·rw [hf,Bool.and_false] at hb;cases hb
   ·rfl
  have hb2:b=true:=by rw [<- e9,hv]
  subst hb2;exact ⟨_,_,_,_,_,_,_,h1,HF.cons (HF.fr _ h)⟩
end
section
variable {W0 w:World} {bs:List Bx} {L:List En} {ts:List Bt} {M:List Qn} {s s':Bool} {A A' B B':Option Addr} {n c n' c' m d m' d' k k':Nat} {q r:Rat} {x y:Int} {b b':Bool}
def D5(W0:World)(bs:List Bx)(L:List En)(ts:List Bt)(M:List Qn)(q:Rat)(k:Nat)(e:Ending)(w':World):Prop :=
 ∃ (s:Bool) (A:Option Addr) (n c:Nat) (A':Option Addr) (n' c':Nat),e = .returned (.tuple #[.agg #[.bool s,.slice A n c,.slice A' n' c'],.nilIface])/\bu W0 w' bs L ts (⟨.agg #[.bool s,.slice A n c,.slice A' n' c'],q,k,true⟩::M)
theorem D5.of{w':World}{e:Ending}(h:bu W0 w bs L ts M)(hh:D5 w [] L [] M q k e w'):D5 W0 bs L ts M q k e w':=by
 obtain ⟨s,A,n,c,A',n',c',rfl,he⟩:=hh;exact ⟨s,A,n,c,A',n',c',rfl,h.back he⟩
end
end Go.Proofs.AZQ
namespace Lw
def Sq(x:Int):Prop:=0<=x/\((rt x.natAbs:Nat):Int)*((rt x.natAbs:Nat):Int)=x
end Lw
namespace Lw
open Go Go.RowKit
theorem cZ.mY{w:World}{e:En}{g n c n' c' i:Nat}{s:Bool}{t:TypeId}{X X':Option Addr}(h:cZ w e)(h2:bT w g t (.bool s) (.slice X n c) (.slice X' n' c'))(u:Value):cZ (w.setCell ⟨g,i,none⟩ u) e:=by
 obtain ⟨a,A,m,d,ns,B,e1,h3,h4,h5⟩:=h;exact ⟨a,A,m,d,ns,B,e1,h3.mY h2 u,by simpa using h4,h5⟩
theorem dn.mY{w:World}{e:Qn}{g n c n' c' i:Nat}{s:Bool}{t:TypeId}{X X':Option Addr}(h:dn w e)(h2:bT w g t (.bool s) (.slice X n c) (.slice X' n' c'))(u:Value):dn (w.setCell ⟨g,i,none⟩ u) e:=by
 obtain ⟨a,A,m,d,A',m',d',ns,ms,e1,r1,r2,e2⟩:=h;exact ⟨a,A,m,d,A',m',d',ns,ms,e1,(r1.mY h2 u).more (by simp),(r2.mY h2 u).more (by simp),e2⟩
end Lw
namespace Go.Proofs.AZQ
open Go Go.RowKit Lw
section
variable {W0 w:World} {bs:List Bx} {L:List En} {ts:List Bt} {M:List Qn} {s s':Bool} {A A' B B':Option Addr} {n c n' c' m d m' d' k k':Nat} {q r:Rat} {b b':Bool}
theorem bu.set0{g:Nat}{X X':Option Addr}(h:bu W0 w bs L ts M)(hm:⟨g,.bool s,.slice X n c,.slice X' n' c'⟩∈ts)(ts':List Bt)(hs : ∀ b∈ts',b∈ts/\b.g≠g)(s':Bool) :
  bu W0 (w.setCell ⟨g,0,none⟩ (.bool s')) bs L (⟨g,.bool s',.slice X n c,.slice X' n' c'⟩::ts') M :=
 have h2:=h.tri _ hm;have hg:W0.heap.size<=g:=h.lot _ hm
 ⟨⟨fun e he=>(h.env.ops e he).mY h2 _,fun b hb =>
  (h.env.box b hb).far (p:=⟨g,0,none⟩) (fun e=>h2.uF (h.env.box b hb) e.symm) _,h.below.setCell hg _⟩,fun e he=>(h.fr e he).mY h2 _,fun b hb=>by
  rcases List.mem_cons.1 hb with rfl | hb
  ·exact h2.set0 _
  ·exact (h.tri b (hs b hb).1).far (p:=⟨g,0,none⟩) (hs b hb).2 _,h.tz,h.tab,h.lo,fun b hb=>by
  rcases List.mem_cons.1 hb with rfl | hb
  ·exact hg
  ·exact h.lot b (hs b hb).1⟩
end
end Go.Proofs.AZQ
namespace Lw
open Go
theorem xA{z:Int}{k:Nat}(h:z.natAbs<pw k):(Lib.itoa z).length<=10*k+2:=by
 have h1:pw k<=(10^10)^k:=by unfold pw;exact Nat.pow_le_pow_left ai k
 rw [<- aiC] at h1;have h2:10^(10*k)<=10^(10*k+1):=aiz af af;have h3:=yZ (10*k) z.natAbs af
 cases hs:sg z
 ·rw [Ah hs];simp;omega
 ·rw [itoa_neg hs];simp;omega
theorem V5(a b:List UInt8):({ data:=a.toArray } : ByteArray) ++ { data := #[47] } ++ { data:=b.toArray } = { data:=(a++([47]++b)).toArray } := by
 apply ByteArray.ext;simp [ByteArray.data_append]
def bW(q:Rat):List UInt8:=if q.den=1 then Lib.itoa q.num else Lib.itoa q.num++([47]++Lib.itoa (q.den:Int))
end Lw
namespace Go.Proofs.AZQ
open Go Go.RowKit Lw
section
variable {W0 w:World} {bs:List Bx} {L:List En} {ts:List Bt} {M:List Qn} {s s':Bool} {A A' B B':Option Addr} {n c n' c' m d m' d' k k' j:Nat} {q r:Rat} {x y:Int} {b b':Bool}
theorem GN{v:Value}(HE:bu W0 w bs L ts M)(h:⟨v,q,k,b⟩∈M):q.num.natAbs<pw k/\q.den<pw (k+1):=by
 have H:=HE.fr _ h
 cases b
 ·obtain ⟨s',A1,n1,c1,A2,n2,c2,ns,ms,h1,h2,h3,h4,h5,h6,h7,h8,h9,h10,h11⟩:=H
  dsimp only at h10 h11;have h0:q=0:=by rw [<- h10];unfold qv;rw [h11];rfl
  have:=iV k;have:=dS k;subst h0;exact ⟨by show 0<pw k;omega,by show 1<pw (k+1);omega⟩
 ·exact H.lt
theorem bu.r2{g1 g2:Nat}{x1 y1 x2 y2:Value}(h:bu W0 w (⟨g2,x2,y2⟩::⟨g1,x1,y1⟩::bs) L ts M) :
  w.cell? ⟨g1,0,none⟩=some x1/\w.cell? ⟨g1,1,none⟩=some y1/\w.cell? ⟨g2,0,none⟩=some x2/\w.cell? ⟨g2,1,none⟩=some y2 :=
 ⟨(h.c2 au).1,(h.c2 au).2.1,(h.c2 ak).1,(h.c2 ak).2.1⟩
set_option maxRecDepth 100000 in
set_option maxHeartbeats 2400000 in
theorem X0(HE:bu W0 w bs L ts M)(h:⟨.agg #[.bool s,.slice A n c,.slice A' n' c'],q,k,b⟩∈M)(hk:k<=40000) :
  Calls Tryz.prog 62 #[.agg #[.bool s,.slice A n c,.slice A' n' c']] w (fun e w'=>e = .returned (.string ⟨(bW q).toArray⟩)/\bu W0 w' bs L ts M):=by
 refine Calls.mono (R:=fun e w'=>e = .returned (.string ⟨(bW q).toArray⟩)/\bu w w' [] L [] M) ?_ fun _ _ hh=>⟨hh.1,HE.back hh.2⟩;have hl:=GN HE h;have l1:=xA hl.1;have l2:=xA (z:=(q.den:Int)) (k:=k+1) (by rw [ahx];exact hl.2);have e1:(9223372036854775807<(Lib.itoa q.num).length+1)=False:=eq_false af;have e2:(9223372036854775807<(Lib.itoa q.num).length+1+(Lib.itoa (q.den:Int)).length)=False:=eq_false af;have e3:(9223372036854775807<(Lib.itoa q.num).length+(1+(Lib.itoa (q.den:Int)).length))=False:=eq_false af;have e4:(9223372036854775807<(Lib.itoa q.num).length+((Lib.itoa (q.den:Int)).length+1))=False:=eq_false af;clear hl l1 l2
 by_cases hd:q.den=1
 ·have HD:=Lib.hid (show decide ((q.den:Int).natAbs=1)=true by rw [hd];rfl)
  have HT:=Lib.hid (show bW q=Lib.itoa q.num by unfold bW;rw [if_pos hd]);clear hd;replace HE:=HE.here.jc (.bool s) (.slice A n c) (.slice A' n' c');obtain ⟨q0,q1,q2,q3,q4,q5⟩:=HE.c3 ak
  go_enter Tryz.func62,Tryz.ntmps62
  go_wp2_with fail
  refine (O9 HE h af).mono ?_;clear HE;rintro e w1 ⟨sx,Ax,nx,cx,Ay,ny,cy,rfl,HE⟩
  go_wp2_with fail
  refine (Qg HE ak).mono ?_;clear HE;rintro e w2 ⟨s1,D1,m1,d1,s2,D2,m2,d2,rfl,HE⟩;clear q0 q1 q2 q3 q4 q5;replace HE:=(HE.dR (.bool s1) (.slice D1 m1 d1)).dR (.bool s2) (.slice D2 m2 d2);simp only [World.size_alloc] at HE;obtain ⟨q6,q7,q8,q9⟩:=HE.c2 ak;obtain ⟨q10,q11,q12,q13⟩:=HE.c2 au;obtain ⟨jK,jL,q16,jM,jO,jP⟩:=HE.c3 ak
  go_wp2_with fail
  refine (O5 HE au af).mono ?_;rw [HD.out];clear HE;rintro e w3 ⟨rfl,HE⟩;clear q6 q7 q8 q9 q10 q11 q12 q13 jK jL q16 jM jO jP;obtain ⟨pV,pW,q22,q23⟩:=HE.c2 ak;obtain ⟨q24,pX,pY,qf⟩:=HE.c2 au;obtain ⟨qg,qh,q30,qi,q32,qj⟩:=HE.c3 ak
  go_wp2_with fail
  refine (O6 HE ak af).mono ?_;clear HE;rintro e w4 ⟨rfl,HE⟩;clear pV pW q22 q23 q24 pX pY qf qg qh q30 qi q32 qj
  go_wp2_with fail
  go_ret
  exact ⟨by rw [HT.out];rfl,HE.bare.pick (fun _ he => .tail _ (.tail _ (he))) (fun _ he => .tail _ he)⟩
 ·have HD:=Lib.hid (show decide ((q.den:Int).natAbs=1)=false by rw [ahx];exact decide_eq_false hd)
  have HT:=Lib.hid (show bW q=Lib.itoa q.num++([47]++Lib.itoa (q.den:Int)) by unfold bW;rw [if_neg hd]);clear hd;replace HE:=HE.here.jc (.bool s) (.slice A n c) (.slice A' n' c');obtain ⟨q0,q1,q2,q3,q4,q5⟩:=HE.c3 ak
  go_enter Tryz.func62,Tryz.ntmps62
  go_wp2_with fail
  refine (O9 HE h af).mono ?_;clear HE;rintro e w1 ⟨sx,Ax,nx,cx,Ay,ny,cy,rfl,HE⟩
  go_wp2_with fail
  refine (Qg HE ak).mono ?_;clear HE;rintro e w2 ⟨s1,D1,m1,d1,s2,D2,m2,d2,rfl,HE⟩;clear q0 q1 q2 q3 q4 q5;replace HE:=(HE.dR (.bool s1) (.slice D1 m1 d1)).dR (.bool s2) (.slice D2 m2 d2);simp only [World.size_alloc] at HE;obtain ⟨q6,q7,q8,q9⟩:=HE.c2 ak;obtain ⟨q10,q11,q12,q13⟩:=HE.c2 au;obtain ⟨jK,jL,q16,jM,jO,jP⟩:=HE.c3 ak
  go_wp2_with fail
  refine (O5 HE au af).mono ?_;rw [HD.out];clear HE;rintro e w3 ⟨rfl,HE⟩;clear q6 q7 q8 q9 q10 q11 q12 q13 jK jL q16 jM jO jP;obtain ⟨pV,pW,q22,q23⟩:=HE.c2 ak;obtain ⟨q24,pX,pY,qf⟩:=HE.c2 au;obtain ⟨qg,qh,q30,qi,q32,qj⟩:=HE.c3 ak
  go_wp2_with fail
  go_region_held3 (fun w'=>w'.cell? ⟨w2.heap.size,0,none⟩=some (.bool s1)/\w'.cell? ⟨w2.heap.size,1,none⟩=some (.slice D1 m1 d1)/\w'.cell? ⟨w2.heap.size+1,0,none⟩=some (.bool s2)/\w'.cell? ⟨w2.heap.size+1,1,none⟩=some (.slice D2 m2 d2)) (with_reducible first | exact bu.r2 HE | exact bu.r2 HE.drew)
   (first
    | (go_at_call 128;refine (O6 (by with_reducible first | exact HE | exact HE.drew) (by repeat (first | exact aY | assumption | refine .tail _ ?_)) af).mono ?_;rintro e wn ⟨rfl,HE⟩))
  go_wp2_with fail
  go_ret
  exact ⟨by rw [HT.out,<- V5];rfl,HE.bare.pick (fun _ he => .tail _ (.tail _ (he))) (fun _ he => .tail _ he)⟩
end
end Go.Proofs.AZQ
namespace Lw
open Go Go.RowKit
theorem cZ.tight{w:World}{v:Value}{z:Int}{k K:Nat}(h:cZ w ⟨v,z,k,true⟩)(hz:z.natAbs<pw K):cZ w ⟨v,z,K,true⟩:=by
 obtain ⟨s,A,n,c,ns,B,e1,h2,h3,h4,h5,h6,e7,h8⟩:=h;dsimp only at e1 e7 h5 h8;obtain ⟨a1,a2,_⟩:=qy (z:=z) h8 (by rw [<- e7];unfold zv;rw [if_pos h8]) h2.bI;refine ⟨s,A,n,c,ns,B,e1,h2,h3,h4,?_,h6,e7,h8⟩;dsimp only;rw [<- h4,<- a2];exact rC hz
end Lw
namespace Go.Proofs.AZQ
open Go Go.RowKit Lw
def Mx(w:World):Prop := ∃ z:Int,w.cell? ⟨1,0,none⟩=some (.int .i64 z)
theorem Mx.next{w w':World}(h:Mx w)(hb:Below w.heap.size w w'):Mx w':=by
 obtain ⟨z,hz⟩:=h;exact ⟨z,(hb.cell (cell_lt hz)).trans hz⟩
open Go.ChangeShapes Go.WideShapes Go.ChangeAt Go.Joins
theorem own:ownKnob Tryz.prog.godebug=none:=ah
theorem laidOut:laidOutB Tryz.prog=true:=ah
theorem cells32:Tryz.prog.cellsOf 82=1:=ah
theorem Wj:Tryz.prog.cellsOf 160=1:=ah
def xB:List (String×DataW Unit):=[("math/bits.deBruijn32tab",Go.Proofs.YtmmgoghiiionfaaGreatDoor.Rows.laid_math_bits_deBruijn32tab),("math/bits.deBruijn64tab",Go.Proofs.YtmmgoghiiionfaaGreatDoor.Rows.laid_math_bits_deBruijn64tab),("internal/strconv.uint64pow10",Go.Proofs.YtmmgoghiiionfaaGreatDoor.Rows.laid_internal_strconv_uint64pow10)]
theorem X5:Tryz.prog.globalNamed "internal/strconv.uint64pow10"=some 2:=ah
theorem adO{W:World}(h:laidMetH Tryz.prog xB W):Tab W:=by
 have h1:=h.filter (fun x=>x.1== "internal/strconv.uint64pow10");have e:xB.filter (fun x=>x.1== "internal/strconv.uint64pow10")=[("internal/strconv.uint64pow10",Lib.tabData .u64 Lib.pow10Tab)]:=ah;rw [e] at h1;exact Lib.tabIs_of_head (rest:=[]) X5 ah Tryz.underlying234 Tryz.underlying160 Wj ah h1
theorem TN{H:Type}{enc:TypeId×Value->H}{W:World}{fuel:Nat}{v:Value}{y:DataW H×List MemPlace}(h:DataW.trod enc Tryz.prog W 0 (fun _=>true) true fuel 38 [v]=some y) : ∃ A n c l,v = .slice A n c/\Rd W W.heap.size A l/\l.length=n/\n<=c:=by
 rcases open_ints agv Tryz.underlying82 cells32 h with ⟨hcs,_⟩ | ⟨a,len,cap,zs,hcs,_,hl,_,hz,_,hcell,hwz⟩
 ·obtain rfl:v = .slice none 0 0:=by simpa using hcs
  exact ⟨none,0,0,[],rfl,Rd.nil_ _ _ _,rfl,ahj _⟩
 ·obtain rfl:v = .slice (some a) len cap:=by simpa using hcs
  simp only [if_true] at hz
  have hw : ∀ i,i<zs.length->0<=zs.getD i 0/\zs.getD i 0<4294967296:=by
   intro i hi;have h1:=hwz (zs.getD i 0) (by simp [List.getD,hi]);have h2:IntKind.u32.min<=zs.getD i 0/\zs.getD i 0<=IntKind.u32.max:=by simpa [Lit.wf] using h1
   have e1:IntKind.u32.min=0:=ai;have e2:IntKind.u32.max=4294967295:=ai;rw [e1,e2] at h2;omega
  refine ⟨some a,len,cap,(zs.take len).map Int.toNat,rfl,⟨?_,fun h0 => ?_⟩,by simp;omega,hl⟩
  ·intro x hx
   simp only [ahZ] at hx;obtain ⟨z,hz1,rfl⟩:=hx;obtain ⟨i,hi,rfl⟩:=List.getElem_of_mem (List.mem_of_mem_take hz1);have:=hw i hi;simp [List.getD,hi] at this;omega
  ·have hlen:0<len:=by simp at h0;omega
   have h00:=hcell 0 af;obtain ⟨b,off,spot⟩:=a;have hspot:spot=none:=by simpa [Addr.add] using World.cell?_spot h00
   subst hspot;have hadd : ∀ i,(⟨b,off,none⟩:Addr).add i=⟨b,off+i,none⟩:=fun i=>by unfold Addr.add;split <;> simp_all
   refine ⟨b,off,rfl,?_,fun j hj => ?_⟩
   ·rw [hadd] at h00
    exact World.block_lt_of_cell? (w:=W) (a:=⟨b,off+0,none⟩) (h:=h00)
   ·have hj':j<len:=by simp at hj;omega
    have h1:=hcell j af;rw [hadd] at h1;rw [h1];have h2:=hw j af
    have h3:dg ((zs.take len).map Int.toNat) j=(zs.getD j 0).toNat:=by
     unfold dg;simp [List.getD,hj',show j<zs.length by omega]
    rw [h3]
    congr 2
    omega
noncomputable def laidWorld (os:Os):World:=World.doorLaid Tryz.prog 200 os
set_option maxRecDepth 100000 in
theorem laid_met(os:Os)(args:Array Value):laidMet Tryz.prog xB ((laidWorld os).forCall (fun _ _=>0) ⟨#[],args,[]⟩).memory :=
 laidMet_of_run3 8 ah ah ah
theorem LD:Tryz.prog.cellsOf 5=1:=ah
theorem Nl:Tryz.prog.globalNamed "math/bits.deBruijn64tab"=some 0:=ah
theorem aec{W:World}(h:laidMetH Tryz.prog xB W):Tz W:=by
 have h1:=h.filter (fun x=>x.1== "math/bits.deBruijn64tab");have e:xB.filter (fun x=>x.1== "math/bits.deBruijn64tab")=[("math/bits.deBruijn64tab",Lib.tabData .u8 (Lib.deBruijn64tab.map Int.ofNat))]:=ah;rw [e] at h1;have h2:=Lib.tabIs_of_head (rest:=[]) Nl ah Tryz.underlying225 agT LD ah h1;intro j hj;have h3:=h2.cell Nl j (by simpa using hj);rw [h3,ahW,aiv,ahW,ahR hj]
 rfl
end Go.Proofs.AZQ
