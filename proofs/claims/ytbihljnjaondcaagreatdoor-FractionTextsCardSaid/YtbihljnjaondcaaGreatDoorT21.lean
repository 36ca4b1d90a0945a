/- Part of a proof, said shortly. -/
import Derived.Deep.RegionHeld3
import Derived.Test.YtbihljnjaondcaaGreatDoorAlt
import Derived.Test.YtbihljnjaondcaaGreatDoorT20
import Derived.Test.YtbihljnjaondcaaGreatDoorT14
import Derived.Test.YtbihljnjaondcaaGreatDoorT4
import Derived.Test.YtbihljnjaondcaaGreatDoorT3
import Derived.Test.YtbihljnjaondcaaGreatDoorT2
import Derived.Test.YtbihljnjaondcaaGreatDoorT1
import Derived.Test.YtbihljnjaondcaaGreatDoorT13
import Derived.Test.YtbihljnjaondcaaGreatDoorT9
import Derived.Test.YtbihljnjaondcaaGreatDoorT8
import Derived.Test.YtbihljnjaondcaaGreatDoorT6
import Derived.Test.YtbihljnjaondcaaGreatDoorT5
import Derived.Test.YtbihljnjaondcaaGreatDoorT7
import Derived.Test.YtbihljnjaondcaaGreatDoorT19
import Derived.Test.YtbihljnjaondcaaGreatDoorT18
import Derived.Test.YtbihljnjaondcaaGreatDoorT16
import Derived.Test.YtbihljnjaondcaaGreatDoorT15
import Derived.Test.YtbihljnjaondcaaGreatDoorT17
import Derived.Test.YtbihljnjaondcaaGreatDoorT10
import Derived.Test.YtbihljnjaondcaaGreatDoorT11
import Derived.Test.YtbihljnjaondcaaGreatDoorT12
namespace Lw
open Go Go.RowKit
def qv (s:Bool) (ns ms:List Nat):Rat:=if fV s ns ms then Rat.divInt (if s then -(val ns:Int) else (val ns:Int)) (val ms:Int) else 0
theorem a9y {s:Bool} {ns ms:List Nat} (h:fV s ns ms=true) (hw:Wds ns) (hw':Wds ms):rs (qv s ns ms)=s∧rn (qv s ns ms)=ns∧rd (qv s ns ms)=ms:=by
 have hq:qv s ns ms=Rat.divInt (if s then -(val ns:Int) else (val ns:Int)) (val ms:Int):=by unfold qv; rw [if_pos h]
 unfold fV at h
 split at h
 ·rename_i h0
  have h2:ns.length=ms.length∧s=false:=by simpa using h
  have e1:ns=[]:=List.eq_nil_of_length_eq_zero (by omega)
  have e2:ms=[]:=List.eq_nil_of_length_eq_zero (by omega)
  obtain ⟨_,h2⟩:=h2
  subst e1 e2 h2
  rw [hq,show Rat.divInt (if false=true then -(val []:Int) else (val []:Int)) (val []:Int)=0 from Rat.zero_divInt _]
  exact f_zero
 ·rename_i h0
  have h4:vB false ns=true∧vB false ms=true∧cp ns ms=true:=by simpa using h
  obtain ⟨h1,h2,h3⟩:=h4
  have t1:=a8v h1
  have t2:=a8v h2
  have v1:val ns≠0:=a6W t1 rfl (by omega)
  have v2:val ms≠0:=a6W t2 rfl (by omega)
  have hg:Nat.gcd (val ns) (val ms)=1:=by unfold cp at h3; simpa using h3
  have hz:(if s then -(val ns:Int) else (val ns:Int)).natAbs=val ns:=by split <;> omega
  have hf:=a9A (n:=if s then -(val ns:Int) else (val ns:Int)) (d:=(val ms:Int)) (by split <;> omega) (by omega)
  rw [hz,Int.natAbs_natCast,hg,Nat.div_one,Nat.div_one,a4p hw t1,a4p hw' t2] at hf
  rw [hq]
  refine ⟨?_,hf.2⟩
  rw [hf.1,decide_eq_false (show ¬ ((val ms:Int) < 0) by omega)]
  cases s
  ·simp
  ·simp; omega
theorem beM {q:Rat} : rn q=[]↔q=0:=by
 unfold rn
 rw [ak4,Int.natAbs_eq_zero,Rat.num_eq_zero]
theorem bmF {q:Rat} : rd q=[]↔q=0:=by
 unfold rd
 split
 ·rename_i h; exact ⟨fun _=>Rat.num_eq_zero.1 h,fun _=>rfl⟩
 ·rename_i h
  rw [ak4]
  constructor
  ·intro e; exact absurd e q.den_nz
  ·intro e; exact absurd (by rw [e]; rfl) h
theorem a6N {q:Rat} (h:q≠0):rd q=Uy q.den:=by
 unfold rd; rw [if_neg (fun e=>h (Rat.num_eq_zero.1 e))]
theorem a6V {N:Nat} (h:N≠0):vB false (Uy N)=true:=by
 refine bfH (aj7 N) rfl ?_
 rcases Nat.eq_zero_or_pos (Uy N).length with e | e
 ·exact absurd (ak4.1 (List.eq_nil_of_length_eq_zero e)) h
 ·exact e
theorem a6h (q:Rat):fV (rs q) (rn q) (rd q)=true:=by
 by_cases h:q=0
 ·subst h; rfl
 ·have h1:q.num.natAbs≠0:=fun e=>h (Rat.num_eq_zero.1 (Int.natAbs_eq_zero.1 e))
  have l1:rn q≠[]:=fun e=>h (beM.1 e)
  have l2:rd q≠[]:=fun e=>h (bmF.1 e)
  have l3:(rn q).length≠0:=fun e=>l1 (List.eq_nil_of_length_eq_zero e)
  have l4:(rd q).length≠0:=fun e=>l2 (List.eq_nil_of_length_eq_zero e)
  rw [a9x rfl rfl (by omega) (by omega),a6N h]
  unfold rn
  rw [a6V h1,a6V q.den_nz]
  unfold cp
  rw [aar,aar,show Nat.gcd q.num.natAbs q.den=1 from q.reduced]
  rfl
theorem bnM (q:Rat):(if rs q then -(val (rn q):Int) else (val (rn q):Int))=q.num:=by
 unfold rs rn
 rw [aar]
 by_cases h:q.num < 0
 ·rw [decide_eq_true h,if_pos rfl]; omega
 ·rw [decide_eq_false h,if_neg (by simp)]; omega
theorem a4X (q:Rat):qv (rs q) (rn q) (rd q)=q:=by
 unfold qv
 rw [if_pos (a6h q),bnM]
 by_cases h:q=0
 ·subst h; exact Rat.zero_divInt _
 ·rw [a6N h,aar]
  exact Rat.num_divInt_den q
theorem bd9 (q:Rat):zv (rs q) (rn q)=q.num∧vB (rs q) (rn q)=true:=⟨a1k q.num,a1f q.num⟩
theorem bci {q:Rat} (h:q≠0):zv false (rd q)=(q.den:Int)∧vB false (rd q)=true:=by
 rw [a6N h]
 have h1:=a6V q.den_nz
 refine ⟨?_,h1⟩
 unfold zv
 rw [h1,aar]; rfl
structure Qn where
 v:Value
 q:Rat
 k:Nat
 b:Bool
def Fop (w:World) (e:Qn):Prop := ∃ (s:Bool) (A:Option Addr) (n c:Nat) (A':Option Addr) (n' c':Nat) (ns ms:List Nat),e.v = .agg #[.bool s,.slice A n c,.slice A' n' c']∧Rd w w.heap.size A ns∧Rd w w.heap.size A' ms∧ns.length=n∧ms.length=n'∧n≤e.k∧n'≤e.k∧n≤c∧n'≤c'∧qv s ns ms=e.q∧fV s ns ms=e.b
theorem Fop.next {w w':World} {e:Qn} (h:Fop w e) (hb:Below w.heap.size w w'):Fop w' e:=by
 obtain ⟨s,A,n,c,A',n',c',ns,ms,h1,h2,h3,h4⟩:=h
 exact ⟨s,A,n,c,A',n',c',ns,ms,h1,(h2.next hb (Nat.le_refl _)).more hb.size,(h3.next hb (Nat.le_refl _)).more hb.size,h4⟩
theorem Fop.own {w:World} {s:Bool} {A A':Option Addr} {n c n' c' k:Nat} {q:Rat} (h:Fop w ⟨.agg #[.bool s,.slice A n c,.slice A' n' c'],q,k,true⟩) :
  s=rs q∧n=(rn q).length∧n'=(rd q).length∧Rd w w.heap.size A (rn q)∧Rd w w.heap.size A' (rd q)∧n≤k∧n'≤k∧n≤c∧n'≤c':=by
 obtain ⟨s',A1,n1,c1,A2,n2,c2,ns,ms,h1,h2,h3,h4,h5,h6,h7,h8,h9,h10,h11⟩:=h
 dsimp only at h1 h6 h7 h10 h11
 injection h1 with h1
 injection h1 with h1
 simp only [List.cons.injEq,Value.bool.injEq,Value.slice.injEq,and_true] at h1
 obtain ⟨rfl,⟨rfl,rfl,rfl⟩,rfl,rfl,rfl⟩:=h1
 have:=a9y h11 h2.wds h3.wds
 rw [h10] at this
 obtain ⟨g1,g2,g3⟩:=this
 rw [g1,g2,g3]
 exact ⟨rfl,h4.symm,h5.symm,h2,h3,h6,h7,h8,h9⟩
theorem Fop.lt {w:World} {v:Value} {k:Nat} {q:Rat} (h:Fop w ⟨v,q,k,true⟩):q.num.natAbs < pw k∧q.den < pw (k+1):=by
 obtain ⟨s',A1,n1,c1,A2,n2,c2,ns,ms,h1,h2,h3,h4,h5,h6,h7,h8,h9,h10,h11⟩:=h
 dsimp only at h6 h7 h10 h11
 have:=a9y h11 h2.wds h3.wds
 rw [h10] at this
 obtain ⟨g1,g2,g3⟩:=this
 constructor
 ·have e:=afS h2.wds
  rw [← g2] at e h4
  unfold rn at e h4
  rw [aar] at e
  exact Nat.lt_of_lt_of_le e (ajj (by omega))
 ·by_cases hq:q=0
  ·subst hq
   show 1 < pw (k+1)
   have:=anr k
   rw [afC]; omega
  ·have e:=afS h3.wds
   rw [← g3] at e h5
   rw [a6N hq] at e h5
   rw [aar] at e
   exact Nat.lt_of_lt_of_le e (ajj (by omega))
structure Bt where
 g:Nat
 x:Value
 y:Value
 z:Value
end Lw
namespace Go.Proofs.YtbihljnjaondcaaGreatDoor
open Go Go.RowKit Lw
structure Uz (W0 w:World) (bs:List Bx) (L:List En) (ts:List Bt) (M:List Qn):Prop where
 env:Env 39 W0 w bs L
 fr : ∀ e∈M,Fop w e
 tri : ∀ b∈ts,Tri w b.g 24 b.x b.y b.z
 tz:Tz W0
 tab:Tab W0
 lo : ∀ b∈bs,W0.heap.size≤b.g
 lot : ∀ b∈ts,W0.heap.size≤b.g
section
variable {W0 w w':World} {bs:List Bx} {L:List En} {ts:List Bt} {M:List Qn}
theorem Uz.next (h:Uz W0 w bs L ts M) (hb:Below w.heap.size w w'):Uz W0 w' bs L ts M :=
 ⟨h.env.next hb,fun e he=>(h.fr e he).next hb,fun b hb'=>(h.tri b hb').next hb,h.tz,h.tab,h.lo,h.lot⟩
theorem Uz.drew (h:Uz W0 w bs L ts M):Uz W0 w.drew bs L ts M:=h.next (Below.refl _ w).drew
theorem Uz.below (h:Uz W0 w bs L ts M):Below W0.heap.size W0 w:=h.env.below
theorem Uz.alloc (h:Uz W0 w bs L ts M) (o:Obj):Uz W0 (w.alloc o) bs L ts M:=h.next ((Below.refl _ w).alloc (Nat.le_refl _) o)
theorem Uz.here (h:Uz W0 w bs L ts M):Uz w w [] L [] M:=⟨⟨h.env.ops,fun _ hb=>by simp at hb,Below.refl _ _⟩,h.fr,fun _ hb=>by simp at hb,h.tz.next h.env.below,h.tab.next h.env.below,fun _ hb=>by simp at hb,fun _ hb=>by simp at hb⟩
theorem Uz.back {L':List En} {M':List Qn} (h:Uz W0 w bs L ts M) (h':Uz w w' [] L' [] M'):Uz W0 w' bs L' ts M' :=
 ⟨⟨h'.env.ops,(h.env.next h'.below).box,aaR h.below h'.below (Nat.le_refl _)⟩,h'.fr,(h.next h'.below).tri,h.tz,h.tab,h.lo,h.lot⟩
theorem Uz.cons (h:Uz W0 w bs L ts M) {e:Qn} (he:Fop w e):Uz W0 w bs L ts (e :: M) :=
 ⟨h.env,fun e' h'=>by
  rcases List.mem_cons.1 h' with rfl | h'
  ·exact he
  ·exact h.fr e' h',h.tri,h.tz,h.tab,h.lo,h.lot⟩
theorem Uz.push (h:Uz W0 w bs L ts M) {e:En} (he:Opd w e):Uz W0 w bs (e :: L) ts M:=⟨h.env.cons he,h.fr,h.tri,h.tz,h.tab,h.lo,h.lot⟩
theorem Uz.pick {L':List En} {M':List Qn} (h:Uz W0 w bs L ts M) (h1 : ∀ e∈L',e∈L) (h2 : ∀ e∈M',e∈M):Uz W0 w bs L' ts M' :=
 ⟨⟨fun e he=>h.env.ops e (h1 e he),h.env.box,h.env.below⟩,fun e he=>h.fr e (h2 e he),h.tri,h.tz,h.tab,h.lo,h.lot⟩
variable {s s':Bool} {A A':Option Addr} {n c n' c' k k':Nat} {q:Rat} {v:Value}
theorem Uz.parts (h:Uz W0 w bs L ts M) (hm:⟨.agg #[.bool s,.slice A n c,.slice A' n' c'],q,k,true⟩∈M) (hq:q≠0) :
  Uz W0 w bs (⟨.agg #[.bool s,.slice A n c],q.num,k,true⟩ :: ⟨.agg #[.bool false,.slice A' n' c'],(q.den:Int),k,true⟩ :: L) ts M:=by
 obtain ⟨rfl,rfl,rfl,r1,r2,k1,k2,k3,k4⟩:=(h.fr _ hm).own
 refine (h.push ⟨false,A',_,c',rd q,_,rfl,r2,Nat.le_refl _,rfl,k2,k4,(bci hq).1,(bci hq).2⟩).push ⟨rs q,A,_,c,rn q,_,rfl,r1,Nat.le_refl _,rfl,k1,k3,(bd9 q).1,(bd9 q).2⟩
theorem Uz.one (h:Uz W0 w bs L ts M):Uz W0 w bs (⟨.agg #[.bool false,.slice none 0 0],0,0,true⟩ :: L) ts M:=⟨h.env.nil_,h.fr,h.tri,h.tz,h.tab,h.lo,h.lot⟩
theorem Uz.zero (h:Uz W0 w bs L ts M) (k:Nat):Uz W0 w bs L ts (⟨.agg #[.bool false,.slice none 0 0,.slice none 0 0],0,k,true⟩ :: M) :=
 h.cons ⟨false,none,0,0,none,0,0,[],[],rfl,Rd.nil_ _ _ _,Rd.nil_ _ _ _,rfl,rfl,Nat.zero_le _,Nat.zero_le _,Nat.le_refl _,Nat.le_refl _,a4X 0,a6h 0⟩
theorem baB {w:World} {q:Rat} {A A':Option Addr} {c c' k:Nat} (r:Rd w w.heap.size A (rn q)) (r':Rd w w.heap.size A' (rd q)) (hk:(rn q).length≤k) (hk':(rd q).length≤k) (hc:(rn q).length≤c) (hc':(rd q).length≤c') :
  Fop w ⟨.agg #[.bool (rs q),.slice A (rn q).length c,.slice A' (rd q).length c'],q,k,true⟩ :=
 ⟨rs q,A,_,c,A',_,c',rn q,rd q,rfl,r,r',rfl,rfl,hk,hk',hc,hc',a4X q,a6h q⟩
theorem baj {q:Rat} {k:Nat} (h:q.den < pw k):(rd q).length≤k:=by
 unfold rd; split
 ·exact Nat.zero_le _
 ·exact aj9 h
theorem Fop.tight {w:World} {v:Value} {q:Rat} {k K:Nat} (h:Fop w ⟨v,q,k,true⟩) (h1:q.num.natAbs < pw K) (h2:q.den < pw K):Fop w ⟨v,q,K,true⟩:=by
 obtain ⟨s,A,n,c,A',n',c',ns,ms,e1,r1,r2,e2,e3,e4,e5,e6,e7,e8,e9⟩:=h
 have hf:=a9y e9 r1.wds r2.wds
 dsimp only at e1 e8 e9
 rw [e8] at hf
 obtain ⟨g1,g2,g3⟩:=hf
 refine ⟨s,A,n,c,A',n',c',ns,ms,e1,r1,r2,e2,e3,?_,?_,e6,e7,e8,e9⟩
 ·rw [← e2,← g2]; exact a1t h1
 ·rw [← e3,← g3]; exact baj h2
theorem Uz.bcG {x y:Int} (h:Uz W0 w bs L ts M) (hm:⟨.agg #[.bool s,.slice A n c],x,k,true⟩∈L) (hm':⟨.agg #[.bool s',.slice A' n' c'],y,k',true⟩∈L) (hx:x≠0) (hy:0 < y) (hg:Nat.gcd x.natAbs y.natAbs=1) :
  Uz W0 w bs L ts (⟨.agg #[.bool s,.slice A n c,.slice A' n' c'],Rat.divInt x y,k+k',true⟩ :: M):=by
 have H1:=h.env.ops _ hm
 have H2:=h.env.ops _ hm'
 obtain ⟨a,A1,n1,c1,ns,B,e1,h2,h3,h4,h5,h6,e7,h8⟩:=H1
 obtain ⟨a',A2,n2,c2,ms,B',e1',h2',h3',h4',h5',h6',e7',h8'⟩:=H2
 dsimp only at e1 e7 e1' e7' h5 h5' h8 h8'
 obtain ⟨a1,a2,_⟩:=a2E (z:=x) h8 (by rw [← e7]; unfold zv; rw [if_pos h8]) h2.wds
 obtain ⟨b1,b2,_⟩:=a2E (z:=y) h8' (by rw [← e7']; unfold zv; rw [if_pos h8']) h2'.wds
 injection e1 with e1
 injection e1 with e1
 simp only [List.cons.injEq,Value.bool.injEq,Value.slice.injEq,and_true] at e1
 injection e1' with e1'
 injection e1' with e1'
 simp only [List.cons.injEq,Value.bool.injEq,Value.slice.injEq,and_true] at e1'
 obtain ⟨rfl,rfl,rfl,rfl⟩:=e1
 obtain ⟨rfl,rfl,rfl,rfl⟩:=e1'
 have hf:=a9A hx (show y≠0 by omega)
 rw [hg,Nat.div_one,Nat.div_one] at hf
 obtain ⟨f1,f2,f3⟩:=hf
 have g1:rs (Rat.divInt x y)=s:=by
  rw [f1,decide_eq_false (show ¬ y < 0 by omega),← a1]
  unfold sg
  cases decide (x < 0) <;> rfl
 have g2:rn (Rat.divInt x y)=ns:=by rw [f2]; exact a2
 have g3:rd (Rat.divInt x y)=ms:=by rw [f3]; exact b2
 refine h.cons ⟨s,A,n,c,A',n',c',ns,ms,rfl,h2.more h3,h2'.more h3',h4,h4',by dsimp only; omega,by dsimp only; omega,h6,h6',?_,?_⟩
 ·rw [← g1,← g2,← g3]; exact a4X _
 ·rw [← g1,← g2,← g3]; exact a6h _
end
end Go.Proofs.YtbihljnjaondcaaGreatDoor
namespace Lw
open Go Go.RowKit
theorem Env.here {t:TypeId} {W0 w:World} {bs:List Bx} {L:List En} (h:Env t W0 w bs L):Env t w w [] L:=⟨h.ops,fun _ hb=>by simp at hb,Below.refl _ _⟩
theorem Env.shape {t:TypeId} {W0 w:World} {bs:List Bx} {L:List En} {e:En} (h:Env t W0 w bs L) (he:e∈L) : ∃ (s:Bool) (A:Option Addr) (n c:Nat),e.v = .agg #[.bool s,.slice A n c]:=by
 obtain ⟨s,A,n,c,_,_,h1,_⟩:=h.ops e he
 exact ⟨s,A,n,c,h1⟩
section
variable {w:World}
theorem Opd.a1T {e:En} {g n c n' c' m d:Nat} {s:Bool} {t:TypeId} {X X' D:Option Addr} (h:Opd w e) (h2:Tri w g t (.bool s) (.slice X n c) (.slice X' n' c')) (s':Bool) (v:Value):Opd (((w.setCell ⟨g,0,none⟩ (.bool s')).setCell ⟨g,1,none⟩ (.slice D m d)).setCell ⟨g,2,none⟩ v) e:=by
 obtain ⟨a,A,m,d,ns,B,e1,h3,h4,h5⟩:=h
 exact ⟨a,A,m,d,ns,B,e1,h3.a1T h2 s' v,by simpa using h4,h5⟩
theorem Fop.a1T {e:Qn} {g n c n' c' m d:Nat} {s:Bool} {t:TypeId} {X X' D:Option Addr} (h:Fop w e) (h2:Tri w g t (.bool s) (.slice X n c) (.slice X' n' c')) (s':Bool) (v:Value):Fop (((w.setCell ⟨g,0,none⟩ (.bool s')).setCell ⟨g,1,none⟩ (.slice D m d)).setCell ⟨g,2,none⟩ v) e:=by
 obtain ⟨a,A,m,d,A',m',d',ns,ms,e1,r1,r2,e2⟩:=h
 exact ⟨a,A,m,d,A',m',d',ns,ms,e1,(r1.a1T h2 s' v).more (by simp),(r2.a1T h2 s' v).more (by simp),e2⟩
theorem Fop.ak' {e:Qn} {g n c:Nat} {s:Bool} {t:TypeId} {X:Option Addr} (h:Fop w e) (h2:Two w g t (.bool s) (.slice X n c)) (s':Bool) (v:Value):Fop ((w.setCell ⟨g,0,none⟩ (.bool s')).setCell ⟨g,1,none⟩ v) e:=by
 obtain ⟨a,A,m,d,A',m',d',ns,ms,e1,r1,r2,e2⟩:=h
 exact ⟨a,A,m,d,A',m',d',ns,ms,e1,(r1.ak' h2 s' v).more (by simp),(r2.ak' h2 s' v).more (by simp),e2⟩
theorem Rd.bk6 {B g:Nat} {t:TypeId} {a c:Int} {A:Option Addr} {ns:List Nat} (h:Rd w B A ns) (h2:Two w g t (.int .i64 a) (.int .i64 c)) {b off:Nat} (hn:0 < ns.length) (hA:A=some ⟨b,off,none⟩):b≠g:=by
 rintro rfl
 obtain ⟨b',off',hA',hb,hc⟩:=h.2 hn
 rw [hA] at hA'
 injection hA' with e
 injection e with e1 e2
 subst e1 e2
 have h0:=hc 0 hn
 unfold Two at h2
 rw [cell_of_row w b _ _ t (0,0) h2] at h0
 match off,h0 with
 | 0,h0=>simp at h0
 | 1,h0=>simp at h0
 | k+2,h0=>simp at h0
theorem Rd.ba3 {B g i:Nat} {t:TypeId} {a c:Int} {A:Option Addr} {ns:List Nat} (h:Rd w B A ns) (h2:Two w g t (.int .i64 a) (.int .i64 c)) (u:Value):Rd (w.setCell ⟨g,i,none⟩ u) B A ns :=
 ⟨h.1,fun hn=>by
  obtain ⟨b,off,hA,hb,hc⟩:=h.2 hn
  have hne:=h.bk6 h2 hn hA
  refine ⟨b,off,hA,hb,fun j hj => ?_⟩
  rw [← hc j hj]
  exact World.cell?_setCell_other w _ _ u (fun e=>hne (by injection e with e1; first | exact e1 | exact e1.symm))⟩
theorem Tri.a2q {g g':Nat} {t t':TypeId} {a b c x y:Value} (h:Tri w g t a b c) (h':Two w g' t' x y):g≠g':=by
 rintro rfl
 unfold Tri at h
 unfold Two at h'
 rw [h] at h'
 simp at h'
theorem Tri.far {g:Nat} {t:TypeId} {a b c:Value} (h:Tri w g t a b c) {p:Addr} (hp:g≠p.block) (u:Value):Tri (w.setCell p u) g t a b c:=(Below.heap_setCell w p u g hp).trans h
end
end Lw
namespace Go.Proofs.YtbihljnjaondcaaGreatDoor
open Go Go.RowKit Lw
def ag6 (W0:World) (bs:List Bx) (L:List En) (ts:List Bt) (M:List Qn) (z:Int) (k:Nat) (e:Ending) (w':World):Prop :=
 ∃ (s:Bool) (A:Option Addr) (n c:Nat),e = .returned (.agg #[.bool s,.slice A n c])∧Uz W0 w' bs (⟨.agg #[.bool s,.slice A n c],z,k,true⟩ :: L) ts M
def akn (W0:World) (bs:List Bx) (L:List En) (ts:List Bt) (M:List Qn) (q:Rat) (k:Nat) (e:Ending) (w':World):Prop :=
 ∃ (s:Bool) (A:Option Addr) (n c:Nat) (A':Option Addr) (n' c':Nat),e = .returned (.agg #[.bool s,.slice A n c,.slice A' n' c'])∧Uz W0 w' bs L ts (⟨.agg #[.bool s,.slice A n c,.slice A' n' c'],q,k,true⟩ :: M)
section
variable {W0 w w':World} {bs:List Bx} {L L':List En} {ts:List Bt} {M M':List Qn}
theorem Uz.step (h:Uz W0 w bs L ts M) (he:Env 39 w w' [] L'):Uz W0 w' bs L' ts M :=
 h.back ⟨he,(h.here.next he.below).fr,fun _ hb=>by simp at hb,h.here.tz,h.here.tab,fun _ hb=>by simp at hb,fun _ hb=>by simp at hb⟩
theorem Uz.a4x {z:Int} {k:Nat} {e:Ending} (h:Uz W0 w bs L ts M) (hh : ∃ u,e = .returned u∧Env 39 w w' [] (⟨u,z,k,true⟩ :: L)):ag6 W0 bs L ts M z k e w':=by
 obtain ⟨u,rfl,he⟩:=hh
 obtain ⟨s,A,n,c,e1⟩:=he.shape (.head _)
 dsimp only at e1
 subst e1
 exact ⟨s,A,n,c,rfl,h.step he⟩
theorem Uz.bjr {z:Int} {k:Nat} {e:Ending} (h:Uz W0 w bs L ts M) (hh : ∃ (s:Bool) (D:Option Addr) (m d:Nat),e = .returned (.agg #[.bool s,.slice D m d])∧Env 39 w w' [] (⟨.agg #[.bool s,.slice D m d],z,k,true⟩ :: L)):ag6 W0 bs L ts M z k e w':=by
 obtain ⟨s,D,m,d,rfl,he⟩:=hh
 exact ⟨s,D,m,d,rfl,h.step he⟩
theorem ag6.of {z:Int} {k:Nat} {e:Ending} (h:Uz W0 w bs L ts M) (hh:ag6 w [] L [] M z k e w'):ag6 W0 bs L ts M z k e w':=by
 obtain ⟨s,A,n,c,rfl,he⟩:=hh
 exact ⟨s,A,n,c,rfl,h.back he⟩
theorem akn.of {q:Rat} {k:Nat} {e:Ending} (h:Uz W0 w bs L ts M) (hh:akn w [] L [] M q k e w'):akn W0 bs L ts M q k e w':=by
 obtain ⟨s,A,n,c,A',n',c',rfl,he⟩:=hh
 exact ⟨s,A,n,c,A',n',c',rfl,h.back he⟩
theorem Uz.abb (h:Uz W0 w bs L ts M) (x y:Value):Uz W0 (w.alloc (.cells #[x,y] 39)) (⟨w.heap.size,x,y⟩ :: bs) L ts M :=
 have h2:=h.alloc (.cells #[x,y] 39)
 ⟨h.env.a7m x y,h2.fr,h2.tri,h2.tz,h2.tab,fun b hb=>by
  rcases List.mem_cons.1 hb with rfl | hb
  ·exact h.below.size
  ·exact h.lo b hb,h.lot⟩
theorem Uz.ae' (h:Uz W0 w bs L ts M) (x y z:Value):Uz W0 (w.alloc (.cells #[x,y,z] 24)) bs L (⟨w.heap.size,x,y,z⟩ :: ts) M :=
 have h2:=h.alloc (.cells #[x,y,z] 24)
 ⟨h2.env,h2.fr,fun b hb=>by
  rcases List.mem_cons.1 hb with rfl | hb
  ·exact Tri.new w _ x y z
  ·exact h2.tri b hb,h2.tz,h2.tab,h.lo,fun b hb=>by
  rcases List.mem_cons.1 hb with rfl | hb
  ·exact h.below.size
  ·exact h.lot b hb⟩
theorem Uz.as9 {g n c n' c' m d:Nat} {s:Bool} {X X' D:Option Addr} (h:Uz W0 w bs L ts M) (hm:⟨g,.bool s,.slice X n c,.slice X' n' c'⟩∈ts) (s':Bool) (v:Value) :
  Uz W0 (((w.setCell ⟨g,0,none⟩ (.bool s')).setCell ⟨g,1,none⟩ (.slice D m d)).setCell ⟨g,2,none⟩ v) bs L [] M :=
 have h2:=h.tri _ hm
 have hg:W0.heap.size≤g:=h.lot _ hm
 ⟨⟨fun e he=>(h.env.ops e he).a1T h2 s' v,fun b hb =>
  have h3:=h.env.box b hb
  have hne:b.g≠g:=fun e=>h2.a2q h3 e.symm
  ((h3.far (p:=⟨g,0,none⟩) hne _).far (p:=⟨g,1,none⟩) hne _).far (p:=⟨g,2,none⟩) hne _,((h.below.setCell hg _).setCell hg _).setCell hg _⟩,fun e he=>(h.fr e he).a1T h2 s' v,fun _ hb=>by simp at hb,h.tz,h.tab,h.lo,fun _ hb=>by simp at hb⟩
theorem Uz.anq {g n c:Nat} {s:Bool} {X:Option Addr} (h:Uz W0 w bs L ts M) (hm:⟨g,.bool s,.slice X n c⟩∈bs) (bs':List Bx) (hs : ∀ b∈bs',b∈bs∧b.g≠g) (s':Bool) (v:Value) :
  Uz W0 ((w.setCell ⟨g,0,none⟩ (.bool s')).setCell ⟨g,1,none⟩ v) (⟨g,.bool s',v⟩ :: bs') L ts M :=
 have h2:=h.env.box _ hm
 have hg:W0.heap.size≤g:=h.lo _ hm
 ⟨⟨fun e he=>(h.env.ops e he).put h2 s' v,fun b hb=>by
  rcases List.mem_cons.1 hb with rfl | hb
  ·exact h2.put _ _
  ·exact ((h.env.box b (hs b hb).1).far (p:=⟨g,0,none⟩) (hs b hb).2 _).far (p:=⟨g,1,none⟩) (hs b hb).2 _,(h.below.setCell hg _).setCell hg _⟩,
  fun e he=>(h.fr e he).ak' h2 s' v,fun b hb=>((h.tri b hb).far (p:=⟨g,0,none⟩) ((h.tri b hb).a2q h2) _).far (p:=⟨g,1,none⟩) ((h.tri b hb).a2q h2) _,h.tz,h.tab,fun b hb=>by
  rcases List.mem_cons.1 hb with rfl | hb
  ·exact hg
  ·exact h.lo b (hs b hb).1,h.lot⟩
theorem Uz.done2 {g n c:Nat} {s:Bool} {X:Option Addr} (h:Uz W0 w bs L ts M) (hm:⟨g,.bool s,.slice X n c⟩∈bs) (s':Bool) (v:Value) :
  Uz W0 ((w.setCell ⟨g,0,none⟩ (.bool s')).setCell ⟨g,1,none⟩ v) [] L [] M :=
 have h2:=h.anq hm [] (fun _ hb=>by simp at hb) s' v
 ⟨⟨h2.env.ops,fun _ hb=>by simp at hb,h2.env.below⟩,h2.fr,fun _ hb=>by simp at hb,h2.tz,h2.tab,fun _ hb=>by simp at hb,fun _ hb=>by simp at hb⟩
theorem Uz.c2 {g:Nat} {x y:Value} (h:Uz W0 w bs L ts M) (hm:⟨g,x,y⟩∈bs):w.cell? ⟨g,0,none⟩=some x∧w.cell? ⟨g,1,none⟩=some y∧w.frozen? ⟨g,0,none⟩=false∧w.frozen? ⟨g,1,none⟩=false:=(h.env.box _ hm).facts
theorem Uz.c3 {g:Nat} {x y z:Value} (h:Uz W0 w bs L ts M) (hm:⟨g,x,y,z⟩∈ts):w.cell? ⟨g,0,none⟩=some x∧w.cell? ⟨g,1,none⟩=some y∧w.cell? ⟨g,2,none⟩=some z∧w.frozen? ⟨g,0,none⟩=false∧w.frozen? ⟨g,1,none⟩=false∧w.frozen? ⟨g,2,none⟩=false:=(h.tri _ hm).cells
theorem Uz.tl {e:En} (h:Uz W0 w bs (e :: L) ts M):Uz W0 w bs L ts M:=⟨h.env.tail,h.fr,h.tri,h.tz,h.tab,h.lo,h.lot⟩
theorem Uz.t2 {g1 g2:Nat} {x1 y1 z1 x2 y2 z2:Value} (h:Uz W0 w bs L (⟨g2,x2,y2,z2⟩ :: ⟨g1,x1,y1,z1⟩ :: ts) M) :
  w.cell? ⟨g1,0,none⟩=some x1∧w.cell? ⟨g1,1,none⟩=some y1∧w.cell? ⟨g1,2,none⟩=some z1∧w.cell? ⟨g2,0,none⟩=some x2∧w.cell? ⟨g2,1,none⟩=some y2∧w.cell? ⟨g2,2,none⟩=some z2 :=
 ⟨(h.c3 (.tail _ (.head _))).1,(h.c3 (.tail _ (.head _))).2.1,(h.c3 (.tail _ (.head _))).2.2.1,(h.c3 (.head _)).1,(h.c3 (.head _)).2.1,(h.c3 (.head _)).2.2.1⟩
theorem bdz {g i:Nat} {t:TypeId} {a b:Int} {e:En} (h:Opd w e) (h2:Two w g t (.int .i64 a) (.int .i64 b)) (u:Value):Opd (w.setCell ⟨g,i,none⟩ u) e:=by
 obtain ⟨s,A,n,c,ns,B,e1,h3,h4,h5⟩:=h
 exact ⟨s,A,n,c,ns,B,e1,h3.ba3 h2 u,by simpa using h4,h5⟩
theorem bdy {g i:Nat} {t:TypeId} {a b:Int} {e:Qn} (h:Fop w e) (h2:Two w g t (.int .i64 a) (.int .i64 b)) (u:Value):Fop (w.setCell ⟨g,i,none⟩ u) e:=by
 obtain ⟨s,A,n,c,A',n',c',ns,ms,e1,r1,r2,e2⟩:=h
 exact ⟨s,A,n,c,A',n',c',ns,ms,e1,(r1.ba3 h2 u).more (by simp),(r2.ba3 h2 u).more (by simp),e2⟩
theorem Uz.sh1 {g:Nat} {t:TypeId} {a b:Int} (h:Uz W0 w bs L ts M) (h1:Two w g t (.int .i64 a) (.int .i64 b)) (hg:W0.heap.size≤g) (x y:Int) (_hbs:bs=[]) :
  Uz W0 ((w.setCell ⟨g,0,none⟩ (.int .i64 x)).setCell ⟨g,1,none⟩ (.int .i64 y)) [] L ts M:=by
 have k1:Two (w.setCell ⟨g,0,none⟩ (.int .i64 x)) g t (.int .i64 x) (.int .i64 b):=by
  unfold Two at h1 ⊢
  simp [World.setCell,Array.getElem?_modify,h1]
 exact ⟨⟨fun e he=>bdz (bdz (h.env.ops e he) h1 _) k1 _,fun _ hb=>by simp at hb,(h.below.setCell hg _).setCell hg _⟩,fun e he=>bdy (bdy (h.fr e he) h1 _) k1 _,
  fun b hb=>((h.tri b hb).far (p:=⟨g,0,none⟩) ((h.tri b hb).a2q h1) _).far (p:=⟨g,1,none⟩) ((h.tri b hb).a2q h1) _,h.tz,h.tab,fun _ hb=>by simp at hb,h.lot⟩
theorem Uz.c4 {g1 g2 g3 g4:Nat} {x1 y1 x2 y2 x3 y3 x4 y4:Value} (h:Uz W0 w (⟨g4,x4,y4⟩ :: ⟨g3,x3,y3⟩ :: ⟨g2,x2,y2⟩ :: ⟨g1,x1,y1⟩ :: bs) L ts M) :
  w.cell? ⟨g1,0,none⟩=some x1∧w.cell? ⟨g1,1,none⟩=some y1∧w.cell? ⟨g2,0,none⟩=some x2∧w.cell? ⟨g2,1,none⟩=some y2∧w.cell? ⟨g3,0,none⟩=some x3∧w.cell? ⟨g3,1,none⟩=some y3∧w.cell? ⟨g4,0,none⟩=some x4∧w.cell? ⟨g4,1,none⟩=some y4 :=
 ⟨(h.c2 (.tail _ (.tail _ (.tail _ (.head _))))).1,(h.c2 (.tail _ (.tail _ (.tail _ (.head _))))).2.1,(h.c2 (.tail _ (.tail _ (.head _)))).1,(h.c2 (.tail _ (.tail _ (.head _)))).2.1,(h.c2 (.tail _ (.head _))).1,(h.c2 (.tail _ (.head _))).2.1,(h.c2 (.head _)).1,(h.c2 (.head _)).2.1⟩
theorem Uz.lt2 {g:Nat} {x y:Value} (h:Uz W0 w bs L ts M) (hm:⟨g,x,y⟩∈bs):g < w.heap.size:=(h.env.box _ hm).lt
theorem Uz.c5 {g1 g2 g3 g4 g5:Nat} {x1 y1 x2 y2 x3 y3 x4 y4 x5 y5:Value} (h:Uz W0 w (⟨g5,x5,y5⟩ :: ⟨g4,x4,y4⟩ :: ⟨g3,x3,y3⟩ :: ⟨g2,x2,y2⟩ :: ⟨g1,x1,y1⟩ :: bs) L ts M) :
  w.cell? ⟨g1,0,none⟩=some x1∧w.cell? ⟨g1,1,none⟩=some y1∧w.cell? ⟨g2,0,none⟩=some x2∧w.cell? ⟨g2,1,none⟩=some y2∧w.cell? ⟨g3,0,none⟩=some x3∧w.cell? ⟨g3,1,none⟩=some y3∧w.cell? ⟨g4,0,none⟩=some x4∧w.cell? ⟨g4,1,none⟩=some y4∧w.cell? ⟨g5,0,none⟩=some x5∧w.cell? ⟨g5,1,none⟩=some y5 :=
 ⟨(h.c2 (.tail _ (.tail _ (.tail _ (.tail _ (.head _)))))).1,(h.c2 (.tail _ (.tail _ (.tail _ (.tail _ (.head _)))))).2.1,(h.c2 (.tail _ (.tail _ (.tail _ (.head _))))).1,(h.c2 (.tail _ (.tail _ (.tail _ (.head _))))).2.1,(h.c2 (.tail _ (.tail _ (.head _)))).1,(h.c2 (.tail _ (.tail _ (.head _)))).2.1,(h.c2 (.tail _ (.head _))).1,(h.c2 (.tail _ (.head _))).2.1,(h.c2 (.head _)).1,(h.c2 (.head _)).2.1⟩
theorem Uz.c6 {g1 g2 g3 g4 g5 g6:Nat} {x1 y1 x2 y2 x3 y3 x4 y4 x5 y5 x6 y6:Value} (h:Uz W0 w (⟨g6,x6,y6⟩ :: ⟨g5,x5,y5⟩ :: ⟨g4,x4,y4⟩ :: ⟨g3,x3,y3⟩ :: ⟨g2,x2,y2⟩ :: ⟨g1,x1,y1⟩ :: bs) L ts M) :
  w.cell? ⟨g1,0,none⟩=some x1∧w.cell? ⟨g1,1,none⟩=some y1∧w.cell? ⟨g2,0,none⟩=some x2∧w.cell? ⟨g2,1,none⟩=some y2∧w.cell? ⟨g3,0,none⟩=some x3∧w.cell? ⟨g3,1,none⟩=some y3∧w.cell? ⟨g4,0,none⟩=some x4∧w.cell? ⟨g4,1,none⟩=some y4∧w.cell? ⟨g5,0,none⟩=some x5∧w.cell? ⟨g5,1,none⟩=some y5∧w.cell? ⟨g6,0,none⟩=some x6∧w.cell? ⟨g6,1,none⟩=some y6 :=
 ⟨(h.c2 (.tail _ (.tail _ (.tail _ (.tail _ (.tail _ (.head _))))))).1,(h.c2 (.tail _ (.tail _ (.tail _ (.tail _ (.tail _ (.head _))))))).2.1,(h.c2 (.tail _ (.tail _ (.tail _ (.tail _ (.head _)))))).1,(h.c2 (.tail _ (.tail _ (.tail _ (.tail _ (.head _)))))).2.1,(h.c2 (.tail _ (.tail _ (.tail _ (.head _))))).1,(h.c2 (.tail _ (.tail _ (.tail _ (.head _))))).2.1,(h.c2 (.tail _ (.tail _ (.head _)))).1,(h.c2 (.tail _ (.tail _ (.head _)))).2.1,(h.c2 (.tail _ (.head _))).1,(h.c2 (.tail _ (.head _))).2.1,(h.c2 (.head _)).1,(h.c2 (.head _)).2.1⟩
theorem Uz.c7 {g1 g2 g3 g4 g5 g6 g7:Nat} {x1 y1 x2 y2 x3 y3 x4 y4 x5 y5 x6 y6 x7 y7:Value} (h:Uz W0 w (⟨g7,x7,y7⟩ :: ⟨g6,x6,y6⟩ :: ⟨g5,x5,y5⟩ :: ⟨g4,x4,y4⟩ :: ⟨g3,x3,y3⟩ :: ⟨g2,x2,y2⟩ :: ⟨g1,x1,y1⟩ :: bs) L ts M) :
  w.cell? ⟨g1,0,none⟩=some x1∧w.cell? ⟨g1,1,none⟩=some y1∧w.cell? ⟨g2,0,none⟩=some x2∧w.cell? ⟨g2,1,none⟩=some y2∧w.cell? ⟨g3,0,none⟩=some x3∧w.cell? ⟨g3,1,none⟩=some y3∧w.cell? ⟨g4,0,none⟩=some x4∧w.cell? ⟨g4,1,none⟩=some y4∧w.cell? ⟨g5,0,none⟩=some x5∧w.cell? ⟨g5,1,none⟩=some y5∧w.cell? ⟨g6,0,none⟩=some x6∧w.cell? ⟨g6,1,none⟩=some y6∧w.cell? ⟨g7,0,none⟩=some x7∧w.cell? ⟨g7,1,none⟩=some y7 :=
 ⟨(h.c2 (.tail _ (.tail _ (.tail _ (.tail _ (.tail _ (.tail _ (.head _)))))))).1,(h.c2 (.tail _ (.tail _ (.tail _ (.tail _ (.tail _ (.tail _ (.head _)))))))).2.1,(h.c2 (.tail _ (.tail _ (.tail _ (.tail _ (.tail _ (.head _))))))).1,(h.c2 (.tail _ (.tail _ (.tail _ (.tail _ (.tail _ (.head _))))))).2.1,(h.c2 (.tail _ (.tail _ (.tail _ (.tail _ (.head _)))))).1,(h.c2 (.tail _ (.tail _ (.tail _ (.tail _ (.head _)))))).2.1,(h.c2 (.tail _ (.tail _ (.tail _ (.head _))))).1,(h.c2 (.tail _ (.tail _ (.tail _ (.head _))))).2.1,(h.c2 (.tail _ (.tail _ (.head _)))).1,(h.c2 (.tail _ (.tail _ (.head _)))).2.1,(h.c2 (.tail _ (.head _))).1,(h.c2 (.tail _ (.head _))).2.1,(h.c2 (.head _)).1,(h.c2 (.head _)).2.1⟩
theorem Uz.a8x {b:Bx} (h:Uz W0 w (b :: bs) L ts M):Uz W0 w bs L ts M:=⟨h.env.boC,h.fr,h.tri,h.tz,h.tab,fun b hb=>h.lo b (.tail _ hb),h.lot⟩
theorem Uz.hdi {v:Value} {z:Int} {k K:Nat} {b:Bool} (h:Uz W0 w bs (⟨v,z,k,b⟩ :: L) ts M) (hk:Opd w ⟨v,z,k,b⟩→Opd w ⟨v,z,K,b⟩):Uz W0 w bs (⟨v,z,K,b⟩ :: L) ts M:=h.tl.push (hk (h.env.ops _ (.head _)))
theorem Uz.b1 (h:Uz W0 w bs L ts M):Uz W0 (w.alloc (.cells #[.bool false,.slice none 0 0] 39)) (⟨w.heap.size,.bool false,.slice none 0 0⟩ :: bs) L ts M:=h.abb _ _
theorem Uz.b2 (h:Uz W0 w bs L ts M):Uz W0 ((w.alloc (.cells #[.bool false,.slice none 0 0] 39)).alloc (.cells #[.bool false,.slice none 0 0] 39)) (⟨w.heap.size+1,.bool false,.slice none 0 0⟩ :: ⟨w.heap.size,.bool false,.slice none 0 0⟩ :: bs) L ts M:=by
 have:=h.b1.b1
 rwa [World.size_alloc] at this
theorem bgX {g:Nat} {t:TypeId} {x y:Value} (hg:g=w.heap.size):Two (w.alloc (.cells #[x,y] t)) g t x y:=by subst hg; exact Two.new w t x y
theorem a4i {g g':Nat} {t:TypeId} {x y:Value} (h:Two w g t x y) (hg:g≠g') (u v:Value):Two ((w.setCell ⟨g',0,none⟩ u).setCell ⟨g',1,none⟩ v) g t x y:=(h.far (p:=⟨g',0,none⟩) hg u).far (p:=⟨g',1,none⟩) hg v
theorem Uz.two {g:Nat} {x y:Value} (h:Uz W0 w bs L ts M) (hm:⟨g,x,y⟩∈bs):Two w g 39 x y:=h.env.box _ hm
theorem Uz.a4j {g:Nat} {x y:Value} (h:Uz W0 w bs L ts M) (h2:Two w g 39 x y) (hg:W0.heap.size≤g):Uz W0 w (⟨g,x,y⟩ :: bs) L ts M :=
 ⟨⟨h.env.ops,fun b hb=>by
  rcases List.mem_cons.1 hb with rfl | hb
  ·exact h2
  ·exact h.env.box b hb,h.env.below⟩,h.fr,h.tri,h.tz,h.tab,fun b hb=>by
  rcases List.mem_cons.1 hb with rfl | hb
  ·exact hg
  ·exact h.lo b hb,h.lot⟩
theorem Uz.a19 {g n c:Nat} {s:Bool} {X:Option Addr} (h:Uz W0 w [] L ts M) (h2:Two w g 39 (.bool s) (.slice X n c)) (hg:W0.heap.size≤g) (s':Bool) (v:Value) :
  Uz W0 ((w.setCell ⟨g,0,none⟩ (.bool s')).setCell ⟨g,1,none⟩ v) [] L ts M :=
 ((h.a4j h2 hg).anq (.head _) [] (fun _ hb=>by simp at hb) s' v).a8x
theorem Uz.bare (h:Uz W0 w bs L ts M):Uz W0 w [] L [] M:=⟨⟨h.env.ops,fun _ hb=>by simp at hb,h.env.below⟩,h.fr,fun _ hb=>by simp at hb,h.tz,h.tab,fun _ hb=>by simp at hb,fun _ hb=>by simp at hb⟩
theorem Uz.join {bs':List Bx} {L':List En} {M':List Qn} (h:Uz W0 w bs L ts M) (h':Uz w w' bs' L' [] M'):Uz W0 w' (bs'++bs) L' ts M' :=
 ⟨⟨h'.env.ops,fun b hb=>by
  rcases List.mem_append.1 hb with hb | hb
  ·exact h'.env.box b hb
  ·exact (h.env.next h'.below).box b hb,aaR h.below h'.below (Nat.le_refl _)⟩,h'.fr,(h.next h'.below).tri,h.tz,h.tab,fun b hb=>by
  rcases List.mem_append.1 hb with hb | hb
  ·exact Nat.le_trans h.below.size (h'.lo b hb)
  ·exact h.lo b hb,h.lot⟩
end
section
variable {W0 w:World} {bs:List Bx} {L:List En} {ts:List Bt} {M:List Qn} {v v':Value} {x y:Int} {k k':Nat} {b b':Bool}
theorem a2o {z:Int} (HE:Uz W0 w bs L ts M) (h1 : -9223372036854775808≤z) (h2:z≤9223372036854775807) :
  Calls Tryz.prog 111 #[.int .i64 z] w (ag6 W0 bs L ts M z 2):=(blp HE.env.here h1 h2).mono fun _ _ hh=>HE.a4x hh
theorem bke (HE:Uz W0 w bs L ts M) (h:⟨v,x,k,b⟩∈L) (h':⟨v',y,k',b'⟩∈L) (hk:k+k'≤100000) :
  Calls Tryz.prog 192 #[v,v'] w (ag6 W0 bs L ts M (x+y) (k+k'+1)):=(bgY HE.env.here h h' hk).mono fun _ _ hh=>HE.a4x hh
theorem a2n (HE:Uz W0 w bs L ts M) (h:⟨v,x,k,b⟩∈L) (h':⟨v',y,k',b'⟩∈L) (hk:k+k'≤100000) :
  Calls Tryz.prog 91 #[v,v'] w (ag6 W0 bs L ts M (x*y) (k+k'+1)):=(bkL HE.env.here h h' hk).mono fun _ _ hh=>HE.a4x hh
theorem bac (HE:Uz W0 w bs L ts M) (h:⟨v,x,k,b⟩∈L) (h':⟨v',y,k',b'⟩∈L) (hk:k+k'≤100000) :
  Calls Tryz.prog 112 #[v,v'] w fun e w'=>e = .returned (.int .i64 (ahw x y))∧Uz W0 w' bs L ts M:=(bhI HE.env.here h h' hk).mono fun _ _ hh=>⟨hh.1,HE.step hh.2⟩
theorem bdw (HE:Uz W0 w bs L ts M) (h:⟨v,x,k,b⟩∈L) (h':⟨v',y,k',b'⟩∈L) (hk:k+k'≤100000) :
  Calls Tryz.prog 154 #[v,v'] w (ag6 W0 bs L ts M ((Nat.gcd x.natAbs y.natAbs:Nat):Int) (k+k')):=(bjk HE.env.here h h' hk).mono fun _ _ hh=>HE.bjr hh
theorem bkf (HE:Uz W0 w bs L ts M) (h:⟨v,x,k,b⟩∈L) (h':⟨v',y,k',b'⟩∈L) (hk:k+k'≤100000) (hy:y≠0) :
  Calls Tryz.prog 155 #[v,v'] w fun e w' => ∃ (s s':Bool) (D D':Option Addr) (m d m' d':Nat),e = .returned (.tuple #[.agg #[.bool s,.slice D m d],.agg #[.bool s',.slice D' m' d'],.nilIface])∧Uz W0 w' bs (⟨.agg #[.bool s,.slice D m d],x / y,k+1,true⟩ :: ⟨.agg #[.bool s',.slice D' m' d'],x % y,k',true⟩ :: L) ts M :=
 (bib HE.env.here h h' hk hy).mono fun _ _ ⟨s,s',D,D',m,d,m',d',e1,he⟩=>⟨s,s',D,D',m,d,m',d',e1,HE.step he⟩
theorem bdA (HE:Uz W0 w bs L ts M) (h:⟨v,x,k,b⟩∈L) (hk:k≤100000) (hx:0≤x) :
  Calls Tryz.prog 158 #[v] w fun e w' => ∃ (s:Bool) (D:Option Addr) (m d:Nat),e = .returned (.tuple #[.agg #[.bool s,.slice D m d],.nilIface])∧Uz W0 w' bs (⟨.agg #[.bool s,.slice D m d],((rt x.natAbs:Nat):Int),k,true⟩ :: L) ts M :=
 (bnf HE.env.here h hk hx).mono fun _ _ ⟨s,D,m,d,e1,he⟩=>⟨s,D,m,d,e1,HE.step he⟩
theorem bag (HE:Uz W0 w bs L ts M) (h:⟨v,x,k,b⟩∈L) (hk:k≤100000) :
  Calls Tryz.prog 82 #[v] w fun e w'=>e = .returned (.string ⟨(Lib.itoa x).toArray⟩)∧Uz W0 w' bs L ts M:=by
 obtain ⟨s,A,n,c,ns,B,e1,h2,h3,h4,h5,h6,e7,h8⟩:=HE.env.ops _ h
 dsimp only at e1 e7 h5
 subst e1 e7
 exact (bn' s A ns n c B w h2 h3 h4 (by omega) h6 (HE.tab.next HE.below)).mono fun e w' hh=>⟨hh.1,HE.next hh.2⟩
end
end Go.Proofs.YtbihljnjaondcaaGreatDoor
namespace Lw
open Go Go.RowKit
theorem Opd.weak {w:World} {v:Value} {z:Int} {k k':Nat} {b:Bool} (h:Opd w ⟨v,z,k,b⟩) (hk:k≤k'):Opd w ⟨v,z,k',b⟩:=by
 obtain ⟨s,A,n,c,ns,B,h1,h2,h3,h4,h5,h6⟩:=h
 exact ⟨s,A,n,c,ns,B,h1,h2,h3,h4,Nat.le_trans h5 hk,h6⟩
theorem Opd.len {w:World} {s:Bool} {A:Option Addr} {n c k:Nat} {z:Int} (h:Opd w ⟨.agg #[.bool s,.slice A n c],z,k,true⟩) :
  s=sg z∧n=(mg z).length∧Rd w w.heap.size A (mg z)∧n≤k∧n≤c:=by
 obtain ⟨s',A1,n1,c1,ns,B,e1,h2,h3,h4,h5,h6,e7,h8⟩:=h
 dsimp only at e1 e7 h5 h8
 obtain ⟨a1,a2,_⟩:=a2E (z:=z) h8 (by rw [← e7]; unfold zv; rw [if_pos h8]) h2.wds
 injection e1 with e1
 injection e1 with e1
 simp only [List.cons.injEq,Value.bool.injEq,Value.slice.injEq,and_true] at e1
 obtain ⟨rfl,rfl,rfl,rfl⟩:=e1
 rw [a1,a2]
 exact ⟨rfl,h4.symm,h2.more h3,h5,h6⟩
theorem a3r {q:Rat} {n:Nat} (h:n=(rn q).length):n=0↔q=0:=by
 rw [← beM,← List.length_eq_zero_iff,h]
theorem bkI {z:Int} {n:Nat} (h:n=(mg z).length):n=0↔z=0:=by rw [← a1u,h]
end Lw
namespace Go.Proofs.YtbihljnjaondcaaGreatDoor
open Go Go.RowKit Lw
section
variable {W0 w:World} {bs:List Bx} {L:List En} {ts:List Bt} {M:List Qn} {s s':Bool} {A A':Option Addr} {n c n' c' k k':Nat} {q:Rat} {x y:Int}
theorem Uz.r3 {g1 g2 g3:Nat} {x1 y1 x2 y2 x3 y3:Value} (h:Uz W0 w (⟨g3,x3,y3⟩ :: ⟨g2,x2,y2⟩ :: ⟨g1,x1,y1⟩ :: bs) L ts M) :
  w.cell? ⟨g1,0,none⟩=some x1∧w.cell? ⟨g1,1,none⟩=some y1∧w.cell? ⟨g2,0,none⟩=some x2∧w.cell? ⟨g2,1,none⟩=some y2∧w.cell? ⟨g3,0,none⟩=some x3∧w.cell? ⟨g3,1,none⟩=some y3 :=
 ⟨(h.c2 (.tail _ (.tail _ (.head _)))).1,(h.c2 (.tail _ (.tail _ (.head _)))).2.1,(h.c2 (.tail _ (.head _))).1,(h.c2 (.tail _ (.head _))).2.1,(h.c2 (.head _)).1,(h.c2 (.head _)).2.1⟩
def a1o (W0:World) (bs:List Bx) (L:List En) (ts:List Bt) (M:List Qn) (x y:Int) (k:Nat) (e:Ending) (w':World):Prop :=
 ∃ (s:Bool) (A:Option Addr) (n c:Nat) (s':Bool) (A':Option Addr) (n' c':Nat),e = .returned (.tuple #[.agg #[.bool s,.slice A n c],.agg #[.bool s',.slice A' n' c']])∧Uz W0 w' bs (⟨.agg #[.bool s,.slice A n c],x,k,true⟩ :: ⟨.agg #[.bool s',.slice A' n' c'],y,k,true⟩ :: L) ts M
theorem a1o.of {w':World} {e:Ending} (h:Uz W0 w bs L ts M) (hh:a1o w [] L [] M x y k e w'):a1o W0 bs L ts M x y k e w':=by
 obtain ⟨s,A,n,c,s',A',n',c',rfl,he⟩:=hh
 exact ⟨s,A,n,c,s',A',n',c',rfl,h.back he⟩
set_option maxRecDepth 100000 in
set_option maxHeartbeats 1600000 in
theorem a2s (HE:Uz W0 w bs L ts M) (h:⟨.agg #[.bool s,.slice A n c,.slice A' n' c'],q,k,true⟩∈M) :
  Calls Tryz.prog 85 #[.agg #[.bool s,.slice A n c,.slice A' n' c']] w (a1o W0 bs L ts M q.num (q.den:Int) (k+2)):=by
 suffices hs:Calls Tryz.prog 85 #[.agg #[.bool s,.slice A n c,.slice A' n' c']] w (a1o w [] L [] M q.num (q.den:Int) (k+2)) from hs.mono fun _ _ hh=>a1o.of HE hh
 have hn:=a3r (HE.fr _ h).own.2.1
 have H1:=((HE.here.ae' (.bool s) (.slice A n c) (.slice A' n' c')).abb (.bool false) (.slice none 0 0)).abb (.bool false) (.slice none 0 0)
 simp only [World.size_alloc] at H1
 by_cases hq:q=0
 ·obtain rfl:=hn.2 hq
  have HQ:=Lib.hid hq
  obtain ⟨e0,e1,e2,e3,e4,e5⟩:=H1.c3 (.head _)
  clear hn hq
  go_enter Tryz.func85,Tryz.ntmps85
  go_wp2_with fail
  refine (a2o H1 (by omega) (by omega)).mono ?_
  rintro e w1 ⟨s1,A1,n1,c1,rfl,H2⟩
  obtain ⟨a0,a1,a2,a3⟩:=H2.c2 (.head _)
  obtain ⟨b0,b1,b2,b3⟩:=H2.c2 (.tail _ (.head _))
  clear e0 e1 e2 e3 e4 e5
  go_wp2_with fail
  refine bodyPost_ret (v := .tuple #[.agg #[.bool false,.slice none 0 0],.agg #[.bool s1,.slice A1 n1 c1]]) (by simp [results,Tryz.results85,go_sem,a0,a1,b0,b1]) rfl ?_
  have H3:=(H2.anq (.tail _ (.head _)) [⟨w.heap.size+1+1,.bool false,.slice none 0 0⟩] (fun b hb=>by simp only [List.mem_cons,List.not_mem_nil,or_false] at hb; subst hb; exact ⟨.head _,by dsimp only; omega⟩) false (.slice none 0 0)).done2 (.tail _ (.head _)) s1 (.slice A1 n1 c1)
  have hq:=HQ.out
  subst hq
  have h1:=H3.env.ops _ (.head _)
  exact ⟨_,_,_,_,_,_,_,_,rfl,(H3.tl.push (h1.weak (by omega))).push ⟨false,none,0,0,[],0,rfl,Rd.nil_ _ _ _,Nat.zero_le _,rfl,Nat.zero_le _,Nat.le_refl _,rfl,rfl⟩⟩
 ·have hn0:((n:Int)==0)=false:=by rw [beq_eq_false_iff_ne]; have:=mt hn.1 hq; omega
  have HQ:=Lib.hid hq
  clear hn hq
  obtain ⟨e0,e1,e2,e3,e4,e5⟩:=H1.c3 (.head _)
  go_enter Tryz.func85,Tryz.ntmps85
  go_wp2_with fail
  go_region
  go_wp2_with fail
  have H2:=(((HE.here.ae' (.bool s) (.slice A n c) (.slice A' n' c')).abb (.bool s) (.slice A n c)).abb (.bool false) (.slice A' n' c')).drew
  simp only [World.size_alloc] at H2
  obtain ⟨a0,a1,a2,a3⟩:=H2.c2 (.head _)
  obtain ⟨b0,b1,b2,b3⟩:=H2.c2 (.tail _ (.head _))
  refine bodyPost_ret (v := .tuple #[.agg #[.bool s,.slice A n c],.agg #[.bool false,.slice A' n' c']]) (by simp [results,Tryz.results85,go_sem]) rfl ?_
  have H3:=H2.bare.parts h HQ.out
  exact ⟨_,_,_,_,_,_,_,_,rfl,(H3.tl.tl.push ((H3.env.ops _ (.tail _ (.head _))).weak (by omega))).push ((H3.env.ops _ (.head _)).weak (by omega))⟩
set_option maxRecDepth 100000 in
set_option maxHeartbeats 1600000 in
theorem a7Q (HE:Uz W0 w bs L ts M) (h:⟨.agg #[.bool s,.slice A n c],x,k,true⟩∈L) (h':⟨.agg #[.bool s',.slice A' n' c'],y,k',true⟩∈L) (hx:q.num=x) (hy:(q.den:Int)=y) :
  Calls Tryz.prog 86 #[.agg #[.bool s,.slice A n c],.agg #[.bool s',.slice A' n' c']] w (akn W0 bs L ts M q (k+k')):=by
 suffices hs:Calls Tryz.prog 86 #[.agg #[.bool s,.slice A n c],.agg #[.bool s',.slice A' n' c']] w (akn w [] L [] M q (k+k')) from hs.mono fun _ _ hh=>akn.of HE hh
 have hn:=bkI (HE.env.ops _ h).len.2.1
 have H1:=((HE.here.abb (.bool s) (.slice A n c)).abb (.bool s') (.slice A' n' c')).ae' (.bool false) (.slice none 0 0) (.slice none 0 0)
 simp only [World.size_alloc] at H1
 obtain ⟨a0,a1,a2,a3⟩:=H1.c2 (.tail _ (.head _))
 obtain ⟨b0,b1,b2,b3⟩:=H1.c2 (.head _)
 by_cases hq:x=0
 ·obtain rfl:=hn.2 hq
  have HQ:=Lib.hid (show q=0 from Rat.num_eq_zero.1 (by rw [hx,hq]))
  clear hn hq hx hy
  go_enter Tryz.func86,Tryz.ntmps86
  go_wp2_with fail
  have H2:=((HE.here.abb (.bool s) (.slice A 0 c)).abb (.bool s') (.slice A' n' c')).ae' (.bool false) (.slice none 0 0) (.slice none 0 0)
  refine bodyPost_ret (v := .agg #[.bool false,.slice none 0 0,.slice none 0 0]) (by simp [results,Tryz.results86,go_sem]) rfl ?_
  rw [HQ.out]
  exact ⟨_,_,_,_,_,_,_,rfl,H2.bare.zero _⟩
 ·have hn0:((n:Int)==0)=false:=by rw [beq_eq_false_iff_ne]; have:=mt hn.1 hq; omega
  have hg:Nat.gcd x.natAbs y.natAbs=1:=by rw [← hx,← hy,Int.natAbs_natCast]; exact q.reduced
  have hy0:0 < y:=by rw [← hy]; exact den_pos q
  have HQ:=Lib.hid (show Rat.divInt x y=q by rw [← hx,← hy]; exact Rat.num_divInt_den q)
  have HX:=Lib.hid (show x≠0∧0 < y∧Nat.gcd x.natAbs y.natAbs=1 from ⟨hq,hy0,hg⟩)
  clear hn hq hx hy hg hy0
  go_enter Tryz.func86,Tryz.ntmps86
  go_wp2_with fail
  have H2:=((HE.here.abb (.bool s) (.slice A n c)).abb (.bool s') (.slice A' n' c')).ae' (.bool s) (.slice A n c) (.slice A' n' c')
  refine bodyPost_ret (v := .agg #[.bool s,.slice A n c,.slice A' n' c']) (by simp [results,Tryz.results86,go_sem]) rfl ?_
  have H3:=H2.bare.bcG h h' HX.out.1 HX.out.2.1 HX.out.2.2
  rw [HQ.out] at H3
  exact ⟨_,_,_,_,_,_,_,rfl,H3⟩
set_option maxRecDepth 100000 in
set_option maxHeartbeats 1600000 in
theorem a7z {b b':Bool} (HE:Uz W0 w bs L ts M) (h:⟨.agg #[.bool s,.slice A n c],x,k,b⟩∈L) (h':⟨.agg #[.bool s',.slice A' n' c'],y,k',b'⟩∈L) (hk:k+k'≤100000) (hy:y≠0) :
  Calls Tryz.prog 90 #[.agg #[.bool s,.slice A n c],.agg #[.bool s',.slice A' n' c']] w (ag6 W0 bs L ts M (x / y) (k+1)):=by
 suffices hs:Calls Tryz.prog 90 #[.agg #[.bool s,.slice A n c],.agg #[.bool s',.slice A' n' c']] w (ag6 w [] L [] M (x / y) (k+1)) from hs.mono fun _ _ hh=>ag6.of HE hh
 have H1:=((HE.here.abb (.bool s) (.slice A n c)).abb (.bool s') (.slice A' n' c')).abb (.bool false) (.slice none 0 0)
 simp only [World.size_alloc] at H1
 obtain ⟨a0,a1,a2,a3⟩:=H1.c2 (.tail _ (.tail _ (.head _)))
 obtain ⟨b0,b1,b2,b3⟩:=H1.c2 (.tail _ (.head _))
 have HY:=Lib.hid hy
 clear hy
 go_enter Tryz.func90,Tryz.ntmps90
 go_wp2_with fail
 refine (bkf H1 h h' hk HY.out).mono ?_
 rintro e w1 ⟨s1,s2,D1,D2,m1,d1,m2,d2,rfl,H2⟩
 have H3:=(H2.abb (.bool s1) (.slice D1 m1 d1)).abb (.bool s2) (.slice D2 m2 d2)
 simp only [World.size_alloc] at H3
 clear a0 a1 a2 a3 b0 b1 b2 b3
 obtain ⟨a0,a1,a2,a3⟩:=H3.c2 (.tail _ (.tail _ (.head _)))
 obtain ⟨b0,b1,b2,b3⟩:=H3.c2 (.tail _ (.head _))
 go_wp2_with fail
 obtain ⟨f0,f1,f2,f3⟩:=H3.c2 (.tail _ (.tail _ (.head _)))
 refine bodyPost_ret (v := .agg #[.bool s1,.slice D1 m1 d1]) (by simp [results,Tryz.results90,go_sem,f0,f1]) rfl ?_
 exact ⟨_,_,_,_,rfl,((H3.done2 (.tail _ (.tail _ (.head _))) s1 (.slice D1 m1 d1)).pick (fun e he=>by rcases List.mem_cons.1 he with rfl | he; exact .head _; exact .tail _ (.tail _ he)) (fun _ he=>he))⟩
set_option maxRecDepth 100000 in
set_option maxHeartbeats 1600000 in
theorem baS {b b':Bool} (HE:Uz W0 w bs L ts M) (h:⟨.agg #[.bool s,.slice A n c],x,k,b⟩∈L) (h':⟨.agg #[.bool s',.slice A' n' c'],y,k',b'⟩∈L) (hk:k+k'≤40000) (hy:0 < y) :
  Calls Tryz.prog 89 #[.agg #[.bool s,.slice A n c],.agg #[.bool s',.slice A' n' c']] w (akn W0 bs L ts M (Rat.divInt x y) (k+1+(k'+1))):=by
 suffices hs:Calls Tryz.prog 89 #[.agg #[.bool s,.slice A n c],.agg #[.bool s',.slice A' n' c']] w (akn w [] L [] M (Rat.divInt x y) (k+1+(k'+1))) from hs.mono fun _ _ hh=>akn.of HE hh
 have H1:=((HE.here.abb (.bool s) (.slice A n c)).abb (.bool s') (.slice A' n' c')).ae' (.bool false) (.slice none 0 0) (.slice none 0 0)
 simp only [World.size_alloc] at H1
 obtain ⟨a0,a1,a2,a3⟩:=H1.c2 (.tail _ (.head _))
 obtain ⟨b0,b1,b2,b3⟩:=H1.c2 (.head _)
 obtain ⟨g,hg⟩ : ∃ g:Int,g=(Nat.gcd x.natAbs y.natAbs:Nat):=⟨_,rfl⟩
 have HR:=Lib.hid (baP hy hg)
 have HG:=Lib.hid hg
 clear hy hg
 generalize Rat.divInt x y=q at *
 go_enter Tryz.func89,Tryz.ntmps89
 go_wp2_with fail
 refine (bdw H1 h h' (by omega)).mono ?_
 rintro e w1 ⟨s1,D1,m1,d1,rfl,H2⟩
 rw [← HG.out] at H2
 have HE:=H2.abb (.bool s1) (.slice D1 m1 d1)
 clear a0 a1 a2 a3 b0 b1 b2 b3
 obtain ⟨a0,a1,a2,a3⟩:=HE.c2 (.tail _ (.tail _ (.head _)))
 obtain ⟨b0,b1,b2,b3⟩:=HE.c2 (.tail _ (.head _))
 obtain ⟨f0,f1,f2,f3⟩:=HE.c2 (.head _)
 clear H1 H2
 go_wp2_with fail
 go_region_held3 (fun w'=>w'.cell? ⟨w.heap.size,0,none⟩=some (.bool s)∧w'.cell? ⟨w.heap.size,1,none⟩=some (.slice A n c)∧w'.cell? ⟨w.heap.size+1,0,none⟩=some (.bool s')∧w'.cell? ⟨w.heap.size+1,1,none⟩=some (.slice A' n' c')∧w'.cell? ⟨w1.heap.size,0,none⟩=some (.bool s1)∧w'.cell? ⟨w1.heap.size,1,none⟩=some (.slice D1 m1 d1)) (with_reducible first | exact Uz.r3 HE | exact Uz.r3 HE.drew | exact Uz.r3 HK)
  (first
   | (go_at_call 90; refine (a7z (by with_reducible first | exact HE | exact HE.drew) (by repeat (first | exact .head _ | assumption | refine .tail _ ?_)) (by repeat (first | exact .head _ | assumption | refine .tail _ ?_)) (by omega) HR.out.2.2).mono ?_; rintro e wn ⟨sx,Ax,nx,cx,rfl,HE⟩)
   | (go_at_call 86; refine (a7Q (by with_reducible first | exact HE | exact HE.drew) (by repeat (first | exact .head _ | assumption | refine .tail _ ?_)) (by repeat (first | exact .head _ | assumption | refine .tail _ ?_)) HR.out.1 HR.out.2.1).mono ?_; rintro e wn ⟨sx,Ax,nx,cx,Ay,ny,cy,rfl,HE⟩; obtain ⟨g0,g1,g2,g3,g4,g5⟩:=HE.c3 (.head _); have HK:=HE.as9 (D:=Ax) (m:=nx) (d:=cx) (.head _) sx (.slice Ay ny cy)))
 go_wp2_with fail
 refine bodyPost_ret (v := .agg #[.bool sx,.slice Ax nx cx,.slice Ay ny cy]) (by simp [results,Tryz.results89,go_sem,g0,g1,g2]) rfl ?_
 have H5:=HK.bare
 exact ⟨_,_,_,_,_,_,_,rfl,H5.pick (fun e he => .tail _ (.tail _ (.tail _ he))) (fun _ he=>he)⟩
end
end Go.Proofs.YtbihljnjaondcaaGreatDoor
namespace Lw
open Go Go.RowKit
theorem bkG {x:Int} : mg x=[1]↔x.natAbs=1:=by unfold mg; exact bcm
def shN (N:Nat):Bool:=decide (N < 2147483648)
theorem bh6 {N:Nat} : ((Uy N).length=0∨(Uy N).length=1∧dg (Uy N) 0 < 2147483648)↔N < 2147483648:=by
 by_cases h0:N=0
 ·subst h0; simp [show Uy 0=[] from rfl]
 ·by_cases h1:N < 4294967296
  ·rw [a7v h0 h1]; simp [dg]
  ·constructor
   ·rintro (h | ⟨h,_⟩)
    ·exact absurd (ak4.1 (List.eq_nil_of_length_eq_zero h)) h0
    ·have:=afS (acy N)
     rw [aar,h] at this
     unfold pw at this; omega
   ·omega
def dn (q:Rat):Nat:=if q.num=0 then 0 else q.den
theorem bmE (q:Rat):rd q=Uy (dn q):=by
 unfold rd dn; split
 ·rfl
 ·rfl
theorem bik {q:Rat} : dn q < 2147483648→q.den < 2147483648:=by
 unfold dn; split
 ·rename_i h
  have:=Rat.num_eq_zero.1 h
  subst this
  intro _; decide
 ·exact id
end Lw
namespace Go.Proofs.YtbihljnjaondcaaGreatDoor
open Go Go.RowKit Lw
section
variable {W0 w:World} {bs:List Bx} {L:List En} {ts:List Bt} {M:List Qn} {s s':Bool} {A A':Option Addr} {n c n' c' k k':Nat} {q:Rat} {x y:Int}
theorem a1Q (HE:Uz W0 w bs L ts M) (h:⟨.agg #[.bool s,.slice A n c],x,k,true⟩∈L) (hk:k≤100000) :
  Calls Tryz.prog 117 #[.slice A n c] w fun e w'=>e = .returned (.bool (decide (x.natAbs=1)))∧Uz W0 w' bs L ts M:=by
 obtain ⟨_,hn,hr,h1,h2⟩:=(HE.env.ops _ h).len
 refine (a4J A (mg x) n c _ w hr hn.symm (by omega)).mono fun e w' ⟨h3,h4⟩=>⟨?_,HE.next h4⟩
 rw [h3]
 congr 2
 rw [decide_eq_decide]
 exact bkG
set_option maxRecDepth 100000 in
set_option maxHeartbeats 1600000 in
theorem bcb (HE:Uz W0 w bs L ts M) (h:⟨.agg #[.bool s,.slice A n c],x,k,true⟩∈L) (h':⟨.agg #[.bool s',.slice A' n' c'],y,k',true⟩∈L) (hk:k+k'≤100000) :
  Calls Tryz.prog 195 #[.agg #[.bool s,.slice A n c],.agg #[.bool s',.slice A' n' c']] w (ag6 W0 bs L ts M ((Nat.gcd x.natAbs y.natAbs:Nat):Int) (k+k'+2)):=by
 suffices hs:Calls Tryz.prog 195 #[.agg #[.bool s,.slice A n c],.agg #[.bool s',.slice A' n' c']] w (ag6 w [] L [] M ((Nat.gcd x.natAbs y.natAbs:Nat):Int) (k+k'+2)) from hs.mono fun _ _ hh=>ag6.of HE hh
 have H1:=((HE.here.abb (.bool s) (.slice A n c)).abb (.bool s') (.slice A' n' c')).abb (.bool false) (.slice none 0 0)
 simp only [World.size_alloc] at H1
 by_cases hx:x.natAbs=1
 ·have HX:=Lib.hid (decide_eq_true hx)
  have HG:Hid (((Nat.gcd x.natAbs y.natAbs:Nat):Int)=1):=Lib.hid (by rw [hx,Nat.gcd_one_left]; rfl)
  clear hx
  go_enter Tryz.func195,Tryz.ntmps195
  have HE:=H1
  obtain ⟨q0,q1,q2,q3⟩:=HE.c2 (.head _)
  obtain ⟨q4,q5,q6,q7⟩:=HE.c2 (.tail _ (.head _))
  obtain ⟨q8,q9,q10,q11⟩:=HE.c2 (.tail _ (.tail _ (.head _)))
  go_wp2_with fail
  refine (a1Q HE h (by omega)).mono ?_
  rw [HX.out]
  rintro e w1 ⟨rfl,HE⟩
  clear q0 q1 q2 q3 q4 q5 q6 q7 q8 q9 q10 q11
  obtain ⟨q12,q13,q14,q15⟩:=HE.c2 (.head _)
  obtain ⟨q16,q17,q18,q19⟩:=HE.c2 (.tail _ (.head _))
  obtain ⟨q20,q21,q22,q23⟩:=HE.c2 (.tail _ (.tail _ (.head _)))
  go_wp2_with fail
  refine (a2o HE (by omega) (by omega)).mono ?_
  rintro e w3 ⟨s1,D1,m1,d1,rfl,HE⟩
  clear q12 q13 q14 q15 q16 q17 q18 q19 q20 q21 q22 q23
  obtain ⟨q24,q25,q26,q27⟩:=HE.c2 (.head _)
  obtain ⟨q28,q29,q30,q31⟩:=HE.c2 (.tail _ (.head _))
  obtain ⟨q32,q33,q34,q35⟩:=HE.c2 (.tail _ (.tail _ (.head _)))
  go_wp2_with fail
  have HF:=HE.done2 (.head _) s1 (.slice D1 m1 d1)
  refine bodyPost_ret (v := .agg #[.bool s1,.slice D1 m1 d1]) (by simp [results,Tryz.results195,go_sem,q24,q25]) rfl ?_
  rw [HG.out]
  exact ⟨_,_,_,_,rfl,HF.tl.push ((HF.env.ops _ (.head _)).weak (by omega))⟩
 have HX:=Lib.hid (decide_eq_false hx)
 clear hx
 by_cases hy:y.natAbs=1
 ·have HY:=Lib.hid (decide_eq_true hy)
  have HG:Hid (((Nat.gcd x.natAbs y.natAbs:Nat):Int)=1):=Lib.hid (by rw [hy,Nat.gcd_one_right]; rfl)
  clear hy
  go_enter Tryz.func195,Tryz.ntmps195
  have HE:=H1
  obtain ⟨q0,q1,q2,q3⟩:=HE.c2 (.head _)
  obtain ⟨q4,q5,q6,q7⟩:=HE.c2 (.tail _ (.head _))
  obtain ⟨q8,q9,q10,q11⟩:=HE.c2 (.tail _ (.tail _ (.head _)))
  go_wp2_with fail
  refine (a1Q HE h (by omega)).mono ?_
  rw [HX.out]
  rintro e w1 ⟨rfl,HE⟩
  clear q0 q1 q2 q3 q4 q5 q6 q7 q8 q9 q10 q11
  obtain ⟨q12,q13,q14,q15⟩:=HE.c2 (.head _)
  obtain ⟨q16,q17,q18,q19⟩:=HE.c2 (.tail _ (.head _))
  obtain ⟨q20,q21,q22,q23⟩:=HE.c2 (.tail _ (.tail _ (.head _)))
  go_wp2_with fail
  refine (a1Q HE h' (by omega)).mono ?_
  rw [HY.out]
  rintro e w2 ⟨rfl,HE⟩
  clear q12 q13 q14 q15 q16 q17 q18 q19 q20 q21 q22 q23
  obtain ⟨q24,q25,q26,q27⟩:=HE.c2 (.head _)
  obtain ⟨q28,q29,q30,q31⟩:=HE.c2 (.tail _ (.head _))
  obtain ⟨q32,q33,q34,q35⟩:=HE.c2 (.tail _ (.tail _ (.head _)))
  go_wp2_with fail
  refine (a2o HE (by omega) (by omega)).mono ?_
  rintro e w3 ⟨s1,D1,m1,d1,rfl,HE⟩
  clear q24 q25 q26 q27 q28 q29 q30 q31 q32 q33 q34 q35
  obtain ⟨q36,q37,q38,q39⟩:=HE.c2 (.head _)
  obtain ⟨q40,q41,q42,q43⟩:=HE.c2 (.tail _ (.head _))
  obtain ⟨q44,q45,q46,q47⟩:=HE.c2 (.tail _ (.tail _ (.head _)))
  go_wp2_with fail
  have HF:=HE.done2 (.head _) s1 (.slice D1 m1 d1)
  refine bodyPost_ret (v := .agg #[.bool s1,.slice D1 m1 d1]) (by simp [results,Tryz.results195,go_sem,q36,q37]) rfl ?_
  rw [HG.out]
  exact ⟨_,_,_,_,rfl,HF.tl.push ((HF.env.ops _ (.head _)).weak (by omega))⟩
 ·have HY:=Lib.hid (decide_eq_false hy)
  clear hy
  obtain ⟨g,hg⟩ : ∃ g:Int,g=(Nat.gcd x.natAbs y.natAbs:Nat):=⟨_,rfl⟩
  have HG:=Lib.hid hg
  rw [← hg]
  clear hg
  go_enter Tryz.func195,Tryz.ntmps195
  have HE:=H1
  obtain ⟨q0,q1,q2,q3⟩:=HE.c2 (.head _)
  obtain ⟨q4,q5,q6,q7⟩:=HE.c2 (.tail _ (.head _))
  obtain ⟨q8,q9,q10,q11⟩:=HE.c2 (.tail _ (.tail _ (.head _)))
  go_wp2_with fail
  refine (a1Q HE h (by omega)).mono ?_
  rw [HX.out]
  rintro e w1 ⟨rfl,HE⟩
  clear q0 q1 q2 q3 q4 q5 q6 q7 q8 q9 q10 q11
  obtain ⟨q12,q13,q14,q15⟩:=HE.c2 (.head _)
  obtain ⟨q16,q17,q18,q19⟩:=HE.c2 (.tail _ (.head _))
  obtain ⟨q20,q21,q22,q23⟩:=HE.c2 (.tail _ (.tail _ (.head _)))
  go_wp2_with fail
  refine (a1Q HE h' (by omega)).mono ?_
  rw [HY.out]
  rintro e w2 ⟨rfl,HE⟩
  clear q12 q13 q14 q15 q16 q17 q18 q19 q20 q21 q22 q23
  obtain ⟨q24,q25,q26,q27⟩:=HE.c2 (.head _)
  obtain ⟨q28,q29,q30,q31⟩:=HE.c2 (.tail _ (.head _))
  obtain ⟨q32,q33,q34,q35⟩:=HE.c2 (.tail _ (.tail _ (.head _)))
  go_wp2_with fail
  refine (bdw HE h h' hk).mono ?_
  rintro e w3 ⟨s1,D1,m1,d1,rfl,HE⟩
  rw [← HG.out] at HE
  clear q24 q25 q26 q27 q28 q29 q30 q31 q32 q33 q34 q35
  obtain ⟨q36,q37,q38,q39⟩:=HE.c2 (.head _)
  obtain ⟨q40,q41,q42,q43⟩:=HE.c2 (.tail _ (.head _))
  obtain ⟨q44,q45,q46,q47⟩:=HE.c2 (.tail _ (.tail _ (.head _)))
  go_wp2_with fail
  have HF:=HE.done2 (.head _) s1 (.slice D1 m1 d1)
  refine bodyPost_ret (v := .agg #[.bool s1,.slice D1 m1 d1]) (by simp [results,Tryz.results195,go_sem,q36,q37]) rfl ?_
  exact ⟨_,_,_,_,rfl,HF.tl.push ((HF.env.ops _ (.head _)).weak (by omega))⟩
set_option maxRecDepth 100000 in
set_option maxHeartbeats 1600000 in
theorem bb7 (HE:Uz W0 w bs L ts M) (h:⟨.agg #[.bool s,.slice A n c],x,k,true⟩∈L) (h':⟨.agg #[.bool s',.slice A' n' c'],y,k',true⟩∈L) (hk:k+k'≤100000) (hy:0 < y) :
  Calls Tryz.prog 196 #[.agg #[.bool s,.slice A n c],.agg #[.bool s',.slice A' n' c']] w (ag6 W0 bs L ts M (x / y) (k+1)):=by
 suffices hs:Calls Tryz.prog 196 #[.agg #[.bool s,.slice A n c],.agg #[.bool s',.slice A' n' c']] w (ag6 w [] L [] M (x / y) (k+1)) from hs.mono fun _ _ hh=>ag6.of HE hh
 have H1:=((HE.here.abb (.bool s) (.slice A n c)).abb (.bool s') (.slice A' n' c')).abb (.bool false) (.slice none 0 0)
 simp only [World.size_alloc] at H1
 have HN:=Lib.hid (show y≠0 by omega)
 by_cases hx:y.natAbs=1
 ·have HX:=Lib.hid (decide_eq_true hx)
  have HG:Hid (x / y=x):=Lib.hid (by rw [show y=1 by omega,Int.ediv_one])
  clear hx hy
  go_enter Tryz.func196,Tryz.ntmps196
  have HE:=H1
  obtain ⟨q0,q1,q2,q3⟩:=HE.c2 (.head _)
  obtain ⟨q4,q5,q6,q7⟩:=HE.c2 (.tail _ (.head _))
  obtain ⟨q8,q9,q10,q11⟩:=HE.c2 (.tail _ (.tail _ (.head _)))
  go_wp2_with fail
  refine (a1Q HE h' (by omega)).mono ?_
  rw [HX.out]
  rintro e w1 ⟨rfl,HE⟩
  clear q0 q1 q2 q3 q4 q5 q6 q7 q8 q9 q10 q11
  obtain ⟨q12,q13,q14,q15⟩:=HE.c2 (.head _)
  obtain ⟨q16,q17,q18,q19⟩:=HE.c2 (.tail _ (.head _))
  obtain ⟨q20,q21,q22,q23⟩:=HE.c2 (.tail _ (.tail _ (.head _)))
  go_wp2_with fail
  have HF:=HE.done2 (.head _) s (.slice A n c)
  refine bodyPost_ret (v := .agg #[.bool s,.slice A n c]) (by simp [results,Tryz.results196,go_sem,q12,q13]) rfl ?_
  rw [HG.out]
  exact ⟨_,_,_,_,rfl,HF.push ((HF.env.ops _ h).weak (by omega))⟩
 ·have HX:=Lib.hid (decide_eq_false hx)
  clear hx hy
  go_enter Tryz.func196,Tryz.ntmps196
  have HE:=H1
  obtain ⟨q0,q1,q2,q3⟩:=HE.c2 (.head _)
  obtain ⟨q4,q5,q6,q7⟩:=HE.c2 (.tail _ (.head _))
  obtain ⟨q8,q9,q10,q11⟩:=HE.c2 (.tail _ (.tail _ (.head _)))
  go_wp2_with fail
  refine (a1Q HE h' (by omega)).mono ?_
  rw [HX.out]
  rintro e w1 ⟨rfl,HE⟩
  clear q0 q1 q2 q3 q4 q5 q6 q7 q8 q9 q10 q11
  obtain ⟨q12,q13,q14,q15⟩:=HE.c2 (.head _)
  obtain ⟨q16,q17,q18,q19⟩:=HE.c2 (.tail _ (.head _))
  obtain ⟨q20,q21,q22,q23⟩:=HE.c2 (.tail _ (.tail _ (.head _)))
  go_wp2_with fail
  refine (a7z HE h h' hk HN.out).mono ?_
  rintro e w3 ⟨s1,D1,m1,d1,rfl,HE⟩
  clear q12 q13 q14 q15 q16 q17 q18 q19 q20 q21 q22 q23
  obtain ⟨q24,q25,q26,q27⟩:=HE.c2 (.head _)
  obtain ⟨q28,q29,q30,q31⟩:=HE.c2 (.tail _ (.head _))
  obtain ⟨q32,q33,q34,q35⟩:=HE.c2 (.tail _ (.tail _ (.head _)))
  go_wp2_with fail
  have HF:=HE.done2 (.head _) s1 (.slice D1 m1 d1)
  refine bodyPost_ret (v := .agg #[.bool s1,.slice D1 m1 d1]) (by simp [results,Tryz.results196,go_sem,q24,q25]) rfl ?_
  exact ⟨_,_,_,_,rfl,HF⟩
end
end Go.Proofs.YtbihljnjaondcaaGreatDoor
