/- Part of a proof, said shortly. -/
import Derived.WalkKit
import Derived.WalkSpells
import Derived.WalkLawsBesides
import Derived.Lib.Hide
import Derived.Deep.Draws
import Derived.Deep.QuietTactic
import Derived.BigQuiet
import Derived.Laws.Rows
import Derived.Laws.MakeOwn
import Derived.Handy
import Derived.Laws.BitsAllLaws
import Derived.Test.YtbihljnjaondcaaGreatDoorChecked
import Derived.OwnWalk
import Derived.Test.YtbihljnjaondcaaGreatDoorAlz
namespace Lw
def val:List Nat→Nat
 | []=>0
 | x :: l=>x+4294967296*val l
def fQ (l:List Nat):Prop := ∀ x∈l,x < 4294967296
def wP (l:List Nat):Prop := ∀ x,l.getLast? = some x→x≠0
def dg (l:List Nat) (j:Nat):Nat:=l.getD j 0
def pw (k:Nat):Nat:=4294967296 ^ k
def lo (l:List Nat) (k:Nat):Nat:=val (l.take k)
theorem Jo:pw 0=1:=rfl
theorem vH (k:Nat):pw (k+1)=4294967296*pw k:=by unfold pw; rw [Nat.pow_succ]; omega
theorem OB (a b:Nat):pw (a+b)=pw a*pw b:=by unfold pw; rw [Nat.pow_add]
theorem Di (k:Nat):0 < pw k:=Nat.pow_pos (by omega)
theorem uX {a b:Nat} (h:a≤b):pw a≤pw b:=Nat.pow_le_pow_right (by omega) h
theorem aeV:val []=0:=rfl
theorem Gj (x:Nat) (l:List Nat):val (x :: l)=x+4294967296*val l:=rfl
theorem val_append (a b:List Nat):val (a++b)=val a+pw a.length*val b:=by
 induction a with
 | nil=>simp [val,pw]
 | cons x l ih =>
  simp only [List.cons_append,Gj,ih,List.length_cons,vH]
  rw [Nat.mul_add]
  have:4294967296*(pw l.length*val b)=4294967296*pw l.length*val b:=by rw [Nat.mul_assoc]
  omega
theorem Bj:fQ []:=fun _ h=>by cases h
theorem Cb {x:Nat} {l:List Nat} : fQ (x :: l)↔x < 4294967296∧fQ l:=by simp [fQ]
theorem akl {a b:List Nat} : fQ (a++b)↔fQ a∧fQ b:=by
 simp only [fQ,List.mem_append]
 exact ⟨fun h=>⟨fun x hx=>h x (.inl hx),fun x hx=>h x (.inr hx)⟩,fun h x hx=>hx.elim (h.1 x) (h.2 x)⟩
theorem VJ {l:List Nat} (h:fQ l) (k:Nat):fQ (l.take k):=fun x hx=>h x (List.mem_of_mem_take hx)
theorem akm {l:List Nat} (h:fQ l) (k:Nat):fQ (l.drop k):=fun x hx=>h x (List.mem_of_mem_drop hx)
theorem Fv (n:Nat):fQ (List.replicate n 0):=fun x hx=>by have:=List.eq_of_mem_replicate hx; omega
theorem yP {l:List Nat} (h:fQ l) (k:Nat) {v:Nat} (hv:v < 4294967296):fQ (l.set k v):=fun x hx=>by
 rcases List.mem_or_eq_of_mem_set hx with h1 | h1
 ·exact h x h1
 ·omega
theorem ve {l:List Nat} (h:fQ l) (j:Nat):dg l j < 4294967296:=by
 unfold dg
 rw [List.getD_eq_getElem?_getD]
 rcases Nat.lt_or_ge j l.length with hj | hj
 ·rw [List.getElem?_eq_getElem hj]; exact h _ (List.getElem_mem hj)
 ·rw [List.getElem?_eq_none hj]; simp
theorem NK {l:List Nat} {j:Nat} (h:l.length≤j):dg l j=0:=by
 unfold dg; rw [List.getD_eq_getElem?_getD,List.getElem?_eq_none h]; rfl
theorem Kt {l:List Nat} {j:Nat} (h:j < l.length):dg l j=l[j]:=by
 unfold dg; rw [List.getD_eq_getElem?_getD,List.getElem?_eq_getElem h]; rfl
theorem NL {l:List Nat} {j:Nat} (h:j < l.length):l[j]? = some (dg l j):=by rw [List.getElem?_eq_getElem h,Kt h]
theorem acg {l:List Nat} {j k:Nat} (h:j < k):dg (l.take k) j=dg l j:=by
 unfold dg; rw [List.getD_eq_getElem?_getD,List.getD_eq_getElem?_getD,List.getElem?_take,if_pos h]
theorem XY (l:List Nat) (j k:Nat):dg (l.drop k) j=dg l (k+j):=by
 unfold dg; rw [List.getD_eq_getElem?_getD,List.getD_eq_getElem?_getD,List.getElem?_drop]
theorem BG {l:List Nat} {k:Nat} (v:Nat) (h:k < l.length) (j:Nat):dg (l.set k v) j=if j=k then v else dg l j:=by
 unfold dg
 rw [List.getD_eq_getElem?_getD,List.getD_eq_getElem?_getD,List.getElem?_set]
 by_cases hj:k=j
 ·subst hj; simp [h]
 ·rw [if_neg hj,if_neg (by omega)]
theorem Uw (n j:Nat):dg (List.replicate n 0) j=0:=by
 unfold dg; rw [List.getD_eq_getElem?_getD,List.getElem?_replicate]; split <;> rfl
theorem aFN (l:List Nat) (k:Nat) (h:k < l.length):l.take (k+1)=l.take k++[dg l k]:=by
 rw [List.take_succ_eq_append_getElem h,Kt h]
theorem xM (l:List Nat):lo l 0=0:=by simp [lo,val]
theorem lG {l:List Nat} {k:Nat} (h:l.length≤k):lo l k=val l:=by unfold lo; rw [List.take_of_length_le h]
theorem lg (l:List Nat) (k:Nat):lo l (k+1)=lo l k+pw k*dg l k:=by
 rcases Nat.lt_or_ge k l.length with h | h
 ·unfold lo
  rw [aFN l k h,val_append,List.length_take,Nat.min_eq_left (Nat.le_of_lt h)]
  simp [val]
 ·rw [lG (Nat.le_succ_of_le h),lG h,NK h]; simp
theorem aow (l:List Nat) {k j:Nat} (v:Nat) (h:j≤k):lo (l.set k v) j=lo l j:=by
 unfold lo; rw [List.take_set_of_le h]
theorem sW {l:List Nat} (h:fQ l):val l < pw l.length:=by
 induction l with
 | nil=>simp [val,pw]
 | cons x l ih =>
  rw [Cb] at h
  have:=ih h.2
  simp only [Gj,List.length_cons,vH]
  omega
theorem BQ {l:List Nat} (h:fQ l) (k:Nat):lo l k < pw k:=by
 have h1:=sW (VJ h k)
 have h2:pw (l.take k).length≤pw k:=uX (by rw [List.length_take]; omega)
 unfold lo; omega
theorem TN (l:List Nat) (k:Nat):val l=lo l k+pw (min k l.length)*val (l.drop k):=by
 unfold lo
 have:=val_append (l.take k) (l.drop k)
 rw [List.take_append_drop,List.length_take] at this
 exact this
theorem ZN (n:Nat):val (List.replicate n 0)=0:=by
 induction n with
 | zero=>rfl
 | succ n ih=>rw [List.replicate_succ,Gj,ih]
theorem ajS (l:List Nat) (x:Nat):val (l++[x])=val l+pw l.length*x:=by rw [val_append]; simp [val]
theorem ajJ:wP []:=fun x h=>by cases h
theorem ajI {x:Nat} {l:List Nat} (h:wP (x :: l)):wP l:=by
 intro y hy
 refine h y ?_
 cases l with
 | nil=>cases hy
 | cons z l=>simpa [List.getLast?_cons_cons] using hy
theorem aeM {l:List Nat} (h:wP l) (hn:l≠[]):0 < val l:=by
 induction l with
 | nil=>exact absurd rfl hn
 | cons x l ih =>
  rw [Gj]
  cases l with
  | nil =>
   have:=h x rfl
   omega
  | cons y l =>
   have:=ih (ajI h) (by simp)
   omega
theorem ays {a b:List Nat} (ha:fQ a) (ta:wP a) (hb:fQ b) (tb:wP b) (h:val a=val b):a=b:=by
 induction a generalizing b with
 | nil =>
  cases b with
  | nil=>rfl
  | cons y b=>have:=aeM tb (by simp); rw [aeV] at h; omega
 | cons x a ih =>
  cases b with
  | nil=>have:=aeM ta (by simp); rw [aeV] at h; omega
  | cons y b =>
   rw [Cb] at ha hb
   rw [Gj,Gj] at h
   have h1:x=y:=by omega
   have h2:val a=val b:=by omega
   rw [h1,ih ha.2 (ajI ta) hb.2 (ajI tb) h2]
def Rz:Nat→Nat→List Nat
 | 0,_=>[]
 | f+1,n=>if n=0 then [] else n % 4294967296 :: Rz f (n / 4294967296)
def bg (n:Nat):List Nat:=Rz n n
theorem ahi (f n:Nat) (h:n≤f):val (Rz f n)=n∧fQ (Rz f n)∧wP (Rz f n):=by
 induction f generalizing n with
 | zero =>
      obtain rfl:n=0:=by omega
      exact ⟨rfl,Bj,ajJ⟩
 | succ f ih =>
  unfold Rz
  by_cases h0:n=0
  ·rw [if_pos h0]; exact ⟨h0.symm,Bj,ajJ⟩
  ·rw [if_neg h0]
   have hd:n / 4294967296≤f:=by omega
   obtain ⟨h1,h2,h3⟩:=ih _ hd
   refine ⟨?_,?_,?_⟩
   ·rw [Gj,h1]; omega
   ·rw [Cb]; exact ⟨Nat.mod_lt _ (by omega),h2⟩
   ·intro x hx
    cases hc:Rz f (n / 4294967296) with
    | nil =>
     rw [hc] at hx h1
     rw [aeV] at h1
     simp at hx
     omega
    | cons y l =>
     rw [hc] at hx h3
     rw [List.getLast?_cons_cons] at hx
     exact h3 x hx
theorem fA (n:Nat):val (bg n)=n:=(ahi n n (Nat.le_refl _)).1
theorem mJ (n:Nat):fQ (bg n):=(ahi n n (Nat.le_refl _)).2.1
theorem vU (n:Nat):wP (bg n):=(ahi n n (Nat.le_refl _)).2.2
theorem X0 {l:List Nat} (h:fQ l) (t:wP l):bg (val l)=l:=ays (mJ _) (vU _) h t (fA _)
theorem xP {n:Nat} : bg n=[]↔n=0:=⟨fun h=>by have:=fA n; rw [h] at this; exact this.symm,fun h=>by rw [h]; rfl⟩
theorem asn {l:List Nat} (h:dg l (l.length - 1)≠0):wP l:=by
 intro x hx
 rw [List.getLast?_eq_getElem?] at hx
 unfold dg at h
 rw [List.getD_eq_getElem?_getD,hx] at h
 simpa using h
theorem aci {l:List Nat} (hw:fQ l) (h:dg l (l.length - 1)≠0):bg (val l)=l:=X0 hw (asn h)
theorem asC {l:List Nat} (hn:0 < l.length) (h:dg l (l.length - 1)=0):val (l.take (l.length - 1))=val l:=by
 have h1:=lg l (l.length - 1)
 rw [h,Nat.sub_add_cancel (by omega),lG (Nat.le_refl _)] at h1
 unfold lo at h1
 omega
theorem Dz {n k:Nat} (h:(bg n).length≤k):n < pw k:=by
 have:=sW (mJ n)
 rw [fA] at this
 exact Nat.lt_of_lt_of_le this (uX h)
theorem Y8 {l:List Nat} (t:wP l) (h:l≠[]):pw (l.length - 1)≤val l:=by
 have hl:0 < l.length:=List.length_pos_iff.2 h
 have h1:=lg l (l.length - 1)
 rw [Nat.sub_add_cancel hl,lG (Nat.le_refl _)] at h1
 have h2:dg l (l.length - 1)≠0:=by
  refine t _ ?_
  rw [List.getLast?_eq_getElem?,NL (by omega)]
 have h3:pw (l.length - 1)*1≤pw (l.length - 1)*dg l (l.length - 1):=Nat.mul_le_mul_left _ (by omega)
 omega
theorem xQ {n k:Nat} (h:n < pw k):(bg n).length≤k:=by
 rcases Nat.lt_or_ge k (bg n).length with h1 | h1
 ·exfalso
  have h2:=Y8 (vU n) (by intro e; rw [e] at h1; simp at h1)
  rw [fA] at h2
  have h3:pw k≤pw ((bg n).length - 1):=uX (by omega)
  omega
 ·exact h1
theorem Yv {a b:List Nat} (ha:fQ a) (tb:wP b) (h:a.length < b.length):val a < val b:=by
 have h1:=sW ha
 have h2:=Y8 tb (by intro e; rw [e] at h; simp at h)
 have h3:pw a.length≤pw (b.length - 1):=uX (by omega)
 omega
end Lw
namespace Lw
open Go Go.RowKit
def Rd (w:World) (B:Nat) (A:Option Addr) (ns:List Nat):Prop :=
 fQ ns∧(0 < ns.length → ∃ b off,A=some ⟨b,off,none⟩∧b < B ∧ ∀ j,j < ns.length→w.cell? ⟨b,off+j,none⟩=some (.int .u32 (dg ns j:Int)))
section
variable {w w':World} {B B':Nat} {A:Option Addr} {ns:List Nat}
theorem Rd.gW (h:Rd w B A ns):fQ ns:=h.1
theorem Rd.at_ (h:Rd w B A ns) {k:Nat} (hk:k < ns.length) :
  ∃ b off,A=some ⟨b,off,none⟩∧b < B∧w.cell? ⟨b,off+k,none⟩=some (.int .u32 (dg ns k:Int))∧dg ns k < 4294967296:=by
 obtain ⟨b,off,hA,hb,hc⟩:=h.2 (by omega)
 exact ⟨b,off,hA,hb,hc k hk,ve h.1 k⟩
theorem Rd.nil_ (w:World) (B:Nat) (A:Option Addr):Rd w B A []:=⟨Bj,fun h=>absurd h (by simp)⟩
theorem Rd.keep (h:Rd w B A ns) (hk : ∀ p:Addr,p.block < B→w'.cell? p=w.cell? p):Rd w' B A ns :=
 ⟨h.1,fun hn=>by
  obtain ⟨b,off,hA,hb,hc⟩:=h.2 hn
  exact ⟨b,off,hA,hb,fun j hj=>(hk _ (by exact hb)).trans (hc j hj)⟩⟩
theorem Rd.more (h:Rd w B A ns) (hB:B≤B'):Rd w B' A ns :=
 ⟨h.1,fun hn=>by
  obtain ⟨b,off,hA,hb,hc⟩:=h.2 hn
  exact ⟨b,off,hA,by omega,hc⟩⟩
theorem Rd.below (h:Rd w B A ns) (hb:Below B w w'):Rd w' B A ns:=h.keep fun _ hp=>hb.cell hp
theorem Rd.drew (h:Rd w B A ns):Rd w.drew B A ns:=h
theorem Rd.drewN (h:Rd w B A ns) (k:Nat):Rd (w.drewN k) B A ns:=h
theorem Rd.alloc (h:Rd w B A ns) (hB:B≤w.heap.size) (o:Obj):Rd (w.alloc o) B A ns:=h.keep fun p hp=>World.cell?_alloc_lt w o p (by omega)
theorem Rd.setCell (h:Rd w B A ns) {p:Addr} (hB:B≤p.block) (u:Value):Rd (w.setCell p u) B A ns :=
 h.keep fun q hq=>World.cell?_setCell_other w p q u (fun e=>by subst e; omega)
theorem Rd.take (h:Rd w B A ns) (k:Nat):Rd w B A (ns.take k) :=
 ⟨VJ h.1 k,fun hn=>by
  rw [List.length_take] at hn
  obtain ⟨b,off,hA,hb,hc⟩:=h.2 (by omega)
  refine ⟨b,off,hA,hb,fun j hj => ?_⟩
  rw [List.length_take] at hj
  rw [acg (by omega)]
  exact hc j (by omega)⟩
theorem Rd.drop (h:Rd w B A ns) {k:Nat} {b off:Nat} (hA:A=some ⟨b,off,none⟩):Rd w B (some ⟨b,off+k,none⟩) (ns.drop k) :=
 ⟨akm h.1 k,fun hn=>by
  rw [List.length_drop] at hn
  obtain ⟨b',off',hA',hb,hc⟩:=h.2 (by omega)
  rw [hA] at hA'
  injection hA' with e
  injection e with e1 e2
  subst e1 e2
  refine ⟨b,off+k,rfl,hb,fun j hj => ?_⟩
  rw [List.length_drop] at hj
  rw [XY,Nat.add_assoc]
  exact hc (k+j) (by omega)⟩
theorem amB {l:List Nat} (h:fQ l):bg (val l)=l.take (bg (val l)).length:=by
 have hlen:(bg (val l)).length≤l.length:=xQ (sW h)
 generalize hm:(bg (val l)).length=m at *
 have h1:=TN l m
 rw [Nat.min_eq_left hlen] at h1
 have hlt:val l < pw m:=by
  have:=sW (mJ (val l))
  rw [fA,hm] at this
  exact this
 have h0:val (l.drop m)=0:=by
  rcases Nat.eq_zero_or_pos (val (l.drop m)) with h0 | h0
  ·exact h0
  ·have:=Nat.mul_le_mul_left (pw m) h0
   omega
 rw [h0,Nat.mul_zero,Nat.add_zero] at h1
 have ht:wP (l.take m):=by
  intro x hx hx0
  subst hx0
  have hm0:0 < m:=by
   rcases Nat.eq_zero_or_pos m with e | e
   ·subst e; simp at hx
   ·exact e
  have e1:(l.take m).length=m:=by rw [List.length_take]; omega
  have e2:dg (l.take m) (m - 1)=0:=by
   rw [List.getLast?_eq_getElem?,e1] at hx
   unfold dg
   rw [List.getD_eq_getElem?_getD,hx]; rfl
  have e3:=asC (l:=l.take m) (by omega) (by rw [e1]; exact e2)
  rw [e1,List.take_take,Nat.min_eq_left (by omega)] at e3
  have e4:=sW (VJ h (m - 1))
  have e5:(l.take (m - 1)).length=m - 1:=by rw [List.length_take]; omega
  rw [e5,e3] at e4
  have e6:=xQ (n:=val l) (k:=m - 1) (by rw [h1]; exact e4)
  omega
 rw [h1]
 exact X0 (VJ h m) ht
theorem Rd.bg (h:Rd w B A ns):Rd w B A (bg (val ns)):=by
 rw [amB h.1]; exact h.take _
def arr (ns:List Nat):List Value:=ns.map fun n:Nat=>Value.int .u32 (n:Int)
theorem GX (ns:List Nat):(arr ns).length=ns.length:=by simp [arr]
theorem agX (ns:List Nat) (j:Nat) (h:j < ns.length):(arr ns)[j]? = some (.int .u32 (dg ns j:Int)):=by
 simp [arr,NL h]
theorem axj (ns:List Nat) (j v:Nat):(arr ns).set j (.int .u32 (v:Int))=arr (ns.set j v):=by
 simp [arr,List.map_set]
def fH (w:World) (g:Nat) (t:TypeId) (ns:List Nat):Prop := ∃ rest:List Value,w.heap[g]? = some (.cells (arr ns++rest).toArray t (0,0))
variable {g:Nat} {t:TypeId}
theorem fH.lt (h:fH w g t ns):g < w.heap.size:=by
 rcases Nat.lt_or_ge g w.heap.size with hlt | hge
 ·exact hlt
 ·obtain ⟨rest,h⟩:=h; rw [Array.getElem?_eq_none hge] at h; cases h
theorem fH.cell (h:fH w g t ns) {i:Nat} (hi:i < ns.length):w.cell? ⟨g,i,none⟩=some (.int .u32 (dg ns i:Int)):=by
 obtain ⟨rest,h⟩:=h
 rw [cell_of_row w g i _ t (0,0) h]
 simp only [List.getElem?_toArray]
 rw [List.getElem?_append_left (by rw [GX]; exact hi),agX ns i hi]
theorem fH.frozen (h:fH w g t ns) (i:Nat):w.frozen? ⟨g,i,none⟩=false:=by
 obtain ⟨rest,h⟩:=h
 simp [World.frozen?,h]
theorem fH.drew (h:fH w g t ns):fH w.drew g t ns:=h
theorem fH.drewN (h:fH w g t ns) (n:Nat):fH (w.drewN n) g t ns:=h
theorem fH.of_same (h:fH w g t ns) (e:w'.heap[g]? = w.heap[g]?):fH w' g t ns:=by obtain ⟨rest,h⟩:=h; exact ⟨rest,e.trans h⟩
theorem fH.alloc (h:fH w g t ns) (o:Obj):fH (w.alloc o) g t ns:=h.of_same (Below.heap_alloc w o g h.lt)
theorem fH.Gi (h:fH w g t ns) {i:Nat} (v:Nat) (hi:i < ns.length):fH (w.setCell ⟨g,i,none⟩ (.int .u32 (v:Int))) g t (ns.set i v):=by
 obtain ⟨rest,h⟩:=h
 refine ⟨rest,?_⟩
 rw [← axj,← List.set_append_left _ _ (by rw [GX]; exact hi)]
 simp [World.setCell,Array.getElem?_modify,h]
theorem fH.far (h:fH w g t ns) {p:Addr} (hp:g≠p.block) (u:Value):fH (w.setCell p u) g t ns:=h.of_same (Below.heap_setCell w p u g hp)
theorem fH.below {B:Nat} (h:fH w g t ns) (hb:Below B w w') (hg:g < B):fH w' g t ns:=h.of_same (hb.block g hg)
theorem fH.rd (h:fH w g t ns) (hw:fQ ns):Rd w w.heap.size (some ⟨g,0,none⟩) ns :=
 ⟨hw,fun _=>⟨g,0,rfl,h.lt,fun j hj=>by rw [Nat.zero_add]; exact h.cell hj⟩⟩
theorem fH.aDU (h:fH w g t ns) (hw:fQ ns) (k m:Nat) (hm:k+m≤ns.length):Rd w w.heap.size (some ⟨g,k,none⟩) ((ns.drop k).take m) :=
 ⟨VJ (akm hw k) m,fun _=>⟨g,k,rfl,h.lt,fun j hj=>by
  rw [List.length_take,List.length_drop] at hj
  rw [acg (by omega),XY]; exact h.cell (by omega)⟩⟩
end
end Lw
namespace Lw
open Go
theorem adV {i a b:Nat} (h:b < 2 ^ i):a*2 ^ i ||| b=a*2 ^ i+b:=by
 rw [Nat.mul_comm]; exact (Nat.two_pow_add_eq_or_of_lt h a).symm
theorem aiB {i:Nat} {a b:Nat} (h:b < 2 ^ i) (h2:a*2 ^ i < 18446744073709551616) (hi:2 ^ i < 18446744073709551616) :
  bits .or .u64 ((a:Int)*(2 ^ i:Nat)) (b:Int)=((a*2 ^ i+b:Nat):Int):=by
 have:=u64_or_nat (a*2 ^ i) b h2 (by omega)
 rw [adV h] at this
 rw [← this,Int.natCast_mul]
theorem SV {x y:Nat} (hx:x < 4294967296) (hy:y < 4294967296):bits .or .u64 ((x:Int)*4294967296) (y:Int)=((y+4294967296*x:Nat):Int):=by
 have:=aiB (i:=32) (a:=x) (b:=y) (by simpa using hy) (by simp; omega) (by simp)
 simp only [Nat.reducePow] at this
 rw [show ((4294967296:Nat):Int)=(4294967296:Int) from rfl] at this
 rw [this]; omega
theorem axf (a:Nat):a &&& 4294967295=a % 4294967296:=by
 have:=Nat.and_two_pow_sub_one_eq_mod a 32
 simpa using this
theorem agV {a:Nat} (h:a < 18446744073709551616):bits .and .u64 (a:Int) 4294967295=((a % 4294967296:Nat):Int):=by
 have:=u64_and_nat a 4294967295 h (by omega)
 rw [axf] at this
 exact this
end Lw
namespace Lw
open Go Go.RowKit
def Two (w:World) (g:Nat) (t:TypeId) (x y:Value):Prop:=w.heap[g]? = some (.cells #[x,y] t (0,0))
section
variable {w w':World} {g:Nat} {t:TypeId} {x y:Value}
theorem Two.lt (h:Two w g t x y):g < w.heap.size:=by
 rcases Nat.lt_or_ge g w.heap.size with hlt | hge
 ·exact hlt
 ·unfold Two at h; rw [Array.getElem?_eq_none hge] at h; cases h
theorem Two.new (w:World) (t:TypeId) (x y:Value):Two (w.alloc (.cells #[x,y] t)) w.heap.size t x y:=heap_alloc_new w _
theorem Two.alloc (h:Two w g t x y) (o:Obj):Two (w.alloc o) g t x y:=(Below.heap_alloc w o g h.lt).trans h
theorem Two.drew (h:Two w g t x y):Two w.drew g t x y:=h
theorem Two.drewN (h:Two w g t x y) (n:Nat):Two (w.drewN n) g t x y:=h
theorem Two.below {B:Nat} (h:Two w g t x y) (hb:Below B w w') (hg:g < B):Two w' g t x y:=(hb.block g hg).trans h
theorem Two.far (h:Two w g t x y) {p:Addr} (hp:g≠p.block) (u:Value):Two (w.setCell p u) g t x y:=(Below.heap_setCell w p u g hp).trans h
theorem Two.facts (h:Two w g t x y):w.cell? ⟨g,0,none⟩=some x∧w.cell? ⟨g,1,none⟩=some y∧w.frozen? ⟨g,0,none⟩=false∧w.frozen? ⟨g,1,none⟩=false:=by
 unfold Two at h
 exact ⟨by rw [cell_of_row w g 0 _ t (0,0) h]; rfl,by rw [cell_of_row w g 1 _ t (0,0) h]; rfl,by simp [World.frozen?,h],by simp [World.frozen?,h]⟩
theorem Two.put (h:Two w g t x y) (x' y':Value):Two ((w.setCell ⟨g,0,none⟩ x').setCell ⟨g,1,none⟩ y') g t x' y':=by
 have h1:Two (w.setCell ⟨g,0,none⟩ x') g t x' y:=by
  unfold Two at h ⊢
  simp [World.setCell,Array.getElem?_modify,h]
 unfold Two at h1 ⊢
 generalize w.setCell ⟨g,0,none⟩ x'=v at *
 simp [World.setCell,Array.getElem?_modify,h1]
end
section
variable {w w1:World} {t t' t'':TypeId} {x y x' y' x'' J7:Value}
theorem box1 (hb:Below (w.alloc (.cells #[x,y] t)).heap.size (w.alloc (.cells #[x,y] t)) w1) :
  Two w1 w.heap.size t x y∧w.heap.size+1≤w1.heap.size∧Below w.heap.size w w1 :=
 ⟨(Two.new w t x y).below hb (by simp),by have:=hb.size; simpa using this,((Below.refl _ _).alloc (Nat.le_refl _) _).trans (hb.mono (by simp))⟩
theorem fF (hb:Below ((w.alloc (.cells #[x,y] t)).alloc (.cells #[x',y'] t')).heap.size ((w.alloc (.cells #[x,y] t)).alloc (.cells #[x',y'] t')) w1) :
  Two w1 w.heap.size t x y∧Two w1 (w.heap.size+1) t' x' y'∧w.heap.size+2≤w1.heap.size∧Below w.heap.size w w1:=by
 refine ⟨((Two.new w t x y).alloc _).below hb (by simp; omega),?_,by have:=hb.size; simpa using this,?_⟩
 ·have h2:=(Two.new (w.alloc (.cells #[x,y] t)) t' x' y').below hb (by simp)
  simpa using h2
 ·exact (((Below.refl _ _).alloc (Nat.le_refl _) _).alloc (by simp) _).trans (hb.mono (by simp; omega))
theorem gQ (hb:Below (((w.alloc (.cells #[x,y] t)).alloc (.cells #[x',y'] t')).alloc (.cells #[x'',J7] t'')).heap.size (((w.alloc (.cells #[x,y] t)).alloc (.cells #[x',y'] t')).alloc (.cells #[x'',J7] t'')) w1) :
  Two w1 w.heap.size t x y∧Two w1 (w.heap.size+1) t' x' y'∧Two w1 (w.heap.size+2) t'' x'' J7∧w.heap.size+3≤w1.heap.size∧Below w.heap.size w w1:=by
 refine ⟨(((Two.new w t x y).alloc _).alloc _).below hb (by simp; omega),?_,?_,by have:=hb.size; simpa using this,?_⟩
 ·have h2:=((Two.new (w.alloc (.cells #[x,y] t)) t' x' y').alloc (.cells #[x'',J7] t'')).below hb (by simp)
  simpa using h2
 ·have h2:=(Two.new ((w.alloc (.cells #[x,y] t)).alloc (.cells #[x',y'] t')) t'' x'' J7).below hb (by simp)
  simpa using h2
 ·exact ((((Below.refl _ _).alloc (Nat.le_refl _) _).alloc (by simp) _).alloc (by simp; omega) _).trans (hb.mono (by simp; omega))
end
theorem Rd.PZ {w:World} {B g n c:Nat} {t:TypeId} {s:Bool} {A A':Option Addr} {ns:List Nat} (h:Rd w B A ns) (h2:Two w g t (.bool s) (.slice A' n c)) {b off:Nat} (hn:0 < ns.length) (hA:A=some ⟨b,off,none⟩):b≠g:=by
 rintro rfl
 obtain ⟨b',off',hA',hb,hc⟩:=h.2 hn
 rw [hA] at hA'
 injection hA' with e
 injection e with e1 e2
 subst e1 e2
 have h0:=hc 0 hn
 unfold Two at h2
 rw [cell_of_row w b _ _ t (0,0) h2] at h0
 match off,h0 with
 | 0,h0=>simp at h0
 | 1,h0=>simp at h0
 | k+2,h0=>simp at h0
theorem Rd.OZ {w:World} {B g n c i:Nat} {t:TypeId} {s:Bool} {A A':Option Addr} {ns:List Nat} (h:Rd w B A ns) (h2:Two w g t (.bool s) (.slice A' n c)) (u:Value):Rd (w.setCell ⟨g,i,none⟩ u) B A ns :=
 ⟨h.1,fun hn=>by
  obtain ⟨b,off,hA,hb,hc⟩:=h.2 hn
  have hne:=h.PZ h2 hn hA
  refine ⟨b,off,hA,hb,fun j hj => ?_⟩
  rw [← hc j hj]
  exact World.cell?_setCell_other w _ _ u (fun e=>hne (by injection e with e1; first | exact e1 | exact e1.symm))⟩
theorem Rd.yF {w:World} {B g n c:Nat} {t:TypeId} {s:Bool} {A A':Option Addr} {ns:List Nat} (h:Rd w B A ns) (h2:Two w g t (.bool s) (.slice A' n c)) (s':Bool) (v:Value) :
  Rd ((w.setCell ⟨g,0,none⟩ (.bool s')).setCell ⟨g,1,none⟩ v) B A ns:=by
 have h3:Two (w.setCell ⟨g,0,none⟩ (.bool s')) g t (.bool s') (.slice A' n c):=by
  unfold Two at h2 ⊢
  simp [World.setCell,Array.getElem?_modify,h2]
 exact (h.OZ h2 _).OZ h3 _
theorem fK {B:Nat} {a b c:World} (h:Below B a b) (h':Below b.heap.size b c) (hB:B≤a.heap.size):Below B a c:=h.trans (h'.mono (Nat.le_trans hB h.size))
theorem F7 {W w1:World} (h:Below W.drew.heap.size W.drew w1):Below W.heap.size W w1:=fK (Below.refl _ W).drew h (Nat.le_refl _)
theorem Jn {W w1 w2:World} (h:Below W.heap.size W w1) (h':Below w1.heap.size w1 w2):Below W.heap.size W w2:=fK h h' (Nat.le_refl _)
theorem Two.next {W W':World} {g:Nat} {t:TypeId} {x y:Value} (h:Two W g t x y) (hb:Below W.heap.size W W'):Two W' g t x y:=h.below hb h.lt
theorem Rd.next {W W':World} {B:Nat} {A:Option Addr} {ns:List Nat} (h:Rd W B A ns) (hb:Below W.heap.size W W') (hB:B≤W.heap.size):Rd W' B A ns:=h.below (hb.mono hB)
theorem F9 {w W:World} {H g g' B B' n n' c c':Nat} {t:TypeId} {a a':Bool} {X X' A A':Option Addr} {l l':List Nat} (s s':Bool) (v v':Value) (h1:Two W g t (.bool a) (.slice X n c)) (h2:Two W g' t (.bool a') (.slice X' n' c'))
  (hne:g≠g') (r:Rd W B A l) (r':Rd W B' A' l') (hb:Below H w W) (hg:H≤g) (hg':H≤g') :
  Two ((((W.setCell ⟨g,0,none⟩ (.bool s)).setCell ⟨g,1,none⟩ v).setCell ⟨g',0,none⟩ (.bool s')).setCell ⟨g',1,none⟩ v') g t (.bool s) v ∧
  Two ((((W.setCell ⟨g,0,none⟩ (.bool s)).setCell ⟨g,1,none⟩ v).setCell ⟨g',0,none⟩ (.bool s')).setCell ⟨g',1,none⟩ v') g' t (.bool s') v' ∧
  Rd ((((W.setCell ⟨g,0,none⟩ (.bool s)).setCell ⟨g,1,none⟩ v).setCell ⟨g',0,none⟩ (.bool s')).setCell ⟨g',1,none⟩ v') B A l ∧
  Rd ((((W.setCell ⟨g,0,none⟩ (.bool s)).setCell ⟨g,1,none⟩ v).setCell ⟨g',0,none⟩ (.bool s')).setCell ⟨g',1,none⟩ v') B' A' l' ∧
  Below H w ((((W.setCell ⟨g,0,none⟩ (.bool s)).setCell ⟨g,1,none⟩ v).setCell ⟨g',0,none⟩ (.bool s')).setCell ⟨g',1,none⟩ v'):=by
 have k2:=(h2.far (p:=⟨g,0,none⟩) (Ne.symm hne) (.bool s)).far (p:=⟨g,1,none⟩) (Ne.symm hne) v
 exact ⟨((h1.put (.bool s) v).far (p:=⟨g',0,none⟩) hne _).far (p:=⟨g',1,none⟩) hne _,k2.put _ _,(r.yF h1 s v).yF k2 s' v',(r'.yF h1 s v).yF k2 s' v',
  (((hb.setCell hg _).setCell hg _).setCell hg' _).setCell hg' _⟩
theorem Two.D9 {W:World} {g g1 g2:Nat} {t:TypeId} {x y:Value} (h:Two W g t x y) (h1:g≠g1) (h2:g≠g2) (u0 u1 u2 u3:Value) :
  Two ((((W.setCell ⟨g1,0,none⟩ u0).setCell ⟨g1,1,none⟩ u1).setCell ⟨g2,0,none⟩ u2).setCell ⟨g2,1,none⟩ u3) g t x y :=
 (((h.far (p:=⟨g1,0,none⟩) h1 _).far (p:=⟨g1,1,none⟩) h1 _).far (p:=⟨g2,0,none⟩) h2 _).far (p:=⟨g2,1,none⟩) h2 _
theorem axx {w w1:World} {t t' t'' t3:TypeId} {x y x' y' x'' J7 x3 y3:Value} (hb:Below ((((w.alloc (.cells #[x,y] t)).alloc (.cells #[x',y'] t')).alloc (.cells #[x'',J7] t'')).alloc (.cells #[x3,y3] t3)).heap.size ((((w.alloc (.cells #[x,y] t)).alloc (.cells #[x',y'] t')).alloc (.cells #[x'',J7] t'')).alloc (.cells #[x3,y3] t3)) w1) :
  Two w1 w.heap.size t x y∧Two w1 (w.heap.size+1) t' x' y'∧Two w1 (w.heap.size+1+1) t'' x'' J7∧Two w1 (w.heap.size+1+1+1) t3 x3 y3∧w.heap.size+4≤w1.heap.size∧Below w.heap.size w w1:=by
 have hb':=((Below.refl _ (((w.alloc (.cells #[x,y] t)).alloc (.cells #[x',y'] t')).alloc (.cells #[x'',J7] t''))).alloc (Nat.le_refl _) (.cells #[x3,y3] t3)).trans (hb.mono (by simp))
 obtain ⟨a1,a2,a3,_,a5⟩:=gQ hb'
 refine ⟨a1,a2,a3,?_,by have:=hb.size; simpa using this,a5⟩
 have h2:=(Two.new (((w.alloc (.cells #[x,y] t)).alloc (.cells #[x',y'] t')).alloc (.cells #[x'',J7] t'')) t3 x3 y3).below hb (by simp)
 simpa using h2
end Lw
namespace Lw
theorem VA {l:List Nat} (h:fQ l) {k:Nat} (hk:k≤l.length) (hv:val (l.take k)=val l) (h0:k=0∨dg l (k - 1)≠0):k=(bg (val l)).length:=by
 have hl:(l.take k).length=k:=by rw [List.length_take]; omega
 rcases h0 with h0 | h0
 ·subst h0
  rw [List.take_zero] at hv
  rw [← hv]; rfl
 ·rw [← hv]
  rcases Nat.eq_zero_or_pos k with hk0 | hk0
  ·subst hk0
   rw [List.take_zero]; rfl
  ·rw [aci (VJ h k) (by rw [hl,acg (by omega)]; exact h0),hl]
theorem ajG {l:List Nat} {k:Nat} (hk:k≤l.length) (hk0:k≠0) (hv:val (l.take k)=val l) (h0:dg l (k - 1)=0):val (l.take (k - 1))=val l:=by
 have hl:(l.take k).length=k:=by rw [List.length_take]; omega
 have h1:=asC (l:=l.take k) (by omega) (by rw [hl,acg (by omega)]; exact h0)
 rw [hl,List.take_take,Nat.min_eq_left (by omega)] at h1
 rw [h1,hv]
theorem BI {l:List Nat} (h:fQ l):(bg (val l)).length≤l.length:=xQ (sW h)
end Lw
namespace Go.Proofs.YtbihljnjaondcaaGreatDoor
open Go Go.RowKit Lw
def cnt:Value→Nat | .slice _ n _=>n | _=>0
theorem BV {A:Option Addr} {k m c:Nat} (h:k=m):Ending.returned (.slice A k c)=Ending.returned (.slice A m c):=by rw [h]
set_option maxHeartbeats 400000 in
theorem H6 (A:Option Addr) (ns:List Nat) (n c B:Nat) (w:World) (h:Rd w B A ns) (hn:ns.length=n) (hc:n≤c) (hl:n≤4294967296) :
  Calls Tryz.prog 202 #[.slice A n c] w fun e w'=>e = .returned (.slice A (bg (val ns)).length c)∧w=w':=by
 have Hn:=Lib.hid hn
 go_enter Tryz.func202,Tryz.ntmps202
 clear hn
 go_wp2
 go_loop [0] (fun v => ∃ k:Nat,k≤n∧v = .slice A k c∧Hid (val (ns.take k)=val ns)) (fun v=>cnt v)
 case atStart=>exact ⟨n,Nat.le_refl _,rfl,Lib.hid (by rw [← Hn.out,List.take_length])⟩
 case round =>
  obtain ⟨k,hk,rfl,hv⟩:=hrel
  by_cases hk0:k=0
  ·subst hk0
   go_wp2
   go_ret
   exact ⟨BV (VA h.gW (Nat.zero_le _) hv.out (.inl rfl)),rfl⟩
  ·obtain ⟨b,off,rfl,hb,hcell,hlt⟩:=h.at_ (k:=k - 1) (by rw [Hn.out]; omega)
   by_cases hd:dg ns (k - 1)=0
   ·have HV:Hid (val (ns.take (k - 1))=val ns):=Lib.hid (ajG (by rw [Hn.out]; exact hk) hk0 hv.out hd)
    go_wp2
    go_round
    case rel=>exact ⟨k - 1,by omega,rfl,HV⟩
    case measure=>simp [cnt]; omega
   ·go_wp2
    go_ret
    exact ⟨BV (VA h.gW (by rw [Hn.out]; exact hk) hv.out (.inr hd)),rfl⟩
end Go.Proofs.YtbihljnjaondcaaGreatDoor
namespace Lw
def wd (l:List Nat) (i:Int):Nat:=if i < 0 then 0 else dg l i.toNat
theorem Dq (l:List Nat) (k:Nat):wd l (k:Int)=dg l k:=by unfold wd; rw [if_neg (by omega),Int.toNat_natCast]
theorem H7 {l:List Nat} (h:fQ l) (i:Int):wd l i < 4294967296:=by
 unfold wd; split
 ·omega
 ·exact ve h _
theorem ath {l:List Nat} {i:Int} (h:i < 0):wd l i=0:=by unfold wd; rw [if_pos h]
theorem aAW (l:List Nat):lo l 2=wd l 0+4294967296*wd l 1:=by
 have h0:=Dq l 0
 have h1:=Dq l 1
 have e1:=lg l 0
 have e2:=lg l 1
 rw [xM,Jo] at e1
 have p1:pw 1=4294967296:=rfl
 rw [p1] at e2
 simp only [Nat.zero_add,Nat.reduceAdd,Int.cast_ofNat_Int] at *
 omega
theorem aHs {l:List Nat} {i:Int} (h:(l.length:Int)≤i):wd l i=0:=by unfold wd; rw [if_neg (by omega)]; exact NK (by omega)
end Lw
namespace Go.Proofs.YtbihljnjaondcaaGreatDoor
open Go Go.RowKit Lw
theorem rF {k:IntKind} {a b:Int} (h:a=b):Ending.returned (.int k a)=Ending.returned (.int k b):=by rw [h]
set_option maxHeartbeats 400000 in
theorem H9 (A:Option Addr) (ns:List Nat) (n c B:Nat) (i:Int) (w:World) (h:Rd w B A ns) (hn:ns.length=n) (_hl:n≤4294967296) :
  Calls Tryz.prog 204 #[.slice A n c,.int .i64 i] w fun e w'=>e = .returned (.int .u64 (wd ns i:Int))∧w=w':=by
 have Hn:=Lib.hid hn
 clear hn
 by_cases h0:i < 0
 ·go_enter Tryz.func204,Tryz.ntmps204
  go_wp2
  go_ret
  exact ⟨rF (by rw [ath h0]; rfl),rfl⟩
 ·by_cases h1:(n:Int)≤i
  ·go_enter Tryz.func204,Tryz.ntmps204
   go_wp2
   go_ret
   exact ⟨rF (by rw [aHs (by rw [Hn.out]; exact h1)]; rfl),rfl⟩
  ·obtain ⟨k,rfl⟩:=Int.eq_ofNat_of_zero_le (show 0≤i by omega)
   obtain ⟨b,off,rfl,hb,hcell,hlt⟩:=h.at_ (k:=k) (by rw [Hn.out]; omega)
   go_enter Tryz.func204,Tryz.ntmps204
   go_wp2
   go_ret
   exact ⟨rF (by rw [Dq]),rfl⟩
set_option maxHeartbeats 400000 in
theorem SA (A:Option Addr) (ns:List Nat) (n c B:Nat) (w:World) (h:Rd w B A ns) (hn:ns.length=n) (hl:n≤4294967296) :
  Calls Tryz.prog 234 #[.slice A n c] w fun e w'=>e = .returned (.int .u64 (lo ns 2:Int))∧w=w':=by
 have e0:=H7 h.gW 0
 have e1:=H7 h.gW 1
 have Hn:=Lib.hid hn
 clear hn
 go_enter Tryz.func234,Tryz.ntmps234
 go_wp2_with (go_at_call 204; refine (H9 _ ns _ _ _ _ _ h Hn.out hl).mono ?_; rintro e w' ⟨rfl,rfl⟩)
 go_ret
 exact ⟨rF (by rw [SV e1 e0,aAW]),rfl⟩
end Go.Proofs.YtbihljnjaondcaaGreatDoor
namespace Lw
def yB (a b:Nat):Int:=if a < b then -1 else if a=b then 0 else 1
theorem Py {a b:Nat} (h:a < b):yB a b = -1:=by unfold yB; rw [if_pos h]
theorem Rt {a b:Nat} (h:b < a):yB a b=1:=by unfold yB; rw [if_neg (by omega),if_neg (by omega)]
theorem Ur {a b:Nat} (h:a=b):yB a b=0:=by unfold yB; rw [if_neg (by omega),if_pos h]
def Same (a b:List Nat) (k:Nat):Prop:=a.drop k=b.drop k
theorem aFl {a b:List Nat} {n:Nat} (ha:a.length=n) (hb:b.length=n):Same a b n:=by
 unfold Same; rw [List.drop_of_length_le (by omega),List.drop_of_length_le (by omega)]
theorem aFm {a b:List Nat} {k:Nat} (ha:k < a.length) (hb:k < b.length) (h:Same a b (k+1)) (hd:dg a k=dg b k):Same a b k:=by
 unfold Same at *
 rw [List.drop_eq_getElem_cons ha,List.drop_eq_getElem_cons hb,h,← Kt ha,← Kt hb,hd]
theorem aFo {a b:List Nat} (h:Same a b 0):val a=val b:=by
 unfold Same at h; rw [List.drop_zero,List.drop_zero] at h; rw [h]
theorem arU {a b:List Nat} {n k:Nat} (wa:fQ a) (ha:a.length=n) (hb:b.length=n) (h:Same a b (k+1)) (hd:dg a k < dg b k):val a < val b:=by
 have h1:=TN a (k+1)
 have h2:=TN b (k+1)
 unfold Same at h
 rw [ha,h] at h1
 rw [hb] at h2
 have h3:=BQ wa k
 rw [lg] at h1 h2
 have h4:pw k*(dg a k+1)≤pw k*dg b k:=Nat.mul_le_mul_left _ hd
 rw [Nat.mul_add,Nat.mul_one] at h4
 generalize pw (min (k+1) n)*val (b.drop (k+1))=z at *
 omega
end Lw
namespace Go.Proofs.YtbihljnjaondcaaGreatDoor
open Go Go.RowKit Lw
theorem below_drewN' (B:Nat) (w:World) (n:Nat):Below B w (w.drewN n):=⟨rfl,rfl,rfl,Nat.le_refl _,fun _ _=>rfl⟩
set_option maxHeartbeats 400000 in
theorem IK (A A':Option Addr) (ns ms:List Nat) (n m c c' B B':Nat) (w:World) (h:Rd w B A ns) (h':Rd w B' A' ms) (t:wP ns) (t':wP ms)
  (hn:ns.length=n) (hm:ms.length=m) (hl:n≤4294967296) (hl':m≤4294967296) :
  Calls Tryz.prog 180 #[.slice A n c,.slice A' m c'] w fun e w'=>e = .returned (.int .i64 (yB (val ns) (val ms))) ∧ ∃ q,w'=w.drewN q:=by
 have Hn:=Lib.hid hn
 have Hm:=Lib.hid hm
 clear hn hm
 by_cases hnm:n=m
 ·subst hnm
  go_enter Tryz.func180,Tryz.ntmps180
  go_wp2
  go_loopw [5] (fun v wr => ∃ (i:Int) (q:Nat),-1≤i∧i < n∧v = .int .i64 i∧Hid (Same ns ms (i+1).toNat)∧wr=w.drewN q) (fun v _=>(intOf v+1).toNat)
  case atStart=>exact ⟨(n:Int) - 1,0,by omega,by omega,rfl,Lib.hid (by rw [show ((n:Int) - 1+1).toNat=n by omega]; exact aFl Hn.out Hm.out),rfl⟩
  case round =>
   obtain ⟨i,q,hi,hin,rfl,hs,rfl⟩:=hrel
   by_cases h0:i < 0
   ·have HV:Hid (val ns=val ms):=Lib.hid (aFo (by have:=hs.out; rwa [show (i+1).toNat=0 by omega] at this))
    go_wp2
    go_ret
    exact ⟨rF (by rw [Ur HV.out]),q,rfl⟩
   ·obtain ⟨k,rfl⟩:=Int.eq_ofNat_of_zero_le (show 0≤i by omega)
    have hs1:Hid (Same ns ms (k+1)):=Lib.hid (by have:=hs.out; rwa [show ((k:Int)+1).toNat=k+1 by omega] at this)
    clear hs
    obtain ⟨b,off,rfl,hb,hcell,hlt⟩:=h.at_ (k:=k) (by rw [Hn.out]; omega)
    obtain ⟨b',off',rfl,hb',hcell',hlt'⟩:=h'.at_ (k:=k) (by rw [Hm.out]; omega)
    rcases Nat.lt_trichotomy (dg ns k) (dg ms k) with hd | hd | hd
    ·have hb1:((dg ns k:Int) != (dg ms k:Int))=true:=by rw [bne_iff_ne]; omega
     go_wp2
     go_quiet (fail)
     go_wp2
     go_quiet (fail)
     go_wp2
     go_ret
     exact ⟨rF (by rw [Py (arU h.gW Hn.out Hm.out hs1.out hd)]),_,by rw [World.drewN_drewN,World.drewN_drewN]⟩
    ·have hb1:((dg ns k:Int) != (dg ms k:Int))=false:=by rw [bne_eq_false_iff_eq]; omega
     have HS:Hid (Same ns ms k):=Lib.hid (aFm (by rw [Hn.out]; omega) (by rw [Hm.out]; omega) hs1.out hd)
     have Hd:=Lib.hid hd
     clear hd
     go_wp2
     go_quiet (fail)
     go_wp2
     go_roundw
     case rel=>exact ⟨(k:Int) - 1,q+nq,by omega,by omega,rfl,by rw [show ((k:Int) - 1+1).toNat=k by omega]; exact HS,rfl⟩
     case measure=>simp [intOf]
    ·have hb1:((dg ns k:Int) != (dg ms k:Int))=true:=by rw [bne_iff_ne]; omega
     go_wp2
     go_quiet (fail)
     go_wp2
     go_quiet (fail)
     go_wp2
     go_ret
     exact ⟨rF (by rw [Rt (arU h'.gW Hm.out Hn.out (Eq.symm hs1.out) hd)]),_,by rw [World.drewN_drewN,World.drewN_drewN]⟩
 ·have hb1:((n:Int) != (m:Int))=true:=by rw [bne_iff_ne]; omega
  rcases Nat.lt_or_ge n m with hlt | hge
  ·go_enter Tryz.func180,Tryz.ntmps180
   go_wp2
   go_ret
   exact ⟨rF (by rw [Py (Yv h.gW t' (by rw [Hn.out,Hm.out]; exact hlt))]),0,rfl⟩
  ·have hlt:m < n:=by omega
   go_enter Tryz.func180,Tryz.ntmps180
   go_wp2
   go_ret
   exact ⟨rF (by rw [Rt (Yv h'.gW t (by rw [Hn.out,Hm.out]; exact hlt))]),0,rfl⟩
end Go.Proofs.YtbihljnjaondcaaGreatDoor
namespace Lw
open Go Go.RowKit
theorem aA1 (n:Nat):madeCells #[Value.int .u32 0] n=(arr (List.replicate n 0)).toArray:=by
 apply Array.toList_inj.1
 rw [toList_madeCells_one]
 simp [arr]
theorem fH.new (w:World) (t:TypeId) (ns:List Nat):fH (w.alloc (.cells (arr ns).toArray t)) w.heap.size t ns:=⟨[],by rw [List.append_nil]; exact heap_alloc_new w _⟩
theorem fH.Fg {w:World} {g:Nat} {t:TypeId} {ns:List Nat} (h:fH w g t ns) {i:Nat} (hi:i < ns.length) {z:Int} {v:Nat} (hz:z=(v:Int)) :
  fH (w.setCell ⟨g,i,none⟩ (.int .u32 z)) g t (ns.set i v):=by subst hz; exact h.Gi v hi
theorem aFG {p s:Nat} : p*(s % 4294967296)+4294967296*p*(s / 4294967296)=p*s:=by
 have h:=Nat.mod_add_div s 4294967296
 generalize s % 4294967296=r at *
 generalize s / 4294967296=q at *
 subst h
 rw [Nat.mul_add,Nat.mul_comm 4294967296 p,Nat.mul_assoc]
theorem Ec {cs:List Nat} {k:Nat} (v:Nat) (h:k < cs.length):lo (cs.set k v) (k+1)=lo cs k+pw k*v:=by
 rw [lg,aow _ _ (Nat.le_refl _),BG v h,if_pos rfl]
theorem aiE {cs:List Nat} {k s c z t:Nat} (h:k < cs.length) (hv:lo cs k+pw k*c=z) (hs:s=c+t) :
  lo (cs.set k (s % 4294967296)) (k+1)+pw (k+1)*(s / 4294967296)=z+pw k*t:=by
 rw [Ec _ h,vH,Nat.add_assoc,aFG,hs,Nat.mul_add]
 omega
theorem Eo {P:Program} (w:World) {ops:Array Oper} {rest:List Oper} {o:Oper} {a:Act} {Q:Exit→Act→World→Prop}
  (hg:o.guard=none) (l c:Operand) (t:TypeId) (hop:o.op=Op.makeSlice t l c)
  (e:TypeId) (h1:P.underlying t=some (.slice e)) (hinfo:(P.info? e).map (fun i=>(i.zero,i.size,i.bytes))=some (some (.int .u32 0),1,4))
  (kl kc:IntKind) (L C:Int) (n:Nat) (hl:a.eval l = .int kl L) (hc:a.eval c = .int kc C) (hL:L=(n:Int)) (hC:C=(n:Int)) (hn:n≤1099511627776)
  (hK : ∀ w',fH w' w.heap.size e (List.replicate n 0)→Below w.heap.size w w'→w'.heap.size=w.heap.size+1→wpList P ops Q rest (a.put o.dst (.slice (some ⟨w.heap.size,0,none⟩) n n)) w') :
  wpList P ops Q (o :: rest) a w:=by
 obtain ⟨i,h2,h3,h4,h5⟩:=info_parts hinfo
 refine wpList_plain hg fun K hK' => ?_
 have hrun:=run_make (P:=P) w t e i _ h1 h2 h3 kl kc n n (by omega) (Int.le_refl _) (by rw [h5]; omega) (by omega)
 simp only [Int.toNat_natCast,h4,Nat.mul_one] at hrun
 rw [show (Value.int IntKind.u32 0).cells = #[Value.int .u32 0] from rfl,aA1] at hrun
 subst hL
 subst hC
 unfold Oper.wp
 simp [execOp,hop,hl,hc,hrun,Result.andThen]
 exact hK' _ _ (hK _ (fH.new _ _ _) ((Below.refl _ _).alloc (Nat.le_refl _) _) (by simp))
end Lw
namespace Go.Proofs.YtbihljnjaondcaaGreatDoor
open Go Go.RowKit Lw
theorem Az:(Tryz.prog.info? 99).map (fun i=>(i.zero,i.size,i.bytes))=some (some (.int .u32 0),1,4):=by kernel_rfl
end Go.Proofs.YtbihljnjaondcaaGreatDoor
