/- Part of a proof, said shortly. -/
import Derived.WalkKit
import Derived.WalkSpells
import Derived.WalkLawsBesides
import Derived.Lib.Hide
import Derived.Deep.Draws
import Derived.Deep.QuietTactic
import Derived.BigQuiet
import Derived.Laws.Rows
import Derived.Laws.MakeOwn
import Derived.Handy
import Derived.Laws.BitsAllLaws
import Derived.Test.YtbihljnjaondcaaGreatDoorAlt
namespace Lw
def val:List Nat→Nat
 | []=>0
 | x :: l=>x+4294967296*val l
def Wds (l:List Nat):Prop := ∀ x∈l,x < 4294967296
def Trm (l:List Nat):Prop := ∀ x,l.getLast? = some x→x≠0
def dg (l:List Nat) (j:Nat):Nat:=l.getD j 0
def pw (k:Nat):Nat:=4294967296 ^ k
def lo (l:List Nat) (k:Nat):Nat:=val (l.take k)
theorem aNP:pw 0=1:=rfl
theorem afC (k:Nat):pw (k+1)=4294967296*pw k:=by unfold pw; rw [Nat.pow_succ]; omega
theorem a2t (a b:Nat):pw (a+b)=pw a*pw b:=by unfold pw; rw [Nat.pow_add]
theorem anr (k:Nat):0 < pw k:=Nat.pow_pos (by omega)
theorem ajj {a b:Nat} (h:a≤b):pw a≤pw b:=Nat.pow_le_pow_right (by omega) h
theorem a8y:val []=0:=rfl
theorem az1 (x:Nat) (l:List Nat):val (x :: l)=x+4294967296*val l:=rfl
theorem val_append (a b:List Nat):val (a++b)=val a+pw a.length*val b:=by
 induction a with
 | nil=>simp [val,pw]
 | cons x l ih =>
  simp only [List.cons_append,az1,ih,List.length_cons,afC]
  rw [Nat.mul_add]
  have:4294967296*(pw l.length*val b)=4294967296*pw l.length*val b:=by rw [Nat.mul_assoc]
  omega
theorem ak5:Wds []:=fun _ h=>by cases h
theorem alb {x:Nat} {l:List Nat} : Wds (x :: l)↔x < 4294967296∧Wds l:=by simp [Wds]
theorem a8F {a b:List Nat} : Wds (a++b)↔Wds a∧Wds b:=by
 simp only [Wds,List.mem_append]
 exact ⟨fun h=>⟨fun x hx=>h x (.inl hx),fun x hx=>h x (.inr hx)⟩,fun h x hx=>hx.elim (h.1 x) (h.2 x)⟩
theorem a5p {l:List Nat} (h:Wds l) (k:Nat):Wds (l.take k):=fun x hx=>h x (List.mem_of_mem_take hx)
theorem bbh {l:List Nat} (h:Wds l) (k:Nat):Wds (l.drop k):=fun x hx=>h x (List.mem_of_mem_drop hx)
theorem az8 (n:Nat):Wds (List.replicate n 0):=fun x hx=>by have:=List.eq_of_mem_replicate hx; omega
theorem alc {l:List Nat} (h:Wds l) (k:Nat) {v:Nat} (hv:v < 4294967296):Wds (l.set k v):=fun x hx=>by
 rcases List.mem_or_eq_of_mem_set hx with h1 | h1
 ·exact h x h1
 ·omega
theorem ahv {l:List Nat} (h:Wds l) (j:Nat):dg l j < 4294967296:=by
 unfold dg
 rw [List.getD_eq_getElem?_getD]
 rcases Nat.lt_or_ge j l.length with hj | hj
 ·rw [List.getElem?_eq_getElem hj]; exact h _ (List.getElem_mem hj)
 ·rw [List.getElem?_eq_none hj]; simp
theorem a1F {l:List Nat} {j:Nat} (h:l.length≤j):dg l j=0:=by
 unfold dg; rw [List.getD_eq_getElem?_getD,List.getElem?_eq_none h]; rfl
theorem a1p {l:List Nat} {j:Nat} (h:j < l.length):dg l j=l[j]:=by
 unfold dg; rw [List.getD_eq_getElem?_getD,List.getElem?_eq_getElem h]; rfl
theorem a1G {l:List Nat} {j:Nat} (h:j < l.length):l[j]? = some (dg l j):=by rw [List.getElem?_eq_getElem h,a1p h]
theorem a7r {l:List Nat} {j k:Nat} (h:j < k):dg (l.take k) j=dg l j:=by
 unfold dg; rw [List.getD_eq_getElem?_getD,List.getD_eq_getElem?_getD,List.getElem?_take,if_pos h]
theorem a6e (l:List Nat) (j k:Nat):dg (l.drop k) j=dg l (k+j):=by
 unfold dg; rw [List.getD_eq_getElem?_getD,List.getD_eq_getElem?_getD,List.getElem?_drop]
theorem am3 {l:List Nat} {k:Nat} (v:Nat) (h:k < l.length) (j:Nat):dg (l.set k v) j=if j=k then v else dg l j:=by
 unfold dg
 rw [List.getD_eq_getElem?_getD,List.getD_eq_getElem?_getD,List.getElem?_set]
 by_cases hj:k=j
 ·subst hj; simp [h]
 ·rw [if_neg hj,if_neg (by omega)]
theorem a6f (n j:Nat):dg (List.replicate n 0) j=0:=by
 unfold dg; rw [List.getD_eq_getElem?_getD,List.getElem?_replicate]; split <;> rfl
theorem bn8 (l:List Nat) (k:Nat) (h:k < l.length):l.take (k+1)=l.take k++[dg l k]:=by
 rw [List.take_succ_eq_append_getElem h,a1p h]
theorem akf (l:List Nat):lo l 0=0:=by simp [lo,val]
theorem acm {l:List Nat} {k:Nat} (h:l.length≤k):lo l k=val l:=by unfold lo; rw [List.take_of_length_le h]
theorem acw (l:List Nat) (k:Nat):lo l (k+1)=lo l k+pw k*dg l k:=by
 rcases Nat.lt_or_ge k l.length with h | h
 ·unfold lo
  rw [bn8 l k h,val_append,List.length_take,Nat.min_eq_left (Nat.le_of_lt h)]
  simp [val]
 ·rw [acm (Nat.le_succ_of_le h),acm h,a1F h]; simp
theorem bdJ (l:List Nat) {k j:Nat} (v:Nat) (h:j≤k):lo (l.set k v) j=lo l j:=by
 unfold lo; rw [List.take_set_of_le h]
theorem afS {l:List Nat} (h:Wds l):val l < pw l.length:=by
 induction l with
 | nil=>simp [val,pw]
 | cons x l ih =>
  rw [alb] at h
  have:=ih h.2
  simp only [az1,List.length_cons,afC]
  omega
theorem ano {l:List Nat} (h:Wds l) (k:Nat):lo l k < pw k:=by
 have h1:=afS (a5p h k)
 have h2:pw (l.take k).length≤pw k:=ajj (by rw [List.length_take]; omega)
 unfold lo; omega
theorem a4a (l:List Nat) (k:Nat):val l=lo l k+pw (min k l.length)*val (l.drop k):=by
 unfold lo
 have:=val_append (l.take k) (l.drop k)
 rw [List.take_append_drop,List.length_take] at this
 exact this
theorem a8z (n:Nat):val (List.replicate n 0)=0:=by
 induction n with
 | zero=>rfl
 | succ n ih=>rw [List.replicate_succ,az1,ih]
theorem a8A (l:List Nat) (x:Nat):val (l++[x])=val l+pw l.length*x:=by rw [val_append]; simp [val]
theorem a5l:Trm []:=fun x h=>by cases h
theorem bbb {x:Nat} {l:List Nat} (h:Trm (x :: l)):Trm l:=by
 intro y hy
 refine h y ?_
 cases l with
 | nil=>cases hy
 | cons z l=>simpa [List.getLast?_cons_cons] using hy
theorem a8u {l:List Nat} (h:Trm l) (hn:l≠[]):0 < val l:=by
 induction l with
 | nil=>exact absurd rfl hn
 | cons x l ih =>
  rw [az1]
  cases l with
  | nil =>
   have:=h x rfl
   omega
  | cons y l =>
   have:=ih (bbb h) (by simp)
   omega
theorem biC {a b:List Nat} (ha:Wds a) (ta:Trm a) (hb:Wds b) (tb:Trm b) (h:val a=val b):a=b:=by
 induction a generalizing b with
 | nil =>
  cases b with
  | nil=>rfl
  | cons y b=>have:=a8u tb (by simp); rw [a8y] at h; omega
 | cons x a ih =>
  cases b with
  | nil=>have:=a8u ta (by simp); rw [a8y] at h; omega
  | cons y b =>
   rw [alb] at ha hb
   rw [az1,az1] at h
   have h1:x=y:=by omega
   have h2:val a=val b:=by omega
   rw [h1,ih ha.2 (bbb ta) hb.2 (bbb tb) h2]
def a2W:Nat→Nat→List Nat
 | 0,_=>[]
 | f+1,n=>if n=0 then [] else n % 4294967296 :: a2W f (n / 4294967296)
def Uy (n:Nat):List Nat:=a2W n n
theorem a9v (f n:Nat) (h:n≤f):val (a2W f n)=n∧Wds (a2W f n)∧Trm (a2W f n):=by
 induction f generalizing n with
 | zero =>
      obtain rfl:n=0:=by omega
      exact ⟨rfl,ak5,a5l⟩
 | succ f ih =>
  unfold a2W
  by_cases h0:n=0
  ·rw [if_pos h0]; exact ⟨h0.symm,ak5,a5l⟩
  ·rw [if_neg h0]
   have hd:n / 4294967296≤f:=by omega
   obtain ⟨h1,h2,h3⟩:=ih _ hd
   refine ⟨?_,?_,?_⟩
   ·rw [az1,h1]; omega
   ·rw [alb]; exact ⟨Nat.mod_lt _ (by omega),h2⟩
   ·intro x hx
    cases hc:a2W f (n / 4294967296) with
    | nil =>
     rw [hc] at hx h1
     rw [a8y] at h1
     simp at hx
     omega
    | cons y l =>
     rw [hc] at hx h3
     rw [List.getLast?_cons_cons] at hx
     exact h3 x hx
theorem aar (n:Nat):val (Uy n)=n:=(a9v n n (Nat.le_refl _)).1
theorem acy (n:Nat):Wds (Uy n):=(a9v n n (Nat.le_refl _)).2.1
theorem aj7 (n:Nat):Trm (Uy n):=(a9v n n (Nat.le_refl _)).2.2
theorem a4p {l:List Nat} (h:Wds l) (t:Trm l):Uy (val l)=l:=biC (acy _) (aj7 _) h t (aar _)
theorem ak4 {n:Nat} : Uy n=[]↔n=0:=⟨fun h=>by have:=aar n; rw [h] at this; exact this.symm,fun h=>by rw [h]; rfl⟩
theorem bbc {l:List Nat} (h:dg l (l.length - 1)≠0):Trm l:=by
 intro x hx
 rw [List.getLast?_eq_getElem?] at hx
 unfold dg at h
 rw [List.getD_eq_getElem?_getD,hx] at h
 simpa using h
theorem a7u {l:List Nat} (hw:Wds l) (h:dg l (l.length - 1)≠0):Uy (val l)=l:=a4p hw (bbc h)
theorem bfI {l:List Nat} (hn:0 < l.length) (h:dg l (l.length - 1)=0):val (l.take (l.length - 1))=val l:=by
 have h1:=acw l (l.length - 1)
 rw [h,Nat.sub_add_cancel (by omega),acm (Nat.le_refl _)] at h1
 unfold lo at h1
 omega
theorem awx {n k:Nat} (h:(Uy n).length≤k):n < pw k:=by
 have:=afS (acy n)
 rw [aar] at this
 exact Nat.lt_of_lt_of_le this (ajj h)
theorem a4W {l:List Nat} (t:Trm l) (h:l≠[]):pw (l.length - 1)≤val l:=by
 have hl:0 < l.length:=List.length_pos_iff.2 h
 have h1:=acw l (l.length - 1)
 rw [Nat.sub_add_cancel hl,acm (Nat.le_refl _)] at h1
 have h2:dg l (l.length - 1)≠0:=by
  refine t _ ?_
  rw [List.getLast?_eq_getElem?,a1G (by omega)]
 have h3:pw (l.length - 1)*1≤pw (l.length - 1)*dg l (l.length - 1):=Nat.mul_le_mul_left _ (by omega)
 omega
theorem aj9 {n k:Nat} (h:n < pw k):(Uy n).length≤k:=by
 rcases Nat.lt_or_ge k (Uy n).length with h1 | h1
 ·exfalso
  have h2:=a4W (aj7 n) (by intro e; rw [e] at h1; simp at h1)
  rw [aar] at h2
  have h3:pw k≤pw ((Uy n).length - 1):=ajj (by omega)
  omega
 ·exact h1
theorem a6D {a b:List Nat} (ha:Wds a) (tb:Trm b) (h:a.length < b.length):val a < val b:=by
 have h1:=afS ha
 have h2:=a4W tb (by intro e; rw [e] at h; simp at h)
 have h3:pw a.length≤pw (b.length - 1):=ajj (by omega)
 omega
end Lw
namespace Lw
open Go Go.RowKit
def Rd (w:World) (B:Nat) (A:Option Addr) (ns:List Nat):Prop :=
 Wds ns∧(0 < ns.length → ∃ b off,A=some ⟨b,off,none⟩∧b < B ∧ ∀ j,j < ns.length→w.cell? ⟨b,off+j,none⟩=some (.int .u32 (dg ns j:Int)))
section
variable {w w':World} {B B':Nat} {A:Option Addr} {ns:List Nat}
theorem Rd.wds (h:Rd w B A ns):Wds ns:=h.1
theorem Rd.at_ (h:Rd w B A ns) {k:Nat} (hk:k < ns.length) :
  ∃ b off,A=some ⟨b,off,none⟩∧b < B∧w.cell? ⟨b,off+k,none⟩=some (.int .u32 (dg ns k:Int))∧dg ns k < 4294967296:=by
 obtain ⟨b,off,hA,hb,hc⟩:=h.2 (by omega)
 exact ⟨b,off,hA,hb,hc k hk,ahv h.1 k⟩
theorem Rd.nil_ (w:World) (B:Nat) (A:Option Addr):Rd w B A []:=⟨ak5,fun h=>absurd h (by simp)⟩
theorem Rd.keep (h:Rd w B A ns) (hk : ∀ p:Addr,p.block < B→w'.cell? p=w.cell? p):Rd w' B A ns :=
 ⟨h.1,fun hn=>by
  obtain ⟨b,off,hA,hb,hc⟩:=h.2 hn
  exact ⟨b,off,hA,hb,fun j hj=>(hk _ (by exact hb)).trans (hc j hj)⟩⟩
theorem Rd.more (h:Rd w B A ns) (hB:B≤B'):Rd w B' A ns :=
 ⟨h.1,fun hn=>by
  obtain ⟨b,off,hA,hb,hc⟩:=h.2 hn
  exact ⟨b,off,hA,by omega,hc⟩⟩
theorem Rd.below (h:Rd w B A ns) (hb:Below B w w'):Rd w' B A ns:=h.keep fun _ hp=>hb.cell hp
theorem Rd.drew (h:Rd w B A ns):Rd w.drew B A ns:=h
theorem Rd.drewN (h:Rd w B A ns) (k:Nat):Rd (w.drewN k) B A ns:=h
theorem Rd.alloc (h:Rd w B A ns) (hB:B≤w.heap.size) (o:Obj):Rd (w.alloc o) B A ns:=h.keep fun p hp=>World.cell?_alloc_lt w o p (by omega)
theorem Rd.setCell (h:Rd w B A ns) {p:Addr} (hB:B≤p.block) (u:Value):Rd (w.setCell p u) B A ns :=
 h.keep fun q hq=>World.cell?_setCell_other w p q u (fun e=>by subst e; omega)
theorem Rd.take (h:Rd w B A ns) (k:Nat):Rd w B A (ns.take k) :=
 ⟨a5p h.1 k,fun hn=>by
  rw [List.length_take] at hn
  obtain ⟨b,off,hA,hb,hc⟩:=h.2 (by omega)
  refine ⟨b,off,hA,hb,fun j hj => ?_⟩
  rw [List.length_take] at hj
  rw [a7r (by omega)]
  exact hc j (by omega)⟩
theorem Rd.drop (h:Rd w B A ns) {k:Nat} {b off:Nat} (hA:A=some ⟨b,off,none⟩):Rd w B (some ⟨b,off+k,none⟩) (ns.drop k) :=
 ⟨bbh h.1 k,fun hn=>by
  rw [List.length_drop] at hn
  obtain ⟨b',off',hA',hb,hc⟩:=h.2 (by omega)
  rw [hA] at hA'
  injection hA' with e
  injection e with e1 e2
  subst e1 e2
  refine ⟨b,off+k,rfl,hb,fun j hj => ?_⟩
  rw [List.length_drop] at hj
  rw [a6e,Nat.add_assoc]
  exact hc (k+j) (by omega)⟩
theorem bcn {l:List Nat} (h:Wds l):Uy (val l)=l.take (Uy (val l)).length:=by
 have hlen:(Uy (val l)).length≤l.length:=aj9 (afS h)
 generalize hm:(Uy (val l)).length=m at *
 have h1:=a4a l m
 rw [Nat.min_eq_left hlen] at h1
 have hlt:val l < pw m:=by
  have:=afS (acy (val l))
  rw [aar,hm] at this
  exact this
 have h0:val (l.drop m)=0:=by
  rcases Nat.eq_zero_or_pos (val (l.drop m)) with h0 | h0
  ·exact h0
  ·have:=Nat.mul_le_mul_left (pw m) h0
   omega
 rw [h0,Nat.mul_zero,Nat.add_zero] at h1
 have ht:Trm (l.take m):=by
  intro x hx hx0
  subst hx0
  have hm0:0 < m:=by
   rcases Nat.eq_zero_or_pos m with e | e
   ·subst e; simp at hx
   ·exact e
  have e1:(l.take m).length=m:=by rw [List.length_take]; omega
  have e2:dg (l.take m) (m - 1)=0:=by
   rw [List.getLast?_eq_getElem?,e1] at hx
   unfold dg
   rw [List.getD_eq_getElem?_getD,hx]; rfl
  have e3:=bfI (l:=l.take m) (by omega) (by rw [e1]; exact e2)
  rw [e1,List.take_take,Nat.min_eq_left (by omega)] at e3
  have e4:=afS (a5p h (m - 1))
  have e5:(l.take (m - 1)).length=m - 1:=by rw [List.length_take]; omega
  rw [e5,e3] at e4
  have e6:=aj9 (n:=val l) (k:=m - 1) (by rw [h1]; exact e4)
  omega
 rw [h1]
 exact a4p (a5p h m) ht
theorem Rd.Uy (h:Rd w B A ns):Rd w B A (Uy (val ns)):=by
 rw [bcn h.1]; exact h.take _
def arr (ns:List Nat):List Value:=ns.map fun n:Nat=>Value.int .u32 (n:Int)
theorem atC (ns:List Nat):(arr ns).length=ns.length:=by simp [arr]
theorem a7n (ns:List Nat) (j:Nat) (h:j < ns.length):(arr ns)[j]? = some (.int .u32 (dg ns j:Int)):=by
 simp [arr,a1G h]
theorem bbN (ns:List Nat) (j v:Nat):(arr ns).set j (.int .u32 (v:Int))=arr (ns.set j v):=by
 simp [arr,List.map_set]
def Blk (w:World) (g:Nat) (t:TypeId) (ns:List Nat):Prop := ∃ rest:List Value,w.heap[g]? = some (.cells (arr ns++rest).toArray t (0,0))
variable {g:Nat} {t:TypeId}
theorem Blk.lt (h:Blk w g t ns):g < w.heap.size:=by
 rcases Nat.lt_or_ge g w.heap.size with hlt | hge
 ·exact hlt
 ·obtain ⟨rest,h⟩:=h; rw [Array.getElem?_eq_none hge] at h; cases h
theorem Blk.cell (h:Blk w g t ns) {i:Nat} (hi:i < ns.length):w.cell? ⟨g,i,none⟩=some (.int .u32 (dg ns i:Int)):=by
 obtain ⟨rest,h⟩:=h
 rw [cell_of_row w g i _ t (0,0) h]
 simp only [List.getElem?_toArray]
 rw [List.getElem?_append_left (by rw [atC]; exact hi),a7n ns i hi]
theorem Blk.frozen (h:Blk w g t ns) (i:Nat):w.frozen? ⟨g,i,none⟩=false:=by
 obtain ⟨rest,h⟩:=h
 simp [World.frozen?,h]
theorem Blk.drew (h:Blk w g t ns):Blk w.drew g t ns:=h
theorem Blk.drewN (h:Blk w g t ns) (n:Nat):Blk (w.drewN n) g t ns:=h
theorem Blk.of_same (h:Blk w g t ns) (e:w'.heap[g]? = w.heap[g]?):Blk w' g t ns:=by obtain ⟨rest,h⟩:=h; exact ⟨rest,e.trans h⟩
theorem Blk.alloc (h:Blk w g t ns) (o:Obj):Blk (w.alloc o) g t ns:=h.of_same (Below.heap_alloc w o g h.lt)
theorem Blk.a1c (h:Blk w g t ns) {i:Nat} (v:Nat) (hi:i < ns.length):Blk (w.setCell ⟨g,i,none⟩ (.int .u32 (v:Int))) g t (ns.set i v):=by
 obtain ⟨rest,h⟩:=h
 refine ⟨rest,?_⟩
 rw [← bbN,← List.set_append_left _ _ (by rw [atC]; exact hi)]
 simp [World.setCell,Array.getElem?_modify,h]
theorem Blk.far (h:Blk w g t ns) {p:Addr} (hp:g≠p.block) (u:Value):Blk (w.setCell p u) g t ns:=h.of_same (Below.heap_setCell w p u g hp)
theorem Blk.below {B:Nat} (h:Blk w g t ns) (hb:Below B w w') (hg:g < B):Blk w' g t ns:=h.of_same (hb.block g hg)
theorem Blk.rd (h:Blk w g t ns) (hw:Wds ns):Rd w w.heap.size (some ⟨g,0,none⟩) ns :=
 ⟨hw,fun _=>⟨g,0,rfl,h.lt,fun j hj=>by rw [Nat.zero_add]; exact h.cell hj⟩⟩
theorem Blk.bmD (h:Blk w g t ns) (hw:Wds ns) (k m:Nat) (hm:k+m≤ns.length):Rd w w.heap.size (some ⟨g,k,none⟩) ((ns.drop k).take m) :=
 ⟨a5p (bbh hw k) m,fun _=>⟨g,k,rfl,h.lt,fun j hj=>by
  rw [List.length_take,List.length_drop] at hj
  rw [a7r (by omega),a6e]; exact h.cell (by omega)⟩⟩
end
end Lw
namespace Lw
open Go
theorem a7V {i a b:Nat} (h:b < 2 ^ i):a*2 ^ i ||| b=a*2 ^ i+b:=by
 rw [Nat.mul_comm]; exact (Nat.two_pow_add_eq_or_of_lt h a).symm
theorem baz {i:Nat} {a b:Nat} (h:b < 2 ^ i) (h2:a*2 ^ i < 18446744073709551616) (hi:2 ^ i < 18446744073709551616) :
  bits .or .u64 ((a:Int)*(2 ^ i:Nat)) (b:Int)=((a*2 ^ i+b:Nat):Int):=by
 have:=u64_or_nat (a*2 ^ i) b h2 (by omega)
 rw [a7V h] at this
 rw [← this,Int.natCast_mul]
theorem a3s {x y:Nat} (hx:x < 4294967296) (hy:y < 4294967296):bits .or .u64 ((x:Int)*4294967296) (y:Int)=((y+4294967296*x:Nat):Int):=by
 have:=baz (i:=32) (a:=x) (b:=y) (by simpa using hy) (by simp; omega) (by simp)
 simp only [Nat.reducePow] at this
 rw [show ((4294967296:Nat):Int)=(4294967296:Int) from rfl] at this
 rw [this]; omega
theorem bg5 (a:Nat):a &&& 4294967295=a % 4294967296:=by
 have:=Nat.and_two_pow_sub_one_eq_mod a 32
 simpa using this
theorem a9m {a:Nat} (h:a < 18446744073709551616):bits .and .u64 (a:Int) 4294967295=((a % 4294967296:Nat):Int):=by
 have:=u64_and_nat a 4294967295 h (by omega)
 rw [bg5] at this
 exact this
end Lw
namespace Lw
open Go Go.RowKit
def Two (w:World) (g:Nat) (t:TypeId) (x y:Value):Prop:=w.heap[g]? = some (.cells #[x,y] t (0,0))
section
variable {w w':World} {g:Nat} {t:TypeId} {x y:Value}
theorem Two.lt (h:Two w g t x y):g < w.heap.size:=by
 rcases Nat.lt_or_ge g w.heap.size with hlt | hge
 ·exact hlt
 ·unfold Two at h; rw [Array.getElem?_eq_none hge] at h; cases h
theorem Two.new (w:World) (t:TypeId) (x y:Value):Two (w.alloc (.cells #[x,y] t)) w.heap.size t x y:=heap_alloc_new w _
theorem Two.alloc (h:Two w g t x y) (o:Obj):Two (w.alloc o) g t x y:=(Below.heap_alloc w o g h.lt).trans h
theorem Two.drew (h:Two w g t x y):Two w.drew g t x y:=h
theorem Two.drewN (h:Two w g t x y) (n:Nat):Two (w.drewN n) g t x y:=h
theorem Two.below {B:Nat} (h:Two w g t x y) (hb:Below B w w') (hg:g < B):Two w' g t x y:=(hb.block g hg).trans h
theorem Two.far (h:Two w g t x y) {p:Addr} (hp:g≠p.block) (u:Value):Two (w.setCell p u) g t x y:=(Below.heap_setCell w p u g hp).trans h
theorem Two.facts (h:Two w g t x y):w.cell? ⟨g,0,none⟩=some x∧w.cell? ⟨g,1,none⟩=some y∧w.frozen? ⟨g,0,none⟩=false∧w.frozen? ⟨g,1,none⟩=false:=by
 unfold Two at h
 exact ⟨by rw [cell_of_row w g 0 _ t (0,0) h]; rfl,by rw [cell_of_row w g 1 _ t (0,0) h]; rfl,by simp [World.frozen?,h],by simp [World.frozen?,h]⟩
theorem Two.put (h:Two w g t x y) (x' y':Value):Two ((w.setCell ⟨g,0,none⟩ x').setCell ⟨g,1,none⟩ y') g t x' y':=by
 have h1:Two (w.setCell ⟨g,0,none⟩ x') g t x' y:=by
  unfold Two at h ⊢
  simp [World.setCell,Array.getElem?_modify,h]
 unfold Two at h1 ⊢
 generalize w.setCell ⟨g,0,none⟩ x'=v at *
 simp [World.setCell,Array.getElem?_modify,h1]
end
section
variable {w w1:World} {t t' t'':TypeId} {x y x' y' x'' y'':Value}
theorem box1 (hb:Below (w.alloc (.cells #[x,y] t)).heap.size (w.alloc (.cells #[x,y] t)) w1) :
  Two w1 w.heap.size t x y∧w.heap.size+1≤w1.heap.size∧Below w.heap.size w w1 :=
 ⟨(Two.new w t x y).below hb (by simp),by have:=hb.size; simpa using this,((Below.refl _ _).alloc (Nat.le_refl _) _).trans (hb.mono (by simp))⟩
theorem abb (hb:Below ((w.alloc (.cells #[x,y] t)).alloc (.cells #[x',y'] t')).heap.size ((w.alloc (.cells #[x,y] t)).alloc (.cells #[x',y'] t')) w1) :
  Two w1 w.heap.size t x y∧Two w1 (w.heap.size+1) t' x' y'∧w.heap.size+2≤w1.heap.size∧Below w.heap.size w w1:=by
 refine ⟨((Two.new w t x y).alloc _).below hb (by simp; omega),?_,by have:=hb.size; simpa using this,?_⟩
 ·have h2:=(Two.new (w.alloc (.cells #[x,y] t)) t' x' y').below hb (by simp)
  simpa using h2
 ·exact (((Below.refl _ _).alloc (Nat.le_refl _) _).alloc (by simp) _).trans (hb.mono (by simp; omega))
theorem ae' (hb:Below (((w.alloc (.cells #[x,y] t)).alloc (.cells #[x',y'] t')).alloc (.cells #[x'',y''] t'')).heap.size (((w.alloc (.cells #[x,y] t)).alloc (.cells #[x',y'] t')).alloc (.cells #[x'',y''] t'')) w1) :
  Two w1 w.heap.size t x y∧Two w1 (w.heap.size+1) t' x' y'∧Two w1 (w.heap.size+2) t'' x'' y''∧w.heap.size+3≤w1.heap.size∧Below w.heap.size w w1:=by
 refine ⟨(((Two.new w t x y).alloc _).alloc _).below hb (by simp; omega),?_,?_,by have:=hb.size; simpa using this,?_⟩
 ·have h2:=((Two.new (w.alloc (.cells #[x,y] t)) t' x' y').alloc (.cells #[x'',y''] t'')).below hb (by simp)
  simpa using h2
 ·have h2:=(Two.new ((w.alloc (.cells #[x,y] t)).alloc (.cells #[x',y'] t')) t'' x'' y'').below hb (by simp)
  simpa using h2
 ·exact ((((Below.refl _ _).alloc (Nat.le_refl _) _).alloc (by simp) _).alloc (by simp; omega) _).trans (hb.mono (by simp; omega))
end
theorem Rd.a2q {w:World} {B g n c:Nat} {t:TypeId} {s:Bool} {A A':Option Addr} {ns:List Nat} (h:Rd w B A ns) (h2:Two w g t (.bool s) (.slice A' n c)) {b off:Nat} (hn:0 < ns.length) (hA:A=some ⟨b,off,none⟩):b≠g:=by
 rintro rfl
 obtain ⟨b',off',hA',hb,hc⟩:=h.2 hn
 rw [hA] at hA'
 injection hA' with e
 injection e with e1 e2
 subst e1 e2
 have h0:=hc 0 hn
 unfold Two at h2
 rw [cell_of_row w b _ _ t (0,0) h2] at h0
 match off,h0 with
 | 0,h0=>simp at h0
 | 1,h0=>simp at h0
 | k+2,h0=>simp at h0
theorem Rd.a19 {w:World} {B g n c i:Nat} {t:TypeId} {s:Bool} {A A':Option Addr} {ns:List Nat} (h:Rd w B A ns) (h2:Two w g t (.bool s) (.slice A' n c)) (u:Value):Rd (w.setCell ⟨g,i,none⟩ u) B A ns :=
 ⟨h.1,fun hn=>by
  obtain ⟨b,off,hA,hb,hc⟩:=h.2 hn
  have hne:=h.a2q h2 hn hA
  refine ⟨b,off,hA,hb,fun j hj => ?_⟩
  rw [← hc j hj]
  exact World.cell?_setCell_other w _ _ u (fun e=>hne (by injection e with e1; first | exact e1 | exact e1.symm))⟩
theorem Rd.ak' {w:World} {B g n c:Nat} {t:TypeId} {s:Bool} {A A':Option Addr} {ns:List Nat} (h:Rd w B A ns) (h2:Two w g t (.bool s) (.slice A' n c)) (s':Bool) (v:Value) :
  Rd ((w.setCell ⟨g,0,none⟩ (.bool s')).setCell ⟨g,1,none⟩ v) B A ns:=by
 have h3:Two (w.setCell ⟨g,0,none⟩ (.bool s')) g t (.bool s') (.slice A' n c):=by
  unfold Two at h2 ⊢
  simp [World.setCell,Array.getElem?_modify,h2]
 exact (h.a19 h2 _).a19 h3 _
theorem aaR {B:Nat} {a b c:World} (h:Below B a b) (h':Below b.heap.size b c) (hB:B≤a.heap.size):Below B a c:=h.trans (h'.mono (Nat.le_trans hB h.size))
theorem azl {W w1:World} (h:Below W.drew.heap.size W.drew w1):Below W.heap.size W w1:=aaR (Below.refl _ W).drew h (Nat.le_refl _)
theorem a01 {W w1 w2:World} (h:Below W.heap.size W w1) (h':Below w1.heap.size w1 w2):Below W.heap.size W w2:=aaR h h' (Nat.le_refl _)
theorem Two.next {W W':World} {g:Nat} {t:TypeId} {x y:Value} (h:Two W g t x y) (hb:Below W.heap.size W W'):Two W' g t x y:=h.below hb h.lt
theorem Rd.next {W W':World} {B:Nat} {A:Option Addr} {ns:List Nat} (h:Rd W B A ns) (hb:Below W.heap.size W W') (hB:B≤W.heap.size):Rd W' B A ns:=h.below (hb.mono hB)
theorem azm {w W:World} {H g g' B B' n n' c c':Nat} {t:TypeId} {a a':Bool} {X X' A A':Option Addr} {l l':List Nat} (s s':Bool) (v v':Value) (h1:Two W g t (.bool a) (.slice X n c)) (h2:Two W g' t (.bool a') (.slice X' n' c'))
  (hne:g≠g') (r:Rd W B A l) (r':Rd W B' A' l') (hb:Below H w W) (hg:H≤g) (hg':H≤g') :
  Two ((((W.setCell ⟨g,0,none⟩ (.bool s)).setCell ⟨g,1,none⟩ v).setCell ⟨g',0,none⟩ (.bool s')).setCell ⟨g',1,none⟩ v') g t (.bool s) v ∧
  Two ((((W.setCell ⟨g,0,none⟩ (.bool s)).setCell ⟨g,1,none⟩ v).setCell ⟨g',0,none⟩ (.bool s')).setCell ⟨g',1,none⟩ v') g' t (.bool s') v' ∧
  Rd ((((W.setCell ⟨g,0,none⟩ (.bool s)).setCell ⟨g,1,none⟩ v).setCell ⟨g',0,none⟩ (.bool s')).setCell ⟨g',1,none⟩ v') B A l ∧
  Rd ((((W.setCell ⟨g,0,none⟩ (.bool s)).setCell ⟨g,1,none⟩ v).setCell ⟨g',0,none⟩ (.bool s')).setCell ⟨g',1,none⟩ v') B' A' l' ∧
  Below H w ((((W.setCell ⟨g,0,none⟩ (.bool s)).setCell ⟨g,1,none⟩ v).setCell ⟨g',0,none⟩ (.bool s')).setCell ⟨g',1,none⟩ v'):=by
 have k2:=(h2.far (p:=⟨g,0,none⟩) (Ne.symm hne) (.bool s)).far (p:=⟨g,1,none⟩) (Ne.symm hne) v
 exact ⟨((h1.put (.bool s) v).far (p:=⟨g',0,none⟩) hne _).far (p:=⟨g',1,none⟩) hne _,k2.put _ _,(r.ak' h1 s v).ak' k2 s' v',(r'.ak' h1 s v).ak' k2 s' v',
  (((hb.setCell hg _).setCell hg _).setCell hg' _).setCell hg' _⟩
theorem Two.atz {W:World} {g g1 g2:Nat} {t:TypeId} {x y:Value} (h:Two W g t x y) (h1:g≠g1) (h2:g≠g2) (u0 u1 u2 u3:Value) :
  Two ((((W.setCell ⟨g1,0,none⟩ u0).setCell ⟨g1,1,none⟩ u1).setCell ⟨g2,0,none⟩ u2).setCell ⟨g2,1,none⟩ u3) g t x y :=
 (((h.far (p:=⟨g1,0,none⟩) h1 _).far (p:=⟨g1,1,none⟩) h1 _).far (p:=⟨g2,0,none⟩) h2 _).far (p:=⟨g2,1,none⟩) h2 _
theorem bhn {w w1:World} {t t' t'' t3:TypeId} {x y x' y' x'' y'' x3 y3:Value} (hb:Below ((((w.alloc (.cells #[x,y] t)).alloc (.cells #[x',y'] t')).alloc (.cells #[x'',y''] t'')).alloc (.cells #[x3,y3] t3)).heap.size ((((w.alloc (.cells #[x,y] t)).alloc (.cells #[x',y'] t')).alloc (.cells #[x'',y''] t'')).alloc (.cells #[x3,y3] t3)) w1) :
  Two w1 w.heap.size t x y∧Two w1 (w.heap.size+1) t' x' y'∧Two w1 (w.heap.size+1+1) t'' x'' y''∧Two w1 (w.heap.size+1+1+1) t3 x3 y3∧w.heap.size+4≤w1.heap.size∧Below w.heap.size w w1:=by
 have hb':=((Below.refl _ (((w.alloc (.cells #[x,y] t)).alloc (.cells #[x',y'] t')).alloc (.cells #[x'',y''] t''))).alloc (Nat.le_refl _) (.cells #[x3,y3] t3)).trans (hb.mono (by simp))
 obtain ⟨a1,a2,a3,_,a5⟩:=ae' hb'
 refine ⟨a1,a2,a3,?_,by have:=hb.size; simpa using this,a5⟩
 have h2:=(Two.new (((w.alloc (.cells #[x,y] t)).alloc (.cells #[x',y'] t')).alloc (.cells #[x'',y''] t'')) t3 x3 y3).below hb (by simp)
 simpa using h2
end Lw
