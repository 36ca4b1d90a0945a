/- Part of a proof, said shortly. -/
import Derived.Deep.RegionWith
import Derived.Deep.LoopGhost
import Derived.Test.YtbihljnjaondcaaGreatDoorAlt
import Derived.Test.YtbihljnjaondcaaGreatDoorT34
import Derived.Test.YtbihljnjaondcaaGreatDoorT29
import Derived.Test.YtbihljnjaondcaaGreatDoorT28
import Derived.Test.YtbihljnjaondcaaGreatDoorT26
import Derived.Test.YtbihljnjaondcaaGreatDoorT25
import Derived.Test.YtbihljnjaondcaaGreatDoorT24
import Derived.Test.YtbihljnjaondcaaGreatDoorT23
import Derived.Test.YtbihljnjaondcaaGreatDoorT22
import Derived.Test.YtbihljnjaondcaaGreatDoorT21
import Derived.Test.YtbihljnjaondcaaGreatDoorT20
import Derived.Test.YtbihljnjaondcaaGreatDoorT14
import Derived.Test.YtbihljnjaondcaaGreatDoorT4
import Derived.Test.YtbihljnjaondcaaGreatDoorT3
import Derived.Test.YtbihljnjaondcaaGreatDoorT2
import Derived.Test.YtbihljnjaondcaaGreatDoorT1
import Derived.Test.YtbihljnjaondcaaGreatDoorT13
import Derived.Test.YtbihljnjaondcaaGreatDoorT9
import Derived.Test.YtbihljnjaondcaaGreatDoorT8
import Derived.Test.YtbihljnjaondcaaGreatDoorT6
import Derived.Test.YtbihljnjaondcaaGreatDoorT5
import Derived.Test.YtbihljnjaondcaaGreatDoorT7
import Derived.Test.YtbihljnjaondcaaGreatDoorT19
import Derived.Test.YtbihljnjaondcaaGreatDoorT18
import Derived.Test.YtbihljnjaondcaaGreatDoorT16
import Derived.Test.YtbihljnjaondcaaGreatDoorT15
import Derived.Test.YtbihljnjaondcaaGreatDoorT17
import Derived.Test.YtbihljnjaondcaaGreatDoorT10
import Derived.Test.YtbihljnjaondcaaGreatDoorT11
import Derived.Test.YtbihljnjaondcaaGreatDoorT12
import Derived.Test.YtbihljnjaondcaaGreatDoorT27
import Derived.Test.YtbihljnjaondcaaGreatDoorT39
import Derived.Test.YtbihljnjaondcaaGreatDoorT38
import Derived.Test.YtbihljnjaondcaaGreatDoorT35
import Derived.Test.YtbihljnjaondcaaGreatDoorT37
import Derived.Test.YtbihljnjaondcaaGreatDoorT36
import Derived.Test.YtbihljnjaondcaaGreatDoorT31
open Go.Proofs.YtbihljnjaondcaaGreatDoor (btT btU btV btW abe abd bq6 bq5 iy0)
namespace Lw
open Go Go.RowKit
def a0z (w:World) (g:Nat) (t:TypeId) (a b c d:Value):Prop:=w.heap[g]? = some (.cells #[a,b,c,d] t (0,0))
section
variable {w w':World} {g:Nat} {t:TypeId} {a b c d:Value}
theorem a0z.lt (h:a0z w g t a b c d):g < w.heap.size:=by
 rcases Nat.lt_or_ge g w.heap.size with hlt | hge
 ·exact hlt
 ·unfold a0z at h; rw [Array.getElem?_eq_none hge] at h; cases h
theorem a0z.new (w:World) (t:TypeId) (a b c d:Value):a0z (w.alloc (.cells #[a,b,c,d] t)) w.heap.size t a b c d:=heap_alloc_new w _
theorem a0z.next (h:a0z w g t a b c d) (hb:Below w.heap.size w w'):a0z w' g t a b c d:=(hb.block g h.lt).trans h
theorem a0z.cells (h:a0z w g t a b c d):w.cell? ⟨g,0,none⟩=some a∧w.cell? ⟨g,1,none⟩=some b∧w.cell? ⟨g,2,none⟩=some c∧w.cell? ⟨g,3,none⟩=some d:=by
 unfold a0z at h
 exact ⟨by rw [cell_of_row w g 0 _ t (0,0) h]; rfl,by rw [cell_of_row w g 1 _ t (0,0) h]; rfl,by rw [cell_of_row w g 2 _ t (0,0) h]; rfl,by rw [cell_of_row w g 3 _ t (0,0) h]; rfl⟩
end
end Lw
namespace Go.Proofs.YtbihljnjaondcaaGreatDoor
open Go Go.RowKit Lw
def a8L (W0:World) (bs:List Bx) (L:List En) (ts:List Bt) (M:List Qn) (q:Rat) (k:Nat) (er:Value) (e:Ending) (w':World):Prop :=
 ∃ (s:Bool) (A:Option Addr) (n c:Nat) (A':Option Addr) (n' c':Nat),e = .returned (.tuple #[.agg #[.bool s,.slice A n c,.slice A' n' c'],er])∧Uz W0 w' bs L ts (⟨.agg #[.bool s,.slice A n c,.slice A' n' c'],q,k,true⟩ :: M)
section
variable {W0 w:World} {bs:List Bx} {L:List En} {ts:List Bt} {M:List Qn} {v v':Value} {q r:Rat} {x y:Int} {k k':Nat} {b b':Bool}
theorem a8L.weak {k K:Nat} {er:Value} {e:Ending} (h:a8L W0 bs L ts M q k er e w) (hk:k≤K):a8L W0 bs L ts M q K er e w:=by
 obtain ⟨s,A,n,c,A',n',c',e1,he⟩:=h
 exact ⟨s,A,n,c,A',n',c',e1,he.hd (·.weak hk)⟩
end
end Go.Proofs.YtbihljnjaondcaaGreatDoor
namespace Go.Proofs.YtbihljnjaondcaaGreatDoor
open Go Go.RowKit Lw
section
variable {W0 w:World} {bs:List Bx} {L:List En} {ts:List Bt} {M:List Qn} {s s':Bool} {A A' B B':Option Addr} {n c n' c' m d m' d' k k':Nat} {q r:Rat} {x y:Int} {b b':Bool}
instance (x:Int):Decidable (Sq x):=inferInstanceAs (Decidable (_∧_))
end
end Go.Proofs.YtbihljnjaondcaaGreatDoor
namespace Lw
open Go Go.RowKit acY
theorem Rd.keeps {w w':World} {gs:List Nat} {A:Option Addr} {ns:List Nat} (h:Rd w w.heap.size A ns) (ha:aLA gs w w'):Rd w' w'.heap.size A ns:=by
 refine ⟨h.1,fun hn => ?_⟩
 obtain ⟨b,off,rfl,hb,hc⟩:=h.2 hn
 have hsame:w'.heap[b]? = w.heap[b]? := by
  refine ha.same b hb (fun hm => ?_)
  obtain ⟨c,t,f,h1,h2⟩:=(ha.soft b hm hb).1
  have h0:=hc 0 hn
  unfold World.cell? at h0
  simp only [h1] at h0
  have h3:=h2 (off+0) _ (by simpa using h0)
  cases h3
 refine ⟨b,off,rfl,Nat.lt_of_lt_of_le hb ha.size,fun j hj => ?_⟩
 rw [← hc j hj]
 exact World.cell?_of_block (w:=w) hsame
theorem Fop.stable (e:Qn):Stable (fun w=>Fop w e):=fun gs w w' ha h=>by
 obtain ⟨s,A,n,c,A',n',c',ns,ms,h1,h2,h3,h4⟩:=h
 exact ⟨s,A,n,c,A',n',c',ns,ms,h1,h2.keeps ha,h3.keeps ha,h4⟩
theorem Opd.stable (e:En):Stable (fun w=>Opd w e):=fun gs w w' ha h=>by
 obtain ⟨s,A,n,c,ns,B,h1,h2,h3,h4⟩:=h
 exact ⟨s,A,n,c,ns,w'.heap.size,h1,(h2.more h3).keeps ha,Nat.le_refl _,h4⟩
def FV (v:Value) (q:Rat) (k:Nat) (b:Bool) (w:World):Prop:=Fop w ⟨v,q,k,b⟩
def FI (v:Value) (z:Int) (k:Nat) (w:World):Prop:=Opd w ⟨v,z,k,true⟩
theorem FV.stable (v:Value) (q:Rat) (k:Nat) (b:Bool):Stable (FV v q k b):=Fop.stable _
theorem FI.stable (v:Value) (z:Int) (k:Nat):Stable (FI v z k):=Opd.stable _
theorem FV.shape {v:Value} {q:Rat} {k:Nat} {b:Bool} {w:World} (h:FV v q k b w) : ∃ (s:Bool) (A:Option Addr) (n c:Nat) (A':Option Addr) (n' c':Nat),v=(btT s A n c A' n' c'):=by
 obtain ⟨s,A,n,c,A',n',c',_,_,h1,_⟩:=h
 exact ⟨s,A,n,c,A',n',c',h1⟩
theorem FV.weak {v:Value} {q:Rat} {k K:Nat} {w:World} (h:FV v q k true w) (hk:k≤K):FV v q K true w:=Fop.weak h hk
theorem FI.weak {v:Value} {z:Int} {k K:Nat} {w:World} (h:FI v z k w) (hk:k≤K):FI v z K w:=Opd.weak h hk
theorem FV.as {v:Value} {q r:Rat} {k K:Nat} {w:World} (h:FV v q k true w) (hq:q=r) (hk:k≤K):FV v r K true w:=hq ▸ h.weak hk
theorem FI.as {v:Value} {z y:Int} {k K:Nat} {w:World} (h:FI v z k w) (hq:z=y) (hk:k≤K):FI v y K w:=hq ▸ h.weak hk
theorem FV.zero (k:Nat) (w:World):FV abe 0 k true w :=
 ⟨false,none,0,0,none,0,0,[],[],rfl,Rd.nil_ _ _ _,Rd.nil_ _ _ _,rfl,rfl,Nat.zero_le _,Nat.zero_le _,Nat.le_refl _,Nat.le_refl _,rfl,rfl⟩
theorem FI.zero (w:World):FI (.agg #[.bool false,.slice none 0 0]) 0 0 w:=⟨false,none,0,0,[],0,rfl,Rd.nil_ _ _ _,Nat.zero_le _,rfl,Nat.le_refl _,Nat.le_refl _,rfl,rfl⟩
section
variable (W0:World) (U:List Box) (Ps:List (World→Prop))
def AnP (v:Value) (u:Value) (w:World):Prop:=u=v∧St W0 U Ps w
def AnQ (q:Rat) (k:Nat) (u:Value) (w:World):Prop := ∃ (s:Bool) (A:Option Addr) (n c:Nat) (B:Option Addr) (m d:Nat),u=(btT s A n c B m d)∧St W0 U (FV (btT s A n c B m d) q k true :: Ps) w
def AnI (z:Int) (k:Nat) (u:Value) (w:World):Prop := ∃ (s:Bool) (A:Option Addr) (n c:Nat),u = .agg #[.bool s,.slice A n c]∧St W0 U (FI (.agg #[.bool s,.slice A n c]) z k :: Ps) w
def aj8 (q:Rat) (k:Nat) (er:Value) (u:Value) (w:World):Prop := ∃ (s:Bool) (A:Option Addr) (n c:Nat) (B:Option Addr) (m d:Nat),u = .tuple #[(btT s A n c B m d),er]∧St W0 U (FV (btT s A n c B m d) q k true :: Ps) w
def a8J (z:Int) (k:Nat) (er:Value) (u:Value) (w:World):Prop := ∃ (s:Bool) (A:Option Addr) (n c:Nat),u = .tuple #[.agg #[.bool s,.slice A n c],er]∧St W0 U (FI (.agg #[.bool s,.slice A n c]) z k :: Ps) w
def bbv (x y:Int) (k:Nat) (u:Value) (w:World):Prop := ∃ (s:Bool) (A:Option Addr) (n c:Nat) (s':Bool) (A':Option Addr) (n' c':Nat),u = .tuple #[.agg #[.bool s,.slice A n c],.agg #[.bool s',.slice A' n' c']]∧St W0 U (FI (.agg #[.bool s,.slice A n c]) x k :: FI (.agg #[.bool s',.slice A' n' c']) y k :: Ps) w
end
theorem St.init (W:World):St W [] [] W:=⟨Below.refl _ _,(fun _ h=>by cases h),(fun _ h=>by cases h),.nil,(fun _ h=>by cases h),(fun _ h=>by cases h)⟩
theorem law_true {P:Program} {f:FuncId} {vs:List Value} {W:World} (h:aba P f vs W (AnP W [] [] (.bool true))):Calls P f vs.toArray W fun e w'=>e = .returned (.bool true)∧Below W.heap.size W w' :=
 Calls.mono h fun e w' hh=>by
  obtain ⟨v,rfl,rfl,hs⟩:=hh
  exact ⟨rfl,hs.below⟩
end Lw
namespace Go.Proofs.YtbihljnjaondcaaGreatDoor
open Go Go.RowKit Lw acY
section
variable {W0 w w':World} {U:List Box} {Ps:List (World→Prop)} {v v':Value} {q r:Rat} {x y:Int} {k k':Nat} {b b':Bool} {f:FuncId} {vs:List Value} {L:List En} {M:List Qn}
theorem St.start (HS:St W0 U Ps w) (ht:Tz W0) (hb:Tab W0):Uz w w [] [] [] []:=Uz.start (ht.next HS.below) (hb.next HS.below)
theorem a7B (HS:St W0 U Ps w) (h:Calls Tryz.prog f vs.toArray w (akn w [] L [] M q k)):aba Tryz.prog f vs w (AnQ W0 U Ps q k) :=
 h.mono fun e w' hh=>by
  obtain ⟨s,A,n,c,A',n',c',rfl,he⟩:=hh
  exact ⟨_,rfl,s,A,n,c,A',n',c',rfl,(HS.next he.below).add (FV.stable _ q k true) (he.fr _ (.head _))⟩
theorem a2f (HS:St W0 U Ps w) (h:Calls Tryz.prog f vs.toArray w (ag6 w [] L [] M x k)):aba Tryz.prog f vs w (AnI W0 U Ps x k) :=
 h.mono fun e w' hh=>by
  obtain ⟨s,A,n,c,rfl,he⟩:=hh
  exact ⟨_,rfl,s,A,n,c,rfl,(HS.next he.below).add (FI.stable _ x k) (he.env.ops _ (.head _))⟩
theorem a4w (HS:St W0 U Ps w) {u:Value} (h:Calls Tryz.prog f vs.toArray w (fun e w'=>e = .returned u∧Uz w w' [] L [] M)):aba Tryz.prog f vs w (AnP W0 U Ps u) :=
 h.mono fun e w' hh=>by
  obtain ⟨rfl,he⟩:=hh
  exact ⟨_,rfl,rfl,HS.next he.below⟩
theorem bjq (HS:St W0 U Ps w) {er:Value} (h:Calls Tryz.prog f vs.toArray w (fun e w' => ∃ (s:Bool) (A:Option Addr) (n c:Nat) (A':Option Addr) (n' c':Nat),e = .returned (.tuple #[(btT s A n c A' n' c'),er])∧Uz w w' [] L [] (⟨(btT s A n c A' n' c'),q,k,true⟩ :: M))):aba Tryz.prog f vs w (aj8 W0 U Ps q k er) :=
 h.mono fun e w' hh=>by
  obtain ⟨s,A,n,c,A',n',c',rfl,he⟩:=hh
  exact ⟨_,rfl,s,A,n,c,A',n',c',rfl,(HS.next he.below).add (FV.stable _ q k true) (he.fr _ (.head _))⟩
theorem bjp (HS:St W0 U Ps w) (h:Calls Tryz.prog f vs.toArray w (a1o w [] L [] M x y k)):aba Tryz.prog f vs w (bbv W0 U Ps x y k) :=
 h.mono fun e w' hh=>by
  obtain ⟨s,A,n,c,s',A',n',c',rfl,he⟩:=hh
  exact ⟨_,rfl,s,A,n,c,s',A',n',c',rfl,((HS.next he.below).add (FI.stable _ y k) (he.env.ops _ (.tail _ (.head _)))).add (FI.stable _ x k) (he.env.ops _ (.head _))⟩
theorem bcM (HT:Tz W0) (HB:Tab W0) (HS:St W0 U Ps w) {s1:Bool} {A1:Option Addr} {n1 c1:Nat} {B1:Option Addr} {m1 d1:Nat} {q1:Rat} {k1:Nat} {b1:Bool} (f1:FV (btT s1 A1 n1 c1 B1 m1 d1) q1 k1 b1 w) (hk:k1≤100000):aba Tryz.prog 113 [(btT s1 A1 n1 c1 B1 m1 d1)] w (AnP W0 U Ps (.bool b1)) :=
 a4w HS (bji ((St.start HS HT HB).cons f1) (.head _) hk)
theorem bcK (HT:Tz W0) (HB:Tab W0) (HS:St W0 U Ps w) {s1:Bool} {A1:Option Addr} {n1 c1:Nat} {B1:Option Addr} {m1 d1:Nat} {q1:Rat} {k1:Nat} {b1:Bool} (f1:FV (btT s1 A1 n1 c1 B1 m1 d1) q1 k1 b1 w) (hk:k1≤40000):aba Tryz.prog 29 [(btT s1 A1 n1 c1 B1 m1 d1)] w (AnP W0 U Ps (.string ⟨(aka q1).toArray⟩)) :=
 a4w HS (a6i ((St.start HS HT HB).cons f1) (.head _) hk)
theorem bm' (HT:Tz W0) (HB:Tab W0) (HS:St W0 U Ps w) {s1:Bool} {A1:Option Addr} {n1 c1:Nat} {B1:Option Addr} {m1 d1:Nat} {q1:Rat} {k1:Nat} {b1:Bool} (f1:FV (btT s1 A1 n1 c1 B1 m1 d1) q1 k1 b1 w) (hk:k1≤3000):aba Tryz.prog 98 [(btT s1 A1 n1 c1 B1 m1 d1)] w (bbv W0 U Ps (q1.num) ((q1.den:Int)) (k1+2)) :=
 bjp HS (bnq ((St.start HS HT HB).cons f1) (.head _) hk)
theorem beK (HT:Tz W0) (HB:Tab W0) (HS:St W0 U Ps w) {s1:Bool} {A1:Option Addr} {n1 c1:Nat} {B1:Option Addr} {m1 d1:Nat} {q1:Rat} {k1:Nat} {s2:Bool} {A2:Option Addr} {n2 c2:Nat} {B2:Option Addr} {m2 d2:Nat} {q2:Rat} {k2:Nat} (f1:FV (btT s1 A1 n1 c1 B1 m1 d1) q1 k1 true w) (f2:FV (btT s2 A2 n2 c2 B2 m2 d2) q2 k2 true w) (hk:k1+k2≤100000) (he:q1=q2):aba Tryz.prog 21 [(btT s1 A1 n1 c1 B1 m1 d1),(btT s2 A2 n2 c2 B2 m2 d2)] w (AnP W0 U Ps (.bool true)) :=
 a4w HS (bjc (((St.start HS HT HB).cons f2).cons f1) (.head _) (.tail _ (.head _)) hk he)
theorem a2x (HT:Tz W0) (HB:Tab W0) (HS:St W0 U Ps w)    : aba Tryz.prog 96 [] w (AnI W0 U Ps (1) (2)) :=
 a2f HS (a7U (St.start HS HT HB)  )
theorem a3X (HT:Tz W0) (HB:Tab W0) (HS:St W0 U Ps w) {s1:Bool} {A1:Option Addr} {n1 c1:Nat} {x1:Int} {k1:Nat} {s2:Bool} {A2:Option Addr} {n2 c2:Nat} {x2:Int} {k2:Nat} (f1:FI (.agg #[.bool s1,.slice A1 n1 c1]) x1 k1 w) (f2:FI (.agg #[.bool s2,.slice A2 n2 c2]) x2 k2 w) (hk:k1+k2≤4000) (hy:x2≠0):aba Tryz.prog 103 [.agg #[.bool s1,.slice A1 n1 c1],.agg #[.bool s2,.slice A2 n2 c2]] w (AnQ W0 U Ps (Rat.divInt x1 x2) (k1+1+(k2+1))) :=
 a7B HS (bi0 (((St.start HS HT HB).push f2).push f1) (.head _) (.tail _ (.head _)) hk hy)
theorem a4Y (HT:Tz W0) (HB:Tab W0) (HS:St W0 U Ps w) {s1:Bool} {A1:Option Addr} {n1 c1:Nat} {x1:Int} {k1:Nat} {s2:Bool} {A2:Option Addr} {n2 c2:Nat} {x2:Int} {k2:Nat} (f1:FI (.agg #[.bool s1,.slice A1 n1 c1]) x1 k1 w) (f2:FI (.agg #[.bool s2,.slice A2 n2 c2]) x2 k2 w) (hk:k1≤10000∧k2≤10000):aba Tryz.prog 97 [.agg #[.bool s1,.slice A1 n1 c1],.agg #[.bool s2,.slice A2 n2 c2]] w (AnI W0 U Ps (x1+x2) (k1+k2+1)) :=
 a2f HS (bmw (((St.start HS HT HB).push f2).push f1) (.head _) (.tail _ (.head _)) hk)
theorem aN2 (HT:Tz W0) (HB:Tab W0) (HS:St W0 U Ps w) {s1:Bool} {A1:Option Addr} {n1 c1:Nat} {x1:Int} {k1:Nat} {s2:Bool} {A2:Option Addr} {n2 c2:Nat} {x2:Int} {k2:Nat} (f1:FI (.agg #[.bool s1,.slice A1 n1 c1]) x1 k1 w) (f2:FI (.agg #[.bool s2,.slice A2 n2 c2]) x2 k2 w) (hk:k1≤10000∧k2≤10000):aba Tryz.prog 100 [.agg #[.bool s1,.slice A1 n1 c1],.agg #[.bool s2,.slice A2 n2 c2]] w (AnI W0 U Ps (x1*x2) (k1+k2+1)) :=
 a2f HS (bna (((St.start HS HT HB).push f2).push f1) (.head _) (.tail _ (.head _)) hk)
theorem bmC (HT:Tz W0) (HB:Tab W0) (HS:St W0 U Ps w) {s1:Bool} {A1:Option Addr} {n1 c1:Nat} {x1:Int} {k1:Nat} {s2:Bool} {A2:Option Addr} {n2 c2:Nat} {x2:Int} {k2:Nat} (f1:FI (.agg #[.bool s1,.slice A1 n1 c1]) x1 k1 w) (f2:FI (.agg #[.bool s2,.slice A2 n2 c2]) x2 k2 w) (hk:k1≤10000∧k2≤10000):aba Tryz.prog 118 [.agg #[.bool s1,.slice A1 n1 c1],.agg #[.bool s2,.slice A2 n2 c2]] w (AnP W0 U Ps (.int .i64 (ahw x1 x2))) :=
 a4w HS (beA (((St.start HS HT HB).push f2).push f1) (.head _) (.tail _ (.head _)) hk)
theorem a1b (HT:Tz W0) (HB:Tab W0) (HS:St W0 U Ps w) {s1:Bool} {A1:Option Addr} {n1 c1:Nat} {x1:Int} {k1:Nat} (f1:FI (.agg #[.bool s1,.slice A1 n1 c1]) x1 k1 w) (hk:k1≤100000):aba Tryz.prog 115 [.agg #[.bool s1,.slice A1 n1 c1]] w (AnP W0 U Ps (.int .i64 (afm x1))) :=
 a4w HS (a5a ((St.start HS HT HB).push f1) (.head _) hk)
theorem bnb (HT:Tz W0) (HB:Tab W0) (HS:St W0 U Ps w) {s1:Bool} {A1:Option Addr} {n1 c1:Nat} {x1:Int} {k1:Nat} (f1:FI (.agg #[.bool s1,.slice A1 n1 c1]) x1 k1 w) (hk:k1≤10000):aba Tryz.prog 167 [.agg #[.bool s1,.slice A1 n1 c1]] w (AnI W0 U Ps (-x1) (k1)) :=
 a2f HS (baW ((St.start HS HT HB).push f1) (.head _) hk)
theorem aos (HT:Tz W0) (HB:Tab W0) (HS:St W0 U Ps w) {z1:Int}  (h1 : -9223372036854775808≤z1) (h2:z1≤9223372036854775807):aba Tryz.prog 143 [.int .i64 z1] w (AnI W0 U Ps (z1) (2)) :=
 a2f HS (beN (St.start HS HT HB)  h1 h2)
theorem bab (HT:Tz W0) (HB:Tab W0) (HS:St W0 U Ps w) {s1:Bool} {A1:Option Addr} {n1 c1:Nat} {x1:Int} {k1:Nat} {s2:Bool} {A2:Option Addr} {n2 c2:Nat} {x2:Int} {k2:Nat} (f1:FI (.agg #[.bool s1,.slice A1 n1 c1]) x1 k1 w) (f2:FI (.agg #[.bool s2,.slice A2 n2 c2]) x2 k2 w) (hk:k1+k2≤100000):aba Tryz.prog 112 [.agg #[.bool s1,.slice A1 n1 c1],.agg #[.bool s2,.slice A2 n2 c2]] w (AnP W0 U Ps (.int .i64 (ahw x1 x2))) :=
 a4w HS (bac (((St.start HS HT HB).push f2).push f1) (.head _) (.tail _ (.head _)) hk)
theorem a4I (HT:Tz W0) (HB:Tab W0) (HS:St W0 U Ps w) {z1:Int}  (h1 : -9223372036854775808≤z1) (h2:z1≤9223372036854775807):aba Tryz.prog 111 [.int .i64 z1] w (AnI W0 U Ps (z1) (2)) :=
 a2f HS (a2o (St.start HS HT HB)  h1 h2)
end
end Go.Proofs.YtbihljnjaondcaaGreatDoor
namespace Go.Proofs.YtbihljnjaondcaaGreatDoor
open Go Go.RowKit Lw acY
section
variable {W0 w:World} {U:List Box} {Ps:List (World→Prop)}
theorem St.same (HS:St W0 U Ps w) {f:FuncId} {vs:List Value} {u:Value} (h:Calls Tryz.prog f vs.toArray w (fun e w'=>e = .returned u∧w=w')):aba Tryz.prog f vs w (AnP W0 U Ps u) :=
 h.mono fun e w' hh=>by
  obtain ⟨rfl,rfl⟩:=hh
  exact ⟨_,rfl,rfl,HS⟩
theorem St.bbP (HS:St W0 U Ps w) {f:FuncId} {vs:List Value} {u:Value} (h:Calls Tryz.prog f vs.toArray w (fun e w'=>e = .returned u∧Below w.heap.size w w')):aba Tryz.prog f vs w (AnP W0 U Ps u) :=
 h.mono fun e w' hh=>by
  obtain ⟨rfl,hb⟩:=hh
  exact ⟨_,rfl,rfl,HS.next hb⟩
theorem a4t (HT:Tz W0) (HB:Tab W0) (HX:Mx W0) (HS:St W0 U Ps w):aba Tryz.prog 13 [] w (AnP W0 U Ps (.bool true)) :=
 St.bbP HS (biH w (HT.next HS.below) (HB.next HS.below) (HX.next HS.below))
theorem bjf (HS:St W0 U Ps w) (i:Nat) {g:Nat} {t:TypeId} {k:Nat} (L:List Fh) (hi:U[i]? = some ⟨g,t,fhs L⟩) (hk:L.length=k) (hs:k≤16):aba Tryz.prog 12 [.slice (some ⟨g,0,none⟩) k k] w (AnP W0 U Ps (.bool (aNp L))) :=
 St.bbP HS (bje L g k t w (HS.box _ (List.mem_of_getElem? hi)) hk hs)
theorem blm (HS:St W0 U Ps w):aba Tryz.prog 20 [.nilIface] w (AnP W0 U Ps (.int .i64 0)):=St.same HS (bll w)
theorem blj (HS:St W0 U Ps w) (z:Int):aba Tryz.prog 20 [.iface 74 (.int .i64 z)] w (AnP W0 U Ps (.int .i64 z)):=St.same HS (bli z w)
theorem aj8.more {f:FuncId} {vs:List Value} {q r:Rat} {er:Value} {k K:Nat} (h:aba Tryz.prog f vs w (aj8 W0 U Ps q k er)) (hq:q=r) (hk:k≤K):aba Tryz.prog f vs w (aj8 W0 U Ps r K er) :=
 Calls.mono h fun e w' hh=>by
  subst hq
  obtain ⟨u,rfl,s,A,n,c,B,m,d,rfl,hs⟩:=hh
  exact ⟨_,rfl,_,_,_,_,_,_,_,rfl,hs.out 0 1 0 rfl rfl rfl (fun _ h=>h.weak hk)⟩
theorem aj8.of {f:FuncId} {vs:List Value} {er:Value} {q:Rat} {k:Nat} (HS:St W0 U Ps w) {L:List En} {M:List Qn} (h:Calls Tryz.prog f vs.toArray w (fun e w' => ∃ (s:Bool) (A:Option Addr) (n c:Nat) (A':Option Addr) (n' c':Nat),e = .returned (.tuple #[(btT s A n c A' n' c'),er])∧Uz w w' [] L [] (⟨(btT s A n c A' n' c'),q,k,true⟩ :: M))):aba Tryz.prog f vs w (aj8 W0 U Ps q k er):=bjq HS h
end
def Both (P:Program) (f f':FuncId) (q:Rat) (k:Nat) (b:Bool) (z:Int) (r:Rat) (K:Nat) (er er':Value):Prop :=
 ∀ (W0 w:World) (U:List Box) (Ps:List (World→Prop)) (s:Bool) (A:Option Addr) (n c:Nat) (B:Option Addr) (m d:Nat),Tz W0→Tab W0→St W0 U Ps w→FV (btT s A n c B m d) q k b w →
  aba P f [(btT s A n c B m d),.int .i64 z] w (aj8 W0 U Ps r K er)∧aba P f' [(btT s A n c B m d),.int .i64 z] w (aj8 W0 U Ps r K er')
def an9 (er:Value) (code:Int):Prop := ∀ (W0 w:World) (U:List Box) (Ps:List (World→Prop)),St W0 U Ps w→aba Tryz.prog 20 [er] w (AnP W0 U Ps (.int .i64 code))
theorem an9.nil_:an9 .nilIface 0:=fun _ _ _ _ HS=>blm HS
theorem an9.err (z:Int):an9 (.iface 74 (.int .i64 z)) z:=fun _ _ _ _ HS=>blj HS z
end Go.Proofs.YtbihljnjaondcaaGreatDoor
