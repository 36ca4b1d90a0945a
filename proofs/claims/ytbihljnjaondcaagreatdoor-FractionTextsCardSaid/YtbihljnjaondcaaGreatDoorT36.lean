/- Part of a proof, said shortly. -/
import Derived.Test.YtbihljnjaondcaaGreatDoorAlt
import Derived.Test.YtbihljnjaondcaaGreatDoorT35
import Derived.Test.YtbihljnjaondcaaGreatDoorT12
import Derived.Test.YtbihljnjaondcaaGreatDoorT6
import Derived.Test.YtbihljnjaondcaaGreatDoorT4
import Derived.Test.YtbihljnjaondcaaGreatDoorT3
import Derived.Test.YtbihljnjaondcaaGreatDoorT2
import Derived.Test.YtbihljnjaondcaaGreatDoorT1
import Derived.Test.YtbihljnjaondcaaGreatDoorT5
import Derived.Test.YtbihljnjaondcaaGreatDoorT9
import Derived.Test.YtbihljnjaondcaaGreatDoorT8
import Derived.Test.YtbihljnjaondcaaGreatDoorT7
import Derived.Test.YtbihljnjaondcaaGreatDoorT13
import Derived.Test.YtbihljnjaondcaaGreatDoorT10
import Derived.Test.YtbihljnjaondcaaGreatDoorT11
namespace Lw
open Go Go.RowKit
structure Sn where
 v:Value
 l:List Nat
 k:Nat
def Sld (w:World) (e:Sn):Prop := ∃ (A:Option Addr) (n c B:Nat),e.v = .slice A n c∧Rd w B A e.l∧B≤w.heap.size∧e.l.length=n∧n≤c∧n≤e.k
theorem Sld.next {w w':World} {e:Sn} (h:Sld w e) (hb:Below w.heap.size w w'):Sld w' e:=by
 obtain ⟨A,n,c,B,h1,h2,h3,h4⟩:=h
 exact ⟨A,n,c,B,h1,h2.next hb h3,Nat.le_trans h3 hb.size,h4⟩
structure afs (t:TypeId) (W0 w:World) (bs:List Bx) (L:List En) (M:List Sn):Prop where
 env:Env t W0 w bs L
 sls : ∀ e∈M,Sld w e
variable {t:TypeId} {W0 w w':World} {bs:List Bx} {L:List En} {M:List Sn}
theorem afs.next (h:afs t W0 w bs L M) (hb:Below w.heap.size w w'):afs t W0 w' bs L M:=⟨h.env.next hb,fun e he=>(h.sls e he).next hb⟩
theorem afs.drew (h:afs t W0 w bs L M):afs t W0 w.drew bs L M:=h.next (Below.refl _ w).drew
theorem afs.cons (h:afs t W0 w bs L M) {e:Sn} (he:Sld w e):afs t W0 w bs L (e :: M) :=
 ⟨h.env,fun e' h'=>by
  rcases List.mem_cons.1 h' with rfl | h'
  ·exact he
  ·exact h.sls e' h'⟩
theorem Env.atA {g1 g2 g3:Nat} {x1 y1 x2 y2 x3 y3:Value} (h:Env t W0 w [⟨g1,x1,y1⟩,⟨g2,x2,y2⟩,⟨g3,x3,y3⟩] L) :
  w.cell? ⟨g1,0,none⟩=some x1∧w.cell? ⟨g1,1,none⟩=some y1∧w.cell? ⟨g2,0,none⟩=some x2∧w.cell? ⟨g2,1,none⟩=some y2:=by
 obtain ⟨a,b,c,d,_⟩:=h.cells3
 exact ⟨a,b,c,d⟩
theorem Env.anq {g1 g2 g3:Nat} {x1 y1 x2 y2 x3 y3:Value} (h:Env t W0 w [⟨g1,x1,y1⟩,⟨g2,x2,y2⟩,⟨g3,x3,y3⟩] L) (h1:g1≠g3) (h2:g2≠g3) (u v:Value) :
  ((w.setCell ⟨g3,0,none⟩ u).setCell ⟨g3,1,none⟩ v).cell? ⟨g1,0,none⟩=some x1∧((w.setCell ⟨g3,0,none⟩ u).setCell ⟨g3,1,none⟩ v).cell? ⟨g1,1,none⟩=some y1 ∧
  ((w.setCell ⟨g3,0,none⟩ u).setCell ⟨g3,1,none⟩ v).cell? ⟨g2,0,none⟩=some x2∧((w.setCell ⟨g3,0,none⟩ u).setCell ⟨g3,1,none⟩ v).cell? ⟨g2,1,none⟩=some y2:=by
 obtain ⟨a1,a2,_,_⟩:=(((h.box _ (.head _)).far (p:=⟨g3,0,none⟩) h1 u).far (p:=⟨g3,1,none⟩) h1 v).facts
 obtain ⟨b1,b2,_,_⟩:=(((h.box _ (.tail _ (.head _))).far (p:=⟨g3,0,none⟩) h2 u).far (p:=⟨g3,1,none⟩) h2 v).facts
 exact ⟨a1,a2,b1,b2⟩
theorem Env.blU {g1 g3:Nat} {x1 y1 x3 y3:Value} (h:Env t W0 w [⟨g1,x1,y1⟩,⟨g3,x3,y3⟩] L) (h1:g1≠g3) (u v:Value) :
  ((w.setCell ⟨g3,0,none⟩ u).setCell ⟨g3,1,none⟩ v).cell? ⟨g1,0,none⟩=some x1∧((w.setCell ⟨g3,0,none⟩ u).setCell ⟨g3,1,none⟩ v).cell? ⟨g1,1,none⟩=some y1:=by
 obtain ⟨a1,a2,_,_⟩:=(((h.box _ (.head _)).far (p:=⟨g3,0,none⟩) h1 u).far (p:=⟨g3,1,none⟩) h1 v).facts
 exact ⟨a1,a2⟩
theorem Env.third {g1 g2 g3:Nat} {x1 y1 x2 y2 x3 y3:Value} (h:Env t W0 w [⟨g1,x1,y1⟩,⟨g2,x2,y2⟩,⟨g3,x3,y3⟩] L):Two w g3 t x3 y3:=h.box _ (.tail _ (.tail _ (.head _)))
theorem Env.second {g1 g2:Nat} {x1 y1 x2 y2:Value} (h:Env t W0 w [⟨g1,x1,y1⟩,⟨g2,x2,y2⟩] L):Two w g2 t x2 y2:=h.box _ (.tail _ (.head _))
theorem Opd.here {w W:World} {s:Bool} {A:Option Addr} {n c B k:Nat} {l:List Nat} (r:Rd w B A l) (hB:B≤w.heap.size) (hb:Below w.heap.size w W) (h:l.length=n) (hn:n≤k) (hc:n≤c):Opd W ⟨.agg #[.bool s,.slice A n c],zv s l,k,vB s l⟩ :=
 ⟨s,A,n,c,l,B,rfl,r.next hb hB,Nat.le_trans hB hb.size,h,hn,hc,rfl,rfl⟩
theorem a5W {w:World} {s1 s2:Bool} {A1 A2:Option Addr} {n1 n2 c1 c2 B1 B2 k1 k2:Nat} {l1 l2:List Nat} (t:TypeId) (r1:Rd w B1 A1 l1) (r2:Rd w B2 A2 l2) (hB1:B1≤w.heap.size) (hB2:B2≤w.heap.size) (e1:l1.length=n1) (e2:l2.length=n2)
  (q1:n1≤c1) (q2:n2≤c2) (h1:n1≤k1) (h2:n2≤k2) :
  afs t w (((w.alloc (.cells #[.bool s1,.slice A1 n1 c1] t)).alloc (.cells #[.bool s2,.slice A2 n2 c2] t)).alloc (.cells #[.bool false,.slice none 0 0] t))
   [⟨w.heap.size,.bool s1,.slice A1 n1 c1⟩,⟨w.heap.size+1,.bool s2,.slice A2 n2 c2⟩,⟨w.heap.size+1+1,.bool false,.slice none 0 0⟩]
   [⟨.agg #[.bool s1,.slice A1 n1 c1],zv s1 l1,k1,vB s1 l1⟩,⟨.agg #[.bool s2,.slice A2 n2 c2],zv s2 l2,k2,vB s2 l2⟩] []:=by
 have hb:=((((Below.refl w.heap.size w).alloc (Nat.le_refl _) (.cells #[.bool s1,.slice A1 n1 c1] t)).alloc (by simp) (.cells #[.bool s2,.slice A2 n2 c2] t)).alloc (by simp; omega) (.cells #[.bool false,.slice none 0 0] t))
 refine ⟨⟨fun e he => ?_,fun b hb' => ?_,hb⟩,fun e he=>by cases he⟩
 ·simp only [List.mem_cons,List.not_mem_nil,or_false] at he
  rcases he with rfl | rfl
  ·exact Opd.here r1 hB1 hb e1 h1 q1
  ·exact Opd.here r2 hB2 hb e2 h2 q2
 ·simp only [List.mem_cons,List.not_mem_nil,or_false] at hb'
  rcases hb' with rfl | rfl | rfl
  ·exact ((Two.new w t _ _).alloc _).alloc _
  ·have:=(Two.new (w.alloc (.cells #[.bool s1,.slice A1 n1 c1] t)) t (.bool s2) (.slice A2 n2 c2)).alloc (.cells #[.bool false,.slice none 0 0] t)
   rwa [World.size_alloc] at this
  ·have:=Two.new ((w.alloc (.cells #[.bool s1,.slice A1 n1 c1] t)).alloc (.cells #[.bool s2,.slice A2 n2 c2] t)) t (.bool false) (.slice none 0 0)
   rwa [World.size_alloc,World.size_alloc] at this
theorem bhb {w:World} {s1:Bool} {A1:Option Addr} {n1 c1 B1 k1:Nat} {l1:List Nat} (t:TypeId) (r1:Rd w B1 A1 l1) (hB1:B1≤w.heap.size) (e1:l1.length=n1) (q1:n1≤c1) (h1:n1≤k1) :
  afs t w ((w.alloc (.cells #[.bool s1,.slice A1 n1 c1] t)).alloc (.cells #[.bool false,.slice none 0 0] t))
   [⟨w.heap.size,.bool s1,.slice A1 n1 c1⟩,⟨w.heap.size+1,.bool false,.slice none 0 0⟩]
   [⟨.agg #[.bool s1,.slice A1 n1 c1],zv s1 l1,k1,vB s1 l1⟩] []:=by
 have hb:=(((Below.refl w.heap.size w).alloc (Nat.le_refl _) (.cells #[.bool s1,.slice A1 n1 c1] t)).alloc (by simp) (.cells #[.bool false,.slice none 0 0] t))
 refine ⟨⟨fun e he => ?_,fun b hb' => ?_,hb⟩,fun e he=>by cases he⟩
 ·simp only [List.mem_cons,List.not_mem_nil,or_false] at he
  rcases he with rfl
  exact Opd.here r1 hB1 hb e1 h1 q1
 ·simp only [List.mem_cons,List.not_mem_nil,or_false] at hb'
  rcases hb' with rfl | rfl
  ·exact (Two.new w t _ _).alloc _
  ·have:=Two.new (w.alloc (.cells #[.bool s1,.slice A1 n1 c1] t)) t (.bool false) (.slice none 0 0)
   rwa [World.size_alloc] at this
end Lw
namespace Go.Proofs.YtbihljnjaondcaaGreatDoor
open Go Go.RowKit Lw
section
variable {t:TypeId} {W0 w:World} {bs:List Bx} {L:List En} {M:List Sn} {v u u':Value} {x:Int} {k k':Nat} {b:Bool} {l l':List Nat}
theorem bba {N K:Nat} {e:Ending} {w':World} (HE:afs t W0 w bs L M) (h:a2T w N e w') (hk:(Uy N).length≤K) : ∃ u,e = .returned u∧afs t W0 w' bs L (⟨u,Uy N,K⟩ :: M):=by
 obtain ⟨g,c,rfl,hc,hg,hblk,hb⟩:=h
 exact ⟨_,rfl,(HE.next hb).cons ⟨_,_,c,_,rfl,hblk.rd (acy _),Nat.le_refl _,rfl,hc,hk⟩⟩
theorem a4Q (HE:afs t W0 w bs L M) (h:⟨v,x,k,b⟩∈L) (hk:k≤100000) :
  Calls Tryz.prog 159 #[v] w fun e w' => ∃ u,e = .returned u∧afs t W0 w' bs L (⟨u,mg x,k⟩ :: M):=by
 obtain ⟨s,A,n,c,ns,B,e1,h2,h3,h4,h5,h6,e7,h8⟩:=HE.env.ops _ h
 dsimp only at e1 e7 h5
 subst e1 e7
 refine (bas s A ns n c B w h2 h3 h4 (by omega) h6).mono ?_
 rintro e w' ⟨A',c',rfl,hc,hr,hb⟩
 have hl:=ate (s:=s) h2.wds
 exact ⟨_,rfl,(HE.next hb).cons ⟨A',_,c',B,rfl,hr,Nat.le_trans h3 hb.size,rfl,hc,by show _≤k; omega⟩⟩
theorem a2r (HE:afs t W0 w bs L M) (h:⟨v,x,k,b⟩∈L) (hk:k≤100000) :
  Calls Tryz.prog 160 #[v] w fun e w'=>e = .returned (.bool (sg x))∧afs t W0 w' bs L M:=by
 obtain ⟨s,A,n,c,ns,B,e1,h2,h3,h4,h5,h6,e7,h8⟩:=HE.env.ops _ h
 dsimp only at e1 e7 h5
 subst e1 e7
 exact (baT s A ns n c B w h2 h3 h4 (by omega)).mono fun e w' hh=>⟨hh.1,HE.next hh.2⟩
theorem bej (HE:afs t W0 w bs L M) (h:⟨u,l,k⟩∈M) (h':⟨u',l',k'⟩∈M) (hk:k+k'≤100000) :
  Calls Tryz.prog 162 #[u,u'] w fun e w' => ∃ u,e = .returned u∧afs t W0 w' bs L (⟨u,Uy (val l+val l'),k+k'+1⟩ :: M):=by
 obtain ⟨A,n,c,B,e1,h2,h3,h4,h5,h6⟩:=HE.sls _ h
 obtain ⟨A',n',c',B',e1',h2',h3',h4',h5',h6'⟩:=HE.sls _ h'
 dsimp only at *
 subst e1 e1'
 have hz:(Uy (val l+val l')).length≤k+k'+1:=aj9 (by
  have:=a4P (x:=(val l:Int)) (y:=(val l':Int)) (k:=k) (k':=k') (by rw [Int.natAbs_natCast]; exact Nat.lt_of_lt_of_le (afS h2.wds) (ajj (by omega))) (by rw [Int.natAbs_natCast]; exact Nat.lt_of_lt_of_le (afS h2'.wds) (ajj (by omega)))
  rwa [← Int.natCast_add,Int.natAbs_natCast] at this)
 exact (a6P A A' l l' n n' c c' B B' w h2 h2' h3 h3' h4 h4' (by omega) (by omega)).mono fun e w' hh=>bba HE hh hz
theorem bat (HE:afs t W0 w bs L M) (h:⟨u,l,k⟩∈M) (h':⟨u',l',k'⟩∈M) (hk:k+k'≤100000) (ht:Trm l') (hle:val l'≤val l) :
  Calls Tryz.prog 164 #[u,u'] w fun e w' => ∃ u,e = .returned u∧afs t W0 w' bs L (⟨u,Uy (val l - val l'),k⟩ :: M):=by
 obtain ⟨A,n,c,B,e1,h2,h3,h4,h5,h6⟩:=HE.sls _ h
 obtain ⟨A',n',c',B',e1',h2',h3',h4',h5',h6'⟩:=HE.sls _ h'
 dsimp only at *
 subst e1 e1'
 have hz:(Uy (val l - val l')).length≤k:=aj9 (Nat.lt_of_le_of_lt (Nat.sub_le _ _) (Nat.lt_of_lt_of_le (afS h2.wds) (ajj (by omega))))
 exact (bm3 A A' l l' n n' c c' B B' w h2 h2' h3 h3' h4 h4' (by omega) (by omega) ht hle).mono fun e w' hh=>bba HE hh hz
theorem bhL (HE:afs t W0 w bs L M) (h:⟨u,l,k⟩∈M) (h':⟨u',l',k'⟩∈M) (hk:k+k'≤100000) :
  Calls Tryz.prog 163 #[u,u'] w fun e w'=>e = .returned (.int .i64 (alg (val l) (val l')))∧afs t W0 w' bs L M:=by
 obtain ⟨A,n,c,B,e1,h2,h3,h4,h5,h6⟩:=HE.sls _ h
 obtain ⟨A',n',c',B',e1',h2',h3',h4',h5',h6'⟩:=HE.sls _ h'
 dsimp only at *
 subst e1 e1'
 refine (a3W A A' l l' n n' c c' B B' w h2 h2' h4 h4' (by omega) (by omega)).mono ?_
 rintro e w' ⟨rfl,rfl⟩
 exact ⟨rfl,HE⟩
theorem a2Y (s:Bool) (z:Int) (HE:afs t W0 w bs L M) (h:⟨u,l,k⟩∈M) (hk:k≤100000) (hz:z=if s then -(val l:Int) else (val l:Int)) :
  Calls Tryz.prog 161 #[.bool s,u] w fun e w' => ∃ A c,e = .returned (.agg #[.bool (sg z),.slice A (mg z).length c])∧(mg z).length≤c∧Rd w' w'.heap.size A (mg z)∧afs t W0 w' bs L M:=by
 obtain ⟨A,n,c,B,e1,h2,h3,h4,h5,h6⟩:=HE.sls _ h
 dsimp only at *
 subst e1
 refine (a4v s A l n c B z w h2 h3 h4 (by omega) hz).mono ?_
 rintro e w' ⟨A',c',rfl,hc,hr,hb⟩
 exact ⟨A',c',rfl,hc,hr,HE.next hb⟩
end
end Go.Proofs.YtbihljnjaondcaaGreatDoor
