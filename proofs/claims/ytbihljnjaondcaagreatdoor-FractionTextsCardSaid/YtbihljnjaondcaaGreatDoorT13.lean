/- Part of a proof, said shortly. -/
import Derived.Lib.TrailingZeros
import Derived.Test.YtbihljnjaondcaaGreatDoorAlt
import Derived.Test.YtbihljnjaondcaaGreatDoorT9
import Derived.Test.YtbihljnjaondcaaGreatDoorT8
import Derived.Test.YtbihljnjaondcaaGreatDoorT6
import Derived.Test.YtbihljnjaondcaaGreatDoorT4
import Derived.Test.YtbihljnjaondcaaGreatDoorT3
import Derived.Test.YtbihljnjaondcaaGreatDoorT2
import Derived.Test.YtbihljnjaondcaaGreatDoorT1
import Derived.Test.YtbihljnjaondcaaGreatDoorT5
import Derived.Test.YtbihljnjaondcaaGreatDoorT7
import Derived.Test.YtbihljnjaondcaaGreatDoorT10
import Derived.Test.YtbihljnjaondcaaGreatDoorT11
import Derived.Test.YtbihljnjaondcaaGreatDoorT12
namespace Lw
open Go Go.RowKit
theorem bol {l:List Nat} (h:Trm l) (hl:0 < l.length):dg l (l.length - 1)≠0 :=
 h _ (by rw [List.getLast?_eq_getElem?,a1G (by omega)])
theorem a1f (z:Int):vB (sg z) (mg z)=true:=by
 unfold vB
 by_cases h:(mg z).length=0
 ·rw [if_pos h]
  have:=a1u.1 h
  subst this; rfl
 ·rw [if_neg h]
  have:=bol (a3q z) (by omega)
  simpa using this
theorem a1k (z:Int):zv (sg z) (mg z)=z:=by
 unfold zv; rw [if_pos (a1f z)]; exact (a2A z).symm
theorem a1t {z:Int} {k:Nat} (h:z.natAbs < pw k):(mg z).length≤k:=aj9 h
end Lw
namespace Lw
open Go Go.RowKit
structure Wh where
 s:Bool
 A:Option Addr
 n:Nat
 c:Nat
def Wh.cells (a:Wh):List Value:=[.bool a.s,.slice a.A a.n a.c]
def few (l:List Wh):Bool:=l.all fun a=>decide (a.n≤30)
end Lw
namespace Lw
open Go Go.RowKit
structure En where
 v:Value
 z:Int
 k:Nat
 b:Bool
def Opd (w:World) (e:En):Prop := ∃ (s:Bool) (A:Option Addr) (n c:Nat) (ns:List Nat) (B:Nat),e.v = .agg #[.bool s,.slice A n c]∧Rd w B A ns∧B≤w.heap.size∧ns.length=n∧n≤e.k∧n≤c∧zv s ns=e.z∧vB s ns=e.b
theorem Opd.next {w w':World} {e:En} (h:Opd w e) (hb:Below w.heap.size w w'):Opd w' e:=by
 obtain ⟨s,A,n,c,ns,B,h1,h2,h3,h4⟩:=h
 exact ⟨s,A,n,c,ns,B,h1,h2.next hb h3,Nat.le_trans h3 hb.size,h4⟩
theorem Opd.lt {w:World} {e:En} (h:Opd w e):e.z.natAbs < pw e.k:=by
 obtain ⟨s,A,n,c,ns,B,h1,h2,h3,h4,h5,h6,h7,h8⟩:=h
 rw [← h7]
 exact Nat.lt_of_le_of_lt (a8G s ns) (Nat.lt_of_lt_of_le (afS h2.wds) (ajj (by omega)))
theorem a4P {x y:Int} {k k':Nat} (h:x.natAbs < pw k) (h':y.natAbs < pw k'):(x+y).natAbs < pw (k+k'+1):=by
 have h1:pw k≤pw (k+k'):=ajj (by omega)
 have h2:pw k'≤pw (k+k'):=ajj (by omega)
 have h3:pw (k+k'+1)=pw (k+k')*4294967296:=by unfold pw; rw [Nat.pow_succ]
 omega
theorem bkD {x y:Int} {k k':Nat} (h:x.natAbs < pw k) (h':y.natAbs < pw k'):(x - y).natAbs < pw (k+k'+1):=by
 have:=a4P h (y := -y) (by simpa using h')
 rwa [← Int.sub_eq_add_neg] at this
theorem lt_mul {x y:Int} {k k':Nat} (h:x.natAbs < pw k) (h':y.natAbs < pw k'):(x*y).natAbs < pw (k+k'+1):=by
 rw [Int.natAbs_mul]
 have h1:x.natAbs*y.natAbs < pw k*pw k':=Nat.mul_lt_mul_of_le_of_lt (Nat.le_of_lt h) h' (by omega)
 have h2:pw k*pw k'=pw (k+k'):=by unfold pw; rw [Nat.pow_add]
 have h3:pw (k+k')≤pw (k+k'+1):=ajj (by omega)
 omega
structure Bx where
 g:Nat
 x:Value
 y:Value
structure Env (t:TypeId) (W0 w:World) (bs:List Bx) (L:List En):Prop where
 ops : ∀ e∈L,Opd w e
 box : ∀ b∈bs,Two w b.g t b.x b.y
 below:Below W0.heap.size W0 w
variable {t:TypeId} {W0 w w':World} {bs:List Bx} {L:List En}
theorem Env.next (h:Env t W0 w bs L) (hb:Below w.heap.size w w'):Env t W0 w' bs L :=
 ⟨fun e he=>(h.ops e he).next hb,fun b hb'=>(h.box b hb').next hb,aaR h.below hb (Nat.le_refl _)⟩
theorem Env.drew (h:Env t W0 w bs L):Env t W0 w.drew bs L:=h.next (Below.refl _ w).drew
theorem Env.cons (h:Env t W0 w bs L) {e:En} (he:Opd w e):Env t W0 w bs (e :: L) :=
 ⟨fun e' h'=>by
  rcases List.mem_cons.1 h' with rfl | h'
  ·exact he
  ·exact h.ops e' h',h.box,h.below⟩
theorem Env.tail {e:En} (h:Env t W0 w bs (e :: L)):Env t W0 w bs L:=⟨fun e' h'=>h.ops e' (.tail _ h'),h.box,h.below⟩
theorem Env.nil_ (h:Env t W0 w bs L):Env t W0 w bs (⟨.agg #[.bool false,.slice none 0 0],0,0,true⟩ :: L) :=
 h.cons ⟨false,none,0,0,[],0,rfl,Rd.nil_ _ _ _,Nat.zero_le _,rfl,Nat.le_refl _,Nat.le_refl _,rfl,rfl⟩
theorem Env.cells3 {g1 g2 g3:Nat} {x1 y1 x2 y2 x3 y3:Value} (h:Env t W0 w [⟨g1,x1,y1⟩,⟨g2,x2,y2⟩,⟨g3,x3,y3⟩] L) :
  w.cell? ⟨g1,0,none⟩=some x1∧w.cell? ⟨g1,1,none⟩=some y1∧w.cell? ⟨g2,0,none⟩=some x2∧w.cell? ⟨g2,1,none⟩=some y2∧w.cell? ⟨g3,0,none⟩=some x3∧w.cell? ⟨g3,1,none⟩=some y3:=by
 obtain ⟨a1,a2,_,_⟩:=(h.box _ (.head _)).facts
 obtain ⟨b1,b2,_,_⟩:=(h.box _ (.tail _ (.head _))).facts
 obtain ⟨c1,c2,_,_⟩:=(h.box _ (.tail _ (.tail _ (.head _)))).facts
 exact ⟨a1,a2,b1,b2,c1,c2⟩
theorem Env.cells2 {g1 g2:Nat} {x1 y1 x2 y2:Value} (h:Env t W0 w [⟨g1,x1,y1⟩,⟨g2,x2,y2⟩] L) :
  w.cell? ⟨g1,0,none⟩=some x1∧w.cell? ⟨g1,1,none⟩=some y1∧w.cell? ⟨g2,0,none⟩=some x2∧w.cell? ⟨g2,1,none⟩=some y2:=by
 obtain ⟨a1,a2,_,_⟩:=(h.box _ (.head _)).facts
 obtain ⟨b1,b2,_,_⟩:=(h.box _ (.tail _ (.head _))).facts
 exact ⟨a1,a2,b1,b2⟩
theorem Opd.new {w W:World} {s:Bool} {A:Option Addr} {n c:Nat} {l:List Nat} (r:Rd w w.heap.size A l) (hb:Below w.heap.size w W) (h:l.length=n) (hn:n≤30) (hc:n≤c):Opd W ⟨.agg #[.bool s,.slice A n c],zv s l,30,vB s l⟩ :=
 ⟨s,A,n,c,l,_,rfl,r.below hb,hb.size,h,hn,hc,rfl,rfl⟩
end Lw
namespace Go.Proofs.YtbihljnjaondcaaGreatDoor
open Go Go.RowKit Lw
section
variable {t:TypeId} {W0 w:World} {bs:List Bx} {L:List En} {v v':Value} {x y:Int} {k k':Nat} {b b':Bool}
theorem a5s {z:Int} {K:Nat} {e:Ending} {w':World} (HE:Env t W0 w bs L) (h:atE w z e w') (hz:z.natAbs < pw K) : ∃ u,e = .returned u∧Env t W0 w' bs (⟨u,z,K,true⟩ :: L):=by
 obtain ⟨A,c,rfl,hc,hr,hb⟩:=h
 exact ⟨_,rfl,(HE.next hb).cons ⟨sg z,A,_,c,mg z,_,rfl,hr,Nat.le_refl _,rfl,a1t hz,hc,a1k z,a1f z⟩⟩
theorem bgY (HE:Env t W0 w bs L) (h:⟨v,x,k,b⟩∈L) (h':⟨v',y,k',b'⟩∈L) (hk:k+k'≤100000) :
  Calls Tryz.prog 192 #[v,v'] w fun e w' => ∃ u,e = .returned u∧Env t W0 w' bs (⟨u,x+y,k+k'+1,true⟩ :: L):=by
 have H1:=HE.ops _ h
 have H2:=HE.ops _ h'
 have hz:=a4P H1.lt H2.lt
 obtain ⟨s,A,n,c,ns,B,e1,h2,h3,h4,h5,h6,e7,h8⟩:=H1
 obtain ⟨s',A',n',c',ns',B',e1',h2',h3',h4',h5',h6',e7',h8'⟩:=H2
 dsimp only at e1 e7 e1' e7' h5 h5' hz
 subst e1 e1' e7 e7'
 exact (bg1 s s' A A' ns ns' n n' c c' B B' w h2 h2' h3 h3' h4 h4' (by omega) (by omega) h6 h6').mono fun e w' hh=>a5s HE hh hz
theorem bkL (HE:Env t W0 w bs L) (h:⟨v,x,k,b⟩∈L) (h':⟨v',y,k',b'⟩∈L) (hk:k+k'≤100000) :
  Calls Tryz.prog 91 #[v,v'] w fun e w' => ∃ u,e = .returned u∧Env t W0 w' bs (⟨u,x*y,k+k'+1,true⟩ :: L):=by
 have H1:=HE.ops _ h
 have H2:=HE.ops _ h'
 have hz:=lt_mul H1.lt H2.lt
 obtain ⟨s,A,n,c,ns,B,e1,h2,h3,h4,h5,h6,e7,h8⟩:=H1
 obtain ⟨s',A',n',c',ns',B',e1',h2',h3',h4',h5',h6',e7',h8'⟩:=H2
 dsimp only at e1 e7 e1' e7' h5 h5' hz
 subst e1 e1' e7 e7'
 exact (bkP s s' A A' ns ns' n n' c c' B B' w h2 h2' h3 h3' h4 h4' (by omega) (by omega) h6 h6').mono fun e w' hh=>a5s HE hh hz
theorem bhI (HE:Env t W0 w bs L) (h:⟨v,x,k,b⟩∈L) (h':⟨v',y,k',b'⟩∈L) (hk:k+k'≤100000) :
  Calls Tryz.prog 112 #[v,v'] w fun e w'=>e = .returned (.int .i64 (ahw x y))∧Env t W0 w' bs L:=by
 obtain ⟨s,A,n,c,ns,B,e1,h2,h3,h4,h5,h6,e7,h8⟩:=HE.ops _ h
 obtain ⟨s',A',n',c',ns',B',e1',h2',h3',h4',h5',h6',e7',h8'⟩:=HE.ops _ h'
 dsimp only at e1 e7 e1' e7' h5 h5'
 subst e1 e1' e7 e7'
 exact (bhK s s' A A' ns ns' n n' c c' B B' w h2 h2' h3 h3' h4 h4' (by omega) (by omega) h6 h6').mono fun e w' hh=>⟨hh.1,HE.next hh.2⟩
end
end Go.Proofs.YtbihljnjaondcaaGreatDoor
namespace Lw
open Go Go.RowKit
theorem bdM {z:Int} (h1 : -9223372036854775808≤z) (h2:z≤9223372036854775807):z.natAbs < pw 2:=by
 have:pw 2=18446744073709551616:=rfl
 omega
end Lw
namespace Go.Proofs.YtbihljnjaondcaaGreatDoor
open Go Go.RowKit Lw
section
variable {t:TypeId} {W0 w:World} {bs:List Bx} {L:List En} {v v':Value} {x y:Int} {k k':Nat} {b b':Bool}
theorem beJ (HE:Env t W0 w bs L) (h:⟨v,x,k,b⟩∈L) (hk:k≤100000) :
  Calls Tryz.prog 115 #[v] w fun e w'=>e = .returned (.int .i64 (afm x))∧Env t W0 w' bs L:=by
 obtain ⟨s,A,n,c,ns,B,e1,h2,h3,h4,h5,h6,e7,h8⟩:=HE.ops _ h
 dsimp only at e1 e7 h5
 subst e1 e7
 exact (beI s A ns n c B w h2 h3 h4 (by omega) h6).mono fun e w' hh=>⟨hh.1,HE.next hh.2⟩
theorem blp {z:Int} (HE:Env t W0 w bs L) (h1 : -9223372036854775808≤z) (h2:z≤9223372036854775807) :
  Calls Tryz.prog 111 #[.int .i64 z] w fun e w' => ∃ u,e = .returned u∧Env t W0 w' bs (⟨u,z,2,true⟩ :: L) :=
 (blo z w h1 h2).mono fun _ _ hh=>a5s HE hh (bdM h1 h2)
theorem bm6 {z:Int} (HE:Env t W0 w bs L) (h1 : -9223372036854775808≤z) (h2:z≤9223372036854775807) :
  Calls Tryz.prog 143 #[.int .i64 z] w fun e w' => ∃ u,e = .returned u∧Env t W0 w' bs (⟨u,z,2,true⟩ :: L) :=
 (bm5 z w h1 h2).mono fun _ _ hh=>a5s HE hh (bdM h1 h2)
end
end Go.Proofs.YtbihljnjaondcaaGreatDoor
namespace Lw
open Go Go.RowKit
theorem Env.a7m {t:TypeId} {W0 w:World} {bs:List Bx} {L:List En} (h:Env t W0 w bs L) (x y:Value):Env t W0 (w.alloc (.cells #[x,y] t)) (⟨w.heap.size,x,y⟩ :: bs) L :=
 have h2:=h.next ((Below.refl _ w).alloc (Nat.le_refl _) (.cells #[x,y] t))
 ⟨h2.ops,fun b hb=>by
  rcases List.mem_cons.1 hb with rfl | hb
  ·exact Two.new w t x y
  ·exact h2.box b hb,h2.below⟩
theorem Opd.put {t:TypeId} {w:World} {g n c:Nat} {s:Bool} {X:Option Addr} {e:En} (h:Opd w e) (h2:Two w g t (.bool s) (.slice X n c)) (s':Bool) (v:Value) :
  Opd ((w.setCell ⟨g,0,none⟩ (.bool s')).setCell ⟨g,1,none⟩ v) e:=by
 obtain ⟨a,A,m,d,ns,B,e1,h3,h4,h5,h6,h7,e7,h8⟩:=h
 exact ⟨a,A,m,d,ns,B,e1,h3.ak' h2 s' v,by simpa using h4,h5,h6,h7,e7,h8⟩
theorem Env.put {t:TypeId} {W0 w:World} {bs:List Bx} {L:List En} {g n c:Nat} {s:Bool} {X:Option Addr} (h:Env t W0 w (⟨g,.bool s,.slice X n c⟩ :: bs) L) (hg:W0.heap.size≤g) (hd : ∀ b∈bs,b.g≠g) (s':Bool) (v:Value) :
  Env t W0 ((w.setCell ⟨g,0,none⟩ (.bool s')).setCell ⟨g,1,none⟩ v) (⟨g,.bool s',v⟩ :: bs) L :=
 ⟨fun e he=>(h.ops e he).put (h.box _ (.head _)) s' v,fun b hb=>by
  rcases List.mem_cons.1 hb with rfl | hb
  ·exact (h.box _ (.head _)).put _ _
  ·exact ((h.box b (.tail _ hb)).far (p:=⟨g,0,none⟩) (hd b hb) _).far (p:=⟨g,1,none⟩) (hd b hb) _,
  (h.below.setCell (p:=⟨g,0,none⟩) hg _).setCell (p:=⟨g,1,none⟩) hg _⟩
theorem Env.boC {t:TypeId} {W0 w:World} {b:Bx} {bs:List Bx} {L:List En} (h:Env t W0 w (b :: bs) L):Env t W0 w bs L:=⟨h.ops,fun b' hb=>h.box b' (.tail _ hb),h.below⟩
theorem Env.top {t:TypeId} {W0 w:World} {g:Nat} {x y:Value} {bs:List Bx} {L:List En} (h:Env t W0 w (⟨g,x,y⟩ :: bs) L) :
  w.cell? ⟨g,0,none⟩=some x∧w.cell? ⟨g,1,none⟩=some y∧w.frozen? ⟨g,0,none⟩=false∧w.frozen? ⟨g,1,none⟩=false:=(h.box _ (.head _)).facts
end Lw
namespace Go.Proofs.YtbihljnjaondcaaGreatDoor
open Go Go.RowKit Lw
theorem bg' (z:Int) (w:World):Sem.run Tryz.prog (Instr.typeAssert (.iface 74 (.int .i64 z)) 28 74 true) w = .ok (.tuple #[.int .i64 z,.bool true]) w:=by kernel_rfl
set_option maxRecDepth 100000 in
set_option maxHeartbeats 800000 in
theorem bll (w:World):Calls Tryz.prog 20 #[.nilIface] w fun e w'=>e = .returned (.int .i64 0)∧w=w':=by
 go_enter Tryz.func20,Tryz.ntmps20
 go_wp2
 go_ret
 exact ⟨rfl,rfl⟩
set_option maxRecDepth 100000 in
set_option maxHeartbeats 800000 in
theorem bli (z:Int) (w:World):Calls Tryz.prog 20 #[.iface 74 (.int .i64 z)] w fun e w'=>e = .returned (.int .i64 z)∧w=w':=by
 go_enter Tryz.func20,Tryz.ntmps20
 have ha:=bg' z w
 go_wp2
 go_ret
 exact ⟨rfl,rfl⟩
end Go.Proofs.YtbihljnjaondcaaGreatDoor
namespace Lw
theorem bmz (a:Rat):(-a).num = -a.num∧(-a).den=a.den:=⟨rfl,rfl⟩
theorem bmy (a b:Rat) (g h:Nat) (hg:g=a.num.natAbs.gcd b.den) (hh:h=b.num.natAbs.gcd a.den) :
  (a*b).num=(a.num / (g:Int))*(b.num / (h:Int))∧(a*b).den=(a.den / h)*(b.den / g):=by
 show (Rat.mul a b).num=_∧(Rat.mul a b).den=_
 unfold Rat.mul
 subst hg hh
 simp only [Int.divExact_eq_ediv,Nat.divExact_eq_div]
 exact ⟨trivial,trivial⟩
theorem bmx (a:Rat):a.floor=a.num / (a.den:Int):=by
 show Rat.floor a=_
 unfold Rat.floor
 split
 ·rename_i h; rw [h]; simp
 ·rfl
end Lw
namespace Lw
open Go
def tz (x:Nat):Nat:=Lib.ctz 64 x
theorem a8w {x:Nat} (h0:x≠0) (h:x < 18446744073709551616) : ∃ m,x=2 ^ tz x*(2*m+1)∧tz x < 64:=by
 unfold tz Lib.ctz
 rw [if_neg h0]
 exact Lib.ctzFrom_spec 64 x (by omega) h
theorem a6K (m k:Nat):Nat.Coprime (2 ^ k) (2*m+1):=by
 apply Nat.Coprime.pow_left
 unfold Nat.Coprime
 rw [Nat.gcd_rec,show (2*m+1) % 2=1 by omega]
 rfl
theorem baF {j k m:Nat} (h:2 ^ j ∣ 2 ^ k*(2*m+1)):j≤k:=by
 have h1:2 ^ j ∣ 2 ^ k:=Nat.Coprime.dvd_of_dvd_mul_right (a6K m j) h
 exact (Nat.pow_dvd_pow_iff_le_right (by omega)).1 h1
theorem beb {j x y:Nat} : 2 ^ j ∣ (x ||| y)↔2 ^ j ∣ x∧2 ^ j ∣ y:=by
 rw [Nat.dvd_iff_mod_eq_zero,Nat.dvd_iff_mod_eq_zero,Nat.dvd_iff_mod_eq_zero,Nat.or_mod_two_pow,Nat.or_eq_zero_iff]
theorem bfo {x m:Nat} (h:x=2 ^ tz x*(2*m+1)):x / 2 ^ tz x=2*m+1:=by
 have hp:0 < 2 ^ tz x:=Nat.pow_pos (by omega)
 generalize 2 ^ tz x=P at *
 rw [h,Nat.mul_div_cancel_left _ hp]
theorem bjo {x y:Nat} (hx:x≠0) (hy:y≠0) (hxl:x < 18446744073709551616) (hyl:y < 18446744073709551616) :
  Nat.gcd x y=Nat.gcd (x / 2 ^ tz x) y*2 ^ tz (x ||| y)∧(x / 2 ^ tz x) % 2=1∧tz x < 64∧tz (x ||| y) < 64∧x ||| y < 18446744073709551616:=by
 have ho:x ||| y≠0:=fun e=>hx (Nat.or_eq_zero_iff.1 e).1
 have hol:x ||| y < 18446744073709551616:=Nat.or_lt_two_pow (n:=64) hxl hyl
 obtain ⟨a,ha,hal⟩:=a8w hx hxl
 obtain ⟨b,hb,hbl⟩:=a8w hy hyl
 obtain ⟨c,hc,hcl⟩:=a8w ho hol
 have e1:=bfo ha
 have hd:2 ^ tz (x ||| y) ∣ (x ||| y):=⟨_,hc⟩
 obtain ⟨d1,d2⟩:=beb.1 hd
 have l1:tz (x ||| y)≤tz x:=baF (m:=a) (by rw [← ha]; exact d1)
 have l2:tz (x ||| y)≤tz y:=baF (m:=b) (by rw [← hb]; exact d2)
 have l3:¬ (tz (x ||| y)+1≤tz x∧tz (x ||| y)+1≤tz y):=by
  rintro ⟨k1,k2⟩
  have f1:2 ^ (tz (x ||| y)+1) ∣ x:=Nat.dvd_trans (Nat.pow_dvd_pow 2 k1) ⟨_,ha⟩
  have f2:2 ^ (tz (x ||| y)+1) ∣ y:=Nat.dvd_trans (Nat.pow_dvd_pow 2 k2) ⟨_,hb⟩
  have:=baF (m:=c) (j:=tz (x ||| y)+1) (k:=tz (x ||| y)) (by rw [← hc]; exact beb.2 ⟨f1,f2⟩)
  omega
 refine ⟨?_,by rw [e1]; omega,hal,hcl,hol⟩
 rw [e1]
 generalize tz (x ||| y)=t at *
 clear hd d1 d2 e1 hc ho hol
 generalize tz x=i at *
 generalize tz y=j at *
 subst ha hb
 rw [Nat.Coprime.gcd_mul_left_cancel_right _ (a6K a j)]
 rcases Nat.lt_or_ge t i with h1 | h1
 ·obtain rfl:j=t:=by omega
  obtain ⟨k,rfl⟩:=Nat.exists_eq_add_of_le l1
  rw [Nat.pow_add,Nat.mul_assoc,Nat.gcd_mul_left,Nat.mul_comm]
  congr 1
  exact Nat.Coprime.gcd_mul_left_cancel _ (a6K b k)
 ·obtain rfl:i=t:=by omega
  obtain ⟨k,rfl⟩:=Nat.exists_eq_add_of_le l2
  rw [Nat.pow_add,Nat.mul_assoc,Nat.gcd_mul_left,Nat.mul_comm]
  congr 1
  exact Nat.Coprime.gcd_mul_left_cancel_right _ (a6K a k)
theorem bln {x:Nat} (h:x % 2=1):x=2*(x / 2)+1:=by omega
theorem bjn {x y:Nat} (hx:x % 2=1) (hy:y≠0) (hyl:y < 18446744073709551616) :
  Nat.gcd x (y / 2 ^ tz y)=Nat.gcd x y∧(y / 2 ^ tz y) % 2=1∧y / 2 ^ tz y≤y∧tz y < 64:=by
 obtain ⟨b,hb,hbl⟩:=a8w hy hyl
 have e:=bfo hb
 refine ⟨?_,by rw [e]; omega,Nat.div_le_self _ _,hbl⟩
 rw [e]
 conv=>rhs; rw [hb]
 rw [bln hx,Nat.Coprime.gcd_mul_left_cancel_right _ (a6K _ _)]
theorem bcP {x y:Nat} (h:x≤y):Nat.gcd x (y - x)=Nat.gcd x y:=Nat.gcd_sub_self_right h
end Lw
namespace Lw
theorem bcq {n d:Int} (hd:0 < d):(Rat.divInt n d).num.natAbs≤n.natAbs∧(Rat.divInt n d).den≤d.natAbs:=by
 constructor
 ·rw [Rat.num_divInt,Int.sign_eq_one_of_pos hd,Int.one_mul]; exact Int.natAbs_ediv_le_natAbs _ _
 ·rw [Rat.den_divInt,if_neg (by omega)]; exact Nat.div_le_self _ _
theorem den_pos (a:Rat):(0:Int) < (a.den:Int):=by have:=a.den_pos; omega
theorem bch (a:Rat):(a.den:Int)≠0:=by have:=den_pos a; omega
theorem bdS (a b:Rat):a*b=Rat.divInt (a.num*b.num) (a.den*b.den):=by
 conv=>lhs; rw [← Rat.num_divInt_den a,← Rat.num_divInt_den b]
 rw [Rat.divInt_mul_divInt]
theorem bkK (a b:Rat):(a*b).num.natAbs≤a.num.natAbs*b.num.natAbs∧(a*b).den≤a.den*b.den:=by
 have h:=bcq (n:=a.num*b.num) (Int.mul_pos (den_pos a) (den_pos b))
 rw [← bdS,Int.natAbs_mul,Int.natAbs_mul,Int.natAbs_natCast,Int.natAbs_natCast] at h
 exact h
theorem bkM (a b:Rat) {g h:Int} (hg:g=(Nat.gcd a.num.natAbs b.den:Nat)) (hh:h=(Nat.gcd b.num.natAbs a.den:Nat)) :
  (a*b).num=(a.num / g)*(b.num / h)∧((a*b).den:Int)=((a.den:Int) / h)*((b.den:Int) / g)∧g≠0∧h≠0:=by
 have h1:=bmy a b _ _ rfl rfl
 have p1:0 < Nat.gcd a.num.natAbs b.den:=Nat.gcd_pos_of_pos_right _ b.den_pos
 have p2:0 < Nat.gcd b.num.natAbs a.den:=Nat.gcd_pos_of_pos_right _ a.den_pos
 subst hg hh
 refine ⟨h1.1,?_,by omega,by omega⟩
 rw [h1.2,Int.natCast_mul,Int.natCast_ediv,Int.natCast_ediv]
theorem baP {n d g:Int} (hd:0 < d) (hg:g=(Nat.gcd n.natAbs d.natAbs:Nat)):(Rat.divInt n d).num=n / g∧((Rat.divInt n d).den:Int)=d / g∧g≠0:=by
 have p1:0 < Nat.gcd n.natAbs d.natAbs:=Nat.gcd_pos_of_pos_right _ (by omega)
 have e:Int.gcd d n=Nat.gcd n.natAbs d.natAbs:=Int.gcd_comm d n
 subst hg
 refine ⟨?_,?_,by omega⟩
 ·rw [Rat.num_divInt,Int.sign_eq_one_of_pos hd,Int.one_mul,e]
 ·rw [Rat.den_divInt,if_neg (by omega),e,Int.natCast_ediv,Int.natAbs_of_nonneg (by omega)]
theorem biV (a:Rat):a.num / (a.den:Int)=a.floor:=(bmx a).symm
end Lw
namespace Lw
theorem tri (a b:Rat):a < b∨a=b∨b < a:=by
 by_cases h1:a < b
 ·exact .inl h1
 ·by_cases h2:b < a
  ·exact .inr (.inr h2)
  ·exact .inr (.inl (Rat.le_antisymm (Rat.not_lt.1 h2) (Rat.not_lt.1 h1)))
end Lw
