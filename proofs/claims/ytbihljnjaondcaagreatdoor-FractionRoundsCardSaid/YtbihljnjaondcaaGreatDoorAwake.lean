/- Walk of the law's awake. -/
import Derived.Test.YtbihljnjaondcaaGreatDoorText
import Derived.Test.YtbihljnjaondcaaGreatDoorGcdsmall
import Derived.Test.YtbihljnjaondcaaGreatDoorDivz
import Derived.Test.YtbihljnjaondcaaGreatDoorRef
import Derived.Test.YtbihljnjaondcaaGreatDoorNeg
import Derived.Test.YtbihljnjaondcaaGreatDoorSign
import Derived.Test.YtbihljnjaondcaaGreatDoorTrim
namespace Lw
open Go Go.RowKit
theorem trm_last {l : List Nat} (h : Trm l) (hl : 0 < l.length) : dg l (l.length - 1) ≠ 0 :=
  h _ (by rw [List.getLast?_eq_getElem?, dg_get? (by omega)])
theorem vB_own (z : Int) : vB (sg z) (mg z) = true := by
  unfold vB
  by_cases h : (mg z).length = 0
  · rw [if_pos h]
    have := mg_nil_iff.1 h
    subst this; rfl
  · rw [if_neg h]
    have := trm_last (mg_trm z) (by omega)
    simpa using this
theorem zv_own (z : Int) : zv (sg z) (mg z) = z := by
  unfold zv; rw [if_pos (vB_own z)]; exact (sg_mg z).symm
theorem len_z {z : Int} {k : Nat} (h : z.natAbs < pw k) : (mg z).length ≤ k := digs_length_le h
end Lw
namespace Go.Proofs.YtbihljnjaondcaaGreatDoor
open Go Go.RowKit Lw
end Go.Proofs.YtbihljnjaondcaaGreatDoor
/-! Walk of the law's short. -/
namespace Lw
open Go Go.RowKit
/-- A struct argument: the sign, and the slice's three parts. -/
structure Wh where
  s : Bool
  A : Option Addr
  n : Nat
  c : Nat
def Wh.cells (a : Wh) : List Value := [.bool a.s, .slice a.A a.n a.c]
/-- All have few words. -/
def few (l : List Wh) : Bool := l.all fun a => decide (a.n ≤ 30)
end Lw
namespace Go.Proofs.YtbihljnjaondcaaGreatDoor
open Go Go.RowKit Lw
end Go.Proofs.YtbihljnjaondcaaGreatDoor
/-! What the laws' walks keep: the integers at hand, the boxes of the parameters, and the world at the start. -/
namespace Lw
open Go Go.RowKit
/-- An integer at hand: its value in memory, what it stands for, a bound of its words, whether it is valid. -/
structure En where
  v : Value
  z : Int
  k : Nat
  b : Bool
def Opd (w : World) (e : En) : Prop := ∃ (s : Bool) (A : Option Addr) (n c : Nat) (ns : List Nat) (B : Nat), e.v = .agg #[.bool s, .slice A n c] ∧ Rd w B A ns ∧ B ≤ w.heap.size ∧ ns.length = n ∧ n ≤ e.k ∧ n ≤ c ∧ zv s ns = e.z ∧ vB s ns = e.b
theorem Opd.next {w w' : World} {e : En} (h : Opd w e) (hb : Below w.heap.size w w') : Opd w' e := by
  obtain ⟨s, A, n, c, ns, B, h1, h2, h3, h4⟩ := h
  exact ⟨s, A, n, c, ns, B, h1, h2.next hb h3, Nat.le_trans h3 hb.size, h4⟩
theorem Opd.lt {w : World} {e : En} (h : Opd w e) : e.z.natAbs < pw e.k := by
  obtain ⟨s, A, n, c, ns, B, h1, h2, h3, h4, h5, h6, h7, h8⟩ := h
  rw [← h7]
  exact Nat.lt_of_le_of_lt (zv_natAbs_le s ns) (Nat.lt_of_lt_of_le (val_lt h2.wds) (pw_le (by omega)))
theorem lt_sum {x y : Int} {k k' : Nat} (h : x.natAbs < pw k) (h' : y.natAbs < pw k') : (x + y).natAbs < pw (k + k' + 1) := by
  have h1 : pw k ≤ pw (k + k') := pw_le (by omega)
  have h2 : pw k' ≤ pw (k + k') := pw_le (by omega)
  have h3 : pw (k + k' + 1) = pw (k + k') * 4294967296 := by unfold pw; rw [Nat.pow_succ]
  omega
theorem lt_sub {x y : Int} {k k' : Nat} (h : x.natAbs < pw k) (h' : y.natAbs < pw k') : (x - y).natAbs < pw (k + k' + 1) := by
  have := lt_sum h (y := -y) (by simpa using h')
  rwa [← Int.sub_eq_add_neg] at this
theorem lt_mul {x y : Int} {k k' : Nat} (h : x.natAbs < pw k) (h' : y.natAbs < pw k') : (x * y).natAbs < pw (k + k' + 1) := by
  rw [Int.natAbs_mul]
  have h1 : x.natAbs * y.natAbs < pw k * pw k' := Nat.mul_lt_mul_of_le_of_lt (Nat.le_of_lt h) h' (by omega)
  have h2 : pw k * pw k' = pw (k + k') := by unfold pw; rw [Nat.pow_add]
  have h3 : pw (k + k') ≤ pw (k + k' + 1) := pw_le (by omega)
  omega
/-- A parameter's box. -/
structure Bx where
  g : Nat
  x : Value
  y : Value
structure Env (t : TypeId) (W0 w : World) (bs : List Bx) (L : List En) : Prop where
  ops : ∀ e ∈ L, Opd w e
  box : ∀ b ∈ bs, Two w b.g t b.x b.y
  below : Below W0.heap.size W0 w
variable {t : TypeId} {W0 w w' : World} {bs : List Bx} {L : List En}
theorem Env.next (h : Env t W0 w bs L) (hb : Below w.heap.size w w') : Env t W0 w' bs L :=
  ⟨fun e he => (h.ops e he).next hb, fun b hb' => (h.box b hb').next hb, below_next h.below hb (Nat.le_refl _)⟩
theorem Env.drew (h : Env t W0 w bs L) : Env t W0 w.drew bs L := h.next (Below.refl _ w).drew
theorem Env.cons (h : Env t W0 w bs L) {e : En} (he : Opd w e) : Env t W0 w bs (e :: L) :=
  ⟨fun e' h' => by
    rcases List.mem_cons.1 h' with rfl | h'
    · exact he
    · exact h.ops e' h', h.box, h.below⟩
theorem Env.tail {e : En} (h : Env t W0 w bs (e :: L)) : Env t W0 w bs L := ⟨fun e' h' => h.ops e' (.tail _ h'), h.box, h.below⟩
theorem Env.nil_ (h : Env t W0 w bs L) : Env t W0 w bs (⟨.agg #[.bool false, .slice none 0 0], 0, 0, true⟩ :: L) :=
  h.cons ⟨false, none, 0, 0, [], 0, rfl, Rd.nil_ _ _ _, Nat.zero_le _, rfl, Nat.le_refl _, Nat.le_refl _, rfl, rfl⟩
theorem Env.cells3 {g1 g2 g3 : Nat} {x1 y1 x2 y2 x3 y3 : Value} (h : Env t W0 w [⟨g1, x1, y1⟩, ⟨g2, x2, y2⟩, ⟨g3, x3, y3⟩] L) :
    w.cell? ⟨g1, 0, none⟩ = some x1 ∧ w.cell? ⟨g1, 1, none⟩ = some y1 ∧ w.cell? ⟨g2, 0, none⟩ = some x2 ∧ w.cell? ⟨g2, 1, none⟩ = some y2 ∧ w.cell? ⟨g3, 0, none⟩ = some x3 ∧ w.cell? ⟨g3, 1, none⟩ = some y3 := by
  obtain ⟨a1, a2, _, _⟩ := (h.box _ (.head _)).facts
  obtain ⟨b1, b2, _, _⟩ := (h.box _ (.tail _ (.head _))).facts
  obtain ⟨c1, c2, _, _⟩ := (h.box _ (.tail _ (.tail _ (.head _)))).facts
  exact ⟨a1, a2, b1, b2, c1, c2⟩
theorem Env.cells2 {g1 g2 : Nat} {x1 y1 x2 y2 : Value} (h : Env t W0 w [⟨g1, x1, y1⟩, ⟨g2, x2, y2⟩] L) :
    w.cell? ⟨g1, 0, none⟩ = some x1 ∧ w.cell? ⟨g1, 1, none⟩ = some y1 ∧ w.cell? ⟨g2, 0, none⟩ = some x2 ∧ w.cell? ⟨g2, 1, none⟩ = some y2 := by
  obtain ⟨a1, a2, _, _⟩ := (h.box _ (.head _)).facts
  obtain ⟨b1, b2, _, _⟩ := (h.box _ (.tail _ (.head _))).facts
  exact ⟨a1, a2, b1, b2⟩
theorem Opd.new {w W : World} {s : Bool} {A : Option Addr} {n c : Nat} {l : List Nat} (r : Rd w w.heap.size A l) (hb : Below w.heap.size w W) (h : l.length = n) (hn : n ≤ 30) (hc : n ≤ c) : Opd W ⟨.agg #[.bool s, .slice A n c], zv s l, 30, vB s l⟩ :=
  ⟨s, A, n, c, l, _, rfl, r.below hb, hb.size, h, hn, hc, rfl, rfl⟩
end Lw
namespace Go.Proofs.YtbihljnjaondcaaGreatDoor
open Go Go.RowKit Lw
section
variable {t : TypeId} {W0 w : World} {bs : List Bx} {L : List En} {v v' : Value} {x y : Int} {k k' : Nat} {b b' : Bool}
theorem zout_env {z : Int} {K : Nat} {e : Ending} {w' : World} (HE : Env t W0 w bs L) (h : ZOut w z e w') (hz : z.natAbs < pw K) : ∃ u, e = .returned u ∧ Env t W0 w' bs (⟨u, z, K, true⟩ :: L) := by
  obtain ⟨A, c, rfl, hc, hr, hb⟩ := h
  exact ⟨_, rfl, (HE.next hb).cons ⟨sg z, A, _, c, mg z, _, rfl, hr, Nat.le_refl _, rfl, len_z hz, hc, zv_own z, vB_own z⟩⟩
theorem add_env (HE : Env t W0 w bs L) (h : ⟨v, x, k, b⟩ ∈ L) (h' : ⟨v', y, k', b'⟩ ∈ L) (hk : k + k' ≤ 100000) :
    Calls Tryz.prog 192 #[v, v'] w fun e w' => ∃ u, e = .returned u ∧ Env t W0 w' bs (⟨u, x + y, k + k' + 1, true⟩ :: L) := by
  have H1 := HE.ops _ h
  have H2 := HE.ops _ h'
  have hz := lt_sum H1.lt H2.lt
  obtain ⟨s, A, n, c, ns, B, e1, h2, h3, h4, h5, h6, e7, h8⟩ := H1
  obtain ⟨s', A', n', c', ns', B', e1', h2', h3', h4', h5', h6', e7', h8'⟩ := H2
  dsimp only at e1 e7 e1' e7' h5 h5' hz
  subst e1 e1' e7 e7'
  exact (adds_any s s' A A' ns ns' n n' c c' B B' w h2 h2' h3 h3' h4 h4' (by omega) (by omega) h6 h6').mono fun e w' hh => zout_env HE hh hz
theorem mul_env (HE : Env t W0 w bs L) (h : ⟨v, x, k, b⟩ ∈ L) (h' : ⟨v', y, k', b'⟩ ∈ L) (hk : k + k' ≤ 100000) :
    Calls Tryz.prog 91 #[v, v'] w fun e w' => ∃ u, e = .returned u ∧ Env t W0 w' bs (⟨u, x * y, k + k' + 1, true⟩ :: L) := by
  have H1 := HE.ops _ h
  have H2 := HE.ops _ h'
  have hz := lt_mul H1.lt H2.lt
  obtain ⟨s, A, n, c, ns, B, e1, h2, h3, h4, h5, h6, e7, h8⟩ := H1
  obtain ⟨s', A', n', c', ns', B', e1', h2', h3', h4', h5', h6', e7', h8'⟩ := H2
  dsimp only at e1 e7 e1' e7' h5 h5' hz
  subst e1 e1' e7 e7'
  exact (muls_any s s' A A' ns ns' n n' c c' B B' w h2 h2' h3 h3' h4 h4' (by omega) (by omega) h6 h6').mono fun e w' hh => zout_env HE hh hz
theorem cmp_env (HE : Env t W0 w bs L) (h : ⟨v, x, k, b⟩ ∈ L) (h' : ⟨v', y, k', b'⟩ ∈ L) (hk : k + k' ≤ 100000) :
    Calls Tryz.prog 112 #[v, v'] w fun e w' => e = .returned (.int .i64 (cmpI x y)) ∧ Env t W0 w' bs L := by
  obtain ⟨s, A, n, c, ns, B, e1, h2, h3, h4, h5, h6, e7, h8⟩ := HE.ops _ h
  obtain ⟨s', A', n', c', ns', B', e1', h2', h3', h4', h5', h6', e7', h8'⟩ := HE.ops _ h'
  dsimp only at e1 e7 e1' e7' h5 h5'
  subst e1 e1' e7 e7'
  exact (cmps_any s s' A A' ns ns' n n' c c' B B' w h2 h2' h3 h3' h4 h4' (by omega) (by omega) h6 h6').mono fun e w' hh => ⟨hh.1, HE.next hh.2⟩
theorem same_env (HE : Env t W0 w bs L) (h : ⟨v, x, k, true⟩ ∈ L) (h' : ⟨v', y, k', true⟩ ∈ L) (hk : k + k' ≤ 100000) (hxy : x = y) :
    Calls Tryz.prog 22 #[v, v'] w fun e w' => e = .returned (.bool true) ∧ Env t W0 w' bs L := by
  subst hxy
  obtain ⟨s, A, n, c, ns, B, e1, h2, h3, h4, h5, h6, e7, h8⟩ := HE.ops _ h
  obtain ⟨s', A', n', c', ns', B', e1', h2', h3', h4', h5', h6', e7', h8'⟩ := HE.ops _ h'
  dsimp only at e1 e7 e1' e7' h5 h5' h8 h8'
  obtain ⟨a1, a2, _⟩ := valid_form (z := x) h8 (by rw [← e7]; unfold zv; rw [if_pos h8]) h2.wds
  obtain ⟨b1, b2, _⟩ := valid_form (z := x) h8' (by rw [← e7']; unfold zv; rw [if_pos h8']) h2'.wds
  subst e1 e1'
  rw [← a1, ← b1]
  rw [← a2] at h2 h4
  rw [← b2] at h2' h4'
  have : n = n' := by rw [← h4, ← h4']
  subst this
  exact (same_any (sg x) A A' (mg x) n c c' B B' w h2 h2' h3 h3' h4 (by omega)).mono fun e w' hh => ⟨hh.1, HE.next hh.2⟩
end
end Go.Proofs.YtbihljnjaondcaaGreatDoor
/-! More of what the laws' walks keep: one parameter, two parameters; Int, Of, Bits and the reference's answers. -/
namespace Lw
open Go Go.RowKit
theorem lt_int {z : Int} (h1 : -9223372036854775808 ≤ z) (h2 : z ≤ 9223372036854775807) : z.natAbs < pw 2 := by
  have : pw 2 = 18446744073709551616 := rfl
  omega
end Lw
namespace Go.Proofs.YtbihljnjaondcaaGreatDoor
open Go Go.RowKit Lw
section
variable {t : TypeId} {W0 w : World} {bs : List Bx} {L : List En} {v v' : Value} {x y : Int} {k k' : Nat} {b b' : Bool}
theorem refsign_env (HE : Env t W0 w bs L) (h : ⟨v, x, k, b⟩ ∈ L) (hk : k ≤ 100000) :
    Calls Tryz.prog 115 #[v] w fun e w' => e = .returned (.int .i64 (signI x)) ∧ Env t W0 w' bs L := by
  obtain ⟨s, A, n, c, ns, B, e1, h2, h3, h4, h5, h6, e7, h8⟩ := HE.ops _ h
  dsimp only at e1 e7 h5
  subst e1 e7
  exact (refsign_any s A ns n c B w h2 h3 h4 (by omega) h6).mono fun e w' hh => ⟨hh.1, HE.next hh.2⟩
theorem bits_env (HE : Env t W0 w bs L) (h : ⟨v, x, k, b⟩ ∈ L) (hk : k ≤ 100000) :
    Calls Tryz.prog 105 #[v] w fun e w' => e = .returned (.int .i64 (nbits (mg x))) ∧ Env t W0 w' bs L := by
  obtain ⟨s, A, n, c, ns, B, e1, h2, h3, h4, h5, h6, e7, h8⟩ := HE.ops _ h
  dsimp only at e1 e7 h5
  subst e1 e7
  exact (bits_any s A ns n c B w h2 h3 h4 (by omega) h6).mono fun e w' hh => ⟨hh.1, HE.next hh.2⟩
theorem of_env {z : Int} (HE : Env t W0 w bs L) (h1 : -9223372036854775808 ≤ z) (h2 : z ≤ 9223372036854775807) :
    Calls Tryz.prog 111 #[.int .i64 z] w fun e w' => ∃ u, e = .returned u ∧ Env t W0 w' bs (⟨u, z, 2, true⟩ :: L) :=
  (of_any z w h1 h2).mono fun _ _ hh => zout_env HE hh (lt_int h1 h2)
theorem refof_env {z : Int} (HE : Env t W0 w bs L) (h1 : -9223372036854775808 ≤ z) (h2 : z ≤ 9223372036854775807) :
    Calls Tryz.prog 143 #[.int .i64 z] w fun e w' => ∃ u, e = .returned u ∧ Env t W0 w' bs (⟨u, z, 2, true⟩ :: L) :=
  (refof_any z w h1 h2).mono fun _ _ hh => zout_env HE hh (lt_int h1 h2)
end
end Go.Proofs.YtbihljnjaondcaaGreatDoor
/-! A new box beside the integers at hand. -/
namespace Lw
open Go Go.RowKit
theorem Env.addbox {t : TypeId} {W0 w : World} {bs : List Bx} {L : List En} (h : Env t W0 w bs L) (x y : Value) : Env t W0 (w.alloc (.cells #[x, y] t)) (⟨w.heap.size, x, y⟩ :: bs) L :=
  have h2 := h.next ((Below.refl _ w).alloc (Nat.le_refl _) (.cells #[x, y] t))
  ⟨h2.ops, fun b hb => by
    rcases List.mem_cons.1 hb with rfl | hb
    · exact Two.new w t x y
    · exact h2.box b hb, h2.below⟩
theorem Opd.put {t : TypeId} {w : World} {g n c : Nat} {s : Bool} {X : Option Addr} {e : En} (h : Opd w e) (h2 : Two w g t (.bool s) (.slice X n c)) (s' : Bool) (v : Value) :
    Opd ((w.setCell ⟨g, 0, none⟩ (.bool s')).setCell ⟨g, 1, none⟩ v) e := by
  obtain ⟨a, A, m, d, ns, B, e1, h3, h4, h5, h6, h7, e7, h8⟩ := h
  exact ⟨a, A, m, d, ns, B, e1, h3.putTwo h2 s' v, by simpa using h4, h5, h6, h7, e7, h8⟩
theorem Env.put {t : TypeId} {W0 w : World} {bs : List Bx} {L : List En} {g n c : Nat} {s : Bool} {X : Option Addr} (h : Env t W0 w (⟨g, .bool s, .slice X n c⟩ :: bs) L) (hg : W0.heap.size ≤ g) (hd : ∀ b ∈ bs, b.g ≠ g) (s' : Bool) (v : Value) :
    Env t W0 ((w.setCell ⟨g, 0, none⟩ (.bool s')).setCell ⟨g, 1, none⟩ v) (⟨g, .bool s', v⟩ :: bs) L :=
  ⟨fun e he => (h.ops e he).put (h.box _ (.head _)) s' v, fun b hb => by
    rcases List.mem_cons.1 hb with rfl | hb
    · exact (h.box _ (.head _)).put _ _
    · exact ((h.box b (.tail _ hb)).far (p := ⟨g, 0, none⟩) (hd b hb) _).far (p := ⟨g, 1, none⟩) (hd b hb) _,
    (h.below.setCell (p := ⟨g, 0, none⟩) hg _).setCell (p := ⟨g, 1, none⟩) hg _⟩
theorem Env.swap {t : TypeId} {W0 w : World} {b1 b2 : Bx} {bs : List Bx} {L : List En} (h : Env t W0 w (b1 :: b2 :: bs) L) : Env t W0 w (b2 :: b1 :: bs) L :=
  ⟨h.ops, fun b hb => h.box b (by
    rcases List.mem_cons.1 hb with rfl | hb
    · exact .tail _ (.head _)
    · rcases List.mem_cons.1 hb with rfl | hb
      · exact .head _
      · exact .tail _ (.tail _ hb)), h.below⟩
theorem Env.unbox {t : TypeId} {W0 w : World} {b : Bx} {bs : List Bx} {L : List En} (h : Env t W0 w (b :: bs) L) : Env t W0 w bs L := ⟨h.ops, fun b' hb => h.box b' (.tail _ hb), h.below⟩
theorem Env.top {t : TypeId} {W0 w : World} {g : Nat} {x y : Value} {bs : List Bx} {L : List En} (h : Env t W0 w (⟨g, x, y⟩ :: bs) L) :
    w.cell? ⟨g, 0, none⟩ = some x ∧ w.cell? ⟨g, 1, none⟩ = some y ∧ w.frozen? ⟨g, 0, none⟩ = false ∧ w.frozen? ⟨g, 1, none⟩ = false := (h.box _ (.head _)).facts
end Lw
/-! Walks of linkworkbase: Num, Is. -/
namespace Go.Proofs.YtbihljnjaondcaaGreatDoor
open Go Go.RowKit Lw
theorem assert_errno (z : Int) (w : World) : Sem.run Tryz.prog (Instr.typeAssert (.iface 74 (.int .i64 z)) 28 74 true) w = .ok (.tuple #[.int .i64 z, .bool true]) w := by kernel_rfl
set_option maxRecDepth 100000 in
set_option maxHeartbeats 800000 in
theorem numnil_any (w : World) : Calls Tryz.prog 20 #[.nilIface] w fun e w' => e = .returned (.int .i64 0) ∧ w = w' := by
  go_enter Tryz.func20, Tryz.ntmps20
  go_wp2
  go_ret
  exact ⟨rfl, rfl⟩
set_option maxRecDepth 100000 in
set_option maxHeartbeats 800000 in
theorem numerr_any (z : Int) (w : World) : Calls Tryz.prog 20 #[.iface 74 (.int .i64 z)] w fun e w' => e = .returned (.int .i64 z) ∧ w = w' := by
  go_enter Tryz.func20, Tryz.ntmps20
  have ha := assert_errno z w
  go_wp2
  go_ret
  exact ⟨rfl, rfl⟩
end Go.Proofs.YtbihljnjaondcaaGreatDoor
