/- What the laws' walks keep: the integers at hand, the boxes of the parameters, and the world at the start. -/
import Derived.Test.YtobffffcihlkbaaDoorShort
import Derived.Test.YtobffffcihlkbaaDoorSum
import Derived.Test.YtobffffcihlkbaaDoorMuls
import Derived.Test.YtobffffcihlkbaaDoorCmps
namespace Lw
open Go Go.RowKit
/-- An integer at hand: its value in memory, what it stands for, a bound of its words, whether it is valid. -/
structure En where
  v : Value
  z : Int
  k : Nat
  b : Bool
def Opd (w : World) (e : En) : Prop := ∃ (s : Bool) (A : Option Addr) (n c : Nat) (ns : List Nat) (B : Nat), e.v = .agg #[.bool s, .slice A n c] ∧ Rd w B A ns ∧ B ≤ w.heap.size ∧ ns.length = n ∧ n ≤ e.k ∧ n ≤ c ∧ zv s ns = e.z ∧ vB s ns = e.b
theorem Opd.next {w w' : World} {e : En} (h : Opd w e) (hb : Below w.heap.size w w') : Opd w' e := by
  obtain ⟨s, A, n, c, ns, B, h1, h2, h3, h4⟩ := h
  exact ⟨s, A, n, c, ns, B, h1, h2.next hb h3, Nat.le_trans h3 hb.size, h4⟩
theorem Opd.lt {w : World} {e : En} (h : Opd w e) : e.z.natAbs < pw e.k := by
  obtain ⟨s, A, n, c, ns, B, h1, h2, h3, h4, h5, h6, h7, h8⟩ := h
  rw [← h7]
  exact Nat.lt_of_le_of_lt (zv_natAbs_le s ns) (Nat.lt_of_lt_of_le (val_lt h2.wds) (pw_le (by omega)))
theorem lt_sum {x y : Int} {k k' : Nat} (h : x.natAbs < pw k) (h' : y.natAbs < pw k') : (x + y).natAbs < pw (k + k' + 1) := by
  have h1 : pw k ≤ pw (k + k') := pw_le (by omega)
  have h2 : pw k' ≤ pw (k + k') := pw_le (by omega)
  have h3 : pw (k + k' + 1) = pw (k + k') * 4294967296 := by unfold pw; rw [Nat.pow_succ]
  omega
theorem lt_sub {x y : Int} {k k' : Nat} (h : x.natAbs < pw k) (h' : y.natAbs < pw k') : (x - y).natAbs < pw (k + k' + 1) := by
  have := lt_sum h (y := -y) (by simpa using h')
  rwa [← Int.sub_eq_add_neg] at this
theorem lt_mul {x y : Int} {k k' : Nat} (h : x.natAbs < pw k) (h' : y.natAbs < pw k') : (x * y).natAbs < pw (k + k' + 1) := by
  rw [Int.natAbs_mul]
  have h1 : x.natAbs * y.natAbs < pw k * pw k' := Nat.mul_lt_mul_of_le_of_lt (Nat.le_of_lt h) h' (by omega)
  have h2 : pw k * pw k' = pw (k + k') := by unfold pw; rw [Nat.pow_add]
  have h3 : pw (k + k') ≤ pw (k + k' + 1) := pw_le (by omega)
  omega
theorem lt_more {x : Int} {k k' : Nat} (h : x.natAbs < pw k) (hk : k ≤ k') : x.natAbs < pw k' := Nat.lt_of_lt_of_le h (pw_le hk)
/-- A parameter's box. -/
structure Bx where
  g : Nat
  x : Value
  y : Value
structure Env (t : TypeId) (W0 w : World) (bs : List Bx) (L : List En) : Prop where
  ops : ∀ e ∈ L, Opd w e
  box : ∀ b ∈ bs, Two w b.g t b.x b.y
  below : Below W0.heap.size W0 w
variable {t : TypeId} {W0 w w' : World} {bs : List Bx} {L : List En}
theorem Env.next (h : Env t W0 w bs L) (hb : Below w.heap.size w w') : Env t W0 w' bs L :=
  ⟨fun e he => (h.ops e he).next hb, fun b hb' => (h.box b hb').next hb, below_next h.below hb (Nat.le_refl _)⟩
theorem Env.drew (h : Env t W0 w bs L) : Env t W0 w.drew bs L := h.next (Below.refl _ w).drew
theorem Env.cons (h : Env t W0 w bs L) {e : En} (he : Opd w e) : Env t W0 w bs (e :: L) :=
  ⟨fun e' h' => by
    rcases List.mem_cons.1 h' with rfl | h'
    · exact he
    · exact h.ops e' h', h.box, h.below⟩
theorem Env.tail {e : En} (h : Env t W0 w bs (e :: L)) : Env t W0 w bs L := ⟨fun e' h' => h.ops e' (.tail _ h'), h.box, h.below⟩
theorem Env.nil_ (h : Env t W0 w bs L) : Env t W0 w bs (⟨.agg #[.bool false, .slice none 0 0], 0, 0, true⟩ :: L) :=
  h.cons ⟨false, none, 0, 0, [], 0, rfl, Rd.nil_ _ _ _, Nat.zero_le _, rfl, Nat.le_refl _, Nat.le_refl _, rfl, rfl⟩
theorem Env.cells3 {g1 g2 g3 : Nat} {x1 y1 x2 y2 x3 y3 : Value} (h : Env t W0 w [⟨g1, x1, y1⟩, ⟨g2, x2, y2⟩, ⟨g3, x3, y3⟩] L) :
    w.cell? ⟨g1, 0, none⟩ = some x1 ∧ w.cell? ⟨g1, 1, none⟩ = some y1 ∧ w.cell? ⟨g2, 0, none⟩ = some x2 ∧ w.cell? ⟨g2, 1, none⟩ = some y2 ∧ w.cell? ⟨g3, 0, none⟩ = some x3 ∧ w.cell? ⟨g3, 1, none⟩ = some y3 := by
  obtain ⟨a1, a2, _, _⟩ := (h.box _ (.head _)).facts
  obtain ⟨b1, b2, _, _⟩ := (h.box _ (.tail _ (.head _))).facts
  obtain ⟨c1, c2, _, _⟩ := (h.box _ (.tail _ (.tail _ (.head _)))).facts
  exact ⟨a1, a2, b1, b2, c1, c2⟩
theorem Env.cells2 {g1 g2 : Nat} {x1 y1 x2 y2 : Value} (h : Env t W0 w [⟨g1, x1, y1⟩, ⟨g2, x2, y2⟩] L) :
    w.cell? ⟨g1, 0, none⟩ = some x1 ∧ w.cell? ⟨g1, 1, none⟩ = some y1 ∧ w.cell? ⟨g2, 0, none⟩ = some x2 ∧ w.cell? ⟨g2, 1, none⟩ = some y2 := by
  obtain ⟨a1, a2, _, _⟩ := (h.box _ (.head _)).facts
  obtain ⟨b1, b2, _, _⟩ := (h.box _ (.tail _ (.head _))).facts
  exact ⟨a1, a2, b1, b2⟩
theorem Env.cells1 {g1 : Nat} {x1 y1 : Value} (h : Env t W0 w [⟨g1, x1, y1⟩] L) : w.cell? ⟨g1, 0, none⟩ = some x1 ∧ w.cell? ⟨g1, 1, none⟩ = some y1 := by
  obtain ⟨a1, a2, _, _⟩ := (h.box _ (.head _)).facts
  exact ⟨a1, a2⟩
theorem Opd.new {w W : World} {s : Bool} {A : Option Addr} {n c : Nat} {l : List Nat} (r : Rd w w.heap.size A l) (hb : Below w.heap.size w W) (h : l.length = n) (hn : n ≤ 30) (hc : n ≤ c) : Opd W ⟨.agg #[.bool s, .slice A n c], zv s l, 30, vB s l⟩ :=
  ⟨s, A, n, c, l, _, rfl, r.below hb, hb.size, h, hn, hc, rfl, rfl⟩
theorem few3 {s1 s2 s3 : Bool} {A1 A2 A3 : Option Addr} {n1 n2 n3 c1 c2 c3 : Nat} (h : few [⟨s1, A1, n1, c1⟩, ⟨s2, A2, n2, c2⟩, ⟨s3, A3, n3, c3⟩] = true) : n1 ≤ 30 ∧ n2 ≤ 30 ∧ n3 ≤ 30 := by
  simpa [few] using h
theorem few2 {s1 s2 : Bool} {A1 A2 : Option Addr} {n1 n2 c1 c2 : Nat} (h : few [⟨s1, A1, n1, c1⟩, ⟨s2, A2, n2, c2⟩] = true) : n1 ≤ 30 ∧ n2 ≤ 30 := by
  simpa [few] using h
theorem few1 {s1 : Bool} {A1 : Option Addr} {n1 c1 : Nat} (h : few [⟨s1, A1, n1, c1⟩] = true) : n1 ≤ 30 := by
  simpa [few] using h
theorem start3 {w : World} {s1 s2 s3 : Bool} {A1 A2 A3 : Option Addr} {n1 n2 n3 c1 c2 c3 : Nat} (l1 l2 l3 : List Nat) (t : TypeId) (o : Obj) :
    (Below w.heap.size w ((((w.alloc (.cells #[.bool s1, .slice A1 n1 c1] t)).alloc (.cells #[.bool s2, .slice A2 n2 c2] t)).alloc (.cells #[.bool s3, .slice A3 n3 c3] t)).alloc o)) ∧
    (Rd w w.heap.size A1 l1 → Rd w w.heap.size A2 l2 → Rd w w.heap.size A3 l3 → l1.length = n1 → l2.length = n2 → l3.length = n3 → n1 ≤ c1 → n2 ≤ c2 → n3 ≤ c3 → n1 ≤ 30 → n2 ≤ 30 → n3 ≤ 30 →
    Env t w ((((w.alloc (.cells #[.bool s1, .slice A1 n1 c1] t)).alloc (.cells #[.bool s2, .slice A2 n2 c2] t)).alloc (.cells #[.bool s3, .slice A3 n3 c3] t)).alloc o)
      [⟨w.heap.size, .bool s1, .slice A1 n1 c1⟩, ⟨w.heap.size + 1, .bool s2, .slice A2 n2 c2⟩, ⟨w.heap.size + 1 + 1, .bool s3, .slice A3 n3 c3⟩]
      [⟨.agg #[.bool s1, .slice A1 n1 c1], zv s1 l1, 30, vB s1 l1⟩, ⟨.agg #[.bool s2, .slice A2 n2 c2], zv s2 l2, 30, vB s2 l2⟩, ⟨.agg #[.bool s3, .slice A3 n3 c3], zv s3 l3, 30, vB s3 l3⟩, ⟨.agg #[.bool false, .slice none 0 0], 0, 0, true⟩]) := by
  have hb := (((((Below.refl w.heap.size w).alloc (Nat.le_refl _) (.cells #[.bool s1, .slice A1 n1 c1] t)).alloc (by simp) (.cells #[.bool s2, .slice A2 n2 c2] t)).alloc (by simp; omega) (.cells #[.bool s3, .slice A3 n3 c3] t)).alloc (by simp; omega) o)
  refine ⟨hb, fun r1 r2 r3 e1 e2 e3 k1 k2 k3 h1 h2 h3 => ⟨fun e he => ?_, fun b hb' => ?_, hb⟩⟩
  · simp only [List.mem_cons, List.not_mem_nil, or_false] at he
    rcases he with rfl | rfl | rfl | rfl
    · exact Opd.new r1 hb e1 h1 k1
    · exact Opd.new r2 hb e2 h2 k2
    · exact Opd.new r3 hb e3 h3 k3
    · exact ⟨false, none, 0, 0, [], 0, rfl, Rd.nil_ _ _ _, Nat.zero_le _, rfl, Nat.le_refl _, Nat.le_refl _, rfl, rfl⟩
  · simp only [List.mem_cons, List.not_mem_nil, or_false] at hb'
    rcases hb' with rfl | rfl | rfl
    · exact (((Two.new w t _ _).alloc _).alloc _).alloc _
    · have := ((Two.new (w.alloc (.cells #[.bool s1, .slice A1 n1 c1] t)) t (.bool s2) (.slice A2 n2 c2)).alloc (.cells #[.bool s3, .slice A3 n3 c3] t)).alloc o
      rwa [World.size_alloc] at this
    · have := (Two.new ((w.alloc (.cells #[.bool s1, .slice A1 n1 c1] t)).alloc (.cells #[.bool s2, .slice A2 n2 c2] t)) t (.bool s3) (.slice A3 n3 c3)).alloc o
      rwa [World.size_alloc, World.size_alloc] at this
end Lw
namespace Go.Proofs.YtobffffcihlkbaaDoor
open Go Go.RowKit Lw
section
variable {t : TypeId} {W0 w : World} {bs : List Bx} {L : List En} {v v' : Value} {x y : Int} {k k' : Nat} {b b' : Bool}
theorem zout_env {z : Int} {K : Nat} {e : Ending} {w' : World} (HE : Env t W0 w bs L) (h : ZOut w z e w') (hz : z.natAbs < pw K) : ∃ u, e = .returned u ∧ Env t W0 w' bs (⟨u, z, K, true⟩ :: L) := by
  obtain ⟨A, c, rfl, hc, hr, hb⟩ := h
  exact ⟨_, rfl, (HE.next hb).cons ⟨sg z, A, _, c, mg z, _, rfl, hr, Nat.le_refl _, rfl, len_z hz, hc, zv_own z, vB_own z⟩⟩
theorem valid_env (HE : Env t W0 w bs L) (h : ⟨v, x, k, b⟩ ∈ L) (hk : k ≤ 100000) :
    Calls Tryd.prog 42 #[v] w fun e w' => e = .returned (.bool b) ∧ Env t W0 w' bs L := by
  obtain ⟨s, A, n, c, ns, B, e1, h2, h3, h4, h5, h6, e7, h8⟩ := HE.ops _ h
  dsimp only at e1 e7 h5 h8
  subst e1 e7 h8
  exact (valid_any s A ns n c B w h2 h3 h4 (by omega)).mono fun e w' hh => ⟨hh.1, HE.next hh.2⟩
theorem same_env (HE : Env t W0 w bs L) (h : ⟨v, x, k, true⟩ ∈ L) (h' : ⟨v', y, k', true⟩ ∈ L) (hk : k + k' ≤ 100000) (hxy : x = y) :
    Calls Tryd.prog 12 #[v, v'] w fun e w' => e = .returned (.bool true) ∧ Env t W0 w' bs L := by
  subst hxy
  obtain ⟨s, A, n, c, ns, B, e1, h2, h3, h4, h5, h6, e7, h8⟩ := HE.ops _ h
  obtain ⟨s', A', n', c', ns', B', e1', h2', h3', h4', h5', h6', e7', h8'⟩ := HE.ops _ h'
  dsimp only at e1 e7 e1' e7' h5 h5' h8 h8'
  obtain ⟨a1, a2, _⟩ := valid_form (z := x) h8 (by rw [← e7]; unfold zv; rw [if_pos h8]) h2.wds
  obtain ⟨b1, b2, _⟩ := valid_form (z := x) h8' (by rw [← e7']; unfold zv; rw [if_pos h8']) h2'.wds
  subst e1 e1'
  rw [← a1, ← b1]
  rw [← a2] at h2 h4
  rw [← b2] at h2' h4'
  have : n = n' := by rw [← h4, ← h4']
  subst this
  exact (same_any (sg x) A A' (mg x) n c c' B B' w h2 h2' h3 h3' h4 (by omega)).mono fun e w' hh => ⟨hh.1, HE.next hh.2⟩
end
end Go.Proofs.YtobffffcihlkbaaDoor
