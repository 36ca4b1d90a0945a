/- More of what the laws' walks keep: one parameter, two parameters; Int, Of, Bits and the reference's answers. -/
import Derived.Test.YtobffffcihlkbaaDoorEnv
import Derived.Test.YtobffffcihlkbaaDoorSign
import Derived.Test.YtobffffcihlkbaaDoorRefi
namespace Lw
open Go Go.RowKit
theorem start1 {w : World} {s1 : Bool} {A1 : Option Addr} {n1 c1 : Nat} (l1 : List Nat) (t : TypeId) (o : Obj) :
    (Below w.heap.size w ((w.alloc (.cells #[.bool s1, .slice A1 n1 c1] t)).alloc o)) ∧
    (Rd w w.heap.size A1 l1 → l1.length = n1 → n1 ≤ c1 → n1 ≤ 30 →
    Env t w ((w.alloc (.cells #[.bool s1, .slice A1 n1 c1] t)).alloc o) [⟨w.heap.size, .bool s1, .slice A1 n1 c1⟩]
      [⟨.agg #[.bool s1, .slice A1 n1 c1], zv s1 l1, 30, vB s1 l1⟩, ⟨.agg #[.bool false, .slice none 0 0], 0, 0, true⟩]) := by
  have hb := (((Below.refl w.heap.size w).alloc (Nat.le_refl _) (.cells #[.bool s1, .slice A1 n1 c1] t)).alloc (by simp) o)
  refine ⟨hb, fun r1 e1 k1 h1 => ⟨fun e he => ?_, fun b hb' => ?_, hb⟩⟩
  · simp only [List.mem_cons, List.not_mem_nil, or_false] at he
    rcases he with rfl | rfl
    · exact Opd.new r1 hb e1 h1 k1
    · exact ⟨false, none, 0, 0, [], 0, rfl, Rd.nil_ _ _ _, Nat.zero_le _, rfl, Nat.le_refl _, Nat.le_refl _, rfl, rfl⟩
  · simp only [List.mem_cons, List.not_mem_nil, or_false] at hb'
    rcases hb' with rfl
    exact (Two.new w t _ _).alloc _
theorem start2 {w : World} {s1 s2 : Bool} {A1 A2 : Option Addr} {n1 n2 c1 c2 : Nat} (l1 l2 : List Nat) (t : TypeId) (o : Obj) :
    (Below w.heap.size w (((w.alloc (.cells #[.bool s1, .slice A1 n1 c1] t)).alloc (.cells #[.bool s2, .slice A2 n2 c2] t)).alloc o)) ∧
    (Rd w w.heap.size A1 l1 → Rd w w.heap.size A2 l2 → l1.length = n1 → l2.length = n2 → n1 ≤ c1 → n2 ≤ c2 → n1 ≤ 30 → n2 ≤ 30 →
    Env t w (((w.alloc (.cells #[.bool s1, .slice A1 n1 c1] t)).alloc (.cells #[.bool s2, .slice A2 n2 c2] t)).alloc o)
      [⟨w.heap.size, .bool s1, .slice A1 n1 c1⟩, ⟨w.heap.size + 1, .bool s2, .slice A2 n2 c2⟩]
      [⟨.agg #[.bool s1, .slice A1 n1 c1], zv s1 l1, 30, vB s1 l1⟩, ⟨.agg #[.bool s2, .slice A2 n2 c2], zv s2 l2, 30, vB s2 l2⟩, ⟨.agg #[.bool false, .slice none 0 0], 0, 0, true⟩]) := by
  have hb := ((((Below.refl w.heap.size w).alloc (Nat.le_refl _) (.cells #[.bool s1, .slice A1 n1 c1] t)).alloc (by simp) (.cells #[.bool s2, .slice A2 n2 c2] t)).alloc (by simp; omega) o)
  refine ⟨hb, fun r1 r2 e1 e2 k1 k2 h1 h2 => ⟨fun e he => ?_, fun b hb' => ?_, hb⟩⟩
  · simp only [List.mem_cons, List.not_mem_nil, or_false] at he
    rcases he with rfl | rfl | rfl
    · exact Opd.new r1 hb e1 h1 k1
    · exact Opd.new r2 hb e2 h2 k2
    · exact ⟨false, none, 0, 0, [], 0, rfl, Rd.nil_ _ _ _, Nat.zero_le _, rfl, Nat.le_refl _, Nat.le_refl _, rfl, rfl⟩
  · simp only [List.mem_cons, List.not_mem_nil, or_false] at hb'
    rcases hb' with rfl | rfl
    · exact ((Two.new w t _ _).alloc _).alloc _
    · have := (Two.new (w.alloc (.cells #[.bool s1, .slice A1 n1 c1] t)) t (.bool s2) (.slice A2 n2 c2)).alloc o
      rwa [World.size_alloc] at this
theorem lt_int {z : Int} (h1 : -9223372036854775808 ≤ z) (h2 : z ≤ 9223372036854775807) : z.natAbs < pw 2 := by
  have : pw 2 = 18446744073709551616 := rfl
  omega
end Lw
namespace Go.Proofs.YtobffffcihlkbaaDoor
open Go Go.RowKit Lw
section
variable {t : TypeId} {W0 w : World} {bs : List Bx} {L : List En} {v v' : Value} {x y : Int} {k k' : Nat} {b b' : Bool}
theorem refsign_env (HE : Env t W0 w bs L) (h : ⟨v, x, k, b⟩ ∈ L) (hk : k ≤ 100000) :
    Calls Tryd.prog 26 #[v] w fun e w' => e = .returned (.int .i64 (signI x)) ∧ Env t W0 w' bs L := by
  obtain ⟨s, A, n, c, ns, B, e1, h2, h3, h4, h5, h6, e7, h8⟩ := HE.ops _ h
  dsimp only at e1 e7 h5
  subst e1 e7
  exact (refsign_any s A ns n c B w h2 h3 h4 (by omega) h6).mono fun e w' hh => ⟨hh.1, HE.next hh.2⟩
theorem refvalid_env (HE : Env t W0 w bs L) (h : ⟨v, x, k, b⟩ ∈ L) (hk : k ≤ 100000) :
    Calls Tryd.prog 56 #[v] w fun e w' => e = .returned (.bool b) ∧ Env t W0 w' bs L := by
  obtain ⟨s, A, n, c, ns, B, e1, h2, h3, h4, h5, h6, e7, h8⟩ := HE.ops _ h
  dsimp only at e1 e7 h5 h8
  subst e1 e7 h8
  exact (refValid_any s A ns n c B w h2 h3 h4 (by omega)).mono fun e w' hh => ⟨hh.1, HE.next hh.2⟩
theorem refof_env {z : Int} (HE : Env t W0 w bs L) (h1 : -9223372036854775808 ≤ z) (h2 : z ≤ 9223372036854775807) :
    Calls Tryd.prog 19 #[.int .i64 z] w fun e w' => ∃ u, e = .returned u ∧ Env t W0 w' bs (⟨u, z, 2, true⟩ :: L) :=
  (refof_any z w h1 h2).mono fun _ _ hh => zout_env HE hh (lt_int h1 h2)
end
end Go.Proofs.YtobffffcihlkbaaDoor
