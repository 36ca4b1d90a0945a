/- Walks of the reference: Neg, Add, Sub, Mul, Cmp. -/
import Derived.Test.YtobffffcihlkbaaDoorEnvr
import Derived.Test.YtobffffcihlkbaaDoorRefc
import Derived.Deep.RegionHeld3
namespace Lw
open Go Go.RowKit
theorem Env.first1 {t : TypeId} {W0 w : World} {L : List En} {g1 g3 : Nat} {x1 y1 x3 y3 : Value} (h : Env t W0 w [⟨g1, x1, y1⟩, ⟨g3, x3, y3⟩] L) : w.cell? ⟨g1, 0, none⟩ = some x1 ∧ w.cell? ⟨g1, 1, none⟩ = some y1 := by
  obtain ⟨a, b, _⟩ := h.cells2
  exact ⟨a, b⟩
theorem sign_cmp (x y : Int) : signI (x - y) = cmpI x y := by unfold signI cmpI; grind
theorem begin3 {w : World} {s1 s2 : Bool} {A1 A2 : Option Addr} {n1 n2 c1 c2 B1 B2 k1 k2 : Nat} {l1 l2 : List Nat} (t : TypeId) (r1 : Rd w B1 A1 l1) (r2 : Rd w B2 A2 l2) (hB1 : B1 ≤ w.heap.size) (hB2 : B2 ≤ w.heap.size) (e1 : l1.length = n1) (e2 : l2.length = n2)
    (q1 : n1 ≤ c1) (q2 : n2 ≤ c2) (h1 : n1 ≤ k1) (h2 : n2 ≤ k2) :
    Env t w ((w.alloc (.cells #[.bool s1, .slice A1 n1 c1] t)).alloc (.cells #[.bool s2, .slice A2 n2 c2] t))
      [⟨w.heap.size, .bool s1, .slice A1 n1 c1⟩, ⟨w.heap.size + 1, .bool s2, .slice A2 n2 c2⟩]
      [⟨.agg #[.bool s1, .slice A1 n1 c1], zv s1 l1, k1, vB s1 l1⟩, ⟨.agg #[.bool s2, .slice A2 n2 c2], zv s2 l2, k2, vB s2 l2⟩] := by
  have hb := (((Below.refl w.heap.size w).alloc (Nat.le_refl _) (.cells #[.bool s1, .slice A1 n1 c1] t)).alloc (by simp) (.cells #[.bool s2, .slice A2 n2 c2] t))
  refine ⟨fun e he => ?_, fun b hb' => ?_, hb⟩
  · simp only [List.mem_cons, List.not_mem_nil, or_false] at he
    rcases he with rfl | rfl
    · exact Opd.here r1 hB1 hb e1 h1 q1
    · exact Opd.here r2 hB2 hb e2 h2 q2
  · simp only [List.mem_cons, List.not_mem_nil, or_false] at hb'
    rcases hb' with rfl | rfl
    · exact (Two.new w t _ _).alloc _
    · have := Two.new (w.alloc (.cells #[.bool s1, .slice A1 n1 c1] t)) t (.bool s2) (.slice A2 n2 c2)
      rwa [World.size_alloc] at this
theorem neg_shape (x : Int) : -x = if (!sg x) = true then -(val (mg x) : Int) else (val (mg x) : Int) := by
  rw [val_mg]; unfold sg
  by_cases h : x < 0
  · simp [h]; omega
  · simp [h]; omega
theorem mul_shape (x y : Int) : x * y = if (sg x != sg y) = true then -(val (digs (val (mg x) * val (mg y))) : Int) else (val (digs (val (mg x) * val (mg y))) : Int) := by
  rw [val_digs, val_mg, val_mg]; exact mul_form x y
theorem add_same (x y : Int) (h : (sg x == sg y) = true) : x + y = if sg x = true then -(val (digs (val (mg x) + val (mg y))) : Int) else (val (digs (val (mg x) + val (mg y))) : Int) := by
  rw [val_digs, val_mg, val_mg]
  have := sv_eq (sg x) (sg y) h x.natAbs y.natAbs
  rw [sv_sg, sv_sg] at this
  rw [this]; rfl
theorem add_more (x y : Int) (h : (sg x == sg y) = false) (hle : val (mg y) ≤ val (mg x)) : x + y = if sg x = true then -(val (digs (val (mg x) - val (mg y))) : Int) else (val (digs (val (mg x) - val (mg y))) : Int) := by
  rw [val_digs]
  rw [val_mg, val_mg] at *
  have := sv_ne (sg x) (sg y) h (N := x.natAbs) (M := y.natAbs) hle
  rw [sv_sg, sv_sg] at this
  rw [this]; rfl
theorem add_less (x y : Int) (h : (sg x == sg y) = false) (hle : val (mg x) ≤ val (mg y)) : x + y = if sg y = true then -(val (digs (val (mg y) - val (mg x))) : Int) else (val (digs (val (mg y) - val (mg x))) : Int) := by
  rw [val_digs]
  rw [val_mg, val_mg] at *
  have := sv_ne' (sg x) (sg y) h (N := x.natAbs) (M := y.natAbs) hle
  rw [sv_sg, sv_sg] at this
  rw [this]; rfl
end Lw
namespace Go.Proofs.YtobffffcihlkbaaDoor
open Go Go.RowKit Lw
section
variable {t : TypeId} {W0 w : World} {bs : List Bx} {L : List En} {M : List Sn} {u u' : Value} {k k' : Nat} {l l' : List Nat}
theorem times_envr (HE : Envr t W0 w bs L M) (h : ⟨u, l, k⟩ ∈ M) (h' : ⟨u', l', k'⟩ ∈ M) (hk : k + k' ≤ 100000) :
    Calls Tryd.prog 35 #[u, u'] w fun e w' => ∃ u, e = .returned u ∧ Envr t W0 w' bs L (⟨u, digs (val l * val l'), k + k' + 1⟩ :: M) := by
  obtain ⟨A, n, c, B, e1, h2, h3, h4, h5, h6⟩ := HE.sls _ h
  obtain ⟨A', n', c', B', e1', h2', h3', h4', h5', h6'⟩ := HE.sls _ h'
  dsimp only at *
  subst e1 e1'
  have hz : (digs (val l * val l')).length ≤ k + k' + 1 := digs_length_le (by
    have := lt_mul (x := (val l : Int)) (y := (val l' : Int)) (k := k) (k' := k') (by rw [Int.natAbs_natCast]; exact Nat.lt_of_lt_of_le (val_lt h2.wds) (pw_le (by omega))) (by rw [Int.natAbs_natCast]; exact Nat.lt_of_lt_of_le (val_lt h2'.wds) (pw_le (by omega)))
    rwa [← Int.natCast_mul, Int.natAbs_natCast] at this)
  exact (reftimes_any A A' l l' n n' c c' B B' w h2 h2' h3 h3' h4 h4' (by omega) (by omega)).mono fun e w' hh => trim_envr HE hh hz
end
end Go.Proofs.YtobffffcihlkbaaDoor
