/- A new box beside the integers at hand. -/
import Derived.Test.YtobffffcihlkbaaDoorEnv
import Derived.Test.YtobffffcihlkbaaDoorWord
namespace Lw
open Go Go.RowKit
theorem Env.addbox {t : TypeId} {W0 w : World} {bs : List Bx} {L : List En} (h : Env t W0 w bs L) (x y : Value) : Env t W0 (w.alloc (.cells #[x, y] t)) (⟨w.heap.size, x, y⟩ :: bs) L :=
  have h2 := h.next ((Below.refl _ w).alloc (Nat.le_refl _) (.cells #[x, y] t))
  ⟨h2.ops, fun b hb => by
    rcases List.mem_cons.1 hb with rfl | hb
    · exact Two.new w t x y
    · exact h2.box b hb, h2.below⟩
theorem Env.addboxd {t : TypeId} {W0 w : World} {bs : List Bx} {L : List En} (h : Env t W0 w bs L) (x y : Value) : Env t W0 (w.drew.alloc (.cells #[x, y] t)) (⟨w.heap.size, x, y⟩ :: bs) L := h.drew.addbox x y
theorem Env.sub3 {t : TypeId} {W0 w : World} {bs : List Bx} {L : List En} {b1 b2 b3 : Bx} {e1 e2 e3 : En} (h : Env t W0 w bs L) (h1 : b1 ∈ bs) (h2 : b2 ∈ bs) (h3 : b3 ∈ bs) (k1 : e1 ∈ L) (k2 : e2 ∈ L) (k3 : e3 ∈ L) : Env t W0 w [b1, b2, b3] [e1, e2, e3] :=
  ⟨fun e he => by
    simp only [List.mem_cons, List.not_mem_nil, or_false] at he
    rcases he with rfl | rfl | rfl
    · exact h.ops _ k1
    · exact h.ops _ k2
    · exact h.ops _ k3, fun b hb => by
    simp only [List.mem_cons, List.not_mem_nil, or_false] at hb
    rcases hb with rfl | rfl | rfl
    · exact h.box _ h1
    · exact h.box _ h2
    · exact h.box _ h3, h.below⟩
theorem Opd.put {t : TypeId} {w : World} {g n c : Nat} {s : Bool} {X : Option Addr} {e : En} (h : Opd w e) (h2 : Two w g t (.bool s) (.slice X n c)) (s' : Bool) (v : Value) :
    Opd ((w.setCell ⟨g, 0, none⟩ (.bool s')).setCell ⟨g, 1, none⟩ v) e := by
  obtain ⟨a, A, m, d, ns, B, e1, h3, h4, h5, h6, h7, e7, h8⟩ := h
  exact ⟨a, A, m, d, ns, B, e1, h3.putTwo h2 s' v, by simpa using h4, h5, h6, h7, e7, h8⟩
theorem Env.put {t : TypeId} {W0 w : World} {bs : List Bx} {L : List En} {g n c : Nat} {s : Bool} {X : Option Addr} (h : Env t W0 w (⟨g, .bool s, .slice X n c⟩ :: bs) L) (hg : W0.heap.size ≤ g) (hd : ∀ b ∈ bs, b.g ≠ g) (s' : Bool) (v : Value) :
    Env t W0 ((w.setCell ⟨g, 0, none⟩ (.bool s')).setCell ⟨g, 1, none⟩ v) (⟨g, .bool s', v⟩ :: bs) L :=
  ⟨fun e he => (h.ops e he).put (h.box _ (.head _)) s' v, fun b hb => by
    rcases List.mem_cons.1 hb with rfl | hb
    · exact (h.box _ (.head _)).put _ _
    · exact ((h.box b (.tail _ hb)).far (p := ⟨g, 0, none⟩) (hd b hb) _).far (p := ⟨g, 1, none⟩) (hd b hb) _,
    (h.below.setCell (p := ⟨g, 0, none⟩) hg _).setCell (p := ⟨g, 1, none⟩) hg _⟩
theorem Env.swap {t : TypeId} {W0 w : World} {b1 b2 : Bx} {bs : List Bx} {L : List En} (h : Env t W0 w (b1 :: b2 :: bs) L) : Env t W0 w (b2 :: b1 :: bs) L :=
  ⟨h.ops, fun b hb => h.box b (by
    rcases List.mem_cons.1 hb with rfl | hb
    · exact .tail _ (.head _)
    · rcases List.mem_cons.1 hb with rfl | hb
      · exact .head _
      · exact .tail _ (.tail _ hb)), h.below⟩
/-- A new box that holds a value. -/
theorem Env.add1 {t : TypeId} {W0 w : World} {bs : List Bx} {L : List En} (h : Env t W0 w bs L) (s' : Bool) (v : Value) :
    Env t W0 (((w.alloc (.cells #[.bool false, .slice none 0 0] t)).setCell ⟨w.heap.size, 0, none⟩ (.bool s')).setCell ⟨w.heap.size, 1, none⟩ v) (⟨w.heap.size, .bool s', v⟩ :: bs) L :=
  (h.addbox (.bool false) (.slice none 0 0)).put h.below.size (fun b hb => by have := (h.box b hb).lt; omega) s' v
/-- Two new boxes that hold values. -/
theorem Env.add2 {t : TypeId} {W0 w : World} {bs : List Bx} {L : List En} (h : Env t W0 w bs L) (s1 : Bool) (v1 : Value) (s2 : Bool) (v2 : Value) :
    Env t W0 ((((((w.alloc (.cells #[.bool false, .slice none 0 0] t)).alloc (.cells #[.bool false, .slice none 0 0] t)).setCell ⟨w.heap.size, 0, none⟩ (.bool s1)).setCell ⟨w.heap.size, 1, none⟩ v1).setCell ⟨w.heap.size + 1, 0, none⟩ (.bool s2)).setCell ⟨w.heap.size + 1, 1, none⟩ v2)
      (⟨w.heap.size + 1, .bool s2, v2⟩ :: ⟨w.heap.size, .bool s1, v1⟩ :: bs) L := by
  have h1 := (h.addbox (.bool false) (.slice none 0 0)).addbox (.bool false) (.slice none 0 0)
  rw [World.size_alloc] at h1
  have hs := h.below.size
  have h2 := h1.swap.put hs (fun b hb => by
    rcases List.mem_cons.1 hb with rfl | hb
    · simp
    · have := (h.box b hb).lt; omega) s1 v1
  exact h2.swap.put (by omega) (fun b hb => by
    rcases List.mem_cons.1 hb with rfl | hb
    · simp
    · have := (h.box b hb).lt; omega) s2 v2
theorem Env.unbox {t : TypeId} {W0 w : World} {b : Bx} {bs : List Bx} {L : List En} (h : Env t W0 w (b :: bs) L) : Env t W0 w bs L := ⟨h.ops, fun b' hb => h.box b' (.tail _ hb), h.below⟩
theorem Env.top {t : TypeId} {W0 w : World} {g : Nat} {x y : Value} {bs : List Bx} {L : List En} (h : Env t W0 w (⟨g, x, y⟩ :: bs) L) :
    w.cell? ⟨g, 0, none⟩ = some x ∧ w.cell? ⟨g, 1, none⟩ = some y ∧ w.frozen? ⟨g, 0, none⟩ = false ∧ w.frozen? ⟨g, 1, none⟩ = false := (h.box _ (.head _)).facts
theorem Env.cells5 {t : TypeId} {W0 w : World} {L : List En} {bs : List Bx} {g1 g2 g3 g4 g5 : Nat} {x1 y1 x2 y2 x3 y3 x4 y4 x5 y5 : Value} (h : Env t W0 w (⟨g1, x1, y1⟩ :: ⟨g2, x2, y2⟩ :: ⟨g3, x3, y3⟩ :: ⟨g4, x4, y4⟩ :: ⟨g5, x5, y5⟩ :: bs) L) :
    w.cell? ⟨g1, 0, none⟩ = some x1 ∧ w.cell? ⟨g1, 1, none⟩ = some y1 ∧ w.cell? ⟨g2, 0, none⟩ = some x2 ∧ w.cell? ⟨g2, 1, none⟩ = some y2 ∧ w.cell? ⟨g3, 0, none⟩ = some x3 ∧ w.cell? ⟨g3, 1, none⟩ = some y3 ∧ w.cell? ⟨g4, 0, none⟩ = some x4 ∧ w.cell? ⟨g4, 1, none⟩ = some y4 ∧ w.cell? ⟨g5, 0, none⟩ = some x5 ∧ w.cell? ⟨g5, 1, none⟩ = some y5 :=
  ⟨h.top.1, h.top.2.1, h.unbox.top.1, h.unbox.top.2.1, h.unbox.unbox.top.1, h.unbox.unbox.top.2.1, h.unbox.unbox.unbox.top.1, h.unbox.unbox.unbox.top.2.1, h.unbox.unbox.unbox.unbox.top.1, h.unbox.unbox.unbox.unbox.top.2.1⟩
theorem Env.pickA {t : TypeId} {W0 w : World} {L : List En} {bs : List Bx} {g0 g1 g2 g3 g4 g5 g6 g7 g8 g9 : Nat} {x0 y0 x1 y1 x2 y2 x3 y3 x4 y4 x5 y5 x6 y6 x7 y7 x8 y8 x9 y9 : Value} (h : Env t W0 w (⟨g0, x0, y0⟩ :: ⟨g1, x1, y1⟩ :: ⟨g2, x2, y2⟩ :: ⟨g3, x3, y3⟩ :: ⟨g4, x4, y4⟩ :: ⟨g5, x5, y5⟩ :: ⟨g6, x6, y6⟩ :: ⟨g7, x7, y7⟩ :: ⟨g8, x8, y8⟩ :: ⟨g9, x9, y9⟩ :: bs) L) :
    w.cell? ⟨g0, 0, none⟩ = some x0 ∧ w.cell? ⟨g0, 1, none⟩ = some y0 ∧ w.cell? ⟨g2, 0, none⟩ = some x2 ∧ w.cell? ⟨g2, 1, none⟩ = some y2 ∧ w.cell? ⟨g4, 0, none⟩ = some x4 ∧ w.cell? ⟨g4, 1, none⟩ = some y4 ∧ w.cell? ⟨g6, 0, none⟩ = some x6 ∧ w.cell? ⟨g6, 1, none⟩ = some y6 ∧ w.cell? ⟨g9, 0, none⟩ = some x9 ∧ w.cell? ⟨g9, 1, none⟩ = some y9 :=
  ⟨h.top.1, h.top.2.1, h.unbox.unbox.top.1, h.unbox.unbox.top.2.1, h.unbox.unbox.unbox.unbox.top.1, h.unbox.unbox.unbox.unbox.top.2.1, h.unbox.unbox.unbox.unbox.unbox.unbox.top.1, h.unbox.unbox.unbox.unbox.unbox.unbox.top.2.1, h.unbox.unbox.unbox.unbox.unbox.unbox.unbox.unbox.unbox.top.1, h.unbox.unbox.unbox.unbox.unbox.unbox.unbox.unbox.unbox.top.2.1⟩
theorem Env.pickB {t : TypeId} {W0 w : World} {L : List En} {bs : List Bx} {g0 g1 g2 g3 g4 g5 g6 g7 g8 g9 g10 g11 : Nat} {x0 y0 x1 y1 x2 y2 x3 y3 x4 y4 x5 y5 x6 y6 x7 y7 x8 y8 x9 y9 x10 y10 x11 y11 : Value} (h : Env t W0 w (⟨g0, x0, y0⟩ :: ⟨g1, x1, y1⟩ :: ⟨g2, x2, y2⟩ :: ⟨g3, x3, y3⟩ :: ⟨g4, x4, y4⟩ :: ⟨g5, x5, y5⟩ :: ⟨g6, x6, y6⟩ :: ⟨g7, x7, y7⟩ :: ⟨g8, x8, y8⟩ :: ⟨g9, x9, y9⟩ :: ⟨g10, x10, y10⟩ :: ⟨g11, x11, y11⟩ :: bs) L) :
    w.cell? ⟨g0, 0, none⟩ = some x0 ∧ w.cell? ⟨g0, 1, none⟩ = some y0 ∧ w.cell? ⟨g1, 0, none⟩ = some x1 ∧ w.cell? ⟨g1, 1, none⟩ = some y1 ∧ w.cell? ⟨g8, 0, none⟩ = some x8 ∧ w.cell? ⟨g8, 1, none⟩ = some y8 :=
  ⟨h.top.1, h.top.2.1, h.unbox.top.1, h.unbox.top.2.1, h.unbox.unbox.unbox.unbox.unbox.unbox.unbox.unbox.top.1, h.unbox.unbox.unbox.unbox.unbox.unbox.unbox.unbox.top.2.1⟩
end Lw
/-! Walks of linkworkbase: Num, Is. -/
namespace Go.Proofs.YtobffffcihlkbaaDoor
open Go Go.RowKit Lw
theorem assert_errno (z : Int) (w : World) : Sem.run Tryd.prog (Instr.typeAssert (.iface 48 (.int .i64 z)) 28 48 true) w = .ok (.tuple #[.int .i64 z, .bool true]) w := by kernel_rfl
set_option maxRecDepth 100000 in
set_option maxHeartbeats 800000 in
theorem numnil_any (w : World) : Calls Tryd.prog 11 #[.nilIface] w fun e w' => e = .returned (.int .i64 0) ∧ w = w' := by
  go_enter Tryd.func11, Tryd.ntmps11
  go_wp2
  go_ret
  exact ⟨rfl, rfl⟩
set_option maxRecDepth 100000 in
set_option maxHeartbeats 800000 in
theorem numerr_any (z : Int) (w : World) : Calls Tryd.prog 11 #[.iface 48 (.int .i64 z)] w fun e w' => e = .returned (.int .i64 z) ∧ w = w' := by
  go_enter Tryd.func11, Tryd.ntmps11
  have ha := assert_errno z w
  go_wp2
  go_ret
  exact ⟨rfl, rfl⟩
end Go.Proofs.YtobffffcihlkbaaDoor
