/- Blocks of two cells: structs of two fields that a call boxes or allocates. -/
import Derived.Test.YtobffffcihlkbaaDoorMem
namespace Lw
open Go Go.RowKit
def Two (w : World) (g : Nat) (t : TypeId) (x y : Value) : Prop := w.heap[g]? = some (.cells #[x, y] t (0, 0))
section
variable {w w' : World} {g : Nat} {t : TypeId} {x y : Value}
theorem Two.lt (h : Two w g t x y) : g < w.heap.size := by
  rcases Nat.lt_or_ge g w.heap.size with hlt | hge
  · exact hlt
  · unfold Two at h; rw [Array.getElem?_eq_none hge] at h; cases h
theorem Two.new (w : World) (t : TypeId) (x y : Value) : Two (w.alloc (.cells #[x, y] t)) w.heap.size t x y := heap_alloc_new w _
theorem Two.alloc (h : Two w g t x y) (o : Obj) : Two (w.alloc o) g t x y := (Below.heap_alloc w o g h.lt).trans h
theorem Two.drew (h : Two w g t x y) : Two w.drew g t x y := h
theorem Two.drewN (h : Two w g t x y) (n : Nat) : Two (w.drewN n) g t x y := h
theorem Two.below {B : Nat} (h : Two w g t x y) (hb : Below B w w') (hg : g < B) : Two w' g t x y := (hb.block g hg).trans h
theorem Two.far (h : Two w g t x y) {p : Addr} (hp : g ≠ p.block) (u : Value) : Two (w.setCell p u) g t x y := (Below.heap_setCell w p u g hp).trans h
theorem Two.facts (h : Two w g t x y) : w.cell? ⟨g, 0, none⟩ = some x ∧ w.cell? ⟨g, 1, none⟩ = some y ∧ w.frozen? ⟨g, 0, none⟩ = false ∧ w.frozen? ⟨g, 1, none⟩ = false := by
  unfold Two at h
  exact ⟨by rw [cell_of_row w g 0 _ t (0, 0) h]; rfl, by rw [cell_of_row w g 1 _ t (0, 0) h]; rfl, by simp [World.frozen?, h], by simp [World.frozen?, h]⟩
theorem Two.put (h : Two w g t x y) (x' y' : Value) : Two ((w.setCell ⟨g, 0, none⟩ x').setCell ⟨g, 1, none⟩ y') g t x' y' := by
  have h1 : Two (w.setCell ⟨g, 0, none⟩ x') g t x' y := by
    unfold Two at h ⊢
    simp [World.setCell, Array.getElem?_modify, h]
  unfold Two at h1 ⊢
  generalize w.setCell ⟨g, 0, none⟩ x' = v at *
  simp [World.setCell, Array.getElem?_modify, h1]
end
section
variable {w w1 : World} {t t' t'' : TypeId} {x y x' y' x'' y'' : Value}
theorem box1 (hb : Below (w.alloc (.cells #[x, y] t)).heap.size (w.alloc (.cells #[x, y] t)) w1) :
    Two w1 w.heap.size t x y ∧ w.heap.size + 1 ≤ w1.heap.size ∧ Below w.heap.size w w1 :=
  ⟨(Two.new w t x y).below hb (by simp), by have := hb.size; simpa using this, ((Below.refl _ _).alloc (Nat.le_refl _) _).trans (hb.mono (by simp))⟩
theorem box2 (hb : Below ((w.alloc (.cells #[x, y] t)).alloc (.cells #[x', y'] t')).heap.size ((w.alloc (.cells #[x, y] t)).alloc (.cells #[x', y'] t')) w1) :
    Two w1 w.heap.size t x y ∧ Two w1 (w.heap.size + 1) t' x' y' ∧ w.heap.size + 2 ≤ w1.heap.size ∧ Below w.heap.size w w1 := by
  refine ⟨((Two.new w t x y).alloc _).below hb (by simp; omega), ?_, by have := hb.size; simpa using this, ?_⟩
  · have h2 := (Two.new (w.alloc (.cells #[x, y] t)) t' x' y').below hb (by simp)
    simpa using h2
  · exact (((Below.refl _ _).alloc (Nat.le_refl _) _).alloc (by simp) _).trans (hb.mono (by simp; omega))
theorem box3 (hb : Below (((w.alloc (.cells #[x, y] t)).alloc (.cells #[x', y'] t')).alloc (.cells #[x'', y''] t'')).heap.size (((w.alloc (.cells #[x, y] t)).alloc (.cells #[x', y'] t')).alloc (.cells #[x'', y''] t'')) w1) :
    Two w1 w.heap.size t x y ∧ Two w1 (w.heap.size + 1) t' x' y' ∧ Two w1 (w.heap.size + 2) t'' x'' y'' ∧ w.heap.size + 3 ≤ w1.heap.size ∧ Below w.heap.size w w1 := by
  refine ⟨(((Two.new w t x y).alloc _).alloc _).below hb (by simp; omega), ?_, ?_, by have := hb.size; simpa using this, ?_⟩
  · have h2 := ((Two.new (w.alloc (.cells #[x, y] t)) t' x' y').alloc (.cells #[x'', y''] t'')).below hb (by simp)
    simpa using h2
  · have h2 := (Two.new ((w.alloc (.cells #[x, y] t)).alloc (.cells #[x', y'] t')) t'' x'' y'').below hb (by simp)
    simpa using h2
  · exact ((((Below.refl _ _).alloc (Nat.le_refl _) _).alloc (by simp) _).alloc (by simp; omega) _).trans (hb.mono (by simp; omega))
end
theorem Rd.ne_two {w : World} {B g n c : Nat} {t : TypeId} {s : Bool} {A A' : Option Addr} {ns : List Nat} (h : Rd w B A ns) (h2 : Two w g t (.bool s) (.slice A' n c)) {b off : Nat} (hn : 0 < ns.length) (hA : A = some ⟨b, off, none⟩) : b ≠ g := by
  rintro rfl
  obtain ⟨b', off', hA', hb, hc⟩ := h.2 hn
  rw [hA] at hA'
  injection hA' with e
  injection e with e1 e2
  subst e1 e2
  have h0 := hc 0 hn
  unfold Two at h2
  rw [cell_of_row w b _ _ t (0, 0) h2] at h0
  match off, h0 with
  | 0, h0 => simp at h0
  | 1, h0 => simp at h0
  | k + 2, h0 => simp at h0
theorem Rd.setTwo {w : World} {B g n c i : Nat} {t : TypeId} {s : Bool} {A A' : Option Addr} {ns : List Nat} (h : Rd w B A ns) (h2 : Two w g t (.bool s) (.slice A' n c)) (u : Value) : Rd (w.setCell ⟨g, i, none⟩ u) B A ns :=
  ⟨h.1, fun hn => by
    obtain ⟨b, off, hA, hb, hc⟩ := h.2 hn
    have hne := h.ne_two h2 hn hA
    refine ⟨b, off, hA, hb, fun j hj => ?_⟩
    rw [← hc j hj]
    exact World.cell?_setCell_other w _ _ u (fun e => hne (by injection e with e1; first | exact e1 | exact e1.symm))⟩
/-- A struct's two fields are written: what reads as words elsewhere reads so still. -/
theorem Rd.putTwo {w : World} {B g n c : Nat} {t : TypeId} {s : Bool} {A A' : Option Addr} {ns : List Nat} (h : Rd w B A ns) (h2 : Two w g t (.bool s) (.slice A' n c)) (s' : Bool) (v : Value) :
    Rd ((w.setCell ⟨g, 0, none⟩ (.bool s')).setCell ⟨g, 1, none⟩ v) B A ns := by
  have h3 : Two (w.setCell ⟨g, 0, none⟩ (.bool s')) g t (.bool s') (.slice A' n c) := by
    unfold Two at h2 ⊢
    simp [World.setCell, Array.getElem?_modify, h2]
  exact (h.setTwo h2 _).setTwo h3 _
theorem below_next {B : Nat} {a b c : World} (h : Below B a b) (h' : Below b.heap.size b c) (hB : B ≤ a.heap.size) : Below B a c := h.trans (h'.mono (Nat.le_trans hB h.size))
theorem next0 {W w1 : World} (h : Below W.drew.heap.size W.drew w1) : Below W.heap.size W w1 := below_next (Below.refl _ W).drew h (Nat.le_refl _)
theorem next1 {W w1 w2 : World} (h : Below W.heap.size W w1) (h' : Below w1.heap.size w1 w2) : Below W.heap.size W w2 := below_next h h' (Nat.le_refl _)
theorem Two.next {W W' : World} {g : Nat} {t : TypeId} {x y : Value} (h : Two W g t x y) (hb : Below W.heap.size W W') : Two W' g t x y := h.below hb h.lt
theorem Rd.next {W W' : World} {B : Nat} {A : Option Addr} {ns : List Nat} (h : Rd W B A ns) (hb : Below W.heap.size W W') (hB : B ≤ W.heap.size) : Rd W' B A ns := h.below (hb.mono hB)
theorem pair_put {w W : World} {H g g' B B' n n' c c' : Nat} {t : TypeId} {a a' : Bool} {X X' A A' : Option Addr} {l l' : List Nat} (s s' : Bool) (v v' : Value) (h1 : Two W g t (.bool a) (.slice X n c)) (h2 : Two W g' t (.bool a') (.slice X' n' c'))
    (hne : g ≠ g') (r : Rd W B A l) (r' : Rd W B' A' l') (hb : Below H w W) (hg : H ≤ g) (hg' : H ≤ g') :
    Two ((((W.setCell ⟨g, 0, none⟩ (.bool s)).setCell ⟨g, 1, none⟩ v).setCell ⟨g', 0, none⟩ (.bool s')).setCell ⟨g', 1, none⟩ v') g t (.bool s) v ∧
    Two ((((W.setCell ⟨g, 0, none⟩ (.bool s)).setCell ⟨g, 1, none⟩ v).setCell ⟨g', 0, none⟩ (.bool s')).setCell ⟨g', 1, none⟩ v') g' t (.bool s') v' ∧
    Rd ((((W.setCell ⟨g, 0, none⟩ (.bool s)).setCell ⟨g, 1, none⟩ v).setCell ⟨g', 0, none⟩ (.bool s')).setCell ⟨g', 1, none⟩ v') B A l ∧
    Rd ((((W.setCell ⟨g, 0, none⟩ (.bool s)).setCell ⟨g, 1, none⟩ v).setCell ⟨g', 0, none⟩ (.bool s')).setCell ⟨g', 1, none⟩ v') B' A' l' ∧
    Below H w ((((W.setCell ⟨g, 0, none⟩ (.bool s)).setCell ⟨g, 1, none⟩ v).setCell ⟨g', 0, none⟩ (.bool s')).setCell ⟨g', 1, none⟩ v') := by
  have k2 := (h2.far (p := ⟨g, 0, none⟩) (Ne.symm hne) (.bool s)).far (p := ⟨g, 1, none⟩) (Ne.symm hne) v
  exact ⟨((h1.put (.bool s) v).far (p := ⟨g', 0, none⟩) hne _).far (p := ⟨g', 1, none⟩) hne _, k2.put _ _, (r.putTwo h1 s v).putTwo k2 s' v', (r'.putTwo h1 s v).putTwo k2 s' v',
    (((hb.setCell hg _).setCell hg _).setCell hg' _).setCell hg' _⟩
theorem Two.far4 {W : World} {g g1 g2 : Nat} {t : TypeId} {x y : Value} (h : Two W g t x y) (h1 : g ≠ g1) (h2 : g ≠ g2) (u0 u1 u2 u3 : Value) :
    Two ((((W.setCell ⟨g1, 0, none⟩ u0).setCell ⟨g1, 1, none⟩ u1).setCell ⟨g2, 0, none⟩ u2).setCell ⟨g2, 1, none⟩ u3) g t x y :=
  (((h.far (p := ⟨g1, 0, none⟩) h1 _).far (p := ⟨g1, 1, none⟩) h1 _).far (p := ⟨g2, 0, none⟩) h2 _).far (p := ⟨g2, 1, none⟩) h2 _
theorem box4 {w w1 : World} {t t' t'' t3 : TypeId} {x y x' y' x'' y'' x3 y3 : Value} (hb : Below ((((w.alloc (.cells #[x, y] t)).alloc (.cells #[x', y'] t')).alloc (.cells #[x'', y''] t'')).alloc (.cells #[x3, y3] t3)).heap.size ((((w.alloc (.cells #[x, y] t)).alloc (.cells #[x', y'] t')).alloc (.cells #[x'', y''] t'')).alloc (.cells #[x3, y3] t3)) w1) :
    Two w1 w.heap.size t x y ∧ Two w1 (w.heap.size + 1) t' x' y' ∧ Two w1 (w.heap.size + 1 + 1) t'' x'' y'' ∧ Two w1 (w.heap.size + 1 + 1 + 1) t3 x3 y3 ∧ w.heap.size + 4 ≤ w1.heap.size ∧ Below w.heap.size w w1 := by
  have hb' := ((Below.refl _ (((w.alloc (.cells #[x, y] t)).alloc (.cells #[x', y'] t')).alloc (.cells #[x'', y''] t''))).alloc (Nat.le_refl _) (.cells #[x3, y3] t3)).trans (hb.mono (by simp))
  obtain ⟨a1, a2, a3, _, a5⟩ := box3 hb'
  refine ⟨a1, a2, a3, ?_, by have := hb.size; simpa using this, a5⟩
  have h2 := (Two.new (((w.alloc (.cells #[x, y] t)).alloc (.cells #[x', y'] t')).alloc (.cells #[x'', y''] t'')) t3 x3 y3).below hb (by simp)
  simpa using h2
end Lw
