/- Make and From with their errors: program and reference at once; the reference's Same of integers; a box of four cells. -/
import Derived.Test.YtdecmhcojdnokaaGreatDoorFrefk
import Derived.Test.YtdecmhcojdnokaaGreatDoorFrefv
namespace Lw
open Go Go.RowKit
def Quad (w : World) (g : Nat) (t : TypeId) (a b c d : Value) : Prop := w.heap[g]? = some (.cells #[a, b, c, d] t (0, 0))
section
variable {w w' : World} {g : Nat} {t : TypeId} {a b c d : Value}
theorem Quad.lt (h : Quad w g t a b c d) : g < w.heap.size := by
  rcases Nat.lt_or_ge g w.heap.size with hlt | hge
  · exact hlt
  · unfold Quad at h; rw [Array.getElem?_eq_none hge] at h; cases h
theorem Quad.new (w : World) (t : TypeId) (a b c d : Value) : Quad (w.alloc (.cells #[a, b, c, d] t)) w.heap.size t a b c d := heap_alloc_new w _
theorem Quad.next (h : Quad w g t a b c d) (hb : Below w.heap.size w w') : Quad w' g t a b c d := (hb.block g h.lt).trans h
theorem Quad.cells (h : Quad w g t a b c d) : w.cell? ⟨g, 0, none⟩ = some a ∧ w.cell? ⟨g, 1, none⟩ = some b ∧ w.cell? ⟨g, 2, none⟩ = some c ∧ w.cell? ⟨g, 3, none⟩ = some d := by
  unfold Quad at h
  exact ⟨by rw [cell_of_row w g 0 _ t (0, 0) h]; rfl, by rw [cell_of_row w g 1 _ t (0, 0) h]; rfl, by rw [cell_of_row w g 2 _ t (0, 0) h]; rfl, by rw [cell_of_row w g 3 _ t (0, 0) h]; rfl⟩
end
end Lw
namespace Go.Proofs.YtdecmhcojdnokaaGreatDoor
open Go Go.RowKit Lw
/-- A fraction and whatever stands for the error, handed back. -/
def GotX (W0 : World) (bs : List Bx) (L : List En) (ts : List Bt) (M : List Qn) (q : Rat) (k : Nat) (er : Value) (e : Ending) (w' : World) : Prop :=
  ∃ (s : Bool) (A : Option Addr) (n c : Nat) (A' : Option Addr) (n' c' : Nat), e = .returned (.tuple #[.agg #[.bool s, .slice A n c, .slice A' n' c'], er]) ∧ FEnv W0 w' bs L ts (⟨.agg #[.bool s, .slice A n c, .slice A' n' c'], q, k, true⟩ :: M)
section
variable {W0 w : World} {bs : List Bx} {L : List En} {ts : List Bt} {M : List Qn} {v v' : Value} {q r : Rat} {x y : Int} {k k' : Nat} {b b' : Bool}
theorem GotX.weak {k K : Nat} {er : Value} {e : Ending} (h : GotX W0 bs L ts M q k er e w) (hk : k ≤ K) : GotX W0 bs L ts M q K er e w := by
  obtain ⟨s, A, n, c, A', n', c', e1, he⟩ := h
  exact ⟨s, A, n, c, A', n', c', e1, he.hd (·.weak hk)⟩
theorem GotE.got {e : Ending} (h : GotE W0 bs L ts M q k e w) : GotX W0 bs L ts M q k .nilIface e w := h
theorem rsame_f (HE : FEnv W0 w bs L ts M) (h : ⟨v, x, k, true⟩ ∈ L) (h' : ⟨v', y, k', true⟩ ∈ L) (hk : k + k' ≤ 100000) (hxy : x = y) :
    Calls Tryz.prog 25 #[v, v'] w fun e w' => e = .returned (.bool true) ∧ FEnv W0 w' bs L ts M := (same_env HE.env.here h h' hk hxy).mono fun _ _ hh => ⟨hh.1, HE.step hh.2⟩
theorem rfvalid_v (HE : FEnv W0 w bs L ts M) (h : ⟨v, q, k, b⟩ ∈ M) (hk : k ≤ 3000) :
    Calls Tryz.prog 20 #[v] w fun e w' => e = .returned (.bool b) ∧ FEnv W0 w' bs L ts M := by
  obtain ⟨s, A, n, c, A', n', c', e1⟩ := (HE.fr _ h).shape
  dsimp only at e1
  subst e1
  exact rfvalid_f HE h hk
theorem rparts_v (HE : FEnv W0 w bs L ts M) (h : ⟨v, q, k, b⟩ ∈ M) (hk : k ≤ 3000) :
    Calls Tryz.prog 18 #[v] w (GotP W0 bs L ts M q.num (q.den : Int) (k + 2)) := by
  obtain ⟨s, A, n, c, A', n', c', e1⟩ := (HE.fr _ h).shape
  dsimp only at e1
  subst e1
  exact rparts_f HE h hk
theorem fof_v (HE : FEnv W0 w bs L ts M) (n1 : -9223372036854775808 ≤ x) (n2 : x ≤ 9223372036854775807) :
    Calls Tryz.prog 22 #[.int .i64 x] w (GotV W0 bs L ts M (x : Rat) 2) := (fof_f HE n1 n2).mono fun _ _ hh => GotV.of hh
theorem rfof_v (HE : FEnv W0 w bs L ts M) (n1 : -9223372036854775808 ≤ x) (n2 : x ≤ 9223372036854775807) :
    Calls Tryz.prog 23 #[.int .i64 x] w (GotV W0 bs L ts M (x : Rat) 6) := (rfof_f HE n1 n2).mono fun _ _ hh => GotV.of hh
end
theorem make_all (x y : Int) (n1 : -9223372036854775808 ≤ x) (n2 : x ≤ 9223372036854775807) (n3 : -9223372036854775808 ≤ y) (n4 : y ≤ 9223372036854775807) :
    ∃ (q : Rat) (er : Value) (code : Int), (∀ W, Calls Tryz.prog 24 #[er] W fun e w' => e = .returned (.int .i64 code) ∧ W = w') ∧
    (∀ (W0 w : World) (bs : List Bx) (L : List En) (ts : List Bt) (M : List Qn), FEnv W0 w bs L ts M → Calls Tryz.prog 13 #[.int .i64 x, .int .i64 y] w (GotX W0 bs L ts M q 8 er)) ∧
    (∀ (W0 w : World) (bs : List Bx) (L : List En) (ts : List Bt) (M : List Qn), FEnv W0 w bs L ts M → Calls Tryz.prog 16 #[.int .i64 x, .int .i64 y] w (GotX W0 bs L ts M q 8 (.int .i64 code))) := by
  by_cases hy : y = 0
  · refine ⟨0, .iface 64 (.int .i64 8), 8, fun W => numerr_any 8 W, ?_, ?_⟩
    · intro W0 w bs L ts M HE
      subst hy
      refine (fmakez_f HE).mono ?_
      rintro e w' ⟨e1, he⟩
      exact ⟨false, none, 0, 0, none, 0, 0, e1, he.zero 8⟩
    · intro W0 w bs L ts M HE
      refine (rfmakez_f HE n1 n2 n3 n4 hy).mono ?_
      rintro e w' ⟨e1, he⟩
      exact ⟨false, none, 0, 0, none, 0, 0, e1, he.zero 8⟩
  · refine ⟨Rat.divInt x y, .nilIface, 0, fun W => numnil_any W, ?_, ?_⟩
    · intro W0 w bs L ts M HE
      exact (fmake_f HE n1 n2 n3 n4 hy).mono fun _ _ hh => (GotE.got hh).weak (by omega)
    · intro W0 w bs L ts M HE
      refine (rfmake_f HE n1 n2 n3 n4 hy).mono ?_
      rintro e w' ⟨s, A, n, c, A', n', c', e1, he⟩
      exact ⟨s, A, n, c, A', n', c', e1, he.hd (·.weak (by omega))⟩
theorem from_all (x y : Int) :
    ∃ (q : Rat) (er : Value) (code : Int), (∀ W, Calls Tryz.prog 24 #[er] W fun e w' => e = .returned (.int .i64 code) ∧ W = w') ∧
    (∀ (W0 w : World) (bs : List Bx) (L : List En) (ts : List Bt) (M : List Qn) (v v' : Value) (k k' : Nat) (b b' : Bool), FEnv W0 w bs L ts M → ⟨v, x, k, b⟩ ∈ L → ⟨v', y, k', b'⟩ ∈ L → k + k' ≤ 1000 → Calls Tryz.prog 14 #[v, v'] w (GotX W0 bs L ts M q 1002 er)) ∧
    (∀ (W0 w : World) (bs : List Bx) (L : List En) (ts : List Bt) (M : List Qn) (v v' : Value) (k k' : Nat) (b b' : Bool), FEnv W0 w bs L ts M → ⟨v, x, k, b⟩ ∈ L → ⟨v', y, k', b'⟩ ∈ L → k + k' ≤ 1000 → Calls Tryz.prog 17 #[v, v'] w (GotX W0 bs L ts M q 1002 (.int .i64 code))) := by
  by_cases hy : y = 0
  · refine ⟨0, .iface 64 (.int .i64 8), 8, fun W => numerr_any 8 W, ?_, ?_⟩
    · intro W0 w bs L ts M v v' k k' b b' HE h h' hk
      obtain ⟨s, A, n, c, e1⟩ := HE.env.shape h
      obtain ⟨t, B, m, d, e2⟩ := HE.env.shape h'
      dsimp only at e1 e2
      subst e1 e2
      refine (fromz_f HE h' (by omega) hy).mono ?_
      rintro e w' ⟨e1, he⟩
      exact ⟨false, none, 0, 0, none, 0, 0, e1, he.zero _⟩
    · intro W0 w bs L ts M v v' k k' b b' HE h h' hk
      obtain ⟨s, A, n, c, e1⟩ := HE.env.shape h
      obtain ⟨t, B, m, d, e2⟩ := HE.env.shape h'
      dsimp only at e1 e2
      subst e1 e2
      refine (rffromz_f HE h h' (by omega) hy).mono ?_
      rintro e w' ⟨e1, he⟩
      exact ⟨false, none, 0, 0, none, 0, 0, e1, he.zero _⟩
  · refine ⟨Rat.divInt x y, .nilIface, 0, fun W => numnil_any W, ?_, ?_⟩
    · intro W0 w bs L ts M v v' k k' b b' HE h h' hk
      obtain ⟨s, A, n, c, e1⟩ := HE.env.shape h
      obtain ⟨t, B, m, d, e2⟩ := HE.env.shape h'
      dsimp only at e1 e2
      subst e1 e2
      by_cases hp : 0 < y
      · exact (frompos_f HE h h' (by omega) hp).mono fun _ _ hh => (GotE.got hh).weak (by omega)
      · exact (fromneg_f HE h h' (by omega) (by omega)).mono fun _ _ hh => (GotE.got hh).weak (by omega)
    · intro W0 w bs L ts M v v' k k' b b' HE h h' hk
      obtain ⟨s, A, n, c, e1⟩ := HE.env.shape h
      obtain ⟨t, B, m, d, e2⟩ := HE.env.shape h'
      dsimp only at e1 e2
      subst e1 e2
      refine (rffrom_f HE h h' (by omega) hy).mono ?_
      rintro e w' ⟨s, A, n, c, A', n', c', e1, he⟩
      exact ⟨s, A, n, c, A', n', c', e1, he.hd (·.weak (by omega))⟩
end Go.Proofs.YtdecmhcojdnokaaGreatDoor
