/- What the rows of laws with arrays give: two ints, two integers. -/
import Derived.Test.YtdecmhcojdnokaaGreatDoorLaid
import Derived.OpenShut
namespace Go.Proofs.YtdecmhcojdnokaaGreatDoor
open Go Go.ChangeShapes Go.WideShapes Go.ChangeAt Go.RowKit Go.Joins Lw
theorem cellsI2 : Tryz.prog.cellsOf 25 = 2 := by kernel_rfl
theorem cellsW2 : Tryz.prog.cellsOf 28 = 4 := by kernel_rfl
theorem cellsI : Tryz.prog.cellsOf 3 = 1 := by kernel_rfl
theorem cellsWh : Tryz.prog.cellsOf 27 = 2 := by kernel_rfl
theorem list2 {α : Type} {l : List α} (h : l.length = 2) : ∃ a b, l = [a, b] := by
  match l, h with
  | [a, b], _ => exact ⟨a, b, rfl⟩
theorem array4' {α : Type} {cs : Array α} (h : cs.size = 4) : ∃ a b c d, cs = #[a, b, c, d] := by
  obtain ⟨l⟩ := cs
  match l, h with
  | [a, b, c, d], _ => exact ⟨a, b, c, d, rfl⟩
theorem array2' {α : Type} {cs : Array α} (h : cs.size = 2) : ∃ a b, cs = #[a, b] := by
  obtain ⟨l⟩ := cs
  match l, h with
  | [a, b], _ => exact ⟨a, b, rfl⟩
set_option maxRecDepth 100000 in
theorem ints2_open {H : Type} {enc : TypeId × Value → H} {W : World} {base : Nat} {v : Value} {d : DataW H} {p : List MemPlace}
    (hv : Value.okWide Tryz.prog W .any base 25 v) (h : DataW.Trod enc Tryz.prog W 0 (fun _ => true) true 25 v d p) :
    ∃ z1 z2, v = .agg #[.int .i64 z1, .int .i64 z2] ∧ (Lit.int .i64 z1).wf = true ∧ (Lit.int .i64 z2).wf = true := by
  simp only [Value.okWide, Tryz.underlying25] at hv
  obtain ⟨cs, rfl, hsz, _⟩ := hv
  obtain ⟨c0, c1, rfl⟩ := array2' (hsz.trans cellsI2)
  obtain ⟨fuel, hf⟩ := h
  obtain ⟨xs, m, _, _, _, hn, hi⟩ := DataW.trod_array Tryz.underlying25 hf
  obtain ⟨a, b, rfl⟩ := list2 hn
  have h0 := hi 0 (by omega)
  have h1 := hi 1 (by omega)
  rw [cellsI] at h0 h1
  obtain ⟨z1, e1, _, w1⟩ := DataW.trod_int Tryz.underlying3 (show DataW.trod enc Tryz.prog W 0 (fun _ => true) true m 3 [c0] = some a from h0)
  obtain ⟨z2, e2, _, w2⟩ := DataW.trod_int Tryz.underlying3 (show DataW.trod enc Tryz.prog W 0 (fun _ => true) true m 3 [c1] = some b from h1)
  injection e1 with e1
  injection e2 with e2
  subst e1 e2
  exact ⟨z1, z2, rfl, w1, w2⟩
set_option maxRecDepth 100000 in
theorem whole_cells {H : Type} {enc : TypeId × Value → H} {W : World} {m : Nat} {c0 c1 : Value} {y : DataW H × List MemPlace}
    (h : DataW.trod enc Tryz.prog W 0 (fun _ => true) true m 27 [c0, c1] = some y) :
    ∃ s A n c z k b, c0 = .bool s ∧ c1 = .slice A n c ∧ Opd W ⟨.agg #[.bool s, .slice A n c], z, k, b⟩ := by
  obtain ⟨y0, y1, n, _, _, h0, h1⟩ := trod_struct2 Tryz.underlying27 h
  obtain ⟨s, e0, _⟩ := DataW.trod_bool Tryz.underlying4 (show DataW.trod enc Tryz.prog W 0 (fun _ => true) true n 4 [c0] = some y0 from h0)
  injection e0 with e0
  obtain ⟨A, l, c, ns, rfl, g1, g2, g3⟩ := words_open (show DataW.trod enc Tryz.prog W 0 (fun _ => true) true n 22 [c1] = some y1 from h1)
  subst e0
  exact ⟨s, A, l, c, zv s ns, l, vB s ns, rfl, rfl, s, A, l, c, ns, W.heap.size, rfl, g1, Nat.le_refl _, g2, Nat.le_refl _, g3, rfl, rfl⟩
set_option maxRecDepth 100000 in
theorem wholes2_open {H : Type} {enc : TypeId × Value → H} {W : World} {base : Nat} {v : Value} {d : DataW H} {p : List MemPlace}
    (hv : Value.okWide Tryz.prog W .any base 28 v) (h : DataW.Trod enc Tryz.prog W 0 (fun _ => true) true 28 v d p) :
    ∃ s A n c s' A' n' c' z z' k k' b b', v = .agg #[.bool s, .slice A n c, .bool s', .slice A' n' c'] ∧ Opd W ⟨.agg #[.bool s, .slice A n c], z, k, b⟩ ∧ Opd W ⟨.agg #[.bool s', .slice A' n' c'], z', k', b'⟩ := by
  simp only [Value.okWide, Tryz.underlying28] at hv
  obtain ⟨cs, rfl, hsz, _⟩ := hv
  obtain ⟨c0, c1, c2, c3, rfl⟩ := array4' (hsz.trans cellsW2)
  obtain ⟨fuel, hf⟩ := h
  obtain ⟨xs, m, _, _, _, hn, hi⟩ := DataW.trod_array Tryz.underlying28 hf
  obtain ⟨a, b, rfl⟩ := list2 hn
  have h0 := hi 0 (by omega)
  have h1 := hi 1 (by omega)
  rw [cellsWh] at h0 h1
  obtain ⟨s, A, n, c, z, k, b1, rfl, rfl, o1⟩ := whole_cells (show DataW.trod enc Tryz.prog W 0 (fun _ => true) true m 27 [c0, c1] = some a from h0)
  obtain ⟨s', A', n', c', z', k', b2, rfl, rfl, o2⟩ := whole_cells (show DataW.trod enc Tryz.prog W 0 (fun _ => true) true m 27 [c2, c3] = some b from h1)
  exact ⟨s, A, n, c, s', A', n', c', z, z', k, k', b1, b2, rfl, o1, o2⟩
end Go.Proofs.YtdecmhcojdnokaaGreatDoor
