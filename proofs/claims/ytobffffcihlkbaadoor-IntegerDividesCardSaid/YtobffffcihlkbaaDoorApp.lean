/- append of words onto a row of the call's own, whatever the source: nil, empty or not. -/
import Derived.Test.YtobffffcihlkbaaDoorClone
import Derived.Laws.AppendOwnNone
namespace Lw
open Go Go.RowKit
theorem addr_add (b off j : Nat) : (⟨b, off, none⟩ : Addr).add j = ⟨b, off + j, none⟩ := by
  unfold Addr.add; split
  · rename_i h0; subst h0; rfl
  · rfl
theorem run_append_none {P : Program} (w : World) (base : Nat) (t ty e : TypeId) (i : TypeInfo) (ht : P.underlying t = some (.slice e)) (hi : P.info? e = some i)
    (v : Value) (n : Nat) (xs : List Value) (hown : w.ownsRow base e 1 v n xs) (c : Nat) : (Builtin.append_ #[t, t] ty #[v, .slice none 0 c]).run P w = .ok v w := by
  rcases hown.2 with ⟨rfl, rfl⟩ | ⟨g, cap, cur, rfl, _, _, hnc, _⟩
  · simp [Builtin.append_, run_underlying ht, Go.sizeOf, typeInfo, hi, Builtin.lenOf, Builtin.firstCells]
  · simp [Builtin.append_, run_underlying ht, Go.sizeOf, typeInfo, hi, Builtin.lenOf, Builtin.firstCells, hnc, storeCells]
theorem arr_append (a b : List Nat) : arr (a ++ b) = arr a ++ arr b := by simp [arr]
theorem Blk.take {w : World} {g : Nat} {t : TypeId} {ns : List Nat} (h : Blk w g t ns) (k : Nat) : Blk w g t (ns.take k) := by
  obtain ⟨rest, h⟩ := h
  refine ⟨arr (ns.drop k) ++ rest, ?_⟩
  rw [h, ← List.append_assoc, ← arr_append, List.take_append_drop]
theorem Blk.digs {w : World} {g : Nat} {t : TypeId} {ns : List Nat} (h : Blk w g t ns) (hw : Wds ns) : Blk w g t (digs (val ns)) := by
  rw [digs_prefix hw]; exact h.take _
theorem arr_one (ns : List Nat) : ∀ u ∈ arr ns, u.oneCell' = true := by
  intro u hu
  unfold arr at hu
  rw [List.mem_map] at hu
  obtain ⟨x, _, rfl⟩ := hu
  rfl
theorem Rd.cells {w : World} {B : Nat} {ad : Addr} {ms : List Nat} (h : Rd w B (some ad) ms) : ∀ j u, (arr ms)[j]? = some u → w.cell? (ad.add j) = some u := by
  intro j u hu
  have hj : j < ms.length := by
    rcases Nat.lt_or_ge j ms.length with h1 | h1
    · exact h1
    · rw [List.getElem?_eq_none (by rw [length_arr]; exact h1)] at hu; cases hu
  obtain ⟨b, off, hA, hb, hcell⟩ := h.2 (by omega)
  rw [arr_get? ms j hj] at hu
  injection hA with hA
  subst hA
  rw [← hu, ← hcell j hj, addr_add]
theorem wpList_append32 {P : Program} (w : World) {ops : Array Oper} {rest : List Oper} {o : Oper} {a : Act} {Q : Exit → Act → World → Prop} (hgd : o.guard = none) (s x : Operand) (t : TypeId)
    (ho : o.op = .call { callee := .builtin .append, args := #[s, x], argTypes := #[t, t] })
    (base : Nat) (e : TypeId) (ht : P.underlying t = some (.slice e)) (hinfo : (P.info? e).map (fun i => (i.zero, i.size, i.bytes)) = some (some (.int .u32 0), 1, 4))
    (v : Value) (n : Nat) (ns : List Nat) (hs : a.eval s = v) (hown : w.ownsRow base e 1 v n (arr ns))
    (B : Nat) (A : Option Addr) (ms : List Nat) (m c : Nat) (hx : a.eval x = .slice A m c) (hr : Rd w B A ms) (hm : ms.length = m) (hlim : n + m ≤ 1099511627776) (hbase : base ≤ w.heap.size)
    (h : ∀ v' w', w'.ownsRow base e 1 v' (n + m) (arr (ns ++ ms)) → w.grownBy w' v.ownBlock → (v' = .slice none 0 0 ↔ v = .slice none 0 0 ∧ m = 0) → wpList P ops Q rest (a.put o.dst v') w') : wpList P ops Q (o :: rest) a w := by
  obtain ⟨i, h2, h3, h4, h5⟩ := info_parts hinfo
  rcases A with _ | ad
  · have h0 : m = 0 := by
      rcases Nat.eq_zero_or_pos m with h0 | h0
      · exact h0
      · obtain ⟨b, off, hA, _⟩ := hr.2 (by omega)
        cases hA
    subst h0
    have e0 : ms = [] := List.eq_nil_of_length_eq_zero hm
    subst e0
    refine wpList_plain hgd fun K hK => ?_
    have hrun := run_append_none (P := P) w base t o.type e i ht h2 v n (arr ns) hown c
    unfold Oper.wp
    simp [execOp, ho, resolve, invoke, builtin, hs, hx, hrun, Result.andThen]
    refine hK _ _ (h v w ?_ (World.grownBy.refl w _) ⟨fun hv => ⟨hv, rfl⟩, fun hv => hv.1⟩)
    rw [List.append_nil]; exact hown
  · refine wpList_append_own w hgd s x t ho base e i _ 1 4 ht h2 h3 h4 h5 rfl (by decide) v n (arr ns) hs hown ad m c (arr ms) hx (by rw [length_arr, hm, Nat.mul_one]) hr.cells (arr_one ms) (by unfold maxLen; omega) (by omega) hbase ?_
    intro v' w' h1 h2 h3
    rw [← arr_append] at h1
    exact h v' w' h1 h2 h3
end Lw
