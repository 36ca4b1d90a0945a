/- Walk of the law's short. -/
import Derived.Test.YtobffffcihlkbaaDoorAwake
namespace Lw
open Go Go.RowKit
/-- A struct argument: the sign, and the slice's three parts. -/
structure Wh where
  s : Bool
  A : Option Addr
  n : Nat
  c : Nat
def Wh.cells (a : Wh) : List Value := [.bool a.s, .slice a.A a.n a.c]
def whs (l : List Wh) : List Value := (l.map Wh.cells).flatten
theorem whs_get (l : List Wh) (i : Nat) (h : i < l.length) : (whs l)[i * 2]? = some (.bool l[i].s) ∧ (whs l)[i * 2 + 1]? = some (.slice l[i].A l[i].n l[i].c) := by
  induction l generalizing i with
  | nil => simp at h
  | cons a l ih =>
    have e : whs (a :: l) = .bool a.s :: .slice a.A a.n a.c :: whs l := rfl
    rw [e]
    cases i with
    | zero => exact ⟨rfl, rfl⟩
    | succ i =>
      have := ih i (by simpa using h)
      rw [show (i + 1) * 2 = i * 2 + 1 + 1 by omega, show i * 2 + 1 + 1 + 1 = (i * 2 + 1) + 1 + 1 by omega]
      simpa using this
/-- All have few words. -/
def few (l : List Wh) : Bool := l.all fun a => decide (a.n ≤ 30)
theorem few_yes {l : List Wh} (h : ∀ j, (hj : j < l.length) → l[j].n ≤ 30) : few l = true := by
  unfold few
  rw [List.all_eq_true]
  intro a ha
  obtain ⟨j, hj, rfl⟩ := List.getElem_of_mem ha
  exact decide_eq_true (h j hj)
theorem few_no {l : List Wh} {j : Nat} (hj : j < l.length) (h : ¬ l[j].n ≤ 30) : few l = false := by
  unfold few
  rw [Bool.eq_false_iff]
  intro ha
  rw [List.all_eq_true] at ha
  exact h (of_decide_eq_true (ha _ (List.getElem_mem hj)))
end Lw
namespace Go.Proofs.YtobffffcihlkbaaDoor
open Go Go.RowKit Lw
set_option maxHeartbeats 1600000 in
theorem short_any (L : List Wh) (g k : Nat) (t : TypeId) (w : World) (hg : w.heap[g]? = some (.cells (whs L).toArray t (0, 0))) (hk : L.length = k) (hs : k ≤ 16) :
    Calls Tryd.prog 5 #[.slice (some ⟨g, 0, none⟩) k k] w fun e w' => e = .returned (.bool (few L)) ∧ Below w.heap.size w w' := by
  have Hg := Lib.hid hg
  have Hk := Lib.hid hk
  have hlt : g < w.heap.size := by
    rcases Nat.lt_or_ge g w.heap.size with hlt | hge
    · exact hlt
    · rw [Array.getElem?_eq_none hge] at hg; cases hg
  clear hg hk
  go_enter Tryd.func5, Tryd.ntmps5
  go_wp2_with fail
  go_loopw [7] (fun iv wr => ∃ i : Nat, i ≤ k ∧ iv = .int .i64 i ∧ Hid (∀ j, (h : j < L.length) → j < i → L[j].n ≤ 30) ∧ Below w.heap.size w wr) (fun iv _ => k - (intOf iv).toNat)
  case atStart => exact ⟨0, by omega, rfl, Lib.hid (fun j h h0 => absurd h0 (by omega)), Below.refl _ _⟩
  case round =>
    obtain ⟨i, hi, rfl, hall, hb⟩ := hrel
    by_cases h : i < k
    · have hL : i < L.length := by rw [Hk.out]; exact h
      have hgw : wr.heap[g]? = some (.cells (whs L).toArray t (0, 0)) := (hb.block g hlt).trans Hg.out
      have hc0 : wr.cell? ⟨g, i * 2, none⟩ = some (.bool L[i].s) := by rw [cell_of_row wr g _ _ t (0, 0) hgw, List.getElem?_toArray]; exact (whs_get L i hL).1
      have hc1 : wr.cell? ⟨g, i * 2 + 1, none⟩ = some (.slice L[i].A L[i].n L[i].c) := by rw [cell_of_row wr g _ _ t (0, 0) hgw, List.getElem?_toArray]; exact (whs_get L i hL).2
      have HN : Hid (L[i].n ≤ 30 → ∀ j, (h : j < L.length) → j < i + 1 → L[j].n ≤ 30) := Lib.hid (fun hi j hj hji => by
        rcases Nat.lt_or_ge j i with h1 | h1
        · exact hall.out j hj h1
        · obtain rfl : j = i := by omega
          exact hi)
      have HF : Hid (¬ L[i].n ≤ 30 → few L = false) := Lib.hid (fun h => few_no hL h)
      generalize L[i] = a at *
      clear hgw hL hall
      obtain ⟨s, A, n, c⟩ := a
      have hbb := hb.alloc hb.size (.cells #[.bool s, .slice A n c] 24)
      by_cases hn : n ≤ 30
      · have HR := Lib.hid (HN.out hn)
        clear HN HF
        go_wp2_with fail
        go_roundw
        case rel => exact ⟨i + 1, by omega, by simp, HR, hbb⟩
        case measure => simp [intOf]; omega
      · have HR := Lib.hid (HF.out hn)
        clear HN HF
        go_wp2_with fail
        go_ret
        exact ⟨ret_bool HR.out.symm, hbb⟩
    · have HR : Hid (few L = true) := Lib.hid (few_yes fun j hj => hall.out j hj (by have := Hk.out; omega))
      clear hall
      go_wp2_with fail
      go_ret
      exact ⟨ret_bool HR.out.symm, hb⟩
end Go.Proofs.YtobffffcihlkbaaDoor
