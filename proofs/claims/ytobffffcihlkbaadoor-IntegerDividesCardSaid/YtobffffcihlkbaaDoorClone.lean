/- Walks of slices.Clone at []uint32 and of integer.signed. -/
import Derived.Test.YtobffffcihlkbaaDoorValid
import Derived.Deep.AppendLies
namespace Lw
open Go Go.RowKit
theorem blk_of_own {w : World} {base : Nat} {e : TypeId} {v : Value} {n : Nat} {ns : List Nat} (h : w.ownsRow base e 1 v n (arr ns)) (hv : v ≠ .slice none 0 0) :
    ∃ g c, v = .slice (some ⟨g, 0, none⟩) n c ∧ base ≤ g ∧ n ≤ c ∧ Blk w g e ns := by
  rcases h.2 with ⟨h0, _⟩ | ⟨g, cap, cur, hv', hb, hg, hnc, hcm, hcs, htake⟩
  · exact absurd h0 hv
  · refine ⟨g, cap, hv', hb, hnc, cur.toList.drop (n * 1), ?_⟩
    rw [hg, ← htake, List.take_append_drop]
end Lw
namespace Go.Proofs.YtobffffcihlkbaaDoor
open Go Go.RowKit Lw
def CloneOut (w : World) (ns : List Nat) (n : Nat) (e : Ending) (w' : World) : Prop :=
  ∃ A c, e = .returned (.slice A n c) ∧ n ≤ c ∧ (0 < n → ∃ g, A = some ⟨g, 0, none⟩ ∧ w.heap.size ≤ g ∧ Blk w' g 46 ns) ∧ Rd w' w'.heap.size A ns ∧ Below w.heap.size w w'

set_option maxRecDepth 100000 in
set_option maxHeartbeats 800000 in
theorem clone_any (A : Option Addr) (ns : List Nat) (n c B : Nat) (w : World) (h : Rd w B A ns) (hB : B ≤ w.heap.size) (hn : ns.length = n) (hl : n ≤ 16777216) :
    Calls Tryd.prog 44 #[.slice A n c] w (CloneOut w ns n) := by
  have hq := fun (W : World) (A : Option Addr) => Lib.run_eql_slice_nil (P := Tryd.prog) W 22 46 A n c 0 0 Tryd.underlying22
  rcases A with _ | ad
  · have h0 : n = 0 := by
      rcases Nat.eq_zero_or_pos n with h0 | h0
      · exact h0
      · obtain ⟨b, off, hA, _⟩ := h.2 (by omega)
        cases hA
    subst h0
    have e0 : ns = [] := List.eq_nil_of_length_eq_zero hn
    subst e0
    clear hn
    go_enter Tryd.func44, Tryd.ntmps44
    go_wp2
    go_ret
    exact ⟨none, 0, rfl, Nat.le_refl _, fun h => absurd h (by omega), Rd.nil_ _ _ _, Below.refl _ _⟩
  · obtain ⟨i0, hi0, hz0, hz1, hz2⟩ := info_parts info32
    have Hn := Lib.hid hn
    clear hn
    go_enter Tryd.func44, Tryd.ntmps44
    have hown : (w.alloc (.cells #[] 46)).ownsRow w.heap.size 46 1 (.slice (some ⟨w.heap.size, 0, none⟩) 0 0) 0 [] := World.ownsRow_lit w #[] 0 (Nat.le_refl _) (by simp [maxLen]) (by simp)
    have hnews : ∀ j u, (arr ns)[j]? = some u → (w.alloc (.cells #[] 46)).cell? (ad.add j) = some u := by
      intro j u hu
      have hj : j < ns.length := by
        rcases Nat.lt_or_ge j ns.length with h1 | h1
        · exact h1
        · rw [List.getElem?_eq_none (by rw [length_arr]; exact h1)] at hu; cases hu
      obtain ⟨b, off, hA, hb, hcell⟩ := (h.alloc hB (.cells #[] 46)).2 (by omega)
      rw [arr_get? ns j hj] at hu
      injection hA with hA
      subst hA
      rw [← hu, ← hcell j hj]
      congr 1
      unfold Addr.add
      split
      · rename_i h0; subst h0; rfl
      · rfl
    have h1 : ∀ u ∈ arr ns, u.oneCell' = true := by
      intro u hu
      unfold arr at hu
      rw [List.mem_map] at hu
      obtain ⟨x, _, rfl⟩ := hu
      rfl
    have hl1 : (arr ns).length = n * 1 := by rw [length_arr, Hn.out, Nat.mul_one]
    have Hnews := Lib.hid hnews
    have H1 := Lib.hid h1
    have Hl1 := Lib.hid hl1
    clear hnews h1 hl1
    go_wp2_with (at_builtin; refine wpList_append_own _ rfl _ _ 22 rfl w.heap.size 46 i0 _ 1 4 Tryd.underlying22 hi0 hz0 hz1 hz2 rfl (by decide) _ 0 [] rfl hown ad n c (arr ns) rfl Hl1.out Hnews.out H1.out (by unfold maxLen; omega) (by omega) (by simp) ?_; intro v' w1 hown1 hgrow1 hnil)
    go_ret
    rw [Nat.zero_add, List.nil_append] at hown1
    obtain ⟨g, c', rfl, hg, hc', hblk⟩ := blk_of_own hown1 (by intro e; have h1 := (hnil.1 e).1; cases h1)
    have hgl := hblk.lt
    refine ⟨some ⟨g, 0, none⟩, c', rfl, hc', fun _ => ⟨g, rfl, hg, hblk⟩, hblk.rd h.wds, ((Below.refl _ _).alloc (Nat.le_refl _) _).grown hgrow1 (by simp) (fun k hk => ?_)⟩
    have e : some w.heap.size = some k := hk
    injection e with e
    exact Nat.le_of_eq e

set_option maxHeartbeats 800000 in
theorem signed_any (s : Bool) (A : Option Addr) (N : Nat) (n c B : Nat) (z : Int) (w : World) (h : Rd w B A (digs N)) (hB : B ≤ w.heap.size) (hn : (digs N).length = n) (hc : n ≤ c) (hz : z = if s then -(N : Int) else (N : Int)) :
    Calls Tryd.prog 24 #[.bool s, .slice A n c] w (WOut w B z) := by
  by_cases h0 : N = 0
  · subst h0
    have e0 : n = 0 := by rw [← hn]; rfl
    have ez : z = 0 := by rw [hz]; split <;> rfl
    subst e0
    subst ez
    clear hn hz
    go_enter Tryd.func24, Tryd.ntmps24
    go_wp2
    refine bodyPost_ret (v := .agg #[.bool false, .slice none 0 0]) (by simp [results, Tryd.results24, go_sem]) rfl ?_
    exact ⟨none, 0, rfl, Nat.le_refl _, Rd.nil_ _ _ _, (Below.refl _ _).alloc (Nat.le_refl _) _⟩
  · have hb : ((n : Int) == 0) = false := by
      rw [beq_eq_false_iff_ne]
      intro e
      exact h0 (digs_eq_nil.1 (List.eq_nil_of_length_eq_zero (by omega)))
    have Hz : Hid (sg z = s ∧ mg z = digs N) := Lib.hid (sgmg h0 hz)
    clear hz
    go_enter Tryd.func24, Tryd.ntmps24
    go_wp2
    refine bodyPost_ret (v := .agg #[.bool s, .slice A n c]) (by simp [results, Tryd.results24, go_sem]) rfl ?_
    refine ⟨A, c, by rw [Hz.out.1, Hz.out.2, hn], by rw [Hz.out.2, hn]; exact hc, by rw [Hz.out.2]; exact h.alloc hB _, (Below.refl _ _).alloc (Nat.le_refl _) _⟩
end Go.Proofs.YtobffffcihlkbaaDoor
