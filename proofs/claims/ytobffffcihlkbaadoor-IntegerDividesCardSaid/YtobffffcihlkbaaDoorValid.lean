/- Walks of integer: Valid, known, signed. -/
import Derived.Test.YtobffffcihlkbaaDoorMul
import Derived.Test.YtobffffcihlkbaaDoorBox
namespace Lw
open Go Go.RowKit
/-- The sign and the words of an integer. -/
def sg (z : Int) : Bool := decide (z < 0)
def mg (z : Int) : List Nat := digs z.natAbs
theorem mg_wds (z : Int) : Wds (mg z) := wds_digs _
theorem mg_trm (z : Int) : Trm (mg z) := trm_digs _
theorem val_mg (z : Int) : val (mg z) = z.natAbs := val_digs _
theorem mg_zero : mg 0 = [] := rfl
theorem sg_zero : sg 0 = false := rfl
theorem sg_mg (z : Int) : z = if sg z then -(val (mg z) : Int) else (val (mg z) : Int) := by
  rw [val_mg]; unfold sg
  by_cases h : z < 0
  · simp [h]; omega
  · simp [h]; omega
theorem sgmg {s : Bool} {N : Nat} {z : Int} (h0 : N ≠ 0) (hz : z = if s then -(N : Int) else (N : Int)) : sg z = s ∧ mg z = digs N := by
  unfold sg mg
  have hn : z.natAbs = N := by rw [hz]; split <;> omega
  rw [hn]
  refine ⟨?_, rfl⟩
  rw [hz]
  cases s <;> simp <;> omega
/-- Whether a sign and a list of words are valid. -/
def vB (s : Bool) (ns : List Nat) : Bool := if ns.length = 0 then !s else dg ns (ns.length - 1) != 0
/-- What a sign and a list of words stand for. -/
def zv (s : Bool) (ns : List Nat) : Int := if vB s ns then (if s then -(val ns : Int) else (val ns : Int)) else 0
theorem zv_natAbs_le (s : Bool) (ns : List Nat) : (zv s ns).natAbs ≤ val ns := by
  unfold zv; split
  · split <;> omega
  · simp
theorem zv_len {s : Bool} {ns : List Nat} (h : Wds ns) : (mg (zv s ns)).length ≤ ns.length :=
  digs_length_le (Nat.lt_of_le_of_lt (zv_natAbs_le s ns) (val_lt h))
theorem valid_trm {s : Bool} {ns : List Nat} (h : vB s ns = true) : Trm ns := by
  unfold vB at h
  split at h
  · rename_i h0
    rw [List.eq_nil_of_length_eq_zero h0]; exact trm_nil
  · exact trm_of_last (by simpa using h)
theorem valid_form {s : Bool} {ns : List Nat} {z : Int} (h : vB s ns = true) (hz : z = if s then -(val ns : Int) else (val ns : Int)) (hw : Wds ns) :
    sg z = s ∧ mg z = ns ∧ Trm ns := by
  unfold sg mg
  have ht := valid_trm h
  have hn : z.natAbs = val ns := by rw [hz]; split <;> omega
  refine ⟨?_, by rw [hn]; exact digs_val hw ht, ht⟩
  rw [hz]
  cases s
  · simp
  · have h0 : ns ≠ [] := by
      intro e; subst e
      simp [vB] at h
    have := trm_pos ht h0
    simp; omega
end Lw
namespace Go.Proofs.YtobffffcihlkbaaDoor
open Go Go.RowKit Lw
theorem ret_bool {a b : Bool} (h : a = b) : Ending.returned (.bool a) = Ending.returned (.bool b) := by rw [h]
set_option maxHeartbeats 800000 in
theorem valid_any (s : Bool) (A : Option Addr) (ns : List Nat) (n c B : Nat) (w : World) (h : Rd w B A ns) (hB : B ≤ w.heap.size) (hn : ns.length = n) (hl : n ≤ 16777216) :
    Calls Tryd.prog 42 #[.agg #[.bool s, .slice A n c]] w fun e w' => e = .returned (.bool (vB s ns)) ∧ Below w.heap.size w w' := by
  have Hn := Lib.hid hn
  clear hn
  by_cases h0 : n = 0
  · subst h0
    go_enter Tryd.func42, Tryd.ntmps42
    go_wp2
    go_ret
    refine ⟨ret_bool ?_, ?_⟩
    · unfold vB; rw [if_pos Hn.out]
    · exact (Below.refl _ _).alloc (Nat.le_refl _) _
  · obtain ⟨b, off, rfl, hb, hcell, hlt⟩ := h.at_ (k := n - 1) (by rw [Hn.out]; omega)
    have hb1 : ((n : Int) == 0) = false := by simp; omega
    have hbs : b < w.heap.size := by omega
    go_enter Tryd.func42, Tryd.ntmps42
    go_wp2
    go_ret
    refine ⟨ret_bool ?_, (Below.refl _ _).alloc (Nat.le_refl _) _⟩
    unfold vB
    rw [if_neg (by rw [Hn.out]; exact h0), Hn.out, Bool.eq_iff_iff, bne_iff_ne, bne_iff_ne]
    exact not_congr Int.ofNat_inj

/-- The value of an integer: its sign, and its words at an address. -/
def WOut (w : World) (B : Nat) (z : Int) (e : Ending) (w' : World) : Prop :=
  ∃ A c, e = .returned (.agg #[.bool (sg z), .slice A (mg z).length c]) ∧ (mg z).length ≤ c ∧ Rd w' B A (mg z) ∧ Below w.heap.size w w'

/-- What an exported function hands back: an integer in new memory. -/
def ZOut (w : World) (z : Int) (e : Ending) (w' : World) : Prop :=
  ∃ A c, e = .returned (.agg #[.bool (sg z), .slice A (mg z).length c]) ∧ (mg z).length ≤ c ∧ Rd w' w'.heap.size A (mg z) ∧ Below w.heap.size w w'
theorem zout_put {w W : World} {B g n c c' : Nat} {t : TypeId} {s : Bool} {A A' : Option Addr} {z : Int} (h2 : Two W g t (.bool s) (.slice A' n c)) (hr : Rd W B A (mg z)) (hB : B ≤ W.heap.size) (hc : (mg z).length ≤ c')
    (hb : Below w.heap.size w W) (hg : w.heap.size ≤ g) :
    ZOut w z (.returned (.agg #[.bool (sg z), .slice A (mg z).length c'])) ((W.setCell ⟨g, 0, none⟩ (.bool (sg z))).setCell ⟨g, 1, none⟩ (.slice A (mg z).length c')) :=
  ⟨A, c', rfl, hc, (hr.putTwo h2 _ _).more (by simpa using hB), (hb.setCell hg _).setCell hg _⟩

set_option maxHeartbeats 800000 in
theorem known_any (s : Bool) (A : Option Addr) (ns : List Nat) (n c B : Nat) (w : World) (h : Rd w B A ns) (hB : B ≤ w.heap.size) (hn : ns.length = n) (hl : n ≤ 16777216) (hc : n ≤ c) :
    Calls Tryd.prog 20 #[.agg #[.bool s, .slice A n c]] w (WOut w B (zv s ns)) := by
  cases hv : vB s ns
  · have hz : Hid (zv s ns = 0) := Lib.hid (by unfold zv; rw [hv]; rfl)
    go_enter Tryd.func20, Tryd.ntmps20
    go_wp2_with fail
    refine (valid_any s A ns n c B _ ((h.alloc hB _).alloc (by simp; omega) _) (by simp; omega) hn hl).mono ?_
    rintro e w1 ⟨rfl, hb1⟩
    obtain ⟨t1, t2, hs1, hb2⟩ := box2 hb1
    obtain ⟨c10, c11, f10, f11⟩ := t1.facts
    obtain ⟨c20, c21, f20, f21⟩ := t2.facts
    go_wp2_with fail
    refine bodyPost_ret (v := .agg #[.bool false, .slice none 0 0]) (by simp [results, Tryd.results20, go_sem, c20, c21]) rfl ?_
    rw [hz.out]
    exact ⟨none, 0, rfl, Nat.le_refl _, Rd.nil_ _ _ _, (hb2.setCell (by simp) _).setCell (by simp) _⟩
  · have hz : Hid (zv s ns = if s then -(val ns : Int) else (val ns : Int)) := Lib.hid (by unfold zv; rw [hv]; rfl)
    have Hv := Lib.hid hv
    go_enter Tryd.func20, Tryd.ntmps20
    go_wp2_with fail
    refine (valid_any s A ns n c B _ ((h.alloc hB _).alloc (by simp; omega) _) (by simp; omega) hn hl).mono ?_
    rintro e w1 ⟨rfl, hb1⟩
    obtain ⟨t1, t2, hs1, hb2⟩ := box2 hb1
    obtain ⟨c10, c11, f10, f11⟩ := t1.facts
    obtain ⟨c20, c21, f20, f21⟩ := t2.facts
    go_wp2_with fail
    refine bodyPost_ret (v := .agg #[.bool s, .slice A n c]) (by simp [results, Tryd.results20, go_sem, c20, c21]) rfl ?_
    obtain ⟨e1, e2, e3⟩ := valid_form Hv.out hz.out h.wds
    refine ⟨A, c, ?_, by rw [e2, hn]; exact hc, ?_, (hb2.setCell (by simp) _).setCell (by simp) _⟩
    · rw [e1, e2, hn]
    · rw [e2]
      exact (((h.below (hb2.mono hB)).setCell (by simp; omega) _).setCell (by simp; omega) _)
end Go.Proofs.YtobffffcihlkbaaDoor
