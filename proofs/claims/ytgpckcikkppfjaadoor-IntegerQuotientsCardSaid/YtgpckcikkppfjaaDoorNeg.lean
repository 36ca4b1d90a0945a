/- Walks of integer: Neg, Sign, Cmp. -/
import Derived.Test.YtgpckcikkppfjaaDoorClone
import Derived.Deep.RegionHeld3
import Derived.Deep.DrawnRows
namespace Lw
theorem neg_form (z : Int) : -z = if (!sg z) = true then -(z.natAbs : Int) else (z.natAbs : Int) := by
  unfold sg
  by_cases hz : z < 0
  · simp [hz]; omega
  · simp [hz]; omega
end Lw
namespace Go.Proofs.YtgpckcikkppfjaaDoor
open Go Go.RowKit Lw
attribute [local go_sem ↓] Go.wp_at_zero Go.wp_at_succ
set_option maxHeartbeats 1600000 in
theorem neg_any (s : Bool) (A : Option Addr) (ns : List Nat) (n c B : Nat) (w : World) (h : Rd w B A ns) (hB : B ≤ w.heap.size) (hn : ns.length = n) (hl : n ≤ 16777216) (hc : n ≤ c) :
    Calls Tryd.prog 22 #[.agg #[.bool s, .slice A n c]] w (ZOut w (- zv s ns)) := by
  go_enter Tryd.func22, Tryd.ntmps22
  go_wp2_with fail
  refine (known_any s A ns n c B _ ((h.alloc hB _).alloc (by simp; omega) _) (by simp; omega) hn hl hc).mono ?_
  rintro e w1 ⟨A1, c1, rfl, hc1, hr1, hb1⟩
  obtain ⟨t1, t2, hs1, hb2⟩ := box2 hb1
  obtain ⟨c10, c11, f10, f11⟩ := t1.facts
  obtain ⟨c20, c21, f20, f21⟩ := t2.facts
  have hlz := zv_len (s := s) h.wds
  rw [hn] at hlz
  generalize hz : zv s ns = z at *
  have Hz := Lib.hid hz
  clear hz
  go_wp2_with fail
  have T1 := t1.put (.bool (sg z)) (.slice A1 (mg z).length c1)
  have T2 := (t2.far (p := ⟨w.heap.size, 0, none⟩) (by simp) (.bool (sg z))).far (p := ⟨w.heap.size, 1, none⟩) (by simp) (.slice A1 (mg z).length c1)
  have hr2 := (hr1.setCell (p := ⟨w.heap.size, 0, none⟩) hB (.bool (sg z))).setCell (p := ⟨w.heap.size, 1, none⟩) hB (.slice A1 (mg z).length c1)
  have hb3 := (hb2.setCell (p := ⟨w.heap.size, 0, none⟩) (Nat.le_refl _) (.bool (sg z))).setCell (p := ⟨w.heap.size, 1, none⟩) (Nat.le_refl _) (.slice A1 (mg z).length c1)
  clear c10 c11 f10 f11 c20 c21 f20 f21 t1 t2 hr1 hb1 hs1 hb2
  generalize ((w1.setCell ⟨w.heap.size, 0, none⟩ (.bool (sg z))).setCell ⟨w.heap.size, 1, none⟩ (.slice A1 (mg z).length c1)) = W at *
  obtain ⟨c10, c11, f10, f11⟩ := T1.facts
  obtain ⟨c20, c21, f20, f21⟩ := T2.facts
  have hl2 := T2.lt
  go_region_held3 (fun w' => w'.cell? ⟨w.heap.size, 0, none⟩ = some (.bool (sg z)) ∧ w'.cell? ⟨w.heap.size, 1, none⟩ = some (.slice A1 (mg z).length c1)) (go_keep)
    (first
      | (go_at_call 50; refine (clone_any A1 (mg z) _ c1 B _ (by first | exact hr2.drew | exact hr2.drewN _ | exact hr2) (by simp; omega) rfl (by omega)).mono ?_; rintro e w2 ⟨A2, c2, rfl, hc2, hg2, hr3, hb4⟩; have U1 := T1.drew.below hb4 T1.lt; have U2 := T2.drew.below hb4 T2.lt; obtain ⟨d10, d11, g10, g11⟩ := U1.facts)
      | (go_at_call 32; refine (signed_any (!sg z) A2 z.natAbs _ c2 _ (-z) _ (by first | exact hr3.drew | exact hr3.drewN _ | exact hr3) (by simp) rfl hc2 (neg_form z)).mono ?_; rintro e w3 ⟨A3, c3, rfl, hc3, hr4, hb5⟩; have V1 := U1.below hb5 U1.lt; have V2 := U2.below hb5 U2.lt; obtain ⟨i10, i11, j10, j11⟩ := V1.facts; obtain ⟨i20, i21, j20, j21⟩ := V2.facts))
  go_wp2
  refine bodyPost_ret (v := .agg #[.bool (sg (-z)), .slice A3 (mg (-z)).length c3]) (by simp [results, Tryd.results22, go_sem, i20, i21]) rfl ?_
  exact zout_put V2 hr4 hb5.size hc3 (below_next (below_next hb3.drew hb4 (Nat.le_refl _)) hb5 (Nat.le_refl _)) (by simp)
end Go.Proofs.YtgpckcikkppfjaaDoor
