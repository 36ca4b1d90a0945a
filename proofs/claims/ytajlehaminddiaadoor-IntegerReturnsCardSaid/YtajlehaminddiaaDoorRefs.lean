/- Walks of the reference of layer 1: Of, Same, Int, Sign, Bits. -/
import Derived.Test.YtajlehaminddiaaDoorRef
namespace Go.Proofs.YtajlehaminddiaaDoor
open Go Go.RowKit Lw
theorem blk_two' (w : World) (t : TypeId) {o : Obj} {a b : Int} {x y : Nat} (ha : a = x) (hb : b = y) : Blk ((w.alloc o).alloc (.cells #[.int .u32 a, .int .u32 b] t)) (w.heap.size + 1) t [x, y] := by
  have := blk_two (w.alloc o) t ha hb
  simpa using this
set_option maxHeartbeats 800000 in
theorem refof_any (z : Int) (w : World) (h1 : -9223372036854775808 ≤ z) (h2 : z ≤ 9223372036854775807) :
    Calls Tryd.prog 19 #[.int .i64 z] w (ZOut w z) := by
  by_cases h0 : z < 0
  · obtain ⟨D, N, hD, hN, hNz, hNl, hDl⟩ := wrap_neg h1 h0
    have HN := Lib.hid hNz
    clear hNz
    have hblk := blk_two' w 56 (o := .cells #[.bool false, .slice none 0 0] 24) (a := (N : Int) % 4294967296) (b := (N : Int) / 4294967296) (x := N % 4294967296) (y := N / 4294967296) (by omega) (by omega)
    have hw : Wds [N % 4294967296, N / 4294967296] := wds_two (by omega) (by omega)
    have hz : Hid (z = if true then -(val [N % 4294967296, N / 4294967296] : Int) else (val [N % 4294967296, N / 4294967296] : Int)) := Lib.hid (by rw [HN.out, val_two]; simp; omega)
    go_enter Tryd.func19, Tryd.ntmps19
    go_wp2_with fail
    refine (form_any true _ [N % 4294967296, N / 4294967296] 2 2 _ z _ (hblk.rd hw) (Nat.le_refl _) rfl (by omega) hz.out).mono ?_
    rintro e w2 ⟨A2, c2, rfl, hc2, hr2, hb3⟩
    have t1 := ((Two.new w 24 (.bool false) (.slice none 0 0)).alloc (.cells #[.int .u32 ((N : Int) % 4294967296), .int .u32 ((N : Int) / 4294967296)] 56)).next hb3
    have hb2 := below_next (((Below.refl w.heap.size w).alloc (Nat.le_refl _) (.cells #[.bool false, .slice none 0 0] 24)).alloc (by simp) (.cells #[.int .u32 ((N : Int) % 4294967296), .int .u32 ((N : Int) / 4294967296)] 56)) hb3 (by simp)
    obtain ⟨d0, d1, g0, g1⟩ := t1.facts
    go_wp2_with fail
    refine bodyPost_ret (v := .agg #[.bool (sg z), .slice A2 (mg z).length c2]) (by simp [results, Tryd.results19, go_sem, d0, d1]) rfl ?_
    exact zout_put t1 hr2 (Nat.le_refl _) hc2 hb2 (Nat.le_refl _)
  · obtain ⟨N, rfl⟩ := Int.eq_ofNat_of_zero_le (show 0 ≤ z by omega)
    have hblk := blk_two' w 56 (o := .cells #[.bool false, .slice none 0 0] 24) (a := (N : Int) % 4294967296) (b := (N : Int) / 4294967296) (x := N % 4294967296) (y := N / 4294967296) (by omega) (by omega)
    have hw : Wds [N % 4294967296, N / 4294967296] := wds_two (by omega) (by omega)
    have hz : Hid ((N : Int) = if false then -(val [N % 4294967296, N / 4294967296] : Int) else (val [N % 4294967296, N / 4294967296] : Int)) := Lib.hid (by rw [val_two]; simp; omega)
    go_enter Tryd.func19, Tryd.ntmps19
    go_wp2_with fail
    refine (form_any false _ [N % 4294967296, N / 4294967296] 2 2 _ (N : Int) _ (hblk.rd hw) (Nat.le_refl _) rfl (by omega) hz.out).mono ?_
    rintro e w2 ⟨A2, c2, rfl, hc2, hr2, hb3⟩
    have t1 := ((Two.new w 24 (.bool false) (.slice none 0 0)).alloc (.cells #[.int .u32 ((N : Int) % 4294967296), .int .u32 ((N : Int) / 4294967296)] 56)).next hb3
    have hb2 := below_next (((Below.refl w.heap.size w).alloc (Nat.le_refl _) (.cells #[.bool false, .slice none 0 0] 24)).alloc (by simp) (.cells #[.int .u32 ((N : Int) % 4294967296), .int .u32 ((N : Int) / 4294967296)] 56)) hb3 (by simp)
    obtain ⟨d0, d1, g0, g1⟩ := t1.facts
    go_wp2_with fail
    refine bodyPost_ret (v := .agg #[.bool (sg (N : Int)), .slice A2 (mg (N : Int)).length c2]) (by simp [results, Tryd.results19, go_sem, d0, d1]) rfl ?_
    exact zout_put t1 hr2 (Nat.le_refl _) hc2 hb2 (Nat.le_refl _)

set_option maxHeartbeats 1600000 in
theorem same_any (s : Bool) (A A' : Option Addr) (ns : List Nat) (n c c' B B' : Nat) (w : World) (h : Rd w B A ns) (h' : Rd w B' A' ns) (hB : B ≤ w.heap.size) (hB' : B' ≤ w.heap.size) (hn : ns.length = n) (hl : n ≤ 4294967296) :
    Calls Tryd.prog 17 #[.agg #[.bool s, .slice A n c], .agg #[.bool s, .slice A' n c']] w fun e w' => e = .returned (.bool true) ∧ Below w.heap.size w w' := by
  have Hn := Lib.hid hn
  clear hn
  have hbn : (s != s) = false := by simp
  go_enter Tryd.func17, Tryd.ntmps17
  have t1 := (Two.new w 24 (.bool s) (.slice A n c)).alloc (.cells #[.bool s, .slice A' n c'] 24)
  have t2 := Two.new (w.alloc (.cells #[.bool s, .slice A n c] 24)) 24 (.bool s) (.slice A' n c')
  have r1 := (h.alloc hB (.cells #[.bool s, .slice A n c] 24)).alloc (by simp; omega) (.cells #[.bool s, .slice A' n c'] 24)
  have r2 := (h'.alloc hB' (.cells #[.bool s, .slice A n c] 24)).alloc (by simp; omega) (.cells #[.bool s, .slice A' n c'] 24)
  have hb := ((Below.refl w.heap.size w).alloc (Nat.le_refl _) (.cells #[.bool s, .slice A n c] 24)).alloc (by simp) (.cells #[.bool s, .slice A' n c'] 24)
  rw [World.size_alloc] at t2
  go_wp2
  clear h h'
  generalize (w.alloc (.cells #[.bool s, .slice A n c] 24)).alloc (.cells #[.bool s, .slice A' n c'] 24) = W at *
  obtain ⟨c10, c11, f10, f11⟩ := t1.facts
  obtain ⟨c20, c21, f20, f21⟩ := t2.facts
  go_loopw [5, 23] (fun _ i wr => ∃ (k q : Nat), k ≤ n ∧ i = .int .i64 k ∧ wr = W.drewN q) (fun _ i _ => n - (intOf i).toNat)
  case atStart => exact ⟨0, 0, Nat.zero_le _, rfl, rfl⟩
  case round =>
    obtain ⟨k, q, hk, rfl, rfl⟩ := hrel
    by_cases hkn : k < n
    · obtain ⟨b, off, rfl, hbb, hcell, hlt⟩ := r1.at_ (k := k) (by rw [Hn.out]; omega)
      obtain ⟨b', off', rfl, hbb', hcell', hlt'⟩ := r2.at_ (k := k) (by rw [Hn.out]; omega)
      have hbq : ((dg ns k : Int) != (dg ns k : Int)) = false := by simp
      go_wp2
      go_quiet (fail)
      go_wp2
      go_roundw
      case rel => exact ⟨k + 1, q + nq, by omega, by go_num, rfl⟩
      case measure => simp [intOf]; omega
    · go_wp2
      go_ret
      exact ⟨rfl, hb.trans (below_drewN' _ _ _)⟩
end Go.Proofs.YtajlehaminddiaaDoor
