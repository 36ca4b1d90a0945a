/- Walk of integer.divideWord. -/
import Derived.Test.YtajlehaminddiaaDoorSign
import Derived.Test.YtajlehaminddiaaDoorApp
namespace Lw
open Go Go.RowKit
theorem val_drop (l : List Nat) {k : Nat} (h : k < l.length) : val (l.drop k) = dg l k + 4294967296 * val (l.drop (k + 1)) := by
  rw [List.drop_eq_getElem_cons h, val_cons, dg_get h]
theorem drop_set_lt (l : List Nat) {k j v : Nat} (h : k < j) : (l.set k v).drop j = l.drop j := by
  rw [List.drop_set, if_pos h]
theorem divw_step {x r d H : Nat} (hx : 0 < x) (hr : r = H % x) (hd : d < 4294967296) :
    (d + 4294967296 * r) / x < 4294967296 ∧ (d + 4294967296 * r) / x + 4294967296 * (H / x) = (d + 4294967296 * H) / x ∧ (d + 4294967296 * r) % x = (d + 4294967296 * H) % x := by
  subst hr
  have h1 := Nat.mod_add_div H x
  have h2 := Nat.mod_lt H hx
  generalize H % x = r at *
  generalize H / x = q at *
  have h3 : d + 4294967296 * H = (d + 4294967296 * r) + x * (4294967296 * q) := by
    rw [← h1, Nat.mul_add]
    have : 4294967296 * (x * q) = x * (4294967296 * q) := by rw [← Nat.mul_assoc, Nat.mul_comm 4294967296 x, Nat.mul_assoc]
    omega
  refine ⟨?_, ?_, ?_⟩
  · rw [Nat.div_lt_iff_lt_mul hx]
    have h4 : (r + 1) * 4294967296 ≤ x * 4294967296 := Nat.mul_le_mul_right _ h2
    have h5 : x * 4294967296 = 4294967296 * x := Nat.mul_comm _ _
    omega
  · rw [h3, Nat.add_mul_div_left _ _ hx]
  · rw [h3, Nat.add_mul_mod_self_left]
end Lw
namespace Go.Proofs.YtajlehaminddiaaDoor
open Go Go.RowKit Lw
set_option maxHeartbeats 1600000 in
theorem divideWord_any (g x : Nat) (ns : List Nat) (n c : Nat) (w : World) (hb : Blk w g 56 ns) (hw : Wds ns) (hn : ns.length = n) (h1 : 1 ≤ n) (hl : n ≤ 16777216) (hx : 1 ≤ x) (hx2 : x ≤ 4294967295) :
    Calls Tryd.prog 79 #[.slice (some ⟨g, 0, none⟩) n c, .int .u32 x] w fun e w' => ∃ ds, e = .returned (.int .u32 ((val ns % x : Nat) : Int)) ∧ Blk w' g 56 ds ∧ Wds ds ∧ ds.length = n ∧ val ds = val ns / x ∧
      w.grownBy w' (some g) ∧ w'.heap.size = w.heap.size := by
  have Hn := Lib.hid hn
  clear hn
  go_enter Tryd.func79, Tryd.ntmps79
  go_wp2_with fail
  go_loopw [5, 6] (fun v i wr => ∃ (i' : Int) (r : Nat) (ds : List Nat), -1 ≤ i' ∧ i' < n ∧ r ≤ 4294967294 ∧ r < x ∧ i = .int .i64 i' ∧ v = .int .u64 r ∧ Blk wr g 56 ds ∧ Hid (ds.length = n) ∧ Wds ds ∧
      Hid (∀ j, j < (i' + 1).toNat → dg ds j = dg ns j) ∧ Hid (val (ds.drop (i' + 1).toNat) = val (ns.drop (i' + 1).toNat) / x ∧ r = val (ns.drop (i' + 1).toNat) % x) ∧ Hid (w.grownBy wr (some g) ∧ wr.heap.size = w.heap.size)) (fun _ i _ => (intOf i + 1).toNat)
  case atStart => exact ⟨(n : Int) - 1, 0, ns, by omega, by omega, by omega, by omega, rfl, rfl, hb, Hn, hw, Lib.hid (fun _ _ => rfl), Lib.hid (by rw [show ((n : Int) - 1 + 1).toNat = n by omega, List.drop_of_length_le (by rw [Hn.out]; exact Nat.le_refl _)]; simp [val]), Lib.hid ⟨World.grownBy.refl w _, rfl⟩⟩
  case round =>
    obtain ⟨i', r, ds, hi, hin, hr, hrx, rfl, rfl, hb1, hdl, hdw, hsame, hv, hg⟩ := hrel
    clear hb
    by_cases h0 : i' < 0
    · have HV : Hid (val ds = val ns / x ∧ r = val ns % x) := Lib.hid (by have := hv.out; rwa [show (i' + 1).toNat = 0 by omega, List.drop_zero, List.drop_zero] at this)
      go_wp2_with fail
      go_ret
      exact ⟨ds, ret_int (by rw [HV.out.2]), hb1, hdw, hdl.out, HV.out.1, hg.out.1, hg.out.2⟩
    · obtain ⟨j, rfl⟩ := Int.eq_ofNat_of_zero_le (show 0 ≤ i' by omega)
      have hcc := hb1.cell (i := j) (by rw [hdl.out]; omega)
      have hlt := dg_lt hdw j
      have hfr := hb1.frozen j
      have HO : bits .or .u64 ((r : Int) * 4294967296) (dg ds j : Int) = ((dg ds j + 4294967296 * r : Nat) : Int) := or_words (by omega) hlt
      have hst := divw_step (x := x) (r := r) (d := dg ds j) (H := val (ns.drop (j + 1))) (by omega) (by have := hv.out.2; rwa [show ((j : Int) + 1).toNat = j + 1 by omega] at this) hlt
      have hm := Nat.mod_lt (dg ds j + 4294967296 * r) (show 0 < x by omega)
      have HST := Lib.hid hst
      have HM := Lib.hid hm
      have hql : (dg ds j + 4294967296 * r) / x ≤ 4294967295 := by have := hst.1; omega
      clear hst hm
      have hdj : Hid (dg ds j = dg ns j) := Lib.hid (hsame.out j (by omega))
      go_wp2_with fail
      go_roundw
      case rel =>
        refine ⟨(j : Int) - 1, (dg ds j + 4294967296 * r) % x, ds.set j ((dg ds j + 4294967296 * r) / x), by omega, by omega, by have := HM.out; omega, HM.out, rfl, by go_num, hb1.setI (by rw [hdl.out]; omega) ?_, Lib.hid (by rw [List.length_set]; exact hdl.out), wds_set hdw _ (by omega), Lib.hid ?_, Lib.hid ?_, Lib.hid ⟨grown_set hg.out.1 _ _, by simp [hg.out.2]⟩⟩
        · have h3 : (((dg ds j + 4294967296 * r) / x : Nat) : Int) = ((dg ds j : Int) + 4294967296 * (r : Int)) / (x : Int) := by simp
          rw [← h3]
          generalize (dg ds j + 4294967296 * r) / x = q at hql ⊢
          omega
        · intro k hk
          rw [dg_set (l := ds) (k := j) _ (by rw [hdl.out]; omega), if_neg (by omega)]
          exact hsame.out k (by omega)
        · have hv1 := hv.out
          rw [show ((j : Int) + 1).toNat = j + 1 by omega] at hv1
          rw [show ((j : Int) - 1 + 1).toNat = j by omega, val_drop (ds.set j ((dg ds j + 4294967296 * r) / x)) (k := j) (by rw [List.length_set, hdl.out]; omega), dg_set (l := ds) (k := j) _ (by rw [hdl.out]; omega), if_pos rfl, drop_set_lt _ (by omega), hv1.1, val_drop ns (k := j) (by rw [Hn.out]; omega), ← hdj.out]
          exact HST.out.2
      case measure => simp [intOf]
end Go.Proofs.YtajlehaminddiaaDoor
