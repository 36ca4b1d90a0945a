/- Walk of integer.multiply. -/
import Derived.Test.YtajlehaminddiaaDoorMul
namespace Lw
open Go Go.RowKit
theorem mult_step {cs ds : List Nat} {k m v x l l' r : Nat} (hm : k + m < ds.length) (hv : lo cs (k + m) = l * v) (hd : lo ds (k + m) + pw (k + m) * r = lo cs (k + m) + pw k * (v * x)) (hl : l' = l + pw k * x) :
    lo (ds.set (k + m) r) (k + m + 1) = l' * v := by
  rw [lo_put _ hm, hd, hv, hl, Nat.add_mul, Nat.mul_assoc, Nat.mul_comm v x]
theorem below_of_grown {a w w' : World} {B g : Nat} (h : Below B a w) (hg : w.grownBy w' (some g)) (hB : B ≤ w.heap.size) (hgB : B ≤ g) : Below B a w' :=
  h.grown hg hB (fun k hk => by injection hk with e; omega)
end Lw
namespace Go.Proofs.YtajlehaminddiaaDoor
open Go Go.RowKit Lw
set_option maxHeartbeats 800000 in
theorem multiply_any (A A' : Option Addr) (ns ms : List Nat) (n m c c' B B' : Nat) (w : World) (h : Rd w B A ns) (h' : Rd w B' A' ms) (hB : B ≤ w.heap.size) (hB' : B' ≤ w.heap.size)
    (hn : ns.length = n) (hm : ms.length = m) (hl : n ≤ 16777216) (hl' : m ≤ 16777216) :
    Calls Tryd.prog 61 #[.slice A n c, .slice A' m c'] w (OutW w (val ns * val ms)) := by
  have Hn := Lib.hid hn
  have Hm := Lib.hid hm
  clear hn hm
  go_enter Tryd.func61, Tryd.ntmps61
  go_wp2_with (at_make; refine wpList_make32 _ rfl _ _ _ rfl 56 Tryd.underlying22 info32 _ _ _ _ (n + m) rfl rfl (by omega) (by omega) (by omega) ?_; intro w1 hblk hbel hsz)
  go_loopw [16] (fun i wr => ∃ (k : Nat) (cs : List Nat), k ≤ n ∧ i = .int .i64 k ∧ Blk wr w.heap.size 56 cs ∧ Hid (cs.length = n + m) ∧ Wds cs ∧
      Hid (lo cs (k + m) = lo ns k * val ms) ∧ Hid (∀ j, k + m ≤ j → dg cs j = 0) ∧ Below w.heap.size w wr) (fun i _ => n - (intOf i).toNat)
  case atStart => exact ⟨0, _, Nat.zero_le _, rfl, hblk, Lib.hid (by simp), wds_replicate _, Lib.hid (by rw [lo_agree (b := []) _ (fun j _ => by rw [dg_replicate]; rfl), lo_all (by simp), lo_zero]; simp [val]), Lib.hid (fun j _ => dg_replicate _ _), hbel⟩
  case round =>
    obtain ⟨k, cs, hk, rfl, hb1, hcl, hcw, hv, hz, hbw⟩ := hrel
    clear hblk hbel hsz
    have hr := h.below (hbw.mono hB)
    have hr' := h'.below (hbw.mono hB')
    have hsz1 := hb1.lt
    by_cases hkn : k < n
    · obtain ⟨b, off, rfl, hb, hcell, hlt⟩ := hr.at_ (k := k) (by rw [Hn.out]; omega)
      have Hne : Hid (0 < m → ∀ a, A' = some a → a.block ≠ w.heap.size) := Lib.hid (fun hp a ha => by
        obtain ⟨b, off, hA, hb, _⟩ := h'.2 (by rw [Hm.out]; exact hp)
        rw [ha] at hA; injection hA with e; subst e; exact Nat.ne_of_lt (Nat.lt_of_lt_of_le hb hB'))
      go_wp2_with fail
      refine (addTimes_any _ _ _ _ cs ms _ _ _ _ _ hb1 hcw hr' (by omega) Hne.out Hm.out (by omega) (by rw [hcl.out]; omega) (by rw [hcl.out]; omega) hlt).mono ?_
      rintro e w2 ⟨r, ds, rfl, hrl, hb2, hdl, hdw, hsame, hval, hg, hsz2⟩
      have hcc := hb2.cell (i := k + m) (by rw [hdl, hcl.out]; omega)
      have hfr := hb2.frozen (k + m)
      have Hdl := Lib.hid hdl
      have Hsame := Lib.hid hsame
      have Hval := Lib.hid hval
      have Hsz2 := Lib.hid hsz2
      clear hdl hsame hval hsz2
      go_wp2_with fail
      have hkl : k + m < ds.length := by rw [Hdl.out, hcl.out]; omega
      go_roundw
      case rel =>
        refine ⟨k + 1, ds.set (k + m) r, by omega, by go_num, hb2.set_ _ hkl, Lib.hid (by rw [List.length_set, Hdl.out]; exact hcl.out), wds_set hdw _ hrl, Lib.hid ?_, Lib.hid ?_, (below_of_grown hbw hg (by omega) (Nat.le_refl _)).setCell (Nat.le_refl _) _⟩
        · rw [show k + 1 + m = k + m + 1 by omega]
          exact mult_step hkl hv.out Hval.out (lo_succ _ _)
        · intro j hj
          rw [dg_set _ hkl, if_neg (by omega), Hsame.out j (by omega)]
          exact hz.out j (by omega)
      case measure => simp [intOf]; omega
    · obtain rfl : k = n := by omega
      have HV : Hid (val cs = val ns * val ms) := Lib.hid (by
        have e := hv.out
        rwa [lo_all (by rw [hcl.out]; exact Nat.le_refl _), lo_all (l := ns) (by rw [Hn.out]; exact Nat.le_refl _)] at e)
      go_wp2_with (go_at_call 76; refine (trim_any _ cs _ _ _ _ (hb1.rd hcw) hcl.out (Nat.le_refl _) (by omega)).mono ?_; rintro e w' ⟨rfl, rfl⟩)
      go_ret
      refine ⟨_, _, ret_slice (by rw [HV.out]), ?_, ?_, hbw⟩
      · have := digs_len_le hcw
        rw [HV.out, hcl.out] at this; exact this
      · have := (hb1.rd hcw).digs
        rw [HV.out] at this; exact this
end Go.Proofs.YtajlehaminddiaaDoor
