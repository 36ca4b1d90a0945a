/- Walks of integer: add, subtract. -/
import Derived.Test.YtajlehaminddiaaDoorCmp
import Derived.Test.YtajlehaminddiaaDoorMake
namespace Go.Proofs.YtajlehaminddiaaDoor
open Go Go.RowKit Lw

/-- What a function of words hands back: a slice that reads as the words of a number; what was there is as it was. -/
def OutW (w : World) (N : Nat) (e : Ending) (w' : World) : Prop :=
  ∃ A c, e = .returned (.slice A (digs N).length c) ∧ (digs N).length ≤ c ∧ Rd w' w'.heap.size A (digs N) ∧ Below w.heap.size w w'

set_option maxHeartbeats 800000 in
theorem add_any (A A' : Option Addr) (ns ms : List Nat) (n m c c' B B' : Nat) (w : World) (h : Rd w B A ns) (h' : Rd w B' A' ms) (hB : B ≤ w.heap.size) (hB' : B' ≤ w.heap.size)
    (hn : ns.length = n) (hm : ms.length = m) (hl : n ≤ 16777216) (hl' : m ≤ 16777216) (hc : n ≤ c) (hc' : m ≤ c') :
    Calls Tryd.prog 65 #[.slice A n c, .slice A' m c'] w (OutW w (val ns + val ms)) := by
  have Hn := Lib.hid hn
  have Hm := Lib.hid hm
  clear hn hm
  rcases Nat.lt_or_ge n m with hnm | hnm
  · go_enter Tryd.func65, Tryd.ntmps65
    go_wp2_with (at_make; refine wpList_make32 _ rfl _ _ _ rfl 56 Tryd.underlying22 info32 _ _ _ _ (m + 1) rfl rfl (by omega) (by omega) (by omega) ?_; intro w1 hblk hbel hsz)
    go_loopw [6, 22] (fun v i wr => ∃ (k carry : Nat) (cs : List Nat), k ≤ m ∧ carry ≤ 1 ∧ i = .int .i64 k ∧ v = .int .u64 carry ∧ Blk wr w.heap.size 56 cs ∧ Hid (cs.length = m + 1) ∧ Wds cs ∧
        Hid (lo cs k + pw k * carry = lo ms k + lo ns k) ∧ Below w.heap.size w wr) (fun _ i _ => m - (intOf i).toNat)
    case atStart => exact ⟨0, 0, _, Nat.zero_le _, Nat.zero_le _, rfl, rfl, hblk, Lib.hid (by simp), wds_replicate _, Lib.hid (by simp [lo_zero]), hbel⟩
    case round =>
      obtain ⟨k, carry, cs, hk, hcar, rfl, rfl, hb1, hcl, hcw, hv, hbw⟩ := hrel
      clear hblk hbel hsz
      have hr := h'.below (hbw.mono hB')
      have hr' := h.below (hbw.mono hB)
      by_cases hkn : k < m
      · obtain ⟨b, off, rfl, hb, hcell, hlt⟩ := hr.at_ (k := k) (by rw [Hm.out]; omega)
        have hwl := wd_lt hr'.wds k
        have hcc := hb1.cell (i := k) (by rw [hcl.out]; omega)
        have hfr := hb1.frozen k
        go_wp2_with (go_at_call 75; refine (word_any _ ns _ _ _ _ _ hr' Hn.out (by omega)).mono ?_; rintro e w' ⟨rfl, rfl⟩)
        have hw : wd ns k = dg ns k := wd_nat _ _
        go_roundw
        case rel =>
          refine ⟨k + 1, (carry + (dg ms k + dg ns k)) / 4294967296, cs.set k ((carry + (dg ms k + dg ns k)) % 4294967296), by omega, by omega, by go_num, by rw [hw]; go_num, ?_, ?_, ?_, ?_, ?_⟩
          · exact hb1.setI (by rw [hcl.out]; omega) (by rw [hw]; omega)
          · exact Lib.hid (by rw [List.length_set]; exact hcl.out)
          · exact wds_set hcw _ (Nat.mod_lt _ (by omega))
          · exact Lib.hid (by rw [put_carry (by rw [hcl.out]; omega) hv.out rfl, lo_succ, lo_succ, Nat.mul_add]; omega)
          · exact hbw.setCell (Nat.le_refl _) _
        case measure => simp [intOf]; omega
      · obtain rfl : k = m := by omega
        have hcc := hb1.cell (i := k) (by rw [hcl.out]; omega)
        have hfr := hb1.frozen k
        have hset := hb1.setI (i := k) (by rw [hcl.out]; omega) (z := (carry : Int)) rfl
        have hwset : Wds (cs.set k carry) := wds_set hcw _ (by omega)
        have hlen : Hid ((cs.set k carry).length = k + 1) := Lib.hid (by rw [List.length_set]; exact hcl.out)
        have hb2 := hbw.setCell (p := ⟨w.heap.size, k, none⟩) (Nat.le_refl _) (.int .u32 (carry : Int))
        have HV : Hid (val (cs.set k carry) = val ns + val ms) := Lib.hid (by
          rw [← lo_all (l := cs.set k carry) (k := k + 1) (by rw [hlen.out]; exact Nat.le_refl _), lo_put _ (by rw [hcl.out]; omega), hv.out, lo_all (by rw [Hm.out]; exact Nat.le_refl _), lo_all (by rw [Hn.out]; omega)]; exact Nat.add_comm _ _)
        go_wp2_with (go_at_call 76; refine (trim_any _ (cs.set k carry) _ _ _ _ (hset.rd hwset) hlen.out (Nat.le_refl _) (by omega)).mono ?_; rintro e w' ⟨rfl, rfl⟩)
        go_ret
        refine ⟨_, _, ret_slice (by rw [HV.out]), ?_, ?_, hb2⟩
        · have := digs_len_le hwset
          rw [HV.out, hlen.out] at this; exact this
        · have := (hset.rd hwset).digs
          rw [HV.out] at this; exact this
  · go_enter Tryd.func65, Tryd.ntmps65
    go_wp2_with (at_make; refine wpList_make32 _ rfl _ _ _ rfl 56 Tryd.underlying22 info32 _ _ _ _ (n + 1) rfl rfl (by omega) (by omega) (by omega) ?_; intro w1 hblk hbel hsz)
    go_loopw [6, 22] (fun v i wr => ∃ (k carry : Nat) (cs : List Nat), k ≤ n ∧ carry ≤ 1 ∧ i = .int .i64 k ∧ v = .int .u64 carry ∧ Blk wr w.heap.size 56 cs ∧ Hid (cs.length = n + 1) ∧ Wds cs ∧
        Hid (lo cs k + pw k * carry = lo ns k + lo ms k) ∧ Below w.heap.size w wr) (fun _ i _ => n - (intOf i).toNat)
    case atStart => exact ⟨0, 0, _, Nat.zero_le _, Nat.zero_le _, rfl, rfl, hblk, Lib.hid (by simp), wds_replicate _, Lib.hid (by simp [lo_zero]), hbel⟩
    case round =>
      obtain ⟨k, carry, cs, hk, hcar, rfl, rfl, hb1, hcl, hcw, hv, hbw⟩ := hrel
      clear hblk hbel hsz
      have hr := h.below (hbw.mono hB)
      have hr' := h'.below (hbw.mono hB')
      by_cases hkn : k < n
      · obtain ⟨b, off, rfl, hb, hcell, hlt⟩ := hr.at_ (k := k) (by rw [Hn.out]; omega)
        have hwl := wd_lt hr'.wds k
        have hcc := hb1.cell (i := k) (by rw [hcl.out]; omega)
        have hfr := hb1.frozen k
        go_wp2_with (go_at_call 75; refine (word_any _ ms _ _ _ _ _ hr' Hm.out (by omega)).mono ?_; rintro e w' ⟨rfl, rfl⟩)
        have hw : wd ms k = dg ms k := wd_nat _ _
        go_roundw
        case rel =>
          refine ⟨k + 1, (carry + (dg ns k + dg ms k)) / 4294967296, cs.set k ((carry + (dg ns k + dg ms k)) % 4294967296), by omega, by omega, by go_num, by rw [hw]; go_num, ?_, ?_, ?_, ?_, ?_⟩
          · exact hb1.setI (by rw [hcl.out]; omega) (by rw [hw]; omega)
          · exact Lib.hid (by rw [List.length_set]; exact hcl.out)
          · exact wds_set hcw _ (Nat.mod_lt _ (by omega))
          · exact Lib.hid (by rw [put_carry (by rw [hcl.out]; omega) hv.out rfl, lo_succ, lo_succ, Nat.mul_add]; omega)
          · exact hbw.setCell (Nat.le_refl _) _
        case measure => simp [intOf]; omega
      · obtain rfl : k = n := by omega
        have hcc := hb1.cell (i := k) (by rw [hcl.out]; omega)
        have hfr := hb1.frozen k
        have hset := hb1.setI (i := k) (by rw [hcl.out]; omega) (z := (carry : Int)) rfl
        have hwset : Wds (cs.set k carry) := wds_set hcw _ (by omega)
        have hlen : Hid ((cs.set k carry).length = k + 1) := Lib.hid (by rw [List.length_set]; exact hcl.out)
        have hb2 := hbw.setCell (p := ⟨w.heap.size, k, none⟩) (Nat.le_refl _) (.int .u32 (carry : Int))
        have HV : Hid (val (cs.set k carry) = val ns + val ms) := Lib.hid (by
          rw [← lo_all (l := cs.set k carry) (k := k + 1) (by rw [hlen.out]; exact Nat.le_refl _), lo_put _ (by rw [hcl.out]; omega), hv.out, lo_all (by rw [Hn.out]; exact Nat.le_refl _), lo_all (by rw [Hm.out]; omega)])
        go_wp2_with (go_at_call 76; refine (trim_any _ (cs.set k carry) _ _ _ _ (hset.rd hwset) hlen.out (Nat.le_refl _) (by omega)).mono ?_; rintro e w' ⟨rfl, rfl⟩)
        go_ret
        refine ⟨_, _, ret_slice (by rw [HV.out]), ?_, ?_, hb2⟩
        · have := digs_len_le hwset
          rw [HV.out, hlen.out] at this; exact this
        · have := (hset.rd hwset).digs
          rw [HV.out] at this; exact this
end Go.Proofs.YtajlehaminddiaaDoor
