/- Walks of integer: add, subtract. -/
import Derived.Test.YtobffffcihlkbaaDoorCmp
namespace Go.Proofs.YtobffffcihlkbaaDoor
open Go Go.RowKit Lw

/-- What a function of words hands back: a slice that reads as the words of a number; what was there is as it was. -/
def OutW (w : World) (N : Nat) (e : Ending) (w' : World) : Prop :=
  ∃ A c, e = .returned (.slice A (digs N).length c) ∧ (digs N).length ≤ c ∧ Rd w' w'.heap.size A (digs N) ∧ Below w.heap.size w w'

set_option maxHeartbeats 800000 in
theorem add_any (A A' : Option Addr) (ns ms : List Nat) (n m c c' B B' : Nat) (w : World) (h : Rd w B A ns) (h' : Rd w B' A' ms) (hB : B ≤ w.heap.size) (hB' : B' ≤ w.heap.size)
    (hn : ns.length = n) (hm : ms.length = m) (hl : n ≤ 16777216) (hl' : m ≤ 16777216) (hc : n ≤ c) (hc' : m ≤ c') :
    Calls Tryd.prog 22 #[.slice A n c, .slice A' m c'] w (OutW w (val ns + val ms)) := by
  have Hn := Lib.hid hn
  have Hm := Lib.hid hm
  clear hn hm
  rcases Nat.lt_or_ge n m with hnm | hnm
  · go_enter Tryd.func22, Tryd.ntmps22
    go_wp2_with (at_make; refine wpList_make32 _ rfl _ _ _ rfl 46 Tryd.underlying22 info32 _ _ _ _ (m + 1) rfl rfl (by omega) (by omega) (by omega) ?_; intro w1 hblk hbel hsz)
    go_loopw [6, 22] (fun v i wr => ∃ (k carry : Nat) (cs : List Nat), k ≤ m ∧ carry ≤ 1 ∧ i = .int .i64 k ∧ v = .int .u64 carry ∧ Blk wr w.heap.size 46 cs ∧ Hid (cs.length = m + 1) ∧ Wds cs ∧
        Hid (lo cs k + pw k * carry = lo ms k + lo ns k) ∧ Below w.heap.size w wr) (fun _ i _ => m - (intOf i).toNat)
    case atStart => exact ⟨0, 0, _, Nat.zero_le _, Nat.zero_le _, rfl, rfl, hblk, Lib.hid (by simp), wds_replicate _, Lib.hid (by simp [lo_zero]), hbel⟩
    case round =>
      obtain ⟨k, carry, cs, hk, hcar, rfl, rfl, hb1, hcl, hcw, hv, hbw⟩ := hrel
      clear hblk hbel hsz
      have hr := h'.below (hbw.mono hB')
      have hr' := h.below (hbw.mono hB)
      by_cases hkn : k < m
      · obtain ⟨b, off, rfl, hb, hcell, hlt⟩ := hr.at_ (k := k) (by rw [Hm.out]; omega)
        have hwl := wd_lt hr'.wds k
        have hcc := hb1.cell (i := k) (by rw [hcl.out]; omega)
        have hfr := hb1.frozen k
        go_wp2_with (go_at_call 50; refine (word_any _ ns _ _ _ _ _ hr' Hn.out (by omega)).mono ?_; rintro e w' ⟨rfl, rfl⟩)
        have hw : wd ns k = dg ns k := wd_nat _ _
        go_roundw
        case rel =>
          refine ⟨k + 1, (carry + (dg ms k + dg ns k)) / 4294967296, cs.set k ((carry + (dg ms k + dg ns k)) % 4294967296), by omega, by omega, by go_num, by rw [hw]; go_num, ?_, ?_, ?_, ?_, ?_⟩
          · exact hb1.setI (by rw [hcl.out]; omega) (by rw [hw]; omega)
          · exact Lib.hid (by rw [List.length_set]; exact hcl.out)
          · exact wds_set hcw _ (Nat.mod_lt _ (by omega))
          · exact Lib.hid (by rw [put_carry (by rw [hcl.out]; omega) hv.out rfl, lo_succ, lo_succ, Nat.mul_add]; omega)
          · exact hbw.setCell (Nat.le_refl _) _
        case measure => simp [intOf]; omega
      · obtain rfl : k = m := by omega
        have hcc := hb1.cell (i := k) (by rw [hcl.out]; omega)
        have hfr := hb1.frozen k
        have hset := hb1.setI (i := k) (by rw [hcl.out]; omega) (z := (carry : Int)) rfl
        have hwset : Wds (cs.set k carry) := wds_set hcw _ (by omega)
        have hlen : Hid ((cs.set k carry).length = k + 1) := Lib.hid (by rw [List.length_set]; exact hcl.out)
        have hb2 := hbw.setCell (p := ⟨w.heap.size, k, none⟩) (Nat.le_refl _) (.int .u32 (carry : Int))
        have HV : Hid (val (cs.set k carry) = val ns + val ms) := Lib.hid (by
          rw [← lo_all (l := cs.set k carry) (k := k + 1) (by rw [hlen.out]; exact Nat.le_refl _), lo_put _ (by rw [hcl.out]; omega), hv.out, lo_all (by rw [Hm.out]; exact Nat.le_refl _), lo_all (by rw [Hn.out]; omega)]; exact Nat.add_comm _ _)
        go_wp2_with (go_at_call 48; refine (trim_any _ (cs.set k carry) _ _ _ _ (hset.rd hwset) hlen.out (Nat.le_refl _) (by omega)).mono ?_; rintro e w' ⟨rfl, rfl⟩)
        go_ret
        refine ⟨_, _, ret_slice (by rw [HV.out]), ?_, ?_, hb2⟩
        · have := digs_len_le hwset
          rw [HV.out, hlen.out] at this; exact this
        · have := (hset.rd hwset).digs
          rw [HV.out] at this; exact this
  · go_enter Tryd.func22, Tryd.ntmps22
    go_wp2_with (at_make; refine wpList_make32 _ rfl _ _ _ rfl 46 Tryd.underlying22 info32 _ _ _ _ (n + 1) rfl rfl (by omega) (by omega) (by omega) ?_; intro w1 hblk hbel hsz)
    go_loopw [6, 22] (fun v i wr => ∃ (k carry : Nat) (cs : List Nat), k ≤ n ∧ carry ≤ 1 ∧ i = .int .i64 k ∧ v = .int .u64 carry ∧ Blk wr w.heap.size 46 cs ∧ Hid (cs.length = n + 1) ∧ Wds cs ∧
        Hid (lo cs k + pw k * carry = lo ns k + lo ms k) ∧ Below w.heap.size w wr) (fun _ i _ => n - (intOf i).toNat)
    case atStart => exact ⟨0, 0, _, Nat.zero_le _, Nat.zero_le _, rfl, rfl, hblk, Lib.hid (by simp), wds_replicate _, Lib.hid (by simp [lo_zero]), hbel⟩
    case round =>
      obtain ⟨k, carry, cs, hk, hcar, rfl, rfl, hb1, hcl, hcw, hv, hbw⟩ := hrel
      clear hblk hbel hsz
      have hr := h.below (hbw.mono hB)
      have hr' := h'.below (hbw.mono hB')
      by_cases hkn : k < n
      · obtain ⟨b, off, rfl, hb, hcell, hlt⟩ := hr.at_ (k := k) (by rw [Hn.out]; omega)
        have hwl := wd_lt hr'.wds k
        have hcc := hb1.cell (i := k) (by rw [hcl.out]; omega)
        have hfr := hb1.frozen k
        go_wp2_with (go_at_call 50; refine (word_any _ ms _ _ _ _ _ hr' Hm.out (by omega)).mono ?_; rintro e w' ⟨rfl, rfl⟩)
        have hw : wd ms k = dg ms k := wd_nat _ _
        go_roundw
        case rel =>
          refine ⟨k + 1, (carry + (dg ns k + dg ms k)) / 4294967296, cs.set k ((carry + (dg ns k + dg ms k)) % 4294967296), by omega, by omega, by go_num, by rw [hw]; go_num, ?_, ?_, ?_, ?_, ?_⟩
          · exact hb1.setI (by rw [hcl.out]; omega) (by rw [hw]; omega)
          · exact Lib.hid (by rw [List.length_set]; exact hcl.out)
          · exact wds_set hcw _ (Nat.mod_lt _ (by omega))
          · exact Lib.hid (by rw [put_carry (by rw [hcl.out]; omega) hv.out rfl, lo_succ, lo_succ, Nat.mul_add]; omega)
          · exact hbw.setCell (Nat.le_refl _) _
        case measure => simp [intOf]; omega
      · obtain rfl : k = n := by omega
        have hcc := hb1.cell (i := k) (by rw [hcl.out]; omega)
        have hfr := hb1.frozen k
        have hset := hb1.setI (i := k) (by rw [hcl.out]; omega) (z := (carry : Int)) rfl
        have hwset : Wds (cs.set k carry) := wds_set hcw _ (by omega)
        have hlen : Hid ((cs.set k carry).length = k + 1) := Lib.hid (by rw [List.length_set]; exact hcl.out)
        have hb2 := hbw.setCell (p := ⟨w.heap.size, k, none⟩) (Nat.le_refl _) (.int .u32 (carry : Int))
        have HV : Hid (val (cs.set k carry) = val ns + val ms) := Lib.hid (by
          rw [← lo_all (l := cs.set k carry) (k := k + 1) (by rw [hlen.out]; exact Nat.le_refl _), lo_put _ (by rw [hcl.out]; omega), hv.out, lo_all (by rw [Hn.out]; exact Nat.le_refl _), lo_all (by rw [Hm.out]; omega)])
        go_wp2_with (go_at_call 48; refine (trim_any _ (cs.set k carry) _ _ _ _ (hset.rd hwset) hlen.out (Nat.le_refl _) (by omega)).mono ?_; rintro e w' ⟨rfl, rfl⟩)
        go_ret
        refine ⟨_, _, ret_slice (by rw [HV.out]), ?_, ?_, hb2⟩
        · have := digs_len_le hwset
          rw [HV.out, hlen.out] at this; exact this
        · have := (hset.rd hwset).digs
          rw [HV.out] at this; exact this
end Go.Proofs.YtobffffcihlkbaaDoor
/-! Walk of integer.subtract. -/
namespace Lw
open Go
def SubOf (x y D : Nat) : Prop := x < 18446744073709551616 → y < 18446744073709551616 → D = if y ≤ x then x - y else 18446744073709551616 + x - y
theorem wrap_sub (x y : Nat) : ∃ D : Nat, IntKind.u64.wrap ((x : Int) - (y : Int)) = (D : Int) ∧ D ≤ 18446744073709551615 ∧ SubOf x y D := by
  refine ⟨(((x : Int) - (y : Int)) % 18446744073709551616).toNat, ?_, by omega, fun h1 h2 => by split <;> omega⟩
  rw [IntKind.wrap_u64]; omega
theorem sub_word {x y c D F : Nat} (hx : x < 4294967296) (hy : y < 4294967296) (hc : c ≤ 1) (hD : SubOf x y D) (hF : SubOf D c F) (hDl : D ≤ 18446744073709551615) :
    F % 4294967296 + (y + c) = x + 4294967296 * (F / 9223372036854775808) ∧ F / 9223372036854775808 ≤ 1 := by
  have h1 := hD (by omega) (by omega)
  have h2 := hF (by omega) (by omega)
  split at h1 <;> split at h2 <;> omega
theorem put_borrow {cs : List Nat} {k c b r s : Nat} {t u x y : Nat} (h : k < cs.length) (hv : lo cs k + t = u + pw k * c) (hs : r + (y + c) = x + 4294967296 * b) (e : s = lo (cs.set k r) (k + 1)) :
    s + (t + pw k * y) = (u + pw k * x) + pw (k + 1) * b := by
  subst e
  have e1 : pw k * (r + (y + c)) = pw k * (x + 4294967296 * b) := by rw [hs]
  rw [lo_put _ h, pw_succ]
  simp only [Nat.mul_add] at e1
  have e2 : pw k * (4294967296 * b) = 4294967296 * pw k * b := by rw [← Nat.mul_assoc, Nat.mul_comm (pw k)]
  omega
theorem borrow_zero {c u t p : Nat} {b : Nat} (hc : c < p) (hv : c + t = u + p * b) (ht : t ≤ u) (hb : b ≤ 1) : c = u - t := by
  rcases Nat.le_one_iff_eq_zero_or_eq_one.1 hb with rfl | rfl <;> omega
theorem lo_of_le {l : List Nat} {k N : Nat} (h : val l ≤ N) (hN : N < pw k) : lo l k = val l := by
  rcases Nat.le_total l.length k with h1 | h1
  · exact lo_all h1
  · have e := val_split l k
    rw [Nat.min_eq_left h1] at e
    rcases Nat.eq_zero_or_pos (val (l.drop k)) with h0 | h0
    · rw [h0] at e; omega
    · have := Nat.mul_le_mul_left (pw k) h0
      omega
end Lw
namespace Go.Proofs.YtobffffcihlkbaaDoor
open Go Go.RowKit Lw
set_option maxHeartbeats 800000 in
theorem subtract_any (A A' : Option Addr) (ns ms : List Nat) (n m c c' B B' : Nat) (w : World) (h : Rd w B A ns) (h' : Rd w B' A' ms) (hB : B ≤ w.heap.size) (hB' : B' ≤ w.heap.size)
    (hn : ns.length = n) (hm : ms.length = m) (hl : n ≤ 16777216) (hl' : m ≤ 16777216) (hle : val ms ≤ val ns) :
    Calls Tryd.prog 23 #[.slice A n c, .slice A' m c'] w (OutW w (val ns - val ms)) := by
  have Hn := Lib.hid hn
  have Hm := Lib.hid hm
  have Hle := Lib.hid hle
  clear hn hm hle
  go_enter Tryd.func23, Tryd.ntmps23
  go_wp2_with (at_make; refine wpList_make32 _ rfl _ _ _ rfl 46 Tryd.underlying22 info32 _ _ _ _ n rfl rfl (by omega) (by omega) (by omega) ?_; intro w1 hblk hbel hsz)
  go_loopw [6, 15] (fun v i wr => ∃ (k carry : Nat) (cs : List Nat), k ≤ n ∧ carry ≤ 1 ∧ i = .int .i64 k ∧ v = .int .u64 carry ∧ Blk wr w.heap.size 46 cs ∧ Hid (cs.length = n) ∧ Wds cs ∧
      Hid (lo cs k + lo ms k = lo ns k + pw k * carry) ∧ Below w.heap.size w wr) (fun _ i _ => n - (intOf i).toNat)
  case atStart => exact ⟨0, 0, _, Nat.zero_le _, Nat.zero_le _, rfl, rfl, hblk, Lib.hid (by simp), wds_replicate _, Lib.hid (by simp [lo_zero]), hbel⟩
  case round =>
    obtain ⟨k, carry, cs, hk, hcar, rfl, rfl, hb1, hcl, hcw, hv, hbw⟩ := hrel
    clear hblk hbel hsz
    have hr := h.below (hbw.mono hB)
    have hr' := h'.below (hbw.mono hB')
    by_cases hkn : k < n
    · obtain ⟨b, off, rfl, hb, hcell, hlt⟩ := hr.at_ (k := k) (by rw [Hn.out]; omega)
      have hwl := wd_lt hr'.wds k
      obtain ⟨D, hD, hDl, hDv⟩ := wrap_sub (dg ns k) (wd ms k)
      obtain ⟨F, hF, hFl, hFv⟩ := wrap_sub D carry
      have HDv := Lib.hid hDv
      have HFv := Lib.hid hFv
      clear hDv hFv
      have hcc := hb1.cell (i := k) (by rw [hcl.out]; omega)
      have hfr := hb1.frozen k
      go_wp2_with (go_at_call 50; refine (word_any _ ms _ _ _ _ _ hr' Hm.out (by omega)).mono ?_; rintro e w' ⟨rfl, rfl⟩)
      have hw : wd ms k = dg ms k := wd_nat _ _
      have hsw := sub_word hlt hwl hcar HDv.out HFv.out hDl
      go_roundw
      case rel =>
        refine ⟨k + 1, F / 9223372036854775808, cs.set k (F % 4294967296), by omega, hsw.2, by go_num, by go_num, hb1.setI (by rw [hcl.out]; omega) (by omega), Lib.hid (by rw [List.length_set]; exact hcl.out), wds_set hcw _ (Nat.mod_lt _ (by omega)), Lib.hid ?_, hbw.setCell (Nat.le_refl _) _⟩
        have e1 := hsw.1
        rw [hw] at e1
        have := put_borrow (k := k) (by rw [hcl.out]; omega) hv.out e1 rfl
        rw [lo_succ ms, lo_succ ns]; exact this
      case measure => simp [intOf]; omega
    · obtain rfl : k = n := by omega
      have hlen : cs.length ≤ k := by rw [hcl.out]; exact Nat.le_refl _
      have hnl : val ns < pw k := by have := val_lt h.wds; rwa [Hn.out] at this
      have HV : Hid (val cs = val ns - val ms) := Lib.hid (by
        have e := hv.out
        have e2 := val_lt hcw
        rw [hcl.out] at e2
        rw [lo_all hlen, lo_all (l := ns) (by rw [Hn.out]; exact Nat.le_refl _), lo_of_le Hle.out hnl] at e
        exact borrow_zero e2 e Hle.out hcar)
      go_wp2_with (go_at_call 48; refine (trim_any _ cs _ _ _ _ (hb1.rd hcw) hcl.out (Nat.le_refl _) (by omega)).mono ?_; rintro e w' ⟨rfl, rfl⟩)
      go_ret
      refine ⟨_, _, ret_slice (by rw [HV.out]), ?_, ?_, hbw⟩
      · have := digs_len_le hcw
        rw [HV.out, hcl.out] at this; exact this
      · have := (hb1.rd hcw).digs
        rw [HV.out] at this; exact this
end Go.Proofs.YtobffffcihlkbaaDoor
