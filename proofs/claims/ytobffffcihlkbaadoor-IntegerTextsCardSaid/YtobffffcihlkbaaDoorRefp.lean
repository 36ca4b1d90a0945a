/- Walks of the reference: plus, minus. -/
import Derived.Test.YtobffffcihlkbaaDoorRefc
import Derived.Test.YtobffffcihlkbaaDoorDigits
namespace Lw
open Go
theorem plus_step {cs ns ms : List Nat} {k carry R : Nat} (hl : cs.length = k) (hv : val cs + pw k * carry = lo ns k + lo ms k) (hR : R = (dg ns k + dg ms k + carry) % 4294967296) :
    val (cs ++ [R]) + pw (k + 1) * ((dg ns k + dg ms k + carry) / 4294967296) = lo ns (k + 1) + lo ms (k + 1) := by
  rw [val_snoc, hl, lo_succ, lo_succ, pw_succ, hR]
  have h := Nat.div_add_mod (dg ns k + dg ms k + carry) 4294967296
  generalize (dg ns k + dg ms k + carry) / 4294967296 = q at *
  generalize (dg ns k + dg ms k + carry) % 4294967296 = r at *
  have h2 : pw k * (4294967296 * q + r) = pw k * (dg ns k + dg ms k + carry) := by rw [h]
  grind
theorem plus_end {cs ns ms : List Nat} {k carry M : Nat} (wn : Wds ns) (wm : Wds ms) (hn : ns.length ≤ M) (hm : ms.length ≤ M) (hk : k = M + 1) (hv : val cs + pw k * carry = lo ns k + lo ms k) : val cs = val ns + val ms := by
  subst hk
  rw [lo_all (by omega), lo_all (by omega)] at hv
  have h1 := val_lt wn
  have h2 := val_lt wm
  have h3 := pw_le hn
  have h4 := pw_le hm
  rw [pw_succ] at hv
  rcases Nat.eq_zero_or_pos carry with h0 | h0
  · subst h0; omega
  · have : 4294967296 * pw M * 1 ≤ 4294967296 * pw M * carry := Nat.mul_le_mul_left _ h0
    omega
theorem minus_step {cs ns ms : List Nat} {k b d R : Nat} (hl : cs.length = k) (hv : val cs + lo ms k = lo ns k + pw k * b) (hb : b ≤ 1) (hn : dg ns k < 4294967296) (hm : dg ms k < 4294967296) (hd : d = 4294967296 + dg ns k - dg ms k - b) (hR : R = d % 4294967296) :
    val (cs ++ [R]) + lo ms (k + 1) = lo ns (k + 1) + pw (k + 1) * (1 - d / 4294967296) ∧ 1 - d / 4294967296 ≤ 1 := by
  refine ⟨?_, by omega⟩
  rw [val_snoc, hl, lo_succ, lo_succ, pw_succ]
  have h5 : R + dg ms k + b = dg ns k + 4294967296 * (1 - d / 4294967296) := by omega
  generalize 1 - d / 4294967296 = q at *
  have h2 : pw k * (R + dg ms k + b) = pw k * (dg ns k + 4294967296 * q) := by rw [h5]
  grind
theorem minus_end {cs ns ms : List Nat} {b : Nat} (wc : Wds cs) (hl : cs.length = ns.length) (hm : ms.length ≤ ns.length) (hle : val ms ≤ val ns) (hv : val cs + lo ms ns.length = lo ns ns.length + pw ns.length * b) : val cs = val ns - val ms := by
  rw [lo_all hm, lo_all (Nat.le_refl _)] at hv
  have h1 := val_lt wc
  rw [hl] at h1
  rcases Nat.eq_zero_or_pos b with h0 | h0
  · subst h0; omega
  · have : pw ns.length * 1 ≤ pw ns.length * b := Nat.mul_le_mul_left _ h0
    omega
end Lw
namespace Go.Proofs.YtobffffcihlkbaaDoor
open Go Go.RowKit Lw
set_option maxRecDepth 100000 in
set_option maxHeartbeats 3200000 in
theorem refplus_any (A A' : Option Addr) (ns ms : List Nat) (n m c c' B B' : Nat) (w : World) (h : Rd w B A ns) (h' : Rd w B' A' ms) (hB : B ≤ w.heap.size) (hB' : B' ≤ w.heap.size) (hn : ns.length = n) (hm : ms.length = m) (hl : n ≤ 16777216) (hl' : m ≤ 16777216) :
    Calls Tryd.prog 30 #[.slice A n c, .slice A' m c'] w (TrimOut w (val ns + val ms)) := by
  have Hn := Lib.hid hn
  have Hm := Lib.hid hm
  clear hn hm
  obtain ⟨M, hM, hM1, hM2⟩ : ∃ M : Nat, (max (n : Int) (m : Int)) = (M : Int) ∧ n ≤ M ∧ m ≤ M := ⟨max n m, by omega, by omega, by omega⟩
  have hMl : M ≤ 16777216 := by omega
  go_enter Tryd.func30, Tryd.ntmps30
  go_wp2_with fail
  go_loopw [5, 6, 15] (fun v cv iv wr => ∃ (k carry : Nat) (cs : List Nat), k ≤ M + 1 ∧ carry ≤ 1 ∧ iv = .int .i64 k ∧ cv = .int .u64 carry ∧ wr.ownsRow w.heap.size 46 1 v k (arr cs) ∧ Wds cs ∧
      Hid (val cs + pw k * carry = lo ns k + lo ms k) ∧ Below w.heap.size w wr) (fun _ _ i _ => M + 1 - (intOf i).toNat)
  case atStart => exact ⟨0, 0, [], by omega, by omega, rfl, rfl, World.ownsRow_nil _ _ _ _, wds_nil, Lib.hid (by rw [lo_zero, lo_zero]; rfl), Below.refl _ _⟩
  case round =>
    obtain ⟨k, carry, cs, hk, hcar, rfl, rfl, hown, hcw, hv, hbw⟩ := hrel
    have hr := h.below (hbw.mono hB)
    have hr' := h'.below (hbw.mono hB')
    have hsz := hbw.size
    have hlen := hown.1
    rw [length_arr, Nat.mul_one] at hlen
    have HL := Lib.hid hlen
    clear hlen
    by_cases hkM : k < M + 1
    · have hlt := dg_lt h.wds k
      have hlt' := dg_lt h'.wds k
      obtain ⟨D, hD⟩ : ∃ D, D = dg ns k + dg ms k + carry := ⟨_, rfl⟩
      obtain ⟨R, hR⟩ : ∃ R, R = D % 4294967296 := ⟨_, rfl⟩
      have HST := Lib.hid (plus_step (R := R) HL.out hv.out (by rw [hR, hD]))
      rw [← hD] at HST
      have hDl : D ≤ 8589934591 := by omega
      have hRl : R < 4294967296 := by omega
      have hD1 : ((dg ns k : Int) + ((dg ms k : Int) + (carry : Int))) = (D : Int) := by omega
      have hD2 : (((dg ns k : Int) + (dg ms k : Int)) + (carry : Int)) = (D : Int) := by omega
      have hD3 : ((carry : Int) + ((dg ns k : Int) + (dg ms k : Int))) = (D : Int) := by omega
      have hR1 : (D : Int) % 4294967296 = (R : Int) := by omega
      clear hD hR
      go_wp2_with fail
      refine (at_any A ns n c B k _ hr Hn.out (by omega)).mono ?_
      rintro e w' ⟨rfl, rfl⟩
      go_wp2_with fail
      refine (at_any A' ms m c' B' k _ hr' Hm.out (by omega)).mono ?_
      rintro e w' ⟨rfl, rfl⟩
      have hrone := (Blk.new wr 46 [R]).rd (by rw [wds_cons]; exact ⟨by omega, wds_nil⟩)
      go_wp2_with (at_builtin; refine wpList_append32 _ rfl _ _ 22 rfl w.heap.size 46 Tryd.underlying22 info32 _ k cs rfl (hown.alloc _) _ _ [R] 1 1 rfl hrone rfl (by omega) (by simp; omega) ?_; intro v' w4 hown4 hgrow4 hnil)
      have hgrow : (wr.alloc (.cells #[.int .u32 (R : Int)] 46)).grownBy w4 u5.ownBlock := hgrow4
      have hb5 : Below w.heap.size w w4 := (hbw.alloc (by omega) _).grown hgrow (by simp; omega) (fun k hk => (hown.lt k hk).1)
      clear hgrow4 hnil hgrow hrone
      go_roundw
      case rel =>
        refine ⟨k + 1, D / 4294967296, cs ++ [R], by omega, by omega, by go_num, by go_num, hown4, wds_append.2 ⟨hcw, by rw [wds_cons]; exact ⟨hRl, wds_nil⟩⟩, HST, hb5⟩
      case measure => simp [intOf]; omega
    · obtain rfl : k = M + 1 := by omega
      have HV := Lib.hid (plus_end h.wds h'.wds (by rw [Hn.out]; exact hM1) (by rw [Hm.out]; exact hM2) rfl hv.out)
      obtain ⟨A5, c5, rfl, hr5, hl5⟩ := own_rd hown hcw
      go_wp2_with fail
      refine (reftrim_any A5 cs _ c5 _ _ hr5 (Nat.le_refl _) hl5 (by omega)).mono ?_
      rintro e w3 ⟨g, c6, rfl, hc6, hg6, hblk, hb6⟩
      rw [HV.out] at hc6 hblk
      rw [HV.out]
      have hb7 := below_next hbw hb6 (Nat.le_refl _)
      clear hown hr5 hr hr'
      go_wp2_with fail
      go_ret
      exact ⟨g, c6, rfl, hc6, Nat.le_trans hsz hg6, hblk, hb7⟩
set_option maxRecDepth 100000 in
set_option maxHeartbeats 3200000 in
theorem refminus_any (A A' : Option Addr) (ns ms : List Nat) (n m c c' B B' : Nat) (w : World) (h : Rd w B A ns) (h' : Rd w B' A' ms) (hB : B ≤ w.heap.size) (hB' : B' ≤ w.heap.size) (hn : ns.length = n) (hm : ms.length = m) (hl : n ≤ 16777216) (hl' : m ≤ 16777216) (ht : Trm ms) (hle : val ms ≤ val ns) :
    Calls Tryd.prog 31 #[.slice A n c, .slice A' m c'] w (TrimOut w (val ns - val ms)) := by
  have Hn := Lib.hid hn
  have Hm := Lib.hid hm
  have HMN : Hid (m ≤ n) := Lib.hid (by
    rcases Nat.eq_zero_or_pos m with h0 | h0
    · omega
    · have h1 := pw_le_val ht (by intro e; rw [e] at hm; simp at hm; omega)
      have h2 := val_lt h.wds
      rw [hm] at h1
      rw [hn] at h2
      rcases Nat.lt_or_ge n m with h3 | h3
      · have := pw_le (a := n) (b := m - 1) (by omega); omega
      · exact h3)
  have HLE := Lib.hid hle
  clear hn hm hle
  go_enter Tryd.func31, Tryd.ntmps31
  go_wp2_with fail
  go_loopw [5, 6, 11] (fun v bv iv wr => ∃ (k b : Nat) (cs : List Nat), k ≤ n ∧ b ≤ 1 ∧ iv = .int .i64 k ∧ bv = .int .u64 b ∧ wr.ownsRow w.heap.size 46 1 v k (arr cs) ∧ Wds cs ∧
      Hid (val cs + lo ms k = lo ns k + pw k * b) ∧ Below w.heap.size w wr) (fun _ _ i _ => n - (intOf i).toNat)
  case atStart => exact ⟨0, 0, [], by omega, by omega, rfl, rfl, World.ownsRow_nil _ _ _ _, wds_nil, Lib.hid (by rw [lo_zero, lo_zero]; rfl), Below.refl _ _⟩
  case round =>
    obtain ⟨k, b, cs, hk, hcar, rfl, rfl, hown, hcw, hv, hbw⟩ := hrel
    have hr := h.below (hbw.mono hB)
    have hr' := h'.below (hbw.mono hB')
    have hsz := hbw.size
    have hlen := hown.1
    rw [length_arr, Nat.mul_one] at hlen
    have HL := Lib.hid hlen
    clear hlen
    by_cases hkM : k < n
    · have hlt := dg_lt h.wds k
      have hlt' := dg_lt h'.wds k
      obtain ⟨D, hD⟩ : ∃ D, D = 4294967296 + dg ns k - dg ms k - b := ⟨_, rfl⟩
      obtain ⟨R, hR⟩ : ∃ R, R = D % 4294967296 := ⟨_, rfl⟩
      have HST := Lib.hid (minus_step (R := R) HL.out hv.out hcar hlt hlt' hD hR)
      have hDl : D ≤ 8589934591 := by omega
      have hRl : R < 4294967296 := by omega
      have hD1 : ((4294967296 : Int) + (dg ns k : Int) - (dg ms k : Int) - (b : Int)) = (D : Int) := by omega
      have hR1 : (D : Int) % 4294967296 = (R : Int) := by omega
      clear hD hR
      go_wp2_with fail
      refine (at_any A ns n c B k _ hr Hn.out (by omega)).mono ?_
      rintro e w' ⟨rfl, rfl⟩
      go_wp2_with fail
      refine (at_any A' ms m c' B' k _ hr' Hm.out (by omega)).mono ?_
      rintro e w' ⟨rfl, rfl⟩
      have hrone := (Blk.new wr 46 [R]).rd (by rw [wds_cons]; exact ⟨by omega, wds_nil⟩)
      go_wp2_with (at_builtin; refine wpList_append32 _ rfl _ _ 22 rfl w.heap.size 46 Tryd.underlying22 info32 _ k cs rfl (hown.alloc _) _ _ [R] 1 1 rfl hrone rfl (by omega) (by simp; omega) ?_; intro v' w4 hown4 hgrow4 hnil)
      have hgrow : (wr.alloc (.cells #[.int .u32 (R : Int)] 46)).grownBy w4 u5.ownBlock := hgrow4
      have hb5 : Below w.heap.size w w4 := (hbw.alloc (by omega) _).grown hgrow (by simp; omega) (fun k hk => (hown.lt k hk).1)
      clear hgrow4 hnil hgrow hrone
      go_roundw
      case rel =>
        refine ⟨k + 1, 1 - D / 4294967296, cs ++ [R], by omega, by omega, by go_num, by go_num, hown4, wds_append.2 ⟨hcw, by rw [wds_cons]; exact ⟨hRl, wds_nil⟩⟩, Lib.hid HST.out.1, hb5⟩
      case measure => simp [intOf]; omega
    · obtain rfl : k = n := by omega
      have HV : Hid (val cs = val ns - val ms) := Lib.hid (minus_end hcw (by rw [HL.out, Hn.out]) (by rw [Hm.out, Hn.out]; exact HMN.out) HLE.out (by rw [Hn.out]; exact hv.out))
      obtain ⟨A5, c5, rfl, hr5, hl5⟩ := own_rd hown hcw
      go_wp2_with fail
      refine (reftrim_any A5 cs _ c5 _ _ hr5 (Nat.le_refl _) hl5 (by omega)).mono ?_
      rintro e w3 ⟨g, c6, rfl, hc6, hg6, hblk, hb6⟩
      rw [HV.out] at hc6 hblk
      rw [HV.out]
      have hb7 := below_next hbw hb6 (Nat.le_refl _)
      clear hown hr5 hr hr'
      go_wp2_with fail
      go_ret
      exact ⟨g, c6, rfl, hc6, Nat.le_trans hsz hg6, hblk, hb7⟩
end Go.Proofs.YtobffffcihlkbaaDoor
