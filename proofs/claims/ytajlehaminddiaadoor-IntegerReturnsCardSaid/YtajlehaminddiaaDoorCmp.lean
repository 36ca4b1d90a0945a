/- Walk of integer.compare. -/
import Derived.Test.YtajlehaminddiaaDoorWord
namespace Lw
def cmpN (a b : Nat) : Int := if a < b then -1 else if a = b then 0 else 1
theorem cmpN_lt {a b : Nat} (h : a < b) : cmpN a b = -1 := by unfold cmpN; rw [if_pos h]
theorem cmpN_gt {a b : Nat} (h : b < a) : cmpN a b = 1 := by unfold cmpN; rw [if_neg (by omega), if_neg (by omega)]
theorem cmpN_eq {a b : Nat} (h : a = b) : cmpN a b = 0 := by unfold cmpN; rw [if_neg (by omega), if_pos h]
/-- From place k on the two lists are one. -/
def Same (a b : List Nat) (k : Nat) : Prop := a.drop k = b.drop k
theorem same_all {a b : List Nat} {n : Nat} (ha : a.length = n) (hb : b.length = n) : Same a b n := by
  unfold Same; rw [List.drop_of_length_le (by omega), List.drop_of_length_le (by omega)]
theorem same_down {a b : List Nat} {k : Nat} (ha : k < a.length) (hb : k < b.length) (h : Same a b (k + 1)) (hd : dg a k = dg b k) : Same a b k := by
  unfold Same at *
  rw [List.drop_eq_getElem_cons ha, List.drop_eq_getElem_cons hb, h, ← dg_get ha, ← dg_get hb, hd]
theorem same_zero {a b : List Nat} (h : Same a b 0) : val a = val b := by
  unfold Same at h; rw [List.drop_zero, List.drop_zero] at h; rw [h]
theorem same_lt {a b : List Nat} {n k : Nat} (wa : Wds a) (ha : a.length = n) (hb : b.length = n) (h : Same a b (k + 1)) (hd : dg a k < dg b k) : val a < val b := by
  have h1 := val_split a (k + 1)
  have h2 := val_split b (k + 1)
  unfold Same at h
  rw [ha, h] at h1
  rw [hb] at h2
  have h3 := lo_lt wa k
  rw [lo_succ] at h1 h2
  have h4 : pw k * (dg a k + 1) ≤ pw k * dg b k := Nat.mul_le_mul_left _ hd
  rw [Nat.mul_add, Nat.mul_one] at h4
  generalize pw (min (k + 1) n) * val (b.drop (k + 1)) = z at *
  omega
end Lw
namespace Go.Proofs.YtajlehaminddiaaDoor
open Go Go.RowKit Lw

theorem below_drewN' (B : Nat) (w : World) (n : Nat) : Below B w (w.drewN n) := ⟨rfl, rfl, rfl, Nat.le_refl _, fun _ _ => rfl⟩

set_option maxHeartbeats 400000 in
theorem compare_any (A A' : Option Addr) (ns ms : List Nat) (n m c c' B B' : Nat) (w : World) (h : Rd w B A ns) (h' : Rd w B' A' ms) (t : Trm ns) (t' : Trm ms)
    (hn : ns.length = n) (hm : ms.length = m) (hl : n ≤ 4294967296) (hl' : m ≤ 4294967296) :
    Calls Tryd.prog 63 #[.slice A n c, .slice A' m c'] w fun e w' => e = .returned (.int .i64 (cmpN (val ns) (val ms))) ∧ ∃ q, w' = w.drewN q := by
  have Hn := Lib.hid hn
  have Hm := Lib.hid hm
  clear hn hm
  by_cases hnm : n = m
  · subst hnm
    go_enter Tryd.func63, Tryd.ntmps63
    go_wp2
    go_loopw [5] (fun v wr => ∃ (i : Int) (q : Nat), -1 ≤ i ∧ i < n ∧ v = .int .i64 i ∧ Hid (Same ns ms (i + 1).toNat) ∧ wr = w.drewN q) (fun v _ => (intOf v + 1).toNat)
    case atStart => exact ⟨(n : Int) - 1, 0, by omega, by omega, rfl, Lib.hid (by rw [show ((n : Int) - 1 + 1).toNat = n by omega]; exact same_all Hn.out Hm.out), rfl⟩
    case round =>
      obtain ⟨i, q, hi, hin, rfl, hs, rfl⟩ := hrel
      by_cases h0 : i < 0
      · have HV : Hid (val ns = val ms) := Lib.hid (same_zero (by have := hs.out; rwa [show (i + 1).toNat = 0 by omega] at this))
        go_wp2
        go_ret
        exact ⟨ret_int (by rw [cmpN_eq HV.out]), q, rfl⟩
      · obtain ⟨k, rfl⟩ := Int.eq_ofNat_of_zero_le (show 0 ≤ i by omega)
        have hs1 : Hid (Same ns ms (k + 1)) := Lib.hid (by have := hs.out; rwa [show ((k : Int) + 1).toNat = k + 1 by omega] at this)
        clear hs
        obtain ⟨b, off, rfl, hb, hcell, hlt⟩ := h.at_ (k := k) (by rw [Hn.out]; omega)
        obtain ⟨b', off', rfl, hb', hcell', hlt'⟩ := h'.at_ (k := k) (by rw [Hm.out]; omega)
        rcases Nat.lt_trichotomy (dg ns k) (dg ms k) with hd | hd | hd
        · have hb1 : ((dg ns k : Int) != (dg ms k : Int)) = true := by rw [bne_iff_ne]; omega
          go_wp2
          go_quiet (fail)
          go_wp2
          go_quiet (fail)
          go_wp2
          go_ret
          exact ⟨ret_int (by rw [cmpN_lt (same_lt h.wds Hn.out Hm.out hs1.out hd)]), _, by rw [World.drewN_drewN, World.drewN_drewN]⟩
        · have hb1 : ((dg ns k : Int) != (dg ms k : Int)) = false := by rw [bne_eq_false_iff_eq]; omega
          have HS : Hid (Same ns ms k) := Lib.hid (same_down (by rw [Hn.out]; omega) (by rw [Hm.out]; omega) hs1.out hd)
          have Hd := Lib.hid hd
          clear hd
          go_wp2
          go_quiet (fail)
          go_wp2
          go_roundw
          case rel => exact ⟨(k : Int) - 1, q + nq, by omega, by omega, rfl, by rw [show ((k : Int) - 1 + 1).toNat = k by omega]; exact HS, rfl⟩
          case measure => simp [intOf]
        · have hb1 : ((dg ns k : Int) != (dg ms k : Int)) = true := by rw [bne_iff_ne]; omega
          go_wp2
          go_quiet (fail)
          go_wp2
          go_quiet (fail)
          go_wp2
          go_ret
          exact ⟨ret_int (by rw [cmpN_gt (same_lt h'.wds Hm.out Hn.out (Eq.symm hs1.out) hd)]), _, by rw [World.drewN_drewN, World.drewN_drewN]⟩
  · have hb1 : ((n : Int) != (m : Int)) = true := by rw [bne_iff_ne]; omega
    rcases Nat.lt_or_ge n m with hlt | hge
    · go_enter Tryd.func63, Tryd.ntmps63
      go_wp2
      go_ret
      exact ⟨ret_int (by rw [cmpN_lt (lt_pw_of_length h.wds t' (by rw [Hn.out, Hm.out]; exact hlt))]), 0, rfl⟩
    · have hlt : m < n := by omega
      go_enter Tryd.func63, Tryd.ntmps63
      go_wp2
      go_ret
      exact ⟨ret_int (by rw [cmpN_gt (lt_pw_of_length h'.wds t (by rw [Hn.out, Hm.out]; exact hlt))]), 0, rfl⟩
end Go.Proofs.YtajlehaminddiaaDoor
