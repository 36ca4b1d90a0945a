/- Walks of the reference: compare, plus, minus. -/
import Derived.Test.YtobffffcihlkbaaDoorRefi
namespace Lw
open Go
theorem lo_from {a b : List Nat} {k M : Nat} (hk : k ≤ M) (h : ∀ j, k ≤ j → j < M → dg a j = dg b j) : ∃ z, lo a M = lo a k + z ∧ lo b M = lo b k + z := by
  induction M with
  | zero =>
    have : k = 0 := by omega
    subst this
    exact ⟨0, rfl, rfl⟩
  | succ M ih =>
    rcases Nat.lt_or_ge k (M + 1) with h1 | h1
    · obtain ⟨z, e1, e2⟩ := ih (by omega) (fun j hj hj' => h j hj (by omega))
      have := h M (by omega) (by omega)
      refine ⟨z + pw M * dg a M, ?_, ?_⟩
      · rw [lo_succ, e1]; omega
      · rw [lo_succ, e2, ← this]; omega
    · have : k = M + 1 := by omega
      subst this
      exact ⟨0, rfl, rfl⟩
/-- From place k on the two numbers have the same words. -/
def Agree (a b : List Nat) (k : Nat) : Prop := ∀ j, k ≤ j → dg a j = dg b j
theorem agree_all {a b : List Nat} {M : Nat} (ha : a.length ≤ M) (hb : b.length ≤ M) : Agree a b M := fun j hj => by rw [dg_ge (by omega), dg_ge (by omega)]
theorem agree_down {a b : List Nat} {k : Nat} (h : Agree a b (k + 1)) (hd : dg a k = dg b k) : Agree a b k := fun j hj => by
  rcases Nat.lt_or_ge k j with h1 | h1
  · exact h j h1
  · have : j = k := by omega
    subst this; exact hd
theorem agree_lt {a b : List Nat} {k : Nat} (wa : Wds a) (h : Agree a b (k + 1)) (hd : dg a k < dg b k) : val a < val b := by
  obtain ⟨z, e1, e2⟩ := lo_from (a := a) (b := b) (k := k + 1) (M := a.length + b.length + (k + 1)) (by omega) (fun j hj _ => h j hj)
  rw [lo_all (by omega), lo_succ] at e1 e2
  have h3 := lo_lt wa k
  have h4 : pw k * (dg a k + 1) ≤ pw k * dg b k := Nat.mul_le_mul_left _ hd
  rw [Nat.mul_add, Nat.mul_one] at h4
  omega
theorem agree_eq {a b : List Nat} (h : Agree a b 0) : val a = val b := by
  obtain ⟨z, e1, e2⟩ := lo_from (a := a) (b := b) (k := 0) (M := a.length + b.length) (by omega) (fun j hj _ => h j hj)
  rw [lo_all (by omega)] at e1 e2
  rw [lo_zero] at e1 e2
  omega
end Lw
namespace Go.Proofs.YtobffffcihlkbaaDoor
open Go Go.RowKit Lw
set_option maxRecDepth 100000 in
set_option maxHeartbeats 1600000 in
theorem refcompare_any (A A' : Option Addr) (ns ms : List Nat) (n m c c' B B' : Nat) (w : World) (h : Rd w B A ns) (h' : Rd w B' A' ms) (hn : ns.length = n) (hm : ms.length = m) (hl : n ≤ 16777216) (hl' : m ≤ 16777216) :
    Calls Tryd.prog 34 #[.slice A n c, .slice A' m c'] w fun e w' => e = .returned (.int .i64 (cmpN (val ns) (val ms))) ∧ w = w' := by
  have Hn := Lib.hid hn
  have Hm := Lib.hid hm
  clear hn hm
  obtain ⟨M, hM, hM1, hM2⟩ : ∃ M : Nat, (max (n : Int) (m : Int)) = (M : Int) ∧ n ≤ M ∧ m ≤ M := ⟨max n m, by omega, by omega, by omega⟩
  have hMl : M ≤ 16777216 := by omega
  go_enter Tryd.func34, Tryd.ntmps34
  go_wp2_with fail
  go_loopw [5] (fun v wr => ∃ i : Int, -1 ≤ i ∧ i < M ∧ v = .int .i64 i ∧ Hid (Agree ns ms (i + 1).toNat) ∧ w = wr) (fun v _ => (intOf v + 1).toNat)
  case atStart => exact ⟨(M : Int) - 1, by omega, by omega, rfl, Lib.hid (by rw [show ((M : Int) - 1 + 1).toNat = M by omega]; exact agree_all (by rw [Hn.out]; exact hM1) (by rw [Hm.out]; exact hM2)), rfl⟩
  case round =>
    obtain ⟨i, hi, hiM, rfl, hag, rfl⟩ := hrel
    by_cases h0 : i < 0
    · have HV : Hid (val ns = val ms) := Lib.hid (agree_eq (by have := hag.out; rwa [show (i + 1).toNat = 0 by omega] at this))
      go_wp2_with fail
      go_ret
      exact ⟨ret_int (by rw [cmpN_eq HV.out]), rfl⟩
    · obtain ⟨k, rfl⟩ := Int.eq_ofNat_of_zero_le (show 0 ≤ i by omega)
      have hs1 : Hid (Agree ns ms (k + 1)) := Lib.hid (by have := hag.out; rwa [show ((k : Int) + 1).toNat = k + 1 by omega] at this)
      clear hag
      have hlt := dg_lt h.wds k
      have hlt' := dg_lt h'.wds k
      rcases Nat.lt_trichotomy (dg ns k) (dg ms k) with hd | hd | hd
      · have hb1 : ((dg ns k : Int) != (dg ms k : Int)) = true := by rw [bne_iff_ne]; omega
        have HR := Lib.hid (cmpN_lt (agree_lt h.wds hs1.out hd))
        go_wp2_with fail
        refine (at_any A ns n c B k _ h Hn.out (by omega)).mono ?_
        rintro e w' ⟨rfl, rfl⟩
        go_wp2_with fail
        refine (at_any A' ms m c' B' k _ h' Hm.out (by omega)).mono ?_
        rintro e w' ⟨rfl, rfl⟩
        go_wp2_with fail
        refine (at_any A ns n c B k _ h Hn.out (by omega)).mono ?_
        rintro e w' ⟨rfl, rfl⟩
        go_wp2_with fail
        refine (at_any A' ms m c' B' k _ h' Hm.out (by omega)).mono ?_
        rintro e w' ⟨rfl, rfl⟩
        go_wp2_with fail
        go_ret
        exact ⟨ret_int (by rw [HR.out]), rfl⟩
      · have hb1 : ((dg ns k : Int) != (dg ms k : Int)) = false := by rw [bne_eq_false_iff_eq]; omega
        have HS := Lib.hid (agree_down hs1.out hd)
        go_wp2_with fail
        refine (at_any A ns n c B k _ h Hn.out (by omega)).mono ?_
        rintro e w' ⟨rfl, rfl⟩
        go_wp2_with fail
        refine (at_any A' ms m c' B' k _ h' Hm.out (by omega)).mono ?_
        rintro e w' ⟨rfl, rfl⟩
        go_wp2_with fail
        go_roundw
        case rel => exact ⟨(k : Int) - 1, by omega, by omega, rfl, Lib.hid (by rw [show ((k : Int) - 1 + 1).toNat = k by omega]; exact HS.out), trivial⟩
        case measure => simp [intOf]
      · have hb1 : ((dg ns k : Int) != (dg ms k : Int)) = true := by rw [bne_iff_ne]; omega
        have HR := Lib.hid (cmpN_gt (agree_lt h'.wds (fun j hj => (hs1.out j hj).symm) hd))
        go_wp2_with fail
        refine (at_any A ns n c B k _ h Hn.out (by omega)).mono ?_
        rintro e w' ⟨rfl, rfl⟩
        go_wp2_with fail
        refine (at_any A' ms m c' B' k _ h' Hm.out (by omega)).mono ?_
        rintro e w' ⟨rfl, rfl⟩
        go_wp2_with fail
        refine (at_any A ns n c B k _ h Hn.out (by omega)).mono ?_
        rintro e w' ⟨rfl, rfl⟩
        go_wp2_with fail
        refine (at_any A' ms m c' B' k _ h' Hm.out (by omega)).mono ?_
        rintro e w' ⟨rfl, rfl⟩
        go_wp2_with fail
        go_ret
        exact ⟨ret_int (by rw [HR.out]), rfl⟩
end Go.Proofs.YtobffffcihlkbaaDoor
