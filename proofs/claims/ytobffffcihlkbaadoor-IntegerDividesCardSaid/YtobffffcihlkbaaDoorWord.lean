/- Walks of integer: word, low, split, bitsOf. -/
import Derived.Test.YtobffffcihlkbaaDoorTrim
import Derived.Test.YtobffffcihlkbaaDoorBits
namespace Lw
def wd (l : List Nat) (i : Int) : Nat := if i < 0 then 0 else dg l i.toNat
theorem wd_nat (l : List Nat) (k : Nat) : wd l (k : Int) = dg l k := by unfold wd; rw [if_neg (by omega), Int.toNat_natCast]
theorem wd_lt {l : List Nat} (h : Wds l) (i : Int) : wd l i < 4294967296 := by
  unfold wd; split
  · omega
  · exact dg_lt h _
theorem wd_neg {l : List Nat} {i : Int} (h : i < 0) : wd l i = 0 := by unfold wd; rw [if_pos h]
theorem lo_two (l : List Nat) : lo l 2 = wd l 0 + 4294967296 * wd l 1 := by
  have h0 := wd_nat l 0
  have h1 := wd_nat l 1
  have e1 := lo_succ l 0
  have e2 := lo_succ l 1
  rw [lo_zero, pw_zero] at e1
  have p1 : pw 1 = 4294967296 := rfl
  rw [p1] at e2
  simp only [Nat.zero_add, Nat.reduceAdd, Int.cast_ofNat_Int] at *
  omega
theorem wd_ge {l : List Nat} {i : Int} (h : (l.length : Int) ≤ i) : wd l i = 0 := by unfold wd; rw [if_neg (by omega)]; exact dg_ge (by omega)
end Lw
namespace Go.Proofs.YtobffffcihlkbaaDoor
open Go Go.RowKit Lw
theorem ret_int {k : IntKind} {a b : Int} (h : a = b) : Ending.returned (.int k a) = Ending.returned (.int k b) := by rw [h]

set_option maxHeartbeats 400000 in
theorem word_any (A : Option Addr) (ns : List Nat) (n c B : Nat) (i : Int) (w : World) (h : Rd w B A ns) (hn : ns.length = n) (_hl : n ≤ 4294967296) :
    Calls Tryd.prog 50 #[.slice A n c, .int .i64 i] w fun e w' => e = .returned (.int .u64 (wd ns i : Int)) ∧ w = w' := by
  have Hn := Lib.hid hn
  clear hn
  by_cases h0 : i < 0
  · go_enter Tryd.func50, Tryd.ntmps50
    go_wp2
    go_ret
    exact ⟨ret_int (by rw [wd_neg h0]; rfl), rfl⟩
  · by_cases h1 : (n : Int) ≤ i
    · go_enter Tryd.func50, Tryd.ntmps50
      go_wp2
      go_ret
      exact ⟨ret_int (by rw [wd_ge (by rw [Hn.out]; exact h1)]; rfl), rfl⟩
    · obtain ⟨k, rfl⟩ := Int.eq_ofNat_of_zero_le (show 0 ≤ i by omega)
      obtain ⟨b, off, rfl, hb, hcell, hlt⟩ := h.at_ (k := k) (by rw [Hn.out]; omega)
      go_enter Tryd.func50, Tryd.ntmps50
      go_wp2
      go_ret
      exact ⟨ret_int (by rw [wd_nat]), rfl⟩

set_option maxHeartbeats 400000 in
theorem low_any (A : Option Addr) (ns : List Nat) (n c B : Nat) (w : World) (h : Rd w B A ns) (hn : ns.length = n) (hl : n ≤ 4294967296) :
    Calls Tryd.prog 45 #[.slice A n c] w fun e w' => e = .returned (.int .u64 (lo ns 2 : Int)) ∧ w = w' := by
  have e0 := wd_lt h.wds 0
  have e1 := wd_lt h.wds 1
  have Hn := Lib.hid hn
  clear hn
  go_enter Tryd.func45, Tryd.ntmps45
  go_wp2_with (go_at_call 50; refine (word_any _ ns _ _ _ _ _ h Hn.out hl).mono ?_; rintro e w' ⟨rfl, rfl⟩)
  go_ret
  exact ⟨ret_int (by rw [or_words e1 e0, lo_two]), rfl⟩
end Go.Proofs.YtobffffcihlkbaaDoor
