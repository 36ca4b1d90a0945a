/- Walks of integer: trim, word, low. -/
import Derived.Test.YtobffffcihlkbaaDoorMem
import Derived.Test.YtobffffcihlkbaaDoorChecked
namespace Lw
theorem take_digs {l : List Nat} (h : Wds l) {k : Nat} (hk : k ≤ l.length) (hv : val (l.take k) = val l) (h0 : k = 0 ∨ dg l (k - 1) ≠ 0) : k = (digs (val l)).length := by
  have hl : (l.take k).length = k := by rw [List.length_take]; omega
  rcases h0 with h0 | h0
  · subst h0
    rw [List.take_zero] at hv
    rw [← hv]; rfl
  · rw [← hv]
    rcases Nat.eq_zero_or_pos k with hk0 | hk0
    · subst hk0
      rw [List.take_zero]; rfl
    · rw [digs_of_last (wds_take h k) (by rw [hl, dg_take (by omega)]; exact h0), hl]
theorem take_zero_last {l : List Nat} {k : Nat} (hk : k ≤ l.length) (hk0 : k ≠ 0) (hv : val (l.take k) = val l) (h0 : dg l (k - 1) = 0) : val (l.take (k - 1)) = val l := by
  have hl : (l.take k).length = k := by rw [List.length_take]; omega
  have h1 := val_of_zero_last (l := l.take k) (by omega) (by rw [hl, dg_take (by omega)]; exact h0)
  rw [hl, List.take_take, Nat.min_eq_left (by omega)] at h1
  rw [h1, hv]
theorem digs_len_le {l : List Nat} (h : Wds l) : (digs (val l)).length ≤ l.length := digs_length_le (val_lt h)
end Lw
namespace Go.Proofs.YtobffffcihlkbaaDoor
open Go Go.RowKit Lw
def cnt : Value → Nat | .slice _ n _ => n | _ => 0
theorem ret_slice {A : Option Addr} {k m c : Nat} (h : k = m) : Ending.returned (.slice A k c) = Ending.returned (.slice A m c) := by rw [h]

set_option maxHeartbeats 400000 in
theorem trim_any (A : Option Addr) (ns : List Nat) (n c B : Nat) (w : World) (h : Rd w B A ns) (hn : ns.length = n) (hc : n ≤ c) (hl : n ≤ 4294967296) :
    Calls Tryd.prog 48 #[.slice A n c] w fun e w' => e = .returned (.slice A (digs (val ns)).length c) ∧ w = w' := by
  have Hn := Lib.hid hn
  go_enter Tryd.func48, Tryd.ntmps48
  clear hn
  go_wp2
  go_loop [0] (fun v => ∃ k : Nat, k ≤ n ∧ v = .slice A k c ∧ Hid (val (ns.take k) = val ns)) (fun v => cnt v)
  case atStart => exact ⟨n, Nat.le_refl _, rfl, Lib.hid (by rw [← Hn.out, List.take_length])⟩
  case round =>
    obtain ⟨k, hk, rfl, hv⟩ := hrel
    by_cases hk0 : k = 0
    · subst hk0
      go_wp2
      go_ret
      exact ⟨ret_slice (take_digs h.wds (Nat.zero_le _) hv.out (.inl rfl)), rfl⟩
    · obtain ⟨b, off, rfl, hb, hcell, hlt⟩ := h.at_ (k := k - 1) (by rw [Hn.out]; omega)
      by_cases hd : dg ns (k - 1) = 0
      · have HV : Hid (val (ns.take (k - 1)) = val ns) := Lib.hid (take_zero_last (by rw [Hn.out]; exact hk) hk0 hv.out hd)
        go_wp2
        go_round
        case rel => exact ⟨k - 1, by omega, rfl, HV⟩
        case measure => simp [cnt]; omega
      · go_wp2
        go_ret
        exact ⟨ret_slice (take_digs h.wds (by rw [Hn.out]; exact hk) hv.out (.inr hd)), rfl⟩
end Go.Proofs.YtobffffcihlkbaaDoor
