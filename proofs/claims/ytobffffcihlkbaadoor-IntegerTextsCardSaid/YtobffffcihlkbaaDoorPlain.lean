/- Walks of integer: plain, Parse of the text of an integer. -/
import Derived.Test.YtobffffcihlkbaaDoorReads
import Derived.Test.YtobffffcihlkbaaDoorRoots
namespace Lw
open Go
/-- The digits of a number: some, no zero in front but a single one. -/
def Plain (l : List UInt8) : Prop := 0 < l.length ∧ Digs l ∧ (1 < l.length → ∀ h : 0 < l.length, (l[0]'h).toNat ≠ 48)
theorem digs_dec (n : Nat) : Digs (Lib.decDigits n) := by
  induction n using Nat.strongRecOn with
  | ind n ih =>
    rw [Lib.decDigits]
    by_cases h : n < 10
    · rw [dif_pos h]
      intro b hb
      rw [List.mem_singleton] at hb
      subst hb
      have := digit_cell h
      omega
    · rw [dif_neg h]
      intro b hb
      rw [List.mem_append, List.mem_singleton] at hb
      rcases hb with hb | rfl
      · exact ih (n / 10) (by omega) b hb
      · have := digit_cell (d := n % 10) (by omega)
        omega
theorem dval_dec (n : Nat) : dval (Lib.decDigits n) = n := by
  induction n using Nat.strongRecOn with
  | ind n ih =>
    rw [Lib.decDigits]
    by_cases h : n < 10
    · rw [dif_pos h]
      have := digit_cell h
      simp [dval]
      omega
    · rw [dif_neg h, dval_snoc, ih (n / 10) (by omega)]
      have := digit_cell (d := n % 10) (by omega)
      omega
theorem dec_front (n : Nat) (h0 : n ≠ 0) : ∀ h : 0 < (Lib.decDigits n).length, ((Lib.decDigits n)[0]'h).toNat ≠ 48 := by
  induction n using Nat.strongRecOn with
  | ind n ih =>
    by_cases h : n < 10
    · intro hh
      have e : Lib.decDigits n = [UInt8.ofNat (48 + n)] := by rw [Lib.decDigits, dif_pos h]
      have := digit_cell h
      simp only [e, List.getElem_cons_zero]
      omega
    · intro hh
      have hp := dec_ne (n / 10)
      have e : Lib.decDigits n = Lib.decDigits (n / 10) ++ [UInt8.ofNat (48 + n % 10)] := by rw [Lib.decDigits, dif_neg h]
      have h1 := ih (n / 10) (by omega) (by omega) hp
      simp only [e, List.getElem_append_left hp]
      exact h1
theorem plain_dec (n : Nat) : Plain (Lib.decDigits n) := by
  refine ⟨dec_ne n, digs_dec n, fun h1 h => ?_⟩
  by_cases h0 : n = 0
  · subst h0
    rw [Lib.decDigits_one (by omega)] at h1
    simp at h1
  · exact dec_front n h0 h
end Lw
namespace Go.Proofs.YtobffffcihlkbaaDoor
open Go Go.RowKit Lw
set_option maxRecDepth 100000 in
set_option maxHeartbeats 3200000 in
theorem plain_any (l : List UInt8) (w : World) (hp : Plain l) (hl : l.length ≤ 65536) :
    Calls Tryd.prog 38 #[.string ⟨l.toArray⟩] w fun e w' => e = .returned (.bool true) ∧ w = w' := by
  obtain ⟨S, hS⟩ : ∃ S : ByteArray, S = ⟨l.toArray⟩ := ⟨_, rfl⟩
  have hsz : S.size = l.length := by rw [hS]; simp [ByteArray.size]
  have hat : ∀ k (h : k < S.size), (S[k]'h).toNat = (l[k]'(by omega)).toNat := by intro k h; subst hS; rfl
  obtain ⟨h0, hd, hz⟩ := hp
  have hne : S.toList.isEmpty = false := by
    rw [hS, ByteArray.toList_mk]
    cases l with
    | nil => simp at h0
    | cons x l => rfl
  have hs0 : 0 < S.size := by omega
  have hfst := hd (l[0]'h0) (List.getElem_mem _)
  rw [← hS]
  have HAT := Lib.hid hat
  have HD := Lib.hid hd
  obtain ⟨b, hb⟩ : ∃ b, b = (l[0]'h0).toNat := ⟨_, rfl⟩
  have hsb : ((S[0]'hs0).toNat : Int) = (b : Int) := by rw [hat 0 hs0, hb]
  have HZ : Hid (1 < l.length → b ≠ 48) := Lib.hid (fun h => by rw [hb]; exact hz h h0)
  rw [← hb] at hfst
  clear hat hd hS hz hb
  go_enter Tryd.func38, Tryd.ntmps38
  by_cases h48 : b = 48
  · have h1 : l.length = 1 := by rcases Nat.lt_or_ge 1 l.length with h | h; exact absurd h48 (HZ.out h); omega
    go_wp2_with fail
    go_loopw [18] (fun iv wr => ∃ i : Nat, i ≤ l.length ∧ iv = .int .i64 i ∧ w = wr) (fun iv _ => l.length - (intOf iv).toNat)
    case atStart => exact ⟨0, Nat.zero_le _, rfl, rfl⟩
    case round =>
      obtain ⟨i, hi, rfl, rfl⟩ := hrel
      by_cases hil : i < l.length
      · have hks : i < S.size := by omega
        have hbb := HD.out (l[i]'hil) (List.getElem_mem _)
        obtain ⟨d, hdd⟩ : ∃ d, d = (l[i]'hil).toNat := ⟨_, rfl⟩
        have hsk : ((S[i]'hks).toNat : Int) = (d : Int) := by rw [HAT.out i hks, hdd]
        rw [← hdd] at hbb
        obtain ⟨hb1, hb2⟩ := hbb
        clear hdd
        go_wp2_with fail
        go_roundw
        case rel => exact ⟨i + 1, by omega, by go_num, trivial⟩
        case measure => simp [intOf]; omega
      · obtain rfl : i = l.length := by omega
        go_wp2_with fail
        go_ret
        exact ⟨rfl, rfl⟩
  · have hbi : ((b : Int) == 48) = false := by rw [beq_eq_false_iff_ne]; omega
    go_wp2_with fail
    go_loopw [18] (fun iv wr => ∃ i : Nat, i ≤ l.length ∧ iv = .int .i64 i ∧ w = wr) (fun iv _ => l.length - (intOf iv).toNat)
    case atStart => exact ⟨0, Nat.zero_le _, rfl, rfl⟩
    case round =>
      obtain ⟨i, hi, rfl, rfl⟩ := hrel
      by_cases hil : i < l.length
      · have hks : i < S.size := by omega
        have hbb := HD.out (l[i]'hil) (List.getElem_mem _)
        obtain ⟨d, hdd⟩ : ∃ d, d = (l[i]'hil).toNat := ⟨_, rfl⟩
        have hsk : ((S[i]'hks).toNat : Int) = (d : Int) := by rw [HAT.out i hks, hdd]
        rw [← hdd] at hbb
        obtain ⟨hb1, hb2⟩ := hbb
        clear hdd
        go_wp2_with fail
        go_roundw
        case rel => exact ⟨i + 1, by omega, by go_num, trivial⟩
        case measure => simp [intOf]; omega
      · obtain rfl : i = l.length := by omega
        go_wp2_with fail
        go_ret
        exact ⟨rfl, rfl⟩
end Go.Proofs.YtobffffcihlkbaaDoor
