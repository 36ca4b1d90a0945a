/- The texts that Parse reads: exactly the texts of integers. -/
import Derived.Test.YtobffffcihlkbaaDoorParse
namespace Lw
open Go
theorem digit_back {b : UInt8} (h1 : 48 ≤ b.toNat) : UInt8.ofNat (48 + (b.toNat - 48)) = b := by
  rw [show 48 + (b.toNat - 48) = b.toNat by omega]; exact UInt8.ofNat_toNat
theorem dec_zero : Lib.decDigits 0 = [48] := by rw [Lib.decDigits, dif_pos (by omega)]; rfl
theorem dec_of_plain (k : Nat) : ∀ l : List UInt8, l.length ≤ k → Plain l → Lib.decDigits (dval l) = l := by
  induction k with
  | zero => intro l hl h; exact absurd h.1 (by omega)
  | succ k ih =>
    intro l hl h
    obtain ⟨h0, hd, hz⟩ := h
    obtain ⟨m, b, rfl⟩ : ∃ m b, l = m ++ [b] := ⟨l.dropLast, l.getLast (by intro e; rw [e] at h0; simp at h0), (List.dropLast_concat_getLast (by intro e; rw [e] at h0; simp at h0)).symm⟩
    have hb := hd b (by simp)
    rw [dval_snoc]
    rcases Nat.eq_zero_or_pos m.length with hm | hm
    · obtain rfl := List.eq_nil_of_length_eq_zero hm
      rw [dval_nil, Nat.zero_mul, Nat.zero_add, Lib.decDigits, dif_pos (by omega), digit_back hb.1]; rfl
    · have hf := hz (by simp; omega) (by simp)
      rw [List.getElem_append_left hm] at hf
      have hp : Plain m := ⟨hm, fun x hx => hd x (by simp [hx]), fun _ _ => hf⟩
      have e := ih m (by simp at hl; omega) hp
      have hv : dval m ≠ 0 := by
        intro e0
        rw [e0, dec_zero] at e
        subst e
        exact hf rfl
      rw [Lib.decDigits, dif_neg (by omega), show (dval m * 10 + (b.toNat - 48)) / 10 = dval m by omega, show (dval m * 10 + (b.toNat - 48)) % 10 = b.toNat - 48 by omega, e, digit_back hb.1]
/-- Digits as Parse wants them behind a sign or none. -/
def Fits (neg : Bool) (d : List UInt8) : Prop := Plain d ∧ ¬(neg = true ∧ d = [48])
theorem dec_plain {l : List UInt8} (h : Plain l) : Lib.decDigits (dval l) = l := dec_of_plain l.length l (Nat.le_refl _) h
theorem good_pos {d : List UInt8} (h : Fits false d) : d = Lib.itoa (dval d : Int) := by
  rw [itoa_pos (by unfold sg; simp), Int.natAbs_natCast, List.nil_append, dec_plain h.1]
theorem good_neg {d : List UInt8} (h : Fits true d) : 45 :: d = Lib.itoa (-(dval d : Int)) := by
  have h0 : dval d ≠ 0 := by
    intro e
    have := dec_plain h.1
    rw [e, dec_zero] at this
    exact h.2 ⟨rfl, this.symm⟩
  rw [itoa_neg (by unfold sg; simp; omega), Int.natAbs_neg, Int.natAbs_natCast, dec_plain h.1]; rfl
theorem not45 {l : List UInt8} (h : Digs l) (h0 : 0 < l.length) : (l[0]'h0).toNat ≠ 45 := by
  have := h _ (List.getElem_mem h0)
  omega
theorem no_pos {l : List UInt8} (h45 : ∀ h : 0 < l.length, (l[0]'h).toNat ≠ 45) (h : ¬Fits false l) : ∀ z, l ≠ Lib.itoa z := by
  intro z e
  cases hz : sg z
  · rw [itoa_pos hz, List.nil_append] at e
    exact h ⟨by rw [e]; exact plain_dec _, fun hh => by cases hh.1⟩
  · rw [itoa_neg hz] at e
    subst e
    exact h45 (by simp) rfl
theorem no_neg {d : List UInt8} (h : ¬Fits true d) : ∀ z, 45 :: d ≠ Lib.itoa z := by
  intro z e
  cases hz : sg z
  · rw [itoa_pos hz, List.nil_append] at e
    have hp := plain_dec z.natAbs
    rw [← e] at hp
    exact not45 hp.2.1 hp.1 rfl
  · rw [itoa_neg hz, List.singleton_append] at e
    injection e with _ e
    refine h ⟨by rw [e]; exact plain_dec _, fun hh => ?_⟩
    have h1 := dval_dec z.natAbs
    rw [← e, hh.2] at h1
    have h2 := (sg_true hz).2
    have h3 : dval [48] = 0 := rfl
    omega
/-- The first bytes of plain digits. -/
theorem front_good {neg : Bool} {d : List UInt8} (hd : Digs d) (h0 : 0 < d.length) (h : (d[0]'h0).toNat = 48 → d.length = 1 ∧ neg = false) : Fits neg d := by
  refine ⟨⟨h0, hd, fun h1 _ e => by have := (h e).1; omega⟩, fun hh => ?_⟩
  obtain ⟨rfl, rfl⟩ := hh
  have := (h rfl).2
  cases this
theorem good_front {neg : Bool} {d : List UInt8} (h : Fits neg d) (h0 : 0 < d.length) (e : (d[0]'h0).toNat = 48) : d.length = 1 ∧ neg = false := by
  obtain ⟨⟨_, hd, hz⟩, hn⟩ := h
  have h1 : d.length = 1 := by
    rcases Nat.lt_or_ge 1 d.length with h1 | h1
    · exact absurd e (hz h1 h0)
    · omega
  refine ⟨h1, ?_⟩
  cases neg
  · rfl
  · refine absurd ⟨rfl, ?_⟩ hn
    obtain ⟨b, rfl⟩ := List.length_eq_one_iff.1 h1
    have e' : b.toNat = 48 := e
    have : b = 48 := UInt8.toNat_inj.1 e'
    rw [this]
end Lw
