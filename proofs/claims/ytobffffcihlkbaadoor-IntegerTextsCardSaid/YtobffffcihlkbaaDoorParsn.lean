/- Walks of integer: plain, Parse at what is no integer's text. -/
import Derived.Test.YtobffffcihlkbaaDoorPars
namespace Lw
open Go
theorem digs_more {l : List UInt8} {i : Nat} (h : i < l.length) (hd : Digs (l.take i)) (hb : 48 ≤ (l[i]'h).toNat ∧ (l[i]'h).toNat ≤ 57) : Digs (l.take (i + 1)) := by
  rw [List.take_succ_eq_append_getElem h]
  intro b hb'
  rw [List.mem_append, List.mem_singleton] at hb'
  rcases hb' with hb' | rfl
  · exact hd b hb'
  · exact hb
end Lw
namespace Go.Proofs.YtobffffcihlkbaaDoor
open Go Go.RowKit Lw
set_option maxRecDepth 100000 in
set_option maxHeartbeats 3200000 in
theorem plainno_any (l : List UInt8) (w : World) (hp : ¬Plain l) (hl : l.length ≤ 65536) :
    Calls Tryd.prog 38 #[.string ⟨l.toArray⟩] w fun e w' => e = .returned (.bool false) ∧ w = w' := by
  obtain ⟨S, hS⟩ : ∃ S : ByteArray, S = ⟨l.toArray⟩ := ⟨_, rfl⟩
  have hsz : S.size = l.length := by rw [hS]; simp [ByteArray.size]
  have hat : ∀ k (h : k < S.size), (S[k]'h).toNat = (l[k]'(by omega)).toNat := by intro k h; subst hS; rfl
  have HPL := Lib.hid hp
  have HAT := Lib.hid hat
  clear hp hat
  rcases Nat.eq_zero_or_pos l.length with h0 | h0
  · have hne : S.toList.isEmpty = true := by
      rw [hS, ByteArray.toList_mk]
      cases l with
      | nil => rfl
      | cons x l => simp at h0
    rw [← hS]
    clear hS
    go_enter Tryd.func38, Tryd.ntmps38
    go_wp2_with fail
    go_ret
    exact ⟨rfl, rfl⟩
  have hne : S.toList.isEmpty = false := by
    rw [hS, ByteArray.toList_mk]
    cases l with
    | nil => simp at h0
    | cons x l => rfl
  have hs0 : 0 < S.size := by omega
  rw [← hS]
  obtain ⟨b, hb⟩ : ∃ b, b = (l[0]'h0).toNat := ⟨_, rfl⟩
  have hsb : ((S[0]'hs0).toNat : Int) = (b : Int) := by rw [HAT.out 0 hs0, hb]
  have HB := Lib.hid hb
  clear hb hS
  go_enter Tryd.func38, Tryd.ntmps38
  by_cases h48 : b = 48
  · by_cases h1 : 1 < l.length
    · go_wp2_with fail
      go_ret
      exact ⟨rfl, rfl⟩
    have h1' : l.length = 1 := by omega
    go_wp2_with fail
    go_loopw [18] (fun iv wr => ∃ i : Nat, i ≤ l.length ∧ iv = .int .i64 i ∧ Hid (Digs (l.take i)) ∧ w = wr) (fun iv _ => l.length - (intOf iv).toNat)
    case atStart => exact ⟨0, Nat.zero_le _, rfl, Lib.hid (by intro x hx; simp at hx), rfl⟩
    case round =>
      obtain ⟨i, hi, rfl, hdg, rfl⟩ := hrel
      by_cases hil : i < l.length
      · have hks : i < S.size := by omega
        obtain ⟨d, hdd⟩ : ∃ d, d = (l[i]'hil).toNat := ⟨_, rfl⟩
        have hsk : ((S[i]'hks).toNat : Int) = (d : Int) := by rw [HAT.out i hks, hdd]
        have HNX : Hid (48 ≤ d ∧ d ≤ 57 → Digs (l.take (i + 1))) := Lib.hid (fun hh => digs_more hil hdg.out (by rw [← hdd]; exact hh))
        clear hdd
        by_cases hd1 : d < 48
        · go_wp2_with fail
          go_ret
          exact ⟨rfl, rfl⟩
        · by_cases hd2 : 57 < d
          · go_wp2_with fail
            go_ret
            exact ⟨rfl, rfl⟩
          · go_wp2_with fail
            go_roundw
            case rel => exact ⟨i + 1, by omega, by go_num, Lib.hid (HNX.out ⟨by omega, by omega⟩), trivial⟩
            case measure => simp [intOf]; omega
      · obtain rfl : i = l.length := by omega
        exfalso
        refine HPL.out ⟨h0, ?_, ?_⟩
        · have := hdg.out; rwa [List.take_length] at this
        · intro h1 hh; rw [← HB.out]; omega
  · have hbi : ((b : Int) == 48) = false := by rw [beq_eq_false_iff_ne]; omega
    have H48 := Lib.hid h48
    go_wp2_with fail
    go_loopw [18] (fun iv wr => ∃ i : Nat, i ≤ l.length ∧ iv = .int .i64 i ∧ Hid (Digs (l.take i)) ∧ w = wr) (fun iv _ => l.length - (intOf iv).toNat)
    case atStart => exact ⟨0, Nat.zero_le _, rfl, Lib.hid (by intro x hx; simp at hx), rfl⟩
    case round =>
      obtain ⟨i, hi, rfl, hdg, rfl⟩ := hrel
      by_cases hil : i < l.length
      · have hks : i < S.size := by omega
        obtain ⟨d, hdd⟩ : ∃ d, d = (l[i]'hil).toNat := ⟨_, rfl⟩
        have hsk : ((S[i]'hks).toNat : Int) = (d : Int) := by rw [HAT.out i hks, hdd]
        have HNX : Hid (48 ≤ d ∧ d ≤ 57 → Digs (l.take (i + 1))) := Lib.hid (fun hh => digs_more hil hdg.out (by rw [← hdd]; exact hh))
        clear hdd
        by_cases hd1 : d < 48
        · go_wp2_with fail
          go_ret
          exact ⟨rfl, rfl⟩
        · by_cases hd2 : 57 < d
          · go_wp2_with fail
            go_ret
            exact ⟨rfl, rfl⟩
          · go_wp2_with fail
            go_roundw
            case rel => exact ⟨i + 1, by omega, by go_num, Lib.hid (HNX.out ⟨by omega, by omega⟩), trivial⟩
            case measure => simp [intOf]; omega
      · obtain rfl : i = l.length := by omega
        exfalso
        refine HPL.out ⟨h0, ?_, ?_⟩
        · have := hdg.out; rwa [List.take_length] at this
        · intro h1 hh; rw [← HB.out]; exact H48.out
/-- Parse's answer where it reads nothing. -/
def NotRead (w : World) (z : Int) (e : Ending) (w' : World) : Prop := e = .returned (.tuple #[.agg #[.bool false, .slice none 0 0], .iface 48 (.int .i64 z)]) ∧ Below w.heap.size w w'
set_option maxRecDepth 100000 in
set_option maxHeartbeats 3200000 in
theorem parsenopos_any (l : List UInt8) (w : World) (h45 : ∀ h : 0 < l.length, (l[0]'h).toNat ≠ 45) (hg : ¬Fits false l) (hl : l.length ≤ 65536) :
    Calls Tryd.prog 15 #[.string ⟨l.toArray⟩] w (NotRead w 2) := by
  have hp' := fun W => plainno_any l W (fun h => hg ⟨h, fun hh => by cases hh.1⟩) hl
  obtain ⟨S, hS⟩ : ∃ S : ByteArray, S = ⟨l.toArray⟩ := ⟨_, rfl⟩
  have hsz : S.size = l.length := by rw [hS]; simp [ByteArray.size]
  have hat : ∀ k (h : k < S.size), (S[k]'h).toNat = (l[k]'(by omega)).toNat := by intro k h; subst hS; rfl
  rw [← hS] at hp' ⊢
  have HP := Lib.hid hp'
  have HAT := Lib.hid hat
  have H45 := Lib.hid h45
  clear hp' hat hg hS h45
  rcases Nat.eq_zero_or_pos l.length with h0 | h0
  · go_enter Tryd.func15, Tryd.ntmps15
    go_wp2_with fail
    refine (HP.out _).mono ?_
    rintro e w1 ⟨rfl, rfl⟩
    obtain ⟨d0, d1, g0, g1⟩ := (Two.new w 24 (.bool false) (.slice none 0 0)).facts
    go_wp2_with fail
    refine bodyPost_ret (v := .tuple #[.agg #[.bool false, .slice none 0 0], .iface 48 (.int .i64 2)]) (by simp [results, Tryd.results15, go_sem, d0, d1]) rfl ?_
    exact ⟨rfl, (Below.refl w.heap.size w).alloc (Nat.le_refl _) _⟩
  · have hs0 : 0 < S.size := by omega
    obtain ⟨b, hb⟩ : ∃ b, b = (l[0]'h0).toNat := ⟨_, rfl⟩
    have hsb : ((S[0]'hs0).toNat : Int) = (b : Int) := by rw [HAT.out 0 hs0, hb]
    have hb2 : ((b : Int) == 45) = false := by rw [beq_eq_false_iff_ne]; have := H45.out h0; omega
    clear hb
    go_enter Tryd.func15, Tryd.ntmps15
    go_wp2_with fail
    refine (HP.out _).mono ?_
    rintro e w1 ⟨rfl, rfl⟩
    obtain ⟨d0, d1, g0, g1⟩ := (Two.new w 24 (.bool false) (.slice none 0 0)).facts
    go_wp2_with fail
    refine bodyPost_ret (v := .tuple #[.agg #[.bool false, .slice none 0 0], .iface 48 (.int .i64 2)]) (by simp [results, Tryd.results15, go_sem, d0, d1]) rfl ?_
    exact ⟨rfl, (Below.refl w.heap.size w).alloc (Nat.le_refl _) _⟩
set_option maxRecDepth 100000 in
set_option maxHeartbeats 3200000 in
theorem parsenoneg_any (l : List UInt8) (w : World) (hg : ¬Fits true l) (hl : l.length + 1 ≤ 65536) :
    Calls Tryd.prog 15 #[.string ⟨(45 :: l).toArray⟩] w (NotRead w 2) := by
  obtain ⟨D, hD⟩ : ∃ D : ByteArray, D = ⟨l.toArray⟩ := ⟨_, rfl⟩
  obtain ⟨S, hS⟩ : ∃ S : ByteArray, S = ⟨(45 :: l).toArray⟩ := ⟨_, rfl⟩
  obtain ⟨M, hM⟩ : ∃ M, M = l.length + 1 := ⟨_, rfl⟩
  have hsz : S.size = M := by rw [hS, hM]; simp [ByteArray.size]
  have hs0 : 0 < S.size := by omega
  have hM1 : 1 ≤ M := by omega
  have hM2 : M ≤ 65536 := by omega
  obtain ⟨b, hb⟩ : ∃ b : Nat, b = 45 := ⟨_, rfl⟩
  have hsb : ((S[0]'hs0).toNat : Int) = (b : Int) := by subst hS; rw [hb]; rfl
  have hb45 : ((b : Int) == 45) = true := by rw [hb]; rfl
  have hx1 : S.extract 1 M = D := by rw [hS, hD, hM, ext_bytes]; simp
  rw [← hS]
  by_cases hp : Plain l
  · have h48 : l = [48] := by
      rcases Classical.em (l = [48]) with h | h
      · exact h
      · exact absurd ⟨hp, fun hh => h hh.2⟩ hg
    have hp' := fun W => plain_any l W hp (by omega)
    have hD48 : (D.toList == [48]) = true := by rw [hD, ByteArray.toList_mk, h48]; rfl
    rw [← hD] at hp'
    have HP := Lib.hid hp'
    clear hp' hD hS h48 hb hM hl hp hg
    go_enter Tryd.func15, Tryd.ntmps15
    go_wp2_with fail
    refine (HP.out _).mono ?_
    rintro e w1 ⟨rfl, rfl⟩
    obtain ⟨d0, d1, g0, g1⟩ := (Two.new w 24 (.bool false) (.slice none 0 0)).facts
    go_wp2_with fail
    refine bodyPost_ret (v := .tuple #[.agg #[.bool false, .slice none 0 0], .iface 48 (.int .i64 2)]) (by simp [results, Tryd.results15, go_sem, d0, d1]) rfl ?_
    exact ⟨rfl, (Below.refl w.heap.size w).alloc (Nat.le_refl _) _⟩
  · have hp' := fun W => plainno_any l W hp (by omega)
    rw [← hD] at hp'
    have HP := Lib.hid hp'
    clear hp' hD hS hb hM hl hp hg
    go_enter Tryd.func15, Tryd.ntmps15
    go_wp2_with fail
    refine (HP.out _).mono ?_
    rintro e w1 ⟨rfl, rfl⟩
    obtain ⟨d0, d1, g0, g1⟩ := (Two.new w 24 (.bool false) (.slice none 0 0)).facts
    go_wp2_with fail
    refine bodyPost_ret (v := .tuple #[.agg #[.bool false, .slice none 0 0], .iface 48 (.int .i64 2)]) (by simp [results, Tryd.results15, go_sem, d0, d1]) rfl ?_
    exact ⟨rfl, (Below.refl w.heap.size w).alloc (Nat.le_refl _) _⟩
set_option maxRecDepth 100000 in
set_option maxHeartbeats 3200000 in
theorem parselong_any (S : ByteArray) (w : World) (hl : 65536 < S.size) (hl2 : S.size ≤ 100000) :
    Calls Tryd.prog 15 #[.string S] w (NotRead w 4) := by
  obtain ⟨d0, d1, g0, g1⟩ := (Two.new w 24 (.bool false) (.slice none 0 0)).facts
  go_enter Tryd.func15, Tryd.ntmps15
  go_wp2_with fail
  refine bodyPost_ret (v := .tuple #[.agg #[.bool false, .slice none 0 0], .iface 48 (.int .i64 4)]) (by simp [results, Tryd.results15, go_sem, d0, d1]) rfl ?_
  exact ⟨rfl, (Below.refl w.heap.size w).alloc (Nat.le_refl _) _⟩
/-- Parse at any text that is not too long: the integer whose text it is, or an error. -/
theorem parseall_any (l : List UInt8) (w : World) (hl : l.length ≤ 400) :
    Calls Tryd.prog 15 #[.string ⟨l.toArray⟩] w fun e w' => (∃ z, l = Lib.itoa z ∧ RootOut w z e w') ∨ ((∀ z, l ≠ Lib.itoa z) ∧ NotRead w 2 e w') := by
  rcases Classical.em (∃ z, l = Lib.itoa z) with ⟨z, h⟩ | h
  · subst h
    refine (parse_any z w ?_).mono fun e w' hh => .inl ⟨z, rfl, hh⟩
    cases hz : sg z
    · rw [itoa_pos hz, List.nil_append] at hl; omega
    · rw [itoa_neg hz, List.singleton_append, List.length_cons] at hl; omega
  · have h' : ∀ z, l ≠ Lib.itoa z := fun z e => h ⟨z, e⟩
    by_cases h45 : ∀ h : 0 < l.length, (l[0]'h).toNat ≠ 45
    · exact (parsenopos_any l w h45 (fun hg => h' _ (good_pos hg)) (by omega)).mono fun e w' hh => .inr ⟨h', hh⟩
    · obtain ⟨d, rfl⟩ : ∃ d, l = 45 :: d := by
        cases l with
        | nil => exact absurd (fun h => by simp at h) h45
        | cons x d =>
          refine ⟨d, ?_⟩
          rcases Classical.em (x.toNat = 45) with hx | hx
          · rw [show x = 45 from UInt8.toNat_inj.1 hx]
          · exact absurd (fun _ => hx) h45
      exact (parsenoneg_any d w (fun hg => h' _ (good_neg hg)) (by clear h45; have h9 := hl; rw [List.length_cons] at h9; omega)).mono fun e w' hh => .inr ⟨h', hh⟩
end Go.Proofs.YtobffffcihlkbaaDoor
