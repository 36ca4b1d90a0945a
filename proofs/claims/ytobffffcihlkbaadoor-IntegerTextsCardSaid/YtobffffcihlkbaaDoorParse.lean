/- Walk of integer.Parse at the text of an integer. -/
import Derived.Test.YtobffffcihlkbaaDoorPlain
namespace Go.Proofs.YtobffffcihlkbaaDoor
open Go Go.RowKit Lw
theorem readDec_any (N : Nat) (w : World) (hl : (Lib.decDigits N).length ≤ 65536) :
    Calls Tryd.prog 39 #[.string ⟨(Lib.decDigits N).toArray⟩] w fun e w' => ∃ A c, e = .returned (.slice A (digs N).length c) ∧ (digs N).length ≤ c ∧ Rd w' w'.heap.size A (digs N) ∧ Below w.heap.size w w' := by
  refine (readDigits_any _ w (digs_dec N) hl).mono ?_
  rintro e w' ⟨v, n, ds, rfl, hown, hw, hn, hv, ht, hb⟩
  rw [dval_dec] at hv
  have hds : ds = digs N := by rw [← hv]; exact (digs_val hw ht).symm
  subst hds
  have hle := hown.1
  rw [length_arr, Nat.mul_one] at hle
  rcases hown.2 with ⟨rfl, h0⟩ | ⟨g, cap, cur, hv', _, _, hnc, _⟩
  · have e0 : digs N = [] := List.eq_nil_of_length_eq_zero (by omega)
    rw [e0]
    exact ⟨none, 0, rfl, Nat.le_refl _, Rd.nil_ _ _ _, hb⟩
  · obtain ⟨A, c, rfl, hr, hl2⟩ := own_rd hown hw
    simp only [Value.slice.injEq] at hv'
    exact ⟨A, c, by rw [hle], by omega, hr, hb⟩
set_option maxRecDepth 100000 in
set_option maxHeartbeats 3200000 in
theorem parsepos_any (z : Int) (w : World) (hz : sg z = false) (hl : (Lib.decDigits z.natAbs).length ≤ 60000) :
    Calls Tryd.prog 15 #[.string ⟨(Lib.decDigits z.natAbs).toArray⟩] w (RootOut w z) := by
  have hp := plain_any _ w (plain_dec z.natAbs) (by omega)
  have hp' := fun W => plain_any _ W (plain_dec z.natAbs) (by omega)
  have hr' := fun W => readDec_any z.natAbs W (by omega)
  obtain ⟨l, hll⟩ : ∃ l, l = Lib.decDigits z.natAbs := ⟨_, rfl⟩
  have hdd : Digs l := by rw [hll]; exact digs_dec _
  have h0 : 0 < l.length := by rw [hll]; exact dec_ne _
  rw [← hll] at hl hp' hr' ⊢
  obtain ⟨S, hS⟩ : ∃ S : ByteArray, S = ⟨l.toArray⟩ := ⟨_, rfl⟩
  have hsz : S.size = l.length := by rw [hS]; simp [ByteArray.size]
  have hs0 : 0 < S.size := by omega
  have hfst := hdd (l[0]'h0) (List.getElem_mem _)
  obtain ⟨b, hb⟩ : ∃ b, b = (l[0]'h0).toNat := ⟨_, rfl⟩
  have hsb : ((S[0]'hs0).toNat : Int) = (b : Int) := by subst hS; rw [hb]; rfl
  rw [← hb] at hfst
  rw [← hS] at hp' hr' ⊢
  have hb45 : ((b : Int) == 45) = false := by rw [beq_eq_false_iff_ne]; omega
  have HP := Lib.hid hp'
  have HR := Lib.hid hr'
  have HZ := Lib.hid hz
  obtain ⟨hb1, hb2⟩ := hfst
  clear hp hp' hr' hll hdd hS hb hz
  go_enter Tryd.func15, Tryd.ntmps15
  go_wp2_with fail
  refine (HP.out _).mono ?_
  rintro e w1 ⟨rfl, rfl⟩
  go_wp2_with fail
  refine (HR.out _).mono ?_
  rintro e w1 ⟨A2, c2, rfl, hc2, hr2, hb4⟩
  have U2 := (Two.new w 24 (.bool false) (.slice none 0 0)).next hb4
  go_wp2_with fail
  refine (signed_any false A2 z.natAbs _ c2 _ z _ hr2 (Nat.le_refl _) rfl hc2 (by have := sg_mg z; rwa [HZ.out, val_mg] at this)).mono ?_
  rintro e w4 ⟨A4, c4, rfl, hc4, hr4, hb5⟩
  have V2 := U2.next hb5
  obtain ⟨d0, d1, g0, g1⟩ := V2.facts
  have hb3 := (Below.refl w.heap.size w).alloc (Nat.le_refl _) (.cells #[.bool false, .slice none 0 0] 24)
  go_wp2_with fail
  refine bodyPost_ret (v := .tuple #[.agg #[.bool (sg z), .slice A4 (mg z).length c4], .nilIface]) (by simp [results, Tryd.results15, go_sem, d0, d1]) rfl ?_
  obtain ⟨A5, c5, he, h1, h2, h3⟩ := zout_put V2 hr4 hb5.size hc4 (below_next (below_next hb3 hb4 (Nat.le_refl _)) hb5 (Nat.le_refl _)) (by omega)
  injection he with he
  injection he with he
  simp at he
  obtain ⟨rfl, rfl⟩ := he
  exact ⟨A4, c4, rfl, h1, h2, h3⟩
set_option maxRecDepth 100000 in
set_option maxHeartbeats 3200000 in
theorem parseneg_any (z : Int) (w : World) (hz : sg z = true) (hl : (Lib.decDigits z.natAbs).length ≤ 60000) :
    Calls Tryd.prog 15 #[.string ⟨(45 :: Lib.decDigits z.natAbs).toArray⟩] w (RootOut w z) := by
  have hp' := fun W => plain_any _ W (plain_dec z.natAbs) (by omega)
  have hr' := fun W => readDec_any z.natAbs W (by omega)
  have hn48 : ((Lib.decDigits z.natAbs) == [48]) = false := by
    rw [beq_eq_false_iff_ne]
    intro e
    have h1 := dval_dec z.natAbs
    rw [e] at h1
    have h2 := (sg_true hz).2
    have h3 : dval [48] = 0 := rfl
    omega
  obtain ⟨l, hll⟩ : ∃ l, l = Lib.decDigits z.natAbs := ⟨_, rfl⟩
  have h0 : 0 < l.length := by rw [hll]; exact dec_ne _
  rw [← hll] at hl hp' hr' hn48 ⊢
  obtain ⟨D, hD⟩ : ∃ D : ByteArray, D = ⟨l.toArray⟩ := ⟨_, rfl⟩
  obtain ⟨S, hS⟩ : ∃ S : ByteArray, S = ⟨(45 :: l).toArray⟩ := ⟨_, rfl⟩
  obtain ⟨M, hM⟩ : ∃ M, M = l.length + 1 := ⟨_, rfl⟩
  have hsz : S.size = M := by rw [hS, hM]; simp [ByteArray.size]
  have hs0 : 0 < S.size := by omega
  have hM1 : 1 ≤ M := by omega
  have hM2 : M ≤ 65536 := by omega
  obtain ⟨b, hb⟩ : ∃ b : Nat, b = 45 := ⟨_, rfl⟩
  have hsb : ((S[0]'hs0).toNat : Int) = (b : Int) := by subst hS; rw [hb]; rfl
  have hb45 : ((b : Int) == 45) = true := by rw [hb]; rfl
  have hx1 : S.extract 1 M = D := by rw [hS, hD, hM, ext_bytes]; simp
  have hD48 : (D.toList == [48]) = false := by rw [hD, ByteArray.toList_mk]; exact hn48
  rw [← hS]
  rw [← hD] at hp' hr'
  have HP := Lib.hid hp'
  have HR := Lib.hid hr'
  have HZ := Lib.hid hz
  clear hp' hr' hll hD hS hz hn48 hb hM hl h0
  go_enter Tryd.func15, Tryd.ntmps15
  go_wp2_with fail
  refine (HP.out _).mono ?_
  rintro e w1 ⟨rfl, rfl⟩
  go_wp2_with fail
  refine (HR.out _).mono ?_
  rintro e w1 ⟨A2, c2, rfl, hc2, hr2, hb4⟩
  have U2 := (Two.new w 24 (.bool false) (.slice none 0 0)).next hb4
  go_wp2_with fail
  refine (signed_any true A2 z.natAbs _ c2 _ z _ hr2 (Nat.le_refl _) rfl hc2 (by have := sg_mg z; rwa [HZ.out, val_mg] at this)).mono ?_
  rintro e w4 ⟨A4, c4, rfl, hc4, hr4, hb5⟩
  have V2 := U2.next hb5
  obtain ⟨d0, d1, g0, g1⟩ := V2.facts
  have hb3 := (Below.refl w.heap.size w).alloc (Nat.le_refl _) (.cells #[.bool false, .slice none 0 0] 24)
  go_wp2_with fail
  refine bodyPost_ret (v := .tuple #[.agg #[.bool (sg z), .slice A4 (mg z).length c4], .nilIface]) (by simp [results, Tryd.results15, go_sem, d0, d1]) rfl ?_
  obtain ⟨A5, c5, he, h1, h2, h3⟩ := zout_put V2 hr4 hb5.size hc4 (below_next (below_next hb3 hb4 (Nat.le_refl _)) hb5 (Nat.le_refl _)) (by omega)
  injection he with he
  injection he with he
  simp at he
  obtain ⟨rfl, rfl⟩ := he
  exact ⟨A4, c4, rfl, h1, h2, h3⟩
/-- The text of an integer is read back as the same integer. -/
theorem parse_any (z : Int) (w : World) (hl : (Lib.decDigits z.natAbs).length ≤ 60000) :
    Calls Tryd.prog 15 #[.string ⟨(Lib.itoa z).toArray⟩] w (RootOut w z) := by
  cases h : sg z
  · rw [itoa_pos h]; exact parsepos_any z w h hl
  · rw [itoa_neg h]; exact parseneg_any z w h hl
end Go.Proofs.YtobffffcihlkbaaDoor
