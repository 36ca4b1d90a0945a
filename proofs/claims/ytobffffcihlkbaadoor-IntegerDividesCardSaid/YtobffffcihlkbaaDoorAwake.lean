/- Walk of the law's awake. -/
import Derived.Test.YtobffffcihlkbaaDoorSay
import Derived.Test.YtobffffcihlkbaaDoorGcdz
import Derived.Test.YtobffffcihlkbaaDoorRoots
import Derived.Test.YtobffffcihlkbaaDoorDivs
import Derived.Test.YtobffffcihlkbaaDoorRefi
namespace Lw
open Go Go.RowKit
theorem trm_last {l : List Nat} (h : Trm l) (hl : 0 < l.length) : dg l (l.length - 1) ≠ 0 :=
  h _ (by rw [List.getLast?_eq_getElem?, dg_get? (by omega)])
theorem vB_own (z : Int) : vB (sg z) (mg z) = true := by
  unfold vB
  by_cases h : (mg z).length = 0
  · rw [if_pos h]
    have := mg_nil_iff.1 h
    subst this; rfl
  · rw [if_neg h]
    have := trm_last (mg_trm z) (by omega)
    simpa using this
theorem zv_own (z : Int) : zv (sg z) (mg z) = z := by
  unfold zv; rw [if_pos (vB_own z)]; exact (sg_mg z).symm
theorem say4 : Lib.itoa (-4) = [45, 52] := by rw [itoa_neg (by decide), show (-4 : Int).natAbs = 4 from rfl, Lib.decDigits_one (by omega)]; rfl
theorem say1 : Lib.itoa 1 = [49] := by rw [itoa_pos (by decide), show (1 : Int).natAbs = 1 from rfl, Lib.decDigits_one (by omega)]; rfl
theorem say9 : Lib.itoa 9 = [57] := by rw [itoa_pos (by decide), show (9 : Int).natAbs = 9 from rfl, Lib.decDigits_one (by omega)]; rfl
theorem say6 : Lib.itoa 6 = [54] := by rw [itoa_pos (by decide), show (6 : Int).natAbs = 6 from rfl, Lib.decDigits_one (by omega)]; rfl
theorem dec_step (u : Nat) (h : ¬ u < 10) : Lib.decDigits u = Lib.decDigits (u / 10) ++ [UInt8.ofNat (48 + u % 10)] := by rw [Lib.decDigits, dif_neg h]
theorem say32 : Lib.itoa 4294967296 = [52, 50, 57, 52, 57, 54, 55, 50, 57, 54] := by
  rw [itoa_pos (by decide), show (4294967296 : Int).natAbs = 4294967296 from rfl, dec_step 4294967296 (by omega), dec_step (4294967296 / 10) (by omega), dec_step (4294967296 / 10 / 10) (by omega), dec_step (4294967296 / 10 / 10 / 10) (by omega),
    dec_step (4294967296 / 10 / 10 / 10 / 10) (by omega), dec_step (4294967296 / 10 / 10 / 10 / 10 / 10) (by omega), dec_step (4294967296 / 10 / 10 / 10 / 10 / 10 / 10) (by omega), dec_step (4294967296 / 10 / 10 / 10 / 10 / 10 / 10 / 10) (by omega),
    dec_step (4294967296 / 10 / 10 / 10 / 10 / 10 / 10 / 10 / 10) (by omega), Lib.decDigits_one (by omega)]
  rfl
theorem zv32 : zv false [0, 1] = 4294967296 := by decide
theorem len_z {z : Int} {k : Nat} (h : z.natAbs < pw k) : (mg z).length ≤ k := digs_length_le h
end Lw
namespace Go.Proofs.YtobffffcihlkbaaDoor
open Go Go.RowKit Lw
theorem text_own (z : Int) (k : Nat) (A : Option Addr) (c B : Nat) (w : World) (h : Rd w B A (mg z)) (hB : B ≤ w.heap.size) (hz : z.natAbs < pw k) (hk : k ≤ 8388608) (hc : (mg z).length ≤ c) (ht : Tab w) :
    Calls Tryd.prog 17 #[.agg #[.bool (sg z), .slice A (mg z).length c]] w fun e w' => e = .returned (.string ⟨(Lib.itoa z).toArray⟩) ∧ Below w.heap.size w w' := by
  have := text_any (sg z) A (mg z) _ c B w h hB rfl (Nat.le_trans (len_z hz) hk) hc ht
  rwa [zv_own] at this

set_option maxRecDepth 100000 in
set_option maxHeartbeats 1600000 in
theorem awake_any (w : World) (ht : Tab w) :
    Calls Tryd.prog 6 #[] w fun e w' => e = .returned (.bool true) ∧ Below w.heap.size w w' := by
  have HT := Lib.hid ht
  clear ht
  go_enter Tryd.func6, Tryd.ntmps6
  go_wp2_with fail
  refine (refof_any (-7) _ (by omega) (by omega)).mono ?_
  rintro e w1 ⟨A1, c1, rfl, hc1, hr1, hb1⟩
  go_wp2_with fail
  refine (refof_any 2 _ (by omega) (by omega)).mono ?_
  rintro e w2 ⟨A2, c2, rfl, hc2, hr2, hb2⟩
  go_wp2_with fail
  have hl1 : (mg (-7)).length ≤ 1 := len_z (by decide)
  have hl2 : (mg 2).length ≤ 1 := len_z (by decide)
  have hb12 := below_next hb1 hb2 (Nat.le_refl _)
  refine (divs_any (sg (-7)) (sg 2) A1 A2 (mg (-7)) (mg 2) _ _ c1 c2 _ _ _ (hr1.next hb2 (Nat.le_refl _)) hr2 hb2.size (Nat.le_refl _) rfl rfl (by omega) (by omega) hc1 hc2 (by rw [zv_own]; decide) (.inl (by omega))).mono ?_
  rw [zv_own, zv_own, show (-7 : Int) / 2 = -4 by decide, show (-7 : Int) % 2 = 1 by decide]
  rintro e w3 ⟨A3, c3, A4, c4, rfl, hc3, hc4, hr3, hr4, hb3⟩
  have hbA := below_next hb12 hb3 (Nat.le_refl _)
  clear hr1 hr2 hb1 hb2 hb3 hb12 hl1 hl2 hc1 hc2
  go_wp2_with fail
  have T1 := (Two.new w3 24 (.bool (sg (-4))) (.slice A3 (mg (-4)).length c3)).alloc (.cells #[.bool (sg 1), .slice A4 (mg 1).length c4] 24)
  have T2 := Two.new (w3.alloc (.cells #[.bool (sg (-4)), .slice A3 (mg (-4)).length c3] 24)) 24 (.bool (sg 1)) (.slice A4 (mg 1).length c4)
  rw [World.size_alloc] at T2
  have hbB := (hbA.alloc hbA.size (.cells #[.bool (sg (-4)), .slice A3 (mg (-4)).length c3] 24)).alloc (by have := hbA.size; simp; omega) (.cells #[.bool (sg 1), .slice A4 (mg 1).length c4] 24)
  have R3 := (hr3.alloc (Nat.le_refl _) (.cells #[.bool (sg (-4)), .slice A3 (mg (-4)).length c3] 24)).alloc (by simp) (.cells #[.bool (sg 1), .slice A4 (mg 1).length c4] 24)
  have R4 := (hr4.alloc (Nat.le_refl _) (.cells #[.bool (sg (-4)), .slice A3 (mg (-4)).length c3] 24)).alloc (by simp) (.cells #[.bool (sg 1), .slice A4 (mg 1).length c4] 24)
  have hszw := hbA.size
  have hszW : ((w3.alloc (.cells #[.bool (sg (-4)), .slice A3 (mg (-4)).length c3] 24)).alloc (.cells #[.bool (sg 1), .slice A4 (mg 1).length c4] 24)).heap.size = w3.heap.size + 2 := by simp
  generalize ((w3.alloc (.cells #[.bool (sg (-4)), .slice A3 (mg (-4)).length c3] 24)).alloc (.cells #[.bool (sg 1), .slice A4 (mg 1).length c4] 24)) = W at *
  have HSZ := Lib.hid hszW
  clear hszW hr3 hr4 hbA
  refine (refof_any 99 _ (by omega) (by omega)).mono ?_
  rintro e w4 ⟨A5, c5, rfl, hc5, hr5, hb5⟩
  have T14 := T1.next hb5
  have T24 := T2.next hb5
  have R34 := R3.next hb5 (by rw [HSZ.out]; omega)
  have R44 := R4.next hb5 (by rw [HSZ.out]; omega)
  have hbC := below_next hbB hb5 (Nat.le_refl _)
  clear T1 T2 R3 R4 hbB
  go_wp2_with fail
  refine (roots_any (sg 99) A5 (mg 99) _ c5 _ _ hr5 (Nat.le_refl _) rfl (by have : (mg 99).length ≤ 1 := len_z (by decide); omega) hc5 (by rw [zv_own]; decide) (.inl (by have : (mg 99).length ≤ 1 := len_z (by decide); omega))).mono ?_
  rw [zv_own, show ((rt (99 : Int).natAbs : Nat) : Int) = 9 from (by rw [← rt_eq (N := (99 : Int).natAbs) (r := 9) (by decide) (by decide)]; rfl)]
  rintro e w5 ⟨A6, c6, rfl, hc6, hr6, hb6⟩
  have T15 := T14.next hb6
  have T25 := T24.next hb6
  have szW := hb5.size
  have R35 := R34.next hb6 (by have := HSZ.out; omega)
  have R45 := R44.next hb6 (by have := HSZ.out; omega)
  have hbD := below_next hbC hb6 (Nat.le_refl _)
  have szW6 := hb6.size
  have sz5 : w3.heap.size + 2 ≤ w5.heap.size := by have := HSZ.out; omega
  clear T14 T24 R34 R44 hbC hb5 hb6 hr5 szW szW6 HSZ hszw
  have T16 := T15.alloc (.cells #[.bool (sg 9), .slice A6 (mg 9).length c6] 24)
  have T26 := T25.alloc (.cells #[.bool (sg 9), .slice A6 (mg 9).length c6] 24)
  have T36 := Two.new w5 24 (.bool (sg 9)) (.slice A6 (mg 9).length c6)
  have R36 := R35.alloc (by omega) (.cells #[.bool (sg 9), .slice A6 (mg 9).length c6] 24)
  have R46 := R45.alloc (by omega) (.cells #[.bool (sg 9), .slice A6 (mg 9).length c6] 24)
  have R66 := hr6.alloc (Nat.le_refl _) (.cells #[.bool (sg 9), .slice A6 (mg 9).length c6] 24)
  have hbE := hbD.alloc hbD.size (.cells #[.bool (sg 9), .slice A6 (mg 9).length c6] 24)
  obtain ⟨d10, d11, g10, g11⟩ := T16.facts
  obtain ⟨d20, d21, g20, g21⟩ := T26.facts
  obtain ⟨d30, d31, g30, g31⟩ := T36.facts
  have hszE : (w5.alloc (.cells #[.bool (sg 9), .slice A6 (mg 9).length c6] 24)).heap.size = w5.heap.size + 1 := by simp
  clear T15 T25 R35 R45 hbD hr6
  go_wp2_with fail
  have ht0 := HT.out.next hbE
  refine (text_own (-4) 1 A3 c3 w3.heap.size _ R36 (by rw [hszE]; omega) (by decide) (by omega) hc3 ht0).mono ?_
  rintro e w6 ⟨rfl, hb6⟩
  rw [say4]
  have T27 := T26.next hb6
  have T37 := T36.next hb6
  have R47 := R46.next hb6 (by rw [hszE]; omega)
  have R67 := R66.next hb6 (by rw [hszE]; omega)
  have hbF := below_next hbE hb6 (Nat.le_refl _)
  have hszF : w5.heap.size + 1 ≤ w6.heap.size := by rw [← hszE]; exact hb6.size
  have ht1 := HT.out.next hbF
  clear T16 T26 T36 R36 R46 R66 hbE hb6 d10 d11 g10 g11 d20 d21 g20 g21 d30 d31 g30 g31 ht0 hszE
  obtain ⟨d20, d21, g20, g21⟩ := T27.facts
  obtain ⟨d30, d31, g30, g31⟩ := T37.facts
  go_wp2_with fail
  refine (text_own 1 1 A4 c4 w3.heap.size _ R47 (by omega) (by decide) (by omega) hc4 ht1).mono ?_
  rintro e w7 ⟨rfl, hb7⟩
  rw [say1]
  have T38 := T37.next hb7
  have R68 := R67.next hb7 (by omega)
  have hbG := below_next hbF hb7 (Nat.le_refl _)
  have hszG := hb7.size
  have ht2 := HT.out.next hbG
  clear T27 T37 R47 R67 hbF hb7 d20 d21 g20 g21 d30 d31 g30 g31 ht1
  obtain ⟨d30, d31, g30, g31⟩ := T38.facts
  go_wp2_with fail
  refine (text_own 9 1 A6 c6 w5.heap.size _ R68 (by omega) (by decide) (by omega) hc6 ht2).mono ?_
  rintro e w8 ⟨rfl, hb8⟩
  rw [say9]
  have hbH := below_next hbG hb8 (Nat.le_refl _)
  clear T38 R68 hbG hb8 d30 d31 g30 g31 ht2 hszF hszG
  go_wp2_with fail
  refine (refof_any (-12) _ (by omega) (by omega)).mono ?_
  rintro e w9 ⟨A7, c7, rfl, hc7, hr7, hb9⟩
  have hbI := below_next hbH hb9 (Nat.le_refl _)
  go_wp2_with fail
  refine (refof_any 18 _ (by omega) (by omega)).mono ?_
  rintro e w10 ⟨A8, c8, rfl, hc8, hr8, hb10⟩
  have hbJ := below_next hbI hb10 (Nat.le_refl _)
  go_wp2_with fail
  have hl7 : (mg (-12)).length ≤ 1 := len_z (by decide)
  have hl8 : (mg 18).length ≤ 1 := len_z (by decide)
  refine (gcdswap_any (sg (-12)) (sg 18) A7 A8 (mg (-12)) (mg 18) _ _ c7 c8 _ _ _ (hr7.next hb10 (Nat.le_refl _)) hr8 hb10.size (Nat.le_refl _) rfl rfl (by omega) (by omega) hc7 hc8 (by rw [zv_own, zv_own]; exact ⟨by omega, by omega, by decide⟩)).mono ?_
  rw [zv_own, zv_own, show ((Nat.gcd (-12 : Int).natAbs (18 : Int).natAbs : Nat) : Int) = 6 by decide]
  rintro e w11 ⟨A9, c9, rfl, hc9, hr9, hb11⟩
  have hbK := below_next hbJ hb11 (Nat.le_refl _)
  clear hbH hb9 hbI hb10 hbJ hb11 hr7 hr8 hl7 hl8
  go_wp2_with fail
  refine (text_own 6 1 A9 c9 _ _ hr9 (Nat.le_refl _) (by decide) (by omega) hc9 (HT.out.next hbK)).mono ?_
  rintro e w12 ⟨rfl, hb12⟩
  rw [say6]
  have hbL := below_next hbK hb12 (Nat.le_refl _)
  clear hbK hb12 hr9
  go_wp2_with fail
  have hrB := (Blk.new w12 46 [0, 1]).rd (by rw [wds_cons, wds_cons]; exact ⟨by omega, by omega, wds_nil⟩)
  have hbM := hbL.alloc hbL.size (.cells #[.int .u32 0, .int .u32 1] 46)
  refine (text_any false _ [0, 1] 2 2 _ _ hrB (Nat.le_refl _) rfl (by omega) (by omega) (HT.out.next hbM)).mono ?_
  rintro e w13 ⟨rfl, hb13⟩
  rw [zv32, say32]
  have hbN := below_next hbM hb13 (Nat.le_refl _)
  clear hbL hbM hb13 hrB
  go_wp2_with fail
  go_ret
  exact ⟨rfl, hbN⟩
end Go.Proofs.YtobffffcihlkbaaDoor
