/- Walk of integer.divisor, for numbers of any length. -/
import Derived.Test.YtobffffcihlkbaaDoorDiff
import Derived.Test.YtobffffcihlkbaaDoorGcdz
import Derived.Deep.RegionWith
import Derived.Deep.DeepCutAuto
namespace Lw
theorem gcd_rest (N M : Nat) : Nat.gcd M (N % M) = Nat.gcd N M := by rw [Nat.gcd_comm N M, Nat.gcd_rec M N, Nat.gcd_comm]
end Lw
namespace Go.Proofs.YtobffffcihlkbaaDoor
open Go Go.RowKit Lw
set_option maxRecDepth 100000 in
set_option maxHeartbeats 6400000 in
theorem divisor_any (A A' : Option Addr) (N M n m c c' B B' : Nat) (w : World) (h : Rd w B A (digs N)) (h' : Rd w B' A' (digs M)) (hB : B ≤ w.heap.size) (hB' : B' ≤ w.heap.size)
    (hn : (digs N).length = n) (hm : (digs M).length = m) (hl : n ≤ 8388608) (hc : n ≤ c) (hc' : m ≤ c') (hMN : M ≤ N) :
    Calls Tryd.prog 36 #[.slice A n c, .slice A' m c'] w (OutW w (Nat.gcd N M)) := by
  have vN := val_digs N
  have vM := val_digs M
  have hmn : m ≤ n := by rw [← hn, ← hm]; exact digs_mono (by omega)
  have Hn := Lib.hid hn
  have Hm := Lib.hid hm
  have VN := Lib.hid vN
  have VM := Lib.hid vM
  have hcm := cmpN_nonneg hMN
  have hMN' : M ≤ N := by omega
  have HMN := Lib.hid hMN'
  clear hn hm vN vM hMN hMN'
  go_enter Tryd.func36, Tryd.ntmps36
  go_wp2_with fail
  refine (compare_any A A' (digs N) (digs M) _ _ _ _ B B' _ h h' (trm_digs _) (trm_digs _) Hn.out Hm.out (by omega) (by omega)).mono ?_
  rintro e w1 ⟨rfl, q, rfl⟩
  rw [VN.out, VM.out]
  go_wp2_with fail
  obtain ⟨G, hG⟩ : ∃ G, G = Nat.gcd N M := ⟨_, rfl⟩
  have HG := Lib.hid hG
  clear hG
  go_loopw [0, 1] (fun a b wr => ∃ (X Y x y d d' : Nat) (D D' : Option Addr), a = .slice D x d ∧ b = .slice D' y d' ∧ Rd wr wr.heap.size D (digs X) ∧ Rd wr wr.heap.size D' (digs Y) ∧ Hid ((digs X).length = x ∧ (digs Y).length = y) ∧ x ≤ 8388608 ∧ y ≤ x ∧ x ≤ d ∧ y ≤ d' ∧ Hid (Y ≤ X) ∧ Hid (Nat.gcd X Y = G) ∧ Below w.heap.size w wr) (fun a b wr => rdv wr a + rdv wr b)
  case atStart => exact ⟨N, M, n, m, c, c', A, A', rfl, rfl, (h.drewN q).more (by simpa using hB), (h'.drewN q).more (by simpa using hB'), Lib.hid ⟨Hn.out, Hm.out⟩, hl, hmn, hc, hc', HMN, Lib.hid HG.out.symm, below_drewN' _ _ _⟩
  case round =>
    obtain ⟨X, Y, x, y, d, d', D, D', rfl, rfl, hr1, hr2, hxy, hx, hyx, hxd, hyd, hYX, hg, hbw⟩ := hrel
    have RX := Lib.hid (rdv_rd (c := d) hr1 hxy.out.1)
    have RY := Lib.hid (rdv_rd (c := d') hr2 hxy.out.2)
    by_cases h2 : y ≤ 2
    · by_cases h0 : y = 0
      · subst h0
        have HM : Hid (G = X) := Lib.hid (by rw [← hg.out, digs_eq_nil.1 (List.eq_nil_of_length_eq_zero hxy.out.2), Nat.gcd_zero_right])
        go_wp2_with fail
        refine (clone_any D (digs X) _ _ _ _ hr1 (Nat.le_refl _) hxy.out.1 (by omega)).mono ?_
        rintro e w2 ⟨A1, c1, rfl, hc1, hg1, hr3, hb1⟩
        go_wp2_with fail
        go_ret
        rw [← HG.out, HM.out]
        exact ⟨A1, c1, ret_slice hxy.out.1.symm, by rw [hxy.out.1]; exact hc1, hr3, below_next hbw hb1 (Nat.le_refl _)⟩
      · have hbq : ((y : Int) == 0) = false := by rw [beq_eq_false_iff_ne]; omega
        have hM0 : Y ≠ 0 := by intro e; subst e; exact h0 (by rw [← hxy.out.2]; rfl)
        have HM0 := Lib.hid hM0
        clear h0 hM0
        go_wp2_with fail
        refine (divide_of D D' X Y _ _ d d' _ _ _ hr1 hr2 (Nat.le_refl _) (Nat.le_refl _) hxy.out.1 hxy.out.2 (by omega) (by omega) hxd hyd HM0.out (.inr longOK)).mono ?_
        rintro e w2 ⟨A3, c3, A4, c4, rfl, hc3, hc4, hr3, hr4, hb3⟩
        have hb4 := below_next hbw hb3 (Nat.le_refl _)
        have hM2 : Y ≤ 18446744073709551615 := by have := lt_of_digs_length (n := Y) (k := 2) (by rw [hxy.out.2]; exact h2); have h3 : pw 2 = 18446744073709551616 := rfl; omega
        have hR2 : X % Y < Y := Nat.mod_lt _ (by have := HM0.out; omega)
        have HGG : Hid (Nat.gcd Y (X % Y) = G) := Lib.hid (by rw [gcd_rest, hg.out])
        have hlR : (digs (X % Y)).length ≤ 2 := digs_length_le (k := 2) (by have h3 : pw 2 = 18446744073709551616 := rfl; omega)
        have HLo' : Hid (lo (digs Y) 2 = Y) := Lib.hid (by rw [lo_all (by rw [hxy.out.2]; exact h2), val_digs])
        have HLoR : Hid (lo (digs (X % Y)) 2 = X % Y) := Lib.hid (by rw [lo_all hlR, val_digs])
        obtain ⟨R, hR⟩ : ∃ R, R = X % Y := ⟨_, rfl⟩
        rw [← hR] at hr4 hc4 HGG hlR HLoR hR2 ⊢
        clear hR
        obtain ⟨Q, hQ⟩ : ∃ Q, Q = X / Y := ⟨_, rfl⟩
        rw [← hQ] at hr3 hc3 ⊢
        clear hQ
        go_wp2_with fail
        refine (low_any D' (digs Y) _ d' _ _ (hr2.below hb3) hxy.out.2 (by omega)).mono ?_
        rintro e w3 ⟨rfl, rfl⟩
        rw [HLo'.out]
        go_wp2_with fail
        refine (low_any A4 (digs R) _ c4 _ _ hr4 rfl (by omega)).mono ?_
        rintro e w3 ⟨rfl, rfl⟩
        rw [HLoR.out]
        go_wp2_with fail
        refine (smallDivisor_any Y R _ hM2 (by omega)).mono ?_
        rintro e w3 ⟨rfl, q3, rfl⟩
        rw [HGG.out]
        have hgl : G ≤ 18446744073709551615 := by
          rw [← hg.out]
          exact Nat.le_trans (Nat.gcd_le_right _ (by have := HM0.out; omega)) hM2
        go_wp2_with fail
        refine (split_any G _ hgl).mono ?_
        rintro e w5 ⟨A5, c5, rfl, hc5, hr5, hb5⟩
        go_wp2_with fail
        go_ret
        rw [← HG.out]
        exact ⟨A5, c5, rfl, hc5, hr5, below_next (hb4.trans (below_drewN' _ _ _)) hb5 (by simp)⟩
    · obtain ⟨k, rfl⟩ : ∃ k, x = k + 3 := ⟨x - 3, by omega⟩
      have hY0 : Hid (0 < Y) := Lib.hid (by
        rcases Nat.eq_zero_or_pos Y with e | e
        · exfalso; have := hxy.out.2; rw [e] at this; have e2 : (digs 0).length = 0 := rfl; omega
        · exact e)
      go_wp2_with fail
      refine (foresee_any D D' X Y k y d d' _ _ _ hr1 hr2 (Nat.le_refl _) (Nat.le_refl _) hxy.out.1 hxy.out.2 (by omega) hYX.out).mono ?_
      rintro e w2 ⟨u0, u1, v0, v1, o, rfl, hb2, hst⟩
      have HST := Lib.hid hst
      clear hst
      by_cases hv : v0 = 0
      · subst hv
        replace hb2 := hb2.alloc hb2.size (.cells #[.int .u64 (u0 : Int), .int .u64 (u1 : Int), .int .u64 0, .int .u64 (v1 : Int), .bool o] 74)
        have hr1' := hr1.below hb2
        have hr2' := hr2.below hb2
        go_wp2_with fail
        refine (divide_of D D' X Y _ _ d d' _ _ _ hr1' hr2' hb2.size hb2.size hxy.out.1 hxy.out.2 (by omega) (by omega) hxd hyd (by have := hY0.out; omega) (.inr longOK)).mono ?_
        rintro e w3 ⟨A3, c3, A4, c4, rfl, hc3, hc4, hr3, hr4, hb3⟩
        go_wp2_with fail
        have hb5 := below_next hbw (hb2.trans (hb3.mono hb2.size)) (Nat.le_refl _)
        go_roundw
        case rel =>
          exact ⟨Y, X % Y, y, _, d', c4, D', A4, rfl, rfl, (hr2'.below (hb3.mono hb2.size)).more (Nat.le_trans hb2.size hb3.size), hr4, Lib.hid ⟨hxy.out.2, rfl⟩, by omega, by rw [← hxy.out.2]; exact digs_mono (Nat.le_of_lt (Nat.mod_lt _ hY0.out)), hyd, hc4, Lib.hid (Nat.le_of_lt (Nat.mod_lt _ hY0.out)), Lib.hid (by rw [gcd_rest, hg.out]), hb5⟩
        case measure =>
          show rdv _ _ + rdv _ _ < rdv _ _ + rdv _ _
          rw [RX.out, RY.out, rdv_rd hr4 rfl, rdv_rd (hr2'.below (hb3.mono hb2.size)) hxy.out.2, val_digs, val_digs, val_digs]
          have h1 := Nat.mod_lt X hY0.out
          have h2 := hYX.out
          omega
      · have hv1 : ((v0 : Int) == 0) = false := by rw [beq_eq_false_iff_ne]; omega
        replace hb2 := hb2.alloc hb2.size (.cells #[.int .u64 (u0 : Int), .int .u64 (u1 : Int), .int .u64 (v0 : Int), .int .u64 (v1 : Int), .bool o] 74)
        have hr1' := hr1.below hb2
        have hr2' := hr2.below hb2
        go_wp2_with fail
        refine (apply_any D D' X Y (k + 3) y d d' _ _ u0 u1 v0 v1 o _ hr1' hr2' hb2.size hb2.size hxy.out.1 hxy.out.2 (by omega) hyx hv HST.out).mono ?_
        rintro e w3 ⟨r1, r2, ⟨A3, c3, A4, c4, rfl, hc3, hc4, hr3, hr4, hb3⟩, hle, hgg, hrX, hsum⟩
        have HH := Lib.hid (And.intro hle (And.intro hgg (And.intro hrX hsum)))
        clear hle hgg hrX hsum
        go_wp2_with fail
        have hb5 := below_next hbw (hb2.trans (hb3.mono hb2.size)) (Nat.le_refl _)
        go_roundw
        case rel =>
          exact ⟨r1, r2, _, _, c3, c4, A3, A4, rfl, rfl, hr3, hr4, Lib.hid ⟨rfl, rfl⟩, Nat.le_trans (digs_mono HH.out.2.2.1) (by rw [hxy.out.1]; exact hx), digs_mono HH.out.1, hc3, hc4, Lib.hid HH.out.1, Lib.hid (by rw [HH.out.2.1, hg.out]), hb5⟩
        case measure =>
          show rdv _ _ + rdv _ _ < rdv _ _ + rdv _ _
          rw [RX.out, RY.out, rdv_rd hr3 rfl, rdv_rd hr4 rfl, val_digs, val_digs, val_digs, val_digs]
          have h1 := HH.out.2.2.2
          have h2 := hY0.out
          omega
end Go.Proofs.YtobffffcihlkbaaDoor
/-! Walk of integer.divisor, the greater number last. -/
namespace Go.Proofs.YtobffffcihlkbaaDoor
open Go Go.RowKit Lw
set_option maxRecDepth 100000 in
set_option maxHeartbeats 6400000 in
theorem divisor_any_swap (A A' : Option Addr) (N M n m c c' B B' : Nat) (w : World) (h : Rd w B A (digs N)) (h' : Rd w B' A' (digs M)) (hB : B ≤ w.heap.size) (hB' : B' ≤ w.heap.size)
    (hn : (digs N).length = n) (hm : (digs M).length = m) (hl : n ≤ 8388608) (hc : n ≤ c) (hc' : m ≤ c') (hMN : M < N) :
    Calls Tryd.prog 36 #[.slice A' m c', .slice A n c] w (OutW w (Nat.gcd N M)) := by
  have vN := val_digs N
  have vM := val_digs M
  have hmn : m ≤ n := by rw [← hn, ← hm]; exact digs_mono (by omega)
  have Hn := Lib.hid hn
  have Hm := Lib.hid hm
  have VN := Lib.hid vN
  have VM := Lib.hid vM
  have hcm := cmpN_neg hMN
  have hMN' : M ≤ N := by omega
  have HMN := Lib.hid hMN'
  clear hn hm vN vM hMN hMN'
  go_enter Tryd.func36, Tryd.ntmps36
  go_wp2_with fail
  refine (compare_any A' A (digs M) (digs N) _ _ _ _ B' B _ h' h (trm_digs _) (trm_digs _) Hm.out Hn.out (by omega) (by omega)).mono ?_
  rintro e w1 ⟨rfl, q, rfl⟩
  rw [VM.out, VN.out]
  go_wp2_with fail
  obtain ⟨G, hG⟩ : ∃ G, G = Nat.gcd N M := ⟨_, rfl⟩
  have HG := Lib.hid hG
  clear hG
  go_loopw [0, 1] (fun a b wr => ∃ (X Y x y d d' : Nat) (D D' : Option Addr), a = .slice D x d ∧ b = .slice D' y d' ∧ Rd wr wr.heap.size D (digs X) ∧ Rd wr wr.heap.size D' (digs Y) ∧ Hid ((digs X).length = x ∧ (digs Y).length = y) ∧ x ≤ 8388608 ∧ y ≤ x ∧ x ≤ d ∧ y ≤ d' ∧ Hid (Y ≤ X) ∧ Hid (Nat.gcd X Y = G) ∧ Below w.heap.size w wr) (fun a b wr => rdv wr a + rdv wr b)
  case atStart => exact ⟨N, M, n, m, c, c', A, A', rfl, rfl, (h.drewN q).more (by simpa using hB), (h'.drewN q).more (by simpa using hB'), Lib.hid ⟨Hn.out, Hm.out⟩, hl, hmn, hc, hc', HMN, Lib.hid HG.out.symm, below_drewN' _ _ _⟩
  case round =>
    obtain ⟨X, Y, x, y, d, d', D, D', rfl, rfl, hr1, hr2, hxy, hx, hyx, hxd, hyd, hYX, hg, hbw⟩ := hrel
    have RX := Lib.hid (rdv_rd (c := d) hr1 hxy.out.1)
    have RY := Lib.hid (rdv_rd (c := d') hr2 hxy.out.2)
    by_cases h2 : y ≤ 2
    · by_cases h0 : y = 0
      · subst h0
        have HM : Hid (G = X) := Lib.hid (by rw [← hg.out, digs_eq_nil.1 (List.eq_nil_of_length_eq_zero hxy.out.2), Nat.gcd_zero_right])
        go_wp2_with fail
        refine (clone_any D (digs X) _ _ _ _ hr1 (Nat.le_refl _) hxy.out.1 (by omega)).mono ?_
        rintro e w2 ⟨A1, c1, rfl, hc1, hg1, hr3, hb1⟩
        go_wp2_with fail
        go_ret
        rw [← HG.out, HM.out]
        exact ⟨A1, c1, ret_slice hxy.out.1.symm, by rw [hxy.out.1]; exact hc1, hr3, below_next hbw hb1 (Nat.le_refl _)⟩
      · have hbq : ((y : Int) == 0) = false := by rw [beq_eq_false_iff_ne]; omega
        have hM0 : Y ≠ 0 := by intro e; subst e; exact h0 (by rw [← hxy.out.2]; rfl)
        have HM0 := Lib.hid hM0
        clear h0 hM0
        go_wp2_with fail
        refine (divide_of D D' X Y _ _ d d' _ _ _ hr1 hr2 (Nat.le_refl _) (Nat.le_refl _) hxy.out.1 hxy.out.2 (by omega) (by omega) hxd hyd HM0.out (.inr longOK)).mono ?_
        rintro e w2 ⟨A3, c3, A4, c4, rfl, hc3, hc4, hr3, hr4, hb3⟩
        have hb4 := below_next hbw hb3 (Nat.le_refl _)
        have hM2 : Y ≤ 18446744073709551615 := by have := lt_of_digs_length (n := Y) (k := 2) (by rw [hxy.out.2]; exact h2); have h3 : pw 2 = 18446744073709551616 := rfl; omega
        have hR2 : X % Y < Y := Nat.mod_lt _ (by have := HM0.out; omega)
        have HGG : Hid (Nat.gcd Y (X % Y) = G) := Lib.hid (by rw [gcd_rest, hg.out])
        have hlR : (digs (X % Y)).length ≤ 2 := digs_length_le (k := 2) (by have h3 : pw 2 = 18446744073709551616 := rfl; omega)
        have HLo' : Hid (lo (digs Y) 2 = Y) := Lib.hid (by rw [lo_all (by rw [hxy.out.2]; exact h2), val_digs])
        have HLoR : Hid (lo (digs (X % Y)) 2 = X % Y) := Lib.hid (by rw [lo_all hlR, val_digs])
        obtain ⟨R, hR⟩ : ∃ R, R = X % Y := ⟨_, rfl⟩
        rw [← hR] at hr4 hc4 HGG hlR HLoR hR2 ⊢
        clear hR
        obtain ⟨Q, hQ⟩ : ∃ Q, Q = X / Y := ⟨_, rfl⟩
        rw [← hQ] at hr3 hc3 ⊢
        clear hQ
        go_wp2_with fail
        refine (low_any D' (digs Y) _ d' _ _ (hr2.below hb3) hxy.out.2 (by omega)).mono ?_
        rintro e w3 ⟨rfl, rfl⟩
        rw [HLo'.out]
        go_wp2_with fail
        refine (low_any A4 (digs R) _ c4 _ _ hr4 rfl (by omega)).mono ?_
        rintro e w3 ⟨rfl, rfl⟩
        rw [HLoR.out]
        go_wp2_with fail
        refine (smallDivisor_any Y R _ hM2 (by omega)).mono ?_
        rintro e w3 ⟨rfl, q3, rfl⟩
        rw [HGG.out]
        have hgl : G ≤ 18446744073709551615 := by
          rw [← hg.out]
          exact Nat.le_trans (Nat.gcd_le_right _ (by have := HM0.out; omega)) hM2
        go_wp2_with fail
        refine (split_any G _ hgl).mono ?_
        rintro e w5 ⟨A5, c5, rfl, hc5, hr5, hb5⟩
        go_wp2_with fail
        go_ret
        rw [← HG.out]
        exact ⟨A5, c5, rfl, hc5, hr5, below_next (hb4.trans (below_drewN' _ _ _)) hb5 (by simp)⟩
    · obtain ⟨k, rfl⟩ : ∃ k, x = k + 3 := ⟨x - 3, by omega⟩
      have hY0 : Hid (0 < Y) := Lib.hid (by
        rcases Nat.eq_zero_or_pos Y with e | e
        · exfalso; have := hxy.out.2; rw [e] at this; have e2 : (digs 0).length = 0 := rfl; omega
        · exact e)
      go_wp2_with fail
      refine (foresee_any D D' X Y k y d d' _ _ _ hr1 hr2 (Nat.le_refl _) (Nat.le_refl _) hxy.out.1 hxy.out.2 (by omega) hYX.out).mono ?_
      rintro e w2 ⟨u0, u1, v0, v1, o, rfl, hb2, hst⟩
      have HST := Lib.hid hst
      clear hst
      by_cases hv : v0 = 0
      · subst hv
        replace hb2 := hb2.alloc hb2.size (.cells #[.int .u64 (u0 : Int), .int .u64 (u1 : Int), .int .u64 0, .int .u64 (v1 : Int), .bool o] 74)
        have hr1' := hr1.below hb2
        have hr2' := hr2.below hb2
        go_wp2_with fail
        refine (divide_of D D' X Y _ _ d d' _ _ _ hr1' hr2' hb2.size hb2.size hxy.out.1 hxy.out.2 (by omega) (by omega) hxd hyd (by have := hY0.out; omega) (.inr longOK)).mono ?_
        rintro e w3 ⟨A3, c3, A4, c4, rfl, hc3, hc4, hr3, hr4, hb3⟩
        go_wp2_with fail
        have hb5 := below_next hbw (hb2.trans (hb3.mono hb2.size)) (Nat.le_refl _)
        go_roundw
        case rel =>
          exact ⟨Y, X % Y, y, _, d', c4, D', A4, rfl, rfl, (hr2'.below (hb3.mono hb2.size)).more (Nat.le_trans hb2.size hb3.size), hr4, Lib.hid ⟨hxy.out.2, rfl⟩, by omega, by rw [← hxy.out.2]; exact digs_mono (Nat.le_of_lt (Nat.mod_lt _ hY0.out)), hyd, hc4, Lib.hid (Nat.le_of_lt (Nat.mod_lt _ hY0.out)), Lib.hid (by rw [gcd_rest, hg.out]), hb5⟩
        case measure =>
          show rdv _ _ + rdv _ _ < rdv _ _ + rdv _ _
          rw [RX.out, RY.out, rdv_rd hr4 rfl, rdv_rd (hr2'.below (hb3.mono hb2.size)) hxy.out.2, val_digs, val_digs, val_digs]
          have h1 := Nat.mod_lt X hY0.out
          have h2 := hYX.out
          omega
      · have hv1 : ((v0 : Int) == 0) = false := by rw [beq_eq_false_iff_ne]; omega
        replace hb2 := hb2.alloc hb2.size (.cells #[.int .u64 (u0 : Int), .int .u64 (u1 : Int), .int .u64 (v0 : Int), .int .u64 (v1 : Int), .bool o] 74)
        have hr1' := hr1.below hb2
        have hr2' := hr2.below hb2
        go_wp2_with fail
        refine (apply_any D D' X Y (k + 3) y d d' _ _ u0 u1 v0 v1 o _ hr1' hr2' hb2.size hb2.size hxy.out.1 hxy.out.2 (by omega) hyx hv HST.out).mono ?_
        rintro e w3 ⟨r1, r2, ⟨A3, c3, A4, c4, rfl, hc3, hc4, hr3, hr4, hb3⟩, hle, hgg, hrX, hsum⟩
        have HH := Lib.hid (And.intro hle (And.intro hgg (And.intro hrX hsum)))
        clear hle hgg hrX hsum
        go_wp2_with fail
        have hb5 := below_next hbw (hb2.trans (hb3.mono hb2.size)) (Nat.le_refl _)
        go_roundw
        case rel =>
          exact ⟨r1, r2, _, _, c3, c4, A3, A4, rfl, rfl, hr3, hr4, Lib.hid ⟨rfl, rfl⟩, Nat.le_trans (digs_mono HH.out.2.2.1) (by rw [hxy.out.1]; exact hx), digs_mono HH.out.1, hc3, hc4, Lib.hid HH.out.1, Lib.hid (by rw [HH.out.2.1, hg.out]), hb5⟩
        case measure =>
          show rdv _ _ + rdv _ _ < rdv _ _ + rdv _ _
          rw [RX.out, RY.out, rdv_rd hr3 rfl, rdv_rd hr4 rfl, val_digs, val_digs, val_digs, val_digs]
          have h1 := HH.out.2.2.2
          have h2 := hY0.out
          omega
end Go.Proofs.YtobffffcihlkbaaDoor
/-! Walk of integer.Gcd, for numbers of any length. -/
namespace Go.Proofs.YtobffffcihlkbaaDoor
open Go Go.RowKit Lw
attribute [local go_sem ↓] Go.wp_at_zero Go.wp_at_succ
theorem divisor_all (A A' : Option Addr) (N M n m c c' B B' : Nat) (w : World) (h : Rd w B A (digs N)) (h' : Rd w B' A' (digs M)) (hB : B ≤ w.heap.size) (hB' : B' ≤ w.heap.size)
    (hn : (digs N).length = n) (hm : (digs M).length = m) (hl : n ≤ 8388608) (hl' : m ≤ 8388608) (hc : n ≤ c) (hc' : m ≤ c') :
    Calls Tryd.prog 36 #[.slice A n c, .slice A' m c'] w (OutW w (Nat.gcd N M)) := by
  rcases Nat.lt_or_ge N M with h1 | h1
  · rw [Nat.gcd_comm]
    exact divisor_any_swap A' A M N m n c' c B' B w h' h hB' hB hm hn hl' hc' hc h1
  · exact divisor_any A A' N M n m c c' B B' w h h' hB hB' hn hm hl hc hc' h1

set_option maxHeartbeats 3200000 in
theorem gcds_any (s s' : Bool) (A A' : Option Addr) (ns ms : List Nat) (n m c c' B B' : Nat) (w : World) (h : Rd w B A ns) (h' : Rd w B' A' ms) (hB : B ≤ w.heap.size) (hB' : B' ≤ w.heap.size)
    (hn : ns.length = n) (hm : ms.length = m) (hl : n ≤ 8388608) (hl' : m ≤ 8388608) (hc : n ≤ c) (hc' : m ≤ c') :
    Calls Tryd.prog 13 #[.agg #[.bool s, .slice A n c], .agg #[.bool s', .slice A' m c']] w (ZOut w ((Nat.gcd (zv s ns).natAbs (zv s' ms).natAbs : Nat) : Int)) := by
  have hlz := zv_len (s := s) h.wds
  have hlz' := zv_len (s := s') h'.wds
  rw [hn] at hlz
  rw [hm] at hlz'
  go_enter Tryd.func13, Tryd.ntmps13
  go_upto_region 1 with fail
  obtain ⟨T1, T2, T3, _, hb0⟩ := box3 (Below.refl _ (((w.alloc (.cells #[.bool s, .slice A n c] 24)).alloc (.cells #[.bool s', .slice A' m c'] 24)).alloc (.cells #[.bool false, .slice none 0 0] 24)))
  have R1 := h.below (hb0.mono hB)
  have R2 := h'.below (hb0.mono hB')
  generalize hW : (((w.alloc (.cells #[.bool s, .slice A n c] 24)).alloc (.cells #[.bool s', .slice A' m c'] 24)).alloc (.cells #[.bool false, .slice none 0 0] 24)) = W at *
  clear hW
  have l3 := T3.lt
  obtain ⟨c10, c11, f10, f11⟩ := T1.facts
  obtain ⟨c20, c21, f20, f21⟩ := T2.facts
  go_cut [] (fun wc => ∃ A1 c1 A2 c2, Two wc w.heap.size 24 (.bool (sg (zv s ns))) (.slice A1 (mg (zv s ns)).length c1) ∧ Two wc (w.heap.size + 1) 24 (.bool (sg (zv s' ms))) (.slice A2 (mg (zv s' ms)).length c2) ∧
    Two wc (w.heap.size + 1 + 1) 24 (.bool false) (.slice none 0 0) ∧ Rd wc B A1 (mg (zv s ns)) ∧ Rd wc B' A2 (mg (zv s' ms)) ∧ Below w.heap.size w wc ∧ (mg (zv s ns)).length ≤ c1 ∧ (mg (zv s' ms)).length ≤ c2)
  case first =>
    go_region_with (first
      | (go_at_call_of 20 (Value.agg #[Value.bool s, Value.slice A n c]); refine (known_any s A ns n c B _ (by first | exact R1.drew | exact R1.next K2 (by omega)) (by first | (simp; omega) | (have := K2.size; omega)) hn (by omega) hc).mono ?_; rintro e w1 ⟨A1, c1, rfl, hc1, hr1, hb1⟩; have K1 : Below W.heap.size W w1 := (by first | exact next0 hb1 | exact next1 K2 hb1); obtain ⟨d10, d11, g10, g11⟩ := (T1.next K1).facts; obtain ⟨d20, d21, g20, g21⟩ := (T2.next K1).facts)
      | (go_at_call_of 20 (Value.agg #[Value.bool s', Value.slice A' m c']); refine (known_any s' A' ms m c' B' _ (by first | exact R2.drew | exact R2.next K1 (by omega)) (by first | (simp; omega) | (have := K1.size; omega)) hm (by omega) hc').mono ?_; rintro e w2 ⟨A2, c2, rfl, hc2, hr2, hb2⟩; have K2 : Below W.heap.size W w2 := (by first | exact next0 hb2 | exact next1 K1 hb2); obtain ⟨i10, i11, j10, j11⟩ := (T1.next K2).facts; obtain ⟨i20, i21, j20, j21⟩ := (T2.next K2).facts))
    all_goals
      obtain ⟨P1, P2, P3, P4, P5⟩ : _ ∧ _ ∧ _ ∧ _ ∧ _ := by
        first
          | exact pair_put (sg (zv s ns)) (sg (zv s' ms)) (.slice A1 (mg (zv s ns)).length c1) (.slice A2 (mg (zv s' ms)).length c2) (T1.next K2) (T2.next K2) (by omega) (hr1.next hb2 (by have := K1.size; omega)) hr2 (below_next hb0 K2 (by omega)) (Nat.le_refl _) (by omega)
          | exact pair_put (sg (zv s ns)) (sg (zv s' ms)) (.slice A1 (mg (zv s ns)).length c1) (.slice A2 (mg (zv s' ms)).length c2) (T1.next K1) (T2.next K1) (by omega) hr1 (hr2.next hb1 (by have := K2.size; omega)) (below_next hb0 K1 (by omega)) (Nat.le_refl _) (by omega)
      clear d10 d11 g10 g11 d20 d21 g20 g21 i10 i11 i20 i21 j10 j11 j20 j21 c10 c11 c20 c21 f10 f11 f20 f21
      go_wp2_with fail
      go_meet
      have N01 := (T3.next K1)
      have N02 := (T3.next K2)
      exact ⟨A1, c1, A2, c2, P1, P2, by first | exact N02.far4 (by omega) (by omega) _ _ _ _ | exact N01.far4 (by omega) (by omega) _ _ _ _, P3, P4, P5, hc1, hc2⟩
  case rest =>
    obtain ⟨A1, c1, A2, c2, Q1, Q2, Q3, r1, r2, hbc, hc1, hc2⟩ := hcut
    clear T1 T2 T3 R1 R2 hb0 l3 c10 c11 c20 c21 f10 f11 f20 f21
    obtain ⟨c10, c11, f10, f11⟩ := Q1.facts
    obtain ⟨c20, c21, f20, f21⟩ := Q2.facts
    go_wp2_with fail
    refine (divisor_all A1 A2 (zv s ns).natAbs (zv s' ms).natAbs _ _ c1 c2 B B' _ r1 r2 (by have := hbc.size; omega) (by have := hbc.size; omega) rfl rfl (Nat.le_trans hlz hl) (Nat.le_trans hlz' hl') hc1 hc2).mono ?_
    rintro e w3 ⟨A3, c3, rfl, hc3, hr3, hb3⟩
    have U3 := Q3.next hb3
    generalize Nat.gcd (zv s ns).natAbs (zv s' ms).natAbs = G at *
    go_wp2_with fail
    refine (signed_any false A3 G _ c3 _ (G : Int) _ hr3 (Nat.le_refl _) rfl hc3 rfl).mono ?_
    rintro e w4 ⟨A4, c4, rfl, hc4, hr4, hb4⟩
    have V3 := U3.next hb4
    obtain ⟨d0, d1, g0, g1⟩ := V3.facts
    have hsz3 := hb3.size
    have hsz4 := hbc.size
    go_wp2_with fail
    refine bodyPost_ret (v := .agg #[.bool (sg (G : Int)), .slice A4 (mg (G : Int)).length c4]) (by simp [results, Tryd.results13, go_sem, d0, d1]) rfl ?_
    exact zout_put V3 hr4 hb4.size hc4 (below_next (below_next hbc hb3 (Nat.le_refl _)) hb4 (by omega)) (by omega)
end Go.Proofs.YtobffffcihlkbaaDoor
