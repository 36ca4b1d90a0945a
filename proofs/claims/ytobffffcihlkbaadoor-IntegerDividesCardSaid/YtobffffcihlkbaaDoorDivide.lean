/- Walk of integer.divide: the long division is a hypothesis. -/
import Derived.Test.YtobffffcihlkbaaDoorDivw
import Derived.Test.YtobffffcihlkbaaDoorCmps
import Derived.Deep.RegionWith
import Derived.Deep.DrawnRows
namespace Lw
open Go Go.RowKit
end Lw
namespace Go.Proofs.YtobffffcihlkbaaDoor
open Go Go.RowKit Lw
attribute [local go_sem ↓] Go.wp_at_zero Go.wp_at_succ
/-- Two slices that read as the words of two numbers. -/
def PairW (w : World) (N M : Nat) (e : Ending) (w' : World) : Prop :=
  ∃ A c A' c', e = .returned (.tuple #[.slice A (digs N).length c, .slice A' (digs M).length c']) ∧ (digs N).length ≤ c ∧ (digs M).length ≤ c' ∧ Rd w' w'.heap.size A (digs N) ∧ Rd w' w'.heap.size A' (digs M) ∧ Below w.heap.size w w'

set_option maxRecDepth 100000 in
set_option maxHeartbeats 1600000 in
theorem divide_any (A A' : Option Addr) (N M n m c c' B B' : Nat) (w : World) (h : Rd w B A (digs N)) (h' : Rd w B' A' (digs M)) (hB : B ≤ w.heap.size) (hB' : B' ≤ w.heap.size)
    (hn : (digs N).length = n) (hm : (digs M).length = m) (hl : n ≤ 8388608) (hl' : m ≤ 8388608) (_hc : n ≤ c) (hc' : m ≤ c') (hM : M ≠ 0)
    (HL : 2 < n → m ≠ 1 → M ≤ N → ∀ W : World, Below w.heap.size w W → Calls Tryd.prog 49 #[.slice A n c, .slice A' m c'] W (PairW W (N / M) (N % M))) :
    Calls Tryd.prog 21 #[.slice A n c, .slice A' m c'] w (PairW w (N / M) (N % M)) := by
  have vN := val_digs N
  have vM := val_digs M
  have hm1 : 1 ≤ m := by
    rcases Nat.eq_zero_or_pos m with h0 | h0
    · subst h0
      exact absurd (digs_eq_nil.1 (List.eq_nil_of_length_eq_zero hm)) hM
    · exact h0
  have Hn := Lib.hid hn
  have Hm := Lib.hid hm
  have VN := Lib.hid vN
  have VM := Lib.hid vM
  have HLL := Lib.hid HL
  clear hn hm vN vM HL
  rcases Nat.lt_or_ge N M with hlt | hge
  · have hcm := cmpN_neg hlt
    have HD : Hid (N / M = 0 ∧ N % M = N) := Lib.hid ⟨Nat.div_eq_of_lt hlt, Nat.mod_eq_of_lt hlt⟩
    go_enter Tryd.func21, Tryd.ntmps21
    go_wp2_with fail
    refine (compare_any A A' (digs N) (digs M) _ _ _ _ B B' _ h h' (trm_digs _) (trm_digs _) Hn.out Hm.out (by omega) (by omega)).mono ?_
    rintro e w1 ⟨rfl, q, rfl⟩
    rw [VN.out, VM.out]
    go_wp2_with fail
    refine (clone_any A (digs N) _ _ B _ (h.drewN q) (by simpa using hB) Hn.out (by omega)).mono ?_
    rintro e w2 ⟨A1, c1, rfl, hc1, hg1, hr1, hb1⟩
    go_wp2_with fail
    go_ret2
    rw [HD.out.1, HD.out.2]
    exact ⟨none, 0, A1, c1, by rw [Hn.out]; rfl, Nat.le_refl _, by rw [Hn.out]; exact hc1, Rd.nil_ _ _ _, hr1, below_next (below_drewN' _ _ _) hb1 (Nat.le_refl _)⟩
  · have hcm := cmpN_nonneg hge
    by_cases h2 : n ≤ 2
    · have hN2 : N ≤ 18446744073709551615 := by have := lt_of_digs_length (n := N) (k := 2) (by rw [Hn.out]; exact h2); have h3 : pw 2 = 18446744073709551616 := rfl; omega
      have HLo : Hid (lo (digs N) 2 = N) := Lib.hid (by rw [lo_all (by rw [Hn.out]; exact h2), VN.out])
      have HLo' : Hid (lo (digs M) 2 = M) := Lib.hid (by
        rw [lo_all, VM.out]
        exact digs_length_le (by have h3 : pw 2 = 18446744073709551616 := rfl; omega))
      have hq : IntKind.u64.wrap ((N : Int) / (M : Int)) = ((N / M : Nat) : Int) := by
        rw [← Int.natCast_ediv]
        exact IntWalk.u64_in _ (by have := Nat.div_le_self N M; generalize N / M = Q at *; omega)
      have hql : N / M ≤ 18446744073709551615 := Nat.le_trans (Nat.div_le_self N M) hN2
      have hrl : N % M ≤ 18446744073709551615 := Nat.le_trans (Nat.mod_le N M) hN2
      have hre : (N : Int).tmod (M : Int) = ((N % M : Nat) : Int) := by rw [Int.tmod_eq_emod_of_nonneg (by omega)]; exact (Int.natCast_emod N M).symm
      have hM1 : 1 ≤ M := by omega
      obtain ⟨Q, hQ⟩ : ∃ Q, Q = N / M := ⟨_, rfl⟩
      obtain ⟨R, hR⟩ : ∃ R, R = N % M := ⟨_, rfl⟩
      rw [← hQ] at hq hql ⊢
      rw [← hR] at hrl hre ⊢
      clear hQ hR
      go_enter Tryd.func21, Tryd.ntmps21
      go_wp2_with fail
      refine (compare_any A A' (digs N) (digs M) _ _ _ _ B B' _ h h' (trm_digs _) (trm_digs _) Hn.out Hm.out (by omega) (by omega)).mono ?_
      rintro e w1 ⟨rfl, q, rfl⟩
      rw [VN.out, VM.out]
      go_wp2_with fail
      refine (low_any A (digs N) _ c B _ (h.drewN q) Hn.out (by omega)).mono ?_
      rintro e w2 ⟨rfl, rfl⟩
      rw [HLo.out]
      go_wp2_with fail
      refine (low_any A' (digs M) _ c' B' _ (h'.drewN q) Hm.out (by omega)).mono ?_
      rintro e w2 ⟨rfl, rfl⟩
      rw [HLo'.out]
      go_wp2_with fail
      go_region_with (first
        | (go_at_call_of 46 (Value.int IntKind.u64 (Q : Int)); refine (split_any Q _ hql).mono ?_; rintro e w3 ⟨A3, c3, rfl, hc3, hr3, hb3⟩)
        | (go_at_call_of 46 (Value.int IntKind.u64 (R : Int)); refine (split_any R _ hrl).mono ?_; rintro e w4 ⟨A4, c4, rfl, hc4, hr4, hb4⟩))
      go_wp2_with fail
      go_ret2
      have hb5 : Below w.heap.size w w3 := by
        first
          | exact below_next (below_drewN' _ _ (q + 1)) hb3 (Nat.le_refl _)
          | exact below_next (below_drewN' _ _ q).drew hb3 (Nat.le_refl _)
      exact ⟨A3, c3, A4, c4, rfl, hc3, hc4, (hr3.next hb4 (Nat.le_refl _)).more hb4.size, hr4, below_next hb5 hb4 (Nat.le_refl _)⟩
    · by_cases h1 : m = 1
      · subst h1
        obtain ⟨b, off, rfl, hb, hcell, hlt⟩ := h'.at_ (k := 0) (by rw [Hm.out]; omega)
        have hx : Hid (dg (digs M) 0 = M) := Lib.hid (by
          have e1 := lo_all (l := digs M) (k := 1) (by rw [Hm.out]; omega)
          rw [lo_succ, lo_zero, pw_zero, VM.out] at e1
          omega)
        rw [hx.out] at hcell hlt
        rw [Nat.add_zero] at hcell
        go_enter Tryd.func21, Tryd.ntmps21
        go_wp2_with fail
        refine (compare_any A (some ⟨b, off, none⟩) (digs N) (digs M) _ _ _ _ B B' _ h h' (trm_digs _) (trm_digs _) Hn.out Hm.out (by omega) (by omega)).mono ?_
        rintro e w1 ⟨rfl, q, rfl⟩
        rw [VN.out, VM.out]
        go_wp2_with fail
        refine (clone_any A (digs N) _ _ B _ (h.drewN q) (by simpa using hB) Hn.out (by omega)).mono ?_
        rintro e w2 ⟨A1, c1, rfl, hc1, hg1, hr1, hb1⟩
        obtain ⟨g, rfl, hgl, hblk⟩ := hg1 (by omega)
        have hcell2 := (hb1.cell (p := ⟨b, off, none⟩) (by simp; omega)).trans hcell
        have hb2 := below_next (below_drewN' w.heap.size w q) hb1 (Nat.le_refl _)
        clear hb1
        go_wp2_with fail
        refine (divideWord_any g M (digs N) _ c1 _ hblk (wds_digs _) Hn.out (by omega) (by omega) (by omega) (by omega)).mono ?_
        rintro e w3 ⟨ds, rfl, hblk3, hw3, hl3, hv3, hg3, hs3⟩
        rw [VN.out] at hv3 ⊢
        have hm3 := Nat.mod_lt N (show 0 < M by omega)
        obtain ⟨R, hR⟩ : ∃ R, R = N % M := ⟨_, rfl⟩
        rw [← hR] at hm3 ⊢
        have HR := Lib.hid hR
        clear hR
        have hb4 := below_of_grown hb2 hg3 hb2.size hgl
        have hr3 := hblk3.rd hw3
        go_wp2_with fail
        refine (trim_any _ ds _ c1 _ _ hr3 hl3 (by omega) (by omega)).mono ?_
        rintro e w4 ⟨rfl, rfl⟩
        rw [hv3]
        go_wp2_with fail
        refine (split_any R _ (by omega)).mono ?_
        rintro e w5 ⟨A5, c5, rfl, hc5, hr5, hb5⟩
        go_wp2_with fail
        go_ret2
        rw [← HR.out]
        have hr4 := hr3.digs
        rw [hv3] at hr4
        have hc4 := digs_len_le hw3
        rw [hv3, hl3] at hc4
        exact ⟨_, _, A5, c5, rfl, Nat.le_trans hc4 hc1, hc5, (hr4.next hb5 (Nat.le_refl _)).more hb5.size, hr5, below_next hb4 hb5 (by have := hb2.size; omega)⟩
      · have hbq : ((m : Int) == 1) = false := by rw [beq_eq_false_iff_ne]; omega
        go_enter Tryd.func21, Tryd.ntmps21
        go_wp2_with fail
        refine (compare_any A A' (digs N) (digs M) _ _ _ _ B B' _ h h' (trm_digs _) (trm_digs _) Hn.out Hm.out (by omega) (by omega)).mono ?_
        rintro e w1 ⟨rfl, q, rfl⟩
        rw [VN.out, VM.out]
        go_wp2_with fail
        refine (HLL.out (by omega) h1 hge _ (below_drewN' _ _ _)).mono ?_
        rintro e w2 ⟨A1, c1, A2, c2, rfl, hc1, hc2, hr1, hr2, hb1⟩
        go_wp2_with fail
        go_ret2
        exact ⟨A1, c1, A2, c2, rfl, hc1, hc2, hr1, hr2, below_next (below_drewN' _ _ _) hb1 (Nat.le_refl _)⟩

/-- The long division does what it should. -/
def LongOK : Prop := ∀ (A A' : Option Addr) (N M n m c c' B B' : Nat) (w : World), Rd w B A (digs N) → Rd w B' A' (digs M) → B ≤ w.heap.size → B' ≤ w.heap.size → (digs N).length = n → (digs M).length = m → n ≤ 8388608 → m ≤ 8388608 → 2 ≤ m → M ≤ N →
  Calls Tryd.prog 49 #[.slice A n c, .slice A' m c'] w (PairW w (N / M) (N % M))

theorem divide_of (A A' : Option Addr) (N M n m c c' B B' : Nat) (w : World) (h : Rd w B A (digs N)) (h' : Rd w B' A' (digs M)) (hB : B ≤ w.heap.size) (hB' : B' ≤ w.heap.size)
    (hn : (digs N).length = n) (hm : (digs M).length = m) (hl : n ≤ 8388608) (hl' : m ≤ 8388608) (hc : n ≤ c) (hc' : m ≤ c') (hM : M ≠ 0) (HL : n ≤ 2 ∨ LongOK) :
    Calls Tryd.prog 21 #[.slice A n c, .slice A' m c'] w (PairW w (N / M) (N % M)) := by
  refine divide_any A A' N M n m c c' B B' w h h' hB hB' hn hm hl hl' hc hc' hM ?_
  intro h2 h1 hMN W hb
  rcases HL with HL | HL
  · omega
  · have hm0 : m ≠ 0 := by
      intro e; subst e
      exact hM (digs_eq_nil.1 (List.eq_nil_of_length_eq_zero hm))
    exact HL A A' N M n m c c' B B' W (h.below (hb.mono hB)) (h'.below (hb.mono hB')) (Nat.le_trans hB hb.size) (Nat.le_trans hB' hb.size) hn hm hl hl' (by omega) hMN
end Go.Proofs.YtobffffcihlkbaaDoor
