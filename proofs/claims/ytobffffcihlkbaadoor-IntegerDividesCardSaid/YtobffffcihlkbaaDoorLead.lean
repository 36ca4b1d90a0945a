/- Walk of integer.leading. -/
import Derived.Test.YtobffffcihlkbaaDoorLong
import Derived.Test.YtobffffcihlkbaaDoorKnuth
namespace Go.Proofs.YtobffffcihlkbaaDoor
open Go Go.RowKit Lw
set_option maxRecDepth 100000 in
set_option maxHeartbeats 3200000 in
theorem leading_any (A A' : Option Addr) (N M k m c c' B B' : Nat) (w : World) (h : Rd w B A (digs M)) (h' : Rd w B' A' (digs N)) (hn : (digs N).length = k + 3) (hm : (digs M).length = m) (hl : k ≤ 8388608) (hMN : M ≤ N) :
    Calls Tryd.prog 71 #[.slice A m c, .slice A' (k + 3 : Nat) c'] w fun e w' => ∃ q, e = .returned (.int .u64 ((M / (pw k * 2 ^ Lib.bitLen (dg (digs N) (k + 2))) : Nat) : Int)) ∧ w' = w.drewN q := by
  obtain ⟨b, off, rfl, hb, hcell, hlt⟩ := h'.at_ (k := k + 2) (by rw [hn]; omega)
  have hd0 : dg (digs N) (k + 2) ≠ 0 := by
    refine trm_digs N _ ?_
    rw [List.getLast?_eq_getElem?, hn, show k + 3 - 1 = k + 2 by omega, dg_get? (by omega)]
  obtain ⟨t1, t2, t3, t4⟩ := shift_top hd0 hlt
  have hmm : m ≤ k + 3 := by
    rcases Nat.lt_or_ge (k + 3) m with h1 | h1
    · have := lt_pw_of_length (wds_digs N) (trm_digs M) (by rw [hn, hm]; exact h1)
      rw [val_digs, val_digs] at this
      omega
    · exact h1
  have hMl : val (digs M) < pw (k + 3) := Nat.lt_of_lt_of_le (val_lt (wds_digs M)) (pw_le (by rw [hm]; exact hmm))
  have htm := top_mono (wds_digs N) (by rw [val_digs, val_digs]; exact hMN) hn hMl
  obtain ⟨d, hd⟩ : ∃ d, d = dg (digs N) (k + 2) := ⟨_, rfl⟩
  rw [← hd] at hcell hlt hd0 t1 t2 t3 t4 htm
  obtain ⟨s, hs⟩ : ∃ s, s = 32 - Lib.bitLen d := ⟨_, rfl⟩
  rw [← hs] at t3 t4
  have hs32 : s ≤ 31 := by omega
  have hbl : Lib.bitLen d = 32 - s := by omega
  have hk := fun W => (Tryd.bits_LeadingZeros32 (d : Int) W (by omega) (by omega))
  have hk2 : ∀ W, Calls Tryd.prog 66 #[.int .u32 (d : Int)] W fun e w' => e = .returned (.int .i64 (s : Int)) ∧ W = w' := fun W => (hk W).mono fun e w' h => ⟨by rw [h.1, Int.toNat_natCast, hs]; congr 2; omega, h.2.symm⟩
  have Hk := Lib.hid hk2
  have hval := lead_val (n := k) (wds_digs M) hMl (pow_parts (p := s) (by omega)) (Nat.pow_pos (by omega))
  rw [val_digs] at hval
  obtain ⟨w1, hw1⟩ : ∃ x, x = dg (digs M) (k + 2) := ⟨_, rfl⟩
  obtain ⟨w2, hw2⟩ : ∃ x, x = dg (digs M) (k + 1) := ⟨_, rfl⟩
  obtain ⟨w3, hw3⟩ : ∃ x, x = dg (digs M) k := ⟨_, rfl⟩
  have l1 : w1 < 4294967296 := by rw [hw1]; exact dg_lt (wds_digs M) _
  have l2 : w2 < 4294967296 := by rw [hw2]; exact dg_lt (wds_digs M) _
  have l3 : w3 < 4294967296 := by rw [hw3]; exact dg_lt (wds_digs M) _
  rw [← hw1, ← hw2, ← hw3] at hval
  rw [← hw1] at htm
  obtain ⟨P, hP⟩ : ∃ P, P = 2 ^ s := ⟨_, rfl⟩
  have htop : (w2 + 4294967296 * w1) * P ≤ 18446744073709551615 := by
    have hP0 : 0 < P := by rw [hP]; exact Nat.pow_pos (by omega)
    have f1 : w1 * P ≤ d * P := Nat.mul_le_mul_right _ htm
    have f2 : w1 * P + P ≤ 4294967296 := top_room (by rw [← hP] at t4; omega) ⟨2 ^ (32 - s), by rw [hP]; exact pow_parts (by omega)⟩
    have f3 : w2 * P ≤ 4294967295 * P := Nat.mul_le_mul_right _ (by omega)
    rw [Nat.add_mul, Nat.mul_assoc]
    omega
  have hor1 : bits .or .u64 ((w1 : Int) * 4294967296) (w2 : Int) = ((w2 + 4294967296 * w1 : Nat) : Int) := or_words l1 l2
  obtain ⟨top, ht⟩ : ∃ t, t = w2 + 4294967296 * w1 := ⟨_, rfl⟩
  rw [← ht] at hor1 htop hval
  have htl : top ≤ 18446744073709551615 := by omega
  have hb3 : w3 / 2 ^ (32 - s) < 2 ^ s := shr_lt l3 (by omega)
  have hmul : (top : Int) * 2 ^ s = ((top * P : Nat) : Int) := by rw [hP]; simp
  have hshl : IntKind.u64.wrap ((top : Int) * 2 ^ s) = ((top * P : Nat) : Int) := by rw [hmul]; exact IntWalk.u64_in _ (by omega)
  have hshr : (w3 : Int) / 2 ^ (32 - s) = ((w3 / 2 ^ (32 - s) : Nat) : Int) := by simp
  have hor2 : bits .or .u64 ((top * P : Nat) : Int) ((w3 / 2 ^ (32 - s) : Nat) : Int) = ((top * P + w3 / 2 ^ (32 - s) : Nat) : Int) := by
    have hp2 : 2 ^ s ≤ 2147483648 := by
      have : 2 ^ s ≤ 2 ^ 31 := Nat.pow_le_pow_right (by omega) hs32
      omega
    have := or_u64 (i := s) (a := top) (b := w3 / 2 ^ (32 - s)) hb3 (by rw [← hP]; omega) (by omega)
    rw [← hP] at this
    rw [← this, Int.natCast_mul]
  rw [← hP] at hval
  obtain ⟨x1, hx1⟩ : ∃ x, x = top * P := ⟨_, rfl⟩
  obtain ⟨x2, hx2⟩ : ∃ x, x = w3 / 2 ^ (32 - s) := ⟨_, rfl⟩
  rw [← hx1] at hor2 hshl hval htop
  rw [← hx2] at hor2 hshr hval
  obtain ⟨G, hG⟩ : ∃ G, G = M / (pw k * 2 ^ (32 - s)) := ⟨_, rfl⟩
  rw [← hG] at hval
  have HG := Lib.hid (show G = M / (pw k * 2 ^ Lib.bitLen (dg (digs N) (k + 2))) by rw [← hd, hbl]; exact hG)
  rw [hval] at hor2
  have Hn := Lib.hid hn
  have Hm := Lib.hid hm
  have Hw := Lib.hid (And.intro hw1 (And.intro hw2 hw3))
  have k1 : IntKind.i64.wrap ((k : Int) + 3 - 1) = (k : Int) + 2 := by rw [IntWalk.i64_in _ (by omega)]; omega
  have k2 : IntKind.i64.wrap ((k : Int) + 3 - 2) = (k : Int) + 1 := by rw [IntWalk.i64_in _ (by omega)]; omega
  have k3 : IntKind.i64.wrap ((k : Int) + 3 - 3) = (k : Int) := by rw [IntWalk.i64_in _ (by omega)]; omega
  have hA1 : ∀ W, Rd W B A (digs M) → Calls Tryd.prog 50 #[.slice A m c, .int .i64 ((k : Int) + 2)] W fun e w' => e = .returned (.int .u64 (w1 : Int)) ∧ W = w' := fun W hW => by
    have := word_any A (digs M) m c B ((k + 2 : Nat) : Int) W hW hm (by omega)
    rw [wd_nat, ← hw1] at this; exact this
  have hA2 : ∀ W, Rd W B A (digs M) → Calls Tryd.prog 50 #[.slice A m c, .int .i64 ((k : Int) + 1)] W fun e w' => e = .returned (.int .u64 (w2 : Int)) ∧ W = w' := fun W hW => by
    have := word_any A (digs M) m c B ((k + 1 : Nat) : Int) W hW hm (by omega)
    rw [wd_nat, ← hw2] at this; exact this
  have hA3 : ∀ W, Rd W B A (digs M) → Calls Tryd.prog 50 #[.slice A m c, .int .i64 (k : Int)] W fun e w' => e = .returned (.int .u64 (w3 : Int)) ∧ W = w' := fun W hW => by
    have := word_any A (digs M) m c B (k : Int) W hW hm (by omega)
    rw [wd_nat, ← hw3] at this; exact this
  have HA1 := Lib.hid hA1
  have HA2 := Lib.hid hA2
  have HA3 := Lib.hid hA3
  clear hA1 hA2 hA3
  go_enter Tryd.func71, Tryd.ntmps71
  clear hn hm hw1 hw2 hw3 hval hk hk2 hs hbl t1 t2 t3 t4 hd0 hP hmul ht hx1 hx2 hG hd htm hb3
  go_wp2_with fail
  refine (Hk.out _).mono ?_
  rintro e w4 ⟨rfl, rfl⟩
  go_wp2_with fail
  refine (HA1.out _ h).mono ?_
  rintro e w4 ⟨rfl, rfl⟩
  go_wp2_with fail
  refine (HA2.out _ h).mono ?_
  rintro e w4 ⟨rfl, rfl⟩
  go_wp2_with fail
  have HF := Lib.hid (And.intro hshl (And.intro hshr hor2))
  clear hshl hshr hor2
  clear hMl hmm hMN htl htop l1 l2 l3 hor1 hcell hlt hb h' k1 k2
  have k5 : IntKind.i64.wrap (k : Int) = (k : Int) := IntWalk.i64_in _ (by omega)
  have k4 : IntKind.i64.wrap (32 - (s : Int)) = ((32 - s : Nat) : Int) := by rw [IntWalk.i64_in _ (by omega)]; omega
  go_region_with (go_at_call 50; refine (HA3.out _ h.drew).mono ?_; rintro e w4 ⟨rfl, rfl⟩)
  all_goals go_wp2_with fail
  all_goals go_ret
  all_goals exact ⟨1, ret_int (by rw [HF.out.1, HF.out.2.1, HF.out.2.2, HG.out]), rfl⟩
end Go.Proofs.YtobffffcihlkbaaDoor
/-! Walk of integer.foresee: Lehmer's steps. -/
namespace Lw
open Go Go.RowKit
/-- The steps that foresee answers with. -/
def StepsOK (N M u0 u1 v0 v1 : Nat) (o : Bool) : Prop := v0 = 0 ∨ Sp N M u0 u1 v0 v1 o
theorem lead_lt {l : List Nat} {k : Nat} (hw : Wds l) (hl : l.length = k + 3) (hd0 : dg l (k + 2) ≠ 0) : val l / (pw k * 2 ^ Lib.bitLen (dg l (k + 2))) < 18446744073709551616 := by
  obtain ⟨b1, b2, b3, b4⟩ := bitLen_spec hd0 (show dg l (k + 2) < 18446744073709551616 by have := dg_lt hw (k + 2); omega)
  rw [Nat.div_lt_iff_lt_mul (Nat.mul_pos (pw_pos k) (Nat.pow_pos (by omega)))]
  have e : lo l (k + 3) = val l := lo_all (by omega)
  rw [show k + 3 = k + 2 + 1 from rfl, lo_succ] at e
  have h1 := lo_lt hw (k + 2)
  have h2 : pw (k + 2) * (dg l (k + 2) + 1) ≤ pw (k + 2) * 2 ^ Lib.bitLen (dg l (k + 2)) := Nat.mul_le_mul_left _ b3
  have p2 : pw (k + 2) = 18446744073709551616 * pw k := by rw [pw_succ, pw_succ, ← Nat.mul_assoc]
  have h3 : 18446744073709551616 * (pw k * 2 ^ Lib.bitLen (dg l (k + 2))) = pw (k + 2) * 2 ^ Lib.bitLen (dg l (k + 2)) := by rw [p2, Nat.mul_assoc]
  rw [Nat.mul_add, Nat.mul_one] at h2
  omega
theorem five_below (w : World) (o : Obj) (q : Nat) (a b c d e : Value) :
    Below w.heap.size w (((((((w.alloc o).drewN q).setCell ⟨w.heap.size, 0, none⟩ a).setCell ⟨w.heap.size, 1, none⟩ b).setCell ⟨w.heap.size, 2, none⟩ c).setCell ⟨w.heap.size, 3, none⟩ d).setCell ⟨w.heap.size, 4, none⟩ e) :=
  have hb := ((Below.refl w.heap.size w).alloc (Nat.le_refl _) o).trans (⟨rfl, rfl, rfl, Nat.le_refl _, fun _ _ => rfl⟩ : Below w.heap.size (w.alloc o) ((w.alloc o).drewN q))
  ((((hb.setCell (Nat.le_refl _) _).setCell (Nat.le_refl _) _).setCell (Nat.le_refl _) _).setCell (Nat.le_refl _) _).setCell (Nat.le_refl _) _
end Lw
namespace Go.Proofs.YtobffffcihlkbaaDoor
open Go Go.RowKit Lw
set_option maxRecDepth 100000 in
set_option maxHeartbeats 6400000 in
theorem foresee_any (A A' : Option Addr) (N M k m c c' B B' : Nat) (w : World) (h : Rd w B A (digs N)) (h' : Rd w B' A' (digs M)) (hB : B ≤ w.heap.size) (hB' : B' ≤ w.heap.size) (hn : (digs N).length = k + 3) (hm : (digs M).length = m) (hl : k ≤ 8388605) (hMN : M ≤ N) :
    Calls Tryd.prog 58 #[.slice A (k + 3 : Nat) c, .slice A' m c'] w fun e w' => ∃ (u0 u1 v0 v1 : Nat) (o : Bool), e = .returned (.agg #[.int .u64 u0, .int .u64 u1, .int .u64 v0, .int .u64 v1, .bool o]) ∧ Below w.heap.size w w' ∧ StepsOK N M u0 u1 v0 v1 o := by
  have hd0 : dg (digs N) (k + 2) ≠ 0 := by
    refine trm_digs N _ ?_
    rw [List.getLast?_eq_getElem?, hn, show k + 3 - 1 = k + 2 by omega, dg_get? (by omega)]
  have hx0 := lead_lt (wds_digs N) hn hd0
  rw [val_digs] at hx0
  obtain ⟨K, hK⟩ : ∃ K, K = pw k * 2 ^ Lib.bitLen (dg (digs N) (k + 2)) := ⟨_, rfl⟩
  have hK0 : 0 < K := by rw [hK]; exact Nat.mul_pos (pw_pos k) (Nat.pow_pos (by omega))
  have l1 := fun (W : World) (hW : Rd W B A (digs N)) => leading_any A A N N k (k + 3) c c B B W hW hW hn hn (by omega) (Nat.le_refl _)
  have l2 := fun (W : World) (hW : Rd W B A (digs N)) (hW' : Rd W B' A' (digs M)) => leading_any A' A N M k m c' c B' B W hW' hW hn hm (by omega) hMN
  rw [← hK] at l1 l2 hx0
  obtain ⟨x0, hx⟩ : ∃ x, x = N / K := ⟨_, rfl⟩
  obtain ⟨y0, hy⟩ : ∃ y, y = M / K := ⟨_, rfl⟩
  rw [← hx] at l1 hx0
  rw [← hy] at l2
  have hyx : y0 ≤ x0 := by rw [hx, hy]; exact Nat.div_le_div_right hMN
  have H1 := Lib.hid l1
  have H2 := Lib.hid l2
  have HK := Lib.hid (And.intro hK0 (And.intro hx hy))
  have HL := Lib.hid (Lm.start hyx)
  have hy0 : y0 < 18446744073709551616 := by omega
  clear hd0 hK hK0 l1 l2 hx hy hn hm hMN
  go_enter Tryd.func58, Tryd.ntmps58
  go_wp2_with fail
  refine (H1.out _ (h.alloc hB _)).mono ?_
  rintro e w1 ⟨q1, rfl, rfl⟩
  go_wp2_with fail
  refine (H2.out _ ((h.alloc hB _).drewN q1) ((h'.alloc hB' _).drewN q1)).mono ?_
  rintro e w1 ⟨q2, rfl, rfl⟩
  go_wp2_with fail
  go_loopw [5, 6, 7, 8, 9, 10, 11, 12, 13] (fun a b c0 c1 c2 d0 d1 d2 e wr => ∃ (X Y U0 U1 U2 V0 V1 V2 : Nat) (O : Bool) (q : Nat), X ≤ 18446744073709551615 ∧ a = .int .u64 X ∧ b = .int .u64 Y ∧ c0 = .int .u64 U0 ∧ c1 = .int .u64 U1 ∧ c2 = .int .u64 U2 ∧ d0 = .int .u64 V0 ∧ d1 = .int .u64 V1 ∧ d2 = .int .u64 V2 ∧ e = .bool O ∧
      Hid (Lm x0 y0 X Y U1 U2 V1 V2 O) ∧ Hid (StepsOK N M U0 U1 V0 V1 O) ∧ wr = (w.alloc (.cells #[.int .u64 0, .int .u64 0, .int .u64 0, .int .u64 0, .bool false] 74)).drewN q) (fun _ b _ _ _ _ _ _ _ _ => (intOf b).toNat)
  case atStart => exact ⟨x0, y0, 0, 1, 0, 0, 0, 1, true, q1 + q2, by omega, rfl, rfl, rfl, rfl, rfl, rfl, rfl, rfl, rfl, HL, Lib.hid (.inl rfl), rfl⟩
  case round =>
    obtain ⟨X, Y, U0, U1, U2, V0, V1, V2, O, q, hX, rfl, rfl, rfl, rfl, rfl, rfl, rfl, rfl, rfl, hlm, hst, rfl⟩ := hrel
    have hYX : Y ≤ X := hlm.out.le
    by_cases g1 : V2 ≤ Y
    · obtain ⟨b1, b2, b3, b4⟩ := hlm.out.small hx0 g1
      obtain ⟨f1, f2⟩ := hlm.out.fits g1
      have hY1 : 1 ≤ Y := Nat.le_trans hlm.out.v2p g1
      have hg1 : (V2 : Int) ≤ (Y : Int) := by omega
      obtain ⟨Z, hZ⟩ : ∃ Z, Z = X - Y := ⟨_, rfl⟩
      have hZ1 : (X : Int) - (Y : Int) = (Z : Int) := by omega
      by_cases g2 : V1 + V2 ≤ Z
      · have hg2 : (V1 : Int) + (V2 : Int) ≤ (Z : Int) := by omega
        have hstep := Lib.hid (hlm.out.step hx0 g1 (by rw [← hZ]; exact g2) HK.out.1 HK.out.2.1 HK.out.2.2)
        have hnext := Lib.hid (hlm.out.next g1)
        have hmod := Lib.hid (Nat.mod_lt X (show 0 < Y by omega))
        obtain ⟨Q, hQ⟩ : ∃ Q, Q = X / Y := ⟨_, rfl⟩
        obtain ⟨R, hR⟩ : ∃ R, R = X % Y := ⟨_, rfl⟩
        have hQl : Q ≤ 18446744073709551615 := by rw [hQ]; exact Nat.le_trans (Nat.div_le_self _ _) hX
        have hq1 : IntKind.u64.wrap ((X : Int) / (Y : Int)) = (Q : Int) := by
          rw [← Int.natCast_ediv, ← hQ]
          exact IntWalk.u64_in _ (by omega)
        have hr1 : (X : Int) % (Y : Int) = (R : Int) := by rw [hR]; exact (Int.natCast_emod X Y).symm
        have hr2 : (X : Int).tmod (Y : Int) = (R : Int) := by rw [Int.tmod_eq_emod_of_nonneg (by omega)]; exact hr1
        rw [← hQ] at f1 f2 hnext
        rw [← hR] at hnext hmod
        obtain ⟨QU, hQU⟩ : ∃ Z, Z = Q * U2 := ⟨_, rfl⟩
        obtain ⟨QV, hQV⟩ : ∃ Z, Z = Q * V2 := ⟨_, rfl⟩
        rw [← hQU, ← hQV] at f1 hnext
        rw [← hQV] at f2
        have hqu : (Q : Int) * (U2 : Int) = (QU : Int) := by rw [hQU]; simp
        have hqv : (Q : Int) * (V2 : Int) = (QV : Int) := by rw [hQV]; simp
        have hbq : ((Y : Int) == 0) = false := by rw [beq_eq_false_iff_ne]; omega
        have f3 : V1 + QV ≤ 18446744073709551615 := by omega
        have f4 : U1 + QU ≤ 18446744073709551615 := by omega
        have hYl : Y ≤ 18446744073709551615 := by omega
        clear hQ hR hQU hQV hZ f1 f2 hx0
        go_wp2_with fail
        go_quiet (fail)
        go_wp2_with fail
        go_roundw
        case rel =>
          exact ⟨Y, R, U1, U2, U1 + QU, V1, V2, V1 + QV, !O, q + nq, hYl, rfl, rfl, rfl, rfl, by go_num, rfl, rfl, by go_num, rfl, hnext, Lib.hid (.inr hstep.out), rfl⟩
        case measure =>
          have := hmod.out
          simp [intOf]; omega
      · have hg2 : decide ((V1 : Int) + (V2 : Int) ≤ (Z : Int)) = false := decide_eq_false (by omega)
        clear f1 f2 hx0 hZ
        go_wp2_with fail
        refine bodyPost_ret (v := .agg #[.int .u64 U0, .int .u64 U1, .int .u64 V0, .int .u64 V1, .bool O]) (by simp [results, Tryd.results58, go_sem]) rfl ?_
        exact ⟨U0, U1, V0, V1, O, rfl, five_below w _ _ _ _ _ _ _, hst.out⟩
    · have hg1 : decide ((V2 : Int) ≤ (Y : Int)) = false := decide_eq_false (by omega)
      go_wp2_with fail
      refine bodyPost_ret (v := .agg #[.int .u64 U0, .int .u64 U1, .int .u64 V0, .int .u64 V1, .bool O]) (by simp [results, Tryd.results58, go_sem]) rfl ?_
      exact ⟨U0, U1, V0, V1, O, rfl, five_below w _ _ _ _ _ _ _, hst.out⟩
end Go.Proofs.YtobffffcihlkbaaDoor
